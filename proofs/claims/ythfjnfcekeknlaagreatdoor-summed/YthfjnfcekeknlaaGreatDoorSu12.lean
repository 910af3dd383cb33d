import Derived.Test.YthfjnfcekeknlaaGreatDoorSu11
import Derived.Deep.LoopGhost
set_option maxHeartbeats 8000000
set_option maxRecDepth 100000
namespace Za
end Za
namespace Go.Proofs.YthfjnfcekeknlaaGreatDoor
open Go.RowKit
theorem Ks.alloc {l:Za.Wn} {w W:World} {e:Ending} (h:Ks l w e W) (X:Obj):Ks l w e (W.alloc X):=by
 obtain⟨so,sn,sc,wo,wc,h1,h2,h3⟩:=h
 exact⟨so,sn,sc,wo,wc,h1,ai h2 (fun g q=>Below.heap_alloc _ _ _ (h2.lt g q).2),h3.alloc h3.size X⟩
end Go.Proofs.YthfjnfcekeknlaaGreatDoor
namespace Za
def kj (V:List Nat) (h:Nat) (W:List Nat):List Nat:=W.filter fun n=> !decide (n∈V.drop h)
theorem Kt (V:List Nat) (h:Nat) (W:List Nat) (j:Nat) (hj:j<W.length):kj V h (W.take (j+1))=kj V h (W.take j)++(if W[j]∈V.drop h then []else [W[j]]):=by
 unfold kj
 rw[List.take_add_one,List.getElem?_eq_getElem hj,List.filter_append]
 congr 1
 simp only[Option.toList,List.filter_cons,List.filter_nil]
 by_cases q:W[j]∈V.drop h<;>simp[q]
end Za
namespace Go.Proofs.YthfjnfcekeknlaaGreatDoor
open Go.RowKit
theorem Fg (w:World) (base:Nat) (V:List Nat) (vo:Option Addr) (vc n h:Nat) (hv:w.ownsRow base 3 1 (.slice vo V.length vc) V.length (V.map aM)) (hl:V.length≤100000000):
 Calls Tryz.prog 210 #[.int .i64 (n:Int),.agg #[.slice vo V.length vc],.int .i64 (h:Int)] w fun e w'=>e= .returned (.bool (decide (n∈V.drop h)))∧Below w.heap.size w w':=by
 have HV:=af hv
 have hb0:=(Below.refl w.heap.size w).alloc (Nat.le_refl _) (.cells #[.slice vo V.length vc] 93)
 have aY:=af hb0
 clear hv hb0
 go_enter Tryz.func210,Tryz.ntmps210
 go_wp2_with fail
 go_loopg [12] V.length (fun k iv wr=>∃j:Nat,k+j=V.length∧iv= .int .i64 (j:Int)∧Below w.heap.size w wr∧n∉(V.take j).drop h)
 case atStart=>exact⟨0,by omega,rfl,ae aY,by simp⟩
 case round=>
  clear aY
  obtain⟨j,hkj,rfl,aO,hno⟩:=hrel
  by_cases hlt:j<V.length
  ·obtain⟨g,hg⟩:∃g,vo=some ⟨g,0,none⟩:=by
    rcases(ae HV).2 with⟨q,q2⟩ | ⟨g,cp,cur,q,_⟩
    ·omega
    ·simp only[Value.slice.injEq]at q
     exact⟨g,q.1⟩
   subst hg
   have gz0:=((ae HV).lt g rfl).2
   have f0:wr.cell? ⟨g,j,none⟩=some (.int .i64 (V[j]:Int)):=by
    rw[aO.cell (p:=⟨g,j,none⟩) gz0,(ae HV).cellAt j (by omega),List.getElem?_map,List.getElem?_eq_getElem hlt]
    rfl
   have gz:g<wr.heap.size:=Nat.lt_of_lt_of_le gz0 aO.size
   have i0:(0:Int)≤(j:Int):=by omega
   have i1:(j:Int)<(V.length:Int):=by omega
   have hst:V.take (j+1)=V.take j++[V[j]]:=by rw[List.take_add_one,List.getElem?_eq_getElem hlt];rfl
   have Ps:(V.take j).length=j:=by rw[List.length_take];omega
   by_cases hh:h≤j
   ·have t1:decide ((j:Int)≥(h:Int))=true:=by simp;omega
    have t1':decide ((h:Int)≤(j:Int))=true:=by simp;omega
    by_cases he:V[j]=n
    ·have o5:=af (show n∈V.drop h from by
      rw[List.mem_iff_getElem]
      exact⟨j - h,by rw[List.length_drop];omega,by rw[List.getElem_drop];rw[←he];congr 1;omega⟩)
     have bT:=af aO
     rw[he]at f0
     clear he hno hkj hst aO
     go_wp2_with fail
     go_ret
     exact⟨by rw[decide_eq_true (ae o5)];rfl,ae bT⟩
    ·have gQ:=af (show n∉(V.take (j+1)).drop h by
      rw[hst,List.drop_append_of_le_length (by omega)]
      simp only[List.mem_append,List.mem_singleton,not_or]
      exact⟨hno,fun q=>he q.symm⟩)
     have bh:=af hlt
     have aT:=af hkj
     have bT:=af aO
     have t2:(((V[j]:Nat):Int) == ((n:Nat):Int))=false:=by simp;omega
     generalize V[j]=m at*
     clear he hno hkj hst aO
     go_wp2_with fail
     go_roundg (gk - 1)
     case measure=>have:=ae aT;have:=ae bh;omega
     case rel=>exact⟨j+1,by have:=ae aT;have:=ae bh;omega,by go_num,ae bT,ae gQ⟩
   ·have t1:decide ((j:Int)≥(h:Int))=false:=by simp;omega
    have t1':decide ((h:Int)≤(j:Int))=false:=by simp;omega
    have gQ:=af (show n∉(V.take (j+1)).drop h by
     rw[List.drop_of_length_le (by rw[List.length_take];omega)]
     simp)
    have bh:=af hlt
    have aT:=af hkj
    have bT:=af aO
    generalize V[j]=m at*
    clear hno hkj hst aO
    go_wp2_with fail
    go_roundg (gk - 1)
    case measure=>have:=ae aT;have:=ae bh;omega
    case rel=>exact⟨j+1,by have:=ae aT;have:=ae bh;omega,by go_num,ae bT,ae gQ⟩
  ·have gQ:=af (show n∉V.drop h by rwa [List.take_of_length_le (by omega)]at hno)
   have bT:=af aO
   clear hno aO
   obtain rfl:j=V.length:=by omega
   go_wp2_with fail
   go_ret
   exact⟨by rw[decide_eq_false (ae gQ)];rfl,ae bT⟩
def Ws (w:World) (V:List Nat) (h:Nat) (W:List Nat) (C:Array Value) (k:Nat) (av iv:Value) (wr:World):Prop:=
 ∃j:Nat,k+j=W.length∧iv= .int .i64 (j:Int)∧wr.ownsRow (w.heap.size+1) 3 1 av (Za.kj V h (W.take j)).length ((Za.kj V h (W.take j)).map aM)∧Below w.heap.size w wr∧wr.heap[w.heap.size]?=some (.cells C 93 (0,0))
theorem yh (w:World) (b1 b2:Nat) (W V:List Nat) (wo vo:Option Addr) (wc vc h:Nat) (hw:w.ownsRow b1 3 1 (.slice wo W.length wc) W.length (W.map aM)) (hv:w.ownsRow b2 3 1 (.slice vo V.length vc) V.length (V.map aM)) (Ym:W.length≤100000000) (hlv:V.length≤100000000):
 Calls Tryz.prog 199 #[.slice wo W.length wc,.agg #[.slice vo V.length vc],.int .i64 (h:Int)] w fun e w'=>∃oo oc,e= .returned (.slice oo (Za.kj V h W).length oc)∧w'.ownsRow w.heap.size 3 1 (.slice oo (Za.kj V h W).length oc) (Za.kj V h W).length ((Za.kj V h W).map aM)∧Below w.heap.size w w':=by
 have HW:=af hw
 have HV:=af hv
 obtain⟨tj,hj,iM,iN,iO⟩:=info_parts infoIn
 clear hw hv
 go_enter Tryz.func199,Tryz.ntmps199
 go_wp2_with fail
 go_loopg [7,12] W.length (fun k av iv wr=>Ws w V h W #[.slice vo V.length vc] k av iv wr)
 case atStart=>exact⟨0,by omega,rfl,by simpa [Za.kj] using World.ownsRow_nil _ _ _ _,(Below.refl _ _).alloc (Nat.le_refl _) _,heap_alloc_new w _⟩
 case round=>
  obtain⟨j,hkj,rfl,how,aO,eE⟩:=hrel
  obtain⟨oo,oc,rfl⟩:=gG how
  have zx:=ag eE
  have x0:=ah eE 0
  simp only[List.getElem?_toArray,List.getElem?_cons_zero]at x0
  by_cases hlt:j<W.length
  ·obtain⟨g,hg⟩:∃g,wo=some ⟨g,0,none⟩:=by
    rcases(ae HW).2 with⟨q,q2⟩ | ⟨g,cp,cur,q,_⟩
    ·omega
    ·simp only[Value.slice.injEq]at q
     exact⟨g,q.1⟩
   subst hg
   have gz0:=((ae HW).lt g rfl).2
   have f0:wr.cell? ⟨g,j,none⟩=some (.int .i64 (W[j]:Int)):=by
    rw[aO.cell (p:=⟨g,j,none⟩) gz0,(ae HW).cellAt j (by omega),List.getElem?_map,List.getElem?_eq_getElem hlt]
    rfl
   have gz:g<wr.heap.size:=Nat.lt_of_lt_of_le gz0 aO.size
   have i0:(0:Int)≤(j:Int):=by omega
   have i1:(j:Int)<(W.length:Int):=by omega
   have fw:=af (Za.Kt V h W j hlt)
   have IB:=af (Fg wr b2 V vo vc W[j] h (ai (ae HV) (fun k q=>aO.block k ((ae HV).lt k q).2)) hlv)
   have HOW:=af how
   have bT:=af aO
   have oh:=af eE
   have aT:=af hkj
   have bh:=af hlt
   have hle:(Za.kj V h (W.take j)).length≤100000000:=by
    have q:=List.length_filter_le (fun n=> !decide (n∈V.drop h)) (W.take j)
    rw[List.length_take]at q
    unfold Za.kj
    omega
   generalize W[j]=v at*
   generalize Za.kj V h (W.take j)=Z at*
   clear how aO eE hkj hlt
   by_cases hm:v∈V.drop h
   ·rw[decide_eq_true hm]at IB
    rw[if_pos hm,List.append_nil]at fw
    clear hm
    go_wp2_with fail
    refine(ae IB).mono ?_
    rintro e w5 ⟨rfl,bF⟩
    have bO:=af bF
    clear bF
    go_wp2_with fail
    go_roundg (gk - 1)
    case measure=>have:=ae aT;have:=ae bh;omega
    case rel=>exact⟨j+1,by have:=ae aT;have:=ae bh;omega,by go_num,by rw[ae fw];exact ai (ae HOW) (fun k q=>(ae bO).block k ((ae HOW).lt k q).2),(ae bT).trans ((ae bO).mono (ae bT).size),((ae bO).block _ zx).trans (ae oh)⟩
   ·rw[decide_eq_false hm]at IB
    rw[if_neg hm]at fw
    clear hm
    go_wp2_with fail
    refine(ae IB).mono ?_
    rintro e w5 ⟨rfl,bF⟩
    have z5:=bF.size
    have lZ:=af (ai (ae HOW) (fun k q=>bF.block k ((ae HOW).lt k q).2))
    have vX:=af ((ae bT).trans (bF.mono (ae bT).size))
    have Bq:=af ((bF.block _ zx).trans (ae oh))
    have zx5:=ag (ae Bq)
    clear bF
    go_wp2_with (at_builtin;go_must (refine wpList_append_own_at _ rfl (.tmp 21) (.tmp 23) 25 rfl (w.heap.size+1) 3 tj (.int .i64 0) 1 8 Tryz.underlying25 hj iM iN iO rfl (by decide) _ Z.length (Z.map aM) rfl ((ae lZ).alloc _) ⟨w5.heap.size,0,none⟩ 1 1 [.int .i64 (v:Int)] rfl rfl (iZ _ _ _ _ rfl) (by simp[Value.oneCell']) (by unfold maxLen;omega) (by omega) (by simp;omega) ?_);go_must (intro v' w7 hown' hgrow _ _;have mD:=af hown';have mE:=af (((ae vX).alloc (ae vX).size _).grown hgrow (by simp;omega) (fun k q=>by have:=((ae lZ).lt k q).1;omega));have Pt:=af ((hgrow.block w.heap.size (by simp;omega) (fun q=>by have:=((ae lZ).lt _ q.symm).1;omega)).trans ((Below.heap_alloc _ _ _ zx5).trans (ae Bq)));clear hown' hgrow))
    go_roundg (gk - 1)
    case measure=>have:=ae aT;have:=ae bh;omega
    case rel=>exact⟨j+1,by have:=ae aT;have:=ae bh;omega,by go_num,by rw[ae fw];have:=ae mD;simpa [aM] using this,ae mE,ae Pt⟩
  ·obtain rfl:j=W.length:=by omega
   rw[List.take_length]at how
   have HOW:=af how
   have bT:=af aO
   clear how aO eE hkj
   go_wp2_with fail
   go_ret
   exact⟨oo,oc,by first | rfl | (rw[List.take_length];rfl),by have:=ct (ae HOW) (Nat.le_succ _);exact this,ae bT⟩
def TD (w:World) (V:List Nat) (k:Nat) (iv:Value) (wr:World):Prop:=
 ∃(j:Nat) (oo:Option Addr) (oc:Nat),k+j=V.length∧iv= .int .i64 (j:Int)∧wr.ownsRow (w.heap.size+2) 3 1 (.slice oo (V.take j).length oc) (V.take j).length ((V.take j).map aM)∧Below w.heap.size w wr∧wr.heap[w.heap.size]?=some (.cells #[.slice none 0 0] 93 (0,0))∧wr.heap[w.heap.size+1]?=some (.cells #[.slice oo (V.take j).length oc] 93 (0,0))
theorem Di (w:World) (base:Nat) (V:List Nat) (vo:Option Addr) (vc:Nat) (hv:w.ownsRow base 3 1 (.slice vo V.length vc) V.length (V.map aM)) (hlv:V.length≤100000000):
 Calls Tryz.prog 196 #[.slice vo V.length vc] w fun e w'=>∃oo oc,e= .returned (.agg #[.slice oo V.length oc])∧w'.ownsRow w.heap.size 3 1 (.slice oo V.length oc) V.length (V.map aM)∧Below w.heap.size w w':=by
 have HV:=af hv
 obtain⟨tj,hj,iM,iN,iO⟩:=info_parts infoIn
 have HST:=af (show TD w V V.length (.int .i64 0) ((w.alloc (.cells #[.slice none 0 0] 93)).alloc (.cells #[.slice none 0 0] 93))from ⟨0,none,0,by omega,rfl,by simpa using World.ownsRow_nil _ _ _ _,((Below.refl _ _).alloc (Nat.le_refl _) _).alloc (by simp) _,(Below.heap_alloc _ _ _ (by simp)).trans (heap_alloc_new w _),by have:=heap_alloc_new (w.alloc (.cells #[.slice none 0 0] 93)) (.cells #[.slice none 0 0] 93);rw[World.size_alloc]at this;simpa using this⟩)
 clear hv
 go_enter Tryz.func196,Tryz.ntmps196
 go_wp2_with fail
 go_loopg [8] V.length (fun k iv wr=>TD w V k iv wr)
 case atStart=>exact ae HST
 case round=>
  clear HST
  obtain⟨j,oo,oc,hkj,rfl,how,aO,hb0,hb1⟩:=hrel
  have z0:=ag hb0
  have z1:=ag hb1
  have x1:=ah hb1 0
  have xf:=ay hb1 0
  simp only[List.getElem?_toArray,List.getElem?_cons_zero]at x1
  by_cases hlt:j<V.length
  ·obtain⟨g,hg⟩:∃g,vo=some ⟨g,0,none⟩:=by
    rcases(ae HV).2 with⟨q,q2⟩ | ⟨g,cp,cur,q,_⟩
    ·omega
    ·simp only[Value.slice.injEq]at q
     exact⟨g,q.1⟩
   subst hg
   have gz0:=((ae HV).lt g rfl).2
   have f0:wr.cell? ⟨g,j,none⟩=some (.int .i64 (V[j]:Int)):=by
    rw[aO.cell (p:=⟨g,j,none⟩) gz0,(ae HV).cellAt j (by omega),List.getElem?_map,List.getElem?_eq_getElem hlt]
    rfl
   have gz:g<wr.heap.size:=Nat.lt_of_lt_of_le gz0 aO.size
   have i0:(0:Int)≤(j:Int):=by omega
   have i1:(j:Int)<(V.length:Int):=by omega
   have fw:=af (show V.take (j+1)=V.take j++[V[j]]by rw[List.take_add_one,List.getElem?_eq_getElem hlt];rfl)
   have HOW:=af how
   have bT:=af aO
   have aY:=af hb0
   have bD:=af hb1
   have aT:=af hkj
   have bh:=af hlt
   have hle:(V.take j).length≤100000000:=by rw[List.length_take];omega
   have sZ:=af (show some (w.heap.size+1)≠(Value.slice oo (V.take j).length oc).ownBlock from fun q=>by have:=(how.lt _ q.symm).1;omega)
   generalize V[j]=v at*
   generalize V.take j=Z at*
   clear how aO hb0 hb1 hkj hlt
   go_wp2_with (at_builtin;go_must (refine wpList_append_own_at _ rfl (.tmp 13) (.tmp 15) 25 rfl (w.heap.size+2) 3 tj (.int .i64 0) 1 8 Tryz.underlying25 hj iM iN iO rfl (by decide) _ Z.length (Z.map aM) rfl ((ae HOW).alloc _) ⟨wr.heap.size,0,none⟩ 1 1 [.int .i64 (v:Int)] rfl rfl (iZ _ _ _ _ rfl) (by simp[Value.oneCell']) (by unfold maxLen;omega) (by omega) (by simp;omega) ?_);go_must (intro v' w7 hown' hgrow _ _;obtain⟨g',cap',hv'⟩:=sY hown';subst hv';have mD:=af hown';have mE:=af (((ae bT).alloc (ae bT).size _).grown hgrow (by simp;omega) (fun k q=>by have:=((ae HOW).lt k q).1;omega));have Pt:=af ((hgrow.block w.heap.size (by simp;omega) (fun q=>by have:=((ae HOW).lt _ q.symm).1;omega)).trans ((Below.heap_alloc _ _ _ z0).trans (ae aY)));have Hp:=(hgrow.block (w.heap.size+1) (by simp;omega) (ae sZ)).trans ((Below.heap_alloc _ _ _ z1).trans (ae bD));have Wt:=af Hp;have k0:=ah Hp 0;have kf:=ay Hp 0;have zz7:=ag Hp;simp only[List.getElem?_toArray,List.getElem?_cons_zero]at k0;clear hown' hgrow Hp))
   go_roundg (gk - 1)
   case measure=>have:=ae aT;have:=ae bh;omega
   case rel=>
    refine⟨j+1,some ⟨g',0,none⟩,cap',by have:=ae aT;have:=ae bh;omega,by go_num,?_,(ae mE).setCell (Nat.le_succ _) _,(aJ _ _ _ _ (by omega)).trans (ae Pt),?_⟩
    ·rw[ae fw]
     have:=ai (ae mD) (w':=w7.setCell ⟨w.heap.size+1,0,none⟩ (.slice (some ⟨g',0,none⟩) (Z.length+1) cap')) (fun k q=>aJ _ _ _ _ (by have:=((ae mD).lt k q).1;omega))
     simpa [aM] using this
    ·rw[ae fw]
     have:=aA (ae Wt) 0 (.slice (some ⟨g',0,none⟩) (Z.length+1) cap')
     simpa using this
  ·obtain rfl:j=V.length:=by omega
   rw[List.take_length]at how x1
   have d0:=ah hb0
   have y0:=ay hb0
   have HOW:=af how
   have bT:=af aO
   clear how aO hb0 hb1 hkj
   go_wp2_with fail
   refine bodyPost_ret (v:= .agg #[.slice oo V.length oc]) (by simp[results,Tryz.results196,go_sem,d0]) rfl ?_
   exact⟨oo,oc,rfl,ai (ct (ae HOW) (by omega)) (fun k q=>aJ _ _ _ _ (by have:=((ae HOW).lt k q).1;omega)),(ae bT).setCell (Nat.le_refl _) _⟩
end Go.Proofs.YthfjnfcekeknlaaGreatDoor
