import Derived.Test.YthfjnfcekeknlaaGreatDoorSt03
import Derived.Test.YthfjnfcekeknlaaGreatDoorSt08
import Derived.Test.YthfjnfcekeknlaaGreatDoorSt09
import Derived.Deep.LoopGhost
set_option maxHeartbeats 8000000
set_option maxRecDepth 100000
namespace Go.Proofs.YthfjnfcekeknlaaGreatDoor
open Go.RowKit
def Kv (l:Za.Wn) (w:World) (e:Ending) (w':World):Prop:=
 ∃so sn sc wo wc,e= .returned (.agg #[.slice so sn sc,.slice wo l.wt.length wc,.bool l.no])∧w'.ownsRow w.heap.size 3 1 (.slice wo l.wt.length wc) l.wt.length (l.wt.map aI)∧Below w.heap.size w w'
theorem Ai (l:Za.Wn):(if l.no=true then 2 else if l.wt=[]then 1 else 3:Int)=(l.says:Int):=by
 unfold Za.Wn.says
 split
 ·rfl
 ·split<;>rfl
theorem pM {lb k:Nat} (h:k≠lb):¬fC lb none none k:=by
 rintro(e | ⟨p,e,_⟩ | ⟨p,e,_⟩)
 ·exact h e
 ·cases e
 ·cases e
theorem fW.up {u:World} {lb sb so:Nat} {cs:Array Value} {Ty:TypeId} {D:List Ng} {no:Option Addr} {nc:Nat} {fr:Nat→Nat} {T:Nat→Za.U} {P:Nat→Prop} (h:fW u lb sb so cs Ty D no nc fr T P) {lb':Nat} (hl:u.heap.size≤lb'):fW u lb' sb so cs Ty D no nc fr T P:=⟨h.st,h.ok,h.to,h.ar,hl⟩
theorem fW.on {u:World} {lb sb so:Nat} {cs:Array Value} {Ty:TypeId} {D:List Ng} {no:Option Addr} {nc:Nat} {fr:Nat→Nat} {T:Nat→Za.U} {P:Nat→Prop} (h:fW u lb sb so cs Ty D no nc fr T P) {w:World} (hb:Below u.heap.size u w):fW w w.heap.size sb so cs Ty D no nc fr T P:=⟨h.st.below hb,h.ok,h.to,h.ar.below hb,Nat.le_refl _⟩
theorem Bk (w:World) (lb:Nat) (W:List Nat) (no:Bool) (so:Option Addr) (sn sc:Nat) (wo:Option Addr) (wc:Nat) (h:w.heap[lb]?=some (.cells #[.slice so sn sc,.slice wo W.length wc,.bool no] 189 (0,0))):
 Calls Tryz.prog 110 #[.pointer (some ⟨lb,0,none⟩)] w fun e w'=>e= .returned (.int .i64 (if no=true then 2 else if W=[]then 1 else 3))∧w'=w:=by
 have s1:=ag h 1
 have s2:=ag h 2
 have sz:=af h
 simp only[List.getElem?_toArray,List.getElem?_cons_zero,List.getElem?_cons_succ]at s1 s2
 clear h
 cases no with
 | true=>
  go_enter Tryz.func110,Tryz.ntmps110
  go_wp2_with fail
  go_ret
  exact⟨rfl,rfl⟩
 | false=>
  cases W with
  | nil=>
   go_enter Tryz.func110,Tryz.ntmps110
   go_wp2_with fail
   go_ret
   exact⟨rfl,rfl⟩
  | cons x W=>
   have t1:decide (0<W.length+1)=true:=by simp
   have t2:decide ((0:Int)<(W.length:Int)+1)=true:=by simp
   go_enter Tryz.func110,Tryz.ntmps110
   go_wp2_with fail
   go_ret
   exact⟨by simp,rfl⟩
end Go.Proofs.YthfjnfcekeknlaaGreatDoor
namespace Za
end Za
namespace Go.Proofs.YthfjnfcekeknlaaGreatDoor
open Go.RowKit
theorem Kv.alloc {l:Za.Wn} {w W:World} {e:Ending} (h:Kv l w e W) (X:Obj):Kv l w e (W.alloc X):=by
 obtain⟨so,sn,sc,wo,wc,h1,h2,h3⟩:=h
 exact⟨so,sn,sc,wo,wc,h1,ah h2 (fun g q=>Below.heap_alloc _ _ _ (h2.lt g q).2),h3.alloc h3.size X⟩
end Go.Proofs.YthfjnfcekeknlaaGreatDoor
namespace Za
def jK (V:List Nat) (h:Nat) (W:List Nat):List Nat:=W.filter fun n=> !decide (n∈V.drop h)
theorem Kw (V:List Nat) (h:Nat) (W:List Nat) (j:Nat) (hj:j<W.length):jK V h (W.take (j+1))=jK V h (W.take j)++(if W[j]∈V.drop h then []else [W[j]]):=by
 unfold jK
 rw[List.take_add_one,List.getElem?_eq_getElem hj,List.filter_append]
 congr 1
 simp only[Option.toList,List.filter_cons,List.filter_nil]
 by_cases q:W[j]∈V.drop h<;>simp[q]
end Za
namespace Go.Proofs.YthfjnfcekeknlaaGreatDoor
open Go.RowKit
theorem E7 (w:World) (base:Nat) (V:List Nat) (vo:Option Addr) (vc n h:Nat) (hv:w.ownsRow base 3 1 (.slice vo V.length vc) V.length (V.map aI)) (hl:V.length≤100000000):
 Calls Tryz.prog 210 #[.int .i64 (n:Int),.agg #[.slice vo V.length vc],.int .i64 (h:Int)] w fun e w'=>e= .returned (.bool (decide (n∈V.drop h)))∧Below w.heap.size w w':=by
 have HV:=hide hv
 have hb0:=(Below.refl w.heap.size w).alloc (Nat.le_refl _) (.cells #[.slice vo V.length vc] 93)
 have aT:=hide hb0
 clear hv hb0
 go_enter Tryz.func210,Tryz.ntmps210
 go_wp2_with fail
 go_loopg [12] V.length (fun k iv wr=>∃j:Nat,k+j=V.length∧iv= .int .i64 (j:Int)∧Below w.heap.size w wr∧n∉(V.take j).drop h)
 case atStart=>exact⟨0,by omega,rfl,ae aT,by simp⟩
 case round=>
  clear aT
  obtain⟨j,hkj,rfl,aM,hno⟩:=hrel
  by_cases hlt:j<V.length
  ·obtain⟨g,hg⟩:∃g,vo=some ⟨g,0,none⟩:=by
    rcases(ae HV).2 with⟨q,q2⟩ | ⟨g,cp,cur,q,_⟩
    ·omega
    ·simp only[Value.slice.injEq]at q
     exact⟨g,q.1⟩
   subst hg
   have gz0:=((ae HV).lt g rfl).2
   have f0:wr.cell? ⟨g,j,none⟩=some (.int .i64 (V[j]:Int)):=by
    rw[aM.cell (p:=⟨g,j,none⟩) gz0,(ae HV).cellAt j (by omega),List.getElem?_map,List.getElem?_eq_getElem hlt]
    rfl
   have gz:g<wr.heap.size:=Nat.lt_of_lt_of_le gz0 aM.size
   have i0:(0:Int)≤(j:Int):=by omega
   have i1:(j:Int)<(V.length:Int):=by omega
   have hst:V.take (j+1)=V.take j++[V[j]]:=by rw[List.take_add_one,List.getElem?_eq_getElem hlt];rfl
   have PI:(V.take j).length=j:=by rw[List.length_take];omega
   by_cases hh:h≤j
   ·have t1:decide ((j:Int)≥(h:Int))=true:=by simp;omega
    have t1':decide ((h:Int)≤(j:Int))=true:=by simp;omega
    by_cases he:V[j]=n
    ·have oP:=hide (show n∈V.drop h from by
      rw[List.mem_iff_getElem]
      exact⟨j - h,by rw[List.length_drop];omega,by rw[List.getElem_drop];rw[←he];congr 1;omega⟩)
     have bJ:=hide aM
     rw[he]at f0
     clear he hno hkj hst aM
     go_wp2_with fail
     go_ret
     exact⟨by rw[decide_eq_true (ae oP)];rfl,ae bJ⟩
    ·have gF:=hide (show n∉(V.take (j+1)).drop h by
      rw[hst,List.drop_append_of_le_length (by omega)]
      simp only[List.mem_append,List.mem_singleton,not_or]
      exact⟨hno,fun q=>he q.symm⟩)
     have aY:=hide hlt
     have aP:=hide hkj
     have bJ:=hide aM
     have t2:(((V[j]:Nat):Int) == ((n:Nat):Int))=false:=by simp;omega
     generalize V[j]=m at*
     clear he hno hkj hst aM
     go_wp2_with fail
     go_roundg (gk - 1)
     case measure=>have:=ae aP;have:=ae aY;omega
     case rel=>exact⟨j+1,by have:=ae aP;have:=ae aY;omega,by go_num,ae bJ,ae gF⟩
   ·have t1:decide ((j:Int)≥(h:Int))=false:=by simp;omega
    have t1':decide ((h:Int)≤(j:Int))=false:=by simp;omega
    have gF:=hide (show n∉(V.take (j+1)).drop h by
     rw[List.drop_of_length_le (by rw[List.length_take];omega)]
     simp)
    have aY:=hide hlt
    have aP:=hide hkj
    have bJ:=hide aM
    generalize V[j]=m at*
    clear hno hkj hst aM
    go_wp2_with fail
    go_roundg (gk - 1)
    case measure=>have:=ae aP;have:=ae aY;omega
    case rel=>exact⟨j+1,by have:=ae aP;have:=ae aY;omega,by go_num,ae bJ,ae gF⟩
  ·have gF:=hide (show n∉V.drop h by rwa [List.take_of_length_le (by omega)]at hno)
   have bJ:=hide aM
   clear hno aM
   obtain rfl:j=V.length:=by omega
   go_wp2_with fail
   go_ret
   exact⟨by rw[decide_eq_false (ae gF)];rfl,ae bJ⟩
def Wy (w:World) (V:List Nat) (h:Nat) (W:List Nat) (C:Array Value) (k:Nat) (av iv:Value) (wr:World):Prop:=
 ∃j:Nat,k+j=W.length∧iv= .int .i64 (j:Int)∧wr.ownsRow (w.heap.size+1) 3 1 av (Za.jK V h (W.take j)).length ((Za.jK V h (W.take j)).map aI)∧Below w.heap.size w wr∧wr.heap[w.heap.size]?=some (.cells C 93 (0,0))
theorem x9 (w:World) (b1 b2:Nat) (W V:List Nat) (wo vo:Option Addr) (wc vc h:Nat) (hw:w.ownsRow b1 3 1 (.slice wo W.length wc) W.length (W.map aI)) (hv:w.ownsRow b2 3 1 (.slice vo V.length vc) V.length (V.map aI)) (Yo:W.length≤100000000) (hlv:V.length≤100000000):
 Calls Tryz.prog 199 #[.slice wo W.length wc,.agg #[.slice vo V.length vc],.int .i64 (h:Int)] w fun e w'=>∃oo oc,e= .returned (.slice oo (Za.jK V h W).length oc)∧w'.ownsRow w.heap.size 3 1 (.slice oo (Za.jK V h W).length oc) (Za.jK V h W).length ((Za.jK V h W).map aI)∧Below w.heap.size w w':=by
 have HW:=hide hw
 have HV:=hide hv
 obtain⟨tj,hj,hy0,hy1,hy2⟩:=info_parts infoIn
 clear hw hv
 go_enter Tryz.func199,Tryz.ntmps199
 go_wp2_with fail
 go_loopg [7,12] W.length (fun k av iv wr=>Wy w V h W #[.slice vo V.length vc] k av iv wr)
 case atStart=>exact⟨0,by omega,rfl,by simpa [Za.jK] using World.ownsRow_nil _ _ _ _,(Below.refl _ _).alloc (Nat.le_refl _) _,heap_alloc_new w _⟩
 case round=>
  obtain⟨j,hkj,rfl,how,aM,dC⟩:=hrel
  obtain⟨oo,oc,rfl⟩:=eP how
  have zx:=af dC
  have x0:=ag dC 0
  simp only[List.getElem?_toArray,List.getElem?_cons_zero]at x0
  by_cases hlt:j<W.length
  ·obtain⟨g,hg⟩:∃g,wo=some ⟨g,0,none⟩:=by
    rcases(ae HW).2 with⟨q,q2⟩ | ⟨g,cp,cur,q,_⟩
    ·omega
    ·simp only[Value.slice.injEq]at q
     exact⟨g,q.1⟩
   subst hg
   have gz0:=((ae HW).lt g rfl).2
   have f0:wr.cell? ⟨g,j,none⟩=some (.int .i64 (W[j]:Int)):=by
    rw[aM.cell (p:=⟨g,j,none⟩) gz0,(ae HW).cellAt j (by omega),List.getElem?_map,List.getElem?_eq_getElem hlt]
    rfl
   have gz:g<wr.heap.size:=Nat.lt_of_lt_of_le gz0 aM.size
   have i0:(0:Int)≤(j:Int):=by omega
   have i1:(j:Int)<(W.length:Int):=by omega
   have fh:=hide (Za.Kw V h W j hlt)
   have IB:=hide (E7 wr b2 V vo vc W[j] h (ah (ae HV) (fun k q=>aM.block k ((ae HV).lt k q).2)) hlv)
   have HOW:=hide how
   have bJ:=hide aM
   have nQ:=hide dC
   have aP:=hide hkj
   have aY:=hide hlt
   have hle:(Za.jK V h (W.take j)).length≤100000000:=by
    have q:=List.length_filter_le (fun n=> !decide (n∈V.drop h)) (W.take j)
    rw[List.length_take]at q
    unfold Za.jK
    omega
   generalize W[j]=v at*
   generalize Za.jK V h (W.take j)=Z at*
   clear how aM dC hkj hlt
   by_cases hm:v∈V.drop h
   ·rw[decide_eq_true hm]at IB
    rw[if_pos hm,List.append_nil]at fh
    clear hm
    go_wp2_with fail
    refine(ae IB).mono ?_
    rintro e w5 ⟨rfl,bu⟩
    have bS:=hide bu
    clear bu
    go_wp2_with fail
    go_roundg (gk - 1)
    case measure=>have:=ae aP;have:=ae aY;omega
    case rel=>exact⟨j+1,by have:=ae aP;have:=ae aY;omega,by go_num,by rw[ae fh];exact ah (ae HOW) (fun k q=>(ae bS).block k ((ae HOW).lt k q).2),(ae bJ).trans ((ae bS).mono (ae bJ).size),((ae bS).block _ zx).trans (ae nQ)⟩
   ·rw[decide_eq_false hm]at IB
    rw[if_neg hm]at fh
    clear hm
    go_wp2_with fail
    refine(ae IB).mono ?_
    rintro e w5 ⟨rfl,bu⟩
    have z5:=bu.size
    have lM:=hide (ah (ae HOW) (fun k q=>bu.block k ((ae HOW).lt k q).2))
    have vC:=hide ((ae bJ).trans (bu.mono (ae bJ).size))
    have Bi:=hide ((bu.block _ zx).trans (ae nQ))
    have zx5:=af (ae Bi)
    clear bu
    go_wp2_with (at_builtin;go_must (refine wpList_append_own_at _ rfl (.tmp 21) (.tmp 23) 25 rfl (w.heap.size+1) 3 tj (.int .i64 0) 1 8 Tryz.underlying25 hj hy0 hy1 hy2 rfl (by decide) _ Z.length (Z.map aI) rfl ((ae lM).alloc _) ⟨w5.heap.size,0,none⟩ 1 1 [.int .i64 (v:Int)] rfl rfl (ie _ _ _ _ rfl) (by simp[Value.oneCell']) (by unfold maxLen;omega) (by omega) (by simp;omega) ?_);go_must (intro v' w7 hown' hgrow _ _;have mj:=hide hown';have ml:=hide (((ae vC).alloc (ae vC).size _).grown hgrow (by simp;omega) (fun k q=>by have:=((ae lM).lt k q).1;omega));have PJ:=hide ((hgrow.block w.heap.size (by simp;omega) (fun q=>by have:=((ae lM).lt _ q.symm).1;omega)).trans ((Below.heap_alloc _ _ _ zx5).trans (ae Bi)));clear hown' hgrow))
    go_roundg (gk - 1)
    case measure=>have:=ae aP;have:=ae aY;omega
    case rel=>exact⟨j+1,by have:=ae aP;have:=ae aY;omega,by go_num,by rw[ae fh];have:=ae mj;simpa [aI] using this,ae ml,ae PJ⟩
  ·obtain rfl:j=W.length:=by omega
   rw[List.take_length]at how
   have HOW:=hide how
   have bJ:=hide aM
   clear how aM dC hkj
   go_wp2_with fail
   go_ret
   exact⟨oo,oc,by first | rfl | (rw[List.take_length];rfl),by have:=bZ (ae HOW) (Nat.le_succ _);exact this,ae bJ⟩
def TN (w:World) (V:List Nat) (k:Nat) (iv:Value) (wr:World):Prop:=
 ∃(j:Nat) (oo:Option Addr) (oc:Nat),k+j=V.length∧iv= .int .i64 (j:Int)∧wr.ownsRow (w.heap.size+2) 3 1 (.slice oo (V.take j).length oc) (V.take j).length ((V.take j).map aI)∧Below w.heap.size w wr∧wr.heap[w.heap.size]?=some (.cells #[.slice none 0 0] 93 (0,0))∧wr.heap[w.heap.size+1]?=some (.cells #[.slice oo (V.take j).length oc] 93 (0,0))
theorem Dq (w:World) (base:Nat) (V:List Nat) (vo:Option Addr) (vc:Nat) (hv:w.ownsRow base 3 1 (.slice vo V.length vc) V.length (V.map aI)) (hlv:V.length≤100000000):
 Calls Tryz.prog 196 #[.slice vo V.length vc] w fun e w'=>∃oo oc,e= .returned (.agg #[.slice oo V.length oc])∧w'.ownsRow w.heap.size 3 1 (.slice oo V.length oc) V.length (V.map aI)∧Below w.heap.size w w':=by
 have HV:=hide hv
 obtain⟨tj,hj,hy0,hy1,hy2⟩:=info_parts infoIn
 have HST:=hide (show TN w V V.length (.int .i64 0) ((w.alloc (.cells #[.slice none 0 0] 93)).alloc (.cells #[.slice none 0 0] 93))from ⟨0,none,0,by omega,rfl,by simpa using World.ownsRow_nil _ _ _ _,((Below.refl _ _).alloc (Nat.le_refl _) _).alloc (by simp) _,(Below.heap_alloc _ _ _ (by simp)).trans (heap_alloc_new w _),by have:=heap_alloc_new (w.alloc (.cells #[.slice none 0 0] 93)) (.cells #[.slice none 0 0] 93);rw[World.size_alloc]at this;simpa using this⟩)
 clear hv
 go_enter Tryz.func196,Tryz.ntmps196
 go_wp2_with fail
 go_loopg [8] V.length (fun k iv wr=>TN w V k iv wr)
 case atStart=>exact ae HST
 case round=>
  clear HST
  obtain⟨j,oo,oc,hkj,rfl,how,aM,hb0,hb1⟩:=hrel
  have z0:=af hb0
  have z1:=af hb1
  have x1:=ag hb1 0
  have xf:=aq hb1 0
  simp only[List.getElem?_toArray,List.getElem?_cons_zero]at x1
  by_cases hlt:j<V.length
  ·obtain⟨g,hg⟩:∃g,vo=some ⟨g,0,none⟩:=by
    rcases(ae HV).2 with⟨q,q2⟩ | ⟨g,cp,cur,q,_⟩
    ·omega
    ·simp only[Value.slice.injEq]at q
     exact⟨g,q.1⟩
   subst hg
   have gz0:=((ae HV).lt g rfl).2
   have f0:wr.cell? ⟨g,j,none⟩=some (.int .i64 (V[j]:Int)):=by
    rw[aM.cell (p:=⟨g,j,none⟩) gz0,(ae HV).cellAt j (by omega),List.getElem?_map,List.getElem?_eq_getElem hlt]
    rfl
   have gz:g<wr.heap.size:=Nat.lt_of_lt_of_le gz0 aM.size
   have i0:(0:Int)≤(j:Int):=by omega
   have i1:(j:Int)<(V.length:Int):=by omega
   have fh:=hide (show V.take (j+1)=V.take j++[V[j]]by rw[List.take_add_one,List.getElem?_eq_getElem hlt];rfl)
   have HOW:=hide how
   have bJ:=hide aM
   have aT:=hide hb0
   have aZ:=hide hb1
   have aP:=hide hkj
   have aY:=hide hlt
   have hle:(V.take j).length≤100000000:=by rw[List.length_take];omega
   have sF:=hide (show some (w.heap.size+1)≠(Value.slice oo (V.take j).length oc).ownBlock from fun q=>by have:=(how.lt _ q.symm).1;omega)
   generalize V[j]=v at*
   generalize V.take j=Z at*
   clear how aM hb0 hb1 hkj hlt
   go_wp2_with (at_builtin;go_must (refine wpList_append_own_at _ rfl (.tmp 13) (.tmp 15) 25 rfl (w.heap.size+2) 3 tj (.int .i64 0) 1 8 Tryz.underlying25 hj hy0 hy1 hy2 rfl (by decide) _ Z.length (Z.map aI) rfl ((ae HOW).alloc _) ⟨wr.heap.size,0,none⟩ 1 1 [.int .i64 (v:Int)] rfl rfl (ie _ _ _ _ rfl) (by simp[Value.oneCell']) (by unfold maxLen;omega) (by omega) (by simp;omega) ?_);go_must (intro v' w7 hown' hgrow _ _;obtain⟨g',cap',hv'⟩:=su hown';subst hv';have mj:=hide hown';have ml:=hide (((ae bJ).alloc (ae bJ).size _).grown hgrow (by simp;omega) (fun k q=>by have:=((ae HOW).lt k q).1;omega));have PJ:=hide ((hgrow.block w.heap.size (by simp;omega) (fun q=>by have:=((ae HOW).lt _ q.symm).1;omega)).trans ((Below.heap_alloc _ _ _ z0).trans (ae aT)));have Hp:=(hgrow.block (w.heap.size+1) (by simp;omega) (ae sF)).trans ((Below.heap_alloc _ _ _ z1).trans (ae aZ));have Wz:=hide Hp;have k0:=ag Hp 0;have kf:=aq Hp 0;have zz7:=af Hp;simp only[List.getElem?_toArray,List.getElem?_cons_zero]at k0;clear hown' hgrow Hp))
   go_roundg (gk - 1)
   case measure=>have:=ae aP;have:=ae aY;omega
   case rel=>
    refine⟨j+1,some ⟨g',0,none⟩,cap',by have:=ae aP;have:=ae aY;omega,by go_num,?_,(ae ml).setCell (Nat.le_succ _) _,(aF _ _ _ _ (by omega)).trans (ae PJ),?_⟩
    ·rw[ae fh]
     have:=ah (ae mj) (w':=w7.setCell ⟨w.heap.size+1,0,none⟩ (.slice (some ⟨g',0,none⟩) (Z.length+1) cap')) (fun k q=>aF _ _ _ _ (by have:=((ae mj).lt k q).1;omega))
     simpa [aI] using this
    ·rw[ae fh]
     have:=au (ae Wz) 0 (.slice (some ⟨g',0,none⟩) (Z.length+1) cap')
     simpa using this
  ·obtain rfl:j=V.length:=by omega
   rw[List.take_length]at how x1
   have d0:=ag hb0
   have y0:=aq hb0
   have HOW:=hide how
   have bJ:=hide aM
   clear how aM hb0 hb1 hkj
   go_wp2_with fail
   refine bodyPost_ret (v:= .agg #[.slice oo V.length oc]) (by simp[results,Tryz.results196,go_sem,d0]) rfl ?_
   exact⟨oo,oc,rfl,ah (bZ (ae HOW) (by omega)) (fun k q=>aF _ _ _ _ (by have:=((ae HOW).lt k q).1;omega)),(ae bJ).setCell (Nat.le_refl _) _⟩
end Go.Proofs.YthfjnfcekeknlaaGreatDoor
