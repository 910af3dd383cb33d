import Derived.Test.YthfjnfcekeknlaaGreatDoorMe34
import Derived.Test.YthfjnfcekeknlaaGreatDoorMe38
import Derived.Test.YthfjnfcekeknlaaGreatDoorCards
import Derived.Test.YthfjnfcekeknlaaGreatDoorTie
import Derived.WalkKit
import Derived.ProofKit
import Derived.OpenShut
import Derived.Carry
import Derived.Deep.DeepHandedRow
import Derived.Deep.Slices
import Derived.Lib.LaidTab
import Derived.Lib.SmallJoins
set_option maxHeartbeats 8000000
set_option maxRecDepth 100000
namespace Go.Proofs.YthfjnfcekeknlaaGreatDoor
open Go.ChangeShapes Go.WideShapes Go.ChangeAt Go.RowKit
theorem lawOwn:ownKnob Tryz.prog.godebug=Option.none:=by kernel_rfl
theorem lawLaid:laidOutB Tryz.prog=true:=by kernel_rfl
theorem gSigns:Tryz.prog.globalNamed "parley/scan.longSigns"=some 0:=by kernel_rfl
theorem gSignsType:(Tryz.prog.globals[0]?).map (·.type)=some 238:=by kernel_rfl
theorem cellsSigns:Tryz.prog.cellsOf 238=5:=by kernel_rfl
theorem cellsStr:Tryz.prog.cellsOf 9=1:=by kernel_rfl
theorem cellsInt:Tryz.prog.cellsOf 3=1:=by kernel_rfl
theorem AK {H:Type} {enc:TypeId×Value→H} {P:Program} {w:World} {base:Nat} {sp:Nat→Bool} {held:Bool} {fuel:Nat} {t e:TypeId} {n:Nat} {cs:List Value} {zs:List (List UInt8)} {p:List MemPlace}
 (ht:P.underlying t=some (.array n e)) (he:P.underlying e=some .string) (hce:P.cellsOf e=1) (EC:P.cellsOf t=n)
 (h:DataW.trod enc P w base sp held fuel t cs=some (.agg (zs.map fun z=> .lit (.string z)),p)):cs=zs.map fun z=>Value.string ⟨z.toArray⟩:=by
 cases fuel with
 | zero=>simp[DataW.trod]at h
 | succ fuel=>
  simp only[DataW.trod,ht,hce,EC,Nat.mul_one]at h
  split at h
  ·rename_i hl
   obtain⟨xs,hm,hx⟩:=Option.map_eq_some_iff.1 h
   have Vu:xs.map (·.1)=zs.map fun z=>(DataW.lit (.string z):DataW H):=by
    have:=congrArg Prod.fst hx
    simpa using this
   have oh:xs.length=n:=by simpa using Lib.mapM_length hm
   have hzl:zs.length=n:=by
    have:=congrArg List.length Vu
    simp at this
    omega
   apply List.ext_getElem?
   intro i
   by_cases hi:i<n
   ·obtain⟨b,hb,hf⟩:=Lib.mapM_at hm i i (by simp[hi])
    obtain⟨z,hc,rfl,_⟩:=DataW.trod_string he hf
    have h1:cs[i]?=some (.string z):=by
     have:=congrArg (·[0]?) hc
     simpa [List.getElem?_take,List.getElem?_drop] using this
    have h2:(xs.map (·.1))[i]?=some (DataW.lit (.string z.data.toList):DataW H):=by simp[hb]
    rw[Vu]at h2
    simp only[List.getElem?_map,Option.map_eq_some_iff,DataW.lit.injEq,Lit.string.injEq]at h2
    obtain⟨z',hz',hzz⟩:=h2
    rw[h1,List.getElem?_map,hz',hzz]
    rfl
   ·rw[List.getElem?_eq_none (by omega),List.getElem?_eq_none (by simp;omega)]
  ·cases h
theorem Dv {W:World} (h:laidMetH Tryz.prog Rows.appendedRow.laid W):dN W∧0<W.heap.size:=by
 have h':laidMet Tryz.prog Rows.appendedRow.laid W:=h
 obtain⟨ps,⟨_,_,_,_,_,_,_,_,_,_,⟨_,_,_,_,_,_,_,_,_,_,⟨_,_,_,_,_,_,_,_,_,_,⟨g,t,cs,fuel,p,q,hg,ht,rB,hd,_,_⟩,_⟩,_⟩,_⟩,_⟩:=h'
 obtain rfl:=Option.some.inj (gSigns.symm.trans hg)
 obtain rfl:=Option.some.inj (gSignsType.symm.trans ht)
 have e:=AK (zs:=[[58,45],[58,61],[61,61],[92,61],[61,60]]) Tryz.underlying238 Tryz.underlying9 cellsStr cellsSigns hd
 have c:=World.var?_cell gSigns rB
 obtain rfl:cs=#[.string ⟨#[58,45]⟩,.string ⟨#[58,61]⟩,.string ⟨#[61,61]⟩,.string ⟨#[92,61]⟩,.string ⟨#[61,60]⟩]:=by
  apply Array.toList_inj.1
  rw[e];rfl
 refine⟨⟨c 0,c 1,c 2,c 3,c 4⟩,?_⟩
 rcases Nat.eq_zero_or_pos W.heap.size with hz | hz
 ·have:=c 0
  simp[World.cell?,Array.size_eq_zero_iff.1 hz]at this
 ·exact hz
theorem gPow:Tryz.prog.globalNamed "internal/strconv.uint64pow10"=some 1:=by kernel_rfl
theorem gPowType:(Tryz.prog.globals[1]?).map (·.type)=some 276:=by kernel_rfl
theorem cellsPow:Tryz.prog.cellsOf 276=20:=by kernel_rfl
theorem cellsU64:Tryz.prog.cellsOf 264=1:=by kernel_rfl
theorem Tc {W:World} (h:laidMetH Tryz.prog Rows.appendedRow.laid W):Pow W:=by
 have h':laidMet Tryz.prog Rows.appendedRow.laid W:=h
 obtain⟨ps,⟨_,_,_,_,_,_,_,_,_,_,⟨_,_,_,_,_,_,_,_,_,_,⟨g,t,cs,fuel,p,q,hg,ht,rB,hd,_,_⟩,_⟩,_⟩,_⟩:=h'
 obtain rfl:=Option.some.inj (gPow.symm.trans hg)
 obtain rfl:=Option.some.inj (gPowType.symm.trans ht)
 unfold Pow Lib.TabIs
 rw[rB,←Lib.cells_of_tab (zs:=Lib.pow10Tab) Tryz.underlying276 Tryz.underlying264 cellsU64 cellsPow hd]
theorem Td {W:World} (h:laidMetH Tryz.prog Rows.appendedRow.laid W):xj W:=⟨(Dv h).1,(Dv h).2,Tc h⟩
theorem Kc {H:Type} {enc:TypeId×Value→H} {W:World} {fuel:Nat} {a0:Option Addr} {len cap:Nat} {x:DataW H×List MemPlace}
 (h:DataW.trod enc Tryz.prog W 0 (fun _=>true) true fuel 25 [.slice a0 len cap]=some x) (hlt:∀q∈x.2,q.block<W.heap.size):wN W a0 len:=by
 rcases Deep.open_slice Tryz.underlying25 h with⟨hcs,_⟩ | ⟨a,len',cap',m,n,D,Pl,hcs,_,hl,hm,zG,hx,fD⟩
 ·simp at hcs
  refine⟨by rw[hcs.2.1];exact Nat.zero_le _,Or.inl hcs.2.1⟩
 ·simp at hcs
  obtain⟨rfl,rfl,rfl⟩:=hcs
  refine⟨by omega,?_⟩
  rcases Nat.eq_zero_or_pos len with h0 | h0
  ·exact Or.inl h0
  ·right
   simp only[if_true]at zG
   subst zG
   rw[cellsInt]at fD hx
   have ce:∀i,i<len→∃k:Int,W.cell? (a.add (i+0))=some (.int .i64 k)∧-9223372036854775808≤k∧k≤9223372036854775807:=by
    intro i hi
    obtain⟨cs',h1,h2⟩:=fD i (by omega)
    obtain⟨k,rfl,_,hw⟩:=DataW.trod_int Tryz.underlying3 h2
    obtain⟨_,_,hc⟩:=World.cells?_some h1
    have e0:=hc 0 (by omega)
    rw[Deep.add_add,Nat.mul_one]at e0
    simp only[Lit.wf,Bool.and_eq_true,decide_eq_true_eq]at hw
    exact⟨k,e0,hw.1,hw.2⟩
   obtain⟨b,off,spot⟩:=a
   have hspot:spot=Option.none:=by
    obtain⟨_,e0,_⟩:=ce 0 h0
    simpa [Addr.add] using World.cell?_spot e0
   subst hspot
   have hb:b<W.heap.size:=by
    refine hlt (.cell b off) ?_
    rw[hx]
    exact List.mem_append_left _ (MemPlace.mem_row.2 ⟨0,by omega,by simp⟩)
   refine⟨b,off,rfl,hb,fun i hi=> ?_⟩
   obtain⟨k,e0,e1⟩:=ce i hi
   rw[add_plain]at e0
   exact⟨k,e0,e1⟩
def A3 (cs:Array Value):Obj→Obj
 | .cells _ t frozen=> .cells cs t frozen
 | o=>o
noncomputable def uI (os:Os):World:=
 {World.holding Tryz.prog os ⟨#[],#[],[]⟩with heap:=((((World.holding Tryz.prog os ⟨#[],#[],[]⟩).heap.modify 0 (A3 #[.string ⟨#[58,45]⟩,.string ⟨#[58,61]⟩,.string ⟨#[61,61]⟩,.string ⟨#[92,61]⟩,.string ⟨#[61,60]⟩])).modify 1 (A3 #[.int .u64 1,.int .u64 10,.int .u64 100,.int .u64 1000,.int .u64 10000,.int .u64 100000,.int .u64 1000000,.int .u64 10000000,.int .u64 100000000,.int .u64 1000000000,.int .u64 10000000000,.int .u64 100000000000,.int .u64 1000000000000,.int .u64 10000000000000,.int .u64 100000000000000,.int .u64 1000000000000000,.int .u64 10000000000000000,.int .u64 100000000000000000,.int .u64 1000000000000000000,.int .u64 10000000000000000000])).modify 2 (A3 #[.int .u8 0,.int .u8 1,.int .u8 28,.int .u8 2,.int .u8 29,.int .u8 14,.int .u8 24,.int .u8 3,.int .u8 30,.int .u8 22,.int .u8 20,.int .u8 15,.int .u8 25,.int .u8 17,.int .u8 4,.int .u8 8,.int .u8 31,.int .u8 27,.int .u8 13,.int .u8 23,.int .u8 21,.int .u8 19,.int .u8 16,.int .u8 7,.int .u8 26,.int .u8 12,.int .u8 18,.int .u8 6,.int .u8 11,.int .u8 5,.int .u8 10,.int .u8 9])).modify 3 (A3 #[.int .u8 0,.int .u8 1,.int .u8 56,.int .u8 2,.int .u8 57,.int .u8 49,.int .u8 28,.int .u8 3,.int .u8 61,.int .u8 58,.int .u8 42,.int .u8 50,.int .u8 38,.int .u8 29,.int .u8 17,.int .u8 4,.int .u8 62,.int .u8 47,.int .u8 59,.int .u8 36,.int .u8 45,.int .u8 43,.int .u8 51,.int .u8 22,.int .u8 53,.int .u8 39,.int .u8 33,.int .u8 30,.int .u8 24,.int .u8 18,.int .u8 12,.int .u8 5,.int .u8 63,.int .u8 55,.int .u8 48,.int .u8 27,.int .u8 60,.int .u8 41,.int .u8 37,.int .u8 16,.int .u8 46,.int .u8 35,.int .u8 44,.int .u8 21,.int .u8 52,.int .u8 32,.int .u8 23,.int .u8 11,.int .u8 54,.int .u8 26,.int .u8 40,.int .u8 15,.int .u8 34,.int .u8 20,.int .u8 31,.int .u8 10,.int .u8 25,.int .u8 14,.int .u8 19,.int .u8 9,.int .u8 13,.int .u8 8,.int .u8 7,.int .u8 6])}
theorem cellsPick:Tryz.prog.cellsOf 62=2:=by kernel_rfl
theorem Ff {α:Type} {P:Nat→α→Prop}:∀n:Nat,(∀i,i<n→∃x,P i x)→∃l:List α,l.length=n∧∀i (h:i<l.length),P i l[i]
 | 0,_=>⟨[],rfl,fun i h=>by cases h⟩
 | n+1,h=>by
  obtain⟨l,h1,h2⟩:=Ff n (fun i hi=>h i (by omega))
  obtain⟨x,hx⟩:=h n (by omega)
  refine⟨l++[x],by simp[h1],fun i hi=> ?_⟩
  by_cases q:i<l.length
  ·rw[List.getElem_append_left q];exact h2 i q
  ·have:i=n:=by simp at hi;omega
   subst this
   rw[List.getElem_append_right (by omega)]
   simpa [h1] using hx
theorem GX {H:Type} {enc:TypeId×Value→H} {W:World} {base:Nat} {sp:Nat→Bool} {held:Bool} {n:Nat} {cs:List Value} {y:DataW H×List MemPlace} (h:DataW.trod enc Tryz.prog W base sp held n 62 cs=some y):
 ∃(a b:Int),cs=[.int .i64 a,.int .i64 b]∧(-9223372036854775808≤a∧a≤9223372036854775807)∧(-9223372036854775808≤b∧b≤9223372036854775807):=by
 obtain⟨y0,y1,n',_,hl,g0,g1⟩:=trod_struct2 Tryz.underlying62 h
 rw[cellsPick]at hl
 match cs,hl with
 | [v0,v1],_=>
  simp only[cellsInt,List.drop_zero,List.drop_succ_cons,List.take_succ_cons,List.take_zero]at g0 g1
  obtain⟨a,ha,_,wa⟩:=DataW.trod_int Tryz.underlying3 g0
  obtain⟨b,hb,_,wb⟩:=DataW.trod_int Tryz.underlying3 g1
  simp only[Lit.wf,Bool.and_eq_true,decide_eq_true_eq]at wa wb
  obtain rfl:v0= .int .i64 a:=by simpa using ha
  obtain rfl:v1= .int .i64 b:=by simpa using hb
  exact⟨a,b,rfl,wa,wb⟩
theorem ML {H:Type} {enc:TypeId×Value→H} {W:World} {fuel:Nat} {a0:Option Addr} {len cap:Nat} {x:DataW H×List MemPlace}
 (h:DataW.trod enc Tryz.prog W 0 (fun _=>true) true fuel 26 [.slice a0 len cap]=some x) (hlt:∀q∈x.2,q.block<W.heap.size):vq W a0 len cap:=by
 rcases Deep.open_slice Tryz.underlying26 h with⟨hcs,_⟩ | ⟨a,len',cap',m,n,D,Pl,hcs,_,hl,hm,zG,hx,fD⟩
 ·simp at hcs
  obtain⟨rfl,rfl,rfl⟩:=hcs
  exact⟨[],rfl,Nat.le_refl _,Nat.zero_le _,fun q=>absurd rfl q,fun p hp=>by cases hp⟩
 ·simp at hcs
  obtain⟨rfl,rfl,rfl⟩:=hcs
  simp only[if_true]at zG
  subst zG
  rw[cellsPick]at fD hx
  have ce:∀i,i<len→∃q:Int×Int,W.cell? (a.add (i*2+0))=some (.int .i64 q.1)∧W.cell? (a.add (i*2+1))=some (.int .i64 q.2)∧(-9223372036854775808≤q.1∧q.1≤9223372036854775807)∧(-9223372036854775808≤q.2∧q.2≤9223372036854775807):=by
   intro i hi
   obtain⟨cs',h1,h2⟩:=fD i (by omega)
   obtain⟨k1,k2,rfl,b1,b2⟩:=GX h2
   obtain⟨_,_,hc⟩:=World.cells?_some h1
   have e0:=hc 0 (by omega)
   have e1:=hc 1 (by omega)
   rw[Deep.add_add]at e0 e1
   exact⟨(k1,k2),e0,e1,b1,b2⟩
  obtain⟨script,h1,h2⟩:=Ff len ce
  refine⟨script,h1,hl,by omega,fun q=> ?_,fun p hp=> ?_⟩
  ·have h0:0<len:=by rw[←h1];exact List.length_pos_iff.2 q
   obtain⟨b,off,spot⟩:=a
   have hspot:spot=Option.none:=by
    obtain⟨_,e0,_⟩:=ce 0 h0
    simpa [Addr.add] using World.cell?_spot e0
   subst hspot
   have hb:b<W.heap.size:=by
    refine hlt (.cell b off) ?_
    rw[hx]
    exact List.mem_append_left _ (MemPlace.mem_row.2 ⟨0,by omega,by simp⟩)
   refine⟨b,off,rfl,hb,fun i hi=> ?_⟩
   obtain⟨e0,e1,_⟩:=h2 i hi
   rw[add_plain]at e0 e1
   exact⟨e0,e1⟩
  ·obtain⟨i,hi,rfl⟩:=List.mem_iff_getElem.1 hp
   obtain⟨_,_,e2⟩:=h2 i hi
   exact e2
end Go.Proofs.YthfjnfcekeknlaaGreatDoor
namespace Zc
def betL:List Nat→List Nat→List Nat→Bool
 | [],b,l=>l == b
 | d :: a,[],l=>l == d :: a
 | _ :: _,_ :: _,[]=>false
 | d :: a,e :: b,x :: l=>(x == d&&betL a (e :: b) l)||(x == e&&betL (d :: a) b l)
termination_by a b _=>a.length+b.length
theorem y5 (a l:List Nat):betL a [] l=(l == a):=by
 cases a with
 | nil=>rw[betL]
 | cons d a=>rw[betL]
theorem MM {a b l:List Nat} (h:mE a b l):betL a b l=true:=by
 induction h with
 | nl b=>rw[betL];simp
 | nr a=>rw[y5];simp
 | @left a b l d h ih=>
  cases b with
  | nil=>
   rw[y5]at ih⊢
   have:=eq_of_beq ih
   rw[this];simp
  | cons e b=>rw[betL,ih];simp
 | @right a b l d h ih=>
  cases a with
  | nil=>
   rw[betL]at ih⊢
   have:=eq_of_beq ih
   rw[this];simp
  | cons e a=>rw[betL,ih];simp
end Zc
namespace Go.Proofs.YthfjnfcekeknlaaGreatDoor
open Go.RowKit
def ir (w:World) (o:Option Addr) (c:Nat) (xs:List Nat):Prop:=(o=none∧xs=[]∧c=0)∨∃g off,o=some ⟨g,off,none⟩∧g<w.heap.size∧xs.length≤c∧c≤9223372036854775807∧∀i (h:i<xs.length),w.cell? ⟨g,off+i,none⟩=some (.int .i64 (xs[i]:Int))
theorem ir.below {w w':World} {o:Option Addr} {c:Nat} {xs:List Nat} (h:ir w o c xs) (hb:Below w.heap.size w w'):ir w' o c xs:=by
 rcases h with h | ⟨g,off,h1,h2,h3,h4,h5⟩
 ·exact Or.inl h
 ·exact Or.inr ⟨g,off,h1,Nat.lt_of_lt_of_le h2 hb.size,h3,h4,fun i hi=>(hb.cell (p:=⟨g,off+i,none⟩) h2).trans (h5 i hi)⟩
theorem ir.mr {w:World} {b:Nat} {T:TypeId} {o:Option Addr} {c:Nat} {ys:List Nat} (h:w.ownsRow b T 1 (.slice o ys.length c) ys.length (ys.map aK)):ir w o c ys:=by
 rcases h.2 with⟨q1,q0⟩ | ⟨g,cp,cur,q1,q2,q3,q4,_⟩
 ·simp only[Value.slice.injEq]at q1
  exact Or.inl ⟨q1.1,List.length_eq_zero_iff.1 q0,q1.2.2⟩
 ·have q1':=q1
  simp only[Value.slice.injEq]at q1
  obtain⟨rfl,_,rfl⟩:=q1
  refine Or.inr ⟨g,0,rfl,(h.lt g rfl).2,?_,?_,fun i hi=> ?_⟩
  ·omega
  ·unfold maxLen at*;omega
  ·rw[Nat.zero_add,h.cellAt i (by omega),List.getElem?_map,List.getElem?_eq_getElem hi]
   rfl
theorem yl {ops:Array Oper} {rest:List Oper} {o:Oper} {a:Act} {Q:Exit→Act→World→Prop} {w:World} (hgd:o.guard=none) (s x:Operand)
 (ho:o.op= .call {callee:= .builtin .append,args:=#[s,x],argTypes:=#[25,25]})
 (base:Nat) (v:Value) (n:Nat) (xs:List Nat) (hs:a.eval s=v) (hown:w.ownsRow base 3 1 v n (xs.map aK))
 (so:Option Addr) (m c:Nat) (ys:List Nat) (hx:a.eval x= .slice so m c) (hm:m=ys.length) (hy:ir w so c ys)
 (hn:n+m≤1000000000) (hbase:base≤w.heap.size)
 (h:∀v' w',w'.ownsRow base 3 1 v' (n+m) ((xs++ys).map aK)→w.grownBy w' v.ownBlock→wpList Tryz.prog ops Q rest (a.put o.dst v') w'):
 wpList Tryz.prog ops Q (o :: rest) a w:=by
 obtain⟨tj,hj,iA,iB,iC⟩:=info_parts infoIn
 rcases hy with⟨rfl,rfl,rfl⟩ | ⟨g,off,rfl,gz,hlc,hcm,hce⟩
 ·obtain⟨vo,vc,rfl⟩:=fu hown
  have zH:m=0:=hm
  subst zH
  have hle:n≤vc:=by
   rcases hown.2 with⟨r,r0⟩ | ⟨g,cap,cur,r,_,_,r3,_⟩
   ·omega
   ·simp only[Value.slice.injEq]at r
    omega
  refine wpList_plain hgd fun K hK=> ?_
  have hr:=qj (P:=Tryz.prog) w 25 o.type 3 tj Tryz.underlying25 hj vo n vc hle
  unfold Oper.wp execOp
  simp only[ho,resolve,invoke,builtin,Sem.run_bind,Sem.run_pure,Result.andThen_ok,List.map_toArray,List.map_cons,List.map_nil,hs,hx,hr]
  exact hK _ _ (h _ _ (by simpa using hown) (World.grownBy.refl _ _))
 ·refine wpList_append_own_at w hgd s x 25 ho base 3 tj (.int .i64 0) 1 8 Tryz.underlying25 hj iA iB iC rfl (by decide) v n (xs.map aK) hs hown ⟨g,off,none⟩ m c (ys.map aK) hx (by simp[hm]) (fun j u hj=> ?_) (fun u hu=> ?_) (by unfold maxLen;omega) (by omega) hbase (fun v' w' h1 h2 _ _=>h v' w' (by rw[List.map_append];exact h1) h2)
  ·have EB:j<ys.length:=by simpa using (List.getElem?_eq_some_iff.1 hj).1
   have:(⟨g,off,none⟩:Addr).add j=⟨g,off+j,none⟩:=by cases j<;>simp[Addr.add]
   rw[this,hce j EB]
   rw[List.getElem?_map,List.getElem?_eq_getElem EB]at hj
   exact hj
  ·obtain⟨y,_,rfl⟩:=List.mem_map.1 hu
   rfl
theorem Fg (w:World) (a b:List Nat) (oa ob:Option Addr) (ca cb:Nat) (ha:ir w oa ca a) (hb:ir w ob cb b) (la:a.length≤1000) (lb:b.length≤1000):
 Calls Tryz.prog 19 #[.slice oa a.length ca,.slice ob b.length cb] w fun e w'=>∃(o:Option Addr) (c:Nat),e= .returned (.slice o (a++b).length c)∧w'.ownsRow w.heap.size 3 1 (.slice o (a++b).length c) (a++b).length ((a++b).map aK)∧Below w.heap.size w w':=by
 have HA:=af ha
 have HB:=af hb
 have HL:=af (show (a++b).length=a.length+b.length from List.length_append)
 clear ha hb
 generalize Eg:a.length=na at*
 generalize dX:b.length=nb at*
 have YD:=af Eg
 have zI:=af dX
 clear Eg dX
 go_enter Tryz.func19,Tryz.ntmps19
 go_wp2_with (at_builtin;first
  | (refine yl rfl (.tmp 9) (.tmp 10) rfl w.heap.size _ _ _ rfl (ae M7) ob nb cb b rfl (ae zI).symm ((ae HB).below (ae ba)) (by omega) (ae ba).size ?_;intro v2 w2 h1 h2;have vG:=af h1;have aX:=af ((ae ba).grown h2 (ae ba).size (fun k r=>((ae M7).lt k r).1));clear h1 h2)
  | (go_must (refine yl rfl (.tmp 6) (.tmp 7) rfl w.heap.size (.slice none 0 0) 0 [] rfl (World.ownsRow_nil _ _ _ _) oa na ca a rfl (ae YD).symm (ae HA) (by omega) (Nat.le_refl _) ?_;intro v1 w1 h1 h2;have M7:=af h1;have ba:=af ((Below.refl w.heap.size w).grown h2 (Nat.le_refl _) (fun k r=>by cases r));clear h1 h2)))
 have h2:=ae vG
 rw[Nat.zero_add,List.nil_append,←ae HL]at h2
 obtain⟨o2,c2,rfl⟩:=fu h2
 have YE:=af h2
 clear h2 vG
 go_ret
 exact⟨o2,c2,rfl,ae YE,ae aX⟩
end Go.Proofs.YthfjnfcekeknlaaGreatDoor
namespace Zc
def qA (d:Nat):List UInt8:=[99,40,UInt8.ofNat (48+d),44]
theorem lD {d:Nat} (h:d<10) (l:List Nat):txL (d :: l)=qA d++(txL l++[41]):=by
 rw[txL,js h]
 simp[qA]
theorem Pz {d e:Nat} (hd:d<10) (he:e<10) (h:UInt8.ofNat (48+d)=UInt8.ofNat (48+e)):d=e:=by
 have:=congrArg UInt8.toNat h
 rw[UInt8.toNat_ofNat',UInt8.toNat_ofNat']at this
 omega
theorem Fh {d e:Nat} (hd:d<10) (he:e<10) (h:qA d=qA e):d=e:=by
 unfold qA at h
 simp only[List.cons.injEq,and_true,true_and]at h
 exact Pz hd he h
theorem txL_inj:∀{l m:List Nat},(∀d∈l,d<10)→(∀d∈m,d<10)→txL l=txL m→l=m
 | [],[],_,_,_=>rfl
 | [],e :: m,_,hm,h=>by
  rw[lD (hm e (by simp))]at h
  cases h
 | d :: l,[],hl,_,h=>by
  rw[lD (hl d (by simp))]at h
  cases h
 | d :: l,e :: m,hl,hm,h=>by
  rw[lD (hl d (by simp)),lD (hm e (by simp))]at h
  obtain⟨h1,h2⟩:=List.append_inj h rfl
  have h3:=List.append_inj_left' h2 rfl
  rw[Fh (hl d (by simp)) (hm e (by simp)) h1,txL_inj (fun x hx=>hl x (by simp[hx])) (fun x hx=>hm x (by simp[hx])) h3]
theorem PA {l m:List Nat} (hl:∀d∈l,d<10) (hm:∀d∈m,d<10):(txL l == txL m)=(l == m):=by
 by_cases q:l=m
 ·rw[q];simp
 ·have h1:(l == m)=false:=by simpa using q
  have h2:(txL l == txL m)=false:=by
   simp only[beq_eq_false_iff_ne]
   exact fun h=>q (txL_inj hl hm h)
  rw[h1,h2]
theorem Fi {d e:Nat} (hd:d<10) (he:e<10):(qA d == qA e)=(d == e):=by
 by_cases q:d=e
 ·rw[q];simp
 ·have h1:(d == e)=false:=by simpa using q
  have h2:(qA d == qA e)=false:=by
   simp only[beq_eq_false_iff_ne]
   exact fun h=>q (Fh hd he h)
  rw[h1,h2]
theorem y6 (x y z:List UInt8):(⟨(x++(y++z)).toArray⟩:ByteArray).extract x.length (x.length+y.length)=⟨y.toArray⟩:=by
 refine At.text (y:=z) ⟨?_,?_⟩
 ·show x.length≤(x++(y++z)).toArray.size
  simp
 ·show ((x++(y++z)).toArray.toList).drop x.length=y++z
  simp
theorem MN {d:Nat} (h:d<10) (l:List Nat):(⟨(txL (d :: l)).toArray⟩:ByteArray).extract 0 4=⟨(qA d).toArray⟩:=by
 rw[lD h]
 exact y6 [] (qA d) (txL l++[41])
theorem PB {d:Nat} (h:d<10) {l:List Nat} {n:Nat} (hn:(txL l).length=n):(⟨(txL (d :: l)).toArray⟩:ByteArray).extract 4 (4+n)=⟨(txL l).toArray⟩:=by
 rw[lD h,←hn]
 exact y6 (qA d) (txL l) [41]
theorem MO {d:Nat} (h:d<10) {l:List Nat} {n:Nat} (hn:(txL l).length=n):(⟨(txL (d :: l)).toArray⟩:ByteArray).extract (4+n) (4+n+1)=⟨[41].toArray⟩:=by
 rw[lD h,←hn]
 have:=y6 (qA d++txL l) [41] []
 rw[List.append_nil,List.append_assoc,List.length_append]at this
 exact this
end Zc
namespace Go.Proofs.YthfjnfcekeknlaaGreatDoor
open Go.RowKit
theorem xk (a b l:List Nat) (h0:a=[]∨(a≠[]∧b=[])) (h10:a.length+b.length≤10) (Ay:l.length=a.length+b.length) (da:∀d∈a,d<10) (db:∀d∈b,d<10) (dl:∀d∈l,d<10) (w:World) (oa ob:Option Addr) (ca cb:Nat) (ha:ir w oa ca a) (hb:ir w ob cb b):
 Calls Tryz.prog 24 #[.slice oa a.length ca,.slice ob b.length cb,.string ⟨(Zc.txL l).toArray⟩] w fun e w'=>e= .returned (.bool (Zc.betL a b l))∧Below w.heap.size w w':=by
 have dab:∀d∈a++b,d<10:=fun d hd=>by
  rcases List.mem_append.1 hd with q | q
  ·exact da d q
  ·exact db d q
 have IJ:=af (Fg w a b oa ob ca cb ha hb (by omega) (by omega))
 have IW:=af (fun(W':World) (o:Option Addr) (c m:Nat) (h:W'.ownsRow m 3 1 (.slice o (a++b).length c) (a++b).length ((a++b).map aK))=>rX W' (a++b) o c (ly.xY h) (fun d hd=>by have:=dab d hd;omega) (by rw[List.length_append];omega))
 have EW:=af (show Zc.betL a b l=((⟨(Zc.txL l).toArray⟩:ByteArray).toList == (⟨(Zc.txL (a++b)).toArray⟩:ByteArray).toList)by
  rw[Zc.dA,Zc.dA,Zc.PA dl dab]
  rcases h0 with rfl | ⟨_,rfl⟩
  ·rw[Zc.betL];rfl
  ·rw[Zc.y5,List.append_nil])
 have s0:(⟨(Zc.txL l).toArray⟩:ByteArray).size=(⟨(Zc.txL (a++b)).toArray⟩:ByteArray).size:=by
  simp only[ByteArray.size,List.size_toArray,Zc.txL_len l dl,Zc.txL_len (a++b) dab,List.length_append,Ay]
 have t1:(((⟨(Zc.txL l).toArray⟩:ByteArray).size:Int) != ((⟨(Zc.txL (a++b)).toArray⟩:ByteArray).size:Int))=false:=by rw[s0];simp
 have t2:((⟨(Zc.txL l).toArray⟩:ByteArray).size != (⟨(Zc.txL (a++b)).toArray⟩:ByteArray).size)=false:=by rw[s0];simp
 have key:a.length=0∨(0<a.length∧b.length=0):=by
  rcases h0 with rfl | ⟨h,rfl⟩
  ·exact Or.inl rfl
  ·exact Or.inr ⟨List.length_pos_iff.2 h,rfl⟩
 generalize (⟨(Zc.txL (a++b)).toArray⟩:ByteArray)=X at*
 generalize (⟨(Zc.txL l).toArray⟩:ByteArray)=S at*
 generalize (a++b).length=nab at*
 generalize (a++b).map aK=mab at*
 generalize Zc.betL a b l=R at*
 generalize a.length=na at*
 generalize b.length=nb at*
 clear ha hb da db dl dab s0 Ay h0
 rcases key with rfl | ⟨hp,rfl⟩
 ·go_enter Tryz.func24,Tryz.ntmps24
  go_wp2_with fail
  refine(ae IJ).mono ?_
  rintro e w1 ⟨oj,cj,rfl,owj,hb1⟩
  have IW1:=af (ae IW w1 oj cj _ owj)
  have ba:=af hb1
  clear IJ IW owj hb1
  go_wp2_with fail
  refine(ae IW1).mono ?_
  rintro e w2 ⟨rfl,hb2⟩
  have aX:=af ((ae ba).trans (hb2.mono (ae ba).size))
  clear IW1 hb2
  go_wp2_with fail
  go_ret
  exact⟨by rw[ae EW];rfl,ae aX⟩
 ·have t3:((na:Int) == 0)=false:=by simp;omega
  have t4:(na == 0)=false:=by simp;omega
  go_enter Tryz.func24,Tryz.ntmps24
  go_wp2_with fail
  refine(ae IJ).mono ?_
  rintro e w1 ⟨oj,cj,rfl,owj,hb1⟩
  have IW1:=af (ae IW w1 oj cj _ owj)
  have ba:=af hb1
  clear IJ IW owj hb1
  go_wp2_with fail
  refine(ae IW1).mono ?_
  rintro e w2 ⟨rfl,hb2⟩
  have aX:=af ((ae ba).trans (hb2.mono (ae ba).size))
  clear IW1 hb2
  go_wp2_with fail
  go_ret
  exact⟨by rw[ae EW];rfl,ae aX⟩
end Go.Proofs.YthfjnfcekeknlaaGreatDoor
