import Derived.Test.YthfjnfcekeknlaaGreatDoorSt33
import Derived.Test.YthfjnfcekeknlaaGreatDoorSt40
import Derived.Test.YthfjnfcekeknlaaGreatDoorCards
import Derived.Test.YthfjnfcekeknlaaGreatDoorTie
import Derived.WalkKit
import Derived.ProofKit
import Derived.OpenShut
import Derived.Carry
import Derived.Deep.DeepHandedRow
import Derived.Deep.Slices
import Derived.Lib.LaidTab
import Derived.Lib.SmallJoins
set_option maxHeartbeats 8000000
set_option maxRecDepth 100000
namespace Go.Proofs.YthfjnfcekeknlaaGreatDoor
open Go.ChangeShapes Go.WideShapes Go.ChangeAt Go.RowKit
theorem lawOwn:ownKnob Tryz.prog.godebug=Option.none:=by kernel_rfl
theorem lawLaid:laidOutB Tryz.prog=true:=by kernel_rfl
theorem gSigns:Tryz.prog.globalNamed "parley/scan.longSigns"=some 0:=by kernel_rfl
theorem gSignsType:(Tryz.prog.globals[0]?).map (·.type)=some 238:=by kernel_rfl
theorem cellsSigns:Tryz.prog.cellsOf 238=5:=by kernel_rfl
theorem cellsStr:Tryz.prog.cellsOf 9=1:=by kernel_rfl
theorem cellsInt:Tryz.prog.cellsOf 3=1:=by kernel_rfl
theorem Ad {H:Type} {enc:TypeId×Value→H} {P:Program} {w:World} {base:Nat} {sp:Nat→Bool} {held:Bool} {fuel:Nat} {t e:TypeId} {n:Nat} {cs:List Value} {zs:List (List UInt8)} {p:List MemPlace}
 (ht:P.underlying t=some (.array n e)) (he:P.underlying e=some .string) (hce:P.cellsOf e=1) (hct:P.cellsOf t=n)
 (h:DataW.trod enc P w base sp held fuel t cs=some (.agg (zs.map fun z=> .lit (.string z)),p)):cs=zs.map fun z=>Value.string ⟨z.toArray⟩:=by
 cases fuel with
 | zero=>simp[DataW.trod]at h
 | succ fuel=>
  simp only[DataW.trod,ht,hce,hct,Nat.mul_one]at h
  split at h
  ·rename_i hl
   obtain⟨xs,hm,hx⟩:=Option.map_eq_some_iff.1 h
   have hxs:xs.map (·.1)=zs.map fun z=>(DataW.lit (.string z):DataW H):=by
    have:=congrArg Prod.fst hx
    simpa using this
   have hxl:xs.length=n:=by simpa using Lib.mapM_length hm
   have hzl:zs.length=n:=by
    have:=congrArg List.length hxs
    simp at this
    omega
   apply List.ext_getElem?
   intro i
   by_cases hi:i<n
   ·obtain⟨b,hb,hf⟩:=Lib.mapM_at hm i i (by simp[hi])
    obtain⟨z,hc,rfl,_⟩:=DataW.trod_string he hf
    have h1:cs[i]?=some (.string z):=by
     have:=congrArg (·[0]?) hc
     simpa [List.getElem?_take,List.getElem?_drop] using this
    have h2:(xs.map (·.1))[i]?=some (DataW.lit (.string z.data.toList):DataW H):=by simp[hb]
    rw[hxs]at h2
    simp only[List.getElem?_map,Option.map_eq_some_iff,DataW.lit.injEq,Lit.string.injEq]at h2
    obtain⟨z',hz',hzz⟩:=h2
    rw[h1,List.getElem?_map,hz',hzz]
    rfl
   ·rw[List.getElem?_eq_none (by omega),List.getElem?_eq_none (by simp;omega)]
  ·cases h
theorem C7 {W:World} (h:laidMetH Tryz.prog Rows.appendedRow.laid W):dD W∧0<W.heap.size:=by
 have h':laidMet Tryz.prog Rows.appendedRow.laid W:=h
 obtain⟨ps,⟨_,_,_,_,_,_,_,_,_,_,⟨_,_,_,_,_,_,_,_,_,_,⟨_,_,_,_,_,_,_,_,_,_,⟨g,t,cs,fuel,p,q,hg,ht,hvar,hd,_,_⟩,_⟩,_⟩,_⟩,_⟩:=h'
 obtain rfl:=Option.some.inj (gSigns.symm.trans hg)
 obtain rfl:=Option.some.inj (gSignsType.symm.trans ht)
 have e:=Ad (zs:=[[58,45],[58,61],[61,61],[92,61],[61,60]]) Tryz.underlying238 Tryz.underlying9 cellsStr cellsSigns hd
 have c:=World.var?_cell gSigns hvar
 obtain rfl:cs=#[.string ⟨#[58,45]⟩,.string ⟨#[58,61]⟩,.string ⟨#[61,61]⟩,.string ⟨#[92,61]⟩,.string ⟨#[61,60]⟩]:=by
  apply Array.toList_inj.1
  rw[e];rfl
 refine⟨⟨c 0,c 1,c 2,c 3,c 4⟩,?_⟩
 rcases Nat.eq_zero_or_pos W.heap.size with hz | hz
 ·have:=c 0
  simp[World.cell?,Array.size_eq_zero_iff.1 hz]at this
 ·exact hz
theorem gPow:Tryz.prog.globalNamed "internal/strconv.uint64pow10"=some 1:=by kernel_rfl
theorem gPowType:(Tryz.prog.globals[1]?).map (·.type)=some 276:=by kernel_rfl
theorem cellsPow:Tryz.prog.cellsOf 276=20:=by kernel_rfl
theorem cellsU64:Tryz.prog.cellsOf 264=1:=by kernel_rfl
theorem SA {W:World} (h:laidMetH Tryz.prog Rows.appendedRow.laid W):Pow W:=by
 have h':laidMet Tryz.prog Rows.appendedRow.laid W:=h
 obtain⟨ps,⟨_,_,_,_,_,_,_,_,_,_,⟨_,_,_,_,_,_,_,_,_,_,⟨g,t,cs,fuel,p,q,hg,ht,hvar,hd,_,_⟩,_⟩,_⟩,_⟩:=h'
 obtain rfl:=Option.some.inj (gPow.symm.trans hg)
 obtain rfl:=Option.some.inj (gPowType.symm.trans ht)
 unfold Pow Lib.TabIs
 rw[hvar,←Lib.cells_of_tab (zs:=Lib.pow10Tab) Tryz.underlying276 Tryz.underlying264 cellsU64 cellsPow hd]
theorem SB {W:World} (h:laidMetH Tryz.prog Rows.appendedRow.laid W):wq W:=⟨(C7 h).1,(C7 h).2,SA h⟩
theorem SC {H:Type} {enc:TypeId×Value→H} {W:World} {fuel:Nat} {a0:Option Addr} {len cap:Nat} {x:DataW H×List MemPlace}
 (h:DataW.trod enc Tryz.prog W 0 (fun _=>true) true fuel 25 [.slice a0 len cap]=some x) (hlt:∀q∈x.2,q.block<W.heap.size):Lr W a0 len:=by
 rcases Deep.open_slice Tryz.underlying25 h with⟨hcs,_⟩ | ⟨a,len',cap',m,n,D,Pl,hcs,_,hl,hm,hmm,hx,hel⟩
 ·simp at hcs
  refine⟨by rw[hcs.2.1];exact Nat.zero_le _,Or.inl hcs.2.1⟩
 ·simp at hcs
  obtain⟨rfl,rfl,rfl⟩:=hcs
  refine⟨by omega,?_⟩
  rcases Nat.eq_zero_or_pos len with h0 | h0
  ·exact Or.inl h0
  ·right
   simp only[if_true]at hmm
   subst hmm
   rw[cellsInt]at hel hx
   have ce:∀i,i<len→∃k:Int,W.cell? (a.add (i+0))=some (.int .i64 k)∧-9223372036854775808≤k∧k≤9223372036854775807:=by
    intro i hi
    obtain⟨cs',h1,h2⟩:=hel i (by omega)
    obtain⟨k,rfl,_,hw⟩:=DataW.trod_int Tryz.underlying3 h2
    obtain⟨_,_,hc⟩:=World.cells?_some h1
    have e0:=hc 0 (by omega)
    rw[Deep.add_add,Nat.mul_one]at e0
    simp only[Lit.wf,Bool.and_eq_true,decide_eq_true_eq]at hw
    exact⟨k,e0,hw.1,hw.2⟩
   obtain⟨b,off,spot⟩:=a
   have hspot:spot=Option.none:=by
    obtain⟨_,e0,_⟩:=ce 0 h0
    simpa [Addr.add] using World.cell?_spot e0
   subst hspot
   have hb:b<W.heap.size:=by
    refine hlt (.cell b off) ?_
    rw[hx]
    exact List.mem_append_left _ (MemPlace.mem_row.2 ⟨0,by omega,by simp⟩)
   refine⟨b,off,rfl,hb,fun i hi=> ?_⟩
   obtain⟨k,e0,e1⟩:=ce i hi
   rw[add_plain]at e0
   exact⟨k,e0,e1⟩
def Ap (cs:Array Value):Obj→Obj
 | .cells _ t frozen=> .cells cs t frozen
 | o=>o
noncomputable def tP (os:Os):World:=
 {World.holding Tryz.prog os ⟨#[],#[],[]⟩with heap:=((((World.holding Tryz.prog os ⟨#[],#[],[]⟩).heap.modify 0 (Ap #[.string ⟨#[58,45]⟩,.string ⟨#[58,61]⟩,.string ⟨#[61,61]⟩,.string ⟨#[92,61]⟩,.string ⟨#[61,60]⟩])).modify 1 (Ap #[.int .u64 1,.int .u64 10,.int .u64 100,.int .u64 1000,.int .u64 10000,.int .u64 100000,.int .u64 1000000,.int .u64 10000000,.int .u64 100000000,.int .u64 1000000000,.int .u64 10000000000,.int .u64 100000000000,.int .u64 1000000000000,.int .u64 10000000000000,.int .u64 100000000000000,.int .u64 1000000000000000,.int .u64 10000000000000000,.int .u64 100000000000000000,.int .u64 1000000000000000000,.int .u64 10000000000000000000])).modify 2 (Ap #[.int .u8 0,.int .u8 1,.int .u8 28,.int .u8 2,.int .u8 29,.int .u8 14,.int .u8 24,.int .u8 3,.int .u8 30,.int .u8 22,.int .u8 20,.int .u8 15,.int .u8 25,.int .u8 17,.int .u8 4,.int .u8 8,.int .u8 31,.int .u8 27,.int .u8 13,.int .u8 23,.int .u8 21,.int .u8 19,.int .u8 16,.int .u8 7,.int .u8 26,.int .u8 12,.int .u8 18,.int .u8 6,.int .u8 11,.int .u8 5,.int .u8 10,.int .u8 9])).modify 3 (Ap #[.int .u8 0,.int .u8 1,.int .u8 56,.int .u8 2,.int .u8 57,.int .u8 49,.int .u8 28,.int .u8 3,.int .u8 61,.int .u8 58,.int .u8 42,.int .u8 50,.int .u8 38,.int .u8 29,.int .u8 17,.int .u8 4,.int .u8 62,.int .u8 47,.int .u8 59,.int .u8 36,.int .u8 45,.int .u8 43,.int .u8 51,.int .u8 22,.int .u8 53,.int .u8 39,.int .u8 33,.int .u8 30,.int .u8 24,.int .u8 18,.int .u8 12,.int .u8 5,.int .u8 63,.int .u8 55,.int .u8 48,.int .u8 27,.int .u8 60,.int .u8 41,.int .u8 37,.int .u8 16,.int .u8 46,.int .u8 35,.int .u8 44,.int .u8 21,.int .u8 52,.int .u8 32,.int .u8 23,.int .u8 11,.int .u8 54,.int .u8 26,.int .u8 40,.int .u8 15,.int .u8 34,.int .u8 20,.int .u8 31,.int .u8 10,.int .u8 25,.int .u8 14,.int .u8 19,.int .u8 9,.int .u8 13,.int .u8 8,.int .u8 7,.int .u8 6])}
theorem cellsPick:Tryz.prog.cellsOf 62=2:=by kernel_rfl
theorem EE {α:Type} {P:Nat→α→Prop}:∀n:Nat,(∀i,i<n→∃x,P i x)→∃l:List α,l.length=n∧∀i (h:i<l.length),P i l[i]
 | 0,_=>⟨[],rfl,fun i h=>by cases h⟩
 | n+1,h=>by
  obtain⟨l,h1,h2⟩:=EE n (fun i hi=>h i (by omega))
  obtain⟨x,hx⟩:=h n (by omega)
  refine⟨l++[x],by simp[h1],fun i hi=> ?_⟩
  by_cases q:i<l.length
  ·rw[List.getElem_append_left q];exact h2 i q
  ·have:i=n:=by simp at hi;omega
   subst this
   rw[List.getElem_append_right (by omega)]
   simpa [h1] using hx
theorem Gk {H:Type} {enc:TypeId×Value→H} {W:World} {base:Nat} {sp:Nat→Bool} {held:Bool} {n:Nat} {cs:List Value} {y:DataW H×List MemPlace} (h:DataW.trod enc Tryz.prog W base sp held n 62 cs=some y):
 ∃(a b:Int),cs=[.int .i64 a,.int .i64 b]∧(-9223372036854775808≤a∧a≤9223372036854775807)∧(-9223372036854775808≤b∧b≤9223372036854775807):=by
 obtain⟨y0,y1,n',_,hl,g0,g1⟩:=trod_struct2 Tryz.underlying62 h
 rw[cellsPick]at hl
 match cs,hl with
 | [v0,v1],_=>
  simp only[cellsInt,List.drop_zero,List.drop_succ_cons,List.take_succ_cons,List.take_zero]at g0 g1
  obtain⟨a,ha,_,wa⟩:=DataW.trod_int Tryz.underlying3 g0
  obtain⟨b,hb,_,wb⟩:=DataW.trod_int Tryz.underlying3 g1
  simp only[Lit.wf,Bool.and_eq_true,decide_eq_true_eq]at wa wb
  obtain rfl:v0= .int .i64 a:=by simpa using ha
  obtain rfl:v1= .int .i64 b:=by simpa using hb
  exact⟨a,b,rfl,wa,wb⟩
theorem Mk {H:Type} {enc:TypeId×Value→H} {W:World} {fuel:Nat} {a0:Option Addr} {len cap:Nat} {x:DataW H×List MemPlace}
 (h:DataW.trod enc Tryz.prog W 0 (fun _=>true) true fuel 26 [.slice a0 len cap]=some x) (hlt:∀q∈x.2,q.block<W.heap.size):uu W a0 len cap:=by
 rcases Deep.open_slice Tryz.underlying26 h with⟨hcs,_⟩ | ⟨a,len',cap',m,n,D,Pl,hcs,_,hl,hm,hmm,hx,hel⟩
 ·simp at hcs
  obtain⟨rfl,rfl,rfl⟩:=hcs
  exact⟨[],rfl,Nat.le_refl _,Nat.zero_le _,fun q=>absurd rfl q,fun p hp=>by cases hp⟩
 ·simp at hcs
  obtain⟨rfl,rfl,rfl⟩:=hcs
  simp only[if_true]at hmm
  subst hmm
  rw[cellsPick]at hel hx
  have ce:∀i,i<len→∃q:Int×Int,W.cell? (a.add (i*2+0))=some (.int .i64 q.1)∧W.cell? (a.add (i*2+1))=some (.int .i64 q.2)∧(-9223372036854775808≤q.1∧q.1≤9223372036854775807)∧(-9223372036854775808≤q.2∧q.2≤9223372036854775807):=by
   intro i hi
   obtain⟨cs',h1,h2⟩:=hel i (by omega)
   obtain⟨k1,k2,rfl,b1,b2⟩:=Gk h2
   obtain⟨_,_,hc⟩:=World.cells?_some h1
   have e0:=hc 0 (by omega)
   have e1:=hc 1 (by omega)
   rw[Deep.add_add]at e0 e1
   exact⟨(k1,k2),e0,e1,b1,b2⟩
  obtain⟨script,h1,h2⟩:=EE len ce
  refine⟨script,h1,hl,by omega,fun q=> ?_,fun p hp=> ?_⟩
  ·have h0:0<len:=by rw[←h1];exact List.length_pos_iff.2 q
   obtain⟨b,off,spot⟩:=a
   have hspot:spot=Option.none:=by
    obtain⟨_,e0,_⟩:=ce 0 h0
    simpa [Addr.add] using World.cell?_spot e0
   subst hspot
   have hb:b<W.heap.size:=by
    refine hlt (.cell b off) ?_
    rw[hx]
    exact List.mem_append_left _ (MemPlace.mem_row.2 ⟨0,by omega,by simp⟩)
   refine⟨b,off,rfl,hb,fun i hi=> ?_⟩
   obtain⟨e0,e1,_⟩:=h2 i hi
   rw[add_plain]at e0 e1
   exact⟨e0,e1⟩
  ·obtain⟨i,hi,rfl⟩:=List.mem_iff_getElem.1 hp
   obtain⟨_,_,e2⟩:=h2 i hi
   exact e2
theorem SE {H:Type} {enc:TypeId×Value→H} {W:World} {fuel:Nat} {v:Value} {x:DataW H×List MemPlace} (h:DataW.trod enc Tryz.prog W 0 (fun _=>true) true fuel 3 [v]=some x):∃k:Int,v= .int .i64 k∧-9223372036854775808≤k∧k≤9223372036854775807:=by
 obtain⟨k,hk,_,hw⟩:=DataW.trod_int Tryz.underlying3 h
 simp only[Lit.wf,Bool.and_eq_true,decide_eq_true_eq]at hw
 exact⟨k,by simpa using hk,hw.1,hw.2⟩
end Go.Proofs.YthfjnfcekeknlaaGreatDoor
