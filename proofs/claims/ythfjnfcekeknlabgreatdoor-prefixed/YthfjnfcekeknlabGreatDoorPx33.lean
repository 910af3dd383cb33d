import Derived.Test.YthfjnfcekeknlabGreatDoorPx31
import Derived.Test.YthfjnfcekeknlabGreatDoorPx32
import Derived.Lib.ItoaNum
import Derived.Test.YthfjnfcekeknlabGreatDoorCards
import Derived.Test.YthfjnfcekeknlabGreatDoorTie
import Derived.WalkKit
import Derived.ProofKit
import Derived.OpenShut
import Derived.Carry
import Derived.Deep.DeepHandedRow
import Derived.Deep.Slices
import Derived.Lib.LaidTab
import Derived.Lib.SmallJoins
set_option maxHeartbeats 8000000
set_option maxRecDepth 100000
set_option linter.unusedSimpArgs false
set_option linter.unusedVariables false
namespace af
open Go
variable {s:ByteArray} {x:List UInt8} {xs:List dq} {L:List bX}
theorem Mz (h:s=⟨x.toArray⟩):At s 0 x:=by have:=At.start s;rw[h]at this⊢;simpa using this
theorem Kz {x:dq} (hs:s=⟨(jF fX false (x :: xs)).toArray⟩) (hl:xs.length<=5) (hx:lP fX x) (hy:∀y∈xs,lP fX y) (hL:eM s L) (hh:hd L=next s 0):∃l',query L= .inr ((x :: xs).map (B6 fX),l'):=by obtain⟨l',e,k,a⟩:=oF (σ:=fX) (b:=false) (tl:=[]) (ay rfl) xs x 5 false hl hx hy s 0 L ⟨hL,hh⟩ (by rw[br];exact Mz hs);exact⟨l',DG e (k.done a)⟩
def tV (c:UInt8):Tm:=⟨3,⟨#[c]⟩,[]⟩
theorem Of (η:List UInt8->U) (f:Nat) (c:UInt8):fb η (f+1) (tV c)=η [c]:=by show η (⟨[c].toArray⟩:ByteArray).toList=_;rw[fx]
theorem MN (η:List UInt8->U) (f:Nat) (x:List UInt8) (as':List Tm):fb η (f+1) ⟨2,⟨x.toArray⟩,as'⟩= .n 1 x 0 (as'.map (fb η f)):=by show U.n 1 (⟨x.toArray⟩:ByteArray).toList 0 _=_;rw[fx]
end af
namespace Go.Proofs.YthfjnfcekeknlabGreatDoor
open Go.RowKit
structure B0 (w:World):Prop where
 sg:fu w
 pos:0<w.heap.size
 pow:Pow w
theorem B0.below {w w':World} (h:B0 w) (hb:Below w.heap.size w w'):B0 w':=⟨h.sg.below hb h.pos,aJ h.pos hb.size,h.pow.below hb⟩
end Go.Proofs.YthfjnfcekeknlabGreatDoor
namespace Go.Proofs.YthfjnfcekeknlabGreatDoor
open Go.ChangeShapes Go.WideShapes Go.ChangeAt Go.RowKit
variable {P:Program} {p:List MemPlace} {sp:Nat->Bool} {w W:World} {e t:TypeId} {fuel n base cap len:Nat} {zs:List (List UInt8)} {H:Type} {cs:List Value} {held:Bool} {a0:Option Addr} {v:Value}
theorem Nq:ownKnob Tryz.prog.godebug=Option.none:=by kernel_rfl
theorem wV:laidOutB Tryz.prog=true:=by kernel_rfl
theorem Ir:Tryz.prog.globalNamed "parley/scan.longSigns"=some 0:=by kernel_rfl
theorem CR:(Tryz.prog.globals[0]?).map (·.type)=some 217:=by kernel_rfl
theorem C0:Tryz.prog.cellsOf 217=5:=by kernel_rfl
theorem Je:Tryz.prog.cellsOf 9=1:=by kernel_rfl
theorem BA:Tryz.prog.cellsOf 3=1:=by kernel_rfl
theorem uB {enc:TypeId×Value->H} (ht:P.underlying t=some (.array n e)) (he:P.underlying e=some .string) (hce:P.cellsOf e=1) (hct:P.cellsOf t=n) (h:DataW.trod enc P w base sp held fuel t cs=some (.agg (zs.map fun z=> .lit (.string z)),p)):cs=zs.map fun z=>Value.string ⟨z.toArray⟩:=by
 cases fuel with
 | zero=>simp[DataW.trod]at h
 | succ fuel=>
  simp only[DataW.trod,ht,hce,hct,OZ]at h;split at h
  ·rename_i hl;obtain⟨xs,hm,hx⟩:=fT.1 h;have hxs:xs.map (·.1)=zs.map fun z=>(DataW.lit (.string z):DataW H):=by have:=cL Prod.fst hx;simpa using this
   have hxl:xs.length=n:=by simpa using Lib.mapM_length hm
   have hzl:zs.length=n:=by have:=cL List.length hxs;simp at this;omega
   apply List.ext_getElem?;intro i;by_cases hi:i<n
   ·obtain⟨b,hb,hf⟩:=Lib.mapM_at hm i i (by simp[hi]);obtain⟨z,hc,rfl,_⟩:=DataW.trod_string he hf;have h1:cs[i]?=some (.string z):=by have:=cL (·[0]?) hc;simpa [List.getElem?_take,List.getElem?_drop] using this
    have h2:(xs.map (·.1))[i]?=some (DataW.lit (.string z.data.toList):DataW H):=by simp[hb]
    rw[hxs]at h2;simp only[bC,fT,DataW.lit.injEq,Lit.string.injEq]at h2;obtain⟨z',hz',hzz⟩:=h2;rw[h1,bC,hz',hzz];rfl
   ·rw[eC (by omega),eC (by simp;omega)]
  ·cases h
theorem Al (h:laidMetH Tryz.prog Rows.prefixedRow.laid W):fu W/\0<W.heap.size:=by
 have h':laidMet Tryz.prog Rows.prefixedRow.laid W:=h;obtain⟨ps,⟨_,_,_,_,_,_,_,_,_,_,⟨_,_,_,_,_,_,_,_,_,_,⟨_,_,_,_,_,_,_,_,_,_,⟨g,t,cs,fuel,p,q,hg,ht,hvar,hd,_,_⟩,_⟩,_⟩,_⟩,_⟩:=h';obtain rfl:=cF (Ir.symm.trans hg);obtain rfl:=cF (CR.symm.trans ht);have e:=uB (zs:=[[58,45],[58,61],[61,61],[92,61],[61,60]]) Tryz.underlying217 Tryz.underlying9 Je C0 hd;have c:=World.var?_cell Ir hvar;obtain rfl:cs=#[.string ⟨#[58,45]⟩,.string ⟨#[58,61]⟩,.string ⟨#[61,61]⟩,.string ⟨#[92,61]⟩,.string ⟨#[61,60]⟩]:=by apply Array.toList_inj.1;rw[e];rfl
 refine⟨⟨c 0,c 1,c 2,c 3,c 4⟩,?_⟩;rcases Nat.eq_zero_or_pos W.heap.size with hz | hz
 ·have:=c 0;simp[World.cell?,Array.size_eq_zero_iff.1 hz]at this
 ·exact hz
theorem Pd:Tryz.prog.globalNamed "internal/strconv.uint64pow10"=some 1:=by kernel_rfl
theorem Is:(Tryz.prog.globals[1]?).map (·.type)=some 272:=by kernel_rfl
theorem Jf:Tryz.prog.cellsOf 272=20:=by kernel_rfl
theorem Jd:Tryz.prog.cellsOf 264=1:=by kernel_rfl
theorem M9 (h:laidMetH Tryz.prog Rows.prefixedRow.laid W):Pow W:=by have h':laidMet Tryz.prog Rows.prefixedRow.laid W:=h;obtain⟨ps,⟨_,_,_,_,_,_,_,_,_,_,⟨_,_,_,_,_,_,_,_,_,_,⟨g,t,cs,fuel,p,q,hg,ht,hvar,hd,_,_⟩,_⟩,_⟩,_⟩:=h';obtain rfl:=cF (Pd.symm.trans hg);obtain rfl:=cF (Is.symm.trans ht);unfold Pow Lib.TabIs;rw[hvar,<-Lib.cells_of_tab (zs:=Lib.pow10Tab) Tryz.underlying272 Tryz.underlying264 Jd Jf hd]
theorem NE (h:laidMetH Tryz.prog Rows.prefixedRow.laid W):B0 W:=⟨(Al h).1,(Al h).2,M9 h⟩
theorem M6 {enc:TypeId×Value->H} {x:DataW H×List MemPlace} (h:DataW.trod enc Tryz.prog W 0 (fun _=>true) true fuel 25 [.slice a0 len cap]=some x) (hlt:∀q∈x.2,q.block<W.heap.size):uG W W.heap.size a0 len:=by
 rcases Deep.open_slice Tryz.underlying25 h with⟨hcs,_⟩ | ⟨a,len',cap',m,n,D,Pl,hcs,_,hl,hm,hmm,hx,hel⟩
 ·simp at hcs;refine⟨by rw[hcs.2.1];exact cI _,ay hcs.2.1⟩
 ·simp at hcs;obtain⟨rfl,rfl,rfl⟩:=hcs;refine⟨by omega,?_⟩;rcases Nat.eq_zero_or_pos len with h0 | h0
  ·exact ay h0
  ·right;simp only[if_true]at hmm;subst hmm;rw[BA]at hel hx;have ce:∀i,i<len->∃k:Int,W.cell? (a.add (i+0))=some (.int .i64 k)/\-9223372036854775808<=k/\k<=9223372036854775807:=by intro i hi;obtain⟨cs',h1,h2⟩:=hel i (by omega);obtain⟨k,rfl,_,hw⟩:=xH Tryz.underlying3 h2;obtain⟨_,_,hc⟩:=World.cells?_some h1;have e0:=hc 0 (by omega);rw[Deep.add_add,OZ]at e0;simp only[Lit.wf,eS,ou]at hw;exact⟨k,e0,hw.1,hw.2⟩
   obtain⟨b,off,spot⟩:=a;have hspot:spot=Option.none:=by obtain⟨_,e0,_⟩:=ce 0 h0;simpa [Addr.add] using World.cell?_spot e0
   subst hspot;have hb:b<W.heap.size:=by refine hlt (.cell b off) ?_;rw[hx];exact bO _ (MemPlace.mem_row.2 ⟨0,by omega,by simp⟩)
   refine⟨b,off,rfl,hb,fun i hi=> ?_⟩;obtain⟨k,e0,e1⟩:=ce i hi;rw[add_plain]at e0;exact⟨k,e0,e1⟩
def DJ (cs:Array Value):Obj->Obj
 | .cells _ t frozen=> .cells cs t frozen
 | o=>o
noncomputable def qv (os:Os):World:=
 {World.holding Tryz.prog os ⟨#[],#[],[]⟩with heap:=((((World.holding Tryz.prog os ⟨#[],#[],[]⟩).heap.modify 0 (DJ #[.string ⟨#[58,45]⟩,.string ⟨#[58,61]⟩,.string ⟨#[61,61]⟩,.string ⟨#[92,61]⟩,.string ⟨#[61,60]⟩])).modify 1 (DJ #[.int .u64 1,.int .u64 10,.int .u64 100,.int .u64 1000,.int .u64 10000,.int .u64 100000,.int .u64 1000000,.int .u64 10000000,.int .u64 100000000,.int .u64 1000000000,.int .u64 10000000000,.int .u64 100000000000,.int .u64 1000000000000,.int .u64 10000000000000,.int .u64 100000000000000,.int .u64 1000000000000000,.int .u64 10000000000000000,.int .u64 100000000000000000,.int .u64 1000000000000000000,.int .u64 10000000000000000000])).modify 2 (DJ #[.int .u8 0,.int .u8 1,.int .u8 28,.int .u8 2,.int .u8 29,.int .u8 14,.int .u8 24,.int .u8 3,.int .u8 30,.int .u8 22,.int .u8 20,.int .u8 15,.int .u8 25,.int .u8 17,.int .u8 4,.int .u8 8,.int .u8 31,.int .u8 27,.int .u8 13,.int .u8 23,.int .u8 21,.int .u8 19,.int .u8 16,.int .u8 7,.int .u8 26,.int .u8 12,.int .u8 18,.int .u8 6,.int .u8 11,.int .u8 5,.int .u8 10,.int .u8 9])).modify 3 (DJ #[.int .u8 0,.int .u8 1,.int .u8 56,.int .u8 2,.int .u8 57,.int .u8 49,.int .u8 28,.int .u8 3,.int .u8 61,.int .u8 58,.int .u8 42,.int .u8 50,.int .u8 38,.int .u8 29,.int .u8 17,.int .u8 4,.int .u8 62,.int .u8 47,.int .u8 59,.int .u8 36,.int .u8 45,.int .u8 43,.int .u8 51,.int .u8 22,.int .u8 53,.int .u8 39,.int .u8 33,.int .u8 30,.int .u8 24,.int .u8 18,.int .u8 12,.int .u8 5,.int .u8 63,.int .u8 55,.int .u8 48,.int .u8 27,.int .u8 60,.int .u8 41,.int .u8 37,.int .u8 16,.int .u8 46,.int .u8 35,.int .u8 44,.int .u8 21,.int .u8 52,.int .u8 32,.int .u8 23,.int .u8 11,.int .u8 54,.int .u8 26,.int .u8 40,.int .u8 15,.int .u8 34,.int .u8 20,.int .u8 31,.int .u8 10,.int .u8 25,.int .u8 14,.int .u8 19,.int .u8 9,.int .u8 13,.int .u8 8,.int .u8 7,.int .u8 6])}
theorem vN:Tryz.prog.cellsOf 49=2:=by kernel_rfl
theorem D2 {α:Type} {P:Nat->α->Prop}:∀n:Nat,(∀i,i<n->∃x,P i x)->∃l:List α,l.length=n/\∀i (h:i<l.length),P i l[i]
 | 0,_=>⟨[],rfl,fun i h=>by cases h⟩
 | n+1,h=>by
  obtain⟨l,h1,h2⟩:=D2 n (fun i hi=>h i (by omega));obtain⟨x,hx⟩:=h n (by omega);refine⟨l++[x],by simp[h1],fun i hi=> ?_⟩;by_cases q:i<l.length
  ·rw[cq q];exact h2 i q
  ·have:i=n:=by simp at hi;omega
   subst this;rw[jm (by omega)];simpa [h1] using hx
theorem Cr {enc:TypeId×Value->H} {y:DataW H×List MemPlace} (h:DataW.trod enc Tryz.prog W base sp held n 49 cs=some y):
 ∃(a b:Int),cs=[.int .i64 a,.int .i64 b]/\(-9223372036854775808<=a/\a<=9223372036854775807)/\(-9223372036854775808<=b/\b<=9223372036854775807):=by
 obtain⟨y0,y1,n',_,hl,g0,g1⟩:=trod_struct2 Tryz.underlying49 h;rw[vN]at hl
 match cs,hl with
 | [v0,v1],_=>
  simp only[BA,List.drop_zero,List.drop_succ_cons,cu,uc]at g0 g1;obtain⟨a,ha,_,wa⟩:=xH Tryz.underlying3 g0;obtain⟨b,hb,_,wb⟩:=xH Tryz.underlying3 g1;simp only[Lit.wf,eS,ou]at wa wb;obtain rfl:v0= .int .i64 a:=by simpa using ha
  obtain rfl:v1= .int .i64 b:=by simpa using hb
  exact⟨a,b,rfl,wa,wb⟩
theorem G7 {enc:TypeId×Value->H} {x:DataW H×List MemPlace} (h:DataW.trod enc Tryz.prog W 0 (fun _=>true) true fuel 22 [.slice a0 len cap]=some x) (hlt:∀q∈x.2,q.block<W.heap.size):qZ W a0 len cap:=by
 rcases Deep.open_slice Tryz.underlying22 h with⟨hcs,_⟩ | ⟨a,len',cap',m,n,D,Pl,hcs,_,hl,hm,hmm,hx,hel⟩
 ·simp at hcs;obtain⟨rfl,rfl,rfl⟩:=hcs;exact⟨[],rfl,Qw,cI _,fun q=>absurd rfl q,fun p hp=>by cases hp⟩
 ·simp at hcs;obtain⟨rfl,rfl,rfl⟩:=hcs;simp only[if_true]at hmm;subst hmm;rw[vN]at hel hx;have ce:∀i,i<len->∃q:Int×Int,W.cell? (a.add (i*2+0))=some (.int .i64 q.1)/\W.cell? (a.add (i*2+1))=some (.int .i64 q.2)/\(-9223372036854775808<=q.1/\q.1<=9223372036854775807)/\(-9223372036854775808<=q.2/\q.2<=9223372036854775807):=by intro i hi;obtain⟨cs',h1,h2⟩:=hel i (by omega);obtain⟨k1,k2,rfl,b1,b2⟩:=Cr h2;obtain⟨_,_,hc⟩:=World.cells?_some h1;have e0:=hc 0 (by omega);have e1:=hc 1 (by omega);rw[Deep.add_add]at e0 e1;exact⟨(k1,k2),e0,e1,b1,b2⟩
  obtain⟨script,h1,h2⟩:=D2 len ce;refine⟨script,h1,hl,by omega,fun q=> ?_,fun p hp=> ?_⟩
  ·have h0:0<len:=by rw[<-h1];exact jy.2 q
   obtain⟨b,off,spot⟩:=a;have hspot:spot=Option.none:=by obtain⟨_,e0,_⟩:=ce 0 h0;simpa [Addr.add] using World.cell?_spot e0
   subst hspot;have hb:b<W.heap.size:=by refine hlt (.cell b off) ?_;rw[hx];exact bO _ (MemPlace.mem_row.2 ⟨0,by omega,by simp⟩)
   refine⟨b,off,rfl,hb,fun i hi=> ?_⟩;obtain⟨e0,e1,_⟩:=h2 i hi;rw[add_plain]at e0 e1;exact⟨e0,e1⟩
  ·obtain⟨i,hi,rfl⟩:=List.mem_iff_getElem.1 hp;obtain⟨_,_,e2⟩:=h2 i hi;exact e2
theorem Nt {enc:TypeId×Value->H} {x:DataW H×List MemPlace} (h:DataW.trod enc Tryz.prog W 0 (fun _=>true) true fuel 3 [v]=some x):∃k:Int,v= .int .i64 k/\-9223372036854775808<=k/\k<=9223372036854775807:=by obtain⟨k,hk,_,hw⟩:=xH Tryz.underlying3 h;simp only[Lit.wf,eS,ou]at hw;exact⟨k,by simpa using hk,hw.1,hw.2⟩
end Go.Proofs.YthfjnfcekeknlabGreatDoor
namespace af
open Go.Proofs.YthfjnfcekeknlabGreatDoor (jX jp)
variable {n bg t k i lim:Nat} {tx:List UInt8} {S:MS} {cls:List dE} {g:MG} {us:List U} {st:List (List UInt8×U)} {u:U} {c:dE}
theorem vH {f:Nat->Nat}:∀n:Nat,(∃t,t<n/\f t=1)->∃t,t<n/\f t=1/\∀t',t'<t->f t'≠1
 | 0,⟨t,h,_⟩=>absurd h (mv _)
 | n+1,⟨t,h,e⟩=>by
  by_cases q:∃t,t<n/\f t=1
  ·obtain⟨t,h1,h2,h3⟩:=vH n q;exact⟨t,by omega,h2,h3⟩
  ·refine⟨t,h,e,fun t' ht' e'=>q ⟨t',by omega,e'⟩⟩
theorem qj (hn:0<n):jp (List.range n) bg t=(bg+t) % n:=by unfold jp;rw[oz,List.getElem?_range (J1 _ hn)];rfl
theorem KW (hb:bg<n) (hk:k<n):∃t,t<n/\(bg+t) % n=k:=by
 by_cases q:bg<=k
 ·exact⟨k - bg,by omega,by rw[show bg+(k - bg)=k by omega,Nat.mod_eq_of_lt hk]⟩
 ·refine⟨k+n - bg,by omega,?_⟩;rw[show bg+(k+n - bg)=k+n by omega,Nat.add_mod_right,Nat.mod_eq_of_lt hk]
theorem Jg (hown:eW cls tx us.length cls.length=List.range cls.length) (hg:S.gs[i]?=some g) (hsg:g.sg=[]) (ha:g.a= .n 1 tx 0 us) (hnt:tx≠[116,114,117,101]) (p:Int) (hy:∃(k:Nat) (c:dE),cls[k]?=some c/\(eK S.lim g.a c).1=1):
 ∃(k:Nat) (c:dE),cls[k]?=some c/\(eK S.lim g.a c).1=1/\∀(F:List Nat) (S':MS),F.length+(NH c).length=(NG c).length->F.Pairwise (·<·)->(∀f∈F,S.lim<=f/\f<S'.lim)->S.lim<=S'.lim->S'.vs=S.vs->S'.gs=S.gs.eraseIdx i++c.goals.map (MG.of (iN g.a c fun k=>(F[k]?).getD 0))->kW cls S S' i p ((k+1:Nat):Int):=by
 obtain⟨k0,c0,hc0,hk0⟩:=hy;have hkl:k0<cls.length:=(bl.1 hc0).1;have hn:0<cls.length:=by omega
 let f:Nat->Nat:=fun t=>match cls[(jX p cls.length+t) % cls.length]? with
  | some c=>(eK S.lim g.a c).1
  | none=>0
 obtain⟨t0,h1,h2⟩:=KW (Go.Proofs.YthfjnfcekeknlabGreatDoor.C3 p cls.length hn) hkl;obtain⟨t,h3,h4,h5⟩:=vH (f:=f) cls.length ⟨t0,h1,by show (match cls[(jX p cls.length+t0) % cls.length]? with | some c=>(eK S.lim g.a c).1 | none=>0)=1;rw[h2,hc0];exact hk0⟩;have hml:(jX p cls.length+t) % cls.length<cls.length:=J1 _ hn;have hcl:=aj hml;have h4':(eK S.lim g.a cls[(jX p cls.length+t) % cls.length]).1=1:=by have h4':(match cls[(jX p cls.length+t) % cls.length]? with | some c=>(eK S.lim g.a c).1 | none=>0)=1:=h4;rw[hcl]at h4';exact h4'
 refine⟨(jX p cls.length+t) % cls.length,_,hcl,h4',fun F S' q1 q2 q3 q4 q5 q6=>⟨q4,g,hg,aw (aw (aw (aw (ay ⟨cls.length,_,⟨hsg,tx,us,ha,fun q=>hnt q.1,by rw[hown,oz],rfl⟩,t,_,F,h3,fun t' c' ht' hc'=> ?_,?_,h4',?_,q1,q2,q3,q5,q6⟩))))⟩⟩
 ·rw[hown,qj hn]at hc';have:=h5 t' ht';have e:f t'=(eK S.lim g.a c').1:=by show (match cls[(jX p cls.length+t') % cls.length]? with | some c=>(eK S.lim g.a c).1 | none=>0)=_;rw[hc']
  rw[<-e];exact this
 ·rw[hown,qj hn];exact hcl
 ·rw[hown,qj hn]
theorem E8:Wn.none.says=1:=rfl
theorem L6 (h:dB 8 c.head u ⟨[],Wn.none⟩=⟨st,Wn.none⟩) (ht:c.tests=[]):(eK lim u c).1=1:=by unfold eK;rw[h,aG (by rw[E8];simp),ht];rfl
end af
namespace af
open Go
end af
namespace af
open Go.Proofs.YthfjnfcekeknlabGreatDoor (jX jp iA arith)
theorem GY {σ:Vr->U} {k:Nat} (hk:σ ([],k)≠ .v ([],k)) (a:U) (sg:List UInt8) (b:U) (op:List UInt8) (c:U) (wt:Bool):(⟨a,sg,b,op,c,wt,fun v=>wt=true/\v=k⟩:MG).put σ=⟨sub σ a,sg,sub σ b,op,sub σ c,false,fun v=>false=true/\v=k⟩:=by
 have hs:¬(⟨a,sg,b,op,c,wt,fun v=>wt=true/\v=k⟩:MG).stays σ:=fun q=>hk (q.2 k ⟨q.1,rfl⟩);unfold MG.put;congr 1
 ·exact @dK _ (_) hs
 ·funext v;exact mI ⟨fun q=>absurd q.1 hs,fun q=>by have:=q.1;cases this⟩
