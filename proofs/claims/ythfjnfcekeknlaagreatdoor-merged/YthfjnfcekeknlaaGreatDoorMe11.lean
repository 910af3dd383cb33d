import Derived.Test.YthfjnfcekeknlaaGreatDoorMe03
import Derived.Test.YthfjnfcekeknlaaGreatDoorMe05
import Derived.Deep.AppendLies
import Derived.Deep.RegionLaw
set_option maxHeartbeats 8000000
set_option maxRecDepth 100000
namespace Zc
def qF (N:List Nat) (n:Nat):List Nat:=if n∈N then N else N++[n]
def br (N:List Nat):List Vr:=N.map fun n=>([],n)
theorem Ei {n m:Nat} (h:(([],n):Vr)=([],m)):n=m:=by injection h
theorem Ej {N:List Nat} {n:Nat}:(([],n):Vr)∈br N↔n∈N:=by
 unfold br
 constructor
 ·intro h
  obtain⟨m,hm,e⟩:=List.mem_map.1 h
  rw[Ei e]at hm
  exact hm
 ·exact fun h=>List.mem_map_of_mem h
theorem Ek (N:List Nat) (n:Nat):br (qF N n)=lf (br N) ([],n):=by
 unfold qF lf
 by_cases h:n∈N
 ·rw[if_pos h,if_pos (Ej.2 h)]
 ·rw[if_neg h,if_neg (fun q=>h (Ej.1 q))]
  simp[br]
theorem El (n:Nat):∀N,(br N).idxOf ([],n)=N.idxOf n
 | []=>rfl
 | m :: N=>by
  have ih:=El n N
  unfold br at ih⊢
  rw[List.map_cons,List.idxOf_cons,List.idxOf_cons,ih]
  by_cases e:m=n
  ·subst e;simp
  ·have:(([],m):Vr)≠([],n):=fun q=>e (Ei q)
   rw[beq_false_of_ne this,beq_false_of_ne e]
theorem zK {n:Nat}:∀{N:List Nat} {j:Nat} (hj:j<N.length),N[j]=n→(∀i (_:i<N.length),i<j→N[i]≠n)→N.idxOf n=j
 | m :: N,0,_,he,_=>by rw[List.idxOf_cons];simp at he;simp[he]
 | m :: N,j+1,hj,he,hno=>by
  have h0:m≠n:=hno 0 (by simp) (by omega)
  have:=zK (N:=N) (j:=j) (by simpa using hj) (by simpa using he) (fun i hi q=>by have:=hno (i+1) (by simpa using hi) (by omega);simpa using this)
  rw[List.idxOf_cons,this,beq_false_of_ne h0]
  rfl
theorem Em (N:List Nat):(br N).length=N.length:=by simp[br]
end Zc
namespace Go.Proofs.YthfjnfcekeknlaaGreatDoor
open Go.RowKit
structure fj (w:World) (nb:Nat) (N:List Nat) (mo:Option Addr) (mc:Nat):Prop where
 blk:w.heap[nb]?=some (.cells #[.slice mo N.length mc] 123 (0,0))
 own:w.ownsRow 0 3 1 (.slice mo N.length mc) N.length (N.map aK)
def bp (nb:Nat) (mo:Option Addr) (k:Nat):Prop:=k=nb∨rowOf mo k
theorem fj.apart {w:World} {nb:Nat} {N:List Nat} {mo:Option Addr} {mc:Nat} (h:fj w nb N mo mc) {g:Nat} {xs:Array Value} {S:TypeId} (hg:w.heap[g]?=some (.cells xs S (0,0))) (h1:S≠123) (h2:S≠3):¬bp nb mo g:=by
 rintro(rfl | ⟨p,rfl,rfl⟩)
 ·have:=h.blk
  rw[hg]at this
  simp only[Option.some.injEq,Obj.cells.injEq]at this
  exact h1 this.2.1
 ·rcases h.own.2 with⟨c,_⟩ | ⟨g,cp,cur,c,_,hc,_⟩
  ·cases c
  ·simp only[Value.slice.injEq,Option.some.injEq]at c
   obtain⟨rfl,_⟩:=c
   rw[hc]at hg
   simp only[Option.some.injEq,Obj.cells.injEq]at hg
   exact h2 hg.2.1.symm
theorem fj.below {w w':World} {nb:Nat} {N:List Nat} {mo:Option Addr} {mc:Nat} (h:fj w nb N mo mc) (hb:Below w.heap.size w w'):fj w' nb N mo mc:=
 ⟨(hb.block nb (ag h.blk)).trans h.blk,ai h.own (fun g q=>hb.block g (h.own.lt g q).2)⟩
theorem fj.rows {w:World} {nb:Nat} {N:List Nat} {mo:Option Addr} {mc:Nat} (h:fj w nb N mo mc):∀k,bp nb mo k→k<w.heap.size:=by
 rintro k (rfl | ⟨p,rfl,rfl⟩)
 ·exact ag h.blk
 ·exact(h.own.lt p.block rfl).2
theorem fj.ne {w:World} {nb:Nat} {N:List Nat} {mo:Option Addr} {mc:Nat} (h:fj w nb N mo mc):¬rowOf mo nb:=by
 rintro⟨p,rfl,e⟩
 rcases h.own.2 with⟨c,_⟩ | ⟨g,cp,cur,c,_,hc,_⟩
 ·cases c
 ·simp only[Value.slice.injEq,Option.some.injEq]at c
  obtain⟨rfl,_⟩:=c
  dsimp only at e
  have:=h.blk
  rw[e,hc]at this
  simp only[Option.some.injEq,Obj.cells.injEq]at this
  exact absurd this.2.1 (by decide)
def Uk (nb:Nat) (N:List Nat) (mo:Option Addr) (n:Nat) (w:World) (e:Ending) (w':World):Prop:=
 ∃mo' mc',e= .returned (aK (N.idxOf n))∧fj w' nb (Zc.qF N n) mo' mc'∧au (bp nb mo) (bp nb mo') w w'
theorem K6 (w:World) (nb:Nat) (N:List Nat) (mo:Option Addr) (mc:Nat) (n:Nat) (h:fj w nb N mo mc) (hl:N.length≤1000000):
 Calls Tryz.prog 101 #[.pointer (some ⟨nb,0,none⟩),.int .i64 (n:Int)] w fun e w'=>Uk nb N mo n w e w':=by
 have s0:=ah h.blk 0
 have sx:=ay h.blk 0
 have sz:=ag h.blk
 simp only[List.getElem?_toArray,List.getElem?_cons_zero]at s0
 have H:=af h
 obtain⟨ti,hi,hz0,hz1,hz2⟩:=info_parts infoIn
 have hcell:∀j (hj:j<N.length),∃g,mo=some ⟨g,0,none⟩∧g<w.heap.size∧w.cell? ⟨g,j,none⟩=some (.int .i64 (N[j]:Int)):=fun j hj=>by
  rcases h.own.2 with⟨_,q⟩ | ⟨g,cap,cur,q1,_,q3,_⟩
  ·omega
  ·simp only[Value.slice.injEq]at q1
   obtain⟨rfl,_,_⟩:=q1
   refine⟨g,rfl,ag q3,?_⟩
   rw[h.own.cellAt j (by omega),List.getElem?_map,List.getElem?_eq_getElem hj]
   rfl
 have HC:=af hcell
 have qV:=af h.ne
 clear h hcell
 go_enter Tryz.func101,Tryz.ntmps101
 go_wp2_with fail
 go_loopg [12] N.length (fun k iv wr=>∃j:Nat,k+j=N.length∧iv= .int .i64 (j:Int)∧wr=w∧∀i (hi:i<N.length),i<j→N[i]≠n)
 case atStart=>exact⟨0,by omega,rfl,rfl,fun i _ q=>by omega⟩
 case round=>
  obtain⟨j,hkj,rfl,rfl,hno⟩:=hrel
  by_cases hlt:j<N.length
  ·obtain⟨g,rfl,gz,cj⟩:=ae HC j hlt
   have j0:(0:Int)≤(j:Int):=by omega
   have j1:(j:Int)<(N.length:Int):=by omega
   have aW:=af hkj
   by_cases he:N[j]=n
   ·have dF:=af (show Uk nb N (some ⟨g,0,none⟩) n wr (.returned (.int .i64 (j:Int))) wr from by
     have ij:n∈N:=he ▸ List.getElem_mem hlt
     refine⟨some ⟨g,0,none⟩,mc,?_,?_,au.aw (Below.refl _ _)⟩
     ·have:N.idxOf n=j:=Zc.zK hlt he hno
      rw[this];rfl
     ·have:Zc.qF N n=N:=by unfold Zc.qF;rw[if_pos ij]
      rw[this];exact ae H)
    rw[he]at cj
    clear he hno hkj
    go_wp2_with fail
    go_ret
    exact ae dF
   ·have t1:(((N[j]:Nat):Int) == (n:Int))=false:=by simp;omega
    have gS:=af (show∀i (hi:i<N.length),i<j+1→N[i]≠n from fun i hi q=>by
     by_cases e:i=j
     ·subst e;exact he
     ·exact hno i hi (by omega))
    generalize N[j]=na at*
    clear he hno hkj
    go_wp2_with fail
    go_roundg (gk - 1)
    case measure=>have:=ae aW;omega
    case rel=>exact⟨j+1,by have:=ae aW;omega,by go_num,rfl,ae gS⟩
  ·obtain rfl:j=N.length:=by omega
   have ij:n∉N:=fun q=>by
    obtain⟨i,hi,e⟩:=List.getElem_of_mem q
    exact hno i hi hi e
   have HM:=af (show Zc.qF N n=N++[n]by unfold Zc.qF;rw[if_neg ij])
   have HI:=af (show N.idxOf n=N.length from List.idxOf_eq_length ij)
   clear hno hkj ij
   go_wp2_with (first | (at_builtin;go_must (refine wpList_append_own_at _ rfl (.tmp 26) (.tmp 28) 25 rfl 0 3 ti (.int .i64 0) 1 8 Tryz.underlying25 hi hz0 hz1 hz2 rfl (by decide) _ N.length (N.map aK) rfl ((ae H).own.alloc _) ⟨wr.heap.size,0,none⟩ 1 1 [.int .i64 (n:Int)] rfl rfl (jd _ _ _ _ rfl) (by simp[Value.oneCell']) (by unfold maxLen;omega) (by omega) (by omega) ?_);go_must (intro v' w7 hown' hgrow _ hat;obtain⟨g',cap',hv,hcm⟩:=fp hown';subst hv;have mK:=af hown';have HG:=af hgrow;have sA:=af (show (some g':Option Nat)=(Value.slice mo N.length mc).ownBlock∨(some g':Option Nat)=some (wr.heap.size+1)from (by rcases hat with q | q;exact Or.inl q;exact Or.inr (by rw[World.size_alloc]at q;exact q)));have b7:=(hgrow.block nb (by simp;omega) (jc fun p q e=>ae qV ⟨p,q,e⟩)).trans ((Below.heap_alloc _ _ _ sz).trans (ae H).blk);have gZ:=af b7;have c7:=ah b7 0;have x7:=ay b7 0;have z7:=ag b7;simp only[List.getElem?_toArray,List.getElem?_cons_zero]at c7;clear hown' hgrow hat b7)))
   go_ret
   refine⟨some ⟨g',0,none⟩,cap',?_,⟨?_,?_⟩,?_⟩
   ·rw[ae HI]
    show Ending.returned (.int .i64 _)= .returned (.int .i64 _)
    congr 2
   ·have:=aA (ae gZ) 0 (.slice (some ⟨g',0,none⟩) (N.length+1) cap')
    rw[ae HM,List.length_append]
    simpa using this
   ·rw[ae HM,List.length_append,List.map_append]
    have hne:nb≠g':=fun e=>by
     rcases(ae mK).2 with⟨c,_⟩ | ⟨g,cp,cur,c,_,hc,_⟩
     ·cases c
     ·simp only[Value.slice.injEq,Option.some.injEq,Addr.mk.injEq]at c
      obtain⟨⟨rfl,_⟩,_⟩:=c
      have:=ae gZ
      rw[e,hc]at this
      simp only[Option.some.injEq,Obj.cells.injEq]at this
      exact absurd this.2.1 (by decide)
    exact ai (ae mK) (fun k q=>aL _ _ _ _ (by simp[Value.ownBlock]at q;omega))
   ·have hz:=(ae HG).size
    refine⟨(ae HG).os,(ae HG).tape,(ae HG).output,by rw[cN];simp at hz;omega,fun k hk hr=> ?_,?_⟩
    ·rw[aL _ _ _ _ (fun e=>hr (Or.inl e)),(ae HG).block k (by simp;omega) (jc fun p q e=>hr (Or.inr ⟨p,q,e⟩)),Below.heap_alloc _ _ _ hk]
    ·rintro k (rfl | ⟨p,e1,rfl⟩)
     ·exact Or.inl (Or.inl rfl)
     ·cases e1
      rcases ae sA with e | e
      ·left;right
       cases mo with
       | none=>simp[Value.ownBlock]at e
       | some s=>simp[Value.ownBlock]at e;exact⟨s,rfl,e⟩
      ·right
       have:=Option.some.inj e
       dsimp only
       omega
def uR (N:List Zc.Vr) (a:AV):Zc.U→Prop
 | .v x=>a.k=1∧a.val=(N.idxOf x:Int)∧x∈N∧a.n=0
 | .n k tx num ss=>(k=3∧a.k=2∧a.val=num∧a.n=0∧ss=[])∨(k=1∧a.k=3∧a.tx.toList=tx∧a.n=ss.length∧ss.length≤3)
def RV:Nat→List Zc.Vr→(Nat→Prop)→World→AV→Zc.U→Prop
 | 0,_,_,_,_,_=>False
 | f+1,N,P,w,a,u=>uR N a u∧(Zc.uargs u≠[]→∃(g:Nat) (us:List AV) (cs:Array Value),a.ao=some ⟨g,0,none⟩∧P g∧w.heap[g]?=some (.cells cs 76 (0,0))∧cs.toList.take (us.length*4)=us.flatMap gN∧bO (RV f N P w) us (Zc.uargs u))
theorem RV.keep {N:List Zc.Vr} {P Q:Nat→Prop} {w w':World} (hk:∀g cs,P g→w.heap[g]?=some (.cells cs 76 (0,0))→w'.heap[g]?=some (.cells cs 76 (0,0))∧Q g):∀{f:Nat} {a:AV} {u:Zc.U},RV f N P w a u→RV f N Q w' a u
 | _+1,_,_,⟨h,q⟩=>⟨h,fun n=>by
  obtain⟨g,us,cs,h1,h2,h3,h4,h5⟩:=q n
  obtain⟨r1,r2⟩:=hk g cs h2 h3
  exact⟨g,us,cs,h1,r2,r1,h4,h5.imp fun _ _=>RV.keep hk⟩⟩
theorem uR.more {N:List Zc.Vr} {a:AV} {u:Zc.U} (h:uR N a u) (M:List Zc.Vr):uR (N++M) a u:=by
 cases u with
 | v x=>
  obtain⟨h1,h2,h3,h4⟩:=h
  exact⟨h1,by rw[h2,List.idxOf_append,if_pos h3],List.mem_append_left _ h3,h4⟩
 | n k tx num ss=>exact h
theorem RV.more {N:List Zc.Vr} {P:Nat→Prop} {w:World} (M:List Zc.Vr):∀{f:Nat} {a:AV} {u:Zc.U},RV f N P w a u→RV f (N++M) P w a u
 | _+1,_,_,⟨h,q⟩=>⟨h.more M,fun n=>by
  obtain⟨g,us,cs,h1,h2,h3,h4,h5⟩:=q n
  exact⟨g,us,cs,h1,h2,h3,h4,h5.imp fun _ _=>RV.more M⟩⟩
def FL (s nb:Nat) (N:List Nat) (mo:Option Addr) (u:Zc.U) (w:World) (e:Ending) (w':World):Prop:=
 ∃(a:AV) (N':List Nat) (mo':Option Addr) (mc':Nat),e= .returned (.agg #[.int .i64 a.k,.int .i64 a.val,.string a.tx,.slice a.ao a.n a.cap])∧fj w' nb N' mo' mc'∧Zc.br N'=Zc.aU (Zc.br N) u∧RV s (Zc.br N') (fun g=>w.heap.size≤g) w' a u∧au (bp nb mo) (bp nb mo') w w'
def BQ (s:Nat):Prop:=∀(w:World) (sb so:Nat) (cs:Array Value) (T:TypeId) (D:List Ng) (no:Option Addr) (nc:Nat) (fr:Nat→Nat) (n:Nat) (u:Zc.U) (nb:Nat) (N:List Nat) (mo:Option Addr) (mc:Nat),bG w sb so cs T D no nc→T≠123→T≠3→bV D fr→fj w nb N mo mc→a8 w D (fun g=>¬bp nb mo g)→n<D.length→Zc.Tr (aZ D) fr n u→Zc.size u≤s→N.length+Zc.size u≤1000000→
 Calls Tryz.prog 57 #[.pointer (some ⟨sb,so,none⟩),.int .i64 (n:Int),.pointer (some ⟨nb,0,none⟩)] w fun e w'=>FL s nb N mo u w e w'
theorem bG.Iq {w w':World} {sb so:Nat} {cs:Array Value} {T:TypeId} {D:List Ng} {no:Option Addr} {nc:Nat} {nb:Nat} {N:List Nat} {mo mo':Option Addr} {mc:Nat} (h:bG w sb so cs T D no nc) (hn:fj w nb N mo mc) (h1:T≠123) (h2:T≠3) (hf:au (bp nb mo) (bp nb mo') w w'):bG w' sb so cs T D no nc:=by
 refine⟨(hf.block sb (ag h.blk) (hn.apart h.blk h1 h2)).trans h.blk,h.cel,ai h.own (fun g q=>hf.block g (h.own.lt g q).2 ?_),h.ty⟩
 rcases h.own.2 with⟨c,_⟩ | ⟨g',cp,cur,c,_,hc,_⟩
 ·rw[c]at q;simp[Value.ownBlock]at q
 ·rw[c]at q
  simp[Value.ownBlock]at q
  subst q
  exact hn.apart hc (by decide) (by decide)
theorem a8.Iq {w w':World} {D:List Ng} {R R':Nat→Prop} (h:a8 w D fun g=>¬R g) (hf:au R R' w w'):a8 w' D fun g=>¬R' g:=
 h.keep fun g _ hp hg=>⟨(hf.block g (ag hg) hp).trans hg,hf.not (ag hg) hp⟩
theorem K7 (s:Nat) (w:World) (sb so:Nat) (cs:Array Value) (T:TypeId) (D:List Ng) (no:Option Addr) (nc:Nat) (fr:Nat→Nat) (n:Nat) (d:Ng) (nb:Nat) (N:List Nat) (mo:Option Addr) (mc:Nat) (h:bG w sb so cs T D no nc) (_hT1:T≠123) (_hT2:T≠3) (aF:bV D fr) (hn:fj w nb N mo mc) (pT:n<D.length) (hd:D[fr n]?=some d) (hk:d.k=1) (hl:N.length+1≤1000000):
 Calls Tryz.prog 57 #[.pointer (some ⟨sb,so,none⟩),.int .i64 (n:Int),.pointer (some ⟨nb,0,none⟩)] w fun e w'=>FL (s+1) nb N mo (.v ([],fr n)) w e w':=by
 obtain⟨k,gj⟩:=aF.hop n pT
 have LA:=af (fun W (hb:Below w.heap.size w W)=>e7 W sb so cs T D no nc n (fr n) k d (h.below hb) gj hd)
 have FA:=af (fun W (hb:Below w.heap.size w W)=>dT W sb so cs T D no nc n (fr n) k (h.below hb) gj)
 have NA:=af (fun W (hb:Below w.heap.size w W)=>K6 W nb N mo mc (fr n) (hn.below hb) (by omega))
 have HN:=af hn
 obtain⟨dk,val,tx,cnt,ao,cap,args,nx,mrk⟩:=d
 dsimp only at hk LA
 subst hk
 clear h aF hn pT hd gj
 generalize fr n=p at*
 go_enter Tryz.func57,Tryz.ntmps57
 go_wp2_with fail
 refine(ae LA _ ((Below.refl _ _).alloc (Nat.le_refl _) _)).mono ?_
 rintro e w1 ⟨rfl,hb1⟩
 have ba:=af ((((Below.refl w.heap.size w).alloc (Nat.le_refl _) (.cells #[.int .i64 0,.int .i64 0,.string ⟨#[]⟩,.slice none 0 0] 76)).trans (hb1.mono (by simp))).alloc (by have:=hb1.size;simp at this;omega) (.cells #[.int .i64 1,.int .i64 val,.string tx,.int .i64 (cnt:Int)] 177))
 have r0:=hb1.block w.heap.size (by simp)
 have r1:=r0.trans (heap_alloc_new w _)
 have z1:w.heap.size<w1.heap.size:=ag r1
 have Ul:=af (aB r1 (.cells #[.int .i64 1,.int .i64 val,.string tx,.int .i64 (cnt:Int)] 177))
 clear hb1 r0 r1
 go_wp2_with fail
 refine(ae FA _ (ae ba)).mono ?_
 rintro e w2 ⟨rfl,rfl⟩
 unfold aK
 go_wp2_with fail
 refine(ae NA _ (ae ba)).mono ?_
 rintro e w3 ⟨mo',mc',rfl,Um,hf3⟩
 unfold aK
 have q3:=(hf3.block w.heap.size (by simp;omega) (((ae HN).below (ae ba)).apart (ae Ul) (by decide) (by decide))).trans (ae Ul)
 have Xf:=af q3
 have c3:=ah q3
 have x3:=ay q3
 have z3:=ag q3
 have iT:=af Um
 have vL:=af hf3
 clear Um hf3 q3
 go_wp2_with fail
 refine bodyPost_ret (v:= .agg #[.int .i64 1,.int .i64 ((N.idxOf p:Nat):Int),.string ⟨#[]⟩,.slice none 0 0]) (by simp[results,Tryz.results57,go_sem,c3]) rfl ?_
 have nB:∀g,g≠w.heap.size→((((w3.setCell ⟨w.heap.size,0,none⟩ (.int .i64 1)).setCell ⟨w.heap.size,1,none⟩ (.int .i64 ((N.idxOf p:Nat):Int))).setCell ⟨w.heap.size,2,none⟩ (.string ⟨#[]⟩)).setCell ⟨w.heap.size,3,none⟩ (.slice none 0 0)).heap[g]?=w3.heap[g]?:=fun g hg=>by rw[aL _ _ _ _ hg,aL _ _ _ _ hg,aL _ _ _ _ hg,aL _ _ _ _ hg]
 have hne:nb≠w.heap.size:=by have:=ag (ae HN).blk;omega
 refine⟨⟨1,(N.idxOf p:Nat),⟨#[]⟩,none,0,0⟩,Zc.qF N p,mo',mc',rfl,⟨(nB nb hne).trans (ae iT).blk,ai (ae iT).own (fun g q=>nB g fun e=> ?_)⟩,?_,⟨⟨rfl,?_,?_,rfl⟩,fun q=>absurd rfl q⟩,?_⟩
 ·subst e
  exact(ae iT).apart (ae Xf) (by decide) (by decide) (Or.inr (by
   cases mo' with
   | none=>simp[Value.ownBlock]at q
   | some a=>simp[Value.ownBlock]at q;exact⟨a,rfl,q.symm⟩))
 ·rw[Zc.Ek];rfl
 ·show ((N.idxOf p:Nat):Int)=(((Zc.br (Zc.qF N p)).idxOf ([],p):Nat):Int)
  rw[Zc.El]
  congr 1
  unfold Zc.qF
  by_cases q:p∈N
  ·rw[if_pos q]
  ·rw[if_neg q,List.idxOf_append,if_neg q,List.idxOf_eq_length q];simp
 ·rw[Zc.Ek];exact Zc.Bl.2 (Or.inr rfl)
 ·have q:=(au.aw (R:=bp nb mo) (ae ba)).trans (ae vL)
  refine⟨q.os,q.tape,q.output,by simp only[cN];exact q.size,fun k hk hr=> ?_,q.row⟩
  rw[nB k (by omega)]
  exact q.block k hk hr
end Go.Proofs.YthfjnfcekeknlaaGreatDoor
namespace Zc
theorem La (N:List Vr) (x:Vr):(lf N x).length≤N.length+1:=by unfold lf;split<;>simp
theorem je:∀(u:U) (N:List Vr),(aU N u).length≤N.length+size u:=by
 refine U.ind (fun x N=>by rw[aU,size];exact La N x) (fun k tx num ss ih N=> ?_)
 rw[fQ,size]
 induction ss generalizing N with
 | nil=>simp[sizeL]
 | cons a ss ihl=>
  have h1:=ihl (fun b hb=>ih b (by simp[hb])) (aU N a)
  have h2:=ih a (by simp) N
  rw[List.foldl_cons,sizeL]
  omega
theorem Ir (us:List U) (N:List Vr):(us.foldl aU N).length≤N.length+sizeL us:=by
 have:=je (.n 1 [] 0 us) N
 rw[fQ,size]at this
 induction us generalizing N with
 | nil=>simp[sizeL]
 | cons a us ih=>
  have h1:=ih (aU N a) (by have:=je (.n 1 [] 0 us) (aU N a);rw[fQ,size]at this;exact this)
  have h2:=je a N
  rw[List.foldl_cons,sizeL]
  omega
theorem rJ:∀(u:U) (N:List Vr),∃M,aU N u=N++M:=by
 refine U.ind (fun x N=> ?_) (fun k tx num ss ih N=> ?_)
 ·rw[aU];unfold lf;split
  ·exact⟨[],by simp⟩
  ·exact⟨[x],rfl⟩
 ·rw[fQ]
  induction ss generalizing N with
  | nil=>exact⟨[],by simp⟩
  | cons a ss ihl=>
   obtain⟨M,hM⟩:=ih a (by simp) N
   obtain⟨M',hM'⟩:=ihl (fun b hb=>ih b (by simp[hb])) (aU N a)
   exact⟨M++M',by rw[List.foldl_cons,hM',hM,List.append_assoc]⟩
end Zc
namespace Go.Proofs.YthfjnfcekeknlaaGreatDoor
open Go.RowKit
def Qe (w:World) (sb so:Nat) (cs:Array Value) (T:TypeId) (D:List Ng) (no:Option Addr) (nc:Nat) (tb nb:Nat) (N:List Nat) (mo:Option Addr) (s:Nat) (us:List Zc.U) (kv vv tv:Value) (k:Nat) (iv:Value) (wr:World):Prop:=
 ∃(j:Nat) (N1:List Nat) (mo1:Option Addr) (mc1:Nat) (av:Value) (vs:List AV),k+j=us.length∧iv= .int .i64 (j:Int)∧fj wr nb N1 mo1 mc1∧Zc.br N1=(us.take j).foldl Zc.aU (Zc.br N)∧au (bp nb mo) (bp nb mo1) w wr∧
  wr.heap[w.heap.size]?=some (.cells #[.int .i64 0,.int .i64 0,.string ⟨#[]⟩,.slice none 0 0] 76 (0,0))∧wr.heap[tb]?=some (.cells #[kv,vv,tv,av] 76 (0,0))∧wr.ownsRow (tb+1) 76 4 av j (vs.flatMap gN)∧
  bO (RV s (Zc.br N1) (fun g=>tb+1≤g∧some g≠av.ownBlock) wr) vs (us.take j)∧bG wr sb so cs T D no nc∧a8 wr D (fun g=>¬bp nb mo1 g)
theorem Lb {wr w2 w7:World} {s tb nb:Nat} {N1 N2:List Nat} {mo1 mo2:Option Addr} {mc1:Nat} {av v':Value} {vs:List AV} {ts:List Zc.U} {a2:AV} {t:Zc.U} {X A:Obj} {M:List Zc.Vr}
 (hn:fj wr nb N1 mo1 mc1) (h:bO (RV s (Zc.br N1) (fun g=>tb+1≤g∧some g≠av.ownBlock) wr) vs ts) (hv:RV s (Zc.br N2) (fun g=>wr.heap.size≤g) w2 a2 t) (hM:Zc.br N2=Zc.br N1++M) (hf:au (bp nb mo1) (bp nb mo2) wr w2) (Iu:tb<wr.heap.size) (Xg:∀k,av.ownBlock=some k→tb+1≤k∧k<wr.heap.size)
 (hg:((w2.alloc X).alloc A).grownBy w7 av.ownBlock) (hat:v'.ownBlock=av.ownBlock∨v'.ownBlock=some ((w2.alloc X).alloc A).heap.size) (u:Value):
 bO (RV s (Zc.br N2) (fun g=>tb+1≤g∧some g≠v'.ownBlock) (w7.setCell ⟨tb,3,none⟩ u)) (vs++[a2]) (ts++[t]):=by
 have hsz:=hf.size
 have keep:∀g,g<w2.heap.size→g≠tb→some g≠av.ownBlock→(w7.setCell ⟨tb,3,none⟩ u).heap[g]?=w2.heap[g]?:=fun g h1 h2 h4=>by
  rw[aL _ _ _ _ h2,hg.block g (by simp;omega) h4,Below.heap_alloc _ _ _ (by simp;omega),Below.heap_alloc _ _ _ h1]
 have away:∀g,g<w2.heap.size→some g≠av.ownBlock→some g≠v'.ownBlock:=fun g h1 h2=>by
  rcases hat with e | e<;>rw[e]
  ·exact h2
  ·simp;omega
 refine bO.snoc (hv.keep fun g cs hp hc=> ?_) (h.imp fun a t q=> ?_)
 ·have hl:=ag hc
  have h4:some g≠av.ownBlock:=fun e=>by have:=(Xg g e.symm).2;omega
  exact⟨(keep g hl (by omega) h4).trans hc,by omega,away g hl h4⟩
 ·rw[hM]
  refine RV.more M (q.keep fun g cs hp hc=> ?_)
  have hl:=ag hc
  obtain⟨p1,p2⟩:=hp
  exact⟨(keep g (by omega) (by omega) p2).trans ((hf.block g hl (hn.apart hc (by decide) (by decide))).trans hc),p1,away g (by omega) p2⟩
theorem Iw {s:Nat} (IH:BQ s) (w:World) (sb so:Nat) (cs:Array Value) (T:TypeId) (D:List Ng) (no:Option Addr) (nc:Nat) (fr:Nat→Nat) (n:Nat) (u:Zc.U) (us:List Zc.U) (d:Ng) (nb:Nat) (N:List Nat) (mo:Option Addr) (mc:Nat) (h:bG w sb so cs T D no nc) (hT1:T≠123) (hT2:T≠3) (aF:bV D fr) (hn:fj w nb N mo mc) (bt:a8 w D (fun g=>¬bp nb mo g)) (pT:n<D.length) (hd:D[fr n]?=some d) (od:gI D.length d) (md:d∈D) (hk:d.k≠1) (mh:d.args.length=us.length) (su:∀(i a:Nat) (v:Zc.U),d.args[i]?=some a→us[i]?=some v→Zc.Tr (aZ D) fr a v)
 (hu:(d.k=2∧u= .n 3 [] d.val []∧us=[])∨(d.k=3∧u= .n 1 d.tx.toList 0 us)) (hs:Zc.size u≤s+1) (hl:N.length+Zc.size u≤1000000):
 Calls Tryz.prog 57 #[.pointer (some ⟨sb,so,none⟩),.int .i64 (n:Int),.pointer (some ⟨nb,0,none⟩)] w fun e w'=>FL (s+1) nb N mo u w e w':=by
 obtain⟨k,gj⟩:=aF.hop n pT
 have hsz:Zc.size u=1+Zc.sizeL us:=by
  rcases hu with⟨_,rfl,rfl⟩ | ⟨_,rfl⟩
  ·simp[Zc.size,Zc.sizeL]
  ·rw[Zc.size]
 have Un:Zc.uargs u=us:=by
  rcases hu with⟨_,rfl,rfl⟩ | ⟨_,rfl⟩<;>rfl
 have Uo:∀M,Zc.aU M u=us.foldl Zc.aU M:=fun M=>by
  rcases hu with⟨_,rfl,rfl⟩ | ⟨_,rfl⟩<;>rw[Zc.fQ]
 have Ix:∀M ao cap,uR M ⟨d.k,d.val,d.tx,ao,us.length,cap⟩ u:=fun M ao cap=>by
  rcases hu with⟨q,rfl,rfl⟩ | ⟨q,rfl⟩
  ·exact Or.inl ⟨rfl,q,rfl,rfl,rfl⟩
  ·exact Or.inr ⟨rfl,q,rfl,rfl,by rw[←mh];exact od.few⟩
 have LA:=af (fun W (hb:Below w.heap.size w W)=>e7 W sb so cs T D no nc n (fr n) k d (h.below hb) gj hd)
 have AG:=af (fun W (hb:Below w.heap.size w W)=>l7 W sb so cs T D no nc n (fr n) k d (h.below hb) gj hd)
 have oq:=af (show∀W R,a8 W D R→o7 W d.ao d.args from fun W R q=>q.row md)
 have o6:=af od.inn
 have Ic:=af su
 have km:=af hsz
 have HS:=af hs
 have HL:=af hl
 have Xh:=af Un
 have Xi:=af Uo
 have Up:=af Ix
 have HN:=af hn
 have HST:=af h
 have VG:=af bt
 have qW:=af aF
 have I:=af IH
 have wq:=od.few
 have Qf:=af hT1
 have Uq:=af hT2
 obtain⟨i0',hi,hz0,hz1,hz2⟩:=info_parts Tryz.info76
 obtain⟨dk,val,tx,cnt,ao,cap,xs,nx,mrk⟩:=d
 dsimp only at hk LA AG oq o6 Ic mh wq Up
 have t1:(dk == 1)=false:=by simpa using hk
 have Na:=af mh
 clear h aF hn bt pT hd od md gj hk su hu hsz Un Uo Ix hs hl IH mh hT1 hT2
 go_enter Tryz.func57,Tryz.ntmps57
 go_wp2_with fail
 refine(ae LA _ ((Below.refl _ _).alloc (Nat.le_refl _) _)).mono ?_
 rintro e w1 ⟨rfl,hb1⟩
 have ba:=af ((((Below.refl w.heap.size w).alloc (Nat.le_refl _) (.cells #[.int .i64 0,.int .i64 0,.string ⟨#[]⟩,.slice none 0 0] 76)).trans (hb1.mono (by simp))).alloc (by have:=hb1.size;simp at this;omega) (.cells #[.int .i64 dk,.int .i64 val,.string tx,.int .i64 (cnt:Int)] 177))
 have r0:=hb1.block w.heap.size (by simp)
 have r1:=r0.trans (heap_alloc_new w _)
 have z1:w.heap.size<w1.heap.size:=ag r1
 have hB4:Below w.heap.size w ((w1.alloc (.cells #[.int .i64 dk,.int .i64 val,.string tx,.int .i64 (cnt:Int)] 177)).alloc (.cells #[.int .i64 dk,.int .i64 val,.string tx,.slice none 0 0] 76)):=(ae ba).alloc (by simp;omega) _
 have e4:=heap_alloc_new (w1.alloc (.cells #[.int .i64 dk,.int .i64 val,.string tx,.int .i64 (cnt:Int)] 177)) (.cells #[.int .i64 dk,.int .i64 val,.string tx,.slice none 0 0] 76)
 rw[World.size_alloc]at e4
 have BK:=af (show Qe w sb so cs T D no nc (w1.heap.size+1) nb N mo s us (.int .i64 dk) (.int .i64 val) (.string tx) us.length (.int .i64 0) ((w1.alloc (.cells #[.int .i64 dk,.int .i64 val,.string tx,.int .i64 (cnt:Int)] 177)).alloc (.cells #[.int .i64 dk,.int .i64 val,.string tx,.slice none 0 0] 76))from
  ⟨0,N,mo,mc,.slice none 0 0,[],by omega,rfl,(ae HN).below hB4,rfl,au.aw hB4,aB (aB r1 _) _,e4,World.ownsRow_nil _ _ _ _,trivial,(ae HST).below hB4,(ae VG).below hB4⟩)
 have cu:=af hB4
 clear hb1 r0 r1 hB4 e4
 go_wp2_with fail
 refine(ae AG _ (ae cu)).mono ?_
 rintro e w2 ⟨rfl,rfl⟩
 have Ur:=af (show xs.length=us.length from ae Na)
 go_wp2_with fail
 go_loopg [37] us.length (fun k iv wr=>Qe w sb so cs T D no nc (w1.heap.size+1) nb N mo s us (.int .i64 dk) (.int .i64 val) (.string tx) k iv wr)
 case atStart=>exact ae BK
 case round=>
  clear BK
  obtain⟨j,N1,mo1,mc1,av,vs,hkj,rfl,kO,o9,cW,vM,tK,how,hall,hst,bt⟩:=hrel
  obtain⟨oo,cp,rfl⟩:=fu how
  have z2:=ag tK
  by_cases hlt:j<us.length
  ·have FM:j<xs.length:=by have:=ae Ur;omega
   obtain⟨gx,ex,zx,cx⟩:=(ae oq wr _ bt).at FM
   subst ex
   have hsj:Zc.size us[j]≤Zc.sizeL us:=Zc.iZ (List.getElem_mem hlt)
   have hN1:N1.length≤N.length+Zc.sizeL (us.take j):=by
    have:=Zc.Ir (us.take j) (Zc.br N)
    rw[←o9,Zc.Em,Zc.Em]at this
    exact this
   have M8:Zc.sizeL (us.take (j+1))=Zc.sizeL (us.take j)+Zc.size us[j]:=by
    rw[List.take_add_one,List.getElem?_eq_getElem hlt]
    exact sizeL_snoc _ _
   have hle:=xE us (j+1)
   have IC:=af (ae I wr sb so cs T D no nc fr xs[j] us[j] nb N1 mo1 mc1 hst (ae Qf) (ae Uq) (ae qW) kO bt (ae o6 _ (List.getElem_mem FM)) (ae Ic j _ _ (List.getElem?_eq_getElem FM) (List.getElem?_eq_getElem hlt)) (by have:=ae km;have:=ae HS;omega) (by have:=ae km;have:=ae HL;omega))
   have jG:=af (show (us.take (j+1)).foldl Zc.aU (Zc.br N)=Zc.aU (Zc.br N1) us[j]by rw[List.take_add_one,List.getElem?_eq_getElem hlt,List.foldl_append,o9];rfl)
   have sD:=af (show us.take (j+1)=us.take j++[us[j]]by rw[List.take_add_one,List.getElem?_eq_getElem hlt];rfl)
   have aW:=af hkj
   have bh:=af hlt
   have gW:=af kO
   have jl:=af cW
   have eM:=af vM
   have zL:=af tK
   have HOW:=af how
   have BR:=af hall
   have BF:=af hst
   have Ts:=af bt
   have j0:(0:Int)≤(j:Int):=by omega
   have j1:(j:Int)<(xs.length:Int):=by omega
   have j3:j≤3:=by omega
   generalize xs[j]=na at*
   generalize us[j]=uj at*
   clear kO o9 cW vM tK how hall hst bt hsj hN1 M8 hle FM hkj hlt
   go_wp2_with fail
   refine(ae IC).mono ?_
   rintro e w2 ⟨a2,N2,mo2,mc2,rfl,Us,hv2,hr2,hf2⟩
   have q0:=(hf2.block w.heap.size (ag (ae eM)) ((ae gW).apart (ae eM) (by decide) (by decide))).trans (ae eM)
   have q2:=(hf2.block (w1.heap.size+1) (ag (ae zL)) ((ae gW).apart (ae zL) (by decide) (by decide))).trans (ae zL)
   have vG:=af (ai (ae HOW) (fun g q=>hf2.block g ((ae HOW).lt g q).2 (by
    rcases(ae HOW).2 with⟨c,_⟩ | ⟨g',cp',cur,c,_,hc,_⟩
    ·rw[c]at q;simp[Value.ownBlock]at q
    ·rw[c]at q
     simp[Value.ownBlock]at q
     subst q
     exact(ae gW).apart hc (by decide) (by decide))))
   have y2:=ah q2
   have yz2:=ag q2
   have Xj:=af q0
   have vN:=af q2
   have tM:=af Us
   have zM:=af hv2
   have tN:=af hr2
   have vK:=af hf2
   have FO:=hf2.size
   have YV:w.heap.size<w1.heap.size+1:=by omega
   clear q0 q2 Us hv2 hr2 hf2 IC
   go_wp2_with (first | (at_builtin;go_must (refine wpList_append_own_at _ rfl (.tmp 46) (.tmp 48) 74 rfl (w1.heap.size+1+1) 76 i0' (.agg #[.int .i64 0,.int .i64 0,.string ⟨#[]⟩,.slice none 0 0]) 4 56 Tryz.underlying74 hi hz0 hz1 hz2 rfl (by decide) _ j (vs.flatMap gN) rfl (((ae vG).alloc _).alloc _) ⟨w2.heap.size+1,0,none⟩ 1 1 [.int .i64 a2.k,.int .i64 a2.val,.string a2.tx,.slice a2.ao a2.n a2.cap] rfl rfl (Bt _ _ _ _ _ _ _) (Bu _ _ _ _ _ _) (by unfold maxLen;omega) (by omega) (by simp;omega) ?_);go_must (intro v' w7 hown' hgrow _ hat;obtain⟨g',cap',hv,hcm⟩:=fp hown';subst hv;have sA:=af (show (Value.slice (some ⟨g',0,none⟩) (j+1) cap').ownBlock=(Value.slice oo j cp).ownBlock∨(Value.slice (some ⟨g',0,none⟩) (j+1) cap').ownBlock=some _ from hat);have HG:=af (show _ from hgrow);have AU:=af hown';have gZ:=af ((((Below.refl (w1.heap.size+1+1) w2).alloc (by omega) (.cells #[.int .i64 a2.k,.int .i64 a2.val,.string a2.tx,.slice a2.ao a2.n a2.cap] 76)).alloc (by simp;omega) (.cells #[.int .i64 a2.k,.int .i64 a2.val,.string a2.tx,.slice a2.ao a2.n a2.cap] 76)).grown hgrow (by simp;omega) (fun k q=>((ae vG).lt k q).1));have q7:=((ae gZ).block (w1.heap.size+1) (by omega)).trans (ae vN);have Xk:=af q7;have z7:=ah q7;have zx7:=ay q7;have zz7:=ag q7;clear hown' hgrow hat q7)))
   obtain⟨M,hM⟩:=Zc.rJ uj (Zc.br N1)
   have mL:=af (Lb (ae gW) (ae BR) (ae tN) ((ae zM).trans hM) (ae vK) z2 (fun k q=>(ae HOW).lt k q) (ae HG) (ae sA) (.slice (some ⟨g',0,none⟩) (j+1) cap'))
   clear hM
   go_roundg (gk - 1)
   case measure=>have:=ae aW;have:=ae bh;omega
   case rel=>
    have hG:=ae HG
    have Qg:=hG.size
    simp only[World.size_alloc]at Qg
    have keepN:∀g,g<w2.heap.size→(∀p,oo=some p→g≠p.block)→g≠w1.heap.size+1→(w7.setCell ⟨w1.heap.size+1,3,none⟩ (.slice (some ⟨g',0,none⟩) (j+1) cap')).heap[g]?=w2.heap[g]?:=fun g h1 h2 h3=>by
     rw[aL _ _ _ _ h3,hG.block g (by simp;omega) (jc h2),Below.heap_alloc _ _ _ (by simp;omega),Below.heap_alloc _ _ _ h1]
    have oty:∀(g:Nat) (xs:Array Value) (S:TypeId),w2.heap[g]?=some (.cells xs S (0,0))→S≠76→∀p,oo=some p→g≠p.block:=fun g xs S hg hS p hp e=>by
     rcases(ae vG).2 with⟨c,_⟩ | ⟨g'',cp',cur,c,_,hc,_⟩
     ·rw[hp]at c;cases c
     ·simp only[Value.slice.injEq]at c
      rw[hp]at c
      obtain⟨c,_⟩:=c
      cases c
      dsimp only at e
      subst e
      rw[hc]at hg
      simp only[Option.some.injEq,Obj.cells.injEq]at hg
      exact hS hg.2.1.symm
    have tyT:∀(g:Nat) (xs:Array Value) (S:TypeId),w2.heap[g]?=some (.cells xs S (0,0))→S≠76→(w7.setCell ⟨w1.heap.size+1,3,none⟩ (.slice (some ⟨g',0,none⟩) (j+1) cap')).heap[g]?=w2.heap[g]?:=fun g xs S hg hS=>keepN g (ag hg) (oty g xs S hg hS) (fun e=>by
     subst e
     rw[ae vN]at hg
     simp only[Option.some.injEq,Obj.cells.injEq]at hg
     exact hS hg.2.1.symm)
    have hB7:=ae gZ
    have lowO:∀p,oo=some p→w1.heap.size+1+1≤p.block:=fun p q=>((ae vG).lt p.block (by rw[q];rfl)).1
    refine⟨j+1,N2,mo2,mc2,.slice (some ⟨g',0,none⟩) (j+1) cap',vs++[a2],by have:=ae aW;have:=ae bh;omega,by go_num,⟨(tyT _ _ _ (ae tM).blk (by decide)).trans (ae tM).blk,ai (ae tM).own fun g q=> ?_⟩,(ae zM).trans (ae jG).symm,?_,?_,?_,?_,?_,?_,?_⟩
    ·rcases(ae tM).own.2 with⟨c,_⟩ | ⟨g'',cp',cur,c,_,hc,_⟩
     ·rw[c]at q;simp[Value.ownBlock]at q
     ·rw[c]at q
      simp[Value.ownBlock]at q
      subst q
      exact tyT _ _ _ hc (by decide)
    ·have q:=(ae jl).trans (ae vK)
     refine⟨hG.os.trans q.os,hG.tape.trans q.tape,hG.output.trans q.output,by rw[cN];have:=q.size;omega,fun k hk hr=> ?_,q.row⟩
     rw[keepN k (by have:=q.size;omega) (fun p hp e=>by have:=lowO p hp;omega) (by omega)]
     exact q.block k hk hr
    ·exact aG ((hB7.block _ (by omega)).trans (ae Xj)) (by omega) _ _
    ·have:=aA (ae Xk) 3 (.slice (some ⟨g',0,none⟩) (j+1) cap')
     simpa using this
    ·have:=ai (ae AU) (w':=w7.setCell ⟨w1.heap.size+1,3,none⟩ (.slice (some ⟨g',0,none⟩) (j+1) cap')) (fun k q=>aL _ _ _ _ (by have:=((ae AU).lt k q).1;omega))
     rw[List.flatMap_append]
     simpa [gN] using this
    ·rw[ae sD]
     exact ae mL
    ·have hs2:=(ae BF).Iq (ae gW) (ae Qf) (ae Uq) (ae vK)
     refine⟨?_,hs2.cel,ai hs2.own fun g q=> ?_,hs2.ty⟩
     ·by_cases hTT:T=76
      ·have tO:=ag (ae HST).blk
       exact(aL _ _ _ _ (by omega)).trans ((hG.block sb (by have:=ag hs2.blk;simp;omega) (jc fun p hp e=>by have:=lowO p hp;omega)).trans ((Below.heap_alloc _ _ _ (by have:=ag hs2.blk;simp;omega)).trans ((Below.heap_alloc _ _ _ (ag hs2.blk)).trans hs2.blk)))
      ·exact(tyT _ _ _ hs2.blk hTT).trans hs2.blk
     ·rcases hs2.own.2 with⟨c,_⟩ | ⟨g'',cp',cur,c,_,hc,_⟩
      ·rw[c]at q;simp[Value.ownBlock]at q
      ·rw[c]at q
       simp[Value.ownBlock]at q
       subst q
       exact tyT _ _ _ hc (by decide)
    ·exact((ae Ts).Iq (ae vK)).keep fun g cs hp hc=>⟨(tyT _ _ _ hc (by decide)).trans hc,hp⟩
  ·obtain rfl:j=us.length:=by omega
   rw[List.take_length]at hall o9
   have Ut:xs.length=us.length:=ae Ur
   have Uu:RV (s+1) (Zc.br N1) (fun g=>w.heap.size<g) wr ⟨dk,val,tx,oo,us.length,cp⟩ u:=by
    refine⟨ae Up _ _ _,fun q=> ?_⟩
    rw[ae Xh]at q⊢
    rcases how.2 with⟨_,h0⟩ | ⟨g,cap',cur,q1,hb,hc,_,_,_,ht⟩
    ·exact absurd (List.length_eq_zero_iff.1 h0) q
    ·simp only[Value.slice.injEq]at q1
     obtain⟨rfl,_,rfl⟩:=q1
     exact⟨g,vs,cur,rfl,by omega,hc,by rw[hall.length];exact ht,hall.imp fun _ _ r=>r.keep fun k cs hp hc'=>⟨hc',by omega⟩⟩
   have r1:=ah vM
   have x1:=ay vM
   have y1:=ag vM
   have r2:=ah tK
   have Xl:=af Uu
   have gW:=af kO
   have jG:=af o9
   have jl:=af cW
   have eM:=af vM
   have zL:=af tK
   clear kO o9 cW tK how hall hst bt hkj Uu vM
   rw[←Ut]
   go_wp2_with fail
   rw[Ut]
   refine bodyPost_ret (v:= .agg #[.int .i64 dk,.int .i64 val,.string tx,.slice oo us.length cp]) (by simp[results,Tryz.results57,go_sem,r1]) rfl ?_
   have nB:∀g,g≠w.heap.size→((((wr.setCell ⟨w.heap.size,0,none⟩ (.int .i64 dk)).setCell ⟨w.heap.size,1,none⟩ (.int .i64 val)).setCell ⟨w.heap.size,2,none⟩ (.string tx)).setCell ⟨w.heap.size,3,none⟩ (.slice oo us.length cp)).heap[g]?=wr.heap[g]?:=fun g hg=>by rw[aL _ _ _ _ hg,aL _ _ _ _ hg,aL _ _ _ _ hg,aL _ _ _ _ hg]
   have VH:¬bp nb mo1 w.heap.size:=(ae gW).apart (ae eM) (by decide) (by decide)
   have hne:nb≠w.heap.size:=by have:=ag (ae HN).blk;omega
   refine⟨⟨dk,val,tx,oo,us.length,cp⟩,N1,mo1,mc1,rfl,⟨(nB nb hne).trans (ae gW).blk,ai (ae gW).own (fun g q=>nB g fun e=> ?_)⟩,by rw[ae Xi];exact ae jG,?_,?_⟩
   ·subst e
    exact VH (Or.inr (by
     cases mo1 with
     | none=>simp[Value.ownBlock]at q
     | some a=>simp[Value.ownBlock]at q;exact⟨a,rfl,q.symm⟩))
   ·exact(ae Xl).keep (fun g cs hp hc=>⟨(nB g (by omega)).trans hc,by omega⟩)
   ·have q:=ae jl
    refine⟨q.os,q.tape,q.output,by simp only[cN];exact q.size,fun k hk hr=> ?_,q.row⟩
    rw[nB k (by omega)]
    exact q.block k hk hr
theorem tree_all:∀s,BQ s
 | 0=>fun _ _ _ _ _ _ _ _ _ _ u _ _ _ _ _ _ _ _ _ _ _ _ hs _=>absurd hs (by have:=Zc.size_pos u;omega)
 | s+1=>fun w sb so cs T D no nc fr n u nb N mo mc h hT1 hT2 aF hn bt pT ht hs hl=>by
  obtain⟨d,us,hd,od,md,mh,su,hu⟩:=BH aF pT ht
  rcases hu with⟨hk,rfl,rfl⟩ | hu
  ·exact K7 s w sb so cs T D no nc fr n d nb N mo mc h hT1 hT2 aF hn pT hd hk (by simpa [Zc.size] using hl)
  ·have hk:d.k≠1:=by rcases hu with⟨q,_⟩ | ⟨q,_⟩<;>omega
   exact Iw (tree_all s) w sb so cs T D no nc fr n u us d nb N mo mc h hT1 hT2 aF hn bt pT hd od md hk mh su hu hs hl
structure BS (w:World) (cb:Nat) (V:List Nat) (vo:Option Addr) (vc:Nat):Prop where
 blk:w.heap[cb]?=some (.cells #[.slice vo V.length vc] 93 (0,0))
 own:w.ownsRow 0 3 1 (.slice vo V.length vc) V.length (V.map aK)
def bX (sb:Nat) (no:Option Addr) (cb:Nat) (vo:Option Addr) (k:Nat):Prop:=k=sb∨rowOf no k∨k=cb∨rowOf vo k
structure fK (P:Nat→Prop) (w:World) (sb so:Nat) (cs:Array Value) (T:TypeId) (cb:Nat) (D:List Ng) (V:List Nat) (no:Option Addr) (nc:Nat) (vo:Option Addr) (vc:Nat):Prop where
 st:bG w sb so cs T D no nc
 sc:BS w cb V vo vc
 t1:T≠93
 t2:T≠3
 args:a8 w D fun g=>P g∧¬rowOf vo g
theorem aQ {w:World} {b:Nat} {S S':TypeId} {sz:Nat} {o:Option Addr} {n cap:Nat} {xs:List Value} (h:w.ownsRow b S sz (.slice o n cap) n xs) {g:Nat} {ys:Array Value} (hg:w.heap[g]?=some (.cells ys S' (0,0))) (hne:S'≠S):¬rowOf o g:=by
 rintro⟨p,rfl,rfl⟩
 rcases h.2 with⟨c,_⟩ | ⟨g,cp,cur,c,_,hc,_⟩
 ·cases c
 ·simp only[Value.slice.injEq,Option.some.injEq]at c
  obtain⟨rfl,_⟩:=c
  rw[hc]at hg
  simp only[Option.some.injEq,Obj.cells.injEq]at hg
  exact hne hg.2.1.symm
theorem aI {o:Option Addr} {n cap g:Nat} (q:(Value.slice o n cap).ownBlock=some g):rowOf o g:=by
 cases o with
 | none=>simp[Value.ownBlock]at q
 | some a=>simp[Value.ownBlock]at q;exact⟨a,rfl,q.symm⟩
theorem bS {o:Option Addr} {n cap g:Nat} (q:¬rowOf o g):some g≠(Value.slice o n cap).ownBlock:=jc fun p hp e=>q ⟨p,hp,e⟩
theorem aM {w:World} {b:Nat} {S:TypeId} {sz:Nat} {o:Option Addr} {n cap:Nat} {xs:List Value} (h:w.ownsRow b S sz (.slice o n cap) n xs) {g:Nat} (hg:rowOf o g):∃cur,w.heap[g]?=some (.cells cur S (0,0)):=by
 obtain⟨p,rfl,rfl⟩:=hg
 rcases h.2 with⟨c,_⟩ | ⟨g,cp,cur,c,_,hc,_⟩
 ·cases c
 ·simp only[Value.slice.injEq,Option.some.injEq]at c
  obtain⟨rfl,_⟩:=c
  exact⟨cur,hc⟩
section
variable {P:Nat→Prop} {w:World} {sb so:Nat} {cs:Array Value} {T:TypeId} {cb:Nat} {D:List Ng} {V:List Nat} {no:Option Addr} {nc:Nat} {vo:Option Addr} {vc:Nat}
theorem BS.below {w':World} (h:BS w cb V vo vc) (hb:Below w.heap.size w w'):BS w' cb V vo vc:=
 ⟨(hb.block cb (ag h.blk)).trans h.blk,ai h.own (fun g q=>hb.block g (h.own.lt g q).2)⟩
theorem fK.below {w':World} (h:fK P w sb so cs T cb D V no nc vo vc) (hb:Below w.heap.size w w'):fK P w' sb so cs T cb D V no nc vo vc:=
 ⟨h.st.below hb,h.sc.below hb,h.t1,h.t2,h.args.below hb⟩
theorem fK.ne (h:fK P w sb so cs T cb D V no nc vo vc):sb≠cb:=fun e=>by
 have h1:=h.st.blk
 rw[e,h.sc.blk]at h1
 simp only[Option.some.injEq,Obj.cells.injEq]at h1
 exact h.t1 h1.2.1.symm
theorem fK.rows (h:fK P w sb so cs T cb D V no nc vo vc):∀k,bX sb no cb vo k→k<w.heap.size:=by
 rintro k (rfl | ⟨p,rfl,rfl⟩ | rfl | ⟨p,rfl,rfl⟩)
 ·exact ag h.st.blk
 ·exact(h.st.own.lt p.block rfl).2
 ·exact ag h.sc.blk
 ·exact(h.sc.own.lt p.block rfl).2
theorem fK.node {W w1:World} (h:fK P w sb so cs T cb D V no nc vo vc) (_hP:∀g,w.heap.size≤g→P g) (sF:so<cs.size) (hW:Below w.heap.size w W) {g cap':Nat} {d:Ng}
 (hown:w1.ownsRow 0 180 7 (.slice (some ⟨g,0,none⟩) (D.length+1) cap') (D.length+1) (kE D++n9 d)) (hg:W.grownBy w1 (Value.slice no D.length nc).ownBlock) (hat:rowOf no g∨w.heap.size≤g)
 (hd:d.args≠[]→∃(q:Nat) (xs:Array Value),d.ao=some ⟨q,0,none⟩∧P q∧¬rowOf vo q∧q<w.heap.size∧w.heap[q]?=some (.cells xs 3 (0,0))∧xs.toList.take d.args.length=d.args.map aK):
 fK P (w1.setCell ⟨sb,so,none⟩ (.slice (some ⟨g,0,none⟩) (D.length+1) cap')) sb so (cs.setIfInBounds so (.slice (some ⟨g,0,none⟩) (D.length+1) cap')) T cb (D++[d]) V (some ⟨g,0,none⟩) cap' vo vc∧au (bX sb no cb vo) (bX sb (some ⟨g,0,none⟩) cb vo) w (w1.setCell ⟨sb,so,none⟩ (.slice (some ⟨g,0,none⟩) (D.length+1) cap')):=by
 have hz:=hW.size
 have s0:=ag h.st.blk
 have c0:=ag h.sc.blk
 have keep:∀k,k<w.heap.size→k≠sb→¬rowOf no k→(w1.setCell ⟨sb,so,none⟩ (.slice (some ⟨g,0,none⟩) (D.length+1) cap')).heap[k]?=w.heap[k]?:=fun k h1 h2 h3=>by
  rw[aL _ _ _ _ h2,hg.block k (by omega) (bS h3),hW.block k h1]
 have nsb:¬rowOf no sb:=aQ h.st.own h.st.blk h.st.ty
 have ncb:¬rowOf no cb:=aQ h.st.own h.sc.blk (by decide)
 have gsb:g≠sb:=fun e=>by
  rcases hat with q | q
  ·exact nsb (e ▸ q)
  ·omega
 have row:∀k,bX sb (some ⟨g,0,none⟩) cb vo k→bX sb no cb vo k∨w.heap.size≤k:=by
  rintro k (e | ⟨p,q,e⟩ | e | e)
  ·exact Or.inl (Or.inl e)
  ·cases q
   dsimp only at e
   subst e
   rcases hat with q | q
   ·exact Or.inl (Or.inr (Or.inl q))
   ·exact Or.inr q
  ·exact Or.inl (Or.inr (Or.inr (Or.inl e)))
  ·exact Or.inl (Or.inr (Or.inr (Or.inr e)))
 have gq:∀(k:Nat) (ys:Array Value) (S:TypeId),w.heap[k]?=some (.cells ys S (0,0))→S≠T→S≠180→(w1.setCell ⟨sb,so,none⟩ (.slice (some ⟨g,0,none⟩) (D.length+1) cap')).heap[k]?=some (.cells ys S (0,0)):=fun k ys S hk h1 h2=>(keep k (ag hk) (fun e=>by
  rw[e,h.st.blk]at hk
  simp only[Option.some.injEq,Obj.cells.injEq]at hk
  exact h1 hk.2.1.symm) (aQ h.st.own hk h2)).trans hk
 refine⟨⟨⟨?_,?_,?_,h.st.ty⟩,⟨gq cb _ _ h.sc.blk (Ne.symm h.t1) (by decide),ai h.sc.own fun k q=> ?_⟩,h.t1,h.t2,?_⟩,⟨hg.os.trans hW.os,hg.tape.trans hW.tape,hg.output.trans hW.output,by rw[cN];have:=hg.size;omega,fun k hk hr=>keep k hk (fun e=>hr (Or.inl e)) (fun q=>hr (Or.inr (Or.inl q))),row⟩⟩
 ·have q0:w1.heap[sb]?=some (.cells cs T (0,0)):=by
   rw[hg.block sb (by omega) (bS nsb),hW.block sb s0]
   exact h.st.blk
  exact aA q0 so _
 ·rw[Array.getElem?_setIfInBounds,if_pos rfl,if_pos sF]
  simp
 ·rw[Hs,List.length_append]
  exact ai hown (fun k q=>aL _ _ _ _ (by simp[Value.ownBlock]at q;omega))
 ·obtain⟨cur,hc⟩:=aM h.sc.own (aI q)
  exact(gq k _ _ hc (Ne.symm h.t2) (by decide)).trans hc.symm
 ·intro d' Qh hne
  rcases List.mem_append.1 Qh with q | q
  ·obtain⟨r,xs,h1,h2,h3,h4⟩:=h.args d' q hne
   exact⟨r,xs,h1,h2,gq r _ _ h3 (Ne.symm h.t2) (by decide),h4⟩
  ·obtain rfl:d'=d:=by simpa using q
   obtain⟨r,xs,h1,h2,h3,h4,h5,h6⟩:=hd hne
   exact⟨r,xs,h1,⟨h2,h3⟩,gq r _ _ h5 (Ne.symm h.t2) (by decide),h6⟩
theorem fK.VI {W w1:World} (h:fK P w sb so cs T cb D V no nc vo vc) (hW:Below w.heap.size w W) {g cap' n:Nat}
 (hown:w1.ownsRow 0 3 1 (.slice (some ⟨g,0,none⟩) (V.length+1) cap') (V.length+1) (V.map aK++[aK n])) (hg:W.grownBy w1 (Value.slice vo V.length vc).ownBlock) (hat:rowOf vo g∨w.heap.size≤g):
 fK P (w1.setCell ⟨cb,0,none⟩ (.slice (some ⟨g,0,none⟩) (V.length+1) cap')) sb so cs T cb D (V++[n]) no nc (some ⟨g,0,none⟩) cap'∧au (bX sb no cb vo) (bX sb no cb (some ⟨g,0,none⟩)) w (w1.setCell ⟨cb,0,none⟩ (.slice (some ⟨g,0,none⟩) (V.length+1) cap')):=by
 have hz:=hW.size
 have s0:=ag h.st.blk
 have c0:=ag h.sc.blk
 have keep:∀k,k<w.heap.size→k≠cb→¬rowOf vo k→(w1.setCell ⟨cb,0,none⟩ (.slice (some ⟨g,0,none⟩) (V.length+1) cap')).heap[k]?=w.heap[k]?:=fun k h1 h2 h3=>by
  rw[aL _ _ _ _ h2,hg.block k (by omega) (bS h3),hW.block k h1]
 have ncb:¬rowOf vo cb:=aQ h.sc.own h.sc.blk (by decide)
 have gcb:g≠cb:=fun e=>by
  rcases hat with q | q
  ·exact ncb (e ▸ q)
  ·omega
 have row:∀k,bX sb no cb (some ⟨g,0,none⟩) k→bX sb no cb vo k∨w.heap.size≤k:=by
  rintro k (e | e | e | ⟨p,q,e⟩)
  ·exact Or.inl (Or.inl e)
  ·exact Or.inl (Or.inr (Or.inl e))
  ·exact Or.inl (Or.inr (Or.inr (Or.inl e)))
  ·cases q
   dsimp only at e
   subst e
   rcases hat with q | q
   ·exact Or.inl (Or.inr (Or.inr (Or.inr q)))
   ·exact Or.inr q
 have gq:∀(k:Nat) (ys:Array Value) (S:TypeId),w.heap[k]?=some (.cells ys S (0,0))→S≠93→S≠3→(w1.setCell ⟨cb,0,none⟩ (.slice (some ⟨g,0,none⟩) (V.length+1) cap')).heap[k]?=some (.cells ys S (0,0)):=fun k ys S hk h1 h2=>(keep k (ag hk) (fun e=>by
  rw[e,h.sc.blk]at hk
  simp only[Option.some.injEq,Obj.cells.injEq]at hk
  exact h1 hk.2.1.symm) (aQ h.sc.own hk h2)).trans hk
 refine⟨⟨⟨gq sb _ _ h.st.blk h.t1 h.t2,h.st.cel,ai h.st.own fun k q=> ?_,h.st.ty⟩,⟨?_,?_⟩,h.t1,h.t2,?_⟩,⟨hg.os.trans hW.os,hg.tape.trans hW.tape,hg.output.trans hW.output,by rw[cN];have:=hg.size;omega,fun k hk hr=>keep k hk (fun e=>hr (Or.inr (Or.inr (Or.inl e)))) (fun q=>hr (Or.inr (Or.inr (Or.inr q)))),row⟩⟩
 ·obtain⟨cur,hc⟩:=aM h.st.own (aI q)
  exact(gq k _ _ hc (by decide) (by decide)).trans hc.symm
 ·have q0:w1.heap[cb]?=some (.cells #[.slice vo V.length vc] 93 (0,0)):=by
   rw[hg.block cb (by omega) (bS ncb),hW.block cb c0]
   exact h.sc.blk
  have:=aA q0 0 (.slice (some ⟨g,0,none⟩) (V.length+1) cap')
  simpa using this
 ·rw[List.length_append,List.map_append]
  exact ai hown (fun k q=>aL _ _ _ _ (by simp[Value.ownBlock]at q;omega))
 ·intro d' Qh hne
  obtain⟨r,xs,h1,⟨h2,h2'⟩,h3,h4⟩:=h.args d' Qh hne
  refine⟨r,xs,h1,⟨h2,?_⟩,(keep r (ag h3) (fun e=>by
   rw[e,h.sc.blk]at h3
   simp only[Option.some.injEq,Obj.cells.injEq]at h3
   exact absurd h3.2.1 (by decide)) h2').trans h3,h4⟩
  rintro⟨p,q,e⟩
  cases q
  dsimp only at e
  subst e
  rcases hat with q | q
  ·exact h2' q
  ·have:=ag h3;omega
end
end Go.Proofs.YthfjnfcekeknlaaGreatDoor
namespace Go.Proofs.YthfjnfcekeknlaaGreatDoor
open Go.RowKit
theorem Iy (w:World) (sb so cb:Nat) (V:List Nat) (vo:Option Addr) (vc:Nat) (i:Nat) (h:BS w cb V vo vc) (hi:i<V.length):
 Calls Tryz.prog 94 #[.pointer (some ⟨sb,so,none⟩),.int .i64 (i:Int),.pointer (some ⟨cb,0,none⟩)] w fun e w'=>e= .returned (aK V[i])∧w'=w:=by
 have c0:=ah h.blk 0
 have cz:=ag h.blk
 simp only[List.getElem?_toArray,List.getElem?_cons_zero]at c0
 obtain⟨g,hg⟩:∃g,vo=some ⟨g,0,none⟩:=by
  rcases h.own.2 with⟨q,q2⟩ | ⟨g,cp,cur,q,_⟩
  ·omega
  ·simp only[Value.slice.injEq]at q
   exact⟨g,q.1⟩
 subst hg
 have f0:w.cell? ⟨g,i,none⟩=some (.int .i64 (V[i]:Int)):=by
  rw[h.own.cellAt i (by omega),List.getElem?_map,List.getElem?_eq_getElem hi]
  rfl
 have gz:=(h.own.lt g rfl).2
 have i0:(0:Int)≤(i:Int):=by omega
 have i1:(i:Int)<(V.length:Int):=by omega
 have t1:decide ((V.length:Int)≤(i:Int))=false:=by simp;omega
 have t2:decide ((i:Int)<0)=false:=by simp
 clear h
 generalize V[i]=n at*
 go_enter Tryz.func94,Tryz.ntmps94
 go_wp2_with fail
 refine wp_loop_rounds 1 ?_
 rw[rounds_succ]
 go_wp2_with fail
 go_ret
 exact⟨rfl,rfl⟩
def tP (n:Nat):Ng:=⟨1,0,⟨#[]⟩,0,none,0,[],n,0⟩
theorem Iz (P:Nat→Prop) (w:World) (sb so:Nat) (cs:Array Value) (T:TypeId) (cb:Nat) (D:List Ng) (V:List Nat) (no:Option Addr) (nc:Nat) (vo:Option Addr) (vc:Nat) (h:fK P w sb so cs T cb D V no nc vo vc) (hP:∀g,w.heap.size≤g→P g) (hd:D.length≤1000000000) (hv:V.length≤1000000000):
 Calls Tryz.prog 94 #[.pointer (some ⟨sb,so,none⟩),.int .i64 (V.length:Int),.pointer (some ⟨cb,0,none⟩)] w fun e w'=>e= .returned (aK D.length)∧∃no' nc' vo' vc',fK P w' sb so (cs.setIfInBounds so (.slice no' (D.length+1) nc')) T cb (D++[tP D.length]) (V++[D.length]) no' nc' vo' vc'∧au (bX sb no cb vo) (bX sb no' cb vo') w w':=by
 obtain⟨ti,hi,hz0,hz1,hz2⟩:=info_parts infoNd
 obtain⟨tj,hj,iA,iB,iC⟩:=info_parts infoIn
 have s0:=h.st.cell
 have sz:=ag h.st.blk
 have c0:=ah h.sc.blk 0
 have cz:=ag h.sc.blk
 simp only[List.getElem?_toArray,List.getElem?_cons_zero]at c0
 have hne:=h.ne
 have sF:so<cs.size:=by
  have:=h.st.cel
  exact(Array.getElem?_eq_some_iff.1 this).1
 have H:=af h
 have HP:=af hP
 have II:=af sF
 have t1:decide ((V.length:Int)≤(V.length:Int))=true:=by simp
 have t2:decide ((V.length:Int)<0)=false:=by simp
 have t3:decide ((V.length:Int)+1≤(V.length:Int))=false:=by simp;omega
 have i0:(0:Int)≤(V.length:Int):=by omega
 have i1:(V.length:Int)<(V.length:Int)+1:=by omega
 have n1:sb≠cb:=hne
 have n2:cb≠sb:=Ne.symm hne
 have tq:=af (show some sb≠(Value.slice no D.length nc).ownBlock from bS (aQ h.st.own h.st.blk h.st.ty))
 have Xm:=af (show some cb≠(Value.slice no D.length nc).ownBlock from bS (aQ h.st.own h.sc.blk (by decide)))
 have VJ:=af (show some cb≠(Value.slice vo V.length vc).ownBlock from bS (aQ h.sc.own h.sc.blk (by decide)))
 clear h hP sF
 go_enter Tryz.func94,Tryz.ntmps94
 go_wp2_with fail
 refine wp_loop_rounds 2 ?_
 rw[rounds_succ]
 go_wp2_with (first | (at_builtin;go_loud ((refine wpList_append_own_at _ rfl (.tmp 36) (.tmp 38) 25 rfl 0 3 tj (.int .i64 0) 1 8 Tryz.underlying25 hj iA iB iC rfl (by decide) _ V.length (V.map aK) rfl ((ae HN).1.sc.own.alloc _) ⟨w7.heap.size,0,none⟩ 1 1 [.int .i64 (D.length:Int)] rfl rfl (jd _ _ _ _ (by rw[cN])) (by simp[Value.oneCell']) (by unfold maxLen;omega) (by omega) (Nat.zero_le _) ?_);(intro v2 w9 hown2 hgrow2 _ Qi;obtain⟨g2,cap2,hv2,-⟩:=fp hown2;subst hv2;have HM:=af ((ae HN).1.VI ((Below.refl _ _).alloc (Nat.le_refl _) _) (n:=D.length) hown2 hgrow2 (by rcases Qi with q | q;exact Or.inl (aI q.symm);(right;simp only[Value.ownBlock,World.size_alloc,cN,Option.some.injEq]at q⊢;omega)));have m0:=(hgrow2.cell_far ⟨cb,0,none⟩ (by simp only[World.size_alloc,cN];omega) (ae VJ)).trans ((World.cell?_alloc_past _ _ _ (by rw[cN];exact zz7)).trans ((World.cell?_setCell_other _ _ _ _ (by intro e;first | exact n1 (congrArg Addr.block e) | exact n2 (congrArg Addr.block e))).trans k0));have m1:w9.frozen? ⟨cb,0,none⟩=false:=(by have:=ay (ae HM).1.sc.blk 0;rwa [World.frozen?_setCell]at this);have m2:w9.cell? ⟨g2,V.length,none⟩=some (.int .i64 (D.length:Int)):=(hown2.cellAt V.length (by omega)).trans (by simp);have mz:=(hown2.lt g2 rfl);have hcw:=ag (ae HM).1.sc.blk;have mne:cb≠g2:=(fun e=>aQ (ae HM).1.sc.own (ae HM).1.sc.blk (by decide) ⟨_,rfl,e⟩);clear hown2 hgrow2 Qi))) | (at_builtin;go_must (refine wpList_append_own_at _ rfl (.tmp 24) (.tmp 28) 86 rfl 0 180 ti (.agg #[.int .i64 0,.int .i64 0,.string ⟨#[]⟩,.int .i64 0,.slice none 0 0,.int .i64 0,.int .i64 0]) 7 80 Tryz.underlying86 hi hz0 hz1 hz2 rfl (by decide) _ D.length (kE D) rfl ((ae H).st.own.alloc _) ⟨w.heap.size,0,none⟩ 1 1 [.int .i64 1,.int .i64 0,.string ⟨#[]⟩,.int .i64 0,.slice none 0 0,.int .i64 (D.length:Int),.int .i64 0] rfl rfl (Tn _ _ _ _ _ rfl rfl) (by simp[Value.oneCell']) (by unfold maxLen;omega) (by omega) (Nat.zero_le _) ?_);go_must (intro v' w7 hown' hgrow _ hat;obtain⟨g',cap',hv',-⟩:=fp hown';subst hv';have HN:=af ((ae H).node (ae HP) (ae II) ((Below.refl _ _).alloc (Nat.le_refl _) _) (d:=tP D.length) hown' hgrow (by rcases hat with q | q;exact Or.inl (aI q.symm);(right;simp[Value.ownBlock]at q;omega)) (fun q=>absurd rfl q));have k0:=(hgrow.cell_far ⟨cb,0,none⟩ (by simp;omega) (ae Xm)).trans ((World.cell?_alloc_past _ _ _ cz).trans c0);have k1:=(hgrow.cell_far ⟨sb,so,none⟩ (by simp;omega) (ae tq)).trans ((World.cell?_alloc_past _ _ _ sz).trans s0);have k3:w7.frozen? ⟨sb,so,none⟩=false:=(by have:=ay (ae HN).1.st.blk so;rwa [World.frozen?_setCell]at this);have zz7:cb<w7.heap.size:=(by have:=ag (ae HN).1.sc.blk;rwa [cN]at this);have zz8:sb<w7.heap.size:=(by have:=ag (ae HN).1.st.blk;rwa [cN]at this);clear hown' hgrow hat)))
 rw[rounds_succ]
 go_wp2_with fail
 go_ret
 exact⟨rfl,_,_,_,_,(ae HM).1,(ae HN).2.trans (ae HM).2⟩
theorem Nb {α β:Type} {R:α→β→Prop}:∀{xs:List α} {ys:List β},bO R xs ys→∀(i:Nat) (h:i<xs.length) (h':i<ys.length),R xs[i] ys[i]
 | _ :: _,_ :: _,q,0,_,_=>q.1
 | _ :: _,_ :: _,q,i+1,h,h'=>Nb q.2 i (by simpa using h) (by simpa using h')
theorem OE {us:List AV} {i:Nat} (h:i<us.length) (j:Nat) (hj:j<4):(us.flatMap gN)[i*4+j]?=(gN us[i])[j]?:=qT (F:=gN) (c:=4) (fun _=>rfl) h j hj
def tQ (D:List Ng) (V:List Nat) (N:List (List UInt8)):Nat→Nat→Zc.Tm→Prop
 | 0,_,_=>False
 | f+1,n,t=>(t.kind=3→V[N.idxOf t.text.toList]?=some n)∧(t.kind≠3→∃d,D[n]?=some d∧d.nx=n∧d.k=ak t.kind∧(t.kind=4→d.val=(Zc.numOf t.text:Int))∧(t.kind=2→d.tx=t.text)∧bO (tQ D V N f) d.args t.args)
theorem tQ.more {D E:List Ng} {V F:List Nat} {N:List (List UInt8)}:∀{f n:Nat} {t:Zc.Tm},tQ D V N f n t→tQ (D++E) (V++F) N f n t
 | f+1,n,t,⟨h1,h2⟩=>⟨fun k=>by have:=h1 k;rw[List.getElem?_append_left (List.getElem?_eq_some_iff.1 this).1];exact this,fun k=>by
  obtain⟨d,q1,q2,q3,q4,q5,q6⟩:=h2 k
  exact⟨d,by rw[List.getElem?_append_left (List.getElem?_eq_some_iff.1 q1).1];exact q1,q2,q3,q4,q5,q6.imp fun _ _=>tQ.more⟩⟩
def dL (b:Nat) (E:List Ng):Prop:=∀(i:Nat) (d:Ng),E[i]?=some d→d.nx=b+i∧d.mrk=0∧gI (b+i) d∧d.tx.size≤240∧0≤d.val∧d.val≤1000000000
theorem dL.app {b:Nat} {E E2:List Ng} (h:dL b E) (h2:dL (b+E.length) E2):dL b (E++E2):=fun i d hd=>by
 by_cases q:i<E.length
 ·rw[List.getElem?_append_left q]at hd
  exact h i d hd
 ·rw[List.getElem?_append_right (by omega)]at hd
  have:=h2 _ d hd
  rw[show b+E.length+(i - E.length)=b+i by omega]at this
  exact this
theorem dL.one {b:Nat} {d:Ng} (h:d.nx=b∧d.mrk=0∧gI b d∧d.tx.size≤240∧0≤d.val∧d.val≤1000000000):dL b [d]:=fun i e he=>by
 cases i with
 | zero=>simp at he;subst he;simpa using h
 | succ i=>simp at he
structure fH (b:Nat) (E:List Ng) (F:List Nat):Prop where
 var:∀n∈F,b≤n∧∃d,E[n - b]?=some d∧d.k=1
 ord:F.Pairwise (·<·)
theorem fH.app {b:Nat} {E E2:List Ng} {F F2:List Nat} (h:fH b E F) (h2:fH (b+E.length) E2 F2):fH b (E++E2) (F++F2):=by
 refine⟨fun n hn=> ?_,?_⟩
 ·rcases List.mem_append.1 hn with q | q
  ·obtain⟨h1,d,h3,h4⟩:=h.var n q
   exact⟨h1,d,by rw[List.getElem?_append_left (List.getElem?_eq_some_iff.1 h3).1];exact h3,h4⟩
  ·obtain⟨h1,d,h3,h4⟩:=h2.var n q
   refine⟨by omega,d,?_,h4⟩
   rw[List.getElem?_append_right (by omega),show n - b - E.length=n - (b+E.length)by omega]
   exact h3
 ·rw[List.pairwise_append]
  refine⟨h.ord,h2.ord,fun x hx y hy=> ?_⟩
  obtain⟨h1,d,h3,_⟩:=h.var x hx
  obtain⟨h4,_⟩:=h2.var y hy
  have:=(List.getElem?_eq_some_iff.1 h3).1
  omega
theorem fH.nil (b:Nat) (E:List Ng):fH b E []:=⟨(fun n hn=>by cases hn),List.Pairwise.nil⟩
theorem fH.last {b:Nat} {E:List Ng} {F:List Nat} (h:fH b E F) (d:Ng):fH b (E++[d]) F:=by
 have:=h.app (fH.nil (b+E.length) [d])
 rwa [List.append_nil]at this
def En (P:Nat→Prop) (sb so:Nat) (cs:Array Value) (T:TypeId) (cb:Nat) (D:List Ng) (V:List Nat) (no:Option Addr) (vo:Option Addr) (N ns:List (List UInt8)) (f:Nat) (t:Zc.Tm) (w:World) (e:Ending) (w':World):Prop:=
 ∃(n:Nat) (E:List Ng) (F:List Nat) (no':Option Addr) (nc':Nat) (vo':Option Addr) (vc':Nat),e= .returned (aK n)∧fK P w' sb so (cs.setIfInBounds so (.slice no' (D++E).length nc')) T cb (D++E) (V++F) no' nc' vo' vc'∧dL D.length E∧fH D.length E F∧(V++F).length=(Zc.namesF f ns t).length∧tQ (D++E) (V++F) N f n t∧n<(D++E).length∧E.length+1≤3 ^ f∧au (bX sb no cb vo) (bX sb no' cb vo') w w'
def IK (f:Nat):Prop:=∀(P:Nat→Prop) (w:World) (sb so:Nat) (cs:Array Value) (T:TypeId) (cb:Nat) (D:List Ng) (V:List Nat) (no:Option Addr) (nc:Nat) (vo:Option Addr) (vc:Nat) (N ns:List (List UInt8)) (Q:Nat→Prop) (a:AV) (t:Zc.Tm),fK P w sb so cs T cb D V no nc vo vc→(∀g,w.heap.size≤g→P g)→T≠76→(∀n∈V,n<D.length)→RA f N Q w a t→Zc.wfK f t→V.length=ns.length→(∃M,N=Zc.namesF f ns t++M)→D.length+3 ^ f≤1000000000→V.length+3 ^ f≤1000000000→
 Calls Tryz.prog 54 #[.pointer (some ⟨sb,so,none⟩),.agg #[.int .i64 a.k,.int .i64 a.val,.string a.tx,.slice a.ao a.n a.cap],.pointer (some ⟨cb,0,none⟩)] w fun e w'=>En P sb so cs T cb D V no vo N ns f t w e w'
theorem Qj (f:Nat) (P:Nat→Prop) (w:World) (sb so:Nat) (cs:Array Value) (T:TypeId) (cb:Nat) (D:List Ng) (V:List Nat) (no:Option Addr) (nc:Nat) (vo:Option Addr) (vc:Nat) (N ns:List (List UInt8)) (a:AV) (t:Zc.Tm) (h:fK P w sb so cs T cb D V no nc vo vc) (hP:∀g,w.heap.size≤g→P g) (hV:∀n∈V,n<D.length) (ha:lV N a t) (_hw:Zc.wfK (f+1) t) (ka:t.kind=3) (hv:V.length=ns.length) (hN:∃M,N=Zc.namesF (f+1) ns t++M) (hd:D.length+3 ^ (f+1)≤1000000000) (jI:V.length+3 ^ (f+1)≤1000000000):
 Calls Tryz.prog 54 #[.pointer (some ⟨sb,so,none⟩),.agg #[.int .i64 a.k,.int .i64 a.val,.string a.tx,.slice a.ao a.n a.cap],.pointer (some ⟨cb,0,none⟩)] w fun e w'=>En P sb so cs T cb D V no vo N ns (f+1) t w e w':=by
 have hp:3≤3 ^ (f+1):=by rw[Nat.pow_succ];have:1≤3 ^ f:=Nat.one_le_pow _ _ (by omega);omega
 have BU:Zc.namesF (f+1) ns t=Zc.dK ns t.text.toList:=by unfold Zc.namesF;rw[if_pos ka]
 rw[BU]at hN
 obtain⟨M,hM⟩:=hN
 obtain⟨h1,h2,h3,h4,h5,h6,h7,h8⟩:=ha
 obtain⟨h9,h10⟩:=h3 ka
 obtain⟨k,val,tx,ao,n,cp⟩:=a
 dsimp only at h1 h2 h10⊢
 have e1:ak t.kind=1:=by rw[ka];rfl
 have hB:=(Below.refl w.heap.size w).alloc (Nat.le_refl _) (.cells #[.int .i64 k,.int .i64 val,.string tx,.slice ao n cp] 76)
 have HW:=af (h.below hB)
 rw[e1]at h1
 subst h1 h10
 have hcs:∀(cs:Array Value) (so:Nat) (v:Value),cs[so]?=some v→cs.setIfInBounds so v=cs:=fun cs so v q=>by
  apply Array.ext (by simp)
  intro i h1 h2
  rw[Array.getElem_setIfInBounds]
  ·split
   ·rename_i e
    subst e
    exact(Array.getElem?_eq_some_iff.1 q).2.symm
   ·rfl
 by_cases hx:t.text.toList∈ns
 ·have qG:N.idxOf t.text.toList=ns.idxOf t.text.toList:=by
   rw[hM]
   unfold Zc.dK
   rw[if_pos hx,List.idxOf_append,if_pos hx]
  have hlt:N.idxOf t.text.toList<V.length:=by rw[qG,hv];exact List.idxOf_lt_length_of_mem hx
  have HI:=af (Iy _ sb so cb V vo vc (N.idxOf t.text.toList) (ae HW).sc hlt)
  have dF:=af (show En P sb so cs T cb D V no vo N ns (f+1) t w (.returned (aK V[N.idxOf t.text.toList])) (w.alloc (.cells #[.int .i64 1,.int .i64 (N.idxOf t.text.toList:Int),.string tx,.slice ao n cp] 76))from by
   refine⟨V[N.idxOf t.text.toList],[],[],no,nc,vo,vc,rfl,?_,(fun i d hd=>by simp at hd),fH.nil _ _,?_,?_,?_,by simp;omega,au.aw hB⟩
   ·have:=hcs cs so _ h.st.cel
    simp only[List.append_nil]
    rw[this]
    exact ae HW
   ·rw[BU];unfold Zc.dK;rw[if_pos hx];simpa using hv
   ·exact⟨fun _=>by simp,fun q=>absurd ka q⟩
   ·simpa using hV _ (List.getElem_mem hlt))
  clear h hP hV h2 h3 h4 h5 h6 h7 h8 h9 hB hcs
  generalize Nc:V[N.idxOf t.text.toList]=m at*
  generalize Xn:N.idxOf t.text.toList=ix at*
  clear Nc Xn qG hv hM
  go_enter Tryz.func54,Tryz.ntmps54
  go_wp2_with fail
  refine(ae HI).mono ?_
  rintro e w2 ⟨rfl,hw2⟩
  rw[hw2]
  clear hw2 w2
  unfold aK at dF⊢
  go_wp2_with fail
  go_ret
  exact ae dF
 ·have qG:N.idxOf t.text.toList=V.length:=by
   rw[hM,hv]
   unfold Zc.dK
   rw[if_neg hx,List.append_assoc,List.idxOf_append,if_neg hx]
   simp
  rw[qG]at HW hB⊢
  have HI:=af (Iz P _ sb so cs T cb D V no nc vo vc (ae HW) (fun g q=>hP g (by simp at q;omega)) (by omega) (by omega))
  have dF:=af (show∀w2,(∃no' nc' vo' vc',fK P w2 sb so (cs.setIfInBounds so (.slice no' (D.length+1) nc')) T cb (D++[tP D.length]) (V++[D.length]) no' nc' vo' vc'∧au (bX sb no cb vo) (bX sb no' cb vo') (w.alloc (.cells #[.int .i64 1,.int .i64 (V.length:Int),.string tx,.slice ao n cp] 76)) w2)→En P sb so cs T cb D V no vo N ns (f+1) t w (.returned (aK D.length)) w2 from fun w2 ⟨no',nc',vo',vc',q1,q2⟩=>by
   refine⟨D.length,[tP D.length],[D.length],no',nc',vo',vc',rfl,by rw[List.length_append];exact q1,dL.one ⟨rfl,rfl,⟨Or.inl rfl,fun _=>⟨rfl,rfl,rfl,rfl⟩,(fun q=>by cases q),(fun q=>by cases q),fun a ha=>by cases ha⟩,by simp[tP,ByteArray.size],by simp[tP],by simp[tP]⟩,⟨fun n hn=> ?_,by simp⟩,?_,?_,by simp,by simp;omega,(au.aw hB).trans q2⟩
   ·obtain rfl:n=D.length:=by simpa using hn
    exact⟨Nat.le_refl _,tP D.length,by simp,rfl⟩
   ·rw[BU];unfold Zc.dK;rw[if_neg hx];simp[hv]
   ·exact⟨fun _=>by rw[qG];simp,fun q=>absurd ka q⟩)
  clear h hP hV h2 h3 h4 h5 h6 h7 h8 h9 qG hv hM hB hcs
  go_enter Tryz.func54,Tryz.ntmps54
  go_wp2_with fail
  refine(ae HI).mono ?_
  rintro e w2 ⟨rfl,hs2⟩
  have HF:=af (ae dF w2 hs2)
  clear hs2
  unfold aK at HF⊢
  go_wp2_with fail
  go_ret
  exact ae HF
end Go.Proofs.YthfjnfcekeknlaaGreatDoor
