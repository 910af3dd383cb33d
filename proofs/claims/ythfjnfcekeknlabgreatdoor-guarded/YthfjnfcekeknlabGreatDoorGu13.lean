import Derived.Test.YthfjnfcekeknlabGreatDoorGu03
import Derived.Test.YthfjnfcekeknlabGreatDoorGu06
import Derived.Deep.AppendLies
import Derived.Deep.RegionLaw
set_option maxHeartbeats 8000000
set_option maxRecDepth 100000
namespace Zf
def qm (N:List Nat) (n:Nat):List Nat:=if n∈N then N else N++[n]
def bt (N:List Nat):List Vr:=N.map fun n=>([],n)
theorem Eh {n m:Nat} (h:(([],n):Vr)=([],m)):n=m:=by injection h
theorem Ei {N:List Nat} {n:Nat}:(([],n):Vr)∈bt N↔n∈N:=by
 unfold bt
 constructor
 ·intro h
  obtain⟨m,hm,e⟩:=List.mem_map.1 h
  rw[Eh e]at hm
  exact hm
 ·exact fun h=>List.mem_map_of_mem h
theorem Ej (N:List Nat) (n:Nat):bt (qm N n)=kZ (bt N) ([],n):=by
 unfold qm kZ
 by_cases h:n∈N
 ·rw[if_pos h,if_pos (Ei.2 h)]
 ·rw[if_neg h,if_neg (fun q=>h (Ei.1 q))]
  simp[bt]
theorem Ek (n:Nat):∀N,(bt N).idxOf ([],n)=N.idxOf n
 | []=>rfl
 | m :: N=>by
  have ih:=Ek n N
  unfold bt at ih⊢
  rw[List.map_cons,List.idxOf_cons,List.idxOf_cons,ih]
  by_cases e:m=n
  ·subst e;simp
  ·have:(([],m):Vr)≠([],n):=fun q=>e (Eh q)
   rw[beq_false_of_ne this,beq_false_of_ne e]
theorem zt {n:Nat}:∀{N:List Nat} {j:Nat} (hj:j<N.length),N[j]=n→(∀i (_:i<N.length),i<j→N[i]≠n)→N.idxOf n=j
 | m :: N,0,_,he,_=>by rw[List.idxOf_cons];simp at he;simp[he]
 | m :: N,j+1,hj,he,hno=>by
  have h0:m≠n:=hno 0 (by simp) (by omega)
  have:=zt (N:=N) (j:=j) (by simpa using hj) (by simpa using he) (fun i hi q=>by have:=hno (i+1) (by simpa using hi) (by omega);simpa using this)
  rw[List.idxOf_cons,this,beq_false_of_ne h0]
  rfl
theorem El (N:List Nat):(bt N).length=N.length:=by simp[bt]
end Zf
namespace Go.Proofs.YthfjnfcekeknlabGreatDoor
open Go.RowKit
structure fk (w:World) (nb:Nat) (N:List Nat) (mo:Option Addr) (mc:Nat):Prop where
 blk:w.heap[nb]?=some (.cells #[.slice mo N.length mc] 136 (0,0))
 own:w.ownsRow 0 3 1 (.slice mo N.length mc) N.length (N.map aJ)
def br (nb:Nat) (mo:Option Addr) (k:Nat):Prop:=k=nb∨rowOf mo k
theorem fk.apart {w:World} {nb:Nat} {N:List Nat} {mo:Option Addr} {mc:Nat} (h:fk w nb N mo mc) {g:Nat} {xs:Array Value} {S:TypeId} (hg:w.heap[g]?=some (.cells xs S (0,0))) (h1:S≠136) (h2:S≠3):¬br nb mo g:=by
 rintro(rfl | ⟨p,rfl,rfl⟩)
 ·have:=h.blk
  rw[hg]at this
  simp only[Option.some.injEq,Obj.cells.injEq]at this
  exact h1 this.2.1
 ·rcases h.own.2 with⟨c,_⟩ | ⟨g,cp,cur,c,_,hc,_⟩
  ·cases c
  ·simp only[Value.slice.injEq,Option.some.injEq]at c
   obtain⟨rfl,_⟩:=c
   rw[hc]at hg
   simp only[Option.some.injEq,Obj.cells.injEq]at hg
   exact h2 hg.2.1.symm
theorem fk.below {w w':World} {nb:Nat} {N:List Nat} {mo:Option Addr} {mc:Nat} (h:fk w nb N mo mc) (hb:Below w.heap.size w w'):fk w' nb N mo mc:=
 ⟨(hb.block nb (af h.blk)).trans h.blk,ai h.own (fun g q=>hb.block g (h.own.lt g q).2)⟩
theorem fk.rows {w:World} {nb:Nat} {N:List Nat} {mo:Option Addr} {mc:Nat} (h:fk w nb N mo mc):∀k,br nb mo k→k<w.heap.size:=by
 rintro k (rfl | ⟨p,rfl,rfl⟩)
 ·exact af h.blk
 ·exact(h.own.lt p.block rfl).2
theorem fk.ne {w:World} {nb:Nat} {N:List Nat} {mo:Option Addr} {mc:Nat} (h:fk w nb N mo mc):¬rowOf mo nb:=by
 rintro⟨p,rfl,e⟩
 rcases h.own.2 with⟨c,_⟩ | ⟨g,cp,cur,c,_,hc,_⟩
 ·cases c
 ·simp only[Value.slice.injEq,Option.some.injEq]at c
  obtain⟨rfl,_⟩:=c
  dsimp only at e
  have:=h.blk
  rw[e,hc]at this
  simp only[Option.some.injEq,Obj.cells.injEq]at this
  exact absurd this.2.1 (by decide)
def Uq (nb:Nat) (N:List Nat) (mo:Option Addr) (n:Nat) (w:World) (e:Ending) (w':World):Prop:=
 ∃mo' mc',e= .returned (aJ (N.idxOf n))∧fk w' nb (Zf.qm N n) mo' mc'∧aq (br nb mo) (br nb mo') w w'
theorem Ld (w:World) (nb:Nat) (N:List Nat) (mo:Option Addr) (mc:Nat) (n:Nat) (h:fk w nb N mo mc) (hl:N.length≤1000000):
 Calls Tryz.prog 122 #[.pointer (some ⟨nb,0,none⟩),.int .i64 (n:Int)] w fun e w'=>Uq nb N mo n w e w':=by
 have s0:=ah h.blk 0
 have sx:=au h.blk 0
 have sz:=af h.blk
 simp only[List.getElem?_toArray,List.getElem?_cons_zero]at s0
 have H:=hide h
 obtain⟨ti,hi,hz0,hz1,hz2⟩:=info_parts infoIn
 have hcell:∀j (hj:j<N.length),∃g,mo=some ⟨g,0,none⟩∧g<w.heap.size∧w.cell? ⟨g,j,none⟩=some (.int .i64 (N[j]:Int)):=fun j hj=>by
  rcases h.own.2 with⟨_,q⟩ | ⟨g,cap,cur,q1,_,q3,_⟩
  ·omega
  ·simp only[Value.slice.injEq]at q1
   obtain⟨rfl,_,_⟩:=q1
   refine⟨g,rfl,af q3,?_⟩
   rw[h.own.cellAt j (by omega),List.getElem?_map,List.getElem?_eq_getElem hj]
   rfl
 have HC:=hide hcell
 have qD:=hide h.ne
 clear h hcell
 go_enter Tryz.func122,Tryz.ntmps122
 go_wp2_with fail
 go_loopg [12] N.length (fun k iv wr=>∃j:Nat,k+j=N.length∧iv= .int .i64 (j:Int)∧wr=w∧∀i (hi:i<N.length),i<j→N[i]≠n)
 case atStart=>exact⟨0,by omega,rfl,rfl,fun i _ q=>by omega⟩
 case round=>
  obtain⟨j,hkj,rfl,rfl,hno⟩:=hrel
  by_cases hlt:j<N.length
  ·obtain⟨g,rfl,gz,cj⟩:=ae HC j hlt
   have j0:(0:Int)≤(j:Int):=by omega
   have j1:(j:Int)<(N.length:Int):=by omega
   have aW:=hide hkj
   by_cases he:N[j]=n
   ·have dG:=hide (show Uq nb N (some ⟨g,0,none⟩) n wr (.returned (.int .i64 (j:Int))) wr from by
     have hmem:n∈N:=he ▸ List.getElem_mem hlt
     refine⟨some ⟨g,0,none⟩,mc,?_,?_,aq.of_below (Below.refl _ _)⟩
     ·have:N.idxOf n=j:=Zf.zt hlt he hno
      rw[this];rfl
     ·have:Zf.qm N n=N:=by unfold Zf.qm;rw[if_pos hmem]
      rw[this];exact ae H)
    rw[he]at cj
    clear he hno hkj
    go_wp2_with fail
    go_ret
    exact ae dG
   ·have t1:(((N[j]:Nat):Int) == (n:Int))=false:=by simp;omega
    have gf:=hide (show∀i (hi:i<N.length),i<j+1→N[i]≠n from fun i hi q=>by
     by_cases e:i=j
     ·subst e;exact he
     ·exact hno i hi (by omega))
    generalize N[j]=na at*
    clear he hno hkj
    go_wp2_with fail
    go_roundg (gk - 1)
    case measure=>have:=ae aW;omega
    case rel=>exact⟨j+1,by have:=ae aW;omega,by go_num,rfl,ae gf⟩
  ·obtain rfl:j=N.length:=by omega
   have hmem:n∉N:=fun q=>by
    obtain⟨i,hi,e⟩:=List.getElem_of_mem q
    exact hno i hi hi e
   have HM:=hide (show Zf.qm N n=N++[n]by unfold Zf.qm;rw[if_neg hmem])
   have HI:=hide (show N.idxOf n=N.length from List.idxOf_eq_length hmem)
   clear hno hkj hmem
   go_wp2_with (first | (at_builtin;go_must (refine wpList_append_own_at _ rfl (.tmp 26) (.tmp 28) 25 rfl 0 3 ti (.int .i64 0) 1 8 Tryz.underlying25 hi hz0 hz1 hz2 rfl (by decide) _ N.length (N.map aJ) rfl ((ae H).own.alloc _) ⟨wr.heap.size,0,none⟩ 1 1 [.int .i64 (n:Int)] rfl rfl (ju _ _ _ _ rfl) (by simp[Value.oneCell']) (by unfold maxLen;omega) (by omega) (by omega) ?_);go_must (intro v' w7 hown' hgrow _ hat;obtain⟨g',cap',hv,hcm⟩:=ft hown';subst hv;have mH:=hide hown';have HG:=hide hgrow;have rR:=hide (show (some g':Option Nat)=(Value.slice mo N.length mc).ownBlock∨(some g':Option Nat)=some (wr.heap.size+1)from (by rcases hat with q | q;exact Or.inl q;exact Or.inr (by rw[World.size_alloc]at q;exact q)));have b7:=(hgrow.block nb (by simp;omega) (iQ fun p q e=>ae qD ⟨p,q,e⟩)).trans ((Below.heap_alloc _ _ _ sz).trans (ae H).blk);have o9:=hide b7;have c7:=ah b7 0;have x7:=au b7 0;have z7:=af b7;simp only[List.getElem?_toArray,List.getElem?_cons_zero]at c7;clear hown' hgrow hat b7)))
   go_ret
   refine⟨some ⟨g',0,none⟩,cap',?_,⟨?_,?_⟩,?_⟩
   ·rw[ae HI]
    show Ending.returned (.int .i64 _)= .returned (.int .i64 _)
    congr 2
   ·have:=aw (ae o9) 0 (.slice (some ⟨g',0,none⟩) (N.length+1) cap')
    rw[ae HM,List.length_append]
    simpa using this
   ·rw[ae HM,List.length_append,List.map_append]
    have hne:nb≠g':=fun e=>by
     rcases(ae mH).2 with⟨c,_⟩ | ⟨g,cp,cur,c,_,hc,_⟩
     ·cases c
     ·simp only[Value.slice.injEq,Option.some.injEq,Addr.mk.injEq]at c
      obtain⟨⟨rfl,_⟩,_⟩:=c
      have:=ae o9
      rw[e,hc]at this
      simp only[Option.some.injEq,Obj.cells.injEq]at this
      exact absurd this.2.1 (by decide)
    exact ai (ae mH) (fun k q=>aC _ _ _ _ (by simp[Value.ownBlock]at q;omega))
   ·have hz:=(ae HG).size
    refine⟨(ae HG).os,(ae HG).tape,(ae HG).output,by rw[bS];simp at hz;omega,fun k hk hr=> ?_,?_⟩
    ·rw[aC _ _ _ _ (fun e=>hr (Or.inl e)),(ae HG).block k (by simp;omega) (iQ fun p q e=>hr (Or.inr ⟨p,q,e⟩)),Below.heap_alloc _ _ _ hk]
    ·rintro k (rfl | ⟨p,e1,rfl⟩)
     ·exact Or.inl (Or.inl rfl)
     ·cases e1
      rcases ae rR with e | e
      ·left;right
       cases mo with
       | none=>simp[Value.ownBlock]at e
       | some s=>simp[Value.ownBlock]at e;exact⟨s,rfl,e⟩
      ·right
       have:=Option.some.inj e
       dsimp only
       omega
def uz (N:List Zf.Vr) (a:AV):Zf.U→Prop
 | .v x=>a.k=1∧a.val=(N.idxOf x:Int)∧x∈N∧a.n=0
 | .n k tx num ss=>(k=3∧a.k=2∧a.val=num∧a.n=0∧ss=[])∨(k=1∧a.k=3∧a.tx.toList=tx∧a.n=ss.length∧ss.length≤3)
def RV:Nat→List Zf.Vr→(Nat→Prop)→World→AV→Zf.U→Prop
 | 0,_,_,_,_,_=>False
 | f+1,N,P,w,a,u=>uz N a u∧(Zf.uargs u≠[]→∃(g:Nat) (us:List AV) (cs:Array Value),a.ao=some ⟨g,0,none⟩∧P g∧w.heap[g]?=some (.cells cs 74 (0,0))∧cs.toList.take (us.length*4)=us.flatMap gP∧bR (RV f N P w) us (Zf.uargs u))
theorem RV.keep {N:List Zf.Vr} {P Q:Nat→Prop} {w w':World} (hk:∀g cs,P g→w.heap[g]?=some (.cells cs 74 (0,0))→w'.heap[g]?=some (.cells cs 74 (0,0))∧Q g):∀{f:Nat} {a:AV} {u:Zf.U},RV f N P w a u→RV f N Q w' a u
 | _+1,_,_,⟨h,q⟩=>⟨h,fun n=>by
  obtain⟨g,us,cs,h1,h2,h3,h4,h5⟩:=q n
  obtain⟨r1,r2⟩:=hk g cs h2 h3
  exact⟨g,us,cs,h1,r2,r1,h4,h5.imp fun _ _=>RV.keep hk⟩⟩
theorem uz.more {N:List Zf.Vr} {a:AV} {u:Zf.U} (h:uz N a u) (M:List Zf.Vr):uz (N++M) a u:=by
 cases u with
 | v x=>
  obtain⟨h1,h2,h3,h4⟩:=h
  exact⟨h1,by rw[h2,List.idxOf_append,if_pos h3],List.mem_append_left _ h3,h4⟩
 | n k tx num ss=>exact h
theorem RV.more {N:List Zf.Vr} {P:Nat→Prop} {w:World} (M:List Zf.Vr):∀{f:Nat} {a:AV} {u:Zf.U},RV f N P w a u→RV f (N++M) P w a u
 | _+1,_,_,⟨h,q⟩=>⟨h.more M,fun n=>by
  obtain⟨g,us,cs,h1,h2,h3,h4,h5⟩:=q n
  exact⟨g,us,cs,h1,h2,h3,h4,h5.imp fun _ _=>RV.more M⟩⟩
def FP (s nb:Nat) (N:List Nat) (mo:Option Addr) (u:Zf.U) (w:World) (e:Ending) (w':World):Prop:=
 ∃(a:AV) (N':List Nat) (mo':Option Addr) (mc':Nat),e= .returned (.agg #[.int .i64 a.k,.int .i64 a.val,.string a.tx,.slice a.ao a.n a.cap])∧fk w' nb N' mo' mc'∧Zf.bt N'=Zf.aZ (Zf.bt N) u∧RV s (Zf.bt N') (fun g=>w.heap.size≤g) w' a u∧aq (br nb mo) (br nb mo') w w'
def BP (s:Nat):Prop:=∀(w:World) (sb so:Nat) (cs:Array Value) (T:TypeId) (D:List Ng) (no:Option Addr) (nc:Nat) (fr:Nat→Nat) (n:Nat) (u:Zf.U) (nb:Nat) (N:List Nat) (mo:Option Addr) (mc:Nat),bG w sb so cs T D no nc→T≠136→T≠3→bZ D fr→fk w nb N mo mc→aY w D (fun g=>¬br nb mo g)→n<D.length→Zf.Tr (aX D) fr n u→Zf.size u≤s→N.length+Zf.size u≤1000000→
 Calls Tryz.prog 72 #[.pointer (some ⟨sb,so,none⟩),.int .i64 (n:Int),.pointer (some ⟨nb,0,none⟩)] w fun e w'=>FP s nb N mo u w e w'
theorem bG.Iq {w w':World} {sb so:Nat} {cs:Array Value} {T:TypeId} {D:List Ng} {no:Option Addr} {nc:Nat} {nb:Nat} {N:List Nat} {mo mo':Option Addr} {mc:Nat} (h:bG w sb so cs T D no nc) (hn:fk w nb N mo mc) (h1:T≠136) (h2:T≠3) (hf:aq (br nb mo) (br nb mo') w w'):bG w' sb so cs T D no nc:=by
 refine⟨(hf.block sb (af h.blk) (hn.apart h.blk h1 h2)).trans h.blk,h.cel,ai h.own (fun g q=>hf.block g (h.own.lt g q).2 ?_),h.ty⟩
 rcases h.own.2 with⟨c,_⟩ | ⟨g',cp,cur,c,_,hc,_⟩
 ·rw[c]at q;simp[Value.ownBlock]at q
 ·rw[c]at q
  simp[Value.ownBlock]at q
  subst q
  exact hn.apart hc (by decide) (by decide)
theorem aY.Iq {w w':World} {D:List Ng} {R R':Nat→Prop} (h:aY w D fun g=>¬R g) (hf:aq R R' w w'):aY w' D fun g=>¬R' g:=
 h.keep fun g _ hp hg=>⟨(hf.block g (af hg) hp).trans hg,hf.not (af hg) hp⟩
theorem Le (s:Nat) (w:World) (sb so:Nat) (cs:Array Value) (T:TypeId) (D:List Ng) (no:Option Addr) (nc:Nat) (fr:Nat→Nat) (n:Nat) (d:Ng) (nb:Nat) (N:List Nat) (mo:Option Addr) (mc:Nat) (h:bG w sb so cs T D no nc) (_hT1:T≠136) (_hT2:T≠3) (hok:bZ D fr) (hn:fk w nb N mo mc) (hnl:n<D.length) (hd:D[fr n]?=some d) (hk:d.k=1) (hl:N.length+1≤1000000):
 Calls Tryz.prog 72 #[.pointer (some ⟨sb,so,none⟩),.int .i64 (n:Int),.pointer (some ⟨nb,0,none⟩)] w fun e w'=>FP (s+1) nb N mo (.v ([],fr n)) w e w':=by
 obtain⟨k,hk'⟩:=hok.hop n hnl
 have LA:=hide (fun W (hb:Below w.heap.size w W)=>dS W sb so cs T D no nc n (fr n) k d (h.below hb) hk' hd)
 have FA:=hide (fun W (hb:Below w.heap.size w W)=>dR W sb so cs T D no nc n (fr n) k (h.below hb) hk')
 have NA:=hide (fun W (hb:Below w.heap.size w W)=>Ld W nb N mo mc (fr n) (hn.below hb) (by omega))
 have HN:=hide hn
 obtain⟨dk,val,tx,cnt,ao,cap,args,nx,mrk⟩:=d
 dsimp only at hk LA
 subst hk
 clear h hok hn hnl hd hk'
 generalize fr n=p at*
 go_enter Tryz.func72,Tryz.ntmps72
 go_wp2_with fail
 refine(ae LA _ ((Below.refl _ _).alloc (Nat.le_refl _) _)).mono ?_
 rintro e w1 ⟨rfl,hb1⟩
 have bC:=hide ((((Below.refl w.heap.size w).alloc (Nat.le_refl _) (.cells #[.int .i64 0,.int .i64 0,.string ⟨#[]⟩,.slice none 0 0] 74)).trans (hb1.mono (by simp))).alloc (by have:=hb1.size;simp at this;omega) (.cells #[.int .i64 1,.int .i64 val,.string tx,.int .i64 (cnt:Int)] 144))
 have r0:=hb1.block w.heap.size (by simp)
 have r1:=r0.trans (heap_alloc_new w _)
 have z1:w.heap.size<w1.heap.size:=af r1
 have rT:=hide (aA r1 (.cells #[.int .i64 1,.int .i64 val,.string tx,.int .i64 (cnt:Int)] 144))
 clear hb1 r0 r1
 go_wp2_with fail
 refine(ae FA _ (ae bC)).mono ?_
 rintro e w2 ⟨rfl,rfl⟩
 unfold aJ
 go_wp2_with fail
 refine(ae NA _ (ae bC)).mono ?_
 rintro e w3 ⟨mo',mc',rfl,Ur,hf3⟩
 unfold aJ
 have q3:=(hf3.block w.heap.size (by simp;omega) (((ae HN).below (ae bC)).apart (ae rT) (by decide) (by decide))).trans (ae rT)
 have Ni:=hide q3
 have c3:=ah q3
 have x3:=au q3
 have z3:=af q3
 have iJ:=hide Ur
 have vq:=hide hf3
 clear Ur hf3 q3
 go_wp2_with fail
 refine bodyPost_ret (v:= .agg #[.int .i64 1,.int .i64 ((N.idxOf p:Nat):Int),.string ⟨#[]⟩,.slice none 0 0]) (by simp[results,Tryz.results72,go_sem,c3]) rfl ?_
 have jV:∀g,g≠w.heap.size→((((w3.setCell ⟨w.heap.size,0,none⟩ (.int .i64 1)).setCell ⟨w.heap.size,1,none⟩ (.int .i64 ((N.idxOf p:Nat):Int))).setCell ⟨w.heap.size,2,none⟩ (.string ⟨#[]⟩)).setCell ⟨w.heap.size,3,none⟩ (.slice none 0 0)).heap[g]?=w3.heap[g]?:=fun g hg=>by rw[aC _ _ _ _ hg,aC _ _ _ _ hg,aC _ _ _ _ hg,aC _ _ _ _ hg]
 have hne:nb≠w.heap.size:=by have:=af (ae HN).blk;omega
 refine⟨⟨1,(N.idxOf p:Nat),⟨#[]⟩,none,0,0⟩,Zf.qm N p,mo',mc',rfl,⟨(jV nb hne).trans (ae iJ).blk,ai (ae iJ).own (fun g q=>jV g fun e=> ?_)⟩,?_,⟨⟨rfl,?_,?_,rfl⟩,fun q=>absurd rfl q⟩,?_⟩
 ·subst e
  exact(ae iJ).apart (ae Ni) (by decide) (by decide) (Or.inr (by
   cases mo' with
   | none=>simp[Value.ownBlock]at q
   | some a=>simp[Value.ownBlock]at q;exact⟨a,rfl,q.symm⟩))
 ·rw[Zf.Ej];rfl
 ·show ((N.idxOf p:Nat):Int)=(((Zf.bt (Zf.qm N p)).idxOf ([],p):Nat):Int)
  rw[Zf.Ek]
  congr 1
  unfold Zf.qm
  by_cases q:p∈N
  ·rw[if_pos q]
  ·rw[if_neg q,List.idxOf_append,if_neg q,List.idxOf_eq_length q];simp
 ·rw[Zf.Ej];exact Zf.Bj.2 (Or.inr rfl)
 ·have q:=(aq.of_below (R:=br nb mo) (ae bC)).trans (ae vq)
  refine⟨q.os,q.tape,q.output,by simp only[bS];exact q.size,fun k hk hr=> ?_,q.row⟩
  rw[jV k (by omega)]
  exact q.block k hk hr
end Go.Proofs.YthfjnfcekeknlabGreatDoor
namespace Zf
theorem Lf (N:List Vr) (x:Vr):(kZ N x).length≤N.length+1:=by unfold kZ;split<;>simp
theorem iT:∀(u:U) (N:List Vr),(aZ N u).length≤N.length+size u:=by
 refine U.ind (fun x N=>by rw[aZ,size];exact Lf N x) (fun k tx num ss ih N=> ?_)
 rw[gS,size]
 induction ss generalizing N with
 | nil=>simp[sizeL]
 | cons a ss ihl=>
  have h1:=ihl (fun b hb=>ih b (by simp[hb])) (aZ N a)
  have h2:=ih a (by simp) N
  rw[List.foldl_cons,sizeL]
  omega
theorem Ir (us:List U) (N:List Vr):(us.foldl aZ N).length≤N.length+sizeL us:=by
 have:=iT (.n 1 [] 0 us) N
 rw[gS,size]at this
 induction us generalizing N with
 | nil=>simp[sizeL]
 | cons a us ih=>
  have h1:=ih (aZ N a) (by have:=iT (.n 1 [] 0 us) (aZ N a);rw[gS,size]at this;exact this)
  have h2:=iT a N
  rw[List.foldl_cons,sizeL]
  omega
theorem q8:∀(u:U) (N:List Vr),∃M,aZ N u=N++M:=by
 refine U.ind (fun x N=> ?_) (fun k tx num ss ih N=> ?_)
 ·rw[aZ];unfold kZ;split
  ·exact⟨[],by simp⟩
  ·exact⟨[x],rfl⟩
 ·rw[gS]
  induction ss generalizing N with
  | nil=>exact⟨[],by simp⟩
  | cons a ss ihl=>
   obtain⟨M,hM⟩:=ih a (by simp) N
   obtain⟨M',hM'⟩:=ihl (fun b hb=>ih b (by simp[hb])) (aZ N a)
   exact⟨M++M',by rw[List.foldl_cons,hM',hM,List.append_assoc]⟩
end Zf
namespace Go.Proofs.YthfjnfcekeknlabGreatDoor
open Go.RowKit
def Qm (w:World) (sb so:Nat) (cs:Array Value) (T:TypeId) (D:List Ng) (no:Option Addr) (nc:Nat) (tb nb:Nat) (N:List Nat) (mo:Option Addr) (s:Nat) (us:List Zf.U) (kv vv tv:Value) (k:Nat) (iv:Value) (wr:World):Prop:=
 ∃(j:Nat) (N1:List Nat) (mo1:Option Addr) (mc1:Nat) (av:Value) (vs:List AV),k+j=us.length∧iv= .int .i64 (j:Int)∧fk wr nb N1 mo1 mc1∧Zf.bt N1=(us.take j).foldl Zf.aZ (Zf.bt N)∧aq (br nb mo) (br nb mo1) w wr∧
  wr.heap[w.heap.size]?=some (.cells #[.int .i64 0,.int .i64 0,.string ⟨#[]⟩,.slice none 0 0] 74 (0,0))∧wr.heap[tb]?=some (.cells #[kv,vv,tv,av] 74 (0,0))∧wr.ownsRow (tb+1) 74 4 av j (vs.flatMap gP)∧
  bR (RV s (Zf.bt N1) (fun g=>tb+1≤g∧some g≠av.ownBlock) wr) vs (us.take j)∧bG wr sb so cs T D no nc∧aY wr D (fun g=>¬br nb mo1 g)
theorem Lg {wr w2 w7:World} {s tb nb:Nat} {N1 N2:List Nat} {mo1 mo2:Option Addr} {mc1:Nat} {av v':Value} {vs:List AV} {ts:List Zf.U} {a2:AV} {t:Zf.U} {X A:Obj} {M:List Zf.Vr}
 (hn:fk wr nb N1 mo1 mc1) (h:bR (RV s (Zf.bt N1) (fun g=>tb+1≤g∧some g≠av.ownBlock) wr) vs ts) (hv:RV s (Zf.bt N2) (fun g=>wr.heap.size≤g) w2 a2 t) (hM:Zf.bt N2=Zf.bt N1++M) (hf:aq (br nb mo1) (br nb mo2) wr w2) (Iu:tb<wr.heap.size) (Xo:∀k,av.ownBlock=some k→tb+1≤k∧k<wr.heap.size)
 (hg:((w2.alloc X).alloc A).grownBy w7 av.ownBlock) (hat:v'.ownBlock=av.ownBlock∨v'.ownBlock=some ((w2.alloc X).alloc A).heap.size) (u:Value):
 bR (RV s (Zf.bt N2) (fun g=>tb+1≤g∧some g≠v'.ownBlock) (w7.setCell ⟨tb,3,none⟩ u)) (vs++[a2]) (ts++[t]):=by
 have hsz:=hf.size
 have keep:∀g,g<w2.heap.size→g≠tb→some g≠av.ownBlock→(w7.setCell ⟨tb,3,none⟩ u).heap[g]?=w2.heap[g]?:=fun g h1 h2 h4=>by
  rw[aC _ _ _ _ h2,hg.block g (by simp;omega) h4,Below.heap_alloc _ _ _ (by simp;omega),Below.heap_alloc _ _ _ h1]
 have away:∀g,g<w2.heap.size→some g≠av.ownBlock→some g≠v'.ownBlock:=fun g h1 h2=>by
  rcases hat with e | e<;>rw[e]
  ·exact h2
  ·simp;omega
 refine bR.snoc (hv.keep fun g cs hp hc=> ?_) (h.imp fun a t q=> ?_)
 ·have hl:=af hc
  have h4:some g≠av.ownBlock:=fun e=>by have:=(Xo g e.symm).2;omega
  exact⟨(keep g hl (by omega) h4).trans hc,by omega,away g hl h4⟩
 ·rw[hM]
  refine RV.more M (q.keep fun g cs hp hc=> ?_)
  have hl:=af hc
  obtain⟨p1,p2⟩:=hp
  exact⟨(keep g (by omega) (by omega) p2).trans ((hf.block g hl (hn.apart hc (by decide) (by decide))).trans hc),p1,away g (by omega) p2⟩
theorem Iw {s:Nat} (IH:BP s) (w:World) (sb so:Nat) (cs:Array Value) (T:TypeId) (D:List Ng) (no:Option Addr) (nc:Nat) (fr:Nat→Nat) (n:Nat) (u:Zf.U) (us:List Zf.U) (d:Ng) (nb:Nat) (N:List Nat) (mo:Option Addr) (mc:Nat) (h:bG w sb so cs T D no nc) (hT1:T≠136) (hT2:T≠3) (hok:bZ D fr) (hn:fk w nb N mo mc) (har:aY w D (fun g=>¬br nb mo g)) (hnl:n<D.length) (hd:D[fr n]?=some d) (od:fU D.length d) (md:d∈D) (hk:d.k≠1) (mj:d.args.length=us.length) (hts:∀(i a:Nat) (v:Zf.U),d.args[i]?=some a→us[i]?=some v→Zf.Tr (aX D) fr a v)
 (hu:(d.k=2∧u= .n 3 [] d.val []∧us=[])∨(d.k=3∧u= .n 1 d.tx.toList 0 us)) (hs:Zf.size u≤s+1) (hl:N.length+Zf.size u≤1000000):
 Calls Tryz.prog 72 #[.pointer (some ⟨sb,so,none⟩),.int .i64 (n:Int),.pointer (some ⟨nb,0,none⟩)] w fun e w'=>FP (s+1) nb N mo u w e w':=by
 obtain⟨k,hk'⟩:=hok.hop n hnl
 have hsz:Zf.size u=1+Zf.sizeL us:=by
  rcases hu with⟨_,rfl,rfl⟩ | ⟨_,rfl⟩
  ·simp[Zf.size,Zf.sizeL]
  ·rw[Zf.size]
 have Us:Zf.uargs u=us:=by
  rcases hu with⟨_,rfl,rfl⟩ | ⟨_,rfl⟩<;>rfl
 have Ut:∀M,Zf.aZ M u=us.foldl Zf.aZ M:=fun M=>by
  rcases hu with⟨_,rfl,rfl⟩ | ⟨_,rfl⟩<;>rw[Zf.gS]
 have Ix:∀M ao cap,uz M ⟨d.k,d.val,d.tx,ao,us.length,cap⟩ u:=fun M ao cap=>by
  rcases hu with⟨q,rfl,rfl⟩ | ⟨q,rfl⟩
  ·exact Or.inl ⟨rfl,q,rfl,rfl,rfl⟩
  ·exact Or.inr ⟨rfl,q,rfl,rfl,by rw[←mj];exact od.few⟩
 have LA:=hide (fun W (hb:Below w.heap.size w W)=>dS W sb so cs T D no nc n (fr n) k d (h.below hb) hk' hd)
 have AG:=hide (fun W (hb:Below w.heap.size w W)=>mg W sb so cs T D no nc n (fr n) k d (h.below hb) hk' hd)
 have nX:=hide (show∀W R,aY W D R→o5 W d.ao d.args from fun W R q=>q.row md)
 have oZ:=hide od.inn
 have cH:=hide hts
 have jv:=hide hsz
 have HS:=hide hs
 have HL:=hide hl
 have Xp:=hide Us
 have Xq:=hide Ut
 have Uu:=hide Ix
 have HN:=hide hn
 have HST:=hide h
 have VN:=hide har
 have qE:=hide hok
 have I:=hide IH
 have vN:=od.few
 have Qn:=hide hT1
 have Uv:=hide hT2
 obtain⟨i0',hi,hz0,hz1,hz2⟩:=info_parts Tryz.info74
 obtain⟨dk,val,tx,cnt,ao,cap,xs,nx,mrk⟩:=d
 dsimp only at hk LA AG nX oZ cH mj vN Uu
 have t1:(dk == 1)=false:=by simpa using hk
 have Nj:=hide mj
 clear h hok hn har hnl hd od md hk' hk hts hu hsz Us Ut Ix hs hl IH mj hT1 hT2
 go_enter Tryz.func72,Tryz.ntmps72
 go_wp2_with fail
 refine(ae LA _ ((Below.refl _ _).alloc (Nat.le_refl _) _)).mono ?_
 rintro e w1 ⟨rfl,hb1⟩
 have bC:=hide ((((Below.refl w.heap.size w).alloc (Nat.le_refl _) (.cells #[.int .i64 0,.int .i64 0,.string ⟨#[]⟩,.slice none 0 0] 74)).trans (hb1.mono (by simp))).alloc (by have:=hb1.size;simp at this;omega) (.cells #[.int .i64 dk,.int .i64 val,.string tx,.int .i64 (cnt:Int)] 144))
 have r0:=hb1.block w.heap.size (by simp)
 have r1:=r0.trans (heap_alloc_new w _)
 have z1:w.heap.size<w1.heap.size:=af r1
 have hB4:Below w.heap.size w ((w1.alloc (.cells #[.int .i64 dk,.int .i64 val,.string tx,.int .i64 (cnt:Int)] 144)).alloc (.cells #[.int .i64 dk,.int .i64 val,.string tx,.slice none 0 0] 74)):=(ae bC).alloc (by simp;omega) _
 have e4:=heap_alloc_new (w1.alloc (.cells #[.int .i64 dk,.int .i64 val,.string tx,.int .i64 (cnt:Int)] 144)) (.cells #[.int .i64 dk,.int .i64 val,.string tx,.slice none 0 0] 74)
 rw[World.size_alloc]at e4
 have xj:=hide (show Qm w sb so cs T D no nc (w1.heap.size+1) nb N mo s us (.int .i64 dk) (.int .i64 val) (.string tx) us.length (.int .i64 0) ((w1.alloc (.cells #[.int .i64 dk,.int .i64 val,.string tx,.int .i64 (cnt:Int)] 144)).alloc (.cells #[.int .i64 dk,.int .i64 val,.string tx,.slice none 0 0] 74))from
  ⟨0,N,mo,mc,.slice none 0 0,[],by omega,rfl,(ae HN).below hB4,rfl,aq.of_below hB4,aA (aA r1 _) _,e4,World.ownsRow_nil _ _ _ _,trivial,(ae HST).below hB4,(ae VN).below hB4⟩)
 have cu:=hide hB4
 clear hb1 r0 r1 hB4 e4
 go_wp2_with fail
 refine(ae AG _ (ae cu)).mono ?_
 rintro e w2 ⟨rfl,rfl⟩
 have Uw:=hide (show xs.length=us.length from ae Nj)
 go_wp2_with fail
 go_loopg [37] us.length (fun k iv wr=>Qm w sb so cs T D no nc (w1.heap.size+1) nb N mo s us (.int .i64 dk) (.int .i64 val) (.string tx) k iv wr)
 case atStart=>exact ae xj
 case round=>
  clear xj
  obtain⟨j,N1,mo1,mc1,av,vs,hkj,rfl,kL,hnn,ct,hbz,zu,how,hall,hst,har⟩:=hrel
  obtain⟨oo,cp,rfl⟩:=gH how
  have z2:=af zu
  by_cases hlt:j<us.length
  ·have FQ:j<xs.length:=by have:=ae Uw;omega
   obtain⟨gx,ex,zx,cx⟩:=(ae nX wr _ har).at FQ
   subst ex
   have hsj:Zf.size us[j]≤Zf.sizeL us:=Zf.iO (List.getElem_mem hlt)
   have hN1:N1.length≤N.length+Zf.sizeL (us.take j):=by
    have:=Zf.Ir (us.take j) (Zf.bt N)
    rw[←hnn,Zf.El,Zf.El]at this
    exact this
   have Nf:Zf.sizeL (us.take (j+1))=Zf.sizeL (us.take j)+Zf.size us[j]:=by
    rw[List.take_add_one,List.getElem?_eq_getElem hlt]
    exact sizeL_snoc _ _
   have hle:=xh us (j+1)
   have IC:=hide (ae I wr sb so cs T D no nc fr xs[j] us[j] nb N1 mo1 mc1 hst (ae Qn) (ae Uv) (ae qE) kL har (ae oZ _ (List.getElem_mem FQ)) (ae cH j _ _ (List.getElem?_eq_getElem FQ) (List.getElem?_eq_getElem hlt)) (by have:=ae jv;have:=ae HS;omega) (by have:=ae jv;have:=ae HL;omega))
   have jD:=hide (show (us.take (j+1)).foldl Zf.aZ (Zf.bt N)=Zf.aZ (Zf.bt N1) us[j]by rw[List.take_add_one,List.getElem?_eq_getElem hlt,List.foldl_append,hnn];rfl)
   have rU:=hide (show us.take (j+1)=us.take j++[us[j]]by rw[List.take_add_one,List.getElem?_eq_getElem hlt];rfl)
   have aW:=hide hkj
   have ba:=hide hlt
   have gX:=hide kL
   have gB:=hide ct
   have eK:=hide hbz
   have Nk:=hide zu
   have HOW:=hide how
   have BQ:=hide hall
   have BB:=hide hst
   have TG:=hide har
   have j0:(0:Int)≤(j:Int):=by omega
   have j1:(j:Int)<(xs.length:Int):=by omega
   have j3:j≤3:=by omega
   generalize xs[j]=na at*
   generalize us[j]=uj at*
   clear kL hnn ct hbz zu how hall hst har hsj hN1 Nf hle FQ hkj hlt
   go_wp2_with fail
   refine(ae IC).mono ?_
   rintro e w2 ⟨a2,N2,mo2,mc2,rfl,Ux,hv2,hr2,hf2⟩
   have q0:=(hf2.block w.heap.size (af (ae eK)) ((ae gX).apart (ae eK) (by decide) (by decide))).trans (ae eK)
   have q2:=(hf2.block (w1.heap.size+1) (af (ae Nk)) ((ae gX).apart (ae Nk) (by decide) (by decide))).trans (ae Nk)
   have Bu:=hide (ai (ae HOW) (fun g q=>hf2.block g ((ae HOW).lt g q).2 (by
    rcases(ae HOW).2 with⟨c,_⟩ | ⟨g',cp',cur,c,_,hc,_⟩
    ·rw[c]at q;simp[Value.ownBlock]at q
    ·rw[c]at q
     simp[Value.ownBlock]at q
     subst q
     exact(ae gX).apart hc (by decide) (by decide))))
   have y2:=ah q2
   have yz2:=af q2
   have Xr:=hide q0
   have pU:=hide q2
   have nG:=hide Ux
   have zC:=hide hv2
   have mI:=hide hr2
   have vk:=hide hf2
   have FR:=hf2.size
   have Y1:w.heap.size<w1.heap.size+1:=by omega
   clear q0 q2 Ux hv2 hr2 hf2 IC
   go_wp2_with (first | (at_builtin;go_must (refine wpList_append_own_at _ rfl (.tmp 46) (.tmp 48) 72 rfl (w1.heap.size+1+1) 74 i0' (.agg #[.int .i64 0,.int .i64 0,.string ⟨#[]⟩,.slice none 0 0]) 4 56 Tryz.underlying72 hi hz0 hz1 hz2 rfl (by decide) _ j (vs.flatMap gP) rfl (((ae Bu).alloc _).alloc _) ⟨w2.heap.size+1,0,none⟩ 1 1 [.int .i64 a2.k,.int .i64 a2.val,.string a2.tx,.slice a2.ao a2.n a2.cap] rfl rfl (Bq _ _ _ _ _ _ _) (Br _ _ _ _ _ _) (by unfold maxLen;omega) (by omega) (by simp;omega) ?_);go_must (intro v' w7 hown' hgrow _ hat;obtain⟨g',cap',hv,hcm⟩:=ft hown';subst hv;have rR:=hide (show (Value.slice (some ⟨g',0,none⟩) (j+1) cap').ownBlock=(Value.slice oo j cp).ownBlock∨(Value.slice (some ⟨g',0,none⟩) (j+1) cap').ownBlock=some _ from hat);have HG:=hide (show _ from hgrow);have AJ:=hide hown';have o9:=hide ((((Below.refl (w1.heap.size+1+1) w2).alloc (by omega) (.cells #[.int .i64 a2.k,.int .i64 a2.val,.string a2.tx,.slice a2.ao a2.n a2.cap] 74)).alloc (by simp;omega) (.cells #[.int .i64 a2.k,.int .i64 a2.val,.string a2.tx,.slice a2.ao a2.n a2.cap] 74)).grown hgrow (by simp;omega) (fun k q=>((ae Bu).lt k q).1));have q7:=((ae o9).block (w1.heap.size+1) (by omega)).trans (ae pU);have Xt:=hide q7;have z7:=ah q7;have zx7:=au q7;have zz7:=af q7;clear hown' hgrow hat q7)))
   obtain⟨M,hM⟩:=Zf.q8 uj (Zf.bt N1)
   have mJ:=hide (Lg (ae gX) (ae BQ) (ae mI) ((ae zC).trans hM) (ae vk) z2 (fun k q=>(ae HOW).lt k q) (ae HG) (ae rR) (.slice (some ⟨g',0,none⟩) (j+1) cap'))
   clear hM
   go_roundg (gk - 1)
   case measure=>have:=ae aW;have:=ae ba;omega
   case rel=>
    have hG:=ae HG
    have Qo:=hG.size
    simp only[World.size_alloc]at Qo
    have keepN:∀g,g<w2.heap.size→(∀p,oo=some p→g≠p.block)→g≠w1.heap.size+1→(w7.setCell ⟨w1.heap.size+1,3,none⟩ (.slice (some ⟨g',0,none⟩) (j+1) cap')).heap[g]?=w2.heap[g]?:=fun g h1 h2 h3=>by
     rw[aC _ _ _ _ h3,hG.block g (by simp;omega) (iQ h2),Below.heap_alloc _ _ _ (by simp;omega),Below.heap_alloc _ _ _ h1]
    have oty:∀(g:Nat) (xs:Array Value) (S:TypeId),w2.heap[g]?=some (.cells xs S (0,0))→S≠74→∀p,oo=some p→g≠p.block:=fun g xs S hg hS p hp e=>by
     rcases(ae Bu).2 with⟨c,_⟩ | ⟨g'',cp',cur,c,_,hc,_⟩
     ·rw[hp]at c;cases c
     ·simp only[Value.slice.injEq]at c
      rw[hp]at c
      obtain⟨c,_⟩:=c
      cases c
      dsimp only at e
      subst e
      rw[hc]at hg
      simp only[Option.some.injEq,Obj.cells.injEq]at hg
      exact hS hg.2.1.symm
    have tyT:∀(g:Nat) (xs:Array Value) (S:TypeId),w2.heap[g]?=some (.cells xs S (0,0))→S≠74→(w7.setCell ⟨w1.heap.size+1,3,none⟩ (.slice (some ⟨g',0,none⟩) (j+1) cap')).heap[g]?=w2.heap[g]?:=fun g xs S hg hS=>keepN g (af hg) (oty g xs S hg hS) (fun e=>by
     subst e
     rw[ae pU]at hg
     simp only[Option.some.injEq,Obj.cells.injEq]at hg
     exact hS hg.2.1.symm)
    have hB7:=ae o9
    have lowO:∀p,oo=some p→w1.heap.size+1+1≤p.block:=fun p q=>((ae Bu).lt p.block (by rw[q];rfl)).1
    refine⟨j+1,N2,mo2,mc2,.slice (some ⟨g',0,none⟩) (j+1) cap',vs++[a2],by have:=ae aW;have:=ae ba;omega,by go_num,⟨(tyT _ _ _ (ae nG).blk (by decide)).trans (ae nG).blk,ai (ae nG).own fun g q=> ?_⟩,(ae zC).trans (ae jD).symm,?_,?_,?_,?_,?_,?_,?_⟩
    ·rcases(ae nG).own.2 with⟨c,_⟩ | ⟨g'',cp',cur,c,_,hc,_⟩
     ·rw[c]at q;simp[Value.ownBlock]at q
     ·rw[c]at q
      simp[Value.ownBlock]at q
      subst q
      exact tyT _ _ _ hc (by decide)
    ·have q:=(ae gB).trans (ae vk)
     refine⟨hG.os.trans q.os,hG.tape.trans q.tape,hG.output.trans q.output,by rw[bS];have:=q.size;omega,fun k hk hr=> ?_,q.row⟩
     rw[keepN k (by have:=q.size;omega) (fun p hp e=>by have:=lowO p hp;omega) (by omega)]
     exact q.block k hk hr
    ·exact aF ((hB7.block _ (by omega)).trans (ae Xr)) (by omega) _ _
    ·have:=aw (ae Xt) 3 (.slice (some ⟨g',0,none⟩) (j+1) cap')
     simpa using this
    ·have:=ai (ae AJ) (w':=w7.setCell ⟨w1.heap.size+1,3,none⟩ (.slice (some ⟨g',0,none⟩) (j+1) cap')) (fun k q=>aC _ _ _ _ (by have:=((ae AJ).lt k q).1;omega))
     rw[List.flatMap_append]
     simpa [gP] using this
    ·rw[ae rU]
     exact ae mJ
    ·have hs2:=(ae BB).Iq (ae gX) (ae Qn) (ae Uv) (ae vk)
     refine⟨?_,hs2.cel,ai hs2.own fun g q=> ?_,hs2.ty⟩
     ·by_cases hTT:T=74
      ·have vP:=af (ae HST).blk
       exact(aC _ _ _ _ (by omega)).trans ((hG.block sb (by have:=af hs2.blk;simp;omega) (iQ fun p hp e=>by have:=lowO p hp;omega)).trans ((Below.heap_alloc _ _ _ (by have:=af hs2.blk;simp;omega)).trans ((Below.heap_alloc _ _ _ (af hs2.blk)).trans hs2.blk)))
      ·exact(tyT _ _ _ hs2.blk hTT).trans hs2.blk
     ·rcases hs2.own.2 with⟨c,_⟩ | ⟨g'',cp',cur,c,_,hc,_⟩
      ·rw[c]at q;simp[Value.ownBlock]at q
      ·rw[c]at q
       simp[Value.ownBlock]at q
       subst q
       exact tyT _ _ _ hc (by decide)
    ·exact((ae TG).Iq (ae vk)).keep fun g cs hp hc=>⟨(tyT _ _ _ hc (by decide)).trans hc,hp⟩
  ·obtain rfl:j=us.length:=by omega
   rw[List.take_length]at hall hnn
   have Uy:xs.length=us.length:=ae Uw
   have Uz:RV (s+1) (Zf.bt N1) (fun g=>w.heap.size<g) wr ⟨dk,val,tx,oo,us.length,cp⟩ u:=by
    refine⟨ae Uu _ _ _,fun q=> ?_⟩
    rw[ae Xp]at q⊢
    rcases how.2 with⟨_,h0⟩ | ⟨g,cap',cur,q1,hb,hc,_,_,_,ht⟩
    ·exact absurd (List.length_eq_zero_iff.1 h0) q
    ·simp only[Value.slice.injEq]at q1
     obtain⟨rfl,_,rfl⟩:=q1
     exact⟨g,vs,cur,rfl,by omega,hc,by rw[hall.length];exact ht,hall.imp fun _ _ r=>r.keep fun k cs hp hc'=>⟨hc',by omega⟩⟩
   have r1:=ah hbz
   have x1:=au hbz
   have y1:=af hbz
   have r2:=ah zu
   have Nl:=hide Uz
   have gX:=hide kL
   have jD:=hide hnn
   have gB:=hide ct
   have eK:=hide hbz
   have Nk:=hide zu
   clear kL hnn ct zu how hall hst har hkj Uz hbz
   rw[←Uy]
   go_wp2_with fail
   rw[Uy]
   refine bodyPost_ret (v:= .agg #[.int .i64 dk,.int .i64 val,.string tx,.slice oo us.length cp]) (by simp[results,Tryz.results72,go_sem,r1]) rfl ?_
   have jV:∀g,g≠w.heap.size→((((wr.setCell ⟨w.heap.size,0,none⟩ (.int .i64 dk)).setCell ⟨w.heap.size,1,none⟩ (.int .i64 val)).setCell ⟨w.heap.size,2,none⟩ (.string tx)).setCell ⟨w.heap.size,3,none⟩ (.slice oo us.length cp)).heap[g]?=wr.heap[g]?:=fun g hg=>by rw[aC _ _ _ _ hg,aC _ _ _ _ hg,aC _ _ _ _ hg,aC _ _ _ _ hg]
   have VO:¬br nb mo1 w.heap.size:=(ae gX).apart (ae eK) (by decide) (by decide)
   have hne:nb≠w.heap.size:=by have:=af (ae HN).blk;omega
   refine⟨⟨dk,val,tx,oo,us.length,cp⟩,N1,mo1,mc1,rfl,⟨(jV nb hne).trans (ae gX).blk,ai (ae gX).own (fun g q=>jV g fun e=> ?_)⟩,by rw[ae Xq];exact ae jD,?_,?_⟩
   ·subst e
    exact VO (Or.inr (by
     cases mo1 with
     | none=>simp[Value.ownBlock]at q
     | some a=>simp[Value.ownBlock]at q;exact⟨a,rfl,q.symm⟩))
   ·exact(ae Nl).keep (fun g cs hp hc=>⟨(jV g (by omega)).trans hc,by omega⟩)
   ·have q:=ae gB
    refine⟨q.os,q.tape,q.output,by simp only[bS];exact q.size,fun k hk hr=> ?_,q.row⟩
    rw[jV k (by omega)]
    exact q.block k hk hr
theorem tree_all:∀s,BP s
 | 0=>fun _ _ _ _ _ _ _ _ _ _ u _ _ _ _ _ _ _ _ _ _ _ _ hs _=>absurd hs (by have:=Zf.size_pos u;omega)
 | s+1=>fun w sb so cs T D no nc fr n u nb N mo mc h hT1 hT2 hok hn har hnl ht hs hl=>by
  obtain⟨d,us,hd,od,md,mj,hts,hu⟩:=BF hok hnl ht
  rcases hu with⟨hk,rfl,rfl⟩ | hu
  ·exact Le s w sb so cs T D no nc fr n d nb N mo mc h hT1 hT2 hok hn hnl hd hk (by simpa [Zf.size] using hl)
  ·have hk:d.k≠1:=by rcases hu with⟨q,_⟩ | ⟨q,_⟩<;>omega
   exact Iw (tree_all s) w sb so cs T D no nc fr n u us d nb N mo mc h hT1 hT2 hok hn har hnl hd od md hk mj hts hu hs hl
structure BR (w:World) (cb:Nat) (V:List Nat) (vo:Option Addr) (vc:Nat):Prop where
 blk:w.heap[cb]?=some (.cells #[.slice vo V.length vc] 90 (0,0))
 own:w.ownsRow 0 3 1 (.slice vo V.length vc) V.length (V.map aJ)
def bO (sb:Nat) (no:Option Addr) (cb:Nat) (vo:Option Addr) (k:Nat):Prop:=k=sb∨rowOf no k∨k=cb∨rowOf vo k
structure fI (P:Nat→Prop) (w:World) (sb so:Nat) (cs:Array Value) (T:TypeId) (cb:Nat) (D:List Ng) (V:List Nat) (no:Option Addr) (nc:Nat) (vo:Option Addr) (vc:Nat):Prop where
 st:bG w sb so cs T D no nc
 sc:BR w cb V vo vc
 t1:T≠90
 t2:T≠3
 args:aY w D fun g=>P g∧¬rowOf vo g
theorem aN {w:World} {b:Nat} {S S':TypeId} {sz:Nat} {o:Option Addr} {n cap:Nat} {xs:List Value} (h:w.ownsRow b S sz (.slice o n cap) n xs) {g:Nat} {ys:Array Value} (hg:w.heap[g]?=some (.cells ys S' (0,0))) (hne:S'≠S):¬rowOf o g:=by
 rintro⟨p,rfl,rfl⟩
 rcases h.2 with⟨c,_⟩ | ⟨g,cp,cur,c,_,hc,_⟩
 ·cases c
 ·simp only[Value.slice.injEq,Option.some.injEq]at c
  obtain⟨rfl,_⟩:=c
  rw[hc]at hg
  simp only[Option.some.injEq,Obj.cells.injEq]at hg
  exact hne hg.2.1.symm
theorem aG {o:Option Addr} {n cap g:Nat} (q:(Value.slice o n cap).ownBlock=some g):rowOf o g:=by
 cases o with
 | none=>simp[Value.ownBlock]at q
 | some a=>simp[Value.ownBlock]at q;exact⟨a,rfl,q.symm⟩
theorem bX {o:Option Addr} {n cap g:Nat} (q:¬rowOf o g):some g≠(Value.slice o n cap).ownBlock:=iQ fun p hp e=>q ⟨p,hp,e⟩
theorem aH {w:World} {b:Nat} {S:TypeId} {sz:Nat} {o:Option Addr} {n cap:Nat} {xs:List Value} (h:w.ownsRow b S sz (.slice o n cap) n xs) {g:Nat} (hg:rowOf o g):∃cur,w.heap[g]?=some (.cells cur S (0,0)):=by
 obtain⟨p,rfl,rfl⟩:=hg
 rcases h.2 with⟨c,_⟩ | ⟨g,cp,cur,c,_,hc,_⟩
 ·cases c
 ·simp only[Value.slice.injEq,Option.some.injEq]at c
  obtain⟨rfl,_⟩:=c
  exact⟨cur,hc⟩
section
variable {P:Nat→Prop} {w:World} {sb so:Nat} {cs:Array Value} {T:TypeId} {cb:Nat} {D:List Ng} {V:List Nat} {no:Option Addr} {nc:Nat} {vo:Option Addr} {vc:Nat}
theorem BR.below {w':World} (h:BR w cb V vo vc) (hb:Below w.heap.size w w'):BR w' cb V vo vc:=
 ⟨(hb.block cb (af h.blk)).trans h.blk,ai h.own (fun g q=>hb.block g (h.own.lt g q).2)⟩
theorem fI.below {w':World} (h:fI P w sb so cs T cb D V no nc vo vc) (hb:Below w.heap.size w w'):fI P w' sb so cs T cb D V no nc vo vc:=
 ⟨h.st.below hb,h.sc.below hb,h.t1,h.t2,h.args.below hb⟩
theorem fI.ne (h:fI P w sb so cs T cb D V no nc vo vc):sb≠cb:=fun e=>by
 have h1:=h.st.blk
 rw[e,h.sc.blk]at h1
 simp only[Option.some.injEq,Obj.cells.injEq]at h1
 exact h.t1 h1.2.1.symm
theorem fI.rows (h:fI P w sb so cs T cb D V no nc vo vc):∀k,bO sb no cb vo k→k<w.heap.size:=by
 rintro k (rfl | ⟨p,rfl,rfl⟩ | rfl | ⟨p,rfl,rfl⟩)
 ·exact af h.st.blk
 ·exact(h.st.own.lt p.block rfl).2
 ·exact af h.sc.blk
 ·exact(h.sc.own.lt p.block rfl).2
theorem fI.node {W w1:World} (h:fI P w sb so cs T cb D V no nc vo vc) (_hP:∀g,w.heap.size≤g→P g) (rV:so<cs.size) (hW:Below w.heap.size w W) {g cap':Nat} {d:Ng}
 (hown:w1.ownsRow 0 147 7 (.slice (some ⟨g,0,none⟩) (D.length+1) cap') (D.length+1) (kA D++nW d)) (hg:W.grownBy w1 (Value.slice no D.length nc).ownBlock) (hat:rowOf no g∨w.heap.size≤g)
 (hd:d.args≠[]→∃(q:Nat) (xs:Array Value),d.ao=some ⟨q,0,none⟩∧P q∧¬rowOf vo q∧q<w.heap.size∧w.heap[q]?=some (.cells xs 3 (0,0))∧xs.toList.take d.args.length=d.args.map aJ):
 fI P (w1.setCell ⟨sb,so,none⟩ (.slice (some ⟨g,0,none⟩) (D.length+1) cap')) sb so (cs.setIfInBounds so (.slice (some ⟨g,0,none⟩) (D.length+1) cap')) T cb (D++[d]) V (some ⟨g,0,none⟩) cap' vo vc∧aq (bO sb no cb vo) (bO sb (some ⟨g,0,none⟩) cb vo) w (w1.setCell ⟨sb,so,none⟩ (.slice (some ⟨g,0,none⟩) (D.length+1) cap')):=by
 have hz:=hW.size
 have s0:=af h.st.blk
 have c0:=af h.sc.blk
 have keep:∀k,k<w.heap.size→k≠sb→¬rowOf no k→(w1.setCell ⟨sb,so,none⟩ (.slice (some ⟨g,0,none⟩) (D.length+1) cap')).heap[k]?=w.heap[k]?:=fun k h1 h2 h3=>by
  rw[aC _ _ _ _ h2,hg.block k (by omega) (bX h3),hW.block k h1]
 have nsb:¬rowOf no sb:=aN h.st.own h.st.blk h.st.ty
 have ncb:¬rowOf no cb:=aN h.st.own h.sc.blk (by decide)
 have gsb:g≠sb:=fun e=>by
  rcases hat with q | q
  ·exact nsb (e ▸ q)
  ·omega
 have row:∀k,bO sb (some ⟨g,0,none⟩) cb vo k→bO sb no cb vo k∨w.heap.size≤k:=by
  rintro k (e | ⟨p,q,e⟩ | e | e)
  ·exact Or.inl (Or.inl e)
  ·cases q
   dsimp only at e
   subst e
   rcases hat with q | q
   ·exact Or.inl (Or.inr (Or.inl q))
   ·exact Or.inr q
  ·exact Or.inl (Or.inr (Or.inr (Or.inl e)))
  ·exact Or.inl (Or.inr (Or.inr (Or.inr e)))
 have fQ:∀(k:Nat) (ys:Array Value) (S:TypeId),w.heap[k]?=some (.cells ys S (0,0))→S≠T→S≠147→(w1.setCell ⟨sb,so,none⟩ (.slice (some ⟨g,0,none⟩) (D.length+1) cap')).heap[k]?=some (.cells ys S (0,0)):=fun k ys S hk h1 h2=>(keep k (af hk) (fun e=>by
  rw[e,h.st.blk]at hk
  simp only[Option.some.injEq,Obj.cells.injEq]at hk
  exact h1 hk.2.1.symm) (aN h.st.own hk h2)).trans hk
 refine⟨⟨⟨?_,?_,?_,h.st.ty⟩,⟨fQ cb _ _ h.sc.blk (Ne.symm h.t1) (by decide),ai h.sc.own fun k q=> ?_⟩,h.t1,h.t2,?_⟩,⟨hg.os.trans hW.os,hg.tape.trans hW.tape,hg.output.trans hW.output,by rw[bS];have:=hg.size;omega,fun k hk hr=>keep k hk (fun e=>hr (Or.inl e)) (fun q=>hr (Or.inr (Or.inl q))),row⟩⟩
 ·have q0:w1.heap[sb]?=some (.cells cs T (0,0)):=by
   rw[hg.block sb (by omega) (bX nsb),hW.block sb s0]
   exact h.st.blk
  exact aw q0 so _
 ·rw[Array.getElem?_setIfInBounds,if_pos rfl,if_pos rV]
  simp
 ·rw[Hv,List.length_append]
  exact ai hown (fun k q=>aC _ _ _ _ (by simp[Value.ownBlock]at q;omega))
 ·obtain⟨cur,hc⟩:=aH h.sc.own (aG q)
  exact(fQ k _ _ hc (Ne.symm h.t2) (by decide)).trans hc.symm
 ·intro d' hd' hne
  rcases List.mem_append.1 hd' with q | q
  ·obtain⟨r,xs,h1,h2,h3,h4⟩:=h.args d' q hne
   exact⟨r,xs,h1,h2,fQ r _ _ h3 (Ne.symm h.t2) (by decide),h4⟩
  ·obtain rfl:d'=d:=by simpa using q
   obtain⟨r,xs,h1,h2,h3,h4,h5,h6⟩:=hd hne
   exact⟨r,xs,h1,⟨h2,h3⟩,fQ r _ _ h5 (Ne.symm h.t2) (by decide),h6⟩
theorem fI.VP {W w1:World} (h:fI P w sb so cs T cb D V no nc vo vc) (hW:Below w.heap.size w W) {g cap' n:Nat}
 (hown:w1.ownsRow 0 3 1 (.slice (some ⟨g,0,none⟩) (V.length+1) cap') (V.length+1) (V.map aJ++[aJ n])) (hg:W.grownBy w1 (Value.slice vo V.length vc).ownBlock) (hat:rowOf vo g∨w.heap.size≤g):
 fI P (w1.setCell ⟨cb,0,none⟩ (.slice (some ⟨g,0,none⟩) (V.length+1) cap')) sb so cs T cb D (V++[n]) no nc (some ⟨g,0,none⟩) cap'∧aq (bO sb no cb vo) (bO sb no cb (some ⟨g,0,none⟩)) w (w1.setCell ⟨cb,0,none⟩ (.slice (some ⟨g,0,none⟩) (V.length+1) cap')):=by
 have hz:=hW.size
 have s0:=af h.st.blk
 have c0:=af h.sc.blk
 have keep:∀k,k<w.heap.size→k≠cb→¬rowOf vo k→(w1.setCell ⟨cb,0,none⟩ (.slice (some ⟨g,0,none⟩) (V.length+1) cap')).heap[k]?=w.heap[k]?:=fun k h1 h2 h3=>by
  rw[aC _ _ _ _ h2,hg.block k (by omega) (bX h3),hW.block k h1]
 have ncb:¬rowOf vo cb:=aN h.sc.own h.sc.blk (by decide)
 have gcb:g≠cb:=fun e=>by
  rcases hat with q | q
  ·exact ncb (e ▸ q)
  ·omega
 have row:∀k,bO sb no cb (some ⟨g,0,none⟩) k→bO sb no cb vo k∨w.heap.size≤k:=by
  rintro k (e | e | e | ⟨p,q,e⟩)
  ·exact Or.inl (Or.inl e)
  ·exact Or.inl (Or.inr (Or.inl e))
  ·exact Or.inl (Or.inr (Or.inr (Or.inl e)))
  ·cases q
   dsimp only at e
   subst e
   rcases hat with q | q
   ·exact Or.inl (Or.inr (Or.inr (Or.inr q)))
   ·exact Or.inr q
 have fQ:∀(k:Nat) (ys:Array Value) (S:TypeId),w.heap[k]?=some (.cells ys S (0,0))→S≠90→S≠3→(w1.setCell ⟨cb,0,none⟩ (.slice (some ⟨g,0,none⟩) (V.length+1) cap')).heap[k]?=some (.cells ys S (0,0)):=fun k ys S hk h1 h2=>(keep k (af hk) (fun e=>by
  rw[e,h.sc.blk]at hk
  simp only[Option.some.injEq,Obj.cells.injEq]at hk
  exact h1 hk.2.1.symm) (aN h.sc.own hk h2)).trans hk
 refine⟨⟨⟨fQ sb _ _ h.st.blk h.t1 h.t2,h.st.cel,ai h.st.own fun k q=> ?_,h.st.ty⟩,⟨?_,?_⟩,h.t1,h.t2,?_⟩,⟨hg.os.trans hW.os,hg.tape.trans hW.tape,hg.output.trans hW.output,by rw[bS];have:=hg.size;omega,fun k hk hr=>keep k hk (fun e=>hr (Or.inr (Or.inr (Or.inl e)))) (fun q=>hr (Or.inr (Or.inr (Or.inr q)))),row⟩⟩
 ·obtain⟨cur,hc⟩:=aH h.st.own (aG q)
  exact(fQ k _ _ hc (by decide) (by decide)).trans hc.symm
 ·have q0:w1.heap[cb]?=some (.cells #[.slice vo V.length vc] 90 (0,0)):=by
   rw[hg.block cb (by omega) (bX ncb),hW.block cb c0]
   exact h.sc.blk
  have:=aw q0 0 (.slice (some ⟨g,0,none⟩) (V.length+1) cap')
  simpa using this
 ·rw[List.length_append,List.map_append]
  exact ai hown (fun k q=>aC _ _ _ _ (by simp[Value.ownBlock]at q;omega))
 ·intro d' hd' hne
  obtain⟨r,xs,h1,⟨h2,h2'⟩,h3,h4⟩:=h.args d' hd' hne
  refine⟨r,xs,h1,⟨h2,?_⟩,(keep r (af h3) (fun e=>by
   rw[e,h.sc.blk]at h3
   simp only[Option.some.injEq,Obj.cells.injEq]at h3
   exact absurd h3.2.1 (by decide)) h2').trans h3,h4⟩
  rintro⟨p,q,e⟩
  cases q
  dsimp only at e
  subst e
  rcases hat with q | q
  ·exact h2' q
  ·have:=af h3;omega
end
end Go.Proofs.YthfjnfcekeknlabGreatDoor
namespace Go.Proofs.YthfjnfcekeknlabGreatDoor
open Go.RowKit
theorem Iy (w:World) (sb so cb:Nat) (V:List Nat) (vo:Option Addr) (vc:Nat) (i:Nat) (h:BR w cb V vo vc) (hi:i<V.length):
 Calls Tryz.prog 77 #[.pointer (some ⟨sb,so,none⟩),.int .i64 (i:Int),.pointer (some ⟨cb,0,none⟩)] w fun e w'=>e= .returned (aJ V[i])∧w'=w:=by
 have c0:=ah h.blk 0
 have cz:=af h.blk
 simp only[List.getElem?_toArray,List.getElem?_cons_zero]at c0
 obtain⟨g,hg⟩:∃g,vo=some ⟨g,0,none⟩:=by
  rcases h.own.2 with⟨q,q2⟩ | ⟨g,cp,cur,q,_⟩
  ·omega
  ·simp only[Value.slice.injEq]at q
   exact⟨g,q.1⟩
 subst hg
 have f0:w.cell? ⟨g,i,none⟩=some (.int .i64 (V[i]:Int)):=by
  rw[h.own.cellAt i (by omega),List.getElem?_map,List.getElem?_eq_getElem hi]
  rfl
 have gz:=(h.own.lt g rfl).2
 have i0:(0:Int)≤(i:Int):=by omega
 have i1:(i:Int)<(V.length:Int):=by omega
 have t1:decide ((V.length:Int)≤(i:Int))=false:=by simp;omega
 have t2:decide ((i:Int)<0)=false:=by simp
 clear h
 generalize V[i]=n at*
 go_enter Tryz.func77,Tryz.ntmps77
 go_wp2_with fail
 refine wp_loop_rounds 1 ?_
 rw[rounds_succ]
 go_wp2_with fail
 go_ret
 exact⟨rfl,rfl⟩
def td (n:Nat):Ng:=⟨1,0,⟨#[]⟩,0,none,0,[],n,0⟩
theorem Iz (P:Nat→Prop) (w:World) (sb so:Nat) (cs:Array Value) (T:TypeId) (cb:Nat) (D:List Ng) (V:List Nat) (no:Option Addr) (nc:Nat) (vo:Option Addr) (vc:Nat) (h:fI P w sb so cs T cb D V no nc vo vc) (hP:∀g,w.heap.size≤g→P g) (hd:D.length≤1000000000) (hv:V.length≤1000000000):
 Calls Tryz.prog 77 #[.pointer (some ⟨sb,so,none⟩),.int .i64 (V.length:Int),.pointer (some ⟨cb,0,none⟩)] w fun e w'=>e= .returned (aJ D.length)∧∃no' nc' vo' vc',fI P w' sb so (cs.setIfInBounds so (.slice no' (D.length+1) nc')) T cb (D++[td D.length]) (V++[D.length]) no' nc' vo' vc'∧aq (bO sb no cb vo) (bO sb no' cb vo') w w':=by
 obtain⟨ti,hi,hz0,hz1,hz2⟩:=info_parts infoNd
 obtain⟨tj,hj,hy0,hy1,hy2⟩:=info_parts infoIn
 have s0:=h.st.cell
 have sz:=af h.st.blk
 have c0:=ah h.sc.blk 0
 have cz:=af h.sc.blk
 simp only[List.getElem?_toArray,List.getElem?_cons_zero]at c0
 have hne:=h.ne
 have rV:so<cs.size:=by
  have:=h.st.cel
  exact(Array.getElem?_eq_some_iff.1 this).1
 have H:=hide h
 have HP:=hide hP
 have ID:=hide rV
 have t1:decide ((V.length:Int)≤(V.length:Int))=true:=by simp
 have t2:decide ((V.length:Int)<0)=false:=by simp
 have t3:decide ((V.length:Int)+1≤(V.length:Int))=false:=by simp;omega
 have i0:(0:Int)≤(V.length:Int):=by omega
 have i1:(V.length:Int)<(V.length:Int)+1:=by omega
 have n1:sb≠cb:=hne
 have n2:cb≠sb:=Ne.symm hne
 have sP:=hide (show some sb≠(Value.slice no D.length nc).ownBlock from bX (aN h.st.own h.st.blk h.st.ty))
 have Xu:=hide (show some cb≠(Value.slice no D.length nc).ownBlock from bX (aN h.st.own h.sc.blk (by decide)))
 have VQ:=hide (show some cb≠(Value.slice vo V.length vc).ownBlock from bX (aN h.sc.own h.sc.blk (by decide)))
 clear h hP rV
 go_enter Tryz.func77,Tryz.ntmps77
 go_wp2_with fail
 refine wp_loop_rounds 2 ?_
 rw[rounds_succ]
 go_wp2_with (first | (at_builtin;go_loud ((refine wpList_append_own_at _ rfl (.tmp 36) (.tmp 38) 25 rfl 0 3 tj (.int .i64 0) 1 8 Tryz.underlying25 hj hy0 hy1 hy2 rfl (by decide) _ V.length (V.map aJ) rfl ((ae HN).1.sc.own.alloc _) ⟨w7.heap.size,0,none⟩ 1 1 [.int .i64 (D.length:Int)] rfl rfl (ju _ _ _ _ (by rw[bS])) (by simp[Value.oneCell']) (by unfold maxLen;omega) (by omega) (Nat.zero_le _) ?_);(intro v2 w9 hown2 hgrow2 _ Qp;obtain⟨g2,cap2,hv2,-⟩:=ft hown2;subst hv2;have HM:=hide ((ae HN).1.VP ((Below.refl _ _).alloc (Nat.le_refl _) _) (n:=D.length) hown2 hgrow2 (by rcases Qp with q | q;exact Or.inl (aG q.symm);(right;simp only[Value.ownBlock,World.size_alloc,bS,Option.some.injEq]at q⊢;omega)));have m0:=(hgrow2.cell_far ⟨cb,0,none⟩ (by simp only[World.size_alloc,bS];omega) (ae VQ)).trans ((World.cell?_alloc_past _ _ _ (by rw[bS];exact zz7)).trans ((World.cell?_setCell_other _ _ _ _ (by intro e;first | exact n1 (congrArg Addr.block e) | exact n2 (congrArg Addr.block e))).trans k0));have m1:w9.frozen? ⟨cb,0,none⟩=false:=(by have:=au (ae HM).1.sc.blk 0;rwa [World.frozen?_setCell]at this);have m2:w9.cell? ⟨g2,V.length,none⟩=some (.int .i64 (D.length:Int)):=(hown2.cellAt V.length (by omega)).trans (by simp);have mz:=(hown2.lt g2 rfl);have hcw:=af (ae HM).1.sc.blk;have mne:cb≠g2:=(fun e=>aN (ae HM).1.sc.own (ae HM).1.sc.blk (by decide) ⟨_,rfl,e⟩);clear hown2 hgrow2 Qp))) | (at_builtin;go_must (refine wpList_append_own_at _ rfl (.tmp 24) (.tmp 28) 83 rfl 0 147 ti (.agg #[.int .i64 0,.int .i64 0,.string ⟨#[]⟩,.int .i64 0,.slice none 0 0,.int .i64 0,.int .i64 0]) 7 80 Tryz.underlying83 hi hz0 hz1 hz2 rfl (by decide) _ D.length (kA D) rfl ((ae H).st.own.alloc _) ⟨w.heap.size,0,none⟩ 1 1 [.int .i64 1,.int .i64 0,.string ⟨#[]⟩,.int .i64 0,.slice none 0 0,.int .i64 (D.length:Int),.int .i64 0] rfl rfl (TD _ _ _ _ _ rfl rfl) (by simp[Value.oneCell']) (by unfold maxLen;omega) (by omega) (Nat.zero_le _) ?_);go_must (intro v' w7 hown' hgrow _ hat;obtain⟨g',cap',hv',-⟩:=ft hown';subst hv';have HN:=hide ((ae H).node (ae HP) (ae ID) ((Below.refl _ _).alloc (Nat.le_refl _) _) (d:=td D.length) hown' hgrow (by rcases hat with q | q;exact Or.inl (aG q.symm);(right;simp[Value.ownBlock]at q;omega)) (fun q=>absurd rfl q));have k0:=(hgrow.cell_far ⟨cb,0,none⟩ (by simp;omega) (ae Xu)).trans ((World.cell?_alloc_past _ _ _ cz).trans c0);have k1:=(hgrow.cell_far ⟨sb,so,none⟩ (by simp;omega) (ae sP)).trans ((World.cell?_alloc_past _ _ _ sz).trans s0);have k3:w7.frozen? ⟨sb,so,none⟩=false:=(by have:=au (ae HN).1.st.blk so;rwa [World.frozen?_setCell]at this);have zz7:cb<w7.heap.size:=(by have:=af (ae HN).1.sc.blk;rwa [bS]at this);have zz8:sb<w7.heap.size:=(by have:=af (ae HN).1.st.blk;rwa [bS]at this);clear hown' hgrow hat)))
 rw[rounds_succ]
 go_wp2_with fail
 go_ret
 exact⟨rfl,_,_,_,_,(ae HM).1,(ae HN).2.trans (ae HM).2⟩
theorem Np {α β:Type} {R:α→β→Prop}:∀{xs:List α} {ys:List β},bR R xs ys→∀(i:Nat) (h:i<xs.length) (h':i<ys.length),R xs[i] ys[i]
 | _ :: _,_ :: _,q,0,_,_=>q.1
 | _ :: _,_ :: _,q,i+1,h,h'=>Np q.2 i (by simpa using h) (by simpa using h')
theorem O5 {us:List AV} {i:Nat} (h:i<us.length) (j:Nat) (hj:j<4):(us.flatMap gP)[i*4+j]?=(gP us[i])[j]?:=qB (F:=gP) (c:=4) (fun _=>rfl) h j hj
def tq (D:List Ng) (V:List Nat) (N:List (List UInt8)):Nat→Nat→Zf.Tm→Prop
 | 0,_,_=>False
 | f+1,n,t=>(t.kind=3→V[N.idxOf t.text.toList]?=some n)∧(t.kind≠3→∃d,D[n]?=some d∧d.nx=n∧d.k=ak t.kind∧(t.kind=4→d.val=(Zf.numOf t.text:Int))∧(t.kind=2→d.tx=t.text)∧bR (tq D V N f) d.args t.args)
theorem tq.more {D E:List Ng} {V F:List Nat} {N:List (List UInt8)}:∀{f n:Nat} {t:Zf.Tm},tq D V N f n t→tq (D++E) (V++F) N f n t
 | f+1,n,t,⟨h1,h2⟩=>⟨fun k=>by have:=h1 k;rw[List.getElem?_append_left (List.getElem?_eq_some_iff.1 this).1];exact this,fun k=>by
  obtain⟨d,q1,q2,q3,q4,q5,q6⟩:=h2 k
  exact⟨d,by rw[List.getElem?_append_left (List.getElem?_eq_some_iff.1 q1).1];exact q1,q2,q3,q4,q5,q6.imp fun _ _=>tq.more⟩⟩
def dD (b:Nat) (E:List Ng):Prop:=∀(i:Nat) (d:Ng),E[i]?=some d→d.nx=b+i∧d.mrk=0∧fU (b+i) d∧d.tx.size≤240∧0≤d.val∧d.val≤1000000000
theorem dD.app {b:Nat} {E E2:List Ng} (h:dD b E) (h2:dD (b+E.length) E2):dD b (E++E2):=fun i d hd=>by
 by_cases q:i<E.length
 ·rw[List.getElem?_append_left q]at hd
  exact h i d hd
 ·rw[List.getElem?_append_right (by omega)]at hd
  have:=h2 _ d hd
  rw[show b+E.length+(i - E.length)=b+i by omega]at this
  exact this
theorem dD.one {b:Nat} {d:Ng} (h:d.nx=b∧d.mrk=0∧fU b d∧d.tx.size≤240∧0≤d.val∧d.val≤1000000000):dD b [d]:=fun i e he=>by
 cases i with
 | zero=>simp at he;subst he;simpa using h
 | succ i=>simp at he
structure fe (b:Nat) (E:List Ng) (F:List Nat):Prop where
 var:∀n∈F,b≤n∧∃d,E[n - b]?=some d∧d.k=1
 ord:F.Pairwise (·<·)
theorem fe.app {b:Nat} {E E2:List Ng} {F F2:List Nat} (h:fe b E F) (h2:fe (b+E.length) E2 F2):fe b (E++E2) (F++F2):=by
 refine⟨fun n hn=> ?_,?_⟩
 ·rcases List.mem_append.1 hn with q | q
  ·obtain⟨h1,d,h3,h4⟩:=h.var n q
   exact⟨h1,d,by rw[List.getElem?_append_left (List.getElem?_eq_some_iff.1 h3).1];exact h3,h4⟩
  ·obtain⟨h1,d,h3,h4⟩:=h2.var n q
   refine⟨by omega,d,?_,h4⟩
   rw[List.getElem?_append_right (by omega),show n - b - E.length=n - (b+E.length)by omega]
   exact h3
 ·rw[List.pairwise_append]
  refine⟨h.ord,h2.ord,fun x hx y hy=> ?_⟩
  obtain⟨h1,d,h3,_⟩:=h.var x hx
  obtain⟨h4,_⟩:=h2.var y hy
  have:=(List.getElem?_eq_some_iff.1 h3).1
  omega
theorem fe.nil (b:Nat) (E:List Ng):fe b E []:=⟨(fun n hn=>by cases hn),List.Pairwise.nil⟩
theorem fe.last {b:Nat} {E:List Ng} {F:List Nat} (h:fe b E F) (d:Ng):fe b (E++[d]) F:=by
 have:=h.app (fe.nil (b+E.length) [d])
 rwa [List.append_nil]at this
def Em (P:Nat→Prop) (sb so:Nat) (cs:Array Value) (T:TypeId) (cb:Nat) (D:List Ng) (V:List Nat) (no:Option Addr) (vo:Option Addr) (N ns:List (List UInt8)) (f:Nat) (t:Zf.Tm) (w:World) (e:Ending) (w':World):Prop:=
 ∃(n:Nat) (E:List Ng) (F:List Nat) (no':Option Addr) (nc':Nat) (vo':Option Addr) (vc':Nat),e= .returned (aJ n)∧fI P w' sb so (cs.setIfInBounds so (.slice no' (D++E).length nc')) T cb (D++E) (V++F) no' nc' vo' vc'∧dD D.length E∧fe D.length E F∧(V++F).length=(Zf.namesF f ns t).length∧tq (D++E) (V++F) N f n t∧n<(D++E).length∧E.length+1≤3 ^ f∧aq (bO sb no cb vo) (bO sb no' cb vo') w w'
def II (f:Nat):Prop:=∀(P:Nat→Prop) (w:World) (sb so:Nat) (cs:Array Value) (T:TypeId) (cb:Nat) (D:List Ng) (V:List Nat) (no:Option Addr) (nc:Nat) (vo:Option Addr) (vc:Nat) (N ns:List (List UInt8)) (Q:Nat→Prop) (a:AV) (t:Zf.Tm),fI P w sb so cs T cb D V no nc vo vc→(∀g,w.heap.size≤g→P g)→T≠74→(∀n∈V,n<D.length)→RA f N Q w a t→Zf.wfK f t→V.length=ns.length→(∃M,N=Zf.namesF f ns t++M)→D.length+3 ^ f≤1000000000→V.length+3 ^ f≤1000000000→
 Calls Tryz.prog 45 #[.pointer (some ⟨sb,so,none⟩),.agg #[.int .i64 a.k,.int .i64 a.val,.string a.tx,.slice a.ao a.n a.cap],.pointer (some ⟨cb,0,none⟩)] w fun e w'=>Em P sb so cs T cb D V no vo N ns f t w e w'
theorem Qq (f:Nat) (P:Nat→Prop) (w:World) (sb so:Nat) (cs:Array Value) (T:TypeId) (cb:Nat) (D:List Ng) (V:List Nat) (no:Option Addr) (nc:Nat) (vo:Option Addr) (vc:Nat) (N ns:List (List UInt8)) (a:AV) (t:Zf.Tm) (h:fI P w sb so cs T cb D V no nc vo vc) (hP:∀g,w.heap.size≤g→P g) (hV:∀n∈V,n<D.length) (ha:l7 N a t) (_hw:Zf.wfK (f+1) t) (ka:t.kind=3) (hv:V.length=ns.length) (hN:∃M,N=Zf.namesF (f+1) ns t++M) (hd:D.length+3 ^ (f+1)≤1000000000) (hvl:V.length+3 ^ (f+1)≤1000000000):
 Calls Tryz.prog 45 #[.pointer (some ⟨sb,so,none⟩),.agg #[.int .i64 a.k,.int .i64 a.val,.string a.tx,.slice a.ao a.n a.cap],.pointer (some ⟨cb,0,none⟩)] w fun e w'=>Em P sb so cs T cb D V no vo N ns (f+1) t w e w':=by
 have hp:3≤3 ^ (f+1):=by rw[Nat.pow_succ];have:1≤3 ^ f:=Nat.one_le_pow _ _ (by omega);omega
 have BS:Zf.namesF (f+1) ns t=Zf.dQ ns t.text.toList:=by unfold Zf.namesF;rw[if_pos ka]
 rw[BS]at hN
 obtain⟨M,hM⟩:=hN
 obtain⟨h1,h2,h3,h4,h5,h6,h7,h8⟩:=ha
 obtain⟨h9,h10⟩:=h3 ka
 obtain⟨k,val,tx,ao,n,cp⟩:=a
 dsimp only at h1 h2 h10⊢
 have e1:ak t.kind=1:=by rw[ka];rfl
 have hB:=(Below.refl w.heap.size w).alloc (Nat.le_refl _) (.cells #[.int .i64 k,.int .i64 val,.string tx,.slice ao n cp] 74)
 have HW:=hide (h.below hB)
 rw[e1]at h1
 subst h1 h10
 have hcs:∀(cs:Array Value) (so:Nat) (v:Value),cs[so]?=some v→cs.setIfInBounds so v=cs:=fun cs so v q=>by
  apply Array.ext (by simp)
  intro i h1 h2
  rw[Array.getElem_setIfInBounds]
  ·split
   ·rename_i e
    subst e
    exact(Array.getElem?_eq_some_iff.1 q).2.symm
   ·rfl
 by_cases hx:t.text.toList∈ns
 ·have qp:N.idxOf t.text.toList=ns.idxOf t.text.toList:=by
   rw[hM]
   unfold Zf.dQ
   rw[if_pos hx,List.idxOf_append,if_pos hx]
  have hlt:N.idxOf t.text.toList<V.length:=by rw[qp,hv];exact List.idxOf_lt_length_of_mem hx
  have HI:=hide (Iy _ sb so cb V vo vc (N.idxOf t.text.toList) (ae HW).sc hlt)
  have dG:=hide (show Em P sb so cs T cb D V no vo N ns (f+1) t w (.returned (aJ V[N.idxOf t.text.toList])) (w.alloc (.cells #[.int .i64 1,.int .i64 (N.idxOf t.text.toList:Int),.string tx,.slice ao n cp] 74))from by
   refine⟨V[N.idxOf t.text.toList],[],[],no,nc,vo,vc,rfl,?_,(fun i d hd=>by simp at hd),fe.nil _ _,?_,?_,?_,by simp;omega,aq.of_below hB⟩
   ·have:=hcs cs so _ h.st.cel
    simp only[List.append_nil]
    rw[this]
    exact ae HW
   ·rw[BS];unfold Zf.dQ;rw[if_pos hx];simpa using hv
   ·exact⟨fun _=>by simp,fun q=>absurd ka q⟩
   ·simpa using hV _ (List.getElem_mem hlt))
  clear h hP hV h2 h3 h4 h5 h6 h7 h8 h9 hB hcs
  generalize Nq:V[N.idxOf t.text.toList]=m at*
  generalize Xv:N.idxOf t.text.toList=ix at*
  clear Nq Xv qp hv hM
  go_enter Tryz.func45,Tryz.ntmps45
  go_wp2_with fail
  refine(ae HI).mono ?_
  rintro e w2 ⟨rfl,hw2⟩
  rw[hw2]
  clear hw2 w2
  unfold aJ at dG⊢
  go_wp2_with fail
  go_ret
  exact ae dG
 ·have qp:N.idxOf t.text.toList=V.length:=by
   rw[hM,hv]
   unfold Zf.dQ
   rw[if_neg hx,List.append_assoc,List.idxOf_append,if_neg hx]
   simp
  rw[qp]at HW hB⊢
  have HI:=hide (Iz P _ sb so cs T cb D V no nc vo vc (ae HW) (fun g q=>hP g (by simp at q;omega)) (by omega) (by omega))
  have dG:=hide (show∀w2,(∃no' nc' vo' vc',fI P w2 sb so (cs.setIfInBounds so (.slice no' (D.length+1) nc')) T cb (D++[td D.length]) (V++[D.length]) no' nc' vo' vc'∧aq (bO sb no cb vo) (bO sb no' cb vo') (w.alloc (.cells #[.int .i64 1,.int .i64 (V.length:Int),.string tx,.slice ao n cp] 74)) w2)→Em P sb so cs T cb D V no vo N ns (f+1) t w (.returned (aJ D.length)) w2 from fun w2 ⟨no',nc',vo',vc',q1,q2⟩=>by
   refine⟨D.length,[td D.length],[D.length],no',nc',vo',vc',rfl,by rw[List.length_append];exact q1,dD.one ⟨rfl,rfl,⟨Or.inl rfl,fun _=>⟨rfl,rfl,rfl,rfl⟩,(fun q=>by cases q),(fun q=>by cases q),fun a ha=>by cases ha⟩,by simp[td,ByteArray.size],by simp[td],by simp[td]⟩,⟨fun n hn=> ?_,by simp⟩,?_,?_,by simp,by simp;omega,(aq.of_below hB).trans q2⟩
   ·obtain rfl:n=D.length:=by simpa using hn
    exact⟨Nat.le_refl _,td D.length,by simp,rfl⟩
   ·rw[BS];unfold Zf.dQ;rw[if_neg hx];simp[hv]
   ·exact⟨fun _=>by rw[qp];simp,fun q=>absurd ka q⟩)
  clear h hP hV h2 h3 h4 h5 h6 h7 h8 h9 qp hv hM hB hcs
  go_enter Tryz.func45,Tryz.ntmps45
  go_wp2_with fail
  refine(ae HI).mono ?_
  rintro e w2 ⟨rfl,hs2⟩
  have HF:=hide (ae dG w2 hs2)
  clear hs2
  unfold aJ at HF⊢
  go_wp2_with fail
  go_ret
  exact ae HF
section
variable {P:Nat→Prop} {w:World} {sb so:Nat} {cs:Array Value} {T:TypeId} {cb:Nat} {D:List Ng} {V:List Nat} {no:Option Addr} {nc:Nat} {vo:Option Addr} {vc:Nat}
theorem fI.grown {w7:World} {X:Obj} {o o':Option Addr} {n cap b:Nat} {xs:List Value} (h:fI (fun g=>P g∧¬rowOf o g) w sb so cs T cb D V no nc vo vc) (ho:w.ownsRow b 3 1 (.slice o n cap) n xs) (fS:∀g,rowOf o g→¬rowOf vo g) (hg:(w.alloc X).grownBy w7 (Value.slice o n cap).ownBlock) (hat:∀g,rowOf o' g→rowOf o g∨w.heap.size<g):fI (fun g=>P g∧¬rowOf o' g) w7 sb so cs T cb D V no nc vo vc:=by
 have keep:∀k,k<w.heap.size→¬rowOf o k→w7.heap[k]?=w.heap[k]?:=fun k h1 h2=>by
  rw[hg.block k (by simp;omega) (bX h2),Below.heap_alloc _ _ _ h1]
 have fQ:∀(k:Nat) (ys:Array Value) (S:TypeId),w.heap[k]?=some (.cells ys S (0,0))→S≠3→w7.heap[k]?=some (.cells ys S (0,0)):=fun k ys S hk h2=>(keep k (af hk) (aN ho hk h2)).trans hk
 refine⟨⟨fQ sb _ _ h.st.blk h.t2,h.st.cel,ai h.st.own fun k q=> ?_,h.st.ty⟩,⟨fQ cb _ _ h.sc.blk (by decide),ai h.sc.own fun k q=> ?_⟩,h.t1,h.t2,fun d hd hne=> ?_⟩
 ·obtain⟨cur,hc⟩:=aH h.st.own (aG q)
  exact(fQ k _ _ hc (by decide)).trans hc.symm
 ·exact keep k (h.sc.own.lt k q).2 (fun r=>fS k r (aG q))
 ·obtain⟨r,ys,h1,⟨⟨h2,h3⟩,h4⟩,h5,h6⟩:=h.args d hd hne
  refine⟨r,ys,h1,⟨⟨h2,fun q=> ?_⟩,h4⟩,(keep r (af h5) h3).trans h5,h6⟩
  rcases hat r q with q | q
  ·exact h3 q
  ·have:=af h5;omega
theorem fI.ra {w':World} {R':Nat→Prop} {f:Nat} {N:List (List UInt8)} {Q:Nat→Prop} {a:AV} {t:Zf.Tm} (h:fI P w sb so cs T cb D V no nc vo vc) (hT:T≠74) (hf:aq (bO sb no cb vo) R' w w') (hr:RA f N Q w a t):RA f N Q w' a t:=
 hr.keep fun g _ hp hg _=>⟨(hf.block g (af hg) (by
  rintro(e | e | e | e)
  ·rw[e,h.st.blk]at hg
   simp only[Option.some.injEq,Obj.cells.injEq]at hg
   exact hT hg.2.1
  ·exact aN h.st.own hg (by decide) e
  ·rw[e,h.sc.blk]at hg
   simp only[Option.some.injEq,Obj.cells.injEq]at hg
   exact absurd hg.2.1 (by decide)
  ·exact aN h.sc.own hg (by decide) e)).trans hg,hp⟩
theorem fI.blk {w':World} {R':Nat→Prop} {g:Nat} {ys:Array Value} {S:TypeId} (h:fI P w sb so cs T cb D V no nc vo vc) (hf:aq (bO sb no cb vo) R' w w') (hg:w.heap[g]?=some (.cells ys S (0,0))) (h1:S≠T) (h2:S≠147) (h3:S≠90) (h4:S≠3):w'.heap[g]?=some (.cells ys S (0,0)):=
 (hf.block g (af hg) (by
  rintro(e | e | e | e)
  ·rw[e,h.st.blk]at hg
   simp only[Option.some.injEq,Obj.cells.injEq]at hg
   exact h1 hg.2.1.symm
  ·exact aN h.st.own hg h2 e
  ·rw[e,h.sc.blk]at hg
   simp only[Option.some.injEq,Obj.cells.injEq]at hg
   exact h3 hg.2.1.symm
  ·exact aN h.sc.own hg h4 e)).trans hg
end
theorem set_set (cs:Array Value) (so:Nat) (u v:Value):(cs.setIfInBounds so u).setIfInBounds so v=cs.setIfInBounds so v:=by simp
theorem ml {cs:Array Value} {so:Nat} {v:Value} (q:cs[so]?=some v):cs.setIfInBounds so v=cs:=by
 apply Array.ext (by simp)
 intro i h1 h2
 rw[Array.getElem_setIfInBounds]
 split
 ·rename_i e
  subst e
  exact(Array.getElem?_eq_some_iff.1 q).2.symm
 ·rfl
def UA (P:Nat→Prop) (w:World) (sb so:Nat) (cs:Array Value) (T:TypeId) (cb:Nat) (D:List Ng) (V:List Nat) (no:Option Addr) (vo:Option Addr) (N ns:List (List UInt8)) (f:Nat) (t:Zf.Tm) (C:Array Value) (k:Nat) (av iv:Value) (wr:World):Prop:=
 ∃(j:Nat) (E:List Ng) (F:List Nat) (no1:Option Addr) (nc1:Nat) (vo1:Option Addr) (vc1:Nat) (gs:List Nat) (oo:Option Addr) (cp:Nat),k+j=t.args.length∧iv= .int .i64 (j:Int)∧av= .slice oo j cp∧fI (fun g=>P g∧¬rowOf oo g) wr sb so (cs.setIfInBounds so (.slice no1 (D++E).length nc1)) T cb (D++E) (V++F) no1 nc1 vo1 vc1∧dD D.length E∧fe D.length E F∧(V++F).length=((t.args.take j).foldl (Zf.namesF f) ns).length∧
  wr.ownsRow (w.heap.size+1) 3 1 (.slice oo j cp) j (gs.map aJ)∧(∀g,rowOf oo g→¬rowOf vo1 g)∧gs.length=j∧bR (tq (D++E) (V++F) N f) gs (t.args.take j)∧(∀g∈gs,g<(D++E).length)∧E.length+j≤j*3 ^ f∧aq (bO sb no cb vo) (bO sb no1 cb vo1) w wr∧wr.heap[w.heap.size]?=some (.cells C 74 (0,0))∧(∀n∈V++F,n<(D++E).length)
theorem O6 {f:Nat} (IH:II f) (P:Nat→Prop) (w:World) (sb so:Nat) (cs:Array Value) (T:TypeId) (cb:Nat) (D:List Ng) (V:List Nat) (no:Option Addr) (nc:Nat) (vo:Option Addr) (vc:Nat) (N ns:List (List UInt8)) (Q:Nat→Prop) (a:AV) (t:Zf.Tm) (h:fI P w sb so cs T cb D V no nc vo vc) (hP:∀g,w.heap.size≤g→P g) (hT:T≠74) (hV:∀n∈V,n<D.length) (hr:RA (f+1) N Q w a t) (hw:Zf.wfK (f+1) t) (ka:t.kind≠3) (hv:V.length=ns.length) (hN:∃M,N=Zf.namesF (f+1) ns t++M) (hd:D.length+3 ^ (f+1)≤1000000000) (hvl:V.length+3 ^ (f+1)≤1000000000):
 Calls Tryz.prog 45 #[.pointer (some ⟨sb,so,none⟩),.agg #[.int .i64 a.k,.int .i64 a.val,.string a.tx,.slice a.ao a.n a.cap],.pointer (some ⟨cb,0,none⟩)] w fun e w'=>Em P sb so cs T cb D V no vo N ns (f+1) t w e w':=by
 obtain⟨⟨h1,h2,h3,h4,h5,h6,h7,h8⟩,hrow⟩:=hr
 have BS:Zf.namesF (f+1) ns t=t.args.foldl (Zf.namesF f) ns:=by
  unfold Zf.namesF
  rw[if_neg ka]
  by_cases k4:t.kind=4
  ·rw[if_pos k4,hw.2.1 (by omega)];rfl
  ·rw[if_neg k4]
 rw[BS]at hN
 have rV:so<cs.size:=(Array.getElem?_eq_some_iff.1 h.st.cel).1
 have hrows:=h.rows
 obtain⟨ki,val,tx,ao,n,cp⟩:=a
 dsimp only at h1 h2 h4 h5 hrow⊢
 subst h2
 have hk1:(ki == 1)=false:=by rw[h1];rcases h6 with e | e | e<;>first | (exact absurd e ka) | (rw[e];decide)
 have hB:=(Below.refl w.heap.size w).alloc (Nat.le_refl _) (.cells #[.int .i64 ki,.int .i64 val,.string tx,.slice ao t.args.length cp] 74)
 have HST:=hide (show UA P w sb so cs T cb D V no vo N ns f t #[.int .i64 ki,.int .i64 val,.string tx,.slice ao t.args.length cp] t.args.length (.slice none 0 0) (.int .i64 0) (w.alloc (.cells #[.int .i64 ki,.int .i64 val,.string tx,.slice ao t.args.length cp] 74))from by
  refine⟨0,[],[],no,nc,vo,vc,[],none,0,by omega,rfl,rfl,?_,(fun i d hd=>by simp at hd),fe.nil _ _,by simpa using hv,World.ownsRow_nil _ _ _ _,(fun g ⟨p,q,_⟩=>by cases q),rfl,trivial,(fun g hg=>by cases hg),by simp,aq.of_below hB,heap_alloc_new w _,by simpa using hV⟩
  simp only[List.append_nil]
  rw[ml h.st.cel]
  have:=h.below hB
  exact⟨this.st,this.sc,this.t1,this.t2,this.args.keep fun g cs hp hg=>⟨hg,⟨hp.1,fun⟨p,q,_⟩=>by cases q⟩,hp.2⟩⟩)
 have lj:=hide hrow
 have Y2:=hide hrows
 have HW:=hide hw
 have jD:=hide hN
 have Xw:=hide BS
 have HD:=hide hd
 have vt:=hide hvl
 have Y3:=hide hv
 have H4:=hide h4
 have H5:=hide h5
 have H1:=hide h1
 have H7:=hide h7
 have Bt:=hide ka
 have HP:=hide hP
 have HT:=hide hT
 have HAD:=hide h
 have ID:=hide rV
 have Nr:=hide (show 3 ^ (f+1)=3*3 ^ f by rw[Nat.pow_succ,Nat.mul_comm])
 have IK:=hide (show 1≤3 ^ f from Nat.one_le_pow _ _ (by omega))
 have I:=hide IH
 obtain⟨tj,hj,hy0,hy1,hy2⟩:=info_parts infoIn
 clear h hrow hw ka hv hN hd BS hrows h3 h4 h5 h6 h7 h1 IH hP hT hV rV hvl hB
 go_enter Tryz.func45,Tryz.ntmps45
 go_wp2_with fail
 go_loopg [7,23] t.args.length (fun k av iv wr=>UA P w sb so cs T cb D V no vo N ns f t #[.int .i64 ki,.int .i64 val,.string tx,.slice ao t.args.length cp] k av iv wr)
 case atStart=>exact ae HST
 case round=>
  clear HST
  obtain⟨j,E,F,no1,nc1,vo1,vc1,gs,oo,cp1,hkj,rfl,rfl,had,hnd,fS,hlen,hown,hfree,hgl,hall,uZ,hel,ct,dN,hVF⟩:=hrel
  have hz:=ct.size
  have z4:=af dN
  by_cases hlt:j<t.args.length
  ·obtain⟨g,vs,ca,hao,Xx,fw,mh,mF⟩:=ae lj (fun q=>by rw[q]at hlt;simp at hlt)
   subst hao
   have jh:j<vs.length:=by have:=mF.length;omega
   have hcw:wr.heap[g]?=some (.cells ca 74 (0,0)):=(ae HAD).blk ct fw (Ne.symm (ae HT)) (by decide) (by decide) (by decide)
   have fc:∀i,i<4→wr.cell? ⟨g,j*4+i,none⟩=(gP vs[j])[i]?:=fun i hi=>by
    rw[ah hcw,←Array.getElem?_toList,←O5 jh i hi,←mh,List.getElem?_take_of_lt (by omega)]
   have f0:=fc 0 (by omega)
   have f1:=fc 1 (by omega)
   have f2:=fc 2 (by omega)
   have f3:=fc 3 (by omega)
   simp only[gP,List.getElem?_cons_zero,List.getElem?_cons_succ,Nat.add_zero]at f0 f1 f2 f3
   have FT:(t.args.take (j+1)).foldl (Zf.namesF f) ns=Zf.namesF f ((t.args.take j).foldl (Zf.namesF f) ns) t.args[j]:=by
    rw[List.take_add_one,List.getElem?_eq_getElem hlt,List.foldl_append];rfl
   have hpre:∃M,N=Zf.namesF f ((t.args.take j).foldl (Zf.namesF f) ns) t.args[j]++M:=by
    obtain⟨M,hM⟩:=ae jD
    rw[←FT]
    obtain⟨K,hK⟩:=Zf.qO f (t.args.drop (j+1)) ((t.args.take (j+1)).foldl (Zf.namesF f) ns)
    refine⟨K++M,?_⟩
    rw[hM,←List.append_assoc,←hK,←List.foldl_append,List.take_append_drop]
   have Xy:j*3 ^ f≤2*3 ^ f:=Nat.mul_le_mul_right _ (by omega)
   have hDl:(D++E).length+3 ^ f≤1000000000:=by
    have q1:=ae HD
    have q2:=ae Nr
    rw[List.length_append]
    omega
   have hFl:F.length≤E.length:=by
    have h1:∀n∈F,n - D.length∈List.range E.length:=fun n hn=>by
     obtain⟨q1,d,q2,_⟩:=fS.var n hn
     exact List.mem_range.2 (List.getElem?_eq_some_iff.1 q2).1
    have h2:(F.map (fun n=>n - D.length)).Nodup:=by
     unfold List.Nodup
     rw[List.pairwise_map]
     refine fS.ord.imp_of_mem fun {a b} ha hb hab=> ?_
     have:=(fS.var a ha).1
     omega
    have:=h2.length_le_of_subset (l₂:=List.range E.length) (fun x hx=>by
     obtain⟨n,hn,rfl⟩:=List.mem_map.1 hx
     exact h1 n hn)
    simpa using this
   have hVl:(V++F).length+3 ^ f≤1000000000:=by
    have q1:=ae vt
    have q2:=ae Nr
    rw[List.length_append]
    omega
   have hbA:=(Below.refl wr.heap.size wr).alloc (Nat.le_refl _) (.cells #[.int .i64 vs[j].k,.int .i64 vs[j].val,.string vs[j].tx,.slice vs[j].ao vs[j].n vs[j].cap] 74)
   have hPn:∀g,(wr.alloc (.cells #[.int .i64 vs[j].k,.int .i64 vs[j].val,.string vs[j].tx,.slice vs[j].ao vs[j].n vs[j].cap] 74)).heap.size≤g→P g∧¬rowOf oo g:=fun g hg=>by
    rw[World.size_alloc]at hg
    refine⟨ae HP g (by omega),fun⟨p,q,e⟩=> ?_⟩
    have:=(hown.lt p.block (by rw[q];rfl)).2
    omega
   have IC:=hide (ae I (fun g=>P g∧¬rowOf oo g) (wr.alloc (.cells #[.int .i64 vs[j].k,.int .i64 vs[j].val,.string vs[j].tx,.slice vs[j].ao vs[j].n vs[j].cap] 74)) sb so (cs.setIfInBounds so (.slice no1 (D++E).length nc1)) T cb (D++E) (V++F) no1 nc1 vo1 vc1 N ((t.args.take j).foldl (Zf.namesF f) ns) Q vs[j] t.args[j] (had.below hbA) hPn (ae HT) hVF ((RA.keep (fun g _ hp hg _=>⟨(hbA.block g (af hg)).trans hg,hp⟩)) ((ae HAD).ra (ae HT) ct (Np mF j jh hlt))) ((ae HW).2.2.2 _ (List.getElem_mem hlt)) hlen hpre hDl hVl)
   have HOWN:=hide (hown.alloc (.cells #[.int .i64 vs[j].k,.int .i64 vs[j].val,.string vs[j].tx,.slice vs[j].ao vs[j].n vs[j].cap] 74))
   have Ns:=hide hfree
   have IX:=hide hgl
   have BQ:=hide hall
   have Qr:=hide uZ
   have En:=hide hel
   have zD:=hide hnd
   have Qs:=hide fS
   have gB:=hide (ct.trans (aq.of_below hbA))
   have q9:=hide (had.below hbA)
   have jZ:=hide (aA dN (.cells #[.int .i64 vs[j].k,.int .i64 vs[j].val,.string vs[j].tx,.slice vs[j].ao vs[j].n vs[j].cap] 74))
   have Xz:=hide FT
   have Qt:=hide hVF
   have zE:g<wr.heap.size:=af hcw
   have i0:(0:Int)≤(j:Int):=by omega
   have i1:(j:Int)<(t.args.length:Int):=by omega
   have ba:=hide hlt
   have aW:=hide hkj
   have Qf:j≤3:=by omega
   clear had hnd fS hlen hown hfree hgl hall uZ hel ct dN fw mh mF hcw fc FT hpre hDl hFl hVl hkj hVF hPn hbA Xy Xx
   go_wp2_with fail
   refine(ae IC).mono ?_
   rintro e w2 ⟨m,E2,F2,no2,nc2,vo2,vc2,rfl,hs2,hd2,hv2,hl2,hr2,hm2,UB,hf2⟩
   rw[set_set]at hs2
   have yw:=hide (ai (ae HOWN) (fun g q=>hf2.block g ((ae HOWN).lt g q).2 (by
    have hro:=aG q
    rintro(e | e | e | e)
    ·obtain⟨cur,hc⟩:=aH (ae HOWN) hro
     rw[e,(ae q9).st.blk]at hc
     simp only[Option.some.injEq,Obj.cells.injEq]at hc
     exact(ae q9).t2 hc.2.1
    ·obtain⟨cur,hc⟩:=aH (ae HOWN) hro
     exact aN (ae q9).st.own hc (by decide) e
    ·obtain⟨cur,hc⟩:=aH (ae HOWN) hro
     rw[e,(ae q9).sc.blk]at hc
     simp only[Option.some.injEq,Obj.cells.injEq]at hc
     exact absurd hc.2.1 (by decide)
    ·exact ae Ns g hro e)))
   have hzz:=hf2.size
   rw[World.size_alloc]at hzz
   have cm:=hide hs2
   have I0:=hide hd2
   have zC:=hide hv2
   have o6:=hide hl2
   have mI:=hide hr2
   have xk:=hide hm2
   have rO:=hide UB
   have vk:=hide hf2
   clear hs2 hd2 hv2 hl2 hr2 hm2 UB hf2 f0 f1 f2 f3 IC
   unfold aJ
   go_wp2_with (first | (at_builtin;go_must (refine wpList_append_own_at _ rfl (.tmp 31) (.tmp 33) 25 rfl (w.heap.size+1) 3 tj (.int .i64 0) 1 8 Tryz.underlying25 hj hy0 hy1 hy2 rfl (by decide) _ j (gs.map aJ) rfl ((ae yw).alloc _) ⟨w2.heap.size,0,none⟩ 1 1 [.int .i64 (m:Int)] rfl rfl (ju _ _ _ _ rfl) (by simp[Value.oneCell']) (by unfold maxLen;omega) (by omega) (by simp;omega) ?_);go_must (intro v' w7 hown' hgrow _ hat;obtain⟨g',cap',hv',-⟩:=ft hown';subst hv';have mH:=hide hown';have HG:=hide hgrow;have rR:=hide (show∀g,rowOf (some ⟨g',0,none⟩) g→rowOf oo g∨w2.heap.size<g from (fun g hg=>by obtain⟨p,q,e⟩:=hg;cases q;dsimp only at e;subst e;rcases hat with q | q;exact Or.inl (aG q.symm);right;have q2:g=w2.heap.size+1:=(by simpa [Value.ownBlock] using q);omega));clear hown' hgrow hat)))
   go_roundg (gk - 1)
   case measure=>have:=ae aW;have:=ae ba;omega
   case rel=>
    have I5:∀g,rowOf oo g→¬rowOf vo2 g:=fun g q r=>by
     have q3:=((ae HOWN).lt g (by obtain⟨p,e1,e2⟩:=q;rw[e1,e2];rfl)).2
     rcases(ae vk).row g (Or.inr (Or.inr (Or.inr r)))with(e | e | e | e) | e
     ·obtain⟨cur,hc⟩:=aH (ae HOWN) q
      rw[e,(ae q9).st.blk]at hc
      simp only[Option.some.injEq,Obj.cells.injEq]at hc
      exact(ae q9).t2 hc.2.1
     ·obtain⟨cur,hc⟩:=aH (ae HOWN) q
      exact aN (ae q9).st.own hc (by decide) e
     ·obtain⟨cur,hc⟩:=aH (ae HOWN) q
      rw[e,(ae q9).sc.blk]at hc
      simp only[Option.some.injEq,Obj.cells.injEq]at hc
      exact absurd hc.2.1 (by decide)
     ·exact ae Ns g q e
     ·omega
    have hS7:=(ae cm).grown (ae yw) I5 (ae HG) (ae rR)
    have Qo:=(ae HG).size
    simp only[World.size_alloc]at Qo
    have hlowO:∀g,rowOf oo g→w.heap.size+1≤g:=fun g ⟨p,q,e⟩=>by rw[e];exact((ae HOWN).lt p.block (by rw[q];rfl)).1
    have keep7:∀k,k≤w.heap.size→k<w2.heap.size→w7.heap[k]?=w2.heap[k]?:=fun k h1 h2=>by
     rw[(ae HG).block k (by simp;omega) (bX fun q=>by have:=hlowO k q;omega),Below.heap_alloc _ _ _ h2]
    have hF7:aq (bO sb no cb vo) (bO sb no2 cb vo2) w w7:=by
     have q:=(ae gB).trans (ae vk)
     refine⟨(ae HG).os.trans q.os,(ae HG).tape.trans q.tape,(ae HG).output.trans q.output,by have:=q.size;omega,fun k h1 h2=> ?_,q.row⟩
     rw[keep7 k (by omega) (by have:=q.size;omega)]
     exact q.block k h1 h2
    refine⟨j+1,E++E2,F++F2,no2,nc2,vo2,vc2,gs++[m],some ⟨g',0,none⟩,cap',by have:=ae aW;have:=ae ba;omega,by go_num,rfl,by rw[←List.append_assoc,←List.append_assoc];exact hS7,(ae zD).app (by have:=ae I0;rwa [List.length_append]at this),(ae Qs).app (by have:=ae zC;rwa [List.length_append]at this),by rw[ae Xz,←List.append_assoc];exact ae o6,?_,?_,by simp[ae IX],?_,?_,?_,hF7,?_,?_⟩
    ·have:=ae mH
     simpa [aJ] using this
    ·intro g q r
     rcases ae rR g q with e | e
     ·exact I5 g e r
     ·have:=(ae cm).rows g (Or.inr (Or.inr (Or.inr r)))
      omega
    ·rw[List.take_add_one,List.getElem?_eq_getElem (ae ba),←List.append_assoc,←List.append_assoc]
     exact bR.snoc (ae mI) ((ae BQ).imp fun _ _ r=>r.more)
    ·intro g hg
     rw[←List.append_assoc]
     rcases List.mem_append.1 hg with q | q
     ·have:=ae Qr g q
      rw[List.length_append]
      omega
     ·obtain rfl:g=m:=by simpa using q
      exact ae xk
    ·have q1:=ae En
     have q2:=ae rO
     rw[List.length_append,Nat.add_mul]
     omega
    ·rw[keep7 w.heap.size (Nat.le_refl _) (by omega)]
     exact(ae q9).blk (ae vk) (ae jZ) (Ne.symm (ae HT)) (by decide) (by decide) (by decide)
    ·intro n hn
     rw[←List.append_assoc]at hn⊢
     rcases List.mem_append.1 hn with q | q
     ·have:=ae Qt n q
      rw[List.length_append]
      omega
     ·obtain⟨q1,d,q2,_⟩:=(ae zC).var n q
      have:=(List.getElem?_eq_some_iff.1 q2).1
      rw[List.length_append]
      omega
  ·obtain rfl:j=t.args.length:=by omega
   rw[List.take_length]at hlen hall
   have zF:(D++E).length+1≤1000000000:=by
    have q1:=ae HD
    have q2:=ae Nr
    have q4:=ae IK
    have q5:E.length+2≤3*3 ^ f:=by
     obtain q | q | q | q:t.args.length=0∨t.args.length=1∨t.args.length=2∨t.args.length=3:=by omega
     all_goals rw[q]at hel;omega
    rw[List.length_append]
    omega
   have rO:=hide (show (E.length+1)+1≤3 ^ (f+1)by
    have q2:=ae Nr
    have q4:=ae IK
    obtain q | q | q | q:t.args.length=0∨t.args.length=1∨t.args.length=2∨t.args.length=3:=by omega
    all_goals rw[q]at hel;omega)
   have s0:=had.st.cell
   have b0:=ah dN 0
   have b1:=ah dN 1
   have b2:=ah dN 2
   have b3:=ah dN 3
   simp only[List.getElem?_toArray,List.getElem?_cons_zero,List.getElem?_cons_succ]at b0 b1 b2 b3
   have sz:=af had.st.blk
   have hlab:=qC (wr.drew) ⟨ki,val,tx,ao,t.args.length,cp⟩
   have BU:jq ⟨ki,val,tx,ao,t.args.length,cp⟩=if ki=2 then val else 0:=rfl
   generalize hlv:jq ⟨ki,val,tx,ao,t.args.length,cp⟩=lv at*
   dsimp only at hlab
   have LB:=hide hlab
   have Y4:=hide BU
   have VR:sb≠w.heap.size:=fun e=>by
    have:=had.st.blk
    rw[e,dN]at this
    simp only[Option.some.injEq,Obj.cells.injEq]at this
    exact ae HT this.2.1.symm
   have sP:=hide (show some sb≠(Value.slice no1 (D++E).length nc1).ownBlock from bX (aN had.st.own had.st.blk had.st.ty))
   have xm:=hide (show some w.heap.size≠(Value.slice no1 (D++E).length nc1).ownBlock from bX (aN had.st.own dN (by decide)))
   have VT:=hide (show so<(cs.setIfInBounds so (.slice no1 (D++E).length nc1)).size by simp;exact ae ID)
   have Qu:fI P wr sb so (cs.setIfInBounds so (.slice no1 (D++E).length nc1)) T cb (D++E) (V++F) no1 nc1 vo1 vc1:=⟨had.st,had.sc,had.t1,had.t2,had.args.keep fun g cs hp hg=>⟨hg,hp.1.1,hp.2⟩⟩
   have BV:=hide Qu
   have Qv:ki=2→(0≤val∧val≤1000000000):=fun q=>by
    have k4:t.kind=4:=by
     have:=ae H1
     rw[q]at this
     unfold ak at this
     split at this
     ·cases this
     ·split at this
      ·assumption
      ·cases this
    obtain⟨q1,q2,_⟩:=ae H4 k4
    have:=Zf.DX t.text.toList (by rw[Zf.nA];exact q2)
    rw[q1]
    unfold Zf.numOf
    omega
   have hkinds:ki=2∨ki=3:=by
    have:=ae H1
    unfold ak at this
    rcases(ae HW).1 with q | q | q
    ·rw[if_neg (by omega),if_neg (by omega)]at this;exact Or.inr this
    ·exact absurd q (ae Bt)
    ·rw[if_neg (by omega),if_pos q]at this;exact Or.inl this
   have hk4:ki=2→t.kind=4:=fun q=>by
    have:=ae H1
    rw[q]at this
    unfold ak at this
    split at this
    ·cases this
    ·split at this
     ·assumption
     ·cases this
   have hk2:ki=3→t.kind=2:=fun q=>by
    rcases(ae HW).1 with r | r | r
    ·exact r
    ·exact absurd r (ae Bt)
    ·have:=ae H1
     rw[q,r]at this
     exact absurd this (by decide)
   have Qw:fU (D.length+E.length) ⟨ki,lv,tx,t.args.length,oo,cp1,gs,D.length+E.length,0⟩:=by
    refine⟨by rcases hkinds with q | q;exact Or.inr (Or.inl q);exact Or.inr (Or.inr q),fun q=>by rcases hkinds with r | r<;>(dsimp only at q;omega),fun q=> ?_,fun q=> ?_,fun a ha=> ?_⟩
    ·have k4:=hk4 q
     have ha0:t.args=[]:=(ae HW).2.1 (by omega)
     exact⟨(ae H4 k4).2.2,by rw[ha0];rfl,List.length_eq_zero_iff.1 (by rw[hgl,ha0];rfl)⟩
    ·refine⟨?_,hgl.symm,by show gs.length≤3;omega⟩
     show lv=0
     rw[BU,if_neg]
     intro r
     dsimp only at q
     omega
    ·have:=uZ a ha
     rwa [List.length_append]at this
   have hsmall:tx.size≤240∧0≤lv∧lv≤1000000000:=by
    refine⟨?_,?_⟩
    ·rcases hkinds with q | q
     ·rw[(ae H4 (hk4 q)).2.2];exact Nat.zero_le _
     ·rw[ae H5 (hk2 q)];exact ae H7
    ·rw[BU]
     split
     ·rename_i q;exact Qv q
     ·omega
   have XA:=hide (show∀w2,Below wr.heap.size wr w2→gs≠[]→∃(q:Nat) (cs:Array Value),oo=some ⟨q,0,none⟩∧P q∧¬rowOf vo1 q∧q<w2.heap.size∧w2.heap[q]?=some (.cells cs 3 (0,0))∧cs.toList.take gs.length=gs.map aJ from fun w2 hb2 hne=>by
    rcases hown.2 with⟨q,q0⟩ | ⟨g,cap,cur,q1,q2,q3,q4⟩
    ·exact absurd (List.length_eq_zero_iff.1 (hgl.trans q0)) hne
    ·simp only[Value.slice.injEq]at q1
     obtain⟨rfl,_,_⟩:=q1
     have q5:=af q3
     refine⟨g,cur,rfl,ae HP g (by omega),hfree g ⟨_,rfl,rfl⟩,Nat.lt_of_lt_of_le q5 hb2.size,(hb2.block g q5).trans q3,?_⟩
     have q6:=q4.2.2.2
     rw[hgl]
     simpa using q6)
   have dG:=hide (show∀(g cap':Nat) (w2 w8:World),fI P w8 sb so ((cs.setIfInBounds so (.slice no1 (D++E).length nc1)).setIfInBounds so (.slice (some ⟨g,0,none⟩) ((D++E).length+1) cap')) T cb ((D++E)++[⟨ki,lv,tx,t.args.length,oo,cp1,gs,D.length+E.length,0⟩]) (V++F) (some ⟨g,0,none⟩) cap' vo1 vc1→aq (bO sb no1 cb vo1) (bO sb (some ⟨g,0,none⟩) cb vo1) w2 w8→Below wr.heap.size wr w2→Em P sb so cs T cb D V no vo N ns (f+1) t w (.returned (.int .i64 ((D++E).length:Int))) w8 from fun g cap' w2 w8 k1 k2 k3=>by
    rw[set_set]at k1
    refine⟨(D++E).length,E++[⟨ki,lv,tx,t.args.length,oo,cp1,gs,D.length+E.length,0⟩],F,some ⟨g,0,none⟩,cap',vo1,vc1,rfl,?_,hnd.app (dD.one ⟨rfl,rfl,Qw,hsmall⟩),fS.last _,?_,?_,?_,?_,(ct.trans (aq.of_below k3)).trans k2⟩
    ·have e:((D++E)++[(⟨ki,lv,tx,t.args.length,oo,cp1,gs,D.length+E.length,0⟩:Ng)]).length=(D++E).length+1:=by rw[List.length_append];rfl
     rw[←List.append_assoc,e]
     exact k1
    ·rw[ae Xw,hlen]
    ·rw[←List.append_assoc]
     refine⟨fun q=>absurd q (ae Bt),fun _=>⟨⟨ki,lv,tx,t.args.length,oo,cp1,gs,D.length+E.length,0⟩,by simp,by simp,ae H1,fun q=> ?_,fun q=> ?_,hall.imp fun _ _ r=> ?_⟩⟩
     ·obtain⟨q1,q2,q3⟩:=ae H4 q
      show lv=_
      rw[BU,if_pos,q1]
      rw[ae H1,q]
      rfl
     ·exact ae H5 q
     ·have:=r.more (E:=[⟨ki,lv,tx,t.args.length,oo,cp1,gs,D.length+E.length,0⟩]) (F:=[])
      rwa [List.append_nil]at this
    ·rw[←List.append_assoc];simp
    ·rw[List.length_append]
     exact ae rO)
   have IX:=hide hgl
   obtain⟨ti,hi,vQ,vR,tz⟩:=info_parts infoNd
   have BW:=hide (show D.length+E.length=(D++E).length by rw[List.length_append])
   rw[ae BW]at dG
   generalize hDE:D++E=DE at*
   generalize hVF':V++F=VF at*
   clear had Qu hnd fS hlen hown hfree hgl hall uZ hel ct dN hkj hlab hlv hVF BU Qv hkinds hk4 hk2 Qw hsmall hDE hVF' BW
   go_wp2_with fail
   go_region_law (first
    | (go_simp;go_at_call 78;refine(ae LB).mono ?_;rintro e w2 ⟨rfl,hb⟩;have aP:=hide (((Below.refl _ wr).drew).trans hb);have k0:=(hb.cell (p:=⟨sb,so,none⟩) sz).trans s0;have k1:=(hb.cell (p:=⟨w.heap.size,0,none⟩) z4).trans b0;have k2:=(hb.cell (p:=⟨w.heap.size,1,none⟩) z4).trans b1;have k3:=(hb.cell (p:=⟨w.heap.size,2,none⟩) z4).trans b2;have k4:=(hb.cell (p:=⟨w.heap.size,3,none⟩) z4).trans b3;have hz2:wr.heap.size≤w2.heap.size:=hb.size;have k0':∀o,(w2.alloc o).cell? ⟨sb,so,none⟩=some (.slice no1 DE.length nc1):=(fun o=>(World.cell?_alloc_past _ _ _ (by omega)).trans k0);clear hb)
    | (refine step_append_lies _ (by rfl) _ _ _ (by rfl) 0 147 ti _ 7 80 Tryz.underlying83 hi vQ vR tz rfl (by omega) (.slice no1 DE.length nc1) DE.length (kA DE) (by rfl) (((ae BV).below (ae aP)).st.own.alloc _) ⟨w2.heap.size,0,none⟩ 1 1 [.int .i64 ki,.int .i64 lv,.string tx,.int .i64 (t.args.length:Int),.slice oo t.args.length cp1,.int .i64 (DE.length:Int),.int .i64 0] (by rfl) (by rfl) (World.news_of_block (cs:=#[.int .i64 ki,.int .i64 lv,.string tx,.int .i64 (t.args.length:Int),.slice oo t.args.length cp1,.int .i64 (DE.length:Int),.int .i64 0]) (t:=147) (fr:=(0,0)) (heap_alloc_new w2 _)) (by simp[Value.oneCell']) (by omega) (by unfold maxLen;omega) (by omega) (Nat.zero_le _) (w2.heap.size+1) (by simp) ?_;intro g cap' w7 hown1 hgrow hat jG;have m0:=(hgrow.cell_far ⟨sb,so,none⟩ (by simp;omega) (ae sP)).trans ((World.cell?_alloc_past _ _ _ (by omega)).trans k0);have m1:=(hgrow.cell_far ⟨w.heap.size,0,none⟩ (by simp;omega) (ae xm)).trans ((World.cell?_alloc_past _ _ _ (by omega)).trans k1);have m2:=(hgrow.cell_far ⟨w.heap.size,1,none⟩ (by simp;omega) (ae xm)).trans ((World.cell?_alloc_past _ _ _ (by omega)).trans k2);have m3:=(hgrow.cell_far ⟨w.heap.size,2,none⟩ (by simp;omega) (ae xm)).trans ((World.cell?_alloc_past _ _ _ (by omega)).trans k3);have m4:=(hgrow.cell_far ⟨w.heap.size,3,none⟩ (by simp;omega) (ae xm)).trans ((World.cell?_alloc_past _ _ _ (by omega)).trans k4);have HN:=hide (((ae BV).below (ae aP)).node (fun g q=>ae HP g (by omega)) (ae VT) ((Below.refl _ _).alloc (Nat.le_refl _) _) (d:=⟨ki,lv,tx,t.args.length,oo,cp1,gs,DE.length,0⟩) (show w7.ownsRow _ _ _ _ _ (_++[_,_,_,_,_,_,_])from by rw[ae IX];exact hown1) hgrow (by rcases hat with q | q;exact Or.inl (aG q);(right;omega)) (fun q=>by have:=ae XA w2 (ae aP) q;exact this));have k9:w7.frozen? ⟨sb,so,none⟩=false:=(by have:=au (ae HN).1.st.blk so;rwa [World.frozen?_setCell]at this);have zz7:sb<w7.heap.size:=(by have:=af (ae HN).1.st.blk;rwa [bS]at this);clear hown1 hgrow hat jG))
   all_goals (go_wp2_with fail;go_ret;exact ae dG _ _ _ _ (ae HN).1 (ae HN).2 (ae aP))
theorem ag_all:∀f,II f
 | 0=>fun _ _ _ _ _ _ _ _ _ _ _ _ _ _ _ _ _ _ _ _ _ _ h=>absurd h (fun q=>q)
 | f+1=>fun P w sb so cs T cb D V no nc vo vc N ns Q a t h hP hT hV hr hw hv hN hd hvl=>by
  by_cases ka:t.kind=3
  ·exact Qq f P w sb so cs T cb D V no nc vo vc N ns a t h hP hV hr.1 hw ka hv hN hd hvl
  ·exact O6 (ag_all f) P w sb so cs T cb D V no nc vo vc N ns Q a t h hP hT hV hr hw ka hv hN hd hvl
end Go.Proofs.YthfjnfcekeknlabGreatDoor
namespace Go.Proofs.YthfjnfcekeknlabGreatDoor
open Go.RowKit
theorem fU.mono {l l':Nat} {d:Ng} (h:fU l d) (hl:l≤l'):fU l' d:=⟨h.ks,h.v,h.m,h.c,fun a ha=>Nat.lt_of_lt_of_le (h.inn a ha) hl⟩
theorem gD {D:List Ng} {n:Nat} (h:n<D.length) (E:List Ng):Zf.gl (aX (D++E)) n=Zf.gl (aX D) n:=by
 rw[mf (show n<(D++E).length by rw[List.length_append];omega),mf h,List.getElem_append_left h]
theorem jH {D:List Ng} {n:Nat} (h:n<D.length) (E:List Ng):Zf.ga (aX (D++E)) n=Zf.ga (aX D) n:=by
 rw[jS (show n<(D++E).length by rw[List.length_append];omega),jS h,List.getElem_append_left h]
theorem xq {D:List Ng} {n:Nat} (h:D.length≤n):Zf.ga (aX D) n=[]:=by
 unfold Zf.ga aX
 rw[List.getElem?_map,List.getElem?_eq_none h]
 rfl
theorem dD.at {D E:List Ng} (h:dD D.length E) {n:Nat} (h1:D.length≤n) (h2:n<(D++E).length):(D++E)[n].nx=n∧(D++E)[n].mrk=0∧fU n (D++E)[n]∧(D++E)[n].tx.size≤240∧0≤(D++E)[n].val∧(D++E)[n].val≤1000000000:=by
 rw[List.getElem_append_right h1]
 rw[List.length_append]at h2
 have:=h (n - D.length) E[n - D.length] (List.getElem?_eq_getElem (by omega))
 rwa [show D.length+(n - D.length)=n by omega]at this
theorem bZ.more {D E:List Ng} {fr:Nat→Nat} (h:bZ D fr) (hE:dD D.length E):bZ (D++E) fr:=by
 refine⟨fun n hn=> ?_,fun n hn=> ?_,fun n hn=>h.out n (by rw[List.length_append]at hn;omega)⟩
 ·by_cases q:n<D.length
  ·rw[List.getElem_append_left q]
   exact(h.nd n q).mono (by rw[List.length_append];omega)
  ·exact(hE.at (by omega) hn).2.2.1.mono (by omega)
 ·by_cases q:n<D.length
  ·obtain⟨k,hk⟩:=h.hop n q
   have key:∀{n m k},Hop D n m k→Hop (D++E) n m k:=by
    intro n m k hk
    induction hk with
    | stop q e=>exact .stop (by rw[List.length_append];omega) (by rw[List.getElem_append_left q];exact e)
    | go q e _ ih=>exact .go (by rw[List.length_append];omega) (by rw[List.getElem_append_left q];exact e) (by rw[List.getElem_append_left q];exact ih)
   exact⟨k,key hk⟩
  ·rw[h.out n (by omega)]
   exact⟨0,.stop hn (hE.at (by omega) hn).1⟩
theorem uA {D E:List Ng} {fr:Nat→Nat} (h:bZ D fr) {n:Nat} {u:Zf.U} (ht:Zf.Tr (aX D) fr n u):n<D.length→Zf.Tr (aX (D++E)) fr n u:=by
 induction ht with
 | @var n hg ha=>exact fun hn=> .var (by rw[gD (h.lt hn)];exact hg) (by rw[jH (h.lt hn)];exact ha)
 | @node n k tx num us hg hl _ ih=>
  intro hn
  refine .node (by rw[gD (h.lt hn)];exact hg) (by rw[jH (h.lt hn)];exact hl) fun i a v ha hv=> ?_
  rw[jH (h.lt hn)]at ha
  refine ih i a v ha hv ?_
  rw[jS (h.lt hn)]at ha
  exact(h.nd _ (h.lt hn)).inn a (List.mem_of_getElem? ha)
theorem Lh {D E:List Ng} {fr:Nat→Nat} {T:Nat→Zf.U} (h:bZ D fr) (hS:Zf.dI (aX D) fr T) (hE:dD D.length E):∃T',Zf.dI (aX (D++E)) fr T'∧∀n,n<D.length→T' n=T n:=by
 have ho:=h.more hE
 have hplain:Zf.Plain (aX (D++E)):=fun n hg=>by
  by_cases q:n<(D++E).length
  ·rw[mf q]at hg
   rw[jS q]
   exact((ho.nd n q).v ((ho.nd n q).lab.1 hg)).2.2.2
  ·exact xq (by omega)
 have htr:∀n,∃u,Zf.Tr (aX (D++E)) fr n u:=by
  intro n
  induction n using Nat.strongRecOn with
  | _ n ih=>
   by_cases q:n<D.length
   ·exact⟨_,uA h (hS.tr n) q⟩
   ·have hf:fr n=n:=h.out n (by omega)
    refine Zf.qN hplain fun a ha=>ih a ?_
    rw[hf]at ha
    by_cases r:n<(D++E).length
    ·rw[jS r]at ha
     exact(hE.at (by omega) r).2.2.1.inn a ha
    ·rw[xq (by omega)]at ha
     cases ha
 refine⟨fun n=>Classical.choose (htr n),⟨⟨ho.idem,fun n hn=> ?_⟩,⟨fun n hn=> ?_,fun n hn i x y hx hy=> ?_⟩,fun n=>Classical.choose_spec (htr n),hplain,fun n hg=> ?_⟩,fun n hn=> ?_⟩
 ·by_cases q:n<D.length
  ·rw[gD q]at hn
   rw[gD (h.lt q)]
   exact hS.fronts.lab n hn
  ·rw[h.out n (by omega)];exact hn
 ·by_cases q:n<D.length
  ·rw[gD q]at hn
   have:=hS.cong.lab n hn
   unfold Zf.pK at this⊢
   rw[gD q,gD (h.lt q),jH q,jH (h.lt q)]
   exact this
  ·rw[h.out n (by omega)];exact⟨rfl,rfl⟩
 ·by_cases q:n<D.length
  ·rw[gD q]at hn
   rw[jH q]at hx
   rw[jH (h.lt q)]at hy
   exact hS.cong.args n hn i x y hx hy
  ·rw[h.out n (by omega),hx]at hy
   obtain rfl:=Option.some.inj hy
   exact .fr rfl
 ·by_cases q:n<D.length
  ·rw[gD (h.lt q)]at hg
   exact hS.sj n hg
  ·rw[h.out n (by omega)];exact Nat.le_refl _
 ·exact(Classical.choose_spec (htr n)).one (uA h (hS.tr n) hn)
theorem tq.is {D:List Ng} {fr:Nat→Nat} {T:Nat→Zf.U} (h:bZ D fr) (hS:Zf.dI (aX D) fr T) {V:List Nat} {N:List (List UInt8)}:∀{f n:Nat} {t:Zf.Tm},tq D V N f n t→Zf.wfK f t→T n=Zf.bJ (fun x=>T ((V[N.idxOf x]?).getD 0)) f t
 | f+1,n,t,⟨h1,h2⟩,⟨k1,k2,k3,k4⟩=>by
  unfold Zf.bJ
  by_cases k:t.kind=3
  ·rw[if_pos k,h1 k];rfl
  ·rw[if_neg k]
   obtain⟨d,q1,q2,q3,q4,q5,q6⟩:=h2 k
   have hn:=(List.getElem?_eq_some_iff.1 q1).1
   have tA:D[n]=d:=(List.getElem?_eq_some_iff.1 q1).2
   have hf:fr n=n:=(h.self hn).2 (by rw[tA];exact q2)
   have key:∀kk tx num,Zf.gl (aX D) n=some (kk,tx,num)→T n= .n kk tx num (t.args.map (Zf.bJ (fun x=>T ((V[N.idxOf x]?).getD 0)) f)):=fun kk tx num hg=>by
    rw[hS.reads.node n kk tx num hg,jS hn,tA]
    congr 1
    have:∀(xs:List Nat) (ts:List Zf.Tm),bR (tq D V N f) xs ts→(∀a∈ts,Zf.wfK f a)→xs.map T=ts.map (Zf.bJ (fun x=>T ((V[N.idxOf x]?).getD 0)) f):=by
     intro xs
     induction xs with
     | nil=>intro ts ha _;cases ts with
      | nil=>rfl
      | cons t ts=>exact ha.elim
     | cons x xs ih=>intro ts ha hw;cases ts with
      | nil=>exact ha.elim
      | cons t ts=>rw[List.map_cons,List.map_cons,tq.is h hS ha.1 (hw t (by simp)),ih ts ha.2 (fun a ha=>hw a (by simp[ha]))]
    exact this d.args t.args q6 k4
   have hlab:Zf.gl (aX D) n=eJ d:=by rw[mf hn,tA]
   by_cases kk:t.kind=4
   ·rw[if_pos kk]
    have hk:d.k=2:=by rw[q3,kk];rfl
    have:=key 3 [] d.val (by rw[hlab];unfold eJ;rw[if_neg (by omega),if_pos hk])
    rw[this,q4 kk,k2 (by omega)]
    rfl
   ·rw[if_neg kk]
    have kt:t.kind=2:=by omega
    have hk:d.k=3:=by rw[q3,kt];rfl
    have:=key 1 d.tx.toList 0 (by rw[hlab];unfold eJ;rw[if_neg (by omega),if_neg (by omega)])
    rw[this,q5 kt]
end Go.Proofs.YthfjnfcekeknlabGreatDoor
