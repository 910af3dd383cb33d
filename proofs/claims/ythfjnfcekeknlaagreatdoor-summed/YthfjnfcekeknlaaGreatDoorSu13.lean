import Derived.Test.YthfjnfcekeknlaaGreatDoorSu03
import Derived.Test.YthfjnfcekeknlaaGreatDoorSu06
import Derived.Deep.AppendLies
import Derived.Deep.RegionLaw
set_option maxHeartbeats 8000000
set_option maxRecDepth 100000
namespace Za
def qw (N:List Nat) (n:Nat):List Nat:=if n∈N then N else N++[n]
def bt (N:List Nat):List Vr:=N.map fun n=>([],n)
theorem DT {n m:Nat} (h:(([],n):Vr)=([],m)):n=m:=by injection h
theorem DU {N:List Nat} {n:Nat}:(([],n):Vr)∈bt N↔n∈N:=by
 unfold bt
 constructor
 ·intro h
  obtain⟨m,hm,e⟩:=List.mem_map.1 h
  rw[DT e]at hm
  exact hm
 ·exact fun h=>List.mem_map_of_mem h
theorem DV (N:List Nat) (n:Nat):bt (qw N n)=kX (bt N) ([],n):=by
 unfold qw kX
 by_cases h:n∈N
 ·rw[if_pos h,if_pos (DU.2 h)]
 ·rw[if_neg h,if_neg (fun q=>h (DU.1 q))]
  simp[bt]
theorem DW (n:Nat):∀N,(bt N).idxOf ([],n)=N.idxOf n
 | []=>rfl
 | m :: N=>by
  have ih:=DW n N
  unfold bt at ih⊢
  rw[List.map_cons,List.idxOf_cons,List.idxOf_cons,ih]
  by_cases e:m=n
  ·subst e;simp
  ·have:(([],m):Vr)≠([],n):=fun q=>e (DT q)
   rw[beq_false_of_ne this,beq_false_of_ne e]
theorem y6 {n:Nat}:∀{N:List Nat} {j:Nat} (hj:j<N.length),N[j]=n→(∀i (_:i<N.length),i<j→N[i]≠n)→N.idxOf n=j
 | m :: N,0,_,he,_=>by rw[List.idxOf_cons];simp at he;simp[he]
 | m :: N,j+1,hj,he,hno=>by
  have h0:m≠n:=hno 0 (by simp) (by omega)
  have:=y6 (N:=N) (j:=j) (by simpa using hj) (by simpa using he) (fun i hi q=>by have:=hno (i+1) (by simpa using hi) (by omega);simpa using this)
  rw[List.idxOf_cons,this,beq_false_of_ne h0]
  rfl
theorem DX (N:List Nat):(bt N).length=N.length:=by simp[bt]
end Za
namespace Go.Proofs.YthfjnfcekeknlaaGreatDoor
open Go.RowKit
structure fe (w:World) (nb:Nat) (N:List Nat) (mo:Option Addr) (mc:Nat):Prop where
 blk:w.heap[nb]?=some (.cells #[.slice mo N.length mc] 123 (0,0))
 own:w.ownsRow 0 3 1 (.slice mo N.length mc) N.length (N.map aM)
def br (nb:Nat) (mo:Option Addr) (k:Nat):Prop:=k=nb∨rowOf mo k
theorem fe.apart {w:World} {nb:Nat} {N:List Nat} {mo:Option Addr} {mc:Nat} (h:fe w nb N mo mc) {g:Nat} {xs:Array Value} {S:TypeId} (hg:w.heap[g]?=some (.cells xs S (0,0))) (h1:S≠123) (h2:S≠3):¬br nb mo g:=by
 rintro(rfl | ⟨p,rfl,rfl⟩)
 ·have:=h.blk
  rw[hg]at this
  simp only[Option.some.injEq,Obj.cells.injEq]at this
  exact h1 this.2.1
 ·rcases h.own.2 with⟨c,_⟩ | ⟨g,cp,cur,c,_,hc,_⟩
  ·cases c
  ·simp only[Value.slice.injEq,Option.some.injEq]at c
   obtain⟨rfl,_⟩:=c
   rw[hc]at hg
   simp only[Option.some.injEq,Obj.cells.injEq]at hg
   exact h2 hg.2.1.symm
theorem fe.below {w w':World} {nb:Nat} {N:List Nat} {mo:Option Addr} {mc:Nat} (h:fe w nb N mo mc) (hb:Below w.heap.size w w'):fe w' nb N mo mc:=
 ⟨(hb.block nb (ag h.blk)).trans h.blk,ai h.own (fun g q=>hb.block g (h.own.lt g q).2)⟩
theorem fe.rows {w:World} {nb:Nat} {N:List Nat} {mo:Option Addr} {mc:Nat} (h:fe w nb N mo mc):∀k,br nb mo k→k<w.heap.size:=by
 rintro k (rfl | ⟨p,rfl,rfl⟩)
 ·exact ag h.blk
 ·exact(h.own.lt p.block rfl).2
theorem fe.ne {w:World} {nb:Nat} {N:List Nat} {mo:Option Addr} {mc:Nat} (h:fe w nb N mo mc):¬rowOf mo nb:=by
 rintro⟨p,rfl,e⟩
 rcases h.own.2 with⟨c,_⟩ | ⟨g,cp,cur,c,_,hc,_⟩
 ·cases c
 ·simp only[Value.slice.injEq,Option.some.injEq]at c
  obtain⟨rfl,_⟩:=c
  dsimp only at e
  have:=h.blk
  rw[e,hc]at this
  simp only[Option.some.injEq,Obj.cells.injEq]at this
  exact absurd this.2.1 (by decide)
def TE (nb:Nat) (N:List Nat) (mo:Option Addr) (n:Nat) (w:World) (e:Ending) (w':World):Prop:=
 ∃mo' mc',e= .returned (aM (N.idxOf n))∧fe w' nb (Za.qw N n) mo' mc'∧au (br nb mo) (br nb mo') w w'
theorem Ku (w:World) (nb:Nat) (N:List Nat) (mo:Option Addr) (mc:Nat) (n:Nat) (h:fe w nb N mo mc) (hl:N.length≤1000000):
 Calls Tryz.prog 101 #[.pointer (some ⟨nb,0,none⟩),.int .i64 (n:Int)] w fun e w'=>TE nb N mo n w e w':=by
 have s0:=ah h.blk 0
 have sx:=ay h.blk 0
 have sz:=ag h.blk
 simp only[List.getElem?_toArray,List.getElem?_cons_zero]at s0
 have H:=af h
 obtain⟨ti,hi,hz0,hz1,hz2⟩:=info_parts infoIn
 have hcell:∀j (hj:j<N.length),∃g,mo=some ⟨g,0,none⟩∧g<w.heap.size∧w.cell? ⟨g,j,none⟩=some (.int .i64 (N[j]:Int)):=fun j hj=>by
  rcases h.own.2 with⟨_,q⟩ | ⟨g,cap,cur,q1,_,q3,_⟩
  ·omega
  ·simp only[Value.slice.injEq]at q1
   obtain⟨rfl,_,_⟩:=q1
   refine⟨g,rfl,ag q3,?_⟩
   rw[h.own.cellAt j (by omega),List.getElem?_map,List.getElem?_eq_getElem hj]
   rfl
 have HC:=af hcell
 have qL:=af h.ne
 clear h hcell
 go_enter Tryz.func101,Tryz.ntmps101
 go_wp2_with fail
 go_loopg [12] N.length (fun k iv wr=>∃j:Nat,k+j=N.length∧iv= .int .i64 (j:Int)∧wr=w∧∀i (hi:i<N.length),i<j→N[i]≠n)
 case atStart=>exact⟨0,by omega,rfl,rfl,fun i _ q=>by omega⟩
 case round=>
  obtain⟨j,hkj,rfl,rfl,hno⟩:=hrel
  by_cases hlt:j<N.length
  ·obtain⟨g,rfl,gz,cj⟩:=ae HC j hlt
   have j0:(0:Int)≤(j:Int):=by omega
   have j1:(j:Int)<(N.length:Int):=by omega
   have aT:=af hkj
   by_cases he:N[j]=n
   ·have dE:=af (show TE nb N (some ⟨g,0,none⟩) n wr (.returned (.int .i64 (j:Int))) wr from by
     have gX:n∈N:=he ▸ List.getElem_mem hlt
     refine⟨some ⟨g,0,none⟩,mc,?_,?_,au.aw (Below.refl _ _)⟩
     ·have:N.idxOf n=j:=Za.y6 hlt he hno
      rw[this];rfl
     ·have:Za.qw N n=N:=by unfold Za.qw;rw[if_pos gX]
      rw[this];exact ae H)
    rw[he]at cj
    clear he hno hkj
    go_wp2_with fail
    go_ret
    exact ae dE
   ·have t1:(((N[j]:Nat):Int) == (n:Int))=false:=by simp;omega
    have gQ:=af (show∀i (hi:i<N.length),i<j+1→N[i]≠n from fun i hi q=>by
     by_cases e:i=j
     ·subst e;exact he
     ·exact hno i hi (by omega))
    generalize N[j]=na at*
    clear he hno hkj
    go_wp2_with fail
    go_roundg (gk - 1)
    case measure=>have:=ae aT;omega
    case rel=>exact⟨j+1,by have:=ae aT;omega,by go_num,rfl,ae gQ⟩
  ·obtain rfl:j=N.length:=by omega
   have gX:n∉N:=fun q=>by
    obtain⟨i,hi,e⟩:=List.getElem_of_mem q
    exact hno i hi hi e
   have HM:=af (show Za.qw N n=N++[n]by unfold Za.qw;rw[if_neg gX])
   have HI:=af (show N.idxOf n=N.length from List.idxOf_eq_length gX)
   clear hno hkj gX
   go_wp2_with (first | (at_builtin;go_must (refine wpList_append_own_at _ rfl (.tmp 26) (.tmp 28) 25 rfl 0 3 ti (.int .i64 0) 1 8 Tryz.underlying25 hi hz0 hz1 hz2 rfl (by decide) _ N.length (N.map aM) rfl ((ae H).own.alloc _) ⟨wr.heap.size,0,none⟩ 1 1 [.int .i64 (n:Int)] rfl rfl (iZ _ _ _ _ rfl) (by simp[Value.oneCell']) (by unfold maxLen;omega) (by omega) (by omega) ?_);go_must (intro v' w7 hown' hgrow _ hat;obtain⟨g',cap',hv,hcm⟩:=fk hown';subst hv;have mD:=af hown';have HG:=af hgrow;have rX:=af (show (some g':Option Nat)=(Value.slice mo N.length mc).ownBlock∨(some g':Option Nat)=some (wr.heap.size+1)from (by rcases hat with q | q;exact Or.inl q;exact Or.inr (by rw[World.size_alloc]at q;exact q)));have b7:=(hgrow.block nb (by simp;omega) (iY fun p q e=>ae qL ⟨p,q,e⟩)).trans ((Below.heap_alloc _ _ _ sz).trans (ae H).blk);have mE:=af b7;have c7:=ah b7 0;have x7:=ay b7 0;have z7:=ag b7;simp only[List.getElem?_toArray,List.getElem?_cons_zero]at c7;clear hown' hgrow hat b7)))
   go_ret
   refine⟨some ⟨g',0,none⟩,cap',?_,⟨?_,?_⟩,?_⟩
   ·rw[ae HI]
    show Ending.returned (.int .i64 _)= .returned (.int .i64 _)
    congr 2
   ·have:=aA (ae mE) 0 (.slice (some ⟨g',0,none⟩) (N.length+1) cap')
    rw[ae HM,List.length_append]
    simpa using this
   ·rw[ae HM,List.length_append,List.map_append]
    have hne:nb≠g':=fun e=>by
     rcases(ae mD).2 with⟨c,_⟩ | ⟨g,cp,cur,c,_,hc,_⟩
     ·cases c
     ·simp only[Value.slice.injEq,Option.some.injEq,Addr.mk.injEq]at c
      obtain⟨⟨rfl,_⟩,_⟩:=c
      have:=ae mE
      rw[e,hc]at this
      simp only[Option.some.injEq,Obj.cells.injEq]at this
      exact absurd this.2.1 (by decide)
    exact ai (ae mD) (fun k q=>aJ _ _ _ _ (by simp[Value.ownBlock]at q;omega))
   ·have hz:=(ae HG).size
    refine⟨(ae HG).os,(ae HG).tape,(ae HG).output,by rw[cL];simp at hz;omega,fun k hk hr=> ?_,?_⟩
    ·rw[aJ _ _ _ _ (fun e=>hr (Or.inl e)),(ae HG).block k (by simp;omega) (iY fun p q e=>hr (Or.inr ⟨p,q,e⟩)),Below.heap_alloc _ _ _ hk]
    ·rintro k (rfl | ⟨p,e1,rfl⟩)
     ·exact Or.inl (Or.inl rfl)
     ·cases e1
      rcases ae rX with e | e
      ·left;right
       cases mo with
       | none=>simp[Value.ownBlock]at e
       | some s=>simp[Value.ownBlock]at e;exact⟨s,rfl,e⟩
      ·right
       have:=Option.some.inj e
       dsimp only
       omega
def uI (N:List Za.Vr) (a:AV):Za.U→Prop
 | .v x=>a.k=1∧a.val=(N.idxOf x:Int)∧x∈N∧a.n=0
 | .n k tx num ss=>(k=3∧a.k=2∧a.val=num∧a.n=0∧ss=[])∨(k=1∧a.k=3∧a.tx.toList=tx∧a.n=ss.length∧ss.length≤3)
def RV:Nat→List Za.Vr→(Nat→Prop)→World→AV→Za.U→Prop
 | 0,_,_,_,_,_=>False
 | f+1,N,P,w,a,u=>uI N a u∧(Za.uargs u≠[]→∃(g:Nat) (us:List AV) (cs:Array Value),a.ao=some ⟨g,0,none⟩∧P g∧w.heap[g]?=some (.cells cs 76 (0,0))∧cs.toList.take (us.length*4)=us.flatMap gM∧bR (RV f N P w) us (Za.uargs u))
theorem RV.keep {N:List Za.Vr} {P Q:Nat→Prop} {w w':World} (hk:∀g cs,P g→w.heap[g]?=some (.cells cs 76 (0,0))→w'.heap[g]?=some (.cells cs 76 (0,0))∧Q g):∀{f:Nat} {a:AV} {u:Za.U},RV f N P w a u→RV f N Q w' a u
 | _+1,_,_,⟨h,q⟩=>⟨h,fun n=>by
  obtain⟨g,us,cs,h1,h2,h3,h4,h5⟩:=q n
  obtain⟨r1,r2⟩:=hk g cs h2 h3
  exact⟨g,us,cs,h1,r2,r1,h4,h5.imp fun _ _=>RV.keep hk⟩⟩
theorem uI.more {N:List Za.Vr} {a:AV} {u:Za.U} (h:uI N a u) (M:List Za.Vr):uI (N++M) a u:=by
 cases u with
 | v x=>
  obtain⟨h1,h2,h3,h4⟩:=h
  exact⟨h1,by rw[h2,List.idxOf_append,if_pos h3],List.mem_append_left _ h3,h4⟩
 | n k tx num ss=>exact h
theorem RV.more {N:List Za.Vr} {P:Nat→Prop} {w:World} (M:List Za.Vr):∀{f:Nat} {a:AV} {u:Za.U},RV f N P w a u→RV f (N++M) P w a u
 | _+1,_,_,⟨h,q⟩=>⟨h.more M,fun n=>by
  obtain⟨g,us,cs,h1,h2,h3,h4,h5⟩:=q n
  exact⟨g,us,cs,h1,h2,h3,h4,h5.imp fun _ _=>RV.more M⟩⟩
def Fh (s nb:Nat) (N:List Nat) (mo:Option Addr) (u:Za.U) (w:World) (e:Ending) (w':World):Prop:=
 ∃(a:AV) (N':List Nat) (mo':Option Addr) (mc':Nat),e= .returned (.agg #[.int .i64 a.k,.int .i64 a.val,.string a.tx,.slice a.ao a.n a.cap])∧fe w' nb N' mo' mc'∧Za.bt N'=Za.ba (Za.bt N) u∧RV s (Za.bt N') (fun g=>w.heap.size≤g) w' a u∧au (br nb mo) (br nb mo') w w'
def Bu (s:Nat):Prop:=∀(w:World) (sb so:Nat) (cs:Array Value) (T:TypeId) (D:List Ng) (no:Option Addr) (nc:Nat) (fr:Nat→Nat) (n:Nat) (u:Za.U) (nb:Nat) (N:List Nat) (mo:Option Addr) (mc:Nat),bI w sb so cs T D no nc→T≠123→T≠3→b6 D fr→fe w nb N mo mc→aZ w D (fun g=>¬br nb mo g)→n<D.length→Za.Tr (aX D) fr n u→Za.size u≤s→N.length+Za.size u≤1000000→
 Calls Tryz.prog 57 #[.pointer (some ⟨sb,so,none⟩),.int .i64 (n:Int),.pointer (some ⟨nb,0,none⟩)] w fun e w'=>Fh s nb N mo u w e w'
theorem bI.Hq {w w':World} {sb so:Nat} {cs:Array Value} {T:TypeId} {D:List Ng} {no:Option Addr} {nc:Nat} {nb:Nat} {N:List Nat} {mo mo':Option Addr} {mc:Nat} (h:bI w sb so cs T D no nc) (hn:fe w nb N mo mc) (h1:T≠123) (h2:T≠3) (hf:au (br nb mo) (br nb mo') w w'):bI w' sb so cs T D no nc:=by
 refine⟨(hf.block sb (ag h.blk) (hn.apart h.blk h1 h2)).trans h.blk,h.cel,ai h.own (fun g q=>hf.block g (h.own.lt g q).2 ?_),h.ty⟩
 rcases h.own.2 with⟨c,_⟩ | ⟨g',cp,cur,c,_,hc,_⟩
 ·rw[c]at q;simp[Value.ownBlock]at q
 ·rw[c]at q
  simp[Value.ownBlock]at q
  subst q
  exact hn.apart hc (by decide) (by decide)
theorem aZ.Hq {w w':World} {D:List Ng} {R R':Nat→Prop} (h:aZ w D fun g=>¬R g) (hf:au R R' w w'):aZ w' D fun g=>¬R' g:=
 h.keep fun g _ hp hg=>⟨(hf.block g (ag hg) hp).trans hg,hf.not (ag hg) hp⟩
theorem Kv (s:Nat) (w:World) (sb so:Nat) (cs:Array Value) (T:TypeId) (D:List Ng) (no:Option Addr) (nc:Nat) (fr:Nat→Nat) (n:Nat) (d:Ng) (nb:Nat) (N:List Nat) (mo:Option Addr) (mc:Nat) (h:bI w sb so cs T D no nc) (_hT1:T≠123) (_hT2:T≠3) (aF:b6 D fr) (hn:fe w nb N mo mc) (pS:n<D.length) (hd:D[fr n]?=some d) (hk:d.k=1) (hl:N.length+1≤1000000):
 Calls Tryz.prog 57 #[.pointer (some ⟨sb,so,none⟩),.int .i64 (n:Int),.pointer (some ⟨nb,0,none⟩)] w fun e w'=>Fh (s+1) nb N mo (.v ([],fr n)) w e w':=by
 obtain⟨k,fI⟩:=aF.hop n pS
 have LA:=af (fun W (hb:Below w.heap.size w W)=>eY W sb so cs T D no nc n (fr n) k d (h.below hb) fI hd)
 have FA:=af (fun W (hb:Below w.heap.size w W)=>dU W sb so cs T D no nc n (fr n) k (h.below hb) fI)
 have NA:=af (fun W (hb:Below w.heap.size w W)=>Ku W nb N mo mc (fr n) (hn.below hb) (by omega))
 have HN:=af hn
 obtain⟨dk,val,tx,cnt,ao,cap,args,nx,mrk⟩:=d
 dsimp only at hk LA
 subst hk
 clear h aF hn pS hd fI
 generalize fr n=p at*
 go_enter Tryz.func57,Tryz.ntmps57
 go_wp2_with fail
 refine(ae LA _ ((Below.refl _ _).alloc (Nat.le_refl _) _)).mono ?_
 rintro e w1 ⟨rfl,hb1⟩
 have bD:=af ((((Below.refl w.heap.size w).alloc (Nat.le_refl _) (.cells #[.int .i64 0,.int .i64 0,.string ⟨#[]⟩,.slice none 0 0] 76)).trans (hb1.mono (by simp))).alloc (by have:=hb1.size;simp at this;omega) (.cells #[.int .i64 1,.int .i64 val,.string tx,.int .i64 (cnt:Int)] 177))
 have r0:=hb1.block w.heap.size (by simp)
 have r1:=r0.trans (heap_alloc_new w _)
 have z1:w.heap.size<w1.heap.size:=ag r1
 have TF:=af (aB r1 (.cells #[.int .i64 1,.int .i64 val,.string tx,.int .i64 (cnt:Int)] 177))
 clear hb1 r0 r1
 go_wp2_with fail
 refine(ae FA _ (ae bD)).mono ?_
 rintro e w2 ⟨rfl,rfl⟩
 unfold aM
 go_wp2_with fail
 refine(ae NA _ (ae bD)).mono ?_
 rintro e w3 ⟨mo',mc',rfl,TG,hf3⟩
 unfold aM
 have q3:=(hf3.block w.heap.size (by simp;omega) (((ae HN).below (ae bD)).apart (ae TF) (by decide) (by decide))).trans (ae TF)
 have Wu:=af q3
 have c3:=ah q3
 have x3:=ay q3
 have z3:=ag q3
 have iP:=af TG
 have vE:=af hf3
 clear TG hf3 q3
 go_wp2_with fail
 refine bodyPost_ret (v:= .agg #[.int .i64 1,.int .i64 ((N.idxOf p:Nat):Int),.string ⟨#[]⟩,.slice none 0 0]) (by simp[results,Tryz.results57,go_sem,c3]) rfl ?_
 have nj:∀g,g≠w.heap.size→((((w3.setCell ⟨w.heap.size,0,none⟩ (.int .i64 1)).setCell ⟨w.heap.size,1,none⟩ (.int .i64 ((N.idxOf p:Nat):Int))).setCell ⟨w.heap.size,2,none⟩ (.string ⟨#[]⟩)).setCell ⟨w.heap.size,3,none⟩ (.slice none 0 0)).heap[g]?=w3.heap[g]?:=fun g hg=>by rw[aJ _ _ _ _ hg,aJ _ _ _ _ hg,aJ _ _ _ _ hg,aJ _ _ _ _ hg]
 have hne:nb≠w.heap.size:=by have:=ag (ae HN).blk;omega
 refine⟨⟨1,(N.idxOf p:Nat),⟨#[]⟩,none,0,0⟩,Za.qw N p,mo',mc',rfl,⟨(nj nb hne).trans (ae iP).blk,ai (ae iP).own (fun g q=>nj g fun e=> ?_)⟩,?_,⟨⟨rfl,?_,?_,rfl⟩,fun q=>absurd rfl q⟩,?_⟩
 ·subst e
  exact(ae iP).apart (ae Wu) (by decide) (by decide) (Or.inr (by
   cases mo' with
   | none=>simp[Value.ownBlock]at q
   | some a=>simp[Value.ownBlock]at q;exact⟨a,rfl,q.symm⟩))
 ·rw[Za.DV];rfl
 ·show ((N.idxOf p:Nat):Int)=(((Za.bt (Za.qw N p)).idxOf ([],p):Nat):Int)
  rw[Za.DW]
  congr 1
  unfold Za.qw
  by_cases q:p∈N
  ·rw[if_pos q]
  ·rw[if_neg q,List.idxOf_append,if_neg q,List.idxOf_eq_length q];simp
 ·rw[Za.DV];exact Za.A2.2 (Or.inr rfl)
 ·have q:=(au.aw (R:=br nb mo) (ae bD)).trans (ae vE)
  refine⟨q.os,q.tape,q.output,by simp only[cL];exact q.size,fun k hk hr=> ?_,q.row⟩
  rw[nj k (by omega)]
  exact q.block k hk hr
end Go.Proofs.YthfjnfcekeknlaaGreatDoor
namespace Za
theorem Kw (N:List Vr) (x:Vr):(kX N x).length≤N.length+1:=by unfold kX;split<;>simp
theorem i6:∀(u:U) (N:List Vr),(ba N u).length≤N.length+size u:=by
 refine U.ind (fun x N=>by rw[ba,size];exact Kw N x) (fun k tx num ss ih N=> ?_)
 rw[gO,size]
 induction ss generalizing N with
 | nil=>simp[sizeL]
 | cons a ss ihl=>
  have h1:=ihl (fun b hb=>ih b (by simp[hb])) (ba N a)
  have h2:=ih a (by simp) N
  rw[List.foldl_cons,sizeL]
  omega
theorem Hr (us:List U) (N:List Vr):(us.foldl ba N).length≤N.length+sizeL us:=by
 have:=i6 (.n 1 [] 0 us) N
 rw[gO,size]at this
 induction us generalizing N with
 | nil=>simp[sizeL]
 | cons a us ih=>
  have h1:=ih (ba N a) (by have:=i6 (.n 1 [] 0 us) (ba N a);rw[gO,size]at this;exact this)
  have h2:=i6 a N
  rw[List.foldl_cons,sizeL]
  omega
theorem ry:∀(u:U) (N:List Vr),∃M,ba N u=N++M:=by
 refine U.ind (fun x N=> ?_) (fun k tx num ss ih N=> ?_)
 ·rw[ba];unfold kX;split
  ·exact⟨[],by simp⟩
  ·exact⟨[x],rfl⟩
 ·rw[gO]
  induction ss generalizing N with
  | nil=>exact⟨[],by simp⟩
  | cons a ss ihl=>
   obtain⟨M,hM⟩:=ih a (by simp) N
   obtain⟨M',hM'⟩:=ihl (fun b hb=>ih b (by simp[hb])) (ba N a)
   exact⟨M++M',by rw[List.foldl_cons,hM',hM,List.append_assoc]⟩
end Za
namespace Go.Proofs.YthfjnfcekeknlaaGreatDoor
open Go.RowKit
def Pu (w:World) (sb so:Nat) (cs:Array Value) (T:TypeId) (D:List Ng) (no:Option Addr) (nc:Nat) (tb nb:Nat) (N:List Nat) (mo:Option Addr) (s:Nat) (us:List Za.U) (kv vv tv:Value) (k:Nat) (iv:Value) (wr:World):Prop:=
 ∃(j:Nat) (N1:List Nat) (mo1:Option Addr) (mc1:Nat) (av:Value) (vs:List AV),k+j=us.length∧iv= .int .i64 (j:Int)∧fe wr nb N1 mo1 mc1∧Za.bt N1=(us.take j).foldl Za.ba (Za.bt N)∧au (br nb mo) (br nb mo1) w wr∧
  wr.heap[w.heap.size]?=some (.cells #[.int .i64 0,.int .i64 0,.string ⟨#[]⟩,.slice none 0 0] 76 (0,0))∧wr.heap[tb]?=some (.cells #[kv,vv,tv,av] 76 (0,0))∧wr.ownsRow (tb+1) 76 4 av j (vs.flatMap gM)∧
  bR (RV s (Za.bt N1) (fun g=>tb+1≤g∧some g≠av.ownBlock) wr) vs (us.take j)∧bI wr sb so cs T D no nc∧aZ wr D (fun g=>¬br nb mo1 g)
theorem Ky {wr w2 w7:World} {s tb nb:Nat} {N1 N2:List Nat} {mo1 mo2:Option Addr} {mc1:Nat} {av v':Value} {vs:List AV} {ts:List Za.U} {a2:AV} {t:Za.U} {X A:Obj} {M:List Za.Vr}
 (hn:fe wr nb N1 mo1 mc1) (h:bR (RV s (Za.bt N1) (fun g=>tb+1≤g∧some g≠av.ownBlock) wr) vs ts) (hv:RV s (Za.bt N2) (fun g=>wr.heap.size≤g) w2 a2 t) (hM:Za.bt N2=Za.bt N1++M) (hf:au (br nb mo1) (br nb mo2) wr w2) (Hs:tb<wr.heap.size) (Wv:∀k,av.ownBlock=some k→tb+1≤k∧k<wr.heap.size)
 (hg:((w2.alloc X).alloc A).grownBy w7 av.ownBlock) (hat:v'.ownBlock=av.ownBlock∨v'.ownBlock=some ((w2.alloc X).alloc A).heap.size) (u:Value):
 bR (RV s (Za.bt N2) (fun g=>tb+1≤g∧some g≠v'.ownBlock) (w7.setCell ⟨tb,3,none⟩ u)) (vs++[a2]) (ts++[t]):=by
 have hsz:=hf.size
 have keep:∀g,g<w2.heap.size→g≠tb→some g≠av.ownBlock→(w7.setCell ⟨tb,3,none⟩ u).heap[g]?=w2.heap[g]?:=fun g h1 h2 h4=>by
  rw[aJ _ _ _ _ h2,hg.block g (by simp;omega) h4,Below.heap_alloc _ _ _ (by simp;omega),Below.heap_alloc _ _ _ h1]
 have away:∀g,g<w2.heap.size→some g≠av.ownBlock→some g≠v'.ownBlock:=fun g h1 h2=>by
  rcases hat with e | e<;>rw[e]
  ·exact h2
  ·simp;omega
 refine bR.snoc (hv.keep fun g cs hp hc=> ?_) (h.imp fun a t q=> ?_)
 ·have hl:=ag hc
  have h4:some g≠av.ownBlock:=fun e=>by have:=(Wv g e.symm).2;omega
  exact⟨(keep g hl (by omega) h4).trans hc,by omega,away g hl h4⟩
 ·rw[hM]
  refine RV.more M (q.keep fun g cs hp hc=> ?_)
  have hl:=ag hc
  obtain⟨p1,p2⟩:=hp
  exact⟨(keep g (by omega) (by omega) p2).trans ((hf.block g hl (hn.apart hc (by decide) (by decide))).trans hc),p1,away g (by omega) p2⟩
theorem Ht {s:Nat} (IH:Bu s) (w:World) (sb so:Nat) (cs:Array Value) (T:TypeId) (D:List Ng) (no:Option Addr) (nc:Nat) (fr:Nat→Nat) (n:Nat) (u:Za.U) (us:List Za.U) (d:Ng) (nb:Nat) (N:List Nat) (mo:Option Addr) (mc:Nat) (h:bI w sb so cs T D no nc) (hT1:T≠123) (hT2:T≠3) (aF:b6 D fr) (hn:fe w nb N mo mc) (bC:aZ w D (fun g=>¬br nb mo g)) (pS:n<D.length) (hd:D[fr n]?=some d) (od:gH D.length d) (md:d∈D) (hk:d.k≠1) (l7:d.args.length=us.length) (rT:∀(i a:Nat) (v:Za.U),d.args[i]?=some a→us[i]?=some v→Za.Tr (aX D) fr a v)
 (hu:(d.k=2∧u= .n 3 [] d.val []∧us=[])∨(d.k=3∧u= .n 1 d.tx.toList 0 us)) (hs:Za.size u≤s+1) (hl:N.length+Za.size u≤1000000):
 Calls Tryz.prog 57 #[.pointer (some ⟨sb,so,none⟩),.int .i64 (n:Int),.pointer (some ⟨nb,0,none⟩)] w fun e w'=>Fh (s+1) nb N mo u w e w':=by
 obtain⟨k,fI⟩:=aF.hop n pS
 have hsz:Za.size u=1+Za.sizeL us:=by
  rcases hu with⟨_,rfl,rfl⟩ | ⟨_,rfl⟩
  ·simp[Za.size,Za.sizeL]
  ·rw[Za.size]
 have TH:Za.uargs u=us:=by
  rcases hu with⟨_,rfl,rfl⟩ | ⟨_,rfl⟩<;>rfl
 have TI:∀M,Za.ba M u=us.foldl Za.ba M:=fun M=>by
  rcases hu with⟨_,rfl,rfl⟩ | ⟨_,rfl⟩<;>rw[Za.gO]
 have Hu:∀M ao cap,uI M ⟨d.k,d.val,d.tx,ao,us.length,cap⟩ u:=fun M ao cap=>by
  rcases hu with⟨q,rfl,rfl⟩ | ⟨q,rfl⟩
  ·exact Or.inl ⟨rfl,q,rfl,rfl,rfl⟩
  ·exact Or.inr ⟨rfl,q,rfl,rfl,by rw[←l7];exact od.few⟩
 have LA:=af (fun W (hb:Below w.heap.size w W)=>eY W sb so cs T D no nc n (fr n) k d (h.below hb) fI hd)
 have AG:=af (fun W (hb:Below w.heap.size w W)=>lW W sb so cs T D no nc n (fr n) k d (h.below hb) fI hd)
 have n9:=af (show∀W R,aZ W D R→o6 W d.ao d.args from fun W R q=>q.row md)
 have o5:=af od.inn
 have Hh:=af rT
 have j9:=af hsz
 have HS:=af hs
 have HL:=af hl
 have Ww:=af TH
 have Wx:=af TI
 have TJ:=af Hu
 have HN:=af hn
 have HST:=af h
 have U6:=af bC
 have qM:=af aF
 have I:=af IH
 have vV:=od.few
 have Pv:=af hT1
 have TK:=af hT2
 obtain⟨i0',hi,hz0,hz1,hz2⟩:=info_parts Tryz.info76
 obtain⟨dk,val,tx,cnt,ao,cap,xs,nx,mrk⟩:=d
 dsimp only at hk LA AG n9 o5 Hh l7 vV TJ
 have t1:(dk == 1)=false:=by simpa using hk
 have Mr:=af l7
 clear h aF hn bC pS hd od md fI hk rT hu hsz TH TI Hu hs hl IH l7 hT1 hT2
 go_enter Tryz.func57,Tryz.ntmps57
 go_wp2_with fail
 refine(ae LA _ ((Below.refl _ _).alloc (Nat.le_refl _) _)).mono ?_
 rintro e w1 ⟨rfl,hb1⟩
 have bD:=af ((((Below.refl w.heap.size w).alloc (Nat.le_refl _) (.cells #[.int .i64 0,.int .i64 0,.string ⟨#[]⟩,.slice none 0 0] 76)).trans (hb1.mono (by simp))).alloc (by have:=hb1.size;simp at this;omega) (.cells #[.int .i64 dk,.int .i64 val,.string tx,.int .i64 (cnt:Int)] 177))
 have r0:=hb1.block w.heap.size (by simp)
 have r1:=r0.trans (heap_alloc_new w _)
 have z1:w.heap.size<w1.heap.size:=ag r1
 have hB4:Below w.heap.size w ((w1.alloc (.cells #[.int .i64 dk,.int .i64 val,.string tx,.int .i64 (cnt:Int)] 177)).alloc (.cells #[.int .i64 dk,.int .i64 val,.string tx,.slice none 0 0] 76)):=(ae bD).alloc (by simp;omega) _
 have e4:=heap_alloc_new (w1.alloc (.cells #[.int .i64 dk,.int .i64 val,.string tx,.int .i64 (cnt:Int)] 177)) (.cells #[.int .i64 dk,.int .i64 val,.string tx,.slice none 0 0] 76)
 rw[World.size_alloc]at e4
 have Bo:=af (show Pu w sb so cs T D no nc (w1.heap.size+1) nb N mo s us (.int .i64 dk) (.int .i64 val) (.string tx) us.length (.int .i64 0) ((w1.alloc (.cells #[.int .i64 dk,.int .i64 val,.string tx,.int .i64 (cnt:Int)] 177)).alloc (.cells #[.int .i64 dk,.int .i64 val,.string tx,.slice none 0 0] 76))from
  ⟨0,N,mo,mc,.slice none 0 0,[],by omega,rfl,(ae HN).below hB4,rfl,au.aw hB4,aB (aB r1 _) _,e4,World.ownsRow_nil _ _ _ _,trivial,(ae HST).below hB4,(ae U6).below hB4⟩)
 have dr:=af hB4
 clear hb1 r0 r1 hB4 e4
 go_wp2_with fail
 refine(ae AG _ (ae dr)).mono ?_
 rintro e w2 ⟨rfl,rfl⟩
 have TL:=af (show xs.length=us.length from ae Mr)
 go_wp2_with fail
 go_loopg [37] us.length (fun k iv wr=>Pu w sb so cs T D no nc (w1.heap.size+1) nb N mo s us (.int .i64 dk) (.int .i64 val) (.string tx) k iv wr)
 case atStart=>exact ae Bo
 case round=>
  clear Bo
  obtain⟨j,N1,mo1,mc1,av,vs,hkj,rfl,kJ,o7,cW,vF,y7,how,hall,hst,bC⟩:=hrel
  obtain⟨oo,cp,rfl⟩:=gG how
  have z2:=ag y7
  by_cases hlt:j<us.length
  ·have Fi:j<xs.length:=by have:=ae TL;omega
   obtain⟨gx,ex,zx,cx⟩:=(ae n9 wr _ bC).at Fi
   subst ex
   have hsj:Za.size us[j]≤Za.sizeL us:=Za.iW (List.getElem_mem hlt)
   have hN1:N1.length≤N.length+Za.sizeL (us.take j):=by
    have:=Za.Hr (us.take j) (Za.bt N)
    rw[←o7,Za.DX,Za.DX]at this
    exact this
   have Mp:Za.sizeL (us.take (j+1))=Za.sizeL (us.take j)+Za.size us[j]:=by
    rw[List.take_add_one,List.getElem?_eq_getElem hlt]
    exact sizeL_snoc _ _
   have hle:=xm us (j+1)
   have IC:=af (ae I wr sb so cs T D no nc fr xs[j] us[j] nb N1 mo1 mc1 hst (ae Pv) (ae TK) (ae qM) kJ bC (ae o5 _ (List.getElem_mem Fi)) (ae Hh j _ _ (List.getElem?_eq_getElem Fi) (List.getElem?_eq_getElem hlt)) (by have:=ae j9;have:=ae HS;omega) (by have:=ae j9;have:=ae HL;omega))
   have jD:=af (show (us.take (j+1)).foldl Za.ba (Za.bt N)=Za.ba (Za.bt N1) us[j]by rw[List.take_add_one,List.getElem?_eq_getElem hlt,List.foldl_append,o7];rfl)
   have rZ:=af (show us.take (j+1)=us.take j++[us[j]]by rw[List.take_add_one,List.getElem?_eq_getElem hlt];rfl)
   have aT:=af hkj
   have bh:=af hlt
   have gT:=af kJ
   have jh:=af cW
   have eN:=af vF
   have Ms:=af y7
   have HOW:=af how
   have Bw:=af hall
   have Bj:=af hst
   have SK:=af bC
   have j0:(0:Int)≤(j:Int):=by omega
   have j1:(j:Int)<(xs.length:Int):=by omega
   have j3:j≤3:=by omega
   generalize xs[j]=na at*
   generalize us[j]=uj at*
   clear kJ o7 cW vF y7 how hall hst bC hsj hN1 Mp hle Fi hkj hlt
   go_wp2_with fail
   refine(ae IC).mono ?_
   rintro e w2 ⟨a2,N2,mo2,mc2,rfl,y8,hv2,hr2,hf2⟩
   have q0:=(hf2.block w.heap.size (ag (ae eN)) ((ae gT).apart (ae eN) (by decide) (by decide))).trans (ae eN)
   have q2:=(hf2.block (w1.heap.size+1) (ag (ae Ms)) ((ae gT).apart (ae Ms) (by decide) (by decide))).trans (ae Ms)
   have Bc:=af (ai (ae HOW) (fun g q=>hf2.block g ((ae HOW).lt g q).2 (by
    rcases(ae HOW).2 with⟨c,_⟩ | ⟨g',cp',cur,c,_,hc,_⟩
    ·rw[c]at q;simp[Value.ownBlock]at q
    ·rw[c]at q
     simp[Value.ownBlock]at q
     subst q
     exact(ae gT).apart hc (by decide) (by decide))))
   have y2:=ah q2
   have yz2:=ag q2
   have Wy:=af q0
   have vG:=af q2
   have tB:=af y8
   have y9:=af hv2
   have tE:=af hr2
   have vC:=af hf2
   have Fj:=hf2.size
   have Yn:w.heap.size<w1.heap.size+1:=by omega
   clear q0 q2 y8 hv2 hr2 hf2 IC
   go_wp2_with (first | (at_builtin;go_must (refine wpList_append_own_at _ rfl (.tmp 46) (.tmp 48) 74 rfl (w1.heap.size+1+1) 76 i0' (.agg #[.int .i64 0,.int .i64 0,.string ⟨#[]⟩,.slice none 0 0]) 4 56 Tryz.underlying74 hi hz0 hz1 hz2 rfl (by decide) _ j (vs.flatMap gM) rfl (((ae Bc).alloc _).alloc _) ⟨w2.heap.size+1,0,none⟩ 1 1 [.int .i64 a2.k,.int .i64 a2.val,.string a2.tx,.slice a2.ao a2.n a2.cap] rfl rfl (A8 _ _ _ _ _ _ _) (A9 _ _ _ _ _ _) (by unfold maxLen;omega) (by omega) (by simp;omega) ?_);go_must (intro v' w7 hown' hgrow _ hat;obtain⟨g',cap',hv,hcm⟩:=fk hown';subst hv;have rX:=af (show (Value.slice (some ⟨g',0,none⟩) (j+1) cap').ownBlock=(Value.slice oo j cp).ownBlock∨(Value.slice (some ⟨g',0,none⟩) (j+1) cap').ownBlock=some _ from hat);have HG:=af (show _ from hgrow);have Al:=af hown';have mE:=af ((((Below.refl (w1.heap.size+1+1) w2).alloc (by omega) (.cells #[.int .i64 a2.k,.int .i64 a2.val,.string a2.tx,.slice a2.ao a2.n a2.cap] 76)).alloc (by simp;omega) (.cells #[.int .i64 a2.k,.int .i64 a2.val,.string a2.tx,.slice a2.ao a2.n a2.cap] 76)).grown hgrow (by simp;omega) (fun k q=>((ae Bc).lt k q).1));have q7:=((ae mE).block (w1.heap.size+1) (by omega)).trans (ae vG);have Wz:=af q7;have z7:=ah q7;have zx7:=ay q7;have zz7:=ag q7;clear hown' hgrow hat q7)))
   obtain⟨M,hM⟩:=Za.ry uj (Za.bt N1)
   have mF:=af (Ky (ae gT) (ae Bw) (ae tE) ((ae y9).trans hM) (ae vC) z2 (fun k q=>(ae HOW).lt k q) (ae HG) (ae rX) (.slice (some ⟨g',0,none⟩) (j+1) cap'))
   clear hM
   go_roundg (gk - 1)
   case measure=>have:=ae aT;have:=ae bh;omega
   case rel=>
    have hG:=ae HG
    have Pw:=hG.size
    simp only[World.size_alloc]at Pw
    have keepN:∀g,g<w2.heap.size→(∀p,oo=some p→g≠p.block)→g≠w1.heap.size+1→(w7.setCell ⟨w1.heap.size+1,3,none⟩ (.slice (some ⟨g',0,none⟩) (j+1) cap')).heap[g]?=w2.heap[g]?:=fun g h1 h2 h3=>by
     rw[aJ _ _ _ _ h3,hG.block g (by simp;omega) (iY h2),Below.heap_alloc _ _ _ (by simp;omega),Below.heap_alloc _ _ _ h1]
    have oty:∀(g:Nat) (xs:Array Value) (S:TypeId),w2.heap[g]?=some (.cells xs S (0,0))→S≠76→∀p,oo=some p→g≠p.block:=fun g xs S hg hS p hp e=>by
     rcases(ae Bc).2 with⟨c,_⟩ | ⟨g'',cp',cur,c,_,hc,_⟩
     ·rw[hp]at c;cases c
     ·simp only[Value.slice.injEq]at c
      rw[hp]at c
      obtain⟨c,_⟩:=c
      cases c
      dsimp only at e
      subst e
      rw[hc]at hg
      simp only[Option.some.injEq,Obj.cells.injEq]at hg
      exact hS hg.2.1.symm
    have tyT:∀(g:Nat) (xs:Array Value) (S:TypeId),w2.heap[g]?=some (.cells xs S (0,0))→S≠76→(w7.setCell ⟨w1.heap.size+1,3,none⟩ (.slice (some ⟨g',0,none⟩) (j+1) cap')).heap[g]?=w2.heap[g]?:=fun g xs S hg hS=>keepN g (ag hg) (oty g xs S hg hS) (fun e=>by
     subst e
     rw[ae vG]at hg
     simp only[Option.some.injEq,Obj.cells.injEq]at hg
     exact hS hg.2.1.symm)
    have hB7:=ae mE
    have lowO:∀p,oo=some p→w1.heap.size+1+1≤p.block:=fun p q=>((ae Bc).lt p.block (by rw[q];rfl)).1
    refine⟨j+1,N2,mo2,mc2,.slice (some ⟨g',0,none⟩) (j+1) cap',vs++[a2],by have:=ae aT;have:=ae bh;omega,by go_num,⟨(tyT _ _ _ (ae tB).blk (by decide)).trans (ae tB).blk,ai (ae tB).own fun g q=> ?_⟩,(ae y9).trans (ae jD).symm,?_,?_,?_,?_,?_,?_,?_⟩
    ·rcases(ae tB).own.2 with⟨c,_⟩ | ⟨g'',cp',cur,c,_,hc,_⟩
     ·rw[c]at q;simp[Value.ownBlock]at q
     ·rw[c]at q
      simp[Value.ownBlock]at q
      subst q
      exact tyT _ _ _ hc (by decide)
    ·have q:=(ae jh).trans (ae vC)
     refine⟨hG.os.trans q.os,hG.tape.trans q.tape,hG.output.trans q.output,by rw[cL];have:=q.size;omega,fun k hk hr=> ?_,q.row⟩
     rw[keepN k (by have:=q.size;omega) (fun p hp e=>by have:=lowO p hp;omega) (by omega)]
     exact q.block k hk hr
    ·exact aG ((hB7.block _ (by omega)).trans (ae Wy)) (by omega) _ _
    ·have:=aA (ae Wz) 3 (.slice (some ⟨g',0,none⟩) (j+1) cap')
     simpa using this
    ·have:=ai (ae Al) (w':=w7.setCell ⟨w1.heap.size+1,3,none⟩ (.slice (some ⟨g',0,none⟩) (j+1) cap')) (fun k q=>aJ _ _ _ _ (by have:=((ae Al).lt k q).1;omega))
     rw[List.flatMap_append]
     simpa [gM] using this
    ·rw[ae rZ]
     exact ae mF
    ·have hs2:=(ae Bj).Hq (ae gT) (ae Pv) (ae TK) (ae vC)
     refine⟨?_,hs2.cel,ai hs2.own fun g q=> ?_,hs2.ty⟩
     ·by_cases hTT:T=76
      ·have tG:=ag (ae HST).blk
       exact(aJ _ _ _ _ (by omega)).trans ((hG.block sb (by have:=ag hs2.blk;simp;omega) (iY fun p hp e=>by have:=lowO p hp;omega)).trans ((Below.heap_alloc _ _ _ (by have:=ag hs2.blk;simp;omega)).trans ((Below.heap_alloc _ _ _ (ag hs2.blk)).trans hs2.blk)))
      ·exact(tyT _ _ _ hs2.blk hTT).trans hs2.blk
     ·rcases hs2.own.2 with⟨c,_⟩ | ⟨g'',cp',cur,c,_,hc,_⟩
      ·rw[c]at q;simp[Value.ownBlock]at q
      ·rw[c]at q
       simp[Value.ownBlock]at q
       subst q
       exact tyT _ _ _ hc (by decide)
    ·exact((ae SK).Hq (ae vC)).keep fun g cs hp hc=>⟨(tyT _ _ _ hc (by decide)).trans hc,hp⟩
  ·obtain rfl:j=us.length:=by omega
   rw[List.take_length]at hall o7
   have TM:xs.length=us.length:=ae TL
   have TN:RV (s+1) (Za.bt N1) (fun g=>w.heap.size<g) wr ⟨dk,val,tx,oo,us.length,cp⟩ u:=by
    refine⟨ae TJ _ _ _,fun q=> ?_⟩
    rw[ae Ww]at q⊢
    rcases how.2 with⟨_,h0⟩ | ⟨g,cap',cur,q1,hb,hc,_,_,_,ht⟩
    ·exact absurd (List.length_eq_zero_iff.1 h0) q
    ·simp only[Value.slice.injEq]at q1
     obtain⟨rfl,_,rfl⟩:=q1
     exact⟨g,vs,cur,rfl,by omega,hc,by rw[hall.length];exact ht,hall.imp fun _ _ r=>r.keep fun k cs hp hc'=>⟨hc',by omega⟩⟩
   have r1:=ah vF
   have x1:=ay vF
   have y1:=ag vF
   have r2:=ah y7
   have Px:=af TN
   have gT:=af kJ
   have jD:=af o7
   have jh:=af cW
   have eN:=af vF
   have Ms:=af y7
   clear kJ o7 cW y7 how hall hst bC hkj TN vF
   rw[←TM]
   go_wp2_with fail
   rw[TM]
   refine bodyPost_ret (v:= .agg #[.int .i64 dk,.int .i64 val,.string tx,.slice oo us.length cp]) (by simp[results,Tryz.results57,go_sem,r1]) rfl ?_
   have nj:∀g,g≠w.heap.size→((((wr.setCell ⟨w.heap.size,0,none⟩ (.int .i64 dk)).setCell ⟨w.heap.size,1,none⟩ (.int .i64 val)).setCell ⟨w.heap.size,2,none⟩ (.string tx)).setCell ⟨w.heap.size,3,none⟩ (.slice oo us.length cp)).heap[g]?=wr.heap[g]?:=fun g hg=>by rw[aJ _ _ _ _ hg,aJ _ _ _ _ hg,aJ _ _ _ _ hg,aJ _ _ _ _ hg]
   have U7:¬br nb mo1 w.heap.size:=(ae gT).apart (ae eN) (by decide) (by decide)
   have hne:nb≠w.heap.size:=by have:=ag (ae HN).blk;omega
   refine⟨⟨dk,val,tx,oo,us.length,cp⟩,N1,mo1,mc1,rfl,⟨(nj nb hne).trans (ae gT).blk,ai (ae gT).own (fun g q=>nj g fun e=> ?_)⟩,by rw[ae Wx];exact ae jD,?_,?_⟩
   ·subst e
    exact U7 (Or.inr (by
     cases mo1 with
     | none=>simp[Value.ownBlock]at q
     | some a=>simp[Value.ownBlock]at q;exact⟨a,rfl,q.symm⟩))
   ·exact(ae Px).keep (fun g cs hp hc=>⟨(nj g (by omega)).trans hc,by omega⟩)
   ·have q:=ae jh
    refine⟨q.os,q.tape,q.output,by simp only[cL];exact q.size,fun k hk hr=> ?_,q.row⟩
    rw[nj k (by omega)]
    exact q.block k hk hr
theorem tree_all:∀s,Bu s
 | 0=>fun _ _ _ _ _ _ _ _ _ _ u _ _ _ _ _ _ _ _ _ _ _ _ hs _=>absurd hs (by have:=Za.size_pos u;omega)
 | s+1=>fun w sb so cs T D no nc fr n u nb N mo mc h hT1 hT2 aF hn bC pS ht hs hl=>by
  obtain⟨d,us,hd,od,md,l7,rT,hu⟩:=Bl aF pS ht
  rcases hu with⟨hk,rfl,rfl⟩ | hu
  ·exact Kv s w sb so cs T D no nc fr n d nb N mo mc h hT1 hT2 aF hn pS hd hk (by simpa [Za.size] using hl)
  ·have hk:d.k≠1:=by rcases hu with⟨q,_⟩ | ⟨q,_⟩<;>omega
   exact Ht (tree_all s) w sb so cs T D no nc fr n u us d nb N mo mc h hT1 hT2 aF hn bC pS hd od md hk l7 rT hu hs hl
structure Bx (w:World) (cb:Nat) (V:List Nat) (vo:Option Addr) (vc:Nat):Prop where
 blk:w.heap[cb]?=some (.cells #[.slice vo V.length vc] 93 (0,0))
 own:w.ownsRow 0 3 1 (.slice vo V.length vc) V.length (V.map aM)
def b9 (sb:Nat) (no:Option Addr) (cb:Nat) (vo:Option Addr) (k:Nat):Prop:=k=sb∨rowOf no k∨k=cb∨rowOf vo k
structure fK (P:Nat→Prop) (w:World) (sb so:Nat) (cs:Array Value) (T:TypeId) (cb:Nat) (D:List Ng) (V:List Nat) (no:Option Addr) (nc:Nat) (vo:Option Addr) (vc:Nat):Prop where
 st:bI w sb so cs T D no nc
 sc:Bx w cb V vo vc
 t1:T≠93
 t2:T≠3
 args:aZ w D fun g=>P g∧¬rowOf vo g
theorem aR {w:World} {b:Nat} {S S':TypeId} {sz:Nat} {o:Option Addr} {n cap:Nat} {xs:List Value} (h:w.ownsRow b S sz (.slice o n cap) n xs) {g:Nat} {ys:Array Value} (hg:w.heap[g]?=some (.cells ys S' (0,0))) (hne:S'≠S):¬rowOf o g:=by
 rintro⟨p,rfl,rfl⟩
 rcases h.2 with⟨c,_⟩ | ⟨g,cp,cur,c,_,hc,_⟩
 ·cases c
 ·simp only[Value.slice.injEq,Option.some.injEq]at c
  obtain⟨rfl,_⟩:=c
  rw[hc]at hg
  simp only[Option.some.injEq,Obj.cells.injEq]at hg
  exact hne hg.2.1.symm
theorem aI {o:Option Addr} {n cap g:Nat} (q:(Value.slice o n cap).ownBlock=some g):rowOf o g:=by
 cases o with
 | none=>simp[Value.ownBlock]at q
 | some a=>simp[Value.ownBlock]at q;exact⟨a,rfl,q.symm⟩
theorem bX {o:Option Addr} {n cap g:Nat} (q:¬rowOf o g):some g≠(Value.slice o n cap).ownBlock:=iY fun p hp e=>q ⟨p,hp,e⟩
theorem aK {w:World} {b:Nat} {S:TypeId} {sz:Nat} {o:Option Addr} {n cap:Nat} {xs:List Value} (h:w.ownsRow b S sz (.slice o n cap) n xs) {g:Nat} (hg:rowOf o g):∃cur,w.heap[g]?=some (.cells cur S (0,0)):=by
 obtain⟨p,rfl,rfl⟩:=hg
 rcases h.2 with⟨c,_⟩ | ⟨g,cp,cur,c,_,hc,_⟩
 ·cases c
 ·simp only[Value.slice.injEq,Option.some.injEq]at c
  obtain⟨rfl,_⟩:=c
  exact⟨cur,hc⟩
section
variable {P:Nat→Prop} {w:World} {sb so:Nat} {cs:Array Value} {T:TypeId} {cb:Nat} {D:List Ng} {V:List Nat} {no:Option Addr} {nc:Nat} {vo:Option Addr} {vc:Nat}
theorem Bx.below {w':World} (h:Bx w cb V vo vc) (hb:Below w.heap.size w w'):Bx w' cb V vo vc:=
 ⟨(hb.block cb (ag h.blk)).trans h.blk,ai h.own (fun g q=>hb.block g (h.own.lt g q).2)⟩
theorem fK.below {w':World} (h:fK P w sb so cs T cb D V no nc vo vc) (hb:Below w.heap.size w w'):fK P w' sb so cs T cb D V no nc vo vc:=
 ⟨h.st.below hb,h.sc.below hb,h.t1,h.t2,h.args.below hb⟩
theorem fK.ne (h:fK P w sb so cs T cb D V no nc vo vc):sb≠cb:=fun e=>by
 have h1:=h.st.blk
 rw[e,h.sc.blk]at h1
 simp only[Option.some.injEq,Obj.cells.injEq]at h1
 exact h.t1 h1.2.1.symm
theorem fK.rows (h:fK P w sb so cs T cb D V no nc vo vc):∀k,b9 sb no cb vo k→k<w.heap.size:=by
 rintro k (rfl | ⟨p,rfl,rfl⟩ | rfl | ⟨p,rfl,rfl⟩)
 ·exact ag h.st.blk
 ·exact(h.st.own.lt p.block rfl).2
 ·exact ag h.sc.blk
 ·exact(h.sc.own.lt p.block rfl).2
theorem fK.node {W w1:World} (h:fK P w sb so cs T cb D V no nc vo vc) (_hP:∀g,w.heap.size≤g→P g) (si:so<cs.size) (hW:Below w.heap.size w W) {g cap':Nat} {d:Ng}
 (hown:w1.ownsRow 0 180 7 (.slice (some ⟨g,0,none⟩) (D.length+1) cap') (D.length+1) (kA D++n6 d)) (hg:W.grownBy w1 (Value.slice no D.length nc).ownBlock) (hat:rowOf no g∨w.heap.size≤g)
 (hd:d.args≠[]→∃(q:Nat) (xs:Array Value),d.ao=some ⟨q,0,none⟩∧P q∧¬rowOf vo q∧q<w.heap.size∧w.heap[q]?=some (.cells xs 3 (0,0))∧xs.toList.take d.args.length=d.args.map aM):
 fK P (w1.setCell ⟨sb,so,none⟩ (.slice (some ⟨g,0,none⟩) (D.length+1) cap')) sb so (cs.setIfInBounds so (.slice (some ⟨g,0,none⟩) (D.length+1) cap')) T cb (D++[d]) V (some ⟨g,0,none⟩) cap' vo vc∧au (b9 sb no cb vo) (b9 sb (some ⟨g,0,none⟩) cb vo) w (w1.setCell ⟨sb,so,none⟩ (.slice (some ⟨g,0,none⟩) (D.length+1) cap')):=by
 have hz:=hW.size
 have s0:=ag h.st.blk
 have c0:=ag h.sc.blk
 have keep:∀k,k<w.heap.size→k≠sb→¬rowOf no k→(w1.setCell ⟨sb,so,none⟩ (.slice (some ⟨g,0,none⟩) (D.length+1) cap')).heap[k]?=w.heap[k]?:=fun k h1 h2 h3=>by
  rw[aJ _ _ _ _ h2,hg.block k (by omega) (bX h3),hW.block k h1]
 have nsb:¬rowOf no sb:=aR h.st.own h.st.blk h.st.ty
 have ncb:¬rowOf no cb:=aR h.st.own h.sc.blk (by decide)
 have gsb:g≠sb:=fun e=>by
  rcases hat with q | q
  ·exact nsb (e ▸ q)
  ·omega
 have row:∀k,b9 sb (some ⟨g,0,none⟩) cb vo k→b9 sb no cb vo k∨w.heap.size≤k:=by
  rintro k (e | ⟨p,q,e⟩ | e | e)
  ·exact Or.inl (Or.inl e)
  ·cases q
   dsimp only at e
   subst e
   rcases hat with q | q
   ·exact Or.inl (Or.inr (Or.inl q))
   ·exact Or.inr q
  ·exact Or.inl (Or.inr (Or.inr (Or.inl e)))
  ·exact Or.inl (Or.inr (Or.inr (Or.inr e)))
 have fZ:∀(k:Nat) (ys:Array Value) (S:TypeId),w.heap[k]?=some (.cells ys S (0,0))→S≠T→S≠180→(w1.setCell ⟨sb,so,none⟩ (.slice (some ⟨g,0,none⟩) (D.length+1) cap')).heap[k]?=some (.cells ys S (0,0)):=fun k ys S hk h1 h2=>(keep k (ag hk) (fun e=>by
  rw[e,h.st.blk]at hk
  simp only[Option.some.injEq,Obj.cells.injEq]at hk
  exact h1 hk.2.1.symm) (aR h.st.own hk h2)).trans hk
 refine⟨⟨⟨?_,?_,?_,h.st.ty⟩,⟨fZ cb _ _ h.sc.blk (Ne.symm h.t1) (by decide),ai h.sc.own fun k q=> ?_⟩,h.t1,h.t2,?_⟩,⟨hg.os.trans hW.os,hg.tape.trans hW.tape,hg.output.trans hW.output,by rw[cL];have:=hg.size;omega,fun k hk hr=>keep k hk (fun e=>hr (Or.inl e)) (fun q=>hr (Or.inr (Or.inl q))),row⟩⟩
 ·have q0:w1.heap[sb]?=some (.cells cs T (0,0)):=by
   rw[hg.block sb (by omega) (bX nsb),hW.block sb s0]
   exact h.st.blk
  exact aA q0 so _
 ·rw[Array.getElem?_setIfInBounds,if_pos rfl,if_pos si]
  simp
 ·rw[G5,List.length_append]
  exact ai hown (fun k q=>aJ _ _ _ _ (by simp[Value.ownBlock]at q;omega))
 ·obtain⟨cur,hc⟩:=aK h.sc.own (aI q)
  exact(fZ k _ _ hc (Ne.symm h.t2) (by decide)).trans hc.symm
 ·intro d' Py hne
  rcases List.mem_append.1 Py with q | q
  ·obtain⟨r,xs,h1,h2,h3,h4⟩:=h.args d' q hne
   exact⟨r,xs,h1,h2,fZ r _ _ h3 (Ne.symm h.t2) (by decide),h4⟩
  ·obtain rfl:d'=d:=by simpa using q
   obtain⟨r,xs,h1,h2,h3,h4,h5,h6⟩:=hd hne
   exact⟨r,xs,h1,⟨h2,h3⟩,fZ r _ _ h5 (Ne.symm h.t2) (by decide),h6⟩
theorem fK.U8 {W w1:World} (h:fK P w sb so cs T cb D V no nc vo vc) (hW:Below w.heap.size w W) {g cap' n:Nat}
 (hown:w1.ownsRow 0 3 1 (.slice (some ⟨g,0,none⟩) (V.length+1) cap') (V.length+1) (V.map aM++[aM n])) (hg:W.grownBy w1 (Value.slice vo V.length vc).ownBlock) (hat:rowOf vo g∨w.heap.size≤g):
 fK P (w1.setCell ⟨cb,0,none⟩ (.slice (some ⟨g,0,none⟩) (V.length+1) cap')) sb so cs T cb D (V++[n]) no nc (some ⟨g,0,none⟩) cap'∧au (b9 sb no cb vo) (b9 sb no cb (some ⟨g,0,none⟩)) w (w1.setCell ⟨cb,0,none⟩ (.slice (some ⟨g,0,none⟩) (V.length+1) cap')):=by
 have hz:=hW.size
 have s0:=ag h.st.blk
 have c0:=ag h.sc.blk
 have keep:∀k,k<w.heap.size→k≠cb→¬rowOf vo k→(w1.setCell ⟨cb,0,none⟩ (.slice (some ⟨g,0,none⟩) (V.length+1) cap')).heap[k]?=w.heap[k]?:=fun k h1 h2 h3=>by
  rw[aJ _ _ _ _ h2,hg.block k (by omega) (bX h3),hW.block k h1]
 have ncb:¬rowOf vo cb:=aR h.sc.own h.sc.blk (by decide)
 have gcb:g≠cb:=fun e=>by
  rcases hat with q | q
  ·exact ncb (e ▸ q)
  ·omega
 have row:∀k,b9 sb no cb (some ⟨g,0,none⟩) k→b9 sb no cb vo k∨w.heap.size≤k:=by
  rintro k (e | e | e | ⟨p,q,e⟩)
  ·exact Or.inl (Or.inl e)
  ·exact Or.inl (Or.inr (Or.inl e))
  ·exact Or.inl (Or.inr (Or.inr (Or.inl e)))
  ·cases q
   dsimp only at e
   subst e
   rcases hat with q | q
   ·exact Or.inl (Or.inr (Or.inr (Or.inr q)))
   ·exact Or.inr q
 have fZ:∀(k:Nat) (ys:Array Value) (S:TypeId),w.heap[k]?=some (.cells ys S (0,0))→S≠93→S≠3→(w1.setCell ⟨cb,0,none⟩ (.slice (some ⟨g,0,none⟩) (V.length+1) cap')).heap[k]?=some (.cells ys S (0,0)):=fun k ys S hk h1 h2=>(keep k (ag hk) (fun e=>by
  rw[e,h.sc.blk]at hk
  simp only[Option.some.injEq,Obj.cells.injEq]at hk
  exact h1 hk.2.1.symm) (aR h.sc.own hk h2)).trans hk
 refine⟨⟨⟨fZ sb _ _ h.st.blk h.t1 h.t2,h.st.cel,ai h.st.own fun k q=> ?_,h.st.ty⟩,⟨?_,?_⟩,h.t1,h.t2,?_⟩,⟨hg.os.trans hW.os,hg.tape.trans hW.tape,hg.output.trans hW.output,by rw[cL];have:=hg.size;omega,fun k hk hr=>keep k hk (fun e=>hr (Or.inr (Or.inr (Or.inl e)))) (fun q=>hr (Or.inr (Or.inr (Or.inr q)))),row⟩⟩
 ·obtain⟨cur,hc⟩:=aK h.st.own (aI q)
  exact(fZ k _ _ hc (by decide) (by decide)).trans hc.symm
 ·have q0:w1.heap[cb]?=some (.cells #[.slice vo V.length vc] 93 (0,0)):=by
   rw[hg.block cb (by omega) (bX ncb),hW.block cb c0]
   exact h.sc.blk
  have:=aA q0 0 (.slice (some ⟨g,0,none⟩) (V.length+1) cap')
  simpa using this
 ·rw[List.length_append,List.map_append]
  exact ai hown (fun k q=>aJ _ _ _ _ (by simp[Value.ownBlock]at q;omega))
 ·intro d' Py hne
  obtain⟨r,xs,h1,⟨h2,h2'⟩,h3,h4⟩:=h.args d' Py hne
  refine⟨r,xs,h1,⟨h2,?_⟩,(keep r (ag h3) (fun e=>by
   rw[e,h.sc.blk]at h3
   simp only[Option.some.injEq,Obj.cells.injEq]at h3
   exact absurd h3.2.1 (by decide)) h2').trans h3,h4⟩
  rintro⟨p,q,e⟩
  cases q
  dsimp only at e
  subst e
  rcases hat with q | q
  ·exact h2' q
  ·have:=ag h3;omega
end
end Go.Proofs.YthfjnfcekeknlaaGreatDoor
namespace Go.Proofs.YthfjnfcekeknlaaGreatDoor
open Go.RowKit
theorem Hv (w:World) (sb so cb:Nat) (V:List Nat) (vo:Option Addr) (vc:Nat) (i:Nat) (h:Bx w cb V vo vc) (hi:i<V.length):
 Calls Tryz.prog 94 #[.pointer (some ⟨sb,so,none⟩),.int .i64 (i:Int),.pointer (some ⟨cb,0,none⟩)] w fun e w'=>e= .returned (aM V[i])∧w'=w:=by
 have c0:=ah h.blk 0
 have cz:=ag h.blk
 simp only[List.getElem?_toArray,List.getElem?_cons_zero]at c0
 obtain⟨g,hg⟩:∃g,vo=some ⟨g,0,none⟩:=by
  rcases h.own.2 with⟨q,q2⟩ | ⟨g,cp,cur,q,_⟩
  ·omega
  ·simp only[Value.slice.injEq]at q
   exact⟨g,q.1⟩
 subst hg
 have f0:w.cell? ⟨g,i,none⟩=some (.int .i64 (V[i]:Int)):=by
  rw[h.own.cellAt i (by omega),List.getElem?_map,List.getElem?_eq_getElem hi]
  rfl
 have gz:=(h.own.lt g rfl).2
 have i0:(0:Int)≤(i:Int):=by omega
 have i1:(i:Int)<(V.length:Int):=by omega
 have t1:decide ((V.length:Int)≤(i:Int))=false:=by simp;omega
 have t2:decide ((i:Int)<0)=false:=by simp
 clear h
 generalize V[i]=n at*
 go_enter Tryz.func94,Tryz.ntmps94
 go_wp2_with fail
 refine wp_loop_rounds 1 ?_
 rw[rounds_succ]
 go_wp2_with fail
 go_ret
 exact⟨rfl,rfl⟩
def tH (n:Nat):Ng:=⟨1,0,⟨#[]⟩,0,none,0,[],n,0⟩
theorem Hw (P:Nat→Prop) (w:World) (sb so:Nat) (cs:Array Value) (T:TypeId) (cb:Nat) (D:List Ng) (V:List Nat) (no:Option Addr) (nc:Nat) (vo:Option Addr) (vc:Nat) (h:fK P w sb so cs T cb D V no nc vo vc) (hP:∀g,w.heap.size≤g→P g) (hd:D.length≤1000000000) (hv:V.length≤1000000000):
 Calls Tryz.prog 94 #[.pointer (some ⟨sb,so,none⟩),.int .i64 (V.length:Int),.pointer (some ⟨cb,0,none⟩)] w fun e w'=>e= .returned (aM D.length)∧∃no' nc' vo' vc',fK P w' sb so (cs.setIfInBounds so (.slice no' (D.length+1) nc')) T cb (D++[tH D.length]) (V++[D.length]) no' nc' vo' vc'∧au (b9 sb no cb vo) (b9 sb no' cb vo') w w':=by
 obtain⟨ti,hi,hz0,hz1,hz2⟩:=info_parts infoNd
 obtain⟨tj,hj,iM,iN,iO⟩:=info_parts infoIn
 have s0:=h.st.cell
 have sz:=ag h.st.blk
 have c0:=ah h.sc.blk 0
 have cz:=ag h.sc.blk
 simp only[List.getElem?_toArray,List.getElem?_cons_zero]at c0
 have hne:=h.ne
 have si:so<cs.size:=by
  have:=h.st.cel
  exact(Array.getElem?_eq_some_iff.1 this).1
 have H:=af h
 have HP:=af hP
 have Hx:=af si
 have t1:decide ((V.length:Int)≤(V.length:Int))=true:=by simp
 have t2:decide ((V.length:Int)<0)=false:=by simp
 have t3:decide ((V.length:Int)+1≤(V.length:Int))=false:=by simp;omega
 have i0:(0:Int)≤(V.length:Int):=by omega
 have i1:(V.length:Int)<(V.length:Int)+1:=by omega
 have n1:sb≠cb:=hne
 have n2:cb≠sb:=Ne.symm hne
 have sZ:=af (show some sb≠(Value.slice no D.length nc).ownBlock from bX (aR h.st.own h.st.blk h.st.ty))
 have WC:=af (show some cb≠(Value.slice no D.length nc).ownBlock from bX (aR h.st.own h.sc.blk (by decide)))
 have U9:=af (show some cb≠(Value.slice vo V.length vc).ownBlock from bX (aR h.sc.own h.sc.blk (by decide)))
 clear h hP si
 go_enter Tryz.func94,Tryz.ntmps94
 go_wp2_with fail
 refine wp_loop_rounds 2 ?_
 rw[rounds_succ]
 go_wp2_with (first | (at_builtin;go_loud ((refine wpList_append_own_at _ rfl (.tmp 36) (.tmp 38) 25 rfl 0 3 tj (.int .i64 0) 1 8 Tryz.underlying25 hj iM iN iO rfl (by decide) _ V.length (V.map aM) rfl ((ae HN).1.sc.own.alloc _) ⟨w7.heap.size,0,none⟩ 1 1 [.int .i64 (D.length:Int)] rfl rfl (iZ _ _ _ _ (by rw[cL])) (by simp[Value.oneCell']) (by unfold maxLen;omega) (by omega) (Nat.zero_le _) ?_);(intro v2 w9 hown2 hgrow2 _ Pz;obtain⟨g2,cap2,hv2,-⟩:=fk hown2;subst hv2;have HM:=af ((ae HN).1.U8 ((Below.refl _ _).alloc (Nat.le_refl _) _) (n:=D.length) hown2 hgrow2 (by rcases Pz with q | q;exact Or.inl (aI q.symm);(right;simp only[Value.ownBlock,World.size_alloc,cL,Option.some.injEq]at q⊢;omega)));have m0:=(hgrow2.cell_far ⟨cb,0,none⟩ (by simp only[World.size_alloc,cL];omega) (ae U9)).trans ((World.cell?_alloc_past _ _ _ (by rw[cL];exact zz7)).trans ((World.cell?_setCell_other _ _ _ _ (by intro e;first | exact n1 (congrArg Addr.block e) | exact n2 (congrArg Addr.block e))).trans k0));have m1:w9.frozen? ⟨cb,0,none⟩=false:=(by have:=ay (ae HM).1.sc.blk 0;rwa [World.frozen?_setCell]at this);have m2:w9.cell? ⟨g2,V.length,none⟩=some (.int .i64 (D.length:Int)):=(hown2.cellAt V.length (by omega)).trans (by simp);have mz:=(hown2.lt g2 rfl);have hcw:=ag (ae HM).1.sc.blk;have mne:cb≠g2:=(fun e=>aR (ae HM).1.sc.own (ae HM).1.sc.blk (by decide) ⟨_,rfl,e⟩);clear hown2 hgrow2 Pz))) | (at_builtin;go_must (refine wpList_append_own_at _ rfl (.tmp 24) (.tmp 28) 86 rfl 0 180 ti (.agg #[.int .i64 0,.int .i64 0,.string ⟨#[]⟩,.int .i64 0,.slice none 0 0,.int .i64 0,.int .i64 0]) 7 80 Tryz.underlying86 hi hz0 hz1 hz2 rfl (by decide) _ D.length (kA D) rfl ((ae H).st.own.alloc _) ⟨w.heap.size,0,none⟩ 1 1 [.int .i64 1,.int .i64 0,.string ⟨#[]⟩,.int .i64 0,.slice none 0 0,.int .i64 (D.length:Int),.int .i64 0] rfl rfl (SG _ _ _ _ _ rfl rfl) (by simp[Value.oneCell']) (by unfold maxLen;omega) (by omega) (Nat.zero_le _) ?_);go_must (intro v' w7 hown' hgrow _ hat;obtain⟨g',cap',hv',-⟩:=fk hown';subst hv';have HN:=af ((ae H).node (ae HP) (ae Hx) ((Below.refl _ _).alloc (Nat.le_refl _) _) (d:=tH D.length) hown' hgrow (by rcases hat with q | q;exact Or.inl (aI q.symm);(right;simp[Value.ownBlock]at q;omega)) (fun q=>absurd rfl q));have k0:=(hgrow.cell_far ⟨cb,0,none⟩ (by simp;omega) (ae WC)).trans ((World.cell?_alloc_past _ _ _ cz).trans c0);have k1:=(hgrow.cell_far ⟨sb,so,none⟩ (by simp;omega) (ae sZ)).trans ((World.cell?_alloc_past _ _ _ sz).trans s0);have k3:w7.frozen? ⟨sb,so,none⟩=false:=(by have:=ay (ae HN).1.st.blk so;rwa [World.frozen?_setCell]at this);have zz7:cb<w7.heap.size:=(by have:=ag (ae HN).1.sc.blk;rwa [cL]at this);have zz8:sb<w7.heap.size:=(by have:=ag (ae HN).1.st.blk;rwa [cL]at this);clear hown' hgrow hat)))
 rw[rounds_succ]
 go_wp2_with fail
 go_ret
 exact⟨rfl,_,_,_,_,(ae HM).1,(ae HN).2.trans (ae HM).2⟩
theorem Mt {α β:Type} {R:α→β→Prop}:∀{xs:List α} {ys:List β},bR R xs ys→∀(i:Nat) (h:i<xs.length) (h':i<ys.length),R xs[i] ys[i]
 | _ :: _,_ :: _,q,0,_,_=>q.1
 | _ :: _,_ :: _,q,i+1,h,h'=>Mt q.2 i (by simpa using h) (by simpa using h')
theorem NV {us:List AV} {i:Nat} (h:i<us.length) (j:Nat) (hj:j<4):(us.flatMap gM)[i*4+j]?=(gM us[i])[j]?:=qJ (F:=gM) (c:=4) (fun _=>rfl) h j hj
def tI (D:List Ng) (V:List Nat) (N:List (List UInt8)):Nat→Nat→Za.Tm→Prop
 | 0,_,_=>False
 | f+1,n,t=>(t.kind=3→V[N.idxOf t.text.toList]?=some n)∧(t.kind≠3→∃d,D[n]?=some d∧d.nx=n∧d.k=ak t.kind∧(t.kind=4→d.val=(Za.numOf t.text:Int))∧(t.kind=2→d.tx=t.text)∧bR (tI D V N f) d.args t.args)
theorem tI.more {D E:List Ng} {V F:List Nat} {N:List (List UInt8)}:∀{f n:Nat} {t:Za.Tm},tI D V N f n t→tI (D++E) (V++F) N f n t
 | f+1,n,t,⟨h1,h2⟩=>⟨fun k=>by have:=h1 k;rw[List.getElem?_append_left (List.getElem?_eq_some_iff.1 this).1];exact this,fun k=>by
  obtain⟨d,q1,q2,q3,q4,q5,q6⟩:=h2 k
  exact⟨d,by rw[List.getElem?_append_left (List.getElem?_eq_some_iff.1 q1).1];exact q1,q2,q3,q4,q5,q6.imp fun _ _=>tI.more⟩⟩
def dJ (b:Nat) (E:List Ng):Prop:=∀(i:Nat) (d:Ng),E[i]?=some d→d.nx=b+i∧d.mrk=0∧gH (b+i) d∧d.tx.size≤240∧0≤d.val∧d.val≤1000000000
theorem dJ.app {b:Nat} {E E2:List Ng} (h:dJ b E) (h2:dJ (b+E.length) E2):dJ b (E++E2):=fun i d hd=>by
 by_cases q:i<E.length
 ·rw[List.getElem?_append_left q]at hd
  exact h i d hd
 ·rw[List.getElem?_append_right (by omega)]at hd
  have:=h2 _ d hd
  rw[show b+E.length+(i - E.length)=b+i by omega]at this
  exact this
theorem dJ.one {b:Nat} {d:Ng} (h:d.nx=b∧d.mrk=0∧gH b d∧d.tx.size≤240∧0≤d.val∧d.val≤1000000000):dJ b [d]:=fun i e he=>by
 cases i with
 | zero=>simp at he;subst he;simpa using h
 | succ i=>simp at he
structure fF (b:Nat) (E:List Ng) (F:List Nat):Prop where
 var:∀n∈F,b≤n∧∃d,E[n - b]?=some d∧d.k=1
 ord:F.Pairwise (·<·)
theorem fF.app {b:Nat} {E E2:List Ng} {F F2:List Nat} (h:fF b E F) (h2:fF (b+E.length) E2 F2):fF b (E++E2) (F++F2):=by
 refine⟨fun n hn=> ?_,?_⟩
 ·rcases List.mem_append.1 hn with q | q
  ·obtain⟨h1,d,h3,h4⟩:=h.var n q
   exact⟨h1,d,by rw[List.getElem?_append_left (List.getElem?_eq_some_iff.1 h3).1];exact h3,h4⟩
  ·obtain⟨h1,d,h3,h4⟩:=h2.var n q
   refine⟨by omega,d,?_,h4⟩
   rw[List.getElem?_append_right (by omega),show n - b - E.length=n - (b+E.length)by omega]
   exact h3
 ·rw[List.pairwise_append]
  refine⟨h.ord,h2.ord,fun x hx y hy=> ?_⟩
  obtain⟨h1,d,h3,_⟩:=h.var x hx
  obtain⟨h4,_⟩:=h2.var y hy
  have:=(List.getElem?_eq_some_iff.1 h3).1
  omega
theorem fF.nil (b:Nat) (E:List Ng):fF b E []:=⟨(fun n hn=>by cases hn),List.Pairwise.nil⟩
theorem fF.last {b:Nat} {E:List Ng} {F:List Nat} (h:fF b E F) (d:Ng):fF b (E++[d]) F:=by
 have:=h.app (fF.nil (b+E.length) [d])
 rwa [List.append_nil]at this
def DY (P:Nat→Prop) (sb so:Nat) (cs:Array Value) (T:TypeId) (cb:Nat) (D:List Ng) (V:List Nat) (no:Option Addr) (vo:Option Addr) (N ns:List (List UInt8)) (f:Nat) (t:Za.Tm) (w:World) (e:Ending) (w':World):Prop:=
 ∃(n:Nat) (E:List Ng) (F:List Nat) (no':Option Addr) (nc':Nat) (vo':Option Addr) (vc':Nat),e= .returned (aM n)∧fK P w' sb so (cs.setIfInBounds so (.slice no' (D++E).length nc')) T cb (D++E) (V++F) no' nc' vo' vc'∧dJ D.length E∧fF D.length E F∧(V++F).length=(Za.namesF f ns t).length∧tI (D++E) (V++F) N f n t∧n<(D++E).length∧E.length+1≤3 ^ f∧au (b9 sb no cb vo) (b9 sb no' cb vo') w w'
def Hy (f:Nat):Prop:=∀(P:Nat→Prop) (w:World) (sb so:Nat) (cs:Array Value) (T:TypeId) (cb:Nat) (D:List Ng) (V:List Nat) (no:Option Addr) (nc:Nat) (vo:Option Addr) (vc:Nat) (N ns:List (List UInt8)) (Q:Nat→Prop) (a:AV) (t:Za.Tm),fK P w sb so cs T cb D V no nc vo vc→(∀g,w.heap.size≤g→P g)→T≠76→(∀n∈V,n<D.length)→RA f N Q w a t→Za.wfK f t→V.length=ns.length→(∃M,N=Za.namesF f ns t++M)→D.length+3 ^ f≤1000000000→V.length+3 ^ f≤1000000000→
 Calls Tryz.prog 54 #[.pointer (some ⟨sb,so,none⟩),.agg #[.int .i64 a.k,.int .i64 a.val,.string a.tx,.slice a.ao a.n a.cap],.pointer (some ⟨cb,0,none⟩)] w fun e w'=>DY P sb so cs T cb D V no vo N ns f t w e w'
theorem PA (f:Nat) (P:Nat→Prop) (w:World) (sb so:Nat) (cs:Array Value) (T:TypeId) (cb:Nat) (D:List Ng) (V:List Nat) (no:Option Addr) (nc:Nat) (vo:Option Addr) (vc:Nat) (N ns:List (List UInt8)) (a:AV) (t:Za.Tm) (h:fK P w sb so cs T cb D V no nc vo vc) (hP:∀g,w.heap.size≤g→P g) (hV:∀n∈V,n<D.length) (ha:lT N a t) (_hw:Za.wfK (f+1) t) (ka:t.kind=3) (hv:V.length=ns.length) (hN:∃M,N=Za.namesF (f+1) ns t++M) (hd:D.length+3 ^ (f+1)≤1000000000) (jF:V.length+3 ^ (f+1)≤1000000000):
 Calls Tryz.prog 54 #[.pointer (some ⟨sb,so,none⟩),.agg #[.int .i64 a.k,.int .i64 a.val,.string a.tx,.slice a.ao a.n a.cap],.pointer (some ⟨cb,0,none⟩)] w fun e w'=>DY P sb so cs T cb D V no vo N ns (f+1) t w e w':=by
 have hp:3≤3 ^ (f+1):=by rw[Nat.pow_succ];have:1≤3 ^ f:=Nat.one_le_pow _ _ (by omega);omega
 have Bz:Za.namesF (f+1) ns t=Za.eK ns t.text.toList:=by unfold Za.namesF;rw[if_pos ka]
 rw[Bz]at hN
 obtain⟨M,hM⟩:=hN
 obtain⟨h1,h2,h3,h4,h5,h6,h7,h8⟩:=ha
 obtain⟨h9,h10⟩:=h3 ka
 obtain⟨k,val,tx,ao,n,cp⟩:=a
 dsimp only at h1 h2 h10⊢
 have e1:ak t.kind=1:=by rw[ka];rfl
 have hB:=(Below.refl w.heap.size w).alloc (Nat.le_refl _) (.cells #[.int .i64 k,.int .i64 val,.string tx,.slice ao n cp] 76)
 have HW:=af (h.below hB)
 rw[e1]at h1
 subst h1 h10
 have hcs:∀(cs:Array Value) (so:Nat) (v:Value),cs[so]?=some v→cs.setIfInBounds so v=cs:=fun cs so v q=>by
  apply Array.ext (by simp)
  intro i h1 h2
  rw[Array.getElem_setIfInBounds]
  ·split
   ·rename_i e
    subst e
    exact(Array.getElem?_eq_some_iff.1 q).2.symm
   ·rfl
 by_cases hx:t.text.toList∈ns
 ·have qx:N.idxOf t.text.toList=ns.idxOf t.text.toList:=by
   rw[hM]
   unfold Za.eK
   rw[if_pos hx,List.idxOf_append,if_pos hx]
  have hlt:N.idxOf t.text.toList<V.length:=by rw[qx,hv];exact List.idxOf_lt_length_of_mem hx
  have HI:=af (Hv _ sb so cb V vo vc (N.idxOf t.text.toList) (ae HW).sc hlt)
  have dE:=af (show DY P sb so cs T cb D V no vo N ns (f+1) t w (.returned (aM V[N.idxOf t.text.toList])) (w.alloc (.cells #[.int .i64 1,.int .i64 (N.idxOf t.text.toList:Int),.string tx,.slice ao n cp] 76))from by
   refine⟨V[N.idxOf t.text.toList],[],[],no,nc,vo,vc,rfl,?_,(fun i d hd=>by simp at hd),fF.nil _ _,?_,?_,?_,by simp;omega,au.aw hB⟩
   ·have:=hcs cs so _ h.st.cel
    simp only[List.append_nil]
    rw[this]
    exact ae HW
   ·rw[Bz];unfold Za.eK;rw[if_pos hx];simpa using hv
   ·exact⟨fun _=>by simp,fun q=>absurd ka q⟩
   ·simpa using hV _ (List.getElem_mem hlt))
  clear h hP hV h2 h3 h4 h5 h6 h7 h8 h9 hB hcs
  generalize Mu:V[N.idxOf t.text.toList]=m at*
  generalize WD:N.idxOf t.text.toList=ix at*
  clear Mu WD qx hv hM
  go_enter Tryz.func54,Tryz.ntmps54
  go_wp2_with fail
  refine(ae HI).mono ?_
  rintro e w2 ⟨rfl,hw2⟩
  rw[hw2]
  clear hw2 w2
  unfold aM at dE⊢
  go_wp2_with fail
  go_ret
  exact ae dE
 ·have qx:N.idxOf t.text.toList=V.length:=by
   rw[hM,hv]
   unfold Za.eK
   rw[if_neg hx,List.append_assoc,List.idxOf_append,if_neg hx]
   simp
  rw[qx]at HW hB⊢
  have HI:=af (Hw P _ sb so cs T cb D V no nc vo vc (ae HW) (fun g q=>hP g (by simp at q;omega)) (by omega) (by omega))
  have dE:=af (show∀w2,(∃no' nc' vo' vc',fK P w2 sb so (cs.setIfInBounds so (.slice no' (D.length+1) nc')) T cb (D++[tH D.length]) (V++[D.length]) no' nc' vo' vc'∧au (b9 sb no cb vo) (b9 sb no' cb vo') (w.alloc (.cells #[.int .i64 1,.int .i64 (V.length:Int),.string tx,.slice ao n cp] 76)) w2)→DY P sb so cs T cb D V no vo N ns (f+1) t w (.returned (aM D.length)) w2 from fun w2 ⟨no',nc',vo',vc',q1,q2⟩=>by
   refine⟨D.length,[tH D.length],[D.length],no',nc',vo',vc',rfl,by rw[List.length_append];exact q1,dJ.one ⟨rfl,rfl,⟨Or.inl rfl,fun _=>⟨rfl,rfl,rfl,rfl⟩,(fun q=>by cases q),(fun q=>by cases q),fun a ha=>by cases ha⟩,by simp[tH,ByteArray.size],by simp[tH],by simp[tH]⟩,⟨fun n hn=> ?_,by simp⟩,?_,?_,by simp,by simp;omega,(au.aw hB).trans q2⟩
   ·obtain rfl:n=D.length:=by simpa using hn
    exact⟨Nat.le_refl _,tH D.length,by simp,rfl⟩
   ·rw[Bz];unfold Za.eK;rw[if_neg hx];simp[hv]
   ·exact⟨fun _=>by rw[qx];simp,fun q=>absurd ka q⟩)
  clear h hP hV h2 h3 h4 h5 h6 h7 h8 h9 qx hv hM hB hcs
  go_enter Tryz.func54,Tryz.ntmps54
  go_wp2_with fail
  refine(ae HI).mono ?_
  rintro e w2 ⟨rfl,hs2⟩
  have HF:=af (ae dE w2 hs2)
  clear hs2
  unfold aM at HF⊢
  go_wp2_with fail
  go_ret
  exact ae HF
end Go.Proofs.YthfjnfcekeknlaaGreatDoor
