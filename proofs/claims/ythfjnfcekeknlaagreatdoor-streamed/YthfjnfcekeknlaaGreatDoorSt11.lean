import Derived.Test.YthfjnfcekeknlaaGreatDoorSt03
import Derived.Test.YthfjnfcekeknlaaGreatDoorSt06
import Derived.Deep.AppendLies
import Derived.Deep.RegionLaw
set_option maxHeartbeats 8000000
set_option maxRecDepth 100000
namespace Za
def qd (N:List Nat) (n:Nat):List Nat:=if n∈N then N else N++[n]
def bh (N:List Nat):List Vr:=N.map fun n=>([],n)
theorem DY {n m:Nat} (h:(([],n):Vr)=([],m)):n=m:=by injection h
theorem DZ {N:List Nat} {n:Nat}:(([],n):Vr)∈bh N↔n∈N:=by
 unfold bh
 constructor
 ·intro h
  obtain⟨m,hm,e⟩:=List.mem_map.1 h
  rw[DY e]at hm
  exact hm
 ·exact fun h=>List.mem_map_of_mem h
theorem D2 (N:List Nat) (n:Nat):bh (qd N n)=kE (bh N) ([],n):=by
 unfold qd kE
 by_cases h:n∈N
 ·rw[if_pos h,if_pos (DZ.2 h)]
 ·rw[if_neg h,if_neg (fun q=>h (DZ.1 q))]
  simp[bh]
theorem D3 (n:Nat):∀N,(bh N).idxOf ([],n)=N.idxOf n
 | []=>rfl
 | m :: N=>by
  have ih:=D3 n N
  unfold bh at ih⊢
  rw[List.map_cons,List.idxOf_cons,List.idxOf_cons,ih]
  by_cases e:m=n
  ·subst e;simp
  ·have:(([],m):Vr)≠([],n):=fun q=>e (DY q)
   rw[beq_false_of_ne this,beq_false_of_ne e]
theorem y9 {n:Nat}:∀{N:List Nat} {j:Nat} (hj:j<N.length),N[j]=n→(∀i (_:i<N.length),i<j→N[i]≠n)→N.idxOf n=j
 | m :: N,0,_,he,_=>by rw[List.idxOf_cons];simp at he;simp[he]
 | m :: N,j+1,hj,he,hno=>by
  have h0:m≠n:=hno 0 (by simp) (by omega)
  have:=y9 (N:=N) (j:=j) (by simpa using hj) (by simpa using he) (fun i hi q=>by have:=hno (i+1) (by simpa using hi) (by omega);simpa using this)
  rw[List.idxOf_cons,this,beq_false_of_ne h0]
  rfl
theorem D4 (N:List Nat):(bh N).length=N.length:=by simp[bh]
end Za
namespace Go.Proofs.YthfjnfcekeknlaaGreatDoor
open Go.RowKit
structure eJ (w:World) (nb:Nat) (N:List Nat) (mo:Option Addr) (mc:Nat):Prop where
 blk:w.heap[nb]?=some (.cells #[.slice mo N.length mc] 123 (0,0))
 own:w.ownsRow 0 3 1 (.slice mo N.length mc) N.length (N.map aI)
def bf (nb:Nat) (mo:Option Addr) (k:Nat):Prop:=k=nb∨rowOf mo k
theorem eJ.apart {w:World} {nb:Nat} {N:List Nat} {mo:Option Addr} {mc:Nat} (h:eJ w nb N mo mc) {g:Nat} {xs:Array Value} {S:TypeId} (hg:w.heap[g]?=some (.cells xs S (0,0))) (h1:S≠123) (h2:S≠3):¬bf nb mo g:=by
 rintro(rfl | ⟨p,rfl,rfl⟩)
 ·have:=h.blk
  rw[hg]at this
  simp only[Option.some.injEq,Obj.cells.injEq]at this
  exact h1 this.2.1
 ·rcases h.own.2 with⟨c,_⟩ | ⟨g,cp,cur,c,_,hc,_⟩
  ·cases c
  ·simp only[Value.slice.injEq,Option.some.injEq]at c
   obtain⟨rfl,_⟩:=c
   rw[hc]at hg
   simp only[Option.some.injEq,Obj.cells.injEq]at hg
   exact h2 hg.2.1.symm
theorem eJ.below {w w':World} {nb:Nat} {N:List Nat} {mo:Option Addr} {mc:Nat} (h:eJ w nb N mo mc) (hb:Below w.heap.size w w'):eJ w' nb N mo mc:=
 ⟨(hb.block nb (af h.blk)).trans h.blk,ah h.own (fun g q=>hb.block g (h.own.lt g q).2)⟩
theorem eJ.rows {w:World} {nb:Nat} {N:List Nat} {mo:Option Addr} {mc:Nat} (h:eJ w nb N mo mc):∀k,bf nb mo k→k<w.heap.size:=by
 rintro k (rfl | ⟨p,rfl,rfl⟩)
 ·exact af h.blk
 ·exact(h.own.lt p.block rfl).2
theorem eJ.ne {w:World} {nb:Nat} {N:List Nat} {mo:Option Addr} {mc:Nat} (h:eJ w nb N mo mc):¬rowOf mo nb:=by
 rintro⟨p,rfl,e⟩
 rcases h.own.2 with⟨c,_⟩ | ⟨g,cp,cur,c,_,hc,_⟩
 ·cases c
 ·simp only[Value.slice.injEq,Option.some.injEq]at c
  obtain⟨rfl,_⟩:=c
  dsimp only at e
  have:=h.blk
  rw[e,hc]at this
  simp only[Option.some.injEq,Obj.cells.injEq]at this
  exact absurd this.2.1 (by decide)
def TP (nb:Nat) (N:List Nat) (mo:Option Addr) (n:Nat) (w:World) (e:Ending) (w':World):Prop:=
 ∃mo' mc',e= .returned (aI (N.idxOf n))∧eJ w' nb (Za.qd N n) mo' mc'∧aj (bf nb mo) (bf nb mo') w w'
theorem Ky (w:World) (nb:Nat) (N:List Nat) (mo:Option Addr) (mc:Nat) (n:Nat) (h:eJ w nb N mo mc) (hl:N.length≤1000000):
 Calls Tryz.prog 101 #[.pointer (some ⟨nb,0,none⟩),.int .i64 (n:Int)] w fun e w'=>TP nb N mo n w e w':=by
 have s0:=ag h.blk 0
 have sx:=aq h.blk 0
 have sz:=af h.blk
 simp only[List.getElem?_toArray,List.getElem?_cons_zero]at s0
 have H:=hide h
 obtain⟨ti,hi,hz0,hz1,hz2⟩:=info_parts infoIn
 have hcell:∀j (hj:j<N.length),∃g,mo=some ⟨g,0,none⟩∧g<w.heap.size∧w.cell? ⟨g,j,none⟩=some (.int .i64 (N[j]:Int)):=fun j hj=>by
  rcases h.own.2 with⟨_,q⟩ | ⟨g,cap,cur,q1,_,q3,_⟩
  ·omega
  ·simp only[Value.slice.injEq]at q1
   obtain⟨rfl,_,_⟩:=q1
   refine⟨g,rfl,af q3,?_⟩
   rw[h.own.cellAt j (by omega),List.getElem?_map,List.getElem?_eq_getElem hj]
   rfl
 have HC:=hide hcell
 have qx:=hide h.ne
 clear h hcell
 go_enter Tryz.func101,Tryz.ntmps101
 go_wp2_with fail
 go_loopg [12] N.length (fun k iv wr=>∃j:Nat,k+j=N.length∧iv= .int .i64 (j:Int)∧wr=w∧∀i (hi:i<N.length),i<j→N[i]≠n)
 case atStart=>exact⟨0,by omega,rfl,rfl,fun i _ q=>by omega⟩
 case round=>
  obtain⟨j,hkj,rfl,rfl,hno⟩:=hrel
  by_cases hlt:j<N.length
  ·obtain⟨g,rfl,gz,cj⟩:=ae HC j hlt
   have j0:(0:Int)≤(j:Int):=by omega
   have j1:(j:Int)<(N.length:Int):=by omega
   have aP:=hide hkj
   by_cases he:N[j]=n
   ·have di:=hide (show TP nb N (some ⟨g,0,none⟩) n wr (.returned (.int .i64 (j:Int))) wr from by
     have hmem:n∈N:=he ▸ List.getElem_mem hlt
     refine⟨some ⟨g,0,none⟩,mc,?_,?_,aj.of_below (Below.refl _ _)⟩
     ·have:N.idxOf n=j:=Za.y9 hlt he hno
      rw[this];rfl
     ·have:Za.qd N n=N:=by unfold Za.qd;rw[if_pos hmem]
      rw[this];exact ae H)
    rw[he]at cj
    clear he hno hkj
    go_wp2_with fail
    go_ret
    exact ae di
   ·have t1:(((N[j]:Nat):Int) == (n:Int))=false:=by simp;omega
    have gF:=hide (show∀i (hi:i<N.length),i<j+1→N[i]≠n from fun i hi q=>by
     by_cases e:i=j
     ·subst e;exact he
     ·exact hno i hi (by omega))
    generalize N[j]=na at*
    clear he hno hkj
    go_wp2_with fail
    go_roundg (gk - 1)
    case measure=>have:=ae aP;omega
    case rel=>exact⟨j+1,by have:=ae aP;omega,by go_num,rfl,ae gF⟩
  ·obtain rfl:j=N.length:=by omega
   have hmem:n∉N:=fun q=>by
    obtain⟨i,hi,e⟩:=List.getElem_of_mem q
    exact hno i hi hi e
   have HM:=hide (show Za.qd N n=N++[n]by unfold Za.qd;rw[if_neg hmem])
   have HI:=hide (show N.idxOf n=N.length from List.idxOf_eq_length hmem)
   clear hno hkj hmem
   go_wp2_with (first | (at_builtin;go_must (refine wpList_append_own_at _ rfl (.tmp 26) (.tmp 28) 25 rfl 0 3 ti (.int .i64 0) 1 8 Tryz.underlying25 hi hz0 hz1 hz2 rfl (by decide) _ N.length (N.map aI) rfl ((ae H).own.alloc _) ⟨wr.heap.size,0,none⟩ 1 1 [.int .i64 (n:Int)] rfl rfl (ie _ _ _ _ rfl) (by simp[Value.oneCell']) (by unfold maxLen;omega) (by omega) (by omega) ?_);go_must (intro v' w7 hown' hgrow _ hat;obtain⟨g',cap',hv,hcm⟩:=ed hown';subst hv;have mj:=hide hown';have HG:=hide hgrow;have rI:=hide (show (some g':Option Nat)=(Value.slice mo N.length mc).ownBlock∨(some g':Option Nat)=some (wr.heap.size+1)from (by rcases hat with q | q;exact Or.inl q;exact Or.inr (by rw[World.size_alloc]at q;exact q)));have b7:=(hgrow.block nb (by simp;omega) (iL fun p q e=>ae qx ⟨p,q,e⟩)).trans ((Below.heap_alloc _ _ _ sz).trans (ae H).blk);have ml:=hide b7;have c7:=ag b7 0;have x7:=aq b7 0;have z7:=af b7;simp only[List.getElem?_toArray,List.getElem?_cons_zero]at c7;clear hown' hgrow hat b7)))
   go_ret
   refine⟨some ⟨g',0,none⟩,cap',?_,⟨?_,?_⟩,?_⟩
   ·rw[ae HI]
    show Ending.returned (.int .i64 _)= .returned (.int .i64 _)
    congr 2
   ·have:=au (ae ml) 0 (.slice (some ⟨g',0,none⟩) (N.length+1) cap')
    rw[ae HM,List.length_append]
    simpa using this
   ·rw[ae HM,List.length_append,List.map_append]
    have hne:nb≠g':=fun e=>by
     rcases(ae mj).2 with⟨c,_⟩ | ⟨g,cp,cur,c,_,hc,_⟩
     ·cases c
     ·simp only[Value.slice.injEq,Option.some.injEq,Addr.mk.injEq]at c
      obtain⟨⟨rfl,_⟩,_⟩:=c
      have:=ae ml
      rw[e,hc]at this
      simp only[Option.some.injEq,Obj.cells.injEq]at this
      exact absurd this.2.1 (by decide)
    exact ah (ae mj) (fun k q=>aF _ _ _ _ (by simp[Value.ownBlock]at q;omega))
   ·have hz:=(ae HG).size
    refine⟨(ae HG).os,(ae HG).tape,(ae HG).output,by rw[cC];simp at hz;omega,fun k hk hr=> ?_,?_⟩
    ·rw[aF _ _ _ _ (fun e=>hr (Or.inl e)),(ae HG).block k (by simp;omega) (iL fun p q e=>hr (Or.inr ⟨p,q,e⟩)),Below.heap_alloc _ _ _ hk]
    ·rintro k (rfl | ⟨p,e1,rfl⟩)
     ·exact Or.inl (Or.inl rfl)
     ·cases e1
      rcases ae rI with e | e
      ·left;right
       cases mo with
       | none=>simp[Value.ownBlock]at e
       | some s=>simp[Value.ownBlock]at e;exact⟨s,rfl,e⟩
      ·right
       have:=Option.some.inj e
       dsimp only
       omega
def ue (N:List Za.Vr) (a:AV):Za.U→Prop
 | .v x=>a.k=1∧a.val=(N.idxOf x:Int)∧x∈N∧a.n=0
 | .n k tx num ss=>(k=3∧a.k=2∧a.val=num∧a.n=0∧ss=[])∨(k=1∧a.k=3∧a.tx.toList=tx∧a.n=ss.length∧ss.length≤3)
def RV:Nat→List Za.Vr→(Nat→Prop)→World→AV→Za.U→Prop
 | 0,_,_,_,_,_=>False
 | f+1,N,P,w,a,u=>ue N a u∧(Za.uargs u≠[]→∃(g:Nat) (us:List AV) (cs:Array Value),a.ao=some ⟨g,0,none⟩∧P g∧w.heap[g]?=some (.cells cs 76 (0,0))∧cs.toList.take (us.length*4)=us.flatMap gq∧bK (RV f N P w) us (Za.uargs u))
theorem RV.keep {N:List Za.Vr} {P Q:Nat→Prop} {w w':World} (hk:∀g cs,P g→w.heap[g]?=some (.cells cs 76 (0,0))→w'.heap[g]?=some (.cells cs 76 (0,0))∧Q g):∀{f:Nat} {a:AV} {u:Za.U},RV f N P w a u→RV f N Q w' a u
 | _+1,_,_,⟨h,q⟩=>⟨h,fun n=>by
  obtain⟨g,us,cs,h1,h2,h3,h4,h5⟩:=q n
  obtain⟨r1,r2⟩:=hk g cs h2 h3
  exact⟨g,us,cs,h1,r2,r1,h4,h5.imp fun _ _=>RV.keep hk⟩⟩
theorem ue.more {N:List Za.Vr} {a:AV} {u:Za.U} (h:ue N a u) (M:List Za.Vr):ue (N++M) a u:=by
 cases u with
 | v x=>
  obtain⟨h1,h2,h3,h4⟩:=h
  exact⟨h1,by rw[h2,List.idxOf_append,if_pos h3],List.mem_append_left _ h3,h4⟩
 | n k tx num ss=>exact h
theorem RV.more {N:List Za.Vr} {P:Nat→Prop} {w:World} (M:List Za.Vr):∀{f:Nat} {a:AV} {u:Za.U},RV f N P w a u→RV f (N++M) P w a u
 | _+1,_,_,⟨h,q⟩=>⟨h.more M,fun n=>by
  obtain⟨g,us,cs,h1,h2,h3,h4,h5⟩:=q n
  exact⟨g,us,cs,h1,h2,h3,h4,h5.imp fun _ _=>RV.more M⟩⟩
def E8 (s nb:Nat) (N:List Nat) (mo:Option Addr) (u:Za.U) (w:World) (e:Ending) (w':World):Prop:=
 ∃(a:AV) (N':List Nat) (mo':Option Addr) (mc':Nat),e= .returned (.agg #[.int .i64 a.k,.int .i64 a.val,.string a.tx,.slice a.ao a.n a.cap])∧eJ w' nb N' mo' mc'∧Za.bh N'=Za.aS (Za.bh N) u∧RV s (Za.bh N') (fun g=>w.heap.size≤g) w' a u∧aj (bf nb mo) (bf nb mo') w w'
def Bl (s:Nat):Prop:=∀(w:World) (sb so:Nat) (cs:Array Value) (T:TypeId) (D:List Ng) (no:Option Addr) (nc:Nat) (fr:Nat→Nat) (n:Nat) (u:Za.U) (nb:Nat) (N:List Nat) (mo:Option Addr) (mc:Nat),bt w sb so cs T D no nc→T≠123→T≠3→bR D fr→eJ w nb N mo mc→aW w D (fun g=>¬bf nb mo g)→n<D.length→Za.Tr (aV D) fr n u→Za.size u≤s→N.length+Za.size u≤1000000→
 Calls Tryz.prog 57 #[.pointer (some ⟨sb,so,none⟩),.int .i64 (n:Int),.pointer (some ⟨nb,0,none⟩)] w fun e w'=>E8 s nb N mo u w e w'
theorem bt.Hq {w w':World} {sb so:Nat} {cs:Array Value} {T:TypeId} {D:List Ng} {no:Option Addr} {nc:Nat} {nb:Nat} {N:List Nat} {mo mo':Option Addr} {mc:Nat} (h:bt w sb so cs T D no nc) (hn:eJ w nb N mo mc) (h1:T≠123) (h2:T≠3) (hf:aj (bf nb mo) (bf nb mo') w w'):bt w' sb so cs T D no nc:=by
 refine⟨(hf.block sb (af h.blk) (hn.apart h.blk h1 h2)).trans h.blk,h.cel,ah h.own (fun g q=>hf.block g (h.own.lt g q).2 ?_),h.ty⟩
 rcases h.own.2 with⟨c,_⟩ | ⟨g',cp,cur,c,_,hc,_⟩
 ·rw[c]at q;simp[Value.ownBlock]at q
 ·rw[c]at q
  simp[Value.ownBlock]at q
  subst q
  exact hn.apart hc (by decide) (by decide)
theorem aW.Hq {w w':World} {D:List Ng} {R R':Nat→Prop} (h:aW w D fun g=>¬R g) (hf:aj R R' w w'):aW w' D fun g=>¬R' g:=
 h.keep fun g _ hp hg=>⟨(hf.block g (af hg) hp).trans hg,hf.not (af hg) hp⟩
theorem Kz (s:Nat) (w:World) (sb so:Nat) (cs:Array Value) (T:TypeId) (D:List Ng) (no:Option Addr) (nc:Nat) (fr:Nat→Nat) (n:Nat) (d:Ng) (nb:Nat) (N:List Nat) (mo:Option Addr) (mc:Nat) (h:bt w sb so cs T D no nc) (_hT1:T≠123) (_hT2:T≠3) (hok:bR D fr) (hn:eJ w nb N mo mc) (hnl:n<D.length) (hd:D[fr n]?=some d) (hk:d.k=1) (hl:N.length+1≤1000000):
 Calls Tryz.prog 57 #[.pointer (some ⟨sb,so,none⟩),.int .i64 (n:Int),.pointer (some ⟨nb,0,none⟩)] w fun e w'=>E8 (s+1) nb N mo (.v ([],fr n)) w e w':=by
 obtain⟨k,hk'⟩:=hok.hop n hnl
 have LA:=hide (fun W (hb:Below w.heap.size w W)=>eo W sb so cs T D no nc n (fr n) k d (h.below hb) hk' hd)
 have FA:=hide (fun W (hb:Below w.heap.size w W)=>dJ W sb so cs T D no nc n (fr n) k (h.below hb) hk')
 have NA:=hide (fun W (hb:Below w.heap.size w W)=>Ky W nb N mo mc (fr n) (hn.below hb) (by omega))
 have HN:=hide hn
 obtain⟨dk,val,tx,cnt,ao,cap,args,nx,mrk⟩:=d
 dsimp only at hk LA
 subst hk
 clear h hok hn hnl hd hk'
 generalize fr n=p at*
 go_enter Tryz.func57,Tryz.ntmps57
 go_wp2_with fail
 refine(ae LA _ ((Below.refl _ _).alloc (Nat.le_refl _) _)).mono ?_
 rintro e w1 ⟨rfl,hb1⟩
 have aZ:=hide ((((Below.refl w.heap.size w).alloc (Nat.le_refl _) (.cells #[.int .i64 0,.int .i64 0,.string ⟨#[]⟩,.slice none 0 0] 76)).trans (hb1.mono (by simp))).alloc (by have:=hb1.size;simp at this;omega) (.cells #[.int .i64 1,.int .i64 val,.string tx,.int .i64 (cnt:Int)] 177))
 have r0:=hb1.block w.heap.size (by simp)
 have r1:=r0.trans (heap_alloc_new w _)
 have z1:w.heap.size<w1.heap.size:=af r1
 have TQ:=hide (aw r1 (.cells #[.int .i64 1,.int .i64 val,.string tx,.int .i64 (cnt:Int)] 177))
 clear hb1 r0 r1
 go_wp2_with fail
 refine(ae FA _ (ae aZ)).mono ?_
 rintro e w2 ⟨rfl,rfl⟩
 unfold aI
 go_wp2_with fail
 refine(ae NA _ (ae aZ)).mono ?_
 rintro e w3 ⟨mo',mc',rfl,TR,hf3⟩
 unfold aI
 have q3:=(hf3.block w.heap.size (by simp;omega) (((ae HN).below (ae aZ)).apart (ae TQ) (by decide) (by decide))).trans (ae TQ)
 have WC:=hide q3
 have c3:=ag q3
 have x3:=aq q3
 have z3:=af q3
 have iy:=hide TR
 have uP:=hide hf3
 clear TR hf3 q3
 go_wp2_with fail
 refine bodyPost_ret (v:= .agg #[.int .i64 1,.int .i64 ((N.idxOf p:Nat):Int),.string ⟨#[]⟩,.slice none 0 0]) (by simp[results,Tryz.results57,go_sem,c3]) rfl ?_
 have mV:∀g,g≠w.heap.size→((((w3.setCell ⟨w.heap.size,0,none⟩ (.int .i64 1)).setCell ⟨w.heap.size,1,none⟩ (.int .i64 ((N.idxOf p:Nat):Int))).setCell ⟨w.heap.size,2,none⟩ (.string ⟨#[]⟩)).setCell ⟨w.heap.size,3,none⟩ (.slice none 0 0)).heap[g]?=w3.heap[g]?:=fun g hg=>by rw[aF _ _ _ _ hg,aF _ _ _ _ hg,aF _ _ _ _ hg,aF _ _ _ _ hg]
 have hne:nb≠w.heap.size:=by have:=af (ae HN).blk;omega
 refine⟨⟨1,(N.idxOf p:Nat),⟨#[]⟩,none,0,0⟩,Za.qd N p,mo',mc',rfl,⟨(mV nb hne).trans (ae iy).blk,ah (ae iy).own (fun g q=>mV g fun e=> ?_)⟩,?_,⟨⟨rfl,?_,?_,rfl⟩,fun q=>absurd rfl q⟩,?_⟩
 ·subst e
  exact(ae iy).apart (ae WC) (by decide) (by decide) (Or.inr (by
   cases mo' with
   | none=>simp[Value.ownBlock]at q
   | some a=>simp[Value.ownBlock]at q;exact⟨a,rfl,q.symm⟩))
 ·rw[Za.D2];rfl
 ·show ((N.idxOf p:Nat):Int)=(((Za.bh (Za.qd N p)).idxOf ([],p):Nat):Int)
  rw[Za.D3]
  congr 1
  unfold Za.qd
  by_cases q:p∈N
  ·rw[if_pos q]
  ·rw[if_neg q,List.idxOf_append,if_neg q,List.idxOf_eq_length q];simp
 ·rw[Za.D2];exact Za.AU.2 (Or.inr rfl)
 ·have q:=(aj.of_below (R:=bf nb mo) (ae aZ)).trans (ae uP)
  refine⟨q.os,q.tape,q.output,by simp only[cC];exact q.size,fun k hk hr=> ?_,q.row⟩
  rw[mV k (by omega)]
  exact q.block k hk hr
end Go.Proofs.YthfjnfcekeknlaaGreatDoor
namespace Za
theorem KB (N:List Vr) (x:Vr):(kE N x).length≤N.length+1:=by unfold kE;split<;>simp
theorem iM:∀(u:U) (N:List Vr),(aS N u).length≤N.length+size u:=by
 refine U.ind (fun x N=>by rw[aS,size];exact KB N x) (fun k tx num ss ih N=> ?_)
 rw[fI,size]
 induction ss generalizing N with
 | nil=>simp[sizeL]
 | cons a ss ihl=>
  have h1:=ihl (fun b hb=>ih b (by simp[hb])) (aS N a)
  have h2:=ih a (by simp) N
  rw[List.foldl_cons,sizeL]
  omega
theorem Hr (us:List U) (N:List Vr):(us.foldl aS N).length≤N.length+sizeL us:=by
 have:=iM (.n 1 [] 0 us) N
 rw[fI,size]at this
 induction us generalizing N with
 | nil=>simp[sizeL]
 | cons a us ih=>
  have h1:=ih (aS N a) (by have:=iM (.n 1 [] 0 us) (aS N a);rw[fI,size]at this;exact this)
  have h2:=iM a N
  rw[List.foldl_cons,sizeL]
  omega
theorem qT:∀(u:U) (N:List Vr),∃M,aS N u=N++M:=by
 refine U.ind (fun x N=> ?_) (fun k tx num ss ih N=> ?_)
 ·rw[aS];unfold kE;split
  ·exact⟨[],by simp⟩
  ·exact⟨[x],rfl⟩
 ·rw[fI]
  induction ss generalizing N with
  | nil=>exact⟨[],by simp⟩
  | cons a ss ihl=>
   obtain⟨M,hM⟩:=ih a (by simp) N
   obtain⟨M',hM'⟩:=ihl (fun b hb=>ih b (by simp[hb])) (aS N a)
   exact⟨M++M',by rw[List.foldl_cons,hM',hM,List.append_assoc]⟩
end Za
namespace Go.Proofs.YthfjnfcekeknlaaGreatDoor
open Go.RowKit
def PK (w:World) (sb so:Nat) (cs:Array Value) (T:TypeId) (D:List Ng) (no:Option Addr) (nc:Nat) (tb nb:Nat) (N:List Nat) (mo:Option Addr) (s:Nat) (us:List Za.U) (kv vv tv:Value) (k:Nat) (iv:Value) (wr:World):Prop:=
 ∃(j:Nat) (N1:List Nat) (mo1:Option Addr) (mc1:Nat) (av:Value) (vs:List AV),k+j=us.length∧iv= .int .i64 (j:Int)∧eJ wr nb N1 mo1 mc1∧Za.bh N1=(us.take j).foldl Za.aS (Za.bh N)∧aj (bf nb mo) (bf nb mo1) w wr∧
  wr.heap[w.heap.size]?=some (.cells #[.int .i64 0,.int .i64 0,.string ⟨#[]⟩,.slice none 0 0] 76 (0,0))∧wr.heap[tb]?=some (.cells #[kv,vv,tv,av] 76 (0,0))∧wr.ownsRow (tb+1) 76 4 av j (vs.flatMap gq)∧
  bK (RV s (Za.bh N1) (fun g=>tb+1≤g∧some g≠av.ownBlock) wr) vs (us.take j)∧bt wr sb so cs T D no nc∧aW wr D (fun g=>¬bf nb mo1 g)
theorem KC {wr w2 w7:World} {s tb nb:Nat} {N1 N2:List Nat} {mo1 mo2:Option Addr} {mc1:Nat} {av v':Value} {vs:List AV} {ts:List Za.U} {a2:AV} {t:Za.U} {X A:Obj} {M:List Za.Vr}
 (hn:eJ wr nb N1 mo1 mc1) (h:bK (RV s (Za.bh N1) (fun g=>tb+1≤g∧some g≠av.ownBlock) wr) vs ts) (hv:RV s (Za.bh N2) (fun g=>wr.heap.size≤g) w2 a2 t) (hM:Za.bh N2=Za.bh N1++M) (hf:aj (bf nb mo1) (bf nb mo2) wr w2) (Hs:tb<wr.heap.size) (WD:∀k,av.ownBlock=some k→tb+1≤k∧k<wr.heap.size)
 (hg:((w2.alloc X).alloc A).grownBy w7 av.ownBlock) (hat:v'.ownBlock=av.ownBlock∨v'.ownBlock=some ((w2.alloc X).alloc A).heap.size) (u:Value):
 bK (RV s (Za.bh N2) (fun g=>tb+1≤g∧some g≠v'.ownBlock) (w7.setCell ⟨tb,3,none⟩ u)) (vs++[a2]) (ts++[t]):=by
 have hsz:=hf.size
 have keep:∀g,g<w2.heap.size→g≠tb→some g≠av.ownBlock→(w7.setCell ⟨tb,3,none⟩ u).heap[g]?=w2.heap[g]?:=fun g h1 h2 h4=>by
  rw[aF _ _ _ _ h2,hg.block g (by simp;omega) h4,Below.heap_alloc _ _ _ (by simp;omega),Below.heap_alloc _ _ _ h1]
 have away:∀g,g<w2.heap.size→some g≠av.ownBlock→some g≠v'.ownBlock:=fun g h1 h2=>by
  rcases hat with e | e<;>rw[e]
  ·exact h2
  ·simp;omega
 refine bK.snoc (hv.keep fun g cs hp hc=> ?_) (h.imp fun a t q=> ?_)
 ·have hl:=af hc
  have h4:some g≠av.ownBlock:=fun e=>by have:=(WD g e.symm).2;omega
  exact⟨(keep g hl (by omega) h4).trans hc,by omega,away g hl h4⟩
 ·rw[hM]
  refine RV.more M (q.keep fun g cs hp hc=> ?_)
  have hl:=af hc
  obtain⟨p1,p2⟩:=hp
  exact⟨(keep g (by omega) (by omega) p2).trans ((hf.block g hl (hn.apart hc (by decide) (by decide))).trans hc),p1,away g (by omega) p2⟩
theorem Ht {s:Nat} (IH:Bl s) (w:World) (sb so:Nat) (cs:Array Value) (T:TypeId) (D:List Ng) (no:Option Addr) (nc:Nat) (fr:Nat→Nat) (n:Nat) (u:Za.U) (us:List Za.U) (d:Ng) (nb:Nat) (N:List Nat) (mo:Option Addr) (mc:Nat) (h:bt w sb so cs T D no nc) (hT1:T≠123) (hT2:T≠3) (hok:bR D fr) (hn:eJ w nb N mo mc) (har:aW w D (fun g=>¬bf nb mo g)) (hnl:n<D.length) (hd:D[fr n]?=some d) (od:gf D.length d) (md:d∈D) (hk:d.k≠1) (lN:d.args.length=us.length) (hts:∀(i a:Nat) (v:Za.U),d.args[i]?=some a→us[i]?=some v→Za.Tr (aV D) fr a v)
 (hu:(d.k=2∧u= .n 3 [] d.val []∧us=[])∨(d.k=3∧u= .n 1 d.tx.toList 0 us)) (hs:Za.size u≤s+1) (hl:N.length+Za.size u≤1000000):
 Calls Tryz.prog 57 #[.pointer (some ⟨sb,so,none⟩),.int .i64 (n:Int),.pointer (some ⟨nb,0,none⟩)] w fun e w'=>E8 (s+1) nb N mo u w e w':=by
 obtain⟨k,hk'⟩:=hok.hop n hnl
 have hsz:Za.size u=1+Za.sizeL us:=by
  rcases hu with⟨_,rfl,rfl⟩ | ⟨_,rfl⟩
  ·simp[Za.size,Za.sizeL]
  ·rw[Za.size]
 have TS:Za.uargs u=us:=by
  rcases hu with⟨_,rfl,rfl⟩ | ⟨_,rfl⟩<;>rfl
 have TU:∀M,Za.aS M u=us.foldl Za.aS M:=fun M=>by
  rcases hu with⟨_,rfl,rfl⟩ | ⟨_,rfl⟩<;>rw[Za.fI]
 have Hu:∀M ao cap,ue M ⟨d.k,d.val,d.tx,ao,us.length,cap⟩ u:=fun M ao cap=>by
  rcases hu with⟨q,rfl,rfl⟩ | ⟨q,rfl⟩
  ·exact Or.inl ⟨rfl,q,rfl,rfl,rfl⟩
  ·exact Or.inr ⟨rfl,q,rfl,rfl,by rw[←lN];exact od.few⟩
 have LA:=hide (fun W (hb:Below w.heap.size w W)=>eo W sb so cs T D no nc n (fr n) k d (h.below hb) hk' hd)
 have AG:=hide (fun W (hb:Below w.heap.size w W)=>lJ W sb so cs T D no nc n (fr n) k d (h.below hb) hk' hd)
 have nP:=hide (show∀W R,aW W D R→oO W d.ao d.args from fun W R q=>q.row md)
 have oP:=hide od.inn
 have Hg:=hide hts
 have jJ:=hide hsz
 have HS:=hide hs
 have HL:=hide hl
 have WE:=hide TS
 have WG:=hide TU
 have TW:=hide Hu
 have HN:=hide hn
 have HST:=hide h
 have U7:=hide har
 have qy:=hide hok
 have I:=hide IH
 have vA:=od.few
 have PL:=hide hT1
 have TX:=hide hT2
 obtain⟨i0',hi,hz0,hz1,hz2⟩:=info_parts Tryz.info76
 obtain⟨dk,val,tx,cnt,ao,cap,xs,nx,mrk⟩:=d
 dsimp only at hk LA AG nP oP Hg lN vA TW
 have t1:(dk == 1)=false:=by simpa using hk
 have MK:=hide lN
 clear h hok hn har hnl hd od md hk' hk hts hu hsz TS TU Hu hs hl IH lN hT1 hT2
 go_enter Tryz.func57,Tryz.ntmps57
 go_wp2_with fail
 refine(ae LA _ ((Below.refl _ _).alloc (Nat.le_refl _) _)).mono ?_
 rintro e w1 ⟨rfl,hb1⟩
 have aZ:=hide ((((Below.refl w.heap.size w).alloc (Nat.le_refl _) (.cells #[.int .i64 0,.int .i64 0,.string ⟨#[]⟩,.slice none 0 0] 76)).trans (hb1.mono (by simp))).alloc (by have:=hb1.size;simp at this;omega) (.cells #[.int .i64 dk,.int .i64 val,.string tx,.int .i64 (cnt:Int)] 177))
 have r0:=hb1.block w.heap.size (by simp)
 have r1:=r0.trans (heap_alloc_new w _)
 have z1:w.heap.size<w1.heap.size:=af r1
 have hB4:Below w.heap.size w ((w1.alloc (.cells #[.int .i64 dk,.int .i64 val,.string tx,.int .i64 (cnt:Int)] 177)).alloc (.cells #[.int .i64 dk,.int .i64 val,.string tx,.slice none 0 0] 76)):=(ae aZ).alloc (by simp;omega) _
 have e4:=heap_alloc_new (w1.alloc (.cells #[.int .i64 dk,.int .i64 val,.string tx,.int .i64 (cnt:Int)] 177)) (.cells #[.int .i64 dk,.int .i64 val,.string tx,.slice none 0 0] 76)
 rw[World.size_alloc]at e4
 have Bg:=hide (show PK w sb so cs T D no nc (w1.heap.size+1) nb N mo s us (.int .i64 dk) (.int .i64 val) (.string tx) us.length (.int .i64 0) ((w1.alloc (.cells #[.int .i64 dk,.int .i64 val,.string tx,.int .i64 (cnt:Int)] 177)).alloc (.cells #[.int .i64 dk,.int .i64 val,.string tx,.slice none 0 0] 76))from
  ⟨0,N,mo,mc,.slice none 0 0,[],by omega,rfl,(ae HN).below hB4,rfl,aj.of_below hB4,aw (aw r1 _) _,e4,World.ownsRow_nil _ _ _ _,trivial,(ae HST).below hB4,(ae U7).below hB4⟩)
 have cR:=hide hB4
 clear hb1 r0 r1 hB4 e4
 go_wp2_with fail
 refine(ae AG _ (ae cR)).mono ?_
 rintro e w2 ⟨rfl,rfl⟩
 have TY:=hide (show xs.length=us.length from ae MK)
 go_wp2_with fail
 go_loopg [37] us.length (fun k iv wr=>PK w sb so cs T D no nc (w1.heap.size+1) nb N mo s us (.int .i64 dk) (.int .i64 val) (.string tx) k iv wr)
 case atStart=>exact ae Bg
 case round=>
  clear Bg
  obtain⟨j,N1,mo1,mc1,av,vs,hkj,rfl,kj,hnn,cL,hbz,zf,how,hall,hst,har⟩:=hrel
  obtain⟨oo,cp,rfl⟩:=eP how
  have z2:=af zf
  by_cases hlt:j<us.length
  ·have E9:j<xs.length:=by have:=ae TY;omega
   obtain⟨gx,ex,zx,cx⟩:=(ae nP wr _ har).at E9
   subst ex
   have hsj:Za.size us[j]≤Za.sizeL us:=Za.iG (List.getElem_mem hlt)
   have hN1:N1.length≤N.length+Za.sizeL (us.take j):=by
    have:=Za.Hr (us.take j) (Za.bh N)
    rw[←hnn,Za.D4,Za.D4]at this
    exact this
   have MI:Za.sizeL (us.take (j+1))=Za.sizeL (us.take j)+Za.size us[j]:=by
    rw[List.take_add_one,List.getElem?_eq_getElem hlt]
    exact sizeL_snoc _ _
   have hle:=wU us (j+1)
   have IC:=hide (ae I wr sb so cs T D no nc fr xs[j] us[j] nb N1 mo1 mc1 hst (ae PL) (ae TX) (ae qy) kj har (ae oP _ (List.getElem_mem E9)) (ae Hg j _ _ (List.getElem?_eq_getElem E9) (List.getElem?_eq_getElem hlt)) (by have:=ae jJ;have:=ae HS;omega) (by have:=ae jJ;have:=ae HL;omega))
   have jq:=hide (show (us.take (j+1)).foldl Za.aS (Za.bh N)=Za.aS (Za.bh N1) us[j]by rw[List.take_add_one,List.getElem?_eq_getElem hlt,List.foldl_append,hnn];rfl)
   have rK:=hide (show us.take (j+1)=us.take j++[us[j]]by rw[List.take_add_one,List.getElem?_eq_getElem hlt];rfl)
   have aP:=hide hkj
   have aY:=hide hlt
   have gK:=hide kj
   have iU:=hide cL
   have dG:=hide hbz
   have ML:=hide zf
   have HOW:=hide how
   have Bn:=hide hall
   have Bb:=hide hst
   have S3:=hide har
   have j0:(0:Int)≤(j:Int):=by omega
   have j1:(j:Int)<(xs.length:Int):=by omega
   have j3:j≤3:=by omega
   generalize xs[j]=na at*
   generalize us[j]=uj at*
   clear kj hnn cL hbz zf how hall hst har hsj hN1 MI hle E9 hkj hlt
   go_wp2_with fail
   refine(ae IC).mono ?_
   rintro e w2 ⟨a2,N2,mo2,mc2,rfl,Bo,hv2,hr2,hf2⟩
   have q0:=(hf2.block w.heap.size (af (ae dG)) ((ae gK).apart (ae dG) (by decide) (by decide))).trans (ae dG)
   have q2:=(hf2.block (w1.heap.size+1) (af (ae ML)) ((ae gK).apart (ae ML) (by decide) (by decide))).trans (ae ML)
   have uJ:=hide (ah (ae HOW) (fun g q=>hf2.block g ((ae HOW).lt g q).2 (by
    rcases(ae HOW).2 with⟨c,_⟩ | ⟨g',cp',cur,c,_,hc,_⟩
    ·rw[c]at q;simp[Value.ownBlock]at q
    ·rw[c]at q
     simp[Value.ownBlock]at q
     subst q
     exact(ae gK).apart hc (by decide) (by decide))))
   have y2:=ag q2
   have yz2:=af q2
   have WH:=hide q0
   have uQ:=hide q2
   have sI:=hide Bo
   have zg:=hide hv2
   have sJ:=hide hr2
   have uN:=hide hf2
   have Fa:=hf2.size
   have Yp:w.heap.size<w1.heap.size+1:=by omega
   clear q0 q2 Bo hv2 hr2 hf2 IC
   go_wp2_with (first | (at_builtin;go_must (refine wpList_append_own_at _ rfl (.tmp 46) (.tmp 48) 74 rfl (w1.heap.size+1+1) 76 i0' (.agg #[.int .i64 0,.int .i64 0,.string ⟨#[]⟩,.slice none 0 0]) 4 56 Tryz.underlying74 hi hz0 hz1 hz2 rfl (by decide) _ j (vs.flatMap gq) rfl (((ae uJ).alloc _).alloc _) ⟨w2.heap.size+1,0,none⟩ 1 1 [.int .i64 a2.k,.int .i64 a2.val,.string a2.tx,.slice a2.ao a2.n a2.cap] rfl rfl (A3 _ _ _ _ _ _ _) (A4 _ _ _ _ _ _) (by unfold maxLen;omega) (by omega) (by simp;omega) ?_);go_must (intro v' w7 hown' hgrow _ hat;obtain⟨g',cap',hv,hcm⟩:=ed hown';subst hv;have rI:=hide (show (Value.slice (some ⟨g',0,none⟩) (j+1) cap').ownBlock=(Value.slice oo j cp).ownBlock∨(Value.slice (some ⟨g',0,none⟩) (j+1) cap').ownBlock=some _ from hat);have HG:=hide (show _ from hgrow);have Aj:=hide hown';have ml:=hide ((((Below.refl (w1.heap.size+1+1) w2).alloc (by omega) (.cells #[.int .i64 a2.k,.int .i64 a2.val,.string a2.tx,.slice a2.ao a2.n a2.cap] 76)).alloc (by simp;omega) (.cells #[.int .i64 a2.k,.int .i64 a2.val,.string a2.tx,.slice a2.ao a2.n a2.cap] 76)).grown hgrow (by simp;omega) (fun k q=>((ae uJ).lt k q).1));have q7:=((ae ml).block (w1.heap.size+1) (by omega)).trans (ae uQ);have WI:=hide q7;have z7:=ag q7;have zx7:=aq q7;have zz7:=af q7;clear hown' hgrow hat q7)))
   obtain⟨M,hM⟩:=Za.qT uj (Za.bh N1)
   have ld:=hide (KC (ae gK) (ae Bn) (ae sJ) ((ae zg).trans hM) (ae uN) z2 (fun k q=>(ae HOW).lt k q) (ae HG) (ae rI) (.slice (some ⟨g',0,none⟩) (j+1) cap'))
   clear hM
   go_roundg (gk - 1)
   case measure=>have:=ae aP;have:=ae aY;omega
   case rel=>
    have hG:=ae HG
    have PM:=hG.size
    simp only[World.size_alloc]at PM
    have keepN:∀g,g<w2.heap.size→(∀p,oo=some p→g≠p.block)→g≠w1.heap.size+1→(w7.setCell ⟨w1.heap.size+1,3,none⟩ (.slice (some ⟨g',0,none⟩) (j+1) cap')).heap[g]?=w2.heap[g]?:=fun g h1 h2 h3=>by
     rw[aF _ _ _ _ h3,hG.block g (by simp;omega) (iL h2),Below.heap_alloc _ _ _ (by simp;omega),Below.heap_alloc _ _ _ h1]
    have oty:∀(g:Nat) (xs:Array Value) (S:TypeId),w2.heap[g]?=some (.cells xs S (0,0))→S≠76→∀p,oo=some p→g≠p.block:=fun g xs S hg hS p hp e=>by
     rcases(ae uJ).2 with⟨c,_⟩ | ⟨g'',cp',cur,c,_,hc,_⟩
     ·rw[hp]at c;cases c
     ·simp only[Value.slice.injEq]at c
      rw[hp]at c
      obtain⟨c,_⟩:=c
      cases c
      dsimp only at e
      subst e
      rw[hc]at hg
      simp only[Option.some.injEq,Obj.cells.injEq]at hg
      exact hS hg.2.1.symm
    have tyT:∀(g:Nat) (xs:Array Value) (S:TypeId),w2.heap[g]?=some (.cells xs S (0,0))→S≠76→(w7.setCell ⟨w1.heap.size+1,3,none⟩ (.slice (some ⟨g',0,none⟩) (j+1) cap')).heap[g]?=w2.heap[g]?:=fun g xs S hg hS=>keepN g (af hg) (oty g xs S hg hS) (fun e=>by
     subst e
     rw[ae uQ]at hg
     simp only[Option.some.injEq,Obj.cells.injEq]at hg
     exact hS hg.2.1.symm)
    have hB7:=ae ml
    have lowO:∀p,oo=some p→w1.heap.size+1+1≤p.block:=fun p q=>((ae uJ).lt p.block (by rw[q];rfl)).1
    refine⟨j+1,N2,mo2,mc2,.slice (some ⟨g',0,none⟩) (j+1) cap',vs++[a2],by have:=ae aP;have:=ae aY;omega,by go_num,⟨(tyT _ _ _ (ae sI).blk (by decide)).trans (ae sI).blk,ah (ae sI).own fun g q=> ?_⟩,(ae zg).trans (ae jq).symm,?_,?_,?_,?_,?_,?_,?_⟩
    ·rcases(ae sI).own.2 with⟨c,_⟩ | ⟨g'',cp',cur,c,_,hc,_⟩
     ·rw[c]at q;simp[Value.ownBlock]at q
     ·rw[c]at q
      simp[Value.ownBlock]at q
      subst q
      exact tyT _ _ _ hc (by decide)
    ·have q:=(ae iU).trans (ae uN)
     refine⟨hG.os.trans q.os,hG.tape.trans q.tape,hG.output.trans q.output,by rw[cC];have:=q.size;omega,fun k hk hr=> ?_,q.row⟩
     rw[keepN k (by have:=q.size;omega) (fun p hp e=>by have:=lowO p hp;omega) (by omega)]
     exact q.block k hk hr
    ·exact aB ((hB7.block _ (by omega)).trans (ae WH)) (by omega) _ _
    ·have:=au (ae WI) 3 (.slice (some ⟨g',0,none⟩) (j+1) cap')
     simpa using this
    ·have:=ah (ae Aj) (w':=w7.setCell ⟨w1.heap.size+1,3,none⟩ (.slice (some ⟨g',0,none⟩) (j+1) cap')) (fun k q=>aF _ _ _ _ (by have:=((ae Aj).lt k q).1;omega))
     rw[List.flatMap_append]
     simpa [gq] using this
    ·rw[ae rK]
     exact ae ld
    ·have hs2:=(ae Bb).Hq (ae gK) (ae PL) (ae TX) (ae uN)
     refine⟨?_,hs2.cel,ah hs2.own fun g q=> ?_,hs2.ty⟩
     ·by_cases hTT:T=76
      ·have vD:=af (ae HST).blk
       exact(aF _ _ _ _ (by omega)).trans ((hG.block sb (by have:=af hs2.blk;simp;omega) (iL fun p hp e=>by have:=lowO p hp;omega)).trans ((Below.heap_alloc _ _ _ (by have:=af hs2.blk;simp;omega)).trans ((Below.heap_alloc _ _ _ (af hs2.blk)).trans hs2.blk)))
      ·exact(tyT _ _ _ hs2.blk hTT).trans hs2.blk
     ·rcases hs2.own.2 with⟨c,_⟩ | ⟨g'',cp',cur,c,_,hc,_⟩
      ·rw[c]at q;simp[Value.ownBlock]at q
      ·rw[c]at q
       simp[Value.ownBlock]at q
       subst q
       exact tyT _ _ _ hc (by decide)
    ·exact((ae S3).Hq (ae uN)).keep fun g cs hp hc=>⟨(tyT _ _ _ hc (by decide)).trans hc,hp⟩
  ·obtain rfl:j=us.length:=by omega
   rw[List.take_length]at hall hnn
   have TZ:xs.length=us.length:=ae TY
   have T5:RV (s+1) (Za.bh N1) (fun g=>w.heap.size<g) wr ⟨dk,val,tx,oo,us.length,cp⟩ u:=by
    refine⟨ae TW _ _ _,fun q=> ?_⟩
    rw[ae WE]at q⊢
    rcases how.2 with⟨_,h0⟩ | ⟨g,cap',cur,q1,hb,hc,_,_,_,ht⟩
    ·exact absurd (List.length_eq_zero_iff.1 h0) q
    ·simp only[Value.slice.injEq]at q1
     obtain⟨rfl,_,rfl⟩:=q1
     exact⟨g,vs,cur,rfl,by omega,hc,by rw[hall.length];exact ht,hall.imp fun _ _ r=>r.keep fun k cs hp hc'=>⟨hc',by omega⟩⟩
   have r1:=ag hbz
   have x1:=aq hbz
   have y1:=af hbz
   have r2:=ag zf
   have WJ:=hide T5
   have gK:=hide kj
   have jq:=hide hnn
   have iU:=hide cL
   have dG:=hide hbz
   have ML:=hide zf
   clear kj hnn cL zf how hall hst har hkj T5 hbz
   rw[←TZ]
   go_wp2_with fail
   rw[TZ]
   refine bodyPost_ret (v:= .agg #[.int .i64 dk,.int .i64 val,.string tx,.slice oo us.length cp]) (by simp[results,Tryz.results57,go_sem,r1]) rfl ?_
   have mV:∀g,g≠w.heap.size→((((wr.setCell ⟨w.heap.size,0,none⟩ (.int .i64 dk)).setCell ⟨w.heap.size,1,none⟩ (.int .i64 val)).setCell ⟨w.heap.size,2,none⟩ (.string tx)).setCell ⟨w.heap.size,3,none⟩ (.slice oo us.length cp)).heap[g]?=wr.heap[g]?:=fun g hg=>by rw[aF _ _ _ _ hg,aF _ _ _ _ hg,aF _ _ _ _ hg,aF _ _ _ _ hg]
   have U8:¬bf nb mo1 w.heap.size:=(ae gK).apart (ae dG) (by decide) (by decide)
   have hne:nb≠w.heap.size:=by have:=af (ae HN).blk;omega
   refine⟨⟨dk,val,tx,oo,us.length,cp⟩,N1,mo1,mc1,rfl,⟨(mV nb hne).trans (ae gK).blk,ah (ae gK).own (fun g q=>mV g fun e=> ?_)⟩,by rw[ae WG];exact ae jq,?_,?_⟩
   ·subst e
    exact U8 (Or.inr (by
     cases mo1 with
     | none=>simp[Value.ownBlock]at q
     | some a=>simp[Value.ownBlock]at q;exact⟨a,rfl,q.symm⟩))
   ·exact(ae WJ).keep (fun g cs hp hc=>⟨(mV g (by omega)).trans hc,by omega⟩)
   ·have q:=ae iU
    refine⟨q.os,q.tape,q.output,by simp only[cC];exact q.size,fun k hk hr=> ?_,q.row⟩
    rw[mV k (by omega)]
    exact q.block k hk hr
theorem tree_all:∀s,Bl s
 | 0=>fun _ _ _ _ _ _ _ _ _ _ u _ _ _ _ _ _ _ _ _ _ _ _ hs _=>absurd hs (by have:=Za.size_pos u;omega)
 | s+1=>fun w sb so cs T D no nc fr n u nb N mo mc h hT1 hT2 hok hn har hnl ht hs hl=>by
  obtain⟨d,us,hd,od,md,lN,hts,hu⟩:=Bd hok hnl ht
  rcases hu with⟨hk,rfl,rfl⟩ | hu
  ·exact Kz s w sb so cs T D no nc fr n d nb N mo mc h hT1 hT2 hok hn hnl hd hk (by simpa [Za.size] using hl)
  ·have hk:d.k≠1:=by rcases hu with⟨q,_⟩ | ⟨q,_⟩<;>omega
   exact Ht (tree_all s) w sb so cs T D no nc fr n u us d nb N mo mc h hT1 hT2 hok hn har hnl hd od md hk lN hts hu hs hl
structure Bp (w:World) (cb:Nat) (V:List Nat) (vo:Option Addr) (vc:Nat):Prop where
 blk:w.heap[cb]?=some (.cells #[.slice vo V.length vc] 93 (0,0))
 own:w.ownsRow 0 3 1 (.slice vo V.length vc) V.length (V.map aI)
def bU (sb:Nat) (no:Option Addr) (cb:Nat) (vo:Option Addr) (k:Nat):Prop:=k=sb∨rowOf no k∨k=cb∨rowOf vo k
structure fD (P:Nat→Prop) (w:World) (sb so:Nat) (cs:Array Value) (T:TypeId) (cb:Nat) (D:List Ng) (V:List Nat) (no:Option Addr) (nc:Nat) (vo:Option Addr) (vc:Nat):Prop where
 st:bt w sb so cs T D no nc
 sc:Bp w cb V vo vc
 t1:T≠93
 t2:T≠3
 args:aW w D fun g=>P g∧¬rowOf vo g
theorem aN {w:World} {b:Nat} {S S':TypeId} {sz:Nat} {o:Option Addr} {n cap:Nat} {xs:List Value} (h:w.ownsRow b S sz (.slice o n cap) n xs) {g:Nat} {ys:Array Value} (hg:w.heap[g]?=some (.cells ys S' (0,0))) (hne:S'≠S):¬rowOf o g:=by
 rintro⟨p,rfl,rfl⟩
 rcases h.2 with⟨c,_⟩ | ⟨g,cp,cur,c,_,hc,_⟩
 ·cases c
 ·simp only[Value.slice.injEq,Option.some.injEq]at c
  obtain⟨rfl,_⟩:=c
  rw[hc]at hg
  simp only[Option.some.injEq,Obj.cells.injEq]at hg
  exact hne hg.2.1.symm
theorem aD {o:Option Addr} {n cap g:Nat} (q:(Value.slice o n cap).ownBlock=some g):rowOf o g:=by
 cases o with
 | none=>simp[Value.ownBlock]at q
 | some a=>simp[Value.ownBlock]at q;exact⟨a,rfl,q.symm⟩
theorem bP {o:Option Addr} {n cap g:Nat} (q:¬rowOf o g):some g≠(Value.slice o n cap).ownBlock:=iL fun p hp e=>q ⟨p,hp,e⟩
theorem aH {w:World} {b:Nat} {S:TypeId} {sz:Nat} {o:Option Addr} {n cap:Nat} {xs:List Value} (h:w.ownsRow b S sz (.slice o n cap) n xs) {g:Nat} (hg:rowOf o g):∃cur,w.heap[g]?=some (.cells cur S (0,0)):=by
 obtain⟨p,rfl,rfl⟩:=hg
 rcases h.2 with⟨c,_⟩ | ⟨g,cp,cur,c,_,hc,_⟩
 ·cases c
 ·simp only[Value.slice.injEq,Option.some.injEq]at c
  obtain⟨rfl,_⟩:=c
  exact⟨cur,hc⟩
section
variable {P:Nat→Prop} {w:World} {sb so:Nat} {cs:Array Value} {T:TypeId} {cb:Nat} {D:List Ng} {V:List Nat} {no:Option Addr} {nc:Nat} {vo:Option Addr} {vc:Nat}
theorem Bp.below {w':World} (h:Bp w cb V vo vc) (hb:Below w.heap.size w w'):Bp w' cb V vo vc:=
 ⟨(hb.block cb (af h.blk)).trans h.blk,ah h.own (fun g q=>hb.block g (h.own.lt g q).2)⟩
theorem fD.below {w':World} (h:fD P w sb so cs T cb D V no nc vo vc) (hb:Below w.heap.size w w'):fD P w' sb so cs T cb D V no nc vo vc:=
 ⟨h.st.below hb,h.sc.below hb,h.t1,h.t2,h.args.below hb⟩
theorem fD.ne (h:fD P w sb so cs T cb D V no nc vo vc):sb≠cb:=fun e=>by
 have h1:=h.st.blk
 rw[e,h.sc.blk]at h1
 simp only[Option.some.injEq,Obj.cells.injEq]at h1
 exact h.t1 h1.2.1.symm
theorem fD.rows (h:fD P w sb so cs T cb D V no nc vo vc):∀k,bU sb no cb vo k→k<w.heap.size:=by
 rintro k (rfl | ⟨p,rfl,rfl⟩ | rfl | ⟨p,rfl,rfl⟩)
 ·exact af h.st.blk
 ·exact(h.st.own.lt p.block rfl).2
 ·exact af h.sc.blk
 ·exact(h.sc.own.lt p.block rfl).2
theorem fD.node {W w1:World} (h:fD P w sb so cs T cb D V no nc vo vc) (_hP:∀g,w.heap.size≤g→P g) (rL:so<cs.size) (hW:Below w.heap.size w W) {g cap':Nat} {d:Ng}
 (hown:w1.ownsRow 0 180 7 (.slice (some ⟨g,0,none⟩) (D.length+1) cap') (D.length+1) (jS D++nN d)) (hg:W.grownBy w1 (Value.slice no D.length nc).ownBlock) (hat:rowOf no g∨w.heap.size≤g)
 (hd:d.args≠[]→∃(q:Nat) (xs:Array Value),d.ao=some ⟨q,0,none⟩∧P q∧¬rowOf vo q∧q<w.heap.size∧w.heap[q]?=some (.cells xs 3 (0,0))∧xs.toList.take d.args.length=d.args.map aI):
 fD P (w1.setCell ⟨sb,so,none⟩ (.slice (some ⟨g,0,none⟩) (D.length+1) cap')) sb so (cs.setIfInBounds so (.slice (some ⟨g,0,none⟩) (D.length+1) cap')) T cb (D++[d]) V (some ⟨g,0,none⟩) cap' vo vc∧aj (bU sb no cb vo) (bU sb (some ⟨g,0,none⟩) cb vo) w (w1.setCell ⟨sb,so,none⟩ (.slice (some ⟨g,0,none⟩) (D.length+1) cap')):=by
 have hz:=hW.size
 have s0:=af h.st.blk
 have c0:=af h.sc.blk
 have keep:∀k,k<w.heap.size→k≠sb→¬rowOf no k→(w1.setCell ⟨sb,so,none⟩ (.slice (some ⟨g,0,none⟩) (D.length+1) cap')).heap[k]?=w.heap[k]?:=fun k h1 h2 h3=>by
  rw[aF _ _ _ _ h2,hg.block k (by omega) (bP h3),hW.block k h1]
 have nsb:¬rowOf no sb:=aN h.st.own h.st.blk h.st.ty
 have ncb:¬rowOf no cb:=aN h.st.own h.sc.blk (by decide)
 have gsb:g≠sb:=fun e=>by
  rcases hat with q | q
  ·exact nsb (e ▸ q)
  ·omega
 have row:∀k,bU sb (some ⟨g,0,none⟩) cb vo k→bU sb no cb vo k∨w.heap.size≤k:=by
  rintro k (e | ⟨p,q,e⟩ | e | e)
  ·exact Or.inl (Or.inl e)
  ·cases q
   dsimp only at e
   subst e
   rcases hat with q | q
   ·exact Or.inl (Or.inr (Or.inl q))
   ·exact Or.inr q
  ·exact Or.inl (Or.inr (Or.inr (Or.inl e)))
  ·exact Or.inl (Or.inr (Or.inr (Or.inr e)))
 have fS:∀(k:Nat) (ys:Array Value) (S:TypeId),w.heap[k]?=some (.cells ys S (0,0))→S≠T→S≠180→(w1.setCell ⟨sb,so,none⟩ (.slice (some ⟨g,0,none⟩) (D.length+1) cap')).heap[k]?=some (.cells ys S (0,0)):=fun k ys S hk h1 h2=>(keep k (af hk) (fun e=>by
  rw[e,h.st.blk]at hk
  simp only[Option.some.injEq,Obj.cells.injEq]at hk
  exact h1 hk.2.1.symm) (aN h.st.own hk h2)).trans hk
 refine⟨⟨⟨?_,?_,?_,h.st.ty⟩,⟨fS cb _ _ h.sc.blk (Ne.symm h.t1) (by decide),ah h.sc.own fun k q=> ?_⟩,h.t1,h.t2,?_⟩,⟨hg.os.trans hW.os,hg.tape.trans hW.tape,hg.output.trans hW.output,by rw[cC];have:=hg.size;omega,fun k hk hr=>keep k hk (fun e=>hr (Or.inl e)) (fun q=>hr (Or.inr (Or.inl q))),row⟩⟩
 ·have q0:w1.heap[sb]?=some (.cells cs T (0,0)):=by
   rw[hg.block sb (by omega) (bP nsb),hW.block sb s0]
   exact h.st.blk
  exact au q0 so _
 ·rw[Array.getElem?_setIfInBounds,if_pos rfl,if_pos rL]
  simp
 ·rw[G3,List.length_append]
  exact ah hown (fun k q=>aF _ _ _ _ (by simp[Value.ownBlock]at q;omega))
 ·obtain⟨cur,hc⟩:=aH h.sc.own (aD q)
  exact(fS k _ _ hc (Ne.symm h.t2) (by decide)).trans hc.symm
 ·intro d' hd' hne
  rcases List.mem_append.1 hd' with q | q
  ·obtain⟨r,xs,h1,h2,h3,h4⟩:=h.args d' q hne
   exact⟨r,xs,h1,h2,fS r _ _ h3 (Ne.symm h.t2) (by decide),h4⟩
  ·obtain rfl:d'=d:=by simpa using q
   obtain⟨r,xs,h1,h2,h3,h4,h5,h6⟩:=hd hne
   exact⟨r,xs,h1,⟨h2,h3⟩,fS r _ _ h5 (Ne.symm h.t2) (by decide),h6⟩
theorem fD.U9 {W w1:World} (h:fD P w sb so cs T cb D V no nc vo vc) (hW:Below w.heap.size w W) {g cap' n:Nat}
 (hown:w1.ownsRow 0 3 1 (.slice (some ⟨g,0,none⟩) (V.length+1) cap') (V.length+1) (V.map aI++[aI n])) (hg:W.grownBy w1 (Value.slice vo V.length vc).ownBlock) (hat:rowOf vo g∨w.heap.size≤g):
 fD P (w1.setCell ⟨cb,0,none⟩ (.slice (some ⟨g,0,none⟩) (V.length+1) cap')) sb so cs T cb D (V++[n]) no nc (some ⟨g,0,none⟩) cap'∧aj (bU sb no cb vo) (bU sb no cb (some ⟨g,0,none⟩)) w (w1.setCell ⟨cb,0,none⟩ (.slice (some ⟨g,0,none⟩) (V.length+1) cap')):=by
 have hz:=hW.size
 have s0:=af h.st.blk
 have c0:=af h.sc.blk
 have keep:∀k,k<w.heap.size→k≠cb→¬rowOf vo k→(w1.setCell ⟨cb,0,none⟩ (.slice (some ⟨g,0,none⟩) (V.length+1) cap')).heap[k]?=w.heap[k]?:=fun k h1 h2 h3=>by
  rw[aF _ _ _ _ h2,hg.block k (by omega) (bP h3),hW.block k h1]
 have ncb:¬rowOf vo cb:=aN h.sc.own h.sc.blk (by decide)
 have gcb:g≠cb:=fun e=>by
  rcases hat with q | q
  ·exact ncb (e ▸ q)
  ·omega
 have row:∀k,bU sb no cb (some ⟨g,0,none⟩) k→bU sb no cb vo k∨w.heap.size≤k:=by
  rintro k (e | e | e | ⟨p,q,e⟩)
  ·exact Or.inl (Or.inl e)
  ·exact Or.inl (Or.inr (Or.inl e))
  ·exact Or.inl (Or.inr (Or.inr (Or.inl e)))
  ·cases q
   dsimp only at e
   subst e
   rcases hat with q | q
   ·exact Or.inl (Or.inr (Or.inr (Or.inr q)))
   ·exact Or.inr q
 have fS:∀(k:Nat) (ys:Array Value) (S:TypeId),w.heap[k]?=some (.cells ys S (0,0))→S≠93→S≠3→(w1.setCell ⟨cb,0,none⟩ (.slice (some ⟨g,0,none⟩) (V.length+1) cap')).heap[k]?=some (.cells ys S (0,0)):=fun k ys S hk h1 h2=>(keep k (af hk) (fun e=>by
  rw[e,h.sc.blk]at hk
  simp only[Option.some.injEq,Obj.cells.injEq]at hk
  exact h1 hk.2.1.symm) (aN h.sc.own hk h2)).trans hk
 refine⟨⟨⟨fS sb _ _ h.st.blk h.t1 h.t2,h.st.cel,ah h.st.own fun k q=> ?_,h.st.ty⟩,⟨?_,?_⟩,h.t1,h.t2,?_⟩,⟨hg.os.trans hW.os,hg.tape.trans hW.tape,hg.output.trans hW.output,by rw[cC];have:=hg.size;omega,fun k hk hr=>keep k hk (fun e=>hr (Or.inr (Or.inr (Or.inl e)))) (fun q=>hr (Or.inr (Or.inr (Or.inr q)))),row⟩⟩
 ·obtain⟨cur,hc⟩:=aH h.st.own (aD q)
  exact(fS k _ _ hc (by decide) (by decide)).trans hc.symm
 ·have q0:w1.heap[cb]?=some (.cells #[.slice vo V.length vc] 93 (0,0)):=by
   rw[hg.block cb (by omega) (bP ncb),hW.block cb c0]
   exact h.sc.blk
  have:=au q0 0 (.slice (some ⟨g,0,none⟩) (V.length+1) cap')
  simpa using this
 ·rw[List.length_append,List.map_append]
  exact ah hown (fun k q=>aF _ _ _ _ (by simp[Value.ownBlock]at q;omega))
 ·intro d' hd' hne
  obtain⟨r,xs,h1,⟨h2,h2'⟩,h3,h4⟩:=h.args d' hd' hne
  refine⟨r,xs,h1,⟨h2,?_⟩,(keep r (af h3) (fun e=>by
   rw[e,h.sc.blk]at h3
   simp only[Option.some.injEq,Obj.cells.injEq]at h3
   exact absurd h3.2.1 (by decide)) h2').trans h3,h4⟩
  rintro⟨p,q,e⟩
  cases q
  dsimp only at e
  subst e
  rcases hat with q | q
  ·exact h2' q
  ·have:=af h3;omega
end
end Go.Proofs.YthfjnfcekeknlaaGreatDoor
namespace Go.Proofs.YthfjnfcekeknlaaGreatDoor
open Go.RowKit
theorem Hv (w:World) (sb so cb:Nat) (V:List Nat) (vo:Option Addr) (vc:Nat) (i:Nat) (h:Bp w cb V vo vc) (hi:i<V.length):
 Calls Tryz.prog 94 #[.pointer (some ⟨sb,so,none⟩),.int .i64 (i:Int),.pointer (some ⟨cb,0,none⟩)] w fun e w'=>e= .returned (aI V[i])∧w'=w:=by
 have c0:=ag h.blk 0
 have cz:=af h.blk
 simp only[List.getElem?_toArray,List.getElem?_cons_zero]at c0
 obtain⟨g,hg⟩:∃g,vo=some ⟨g,0,none⟩:=by
  rcases h.own.2 with⟨q,q2⟩ | ⟨g,cp,cur,q,_⟩
  ·omega
  ·simp only[Value.slice.injEq]at q
   exact⟨g,q.1⟩
 subst hg
 have f0:w.cell? ⟨g,i,none⟩=some (.int .i64 (V[i]:Int)):=by
  rw[h.own.cellAt i (by omega),List.getElem?_map,List.getElem?_eq_getElem hi]
  rfl
 have gz:=(h.own.lt g rfl).2
 have i0:(0:Int)≤(i:Int):=by omega
 have i1:(i:Int)<(V.length:Int):=by omega
 have t1:decide ((V.length:Int)≤(i:Int))=false:=by simp;omega
 have t2:decide ((i:Int)<0)=false:=by simp
 clear h
 generalize V[i]=n at*
 go_enter Tryz.func94,Tryz.ntmps94
 go_wp2_with fail
 refine wp_loop_rounds 1 ?_
 rw[rounds_succ]
 go_wp2_with fail
 go_ret
 exact⟨rfl,rfl⟩
def sK (n:Nat):Ng:=⟨1,0,⟨#[]⟩,0,none,0,[],n,0⟩
theorem Hw (P:Nat→Prop) (w:World) (sb so:Nat) (cs:Array Value) (T:TypeId) (cb:Nat) (D:List Ng) (V:List Nat) (no:Option Addr) (nc:Nat) (vo:Option Addr) (vc:Nat) (h:fD P w sb so cs T cb D V no nc vo vc) (hP:∀g,w.heap.size≤g→P g) (hd:D.length≤1000000000) (hv:V.length≤1000000000):
 Calls Tryz.prog 94 #[.pointer (some ⟨sb,so,none⟩),.int .i64 (V.length:Int),.pointer (some ⟨cb,0,none⟩)] w fun e w'=>e= .returned (aI D.length)∧∃no' nc' vo' vc',fD P w' sb so (cs.setIfInBounds so (.slice no' (D.length+1) nc')) T cb (D++[sK D.length]) (V++[D.length]) no' nc' vo' vc'∧aj (bU sb no cb vo) (bU sb no' cb vo') w w':=by
 obtain⟨ti,hi,hz0,hz1,hz2⟩:=info_parts infoNd
 obtain⟨tj,hj,hy0,hy1,hy2⟩:=info_parts infoIn
 have s0:=h.st.cell
 have sz:=af h.st.blk
 have c0:=ag h.sc.blk 0
 have cz:=af h.sc.blk
 simp only[List.getElem?_toArray,List.getElem?_cons_zero]at c0
 have hne:=h.ne
 have rL:so<cs.size:=by
  have:=h.st.cel
  exact(Array.getElem?_eq_some_iff.1 this).1
 have H:=hide h
 have HP:=hide hP
 have Hx:=hide rL
 have t1:decide ((V.length:Int)≤(V.length:Int))=true:=by simp
 have t2:decide ((V.length:Int)<0)=false:=by simp
 have t3:decide ((V.length:Int)+1≤(V.length:Int))=false:=by simp;omega
 have i0:(0:Int)≤(V.length:Int):=by omega
 have i1:(V.length:Int)<(V.length:Int)+1:=by omega
 have n1:sb≠cb:=hne
 have n2:cb≠sb:=Ne.symm hne
 have sF:=hide (show some sb≠(Value.slice no D.length nc).ownBlock from bP (aN h.st.own h.st.blk h.st.ty))
 have WK:=hide (show some cb≠(Value.slice no D.length nc).ownBlock from bP (aN h.st.own h.sc.blk (by decide)))
 have U':=hide (show some cb≠(Value.slice vo V.length vc).ownBlock from bP (aN h.sc.own h.sc.blk (by decide)))
 clear h hP rL
 go_enter Tryz.func94,Tryz.ntmps94
 go_wp2_with fail
 refine wp_loop_rounds 2 ?_
 rw[rounds_succ]
 go_wp2_with (first | (at_builtin;go_loud ((refine wpList_append_own_at _ rfl (.tmp 36) (.tmp 38) 25 rfl 0 3 tj (.int .i64 0) 1 8 Tryz.underlying25 hj hy0 hy1 hy2 rfl (by decide) _ V.length (V.map aI) rfl ((ae HN).1.sc.own.alloc _) ⟨w7.heap.size,0,none⟩ 1 1 [.int .i64 (D.length:Int)] rfl rfl (ie _ _ _ _ (by rw[cC])) (by simp[Value.oneCell']) (by unfold maxLen;omega) (by omega) (Nat.zero_le _) ?_);(intro v2 w9 hown2 hgrow2 _ PN;obtain⟨g2,cap2,hv2,-⟩:=ed hown2;subst hv2;have HM:=hide ((ae HN).1.U9 ((Below.refl _ _).alloc (Nat.le_refl _) _) (n:=D.length) hown2 hgrow2 (by rcases PN with q | q;exact Or.inl (aD q.symm);(right;simp only[Value.ownBlock,World.size_alloc,cC,Option.some.injEq]at q⊢;omega)));have m0:=(hgrow2.cell_far ⟨cb,0,none⟩ (by simp only[World.size_alloc,cC];omega) (ae U')).trans ((World.cell?_alloc_past _ _ _ (by rw[cC];exact zz7)).trans ((World.cell?_setCell_other _ _ _ _ (by intro e;first | exact n1 (congrArg Addr.block e) | exact n2 (congrArg Addr.block e))).trans k0));have m1:w9.frozen? ⟨cb,0,none⟩=false:=(by have:=aq (ae HM).1.sc.blk 0;rwa [World.frozen?_setCell]at this);have m2:w9.cell? ⟨g2,V.length,none⟩=some (.int .i64 (D.length:Int)):=(hown2.cellAt V.length (by omega)).trans (by simp);have mz:=(hown2.lt g2 rfl);have hcw:=af (ae HM).1.sc.blk;have mne:cb≠g2:=(fun e=>aN (ae HM).1.sc.own (ae HM).1.sc.blk (by decide) ⟨_,rfl,e⟩);clear hown2 hgrow2 PN))) | (at_builtin;go_must (refine wpList_append_own_at _ rfl (.tmp 24) (.tmp 28) 86 rfl 0 180 ti (.agg #[.int .i64 0,.int .i64 0,.string ⟨#[]⟩,.int .i64 0,.slice none 0 0,.int .i64 0,.int .i64 0]) 7 80 Tryz.underlying86 hi hz0 hz1 hz2 rfl (by decide) _ D.length (jS D) rfl ((ae H).st.own.alloc _) ⟨w.heap.size,0,none⟩ 1 1 [.int .i64 1,.int .i64 0,.string ⟨#[]⟩,.int .i64 0,.slice none 0 0,.int .i64 (D.length:Int),.int .i64 0] rfl rfl (SX _ _ _ _ _ rfl rfl) (by simp[Value.oneCell']) (by unfold maxLen;omega) (by omega) (Nat.zero_le _) ?_);go_must (intro v' w7 hown' hgrow _ hat;obtain⟨g',cap',hv',-⟩:=ed hown';subst hv';have HN:=hide ((ae H).node (ae HP) (ae Hx) ((Below.refl _ _).alloc (Nat.le_refl _) _) (d:=sK D.length) hown' hgrow (by rcases hat with q | q;exact Or.inl (aD q.symm);(right;simp[Value.ownBlock]at q;omega)) (fun q=>absurd rfl q));have k0:=(hgrow.cell_far ⟨cb,0,none⟩ (by simp;omega) (ae WK)).trans ((World.cell?_alloc_past _ _ _ cz).trans c0);have k1:=(hgrow.cell_far ⟨sb,so,none⟩ (by simp;omega) (ae sF)).trans ((World.cell?_alloc_past _ _ _ sz).trans s0);have k3:w7.frozen? ⟨sb,so,none⟩=false:=(by have:=aq (ae HN).1.st.blk so;rwa [World.frozen?_setCell]at this);have zz7:cb<w7.heap.size:=(by have:=af (ae HN).1.sc.blk;rwa [cC]at this);have zz8:sb<w7.heap.size:=(by have:=af (ae HN).1.st.blk;rwa [cC]at this);clear hown' hgrow hat)))
 rw[rounds_succ]
 go_wp2_with fail
 go_ret
 exact⟨rfl,_,_,_,_,(ae HM).1,(ae HN).2.trans (ae HM).2⟩
theorem MM {α β:Type} {R:α→β→Prop}:∀{xs:List α} {ys:List β},bK R xs ys→∀(i:Nat) (h:i<xs.length) (h':i<ys.length),R xs[i] ys[i]
 | _ :: _,_ :: _,q,0,_,_=>q.1
 | _ :: _,_ :: _,q,i+1,h,h'=>MM q.2 i (by simpa using h) (by simpa using h')
theorem Oo {us:List AV} {i:Nat} (h:i<us.length) (j:Nat) (hj:j<4):(us.flatMap gq)[i*4+j]?=(gq us[i])[j]?:=qu (F:=gq) (c:=4) (fun _=>rfl) h j hj
def sL (D:List Ng) (V:List Nat) (N:List (List UInt8)):Nat→Nat→Za.Tm→Prop
 | 0,_,_=>False
 | f+1,n,t=>(t.kind=3→V[N.idxOf t.text.toList]?=some n)∧(t.kind≠3→∃d,D[n]?=some d∧d.nx=n∧d.k=ak t.kind∧(t.kind=4→d.val=(Za.numOf t.text:Int))∧(t.kind=2→d.tx=t.text)∧bK (sL D V N f) d.args t.args)
theorem sL.more {D E:List Ng} {V F:List Nat} {N:List (List UInt8)}:∀{f n:Nat} {t:Za.Tm},sL D V N f n t→sL (D++E) (V++F) N f n t
 | f+1,n,t,⟨h1,h2⟩=>⟨fun k=>by have:=h1 k;rw[List.getElem?_append_left (List.getElem?_eq_some_iff.1 this).1];exact this,fun k=>by
  obtain⟨d,q1,q2,q3,q4,q5,q6⟩:=h2 k
  exact⟨d,by rw[List.getElem?_append_left (List.getElem?_eq_some_iff.1 q1).1];exact q1,q2,q3,q4,q5,q6.imp fun _ _=>sL.more⟩⟩
def dB (b:Nat) (E:List Ng):Prop:=∀(i:Nat) (d:Ng),E[i]?=some d→d.nx=b+i∧d.mrk=0∧gf (b+i) d∧d.tx.size≤240∧0≤d.val∧d.val≤1000000000
theorem dB.app {b:Nat} {E E2:List Ng} (h:dB b E) (h2:dB (b+E.length) E2):dB b (E++E2):=fun i d hd=>by
 by_cases q:i<E.length
 ·rw[List.getElem?_append_left q]at hd
  exact h i d hd
 ·rw[List.getElem?_append_right (by omega)]at hd
  have:=h2 _ d hd
  rw[show b+E.length+(i - E.length)=b+i by omega]at this
  exact this
theorem dB.one {b:Nat} {d:Ng} (h:d.nx=b∧d.mrk=0∧gf b d∧d.tx.size≤240∧0≤d.val∧d.val≤1000000000):dB b [d]:=fun i e he=>by
 cases i with
 | zero=>simp at he;subst he;simpa using h
 | succ i=>simp at he
structure fA (b:Nat) (E:List Ng) (F:List Nat):Prop where
 var:∀n∈F,b≤n∧∃d,E[n - b]?=some d∧d.k=1
 ord:F.Pairwise (·<·)
theorem fA.app {b:Nat} {E E2:List Ng} {F F2:List Nat} (h:fA b E F) (h2:fA (b+E.length) E2 F2):fA b (E++E2) (F++F2):=by
 refine⟨fun n hn=> ?_,?_⟩
 ·rcases List.mem_append.1 hn with q | q
  ·obtain⟨h1,d,h3,h4⟩:=h.var n q
   exact⟨h1,d,by rw[List.getElem?_append_left (List.getElem?_eq_some_iff.1 h3).1];exact h3,h4⟩
  ·obtain⟨h1,d,h3,h4⟩:=h2.var n q
   refine⟨by omega,d,?_,h4⟩
   rw[List.getElem?_append_right (by omega),show n - b - E.length=n - (b+E.length)by omega]
   exact h3
 ·rw[List.pairwise_append]
  refine⟨h.ord,h2.ord,fun x hx y hy=> ?_⟩
  obtain⟨h1,d,h3,_⟩:=h.var x hx
  obtain⟨h4,_⟩:=h2.var y hy
  have:=(List.getElem?_eq_some_iff.1 h3).1
  omega
theorem fA.nil (b:Nat) (E:List Ng):fA b E []:=⟨(fun n hn=>by cases hn),List.Pairwise.nil⟩
theorem fA.last {b:Nat} {E:List Ng} {F:List Nat} (h:fA b E F) (d:Ng):fA b (E++[d]) F:=by
 have:=h.app (fA.nil (b+E.length) [d])
 rwa [List.append_nil]at this
def D5 (P:Nat→Prop) (sb so:Nat) (cs:Array Value) (T:TypeId) (cb:Nat) (D:List Ng) (V:List Nat) (no:Option Addr) (vo:Option Addr) (N ns:List (List UInt8)) (f:Nat) (t:Za.Tm) (w:World) (e:Ending) (w':World):Prop:=
 ∃(n:Nat) (E:List Ng) (F:List Nat) (no':Option Addr) (nc':Nat) (vo':Option Addr) (vc':Nat),e= .returned (aI n)∧fD P w' sb so (cs.setIfInBounds so (.slice no' (D++E).length nc')) T cb (D++E) (V++F) no' nc' vo' vc'∧dB D.length E∧fA D.length E F∧(V++F).length=(Za.namesF f ns t).length∧sL (D++E) (V++F) N f n t∧n<(D++E).length∧E.length+1≤3 ^ f∧aj (bU sb no cb vo) (bU sb no' cb vo') w w'
def Hy (f:Nat):Prop:=∀(P:Nat→Prop) (w:World) (sb so:Nat) (cs:Array Value) (T:TypeId) (cb:Nat) (D:List Ng) (V:List Nat) (no:Option Addr) (nc:Nat) (vo:Option Addr) (vc:Nat) (N ns:List (List UInt8)) (Q:Nat→Prop) (a:AV) (t:Za.Tm),fD P w sb so cs T cb D V no nc vo vc→(∀g,w.heap.size≤g→P g)→T≠76→(∀n∈V,n<D.length)→RA f N Q w a t→Za.wfK f t→V.length=ns.length→(∃M,N=Za.namesF f ns t++M)→D.length+3 ^ f≤1000000000→V.length+3 ^ f≤1000000000→
 Calls Tryz.prog 54 #[.pointer (some ⟨sb,so,none⟩),.agg #[.int .i64 a.k,.int .i64 a.val,.string a.tx,.slice a.ao a.n a.cap],.pointer (some ⟨cb,0,none⟩)] w fun e w'=>D5 P sb so cs T cb D V no vo N ns f t w e w'
theorem PO (f:Nat) (P:Nat→Prop) (w:World) (sb so:Nat) (cs:Array Value) (T:TypeId) (cb:Nat) (D:List Ng) (V:List Nat) (no:Option Addr) (nc:Nat) (vo:Option Addr) (vc:Nat) (N ns:List (List UInt8)) (a:AV) (t:Za.Tm) (h:fD P w sb so cs T cb D V no nc vo vc) (hP:∀g,w.heap.size≤g→P g) (hV:∀n∈V,n<D.length) (ha:lG N a t) (_hw:Za.wfK (f+1) t) (ka:t.kind=3) (hv:V.length=ns.length) (hN:∃M,N=Za.namesF (f+1) ns t++M) (hd:D.length+3 ^ (f+1)≤1000000000) (hvl:V.length+3 ^ (f+1)≤1000000000):
 Calls Tryz.prog 54 #[.pointer (some ⟨sb,so,none⟩),.agg #[.int .i64 a.k,.int .i64 a.val,.string a.tx,.slice a.ao a.n a.cap],.pointer (some ⟨cb,0,none⟩)] w fun e w'=>D5 P sb so cs T cb D V no vo N ns (f+1) t w e w':=by
 have hp:3≤3 ^ (f+1):=by rw[Nat.pow_succ];have:1≤3 ^ f:=Nat.one_le_pow _ _ (by omega);omega
 have Bq:Za.namesF (f+1) ns t=Za.cW ns t.text.toList:=by unfold Za.namesF;rw[if_pos ka]
 rw[Bq]at hN
 obtain⟨M,hM⟩:=hN
 obtain⟨h1,h2,h3,h4,h5,h6,h7,h8⟩:=ha
 obtain⟨h9,h10⟩:=h3 ka
 obtain⟨k,val,tx,ao,n,cp⟩:=a
 dsimp only at h1 h2 h10⊢
 have e1:ak t.kind=1:=by rw[ka];rfl
 have hB:=(Below.refl w.heap.size w).alloc (Nat.le_refl _) (.cells #[.int .i64 k,.int .i64 val,.string tx,.slice ao n cp] 76)
 have HW:=hide (h.below hB)
 rw[e1]at h1
 subst h1 h10
 have hcs:∀(cs:Array Value) (so:Nat) (v:Value),cs[so]?=some v→cs.setIfInBounds so v=cs:=fun cs so v q=>by
  apply Array.ext (by simp)
  intro i h1 h2
  rw[Array.getElem_setIfInBounds]
  ·split
   ·rename_i e
    subst e
    exact(Array.getElem?_eq_some_iff.1 q).2.symm
   ·rfl
 by_cases hx:t.text.toList∈ns
 ·have qf:N.idxOf t.text.toList=ns.idxOf t.text.toList:=by
   rw[hM]
   unfold Za.cW
   rw[if_pos hx,List.idxOf_append,if_pos hx]
  have hlt:N.idxOf t.text.toList<V.length:=by rw[qf,hv];exact List.idxOf_lt_length_of_mem hx
  have HI:=hide (Hv _ sb so cb V vo vc (N.idxOf t.text.toList) (ae HW).sc hlt)
  have di:=hide (show D5 P sb so cs T cb D V no vo N ns (f+1) t w (.returned (aI V[N.idxOf t.text.toList])) (w.alloc (.cells #[.int .i64 1,.int .i64 (N.idxOf t.text.toList:Int),.string tx,.slice ao n cp] 76))from by
   refine⟨V[N.idxOf t.text.toList],[],[],no,nc,vo,vc,rfl,?_,(fun i d hd=>by simp at hd),fA.nil _ _,?_,?_,?_,by simp;omega,aj.of_below hB⟩
   ·have:=hcs cs so _ h.st.cel
    simp only[List.append_nil]
    rw[this]
    exact ae HW
   ·rw[Bq];unfold Za.cW;rw[if_pos hx];simpa using hv
   ·exact⟨fun _=>by simp,fun q=>absurd ka q⟩
   ·simpa using hV _ (List.getElem_mem hlt))
  clear h hP hV h2 h3 h4 h5 h6 h7 h8 h9 hB hcs
  generalize MN:V[N.idxOf t.text.toList]=m at*
  generalize WL:N.idxOf t.text.toList=ix at*
  clear MN WL qf hv hM
  go_enter Tryz.func54,Tryz.ntmps54
  go_wp2_with fail
  refine(ae HI).mono ?_
  rintro e w2 ⟨rfl,hw2⟩
  rw[hw2]
  clear hw2 w2
  unfold aI at di⊢
  go_wp2_with fail
  go_ret
  exact ae di
 ·have qf:N.idxOf t.text.toList=V.length:=by
   rw[hM,hv]
   unfold Za.cW
   rw[if_neg hx,List.append_assoc,List.idxOf_append,if_neg hx]
   simp
  rw[qf]at HW hB⊢
  have HI:=hide (Hw P _ sb so cs T cb D V no nc vo vc (ae HW) (fun g q=>hP g (by simp at q;omega)) (by omega) (by omega))
  have di:=hide (show∀w2,(∃no' nc' vo' vc',fD P w2 sb so (cs.setIfInBounds so (.slice no' (D.length+1) nc')) T cb (D++[sK D.length]) (V++[D.length]) no' nc' vo' vc'∧aj (bU sb no cb vo) (bU sb no' cb vo') (w.alloc (.cells #[.int .i64 1,.int .i64 (V.length:Int),.string tx,.slice ao n cp] 76)) w2)→D5 P sb so cs T cb D V no vo N ns (f+1) t w (.returned (aI D.length)) w2 from fun w2 ⟨no',nc',vo',vc',q1,q2⟩=>by
   refine⟨D.length,[sK D.length],[D.length],no',nc',vo',vc',rfl,by rw[List.length_append];exact q1,dB.one ⟨rfl,rfl,⟨Or.inl rfl,fun _=>⟨rfl,rfl,rfl,rfl⟩,(fun q=>by cases q),(fun q=>by cases q),fun a ha=>by cases ha⟩,by simp[sK,ByteArray.size],by simp[sK],by simp[sK]⟩,⟨fun n hn=> ?_,by simp⟩,?_,?_,by simp,by simp;omega,(aj.of_below hB).trans q2⟩
   ·obtain rfl:n=D.length:=by simpa using hn
    exact⟨Nat.le_refl _,sK D.length,by simp,rfl⟩
   ·rw[Bq];unfold Za.cW;rw[if_neg hx];simp[hv]
   ·exact⟨fun _=>by rw[qf];simp,fun q=>absurd ka q⟩)
  clear h hP hV h2 h3 h4 h5 h6 h7 h8 h9 qf hv hM hB hcs
  go_enter Tryz.func54,Tryz.ntmps54
  go_wp2_with fail
  refine(ae HI).mono ?_
  rintro e w2 ⟨rfl,hs2⟩
  have HF:=hide (ae di w2 hs2)
  clear hs2
  unfold aI at HF⊢
  go_wp2_with fail
  go_ret
  exact ae HF
section
variable {P:Nat→Prop} {w:World} {sb so:Nat} {cs:Array Value} {T:TypeId} {cb:Nat} {D:List Ng} {V:List Nat} {no:Option Addr} {nc:Nat} {vo:Option Addr} {vc:Nat}
theorem fD.grown {w7:World} {X:Obj} {o o':Option Addr} {n cap b:Nat} {xs:List Value} (h:fD (fun g=>P g∧¬rowOf o g) w sb so cs T cb D V no nc vo vc) (ho:w.ownsRow b 3 1 (.slice o n cap) n xs) (gD:∀g,rowOf o g→¬rowOf vo g) (hg:(w.alloc X).grownBy w7 (Value.slice o n cap).ownBlock) (hat:∀g,rowOf o' g→rowOf o g∨w.heap.size<g):fD (fun g=>P g∧¬rowOf o' g) w7 sb so cs T cb D V no nc vo vc:=by
 have keep:∀k,k<w.heap.size→¬rowOf o k→w7.heap[k]?=w.heap[k]?:=fun k h1 h2=>by
  rw[hg.block k (by simp;omega) (bP h2),Below.heap_alloc _ _ _ h1]
 have fS:∀(k:Nat) (ys:Array Value) (S:TypeId),w.heap[k]?=some (.cells ys S (0,0))→S≠3→w7.heap[k]?=some (.cells ys S (0,0)):=fun k ys S hk h2=>(keep k (af hk) (aN ho hk h2)).trans hk
 refine⟨⟨fS sb _ _ h.st.blk h.t2,h.st.cel,ah h.st.own fun k q=> ?_,h.st.ty⟩,⟨fS cb _ _ h.sc.blk (by decide),ah h.sc.own fun k q=> ?_⟩,h.t1,h.t2,fun d hd hne=> ?_⟩
 ·obtain⟨cur,hc⟩:=aH h.st.own (aD q)
  exact(fS k _ _ hc (by decide)).trans hc.symm
 ·exact keep k (h.sc.own.lt k q).2 (fun r=>gD k r (aD q))
 ·obtain⟨r,ys,h1,⟨⟨h2,h3⟩,h4⟩,h5,h6⟩:=h.args d hd hne
  refine⟨r,ys,h1,⟨⟨h2,fun q=> ?_⟩,h4⟩,(keep r (af h5) h3).trans h5,h6⟩
  rcases hat r q with q | q
  ·exact h3 q
  ·have:=af h5;omega
theorem fD.ra {w':World} {R':Nat→Prop} {f:Nat} {N:List (List UInt8)} {Q:Nat→Prop} {a:AV} {t:Za.Tm} (h:fD P w sb so cs T cb D V no nc vo vc) (hT:T≠76) (hf:aj (bU sb no cb vo) R' w w') (hr:RA f N Q w a t):RA f N Q w' a t:=
 hr.keep fun g _ hp hg _=>⟨(hf.block g (af hg) (by
  rintro(e | e | e | e)
  ·rw[e,h.st.blk]at hg
   simp only[Option.some.injEq,Obj.cells.injEq]at hg
   exact hT hg.2.1
  ·exact aN h.st.own hg (by decide) e
  ·rw[e,h.sc.blk]at hg
   simp only[Option.some.injEq,Obj.cells.injEq]at hg
   exact absurd hg.2.1 (by decide)
  ·exact aN h.sc.own hg (by decide) e)).trans hg,hp⟩
theorem fD.blk {w':World} {R':Nat→Prop} {g:Nat} {ys:Array Value} {S:TypeId} (h:fD P w sb so cs T cb D V no nc vo vc) (hf:aj (bU sb no cb vo) R' w w') (hg:w.heap[g]?=some (.cells ys S (0,0))) (h1:S≠T) (h2:S≠180) (h3:S≠93) (h4:S≠3):w'.heap[g]?=some (.cells ys S (0,0)):=
 (hf.block g (af hg) (by
  rintro(e | e | e | e)
  ·rw[e,h.st.blk]at hg
   simp only[Option.some.injEq,Obj.cells.injEq]at hg
   exact h1 hg.2.1.symm
  ·exact aN h.st.own hg h2 e
  ·rw[e,h.sc.blk]at hg
   simp only[Option.some.injEq,Obj.cells.injEq]at hg
   exact h3 hg.2.1.symm
  ·exact aN h.sc.own hg h4 e)).trans hg
end
theorem set_set (cs:Array Value) (so:Nat) (u v:Value):(cs.setIfInBounds so u).setIfInBounds so v=cs.setIfInBounds so v:=by simp
theorem lO {cs:Array Value} {so:Nat} {v:Value} (q:cs[so]?=some v):cs.setIfInBounds so v=cs:=by
 apply Array.ext (by simp)
 intro i h1 h2
 rw[Array.getElem_setIfInBounds]
 split
 ·rename_i e
  subst e
  exact(Array.getElem?_eq_some_iff.1 q).2.symm
 ·rfl
def T6 (P:Nat→Prop) (w:World) (sb so:Nat) (cs:Array Value) (T:TypeId) (cb:Nat) (D:List Ng) (V:List Nat) (no:Option Addr) (vo:Option Addr) (N ns:List (List UInt8)) (f:Nat) (t:Za.Tm) (C:Array Value) (k:Nat) (av iv:Value) (wr:World):Prop:=
 ∃(j:Nat) (E:List Ng) (F:List Nat) (no1:Option Addr) (nc1:Nat) (vo1:Option Addr) (vc1:Nat) (gs:List Nat) (oo:Option Addr) (cp:Nat),k+j=t.args.length∧iv= .int .i64 (j:Int)∧av= .slice oo j cp∧fD (fun g=>P g∧¬rowOf oo g) wr sb so (cs.setIfInBounds so (.slice no1 (D++E).length nc1)) T cb (D++E) (V++F) no1 nc1 vo1 vc1∧dB D.length E∧fA D.length E F∧(V++F).length=((t.args.take j).foldl (Za.namesF f) ns).length∧
  wr.ownsRow (w.heap.size+1) 3 1 (.slice oo j cp) j (gs.map aI)∧(∀g,rowOf oo g→¬rowOf vo1 g)∧gs.length=j∧bK (sL (D++E) (V++F) N f) gs (t.args.take j)∧(∀g∈gs,g<(D++E).length)∧E.length+j≤j*3 ^ f∧aj (bU sb no cb vo) (bU sb no1 cb vo1) w wr∧wr.heap[w.heap.size]?=some (.cells C 76 (0,0))∧(∀n∈V++F,n<(D++E).length)
theorem Oq {f:Nat} (IH:Hy f) (P:Nat→Prop) (w:World) (sb so:Nat) (cs:Array Value) (T:TypeId) (cb:Nat) (D:List Ng) (V:List Nat) (no:Option Addr) (nc:Nat) (vo:Option Addr) (vc:Nat) (N ns:List (List UInt8)) (Q:Nat→Prop) (a:AV) (t:Za.Tm) (h:fD P w sb so cs T cb D V no nc vo vc) (hP:∀g,w.heap.size≤g→P g) (hT:T≠76) (hV:∀n∈V,n<D.length) (hr:RA (f+1) N Q w a t) (hw:Za.wfK (f+1) t) (ka:t.kind≠3) (hv:V.length=ns.length) (hN:∃M,N=Za.namesF (f+1) ns t++M) (hd:D.length+3 ^ (f+1)≤1000000000) (hvl:V.length+3 ^ (f+1)≤1000000000):
 Calls Tryz.prog 54 #[.pointer (some ⟨sb,so,none⟩),.agg #[.int .i64 a.k,.int .i64 a.val,.string a.tx,.slice a.ao a.n a.cap],.pointer (some ⟨cb,0,none⟩)] w fun e w'=>D5 P sb so cs T cb D V no vo N ns (f+1) t w e w':=by
 obtain⟨⟨h1,h2,h3,h4,h5,h6,h7,h8⟩,hrow⟩:=hr
 have Bq:Za.namesF (f+1) ns t=t.args.foldl (Za.namesF f) ns:=by
  unfold Za.namesF
  rw[if_neg ka]
  by_cases k4:t.kind=4
  ·rw[if_pos k4,hw.2.1 (by omega)];rfl
  ·rw[if_neg k4]
 rw[Bq]at hN
 have rL:so<cs.size:=(Array.getElem?_eq_some_iff.1 h.st.cel).1
 have hrows:=h.rows
 obtain⟨ki,val,tx,ao,n,cp⟩:=a
 dsimp only at h1 h2 h4 h5 hrow⊢
 subst h2
 have hk1:(ki == 1)=false:=by rw[h1];rcases h6 with e | e | e<;>first | (exact absurd e ka) | (rw[e];decide)
 have hB:=(Below.refl w.heap.size w).alloc (Nat.le_refl _) (.cells #[.int .i64 ki,.int .i64 val,.string tx,.slice ao t.args.length cp] 76)
 have HST:=hide (show T6 P w sb so cs T cb D V no vo N ns f t #[.int .i64 ki,.int .i64 val,.string tx,.slice ao t.args.length cp] t.args.length (.slice none 0 0) (.int .i64 0) (w.alloc (.cells #[.int .i64 ki,.int .i64 val,.string tx,.slice ao t.args.length cp] 76))from by
  refine⟨0,[],[],no,nc,vo,vc,[],none,0,by omega,rfl,rfl,?_,(fun i d hd=>by simp at hd),fA.nil _ _,by simpa using hv,World.ownsRow_nil _ _ _ _,(fun g ⟨p,q,_⟩=>by cases q),rfl,trivial,(fun g hg=>by cases hg),by simp,aj.of_below hB,heap_alloc_new w _,by simpa using hV⟩
  simp only[List.append_nil]
  rw[lO h.st.cel]
  have:=h.below hB
  exact⟨this.st,this.sc,this.t1,this.t2,this.args.keep fun g cs hp hg=>⟨hg,⟨hp.1,fun⟨p,q,_⟩=>by cases q⟩,hp.2⟩⟩)
 have kK:=hide hrow
 have Hz:=hide hrows
 have HW:=hide hw
 have jq:=hide hN
 have WM:=hide Bq
 have HD:=hide hd
 have Br:=hide hvl
 have Yq:=hide hv
 have H4:=hide h4
 have H5:=hide h5
 have H1:=hide h1
 have H7:=hide h7
 have A5:=hide ka
 have HP:=hide hP
 have HT:=hide hT
 have HAD:=hide h
 have Hx:=hide rL
 have MO:=hide (show 3 ^ (f+1)=3*3 ^ f by rw[Nat.pow_succ,Nat.mul_comm])
 have H9:=hide (show 1≤3 ^ f from Nat.one_le_pow _ _ (by omega))
 have I:=hide IH
 obtain⟨tj,hj,hy0,hy1,hy2⟩:=info_parts infoIn
 clear h hrow hw ka hv hN hd Bq hrows h3 h4 h5 h6 h7 h1 IH hP hT hV rL hvl hB
 go_enter Tryz.func54,Tryz.ntmps54
 go_wp2_with fail
 go_loopg [7,23] t.args.length (fun k av iv wr=>T6 P w sb so cs T cb D V no vo N ns f t #[.int .i64 ki,.int .i64 val,.string tx,.slice ao t.args.length cp] k av iv wr)
 case atStart=>exact ae HST
 case round=>
  clear HST
  obtain⟨j,E,F,no1,nc1,vo1,vc1,gs,oo,cp1,hkj,rfl,rfl,had,hnd,gD,hlen,hown,hfree,hgl,hall,uR,hel,cL,dC,hVF⟩:=hrel
  have hz:=cL.size
  have z4:=af dC
  by_cases hlt:j<t.args.length
  ·obtain⟨g,vs,ca,hao,WN,fe,lL,mf⟩:=ae kK (fun q=>by rw[q]at hlt;simp at hlt)
   subst hao
   have ko:j<vs.length:=by have:=mf.length;omega
   have hcw:wr.heap[g]?=some (.cells ca 76 (0,0)):=(ae HAD).blk cL fe (Ne.symm (ae HT)) (by decide) (by decide) (by decide)
   have fc:∀i,i<4→wr.cell? ⟨g,j*4+i,none⟩=(gq vs[j])[i]?:=fun i hi=>by
    rw[ag hcw,←Array.getElem?_toList,←Oo ko i hi,←lL,List.getElem?_take_of_lt (by omega)]
   have f0:=fc 0 (by omega)
   have f1:=fc 1 (by omega)
   have f2:=fc 2 (by omega)
   have f3:=fc 3 (by omega)
   simp only[gq,List.getElem?_cons_zero,List.getElem?_cons_succ,Nat.add_zero]at f0 f1 f2 f3
   have Fb:(t.args.take (j+1)).foldl (Za.namesF f) ns=Za.namesF f ((t.args.take j).foldl (Za.namesF f) ns) t.args[j]:=by
    rw[List.take_add_one,List.getElem?_eq_getElem hlt,List.foldl_append];rfl
   have hpre:∃M,N=Za.namesF f ((t.args.take j).foldl (Za.namesF f) ns) t.args[j]++M:=by
    obtain⟨M,hM⟩:=ae jq
    rw[←Fb]
    obtain⟨K,hK⟩:=Za.qM f (t.args.drop (j+1)) ((t.args.take (j+1)).foldl (Za.namesF f) ns)
    refine⟨K++M,?_⟩
    rw[hM,←List.append_assoc,←hK,←List.foldl_append,List.take_append_drop]
   have WO:j*3 ^ f≤2*3 ^ f:=Nat.mul_le_mul_right _ (by omega)
   have hDl:(D++E).length+3 ^ f≤1000000000:=by
    have q1:=ae HD
    have q2:=ae MO
    rw[List.length_append]
    omega
   have hFl:F.length≤E.length:=by
    have h1:∀n∈F,n - D.length∈List.range E.length:=fun n hn=>by
     obtain⟨q1,d,q2,_⟩:=gD.var n hn
     exact List.mem_range.2 (List.getElem?_eq_some_iff.1 q2).1
    have h2:(F.map (fun n=>n - D.length)).Nodup:=by
     unfold List.Nodup
     rw[List.pairwise_map]
     refine gD.ord.imp_of_mem fun {a b} ha hb hab=> ?_
     have:=(gD.var a ha).1
     omega
    have:=h2.length_le_of_subset (l₂:=List.range E.length) (fun x hx=>by
     obtain⟨n,hn,rfl⟩:=List.mem_map.1 hx
     exact h1 n hn)
    simpa using this
   have hVl:(V++F).length+3 ^ f≤1000000000:=by
    have q1:=ae Br
    have q2:=ae MO
    rw[List.length_append]
    omega
   have hbA:=(Below.refl wr.heap.size wr).alloc (Nat.le_refl _) (.cells #[.int .i64 vs[j].k,.int .i64 vs[j].val,.string vs[j].tx,.slice vs[j].ao vs[j].n vs[j].cap] 76)
   have hPn:∀g,(wr.alloc (.cells #[.int .i64 vs[j].k,.int .i64 vs[j].val,.string vs[j].tx,.slice vs[j].ao vs[j].n vs[j].cap] 76)).heap.size≤g→P g∧¬rowOf oo g:=fun g hg=>by
    rw[World.size_alloc]at hg
    refine⟨ae HP g (by omega),fun⟨p,q,e⟩=> ?_⟩
    have:=(hown.lt p.block (by rw[q];rfl)).2
    omega
   have IC:=hide (ae I (fun g=>P g∧¬rowOf oo g) (wr.alloc (.cells #[.int .i64 vs[j].k,.int .i64 vs[j].val,.string vs[j].tx,.slice vs[j].ao vs[j].n vs[j].cap] 76)) sb so (cs.setIfInBounds so (.slice no1 (D++E).length nc1)) T cb (D++E) (V++F) no1 nc1 vo1 vc1 N ((t.args.take j).foldl (Za.namesF f) ns) Q vs[j] t.args[j] (had.below hbA) hPn (ae HT) hVF ((RA.keep (fun g _ hp hg _=>⟨(hbA.block g (af hg)).trans hg,hp⟩)) ((ae HAD).ra (ae HT) cL (MM mf j ko hlt))) ((ae HW).2.2.2 _ (List.getElem_mem hlt)) hlen hpre hDl hVl)
   have HOWN:=hide (hown.alloc (.cells #[.int .i64 vs[j].k,.int .i64 vs[j].val,.string vs[j].tx,.slice vs[j].ao vs[j].n vs[j].cap] 76))
   have MP:=hide hfree
   have Ia:=hide hgl
   have Bn:=hide hall
   have PR:=hide uR
   have MQ:=hide hel
   have D6:=hide hnd
   have WQ:=hide gD
   have iU:=hide (cL.trans (aj.of_below hbA))
   have qU:=hide (had.below hbA)
   have nQ:=hide (aw dC (.cells #[.int .i64 vs[j].k,.int .i64 vs[j].val,.string vs[j].tx,.slice vs[j].ao vs[j].n vs[j].cap] 76))
   have WR:=hide Fb
   have PS:=hide hVF
   have uS:g<wr.heap.size:=af hcw
   have i0:(0:Int)≤(j:Int):=by omega
   have i1:(j:Int)<(t.args.length:Int):=by omega
   have aY:=hide hlt
   have aP:=hide hkj
   have PE:j≤3:=by omega
   clear had hnd gD hlen hown hfree hgl hall uR hel cL dC fe lL mf hcw fc Fb hpre hDl hFl hVl hkj hVF hPn hbA WO WN
   go_wp2_with fail
   refine(ae IC).mono ?_
   rintro e w2 ⟨m,E2,F2,no2,nc2,vo2,vc2,rfl,hs2,hd2,hv2,hl2,hr2,hm2,T7,hf2⟩
   rw[set_set]at hs2
   have ya:=hide (ah (ae HOWN) (fun g q=>hf2.block g ((ae HOWN).lt g q).2 (by
    have hro:=aD q
    rintro(e | e | e | e)
    ·obtain⟨cur,hc⟩:=aH (ae HOWN) hro
     rw[e,(ae qU).st.blk]at hc
     simp only[Option.some.injEq,Obj.cells.injEq]at hc
     exact(ae qU).t2 hc.2.1
    ·obtain⟨cur,hc⟩:=aH (ae HOWN) hro
     exact aN (ae qU).st.own hc (by decide) e
    ·obtain⟨cur,hc⟩:=aH (ae HOWN) hro
     rw[e,(ae qU).sc.blk]at hc
     simp only[Option.some.injEq,Obj.cells.injEq]at hc
     exact absurd hc.2.1 (by decide)
    ·exact ae MP g hro e)))
   have hzz:=hf2.size
   rw[World.size_alloc]at hzz
   have bV:=hide hs2
   have Ib:=hide hd2
   have zg:=hide hv2
   have rJ:=hide hl2
   have sJ:=hide hr2
   have WS:=hide hm2
   have wV:=hide T7
   have uN:=hide hf2
   clear hs2 hd2 hv2 hl2 hr2 hm2 T7 hf2 f0 f1 f2 f3 IC
   unfold aI
   go_wp2_with (first | (at_builtin;go_must (refine wpList_append_own_at _ rfl (.tmp 31) (.tmp 33) 25 rfl (w.heap.size+1) 3 tj (.int .i64 0) 1 8 Tryz.underlying25 hj hy0 hy1 hy2 rfl (by decide) _ j (gs.map aI) rfl ((ae ya).alloc _) ⟨w2.heap.size,0,none⟩ 1 1 [.int .i64 (m:Int)] rfl rfl (ie _ _ _ _ rfl) (by simp[Value.oneCell']) (by unfold maxLen;omega) (by omega) (by simp;omega) ?_);go_must (intro v' w7 hown' hgrow _ hat;obtain⟨g',cap',hv',-⟩:=ed hown';subst hv';have mj:=hide hown';have HG:=hide hgrow;have rI:=hide (show∀g,rowOf (some ⟨g',0,none⟩) g→rowOf oo g∨w2.heap.size<g from (fun g hg=>by obtain⟨p,q,e⟩:=hg;cases q;dsimp only at e;subst e;rcases hat with q | q;exact Or.inl (aD q.symm);right;have q2:g=w2.heap.size+1:=(by simpa [Value.ownBlock] using q);omega));clear hown' hgrow hat)))
   go_roundg (gk - 1)
   case measure=>have:=ae aP;have:=ae aY;omega
   case rel=>
    have Ic:∀g,rowOf oo g→¬rowOf vo2 g:=fun g q r=>by
     have q3:=((ae HOWN).lt g (by obtain⟨p,e1,e2⟩:=q;rw[e1,e2];rfl)).2
     rcases(ae uN).row g (Or.inr (Or.inr (Or.inr r)))with(e | e | e | e) | e
     ·obtain⟨cur,hc⟩:=aH (ae HOWN) q
      rw[e,(ae qU).st.blk]at hc
      simp only[Option.some.injEq,Obj.cells.injEq]at hc
      exact(ae qU).t2 hc.2.1
     ·obtain⟨cur,hc⟩:=aH (ae HOWN) q
      exact aN (ae qU).st.own hc (by decide) e
     ·obtain⟨cur,hc⟩:=aH (ae HOWN) q
      rw[e,(ae qU).sc.blk]at hc
      simp only[Option.some.injEq,Obj.cells.injEq]at hc
      exact absurd hc.2.1 (by decide)
     ·exact ae MP g q e
     ·omega
    have hS7:=(ae bV).grown (ae ya) Ic (ae HG) (ae rI)
    have PM:=(ae HG).size
    simp only[World.size_alloc]at PM
    have hlowO:∀g,rowOf oo g→w.heap.size+1≤g:=fun g ⟨p,q,e⟩=>by rw[e];exact((ae HOWN).lt p.block (by rw[q];rfl)).1
    have keep7:∀k,k≤w.heap.size→k<w2.heap.size→w7.heap[k]?=w2.heap[k]?:=fun k h1 h2=>by
     rw[(ae HG).block k (by simp;omega) (bP fun q=>by have:=hlowO k q;omega),Below.heap_alloc _ _ _ h2]
    have hF7:aj (bU sb no cb vo) (bU sb no2 cb vo2) w w7:=by
     have q:=(ae iU).trans (ae uN)
     refine⟨(ae HG).os.trans q.os,(ae HG).tape.trans q.tape,(ae HG).output.trans q.output,by have:=q.size;omega,fun k h1 h2=> ?_,q.row⟩
     rw[keep7 k (by omega) (by have:=q.size;omega)]
     exact q.block k h1 h2
    refine⟨j+1,E++E2,F++F2,no2,nc2,vo2,vc2,gs++[m],some ⟨g',0,none⟩,cap',by have:=ae aP;have:=ae aY;omega,by go_num,rfl,by rw[←List.append_assoc,←List.append_assoc];exact hS7,(ae D6).app (by have:=ae Ib;rwa [List.length_append]at this),(ae WQ).app (by have:=ae zg;rwa [List.length_append]at this),by rw[ae WR,←List.append_assoc];exact ae rJ,?_,?_,by simp[ae Ia],?_,?_,?_,hF7,?_,?_⟩
    ·have:=ae mj
     simpa [aI] using this
    ·intro g q r
     rcases ae rI g q with e | e
     ·exact Ic g e r
     ·have:=(ae bV).rows g (Or.inr (Or.inr (Or.inr r)))
      omega
    ·rw[List.take_add_one,List.getElem?_eq_getElem (ae aY),←List.append_assoc,←List.append_assoc]
     exact bK.snoc (ae sJ) ((ae Bn).imp fun _ _ r=>r.more)
    ·intro g hg
     rw[←List.append_assoc]
     rcases List.mem_append.1 hg with q | q
     ·have:=ae PR g q
      rw[List.length_append]
      omega
     ·obtain rfl:g=m:=by simpa using q
      exact ae WS
    ·have q1:=ae MQ
     have q2:=ae wV
     rw[List.length_append,Nat.add_mul]
     omega
    ·rw[keep7 w.heap.size (Nat.le_refl _) (by omega)]
     exact(ae qU).blk (ae uN) (ae nQ) (Ne.symm (ae HT)) (by decide) (by decide) (by decide)
    ·intro n hn
     rw[←List.append_assoc]at hn⊢
     rcases List.mem_append.1 hn with q | q
     ·have:=ae PS n q
      rw[List.length_append]
      omega
     ·obtain⟨q1,d,q2,_⟩:=(ae zg).var n q
      have:=(List.getElem?_eq_some_iff.1 q2).1
      rw[List.length_append]
      omega
  ·obtain rfl:j=t.args.length:=by omega
   rw[List.take_length]at hlen hall
   have zh:(D++E).length+1≤1000000000:=by
    have q1:=ae HD
    have q2:=ae MO
    have q4:=ae H9
    have q5:E.length+2≤3*3 ^ f:=by
     obtain q | q | q | q:t.args.length=0∨t.args.length=1∨t.args.length=2∨t.args.length=3:=by omega
     all_goals rw[q]at hel;omega
    rw[List.length_append]
    omega
   have wV:=hide (show (E.length+1)+1≤3 ^ (f+1)by
    have q2:=ae MO
    have q4:=ae H9
    obtain q | q | q | q:t.args.length=0∨t.args.length=1∨t.args.length=2∨t.args.length=3:=by omega
    all_goals rw[q]at hel;omega)
   have s0:=had.st.cell
   have b0:=ag dC 0
   have b1:=ag dC 1
   have b2:=ag dC 2
   have b3:=ag dC 3
   simp only[List.getElem?_toArray,List.getElem?_cons_zero,List.getElem?_cons_succ]at b0 b1 b2 b3
   have sz:=af had.st.blk
   have hlab:=qw (wr.drew) ⟨ki,val,tx,ao,t.args.length,cp⟩
   have Bt:jd ⟨ki,val,tx,ao,t.args.length,cp⟩=if ki=2 then val else 0:=rfl
   generalize hlv:jd ⟨ki,val,tx,ao,t.args.length,cp⟩=lv at*
   dsimp only at hlab
   have LB:=hide hlab
   have Yr:=hide Bt
   have Va:sb≠w.heap.size:=fun e=>by
    have:=had.st.blk
    rw[e,dC]at this
    simp only[Option.some.injEq,Obj.cells.injEq]at this
    exact ae HT this.2.1.symm
   have sF:=hide (show some sb≠(Value.slice no1 (D++E).length nc1).ownBlock from bP (aN had.st.own had.st.blk had.st.ty))
   have wX:=hide (show some w.heap.size≠(Value.slice no1 (D++E).length nc1).ownBlock from bP (aN had.st.own dC (by decide)))
   have Vb:=hide (show so<(cs.setIfInBounds so (.slice no1 (D++E).length nc1)).size by simp;exact ae Hx)
   have PT:fD P wr sb so (cs.setIfInBounds so (.slice no1 (D++E).length nc1)) T cb (D++E) (V++F) no1 nc1 vo1 vc1:=⟨had.st,had.sc,had.t1,had.t2,had.args.keep fun g cs hp hg=>⟨hg,hp.1.1,hp.2⟩⟩
   have Bu:=hide PT
   have PU:ki=2→(0≤val∧val≤1000000000):=fun q=>by
    have k4:t.kind=4:=by
     have:=ae H1
     rw[q]at this
     unfold ak at this
     split at this
     ·cases this
     ·split at this
      ·assumption
      ·cases this
    obtain⟨q1,q2,_⟩:=ae H4 k4
    have:=Za.DC t.text.toList (by rw[Za.ng];exact q2)
    rw[q1]
    unfold Za.numOf
    omega
   have hkinds:ki=2∨ki=3:=by
    have:=ae H1
    unfold ak at this
    rcases(ae HW).1 with q | q | q
    ·rw[if_neg (by omega),if_neg (by omega)]at this;exact Or.inr this
    ·exact absurd q (ae A5)
    ·rw[if_neg (by omega),if_pos q]at this;exact Or.inl this
   have hk4:ki=2→t.kind=4:=fun q=>by
    have:=ae H1
    rw[q]at this
    unfold ak at this
    split at this
    ·cases this
    ·split at this
     ·assumption
     ·cases this
   have hk2:ki=3→t.kind=2:=fun q=>by
    rcases(ae HW).1 with r | r | r
    ·exact r
    ·exact absurd r (ae A5)
    ·have:=ae H1
     rw[q,r]at this
     exact absurd this (by decide)
   have PV:gf (D.length+E.length) ⟨ki,lv,tx,t.args.length,oo,cp1,gs,D.length+E.length,0⟩:=by
    refine⟨by rcases hkinds with q | q;exact Or.inr (Or.inl q);exact Or.inr (Or.inr q),fun q=>by rcases hkinds with r | r<;>(dsimp only at q;omega),fun q=> ?_,fun q=> ?_,fun a ha=> ?_⟩
    ·have k4:=hk4 q
     have ha0:t.args=[]:=(ae HW).2.1 (by omega)
     exact⟨(ae H4 k4).2.2,by rw[ha0];rfl,List.length_eq_zero_iff.1 (by rw[hgl,ha0];rfl)⟩
    ·refine⟨?_,hgl.symm,by show gs.length≤3;omega⟩
     show lv=0
     rw[Bt,if_neg]
     intro r
     dsimp only at q
     omega
    ·have:=uR a ha
     rwa [List.length_append]at this
   have hsmall:tx.size≤240∧0≤lv∧lv≤1000000000:=by
    refine⟨?_,?_⟩
    ·rcases hkinds with q | q
     ·rw[(ae H4 (hk4 q)).2.2];exact Nat.zero_le _
     ·rw[ae H5 (hk2 q)];exact ae H7
    ·rw[Bt]
     split
     ·rename_i q;exact PU q
     ·omega
   have uT:=hide (show∀w2,Below wr.heap.size wr w2→gs≠[]→∃(q:Nat) (cs:Array Value),oo=some ⟨q,0,none⟩∧P q∧¬rowOf vo1 q∧q<w2.heap.size∧w2.heap[q]?=some (.cells cs 3 (0,0))∧cs.toList.take gs.length=gs.map aI from fun w2 hb2 hne=>by
    rcases hown.2 with⟨q,q0⟩ | ⟨g,cap,cur,q1,q2,q3,q4⟩
    ·exact absurd (List.length_eq_zero_iff.1 (hgl.trans q0)) hne
    ·simp only[Value.slice.injEq]at q1
     obtain⟨rfl,_,_⟩:=q1
     have q5:=af q3
     refine⟨g,cur,rfl,ae HP g (by omega),hfree g ⟨_,rfl,rfl⟩,Nat.lt_of_lt_of_le q5 hb2.size,(hb2.block g q5).trans q3,?_⟩
     have q6:=q4.2.2.2
     rw[hgl]
     simpa using q6)
   have di:=hide (show∀(g cap':Nat) (w2 w8:World),fD P w8 sb so ((cs.setIfInBounds so (.slice no1 (D++E).length nc1)).setIfInBounds so (.slice (some ⟨g,0,none⟩) ((D++E).length+1) cap')) T cb ((D++E)++[⟨ki,lv,tx,t.args.length,oo,cp1,gs,D.length+E.length,0⟩]) (V++F) (some ⟨g,0,none⟩) cap' vo1 vc1→aj (bU sb no1 cb vo1) (bU sb (some ⟨g,0,none⟩) cb vo1) w2 w8→Below wr.heap.size wr w2→D5 P sb so cs T cb D V no vo N ns (f+1) t w (.returned (.int .i64 ((D++E).length:Int))) w8 from fun g cap' w2 w8 k1 k2 k3=>by
    rw[set_set]at k1
    refine⟨(D++E).length,E++[⟨ki,lv,tx,t.args.length,oo,cp1,gs,D.length+E.length,0⟩],F,some ⟨g,0,none⟩,cap',vo1,vc1,rfl,?_,hnd.app (dB.one ⟨rfl,rfl,PV,hsmall⟩),gD.last _,?_,?_,?_,?_,(cL.trans (aj.of_below k3)).trans k2⟩
    ·have e:((D++E)++[(⟨ki,lv,tx,t.args.length,oo,cp1,gs,D.length+E.length,0⟩:Ng)]).length=(D++E).length+1:=by rw[List.length_append];rfl
     rw[←List.append_assoc,e]
     exact k1
    ·rw[ae WM,hlen]
    ·rw[←List.append_assoc]
     refine⟨fun q=>absurd q (ae A5),fun _=>⟨⟨ki,lv,tx,t.args.length,oo,cp1,gs,D.length+E.length,0⟩,by simp,by simp,ae H1,fun q=> ?_,fun q=> ?_,hall.imp fun _ _ r=> ?_⟩⟩
     ·obtain⟨q1,q2,q3⟩:=ae H4 q
      show lv=_
      rw[Bt,if_pos,q1]
      rw[ae H1,q]
      rfl
     ·exact ae H5 q
     ·have:=r.more (E:=[⟨ki,lv,tx,t.args.length,oo,cp1,gs,D.length+E.length,0⟩]) (F:=[])
      rwa [List.append_nil]at this
    ·rw[←List.append_assoc];simp
    ·rw[List.length_append]
     exact ae wV)
   have Ia:=hide hgl
   obtain⟨ti,hi,vE,vF,sM⟩:=info_parts infoNd
   have Bv:=hide (show D.length+E.length=(D++E).length by rw[List.length_append])
   rw[ae Bv]at di
   generalize hDE:D++E=DE at*
   generalize hVF':V++F=VF at*
   clear had PT hnd gD hlen hown hfree hgl hall uR hel cL dC hkj hlab hlv hVF Bt PU hkinds hk4 hk2 PV hsmall hDE hVF' Bv
   go_wp2_with fail
   go_region_law (first
    | (go_simp;go_at_call 95;refine(ae LB).mono ?_;rintro e w2 ⟨rfl,hb⟩;have aX:=hide (((Below.refl _ wr).drew).trans hb);have k0:=(hb.cell (p:=⟨sb,so,none⟩) sz).trans s0;have k1:=(hb.cell (p:=⟨w.heap.size,0,none⟩) z4).trans b0;have k2:=(hb.cell (p:=⟨w.heap.size,1,none⟩) z4).trans b1;have k3:=(hb.cell (p:=⟨w.heap.size,2,none⟩) z4).trans b2;have k4:=(hb.cell (p:=⟨w.heap.size,3,none⟩) z4).trans b3;have hz2:wr.heap.size≤w2.heap.size:=hb.size;have k0':∀o,(w2.alloc o).cell? ⟨sb,so,none⟩=some (.slice no1 DE.length nc1):=(fun o=>(World.cell?_alloc_past _ _ _ (by omega)).trans k0);clear hb)
    | (refine step_append_lies _ (by rfl) _ _ _ (by rfl) 0 180 ti _ 7 80 Tryz.underlying86 hi vE vF sM rfl (by omega) (.slice no1 DE.length nc1) DE.length (jS DE) (by rfl) (((ae Bu).below (ae aX)).st.own.alloc _) ⟨w2.heap.size,0,none⟩ 1 1 [.int .i64 ki,.int .i64 lv,.string tx,.int .i64 (t.args.length:Int),.slice oo t.args.length cp1,.int .i64 (DE.length:Int),.int .i64 0] (by rfl) (by rfl) (World.news_of_block (cs:=#[.int .i64 ki,.int .i64 lv,.string tx,.int .i64 (t.args.length:Int),.slice oo t.args.length cp1,.int .i64 (DE.length:Int),.int .i64 0]) (t:=180) (fr:=(0,0)) (heap_alloc_new w2 _)) (by simp[Value.oneCell']) (by omega) (by unfold maxLen;omega) (by omega) (Nat.zero_le _) (w2.heap.size+1) (by simp) ?_;intro g cap' w7 hown1 hgrow hat iX;have m0:=(hgrow.cell_far ⟨sb,so,none⟩ (by simp;omega) (ae sF)).trans ((World.cell?_alloc_past _ _ _ (by omega)).trans k0);have m1:=(hgrow.cell_far ⟨w.heap.size,0,none⟩ (by simp;omega) (ae wX)).trans ((World.cell?_alloc_past _ _ _ (by omega)).trans k1);have m2:=(hgrow.cell_far ⟨w.heap.size,1,none⟩ (by simp;omega) (ae wX)).trans ((World.cell?_alloc_past _ _ _ (by omega)).trans k2);have m3:=(hgrow.cell_far ⟨w.heap.size,2,none⟩ (by simp;omega) (ae wX)).trans ((World.cell?_alloc_past _ _ _ (by omega)).trans k3);have m4:=(hgrow.cell_far ⟨w.heap.size,3,none⟩ (by simp;omega) (ae wX)).trans ((World.cell?_alloc_past _ _ _ (by omega)).trans k4);have HN:=hide (((ae Bu).below (ae aX)).node (fun g q=>ae HP g (by omega)) (ae Vb) ((Below.refl _ _).alloc (Nat.le_refl _) _) (d:=⟨ki,lv,tx,t.args.length,oo,cp1,gs,DE.length,0⟩) (show w7.ownsRow _ _ _ _ _ (_++[_,_,_,_,_,_,_])from by rw[ae Ia];exact hown1) hgrow (by rcases hat with q | q;exact Or.inl (aD q);(right;omega)) (fun q=>by have:=ae uT w2 (ae aX) q;exact this));have k9:w7.frozen? ⟨sb,so,none⟩=false:=(by have:=aq (ae HN).1.st.blk so;rwa [World.frozen?_setCell]at this);have zz7:sb<w7.heap.size:=(by have:=af (ae HN).1.st.blk;rwa [cC]at this);clear hown1 hgrow hat iX))
   all_goals (go_wp2_with fail;go_ret;exact ae di _ _ _ _ (ae HN).1 (ae HN).2 (ae aX))
theorem ag_all:∀f,Hy f
 | 0=>fun _ _ _ _ _ _ _ _ _ _ _ _ _ _ _ _ _ _ _ _ _ _ h=>absurd h (fun q=>q)
 | f+1=>fun P w sb so cs T cb D V no nc vo vc N ns Q a t h hP hT hV hr hw hv hN hd hvl=>by
  by_cases ka:t.kind=3
  ·exact PO f P w sb so cs T cb D V no nc vo vc N ns a t h hP hV hr.1 hw ka hv hN hd hvl
  ·exact Oq (ag_all f) P w sb so cs T cb D V no nc vo vc N ns Q a t h hP hT hV hr hw ka hv hN hd hvl
end Go.Proofs.YthfjnfcekeknlaaGreatDoor
namespace Go.Proofs.YthfjnfcekeknlaaGreatDoor
open Go.RowKit
theorem gf.mono {l l':Nat} {d:Ng} (h:gf l d) (hl:l≤l'):gf l' d:=⟨h.ks,h.v,h.m,h.c,fun a ha=>Nat.lt_of_lt_of_le (h.inn a ha) hl⟩
theorem fX {D:List Ng} {n:Nat} (h:n<D.length) (E:List Ng):Za.gl (aV (D++E)) n=Za.gl (aV D) n:=by
 rw[lH (show n<(D++E).length by rw[List.length_append];omega),lH h,List.getElem_append_left h]
theorem jt {D:List Ng} {n:Nat} (h:n<D.length) (E:List Ng):Za.ga (aV (D++E)) n=Za.ga (aV D) n:=by
 rw[jC (show n<(D++E).length by rw[List.length_append];omega),jC h,List.getElem_append_left h]
theorem wY {D:List Ng} {n:Nat} (h:D.length≤n):Za.ga (aV D) n=[]:=by
 unfold Za.ga aV
 rw[List.getElem?_map,List.getElem?_eq_none h]
 rfl
theorem dB.at {D E:List Ng} (h:dB D.length E) {n:Nat} (h1:D.length≤n) (h2:n<(D++E).length):(D++E)[n].nx=n∧(D++E)[n].mrk=0∧gf n (D++E)[n]∧(D++E)[n].tx.size≤240∧0≤(D++E)[n].val∧(D++E)[n].val≤1000000000:=by
 rw[List.getElem_append_right h1]
 rw[List.length_append]at h2
 have:=h (n - D.length) E[n - D.length] (List.getElem?_eq_getElem (by omega))
 rwa [show D.length+(n - D.length)=n by omega]at this
theorem bR.more {D E:List Ng} {fr:Nat→Nat} (h:bR D fr) (hE:dB D.length E):bR (D++E) fr:=by
 refine⟨fun n hn=> ?_,fun n hn=> ?_,fun n hn=>h.out n (by rw[List.length_append]at hn;omega)⟩
 ·by_cases q:n<D.length
  ·rw[List.getElem_append_left q]
   exact(h.nd n q).mono (by rw[List.length_append];omega)
  ·exact(hE.at (by omega) hn).2.2.1.mono (by omega)
 ·by_cases q:n<D.length
  ·obtain⟨k,hk⟩:=h.hop n q
   have key:∀{n m k},Hop D n m k→Hop (D++E) n m k:=by
    intro n m k hk
    induction hk with
    | stop q e=>exact .stop (by rw[List.length_append];omega) (by rw[List.getElem_append_left q];exact e)
    | go q e _ ih=>exact .go (by rw[List.length_append];omega) (by rw[List.getElem_append_left q];exact e) (by rw[List.getElem_append_left q];exact ih)
   exact⟨k,key hk⟩
  ·rw[h.out n (by omega)]
   exact⟨0,.stop hn (hE.at (by omega) hn).1⟩
theorem uf {D E:List Ng} {fr:Nat→Nat} (h:bR D fr) {n:Nat} {u:Za.U} (ht:Za.Tr (aV D) fr n u):n<D.length→Za.Tr (aV (D++E)) fr n u:=by
 induction ht with
 | @var n hg ha=>exact fun hn=> .var (by rw[fX (h.lt hn)];exact hg) (by rw[jt (h.lt hn)];exact ha)
 | @node n k tx num us hg hl _ ih=>
  intro hn
  refine .node (by rw[fX (h.lt hn)];exact hg) (by rw[jt (h.lt hn)];exact hl) fun i a v ha hv=> ?_
  rw[jt (h.lt hn)]at ha
  refine ih i a v ha hv ?_
  rw[jC (h.lt hn)]at ha
  exact(h.nd _ (h.lt hn)).inn a (List.mem_of_getElem? ha)
theorem KD {D E:List Ng} {fr:Nat→Nat} {T:Nat→Za.U} (h:bR D fr) (hS:Za.dw (aV D) fr T) (hE:dB D.length E):∃T',Za.dw (aV (D++E)) fr T'∧∀n,n<D.length→T' n=T n:=by
 have ho:=h.more hE
 have hplain:Za.Plain (aV (D++E)):=fun n hg=>by
  by_cases q:n<(D++E).length
  ·rw[lH q]at hg
   rw[jC q]
   exact((ho.nd n q).v ((ho.nd n q).lab.1 hg)).2.2.2
  ·exact wY (by omega)
 have htr:∀n,∃u,Za.Tr (aV (D++E)) fr n u:=by
  intro n
  induction n using Nat.strongRecOn with
  | _ n ih=>
   by_cases q:n<D.length
   ·exact⟨_,uf h (hS.tr n) q⟩
   ·have hf:fr n=n:=h.out n (by omega)
    refine Za.qL hplain fun a ha=>ih a ?_
    rw[hf]at ha
    by_cases r:n<(D++E).length
    ·rw[jC r]at ha
     exact(hE.at (by omega) r).2.2.1.inn a ha
    ·rw[wY (by omega)]at ha
     cases ha
 refine⟨fun n=>Classical.choose (htr n),⟨⟨ho.idem,fun n hn=> ?_⟩,⟨fun n hn=> ?_,fun n hn i x y hx hy=> ?_⟩,fun n=>Classical.choose_spec (htr n),hplain,fun n hg=> ?_⟩,fun n hn=> ?_⟩
 ·by_cases q:n<D.length
  ·rw[fX q]at hn
   rw[fX (h.lt q)]
   exact hS.fronts.lab n hn
  ·rw[h.out n (by omega)];exact hn
 ·by_cases q:n<D.length
  ·rw[fX q]at hn
   have:=hS.cong.lab n hn
   unfold Za.pD at this⊢
   rw[fX q,fX (h.lt q),jt q,jt (h.lt q)]
   exact this
  ·rw[h.out n (by omega)];exact⟨rfl,rfl⟩
 ·by_cases q:n<D.length
  ·rw[fX q]at hn
   rw[jt q]at hx
   rw[jt (h.lt q)]at hy
   exact hS.cong.args n hn i x y hx hy
  ·rw[h.out n (by omega),hx]at hy
   obtain rfl:=Option.some.inj hy
   exact .fr rfl
 ·by_cases q:n<D.length
  ·rw[fX (h.lt q)]at hg
   exact hS.rQ n hg
  ·rw[h.out n (by omega)];exact Nat.le_refl _
 ·exact(Classical.choose_spec (htr n)).one (uf h (hS.tr n) hn)
theorem sL.is {D:List Ng} {fr:Nat→Nat} {T:Nat→Za.U} (h:bR D fr) (hS:Za.dw (aV D) fr T) {V:List Nat} {N:List (List UInt8)}:∀{f n:Nat} {t:Za.Tm},sL D V N f n t→Za.wfK f t→T n=Za.bA (fun x=>T ((V[N.idxOf x]?).getD 0)) f t
 | f+1,n,t,⟨h1,h2⟩,⟨k1,k2,k3,k4⟩=>by
  unfold Za.bA
  by_cases k:t.kind=3
  ·rw[if_pos k,h1 k];rfl
  ·rw[if_neg k]
   obtain⟨d,q1,q2,q3,q4,q5,q6⟩:=h2 k
   have hn:=(List.getElem?_eq_some_iff.1 q1).1
   have sN:D[n]=d:=(List.getElem?_eq_some_iff.1 q1).2
   have hf:fr n=n:=(h.self hn).2 (by rw[sN];exact q2)
   have key:∀kk tx num,Za.gl (aV D) n=some (kk,tx,num)→T n= .n kk tx num (t.args.map (Za.bA (fun x=>T ((V[N.idxOf x]?).getD 0)) f)):=fun kk tx num hg=>by
    rw[hS.reads.node n kk tx num hg,jC hn,sN]
    congr 1
    have:∀(xs:List Nat) (ts:List Za.Tm),bK (sL D V N f) xs ts→(∀a∈ts,Za.wfK f a)→xs.map T=ts.map (Za.bA (fun x=>T ((V[N.idxOf x]?).getD 0)) f):=by
     intro xs
     induction xs with
     | nil=>intro ts ha _;cases ts with
      | nil=>rfl
      | cons t ts=>exact ha.elim
     | cons x xs ih=>intro ts ha hw;cases ts with
      | nil=>exact ha.elim
      | cons t ts=>rw[List.map_cons,List.map_cons,sL.is h hS ha.1 (hw t (by simp)),ih ts ha.2 (fun a ha=>hw a (by simp[ha]))]
    exact this d.args t.args q6 k4
   have hlab:Za.gl (aV D) n=eQ d:=by rw[lH hn,sN]
   by_cases kk:t.kind=4
   ·rw[if_pos kk]
    have hk:d.k=2:=by rw[q3,kk];rfl
    have:=key 3 [] d.val (by rw[hlab];unfold eQ;rw[if_neg (by omega),if_pos hk])
    rw[this,q4 kk,k2 (by omega)]
    rfl
   ·rw[if_neg kk]
    have kt:t.kind=2:=by omega
    have hk:d.k=3:=by rw[q3,kt];rfl
    have:=key 1 d.tx.toList 0 (by rw[hlab];unfold eQ;rw[if_neg (by omega),if_neg (by omega)])
    rw[this,q5 kt]
end Go.Proofs.YthfjnfcekeknlaaGreatDoor
