import Derived.Test.YthfjnfcekeknlabGreatDoorPx03
import Derived.Test.YthfjnfcekeknlabGreatDoorPx06
import Derived.Deep.AppendLies
import Derived.Deep.RegionLaw
set_option maxHeartbeats 8000000
set_option maxRecDepth 100000
set_option linter.unusedSimpArgs false
namespace af
def uD (N:List Nat) (n:Nat):List Nat:=if n∈N then N else N++[n]
def fK (N:List Nat):List Vr:=N.map fun n=>([],n)
theorem Dn {n m:Nat} (h:(([],n):Vr)=([],m)):n=m:=by injection h
theorem DW {N:List Nat} {n:Nat}:(([],n):Vr)∈fK N↔n∈N:=by
 unfold fK;constructor
 ·intro h;obtain⟨m,hm,e⟩:=bu.1 h;rw[Dn e]at hm;exact hm
 ·exact fun h=>du h
theorem Dp (N:List Nat) (n:Nat):fK (uD N n)=nk (fK N) ([],n):=by
 unfold uD nk;by_cases h:n∈N
 ·rw[aH h,aH (DW.2 h)]
 ·rw[aG h,aG (fun q=>h (DW.1 q))];simp[fK]
theorem Do (n:Nat):∀N,(fK N).idxOf ([],n)=N.idxOf n
 | []=>rfl
 | m :: N=>by
  have ih:=Do n N;unfold fK at ih⊢;rw[aY,gM,gM,ih];by_cases e:m=n
  ·subst e;simp
  ·have:(([],m):Vr)≠([],n):=fun q=>e (Dn q);rw[mu this,mu e]
theorem vA {n:Nat}:∀{N:List Nat} {j:Nat} (hj:j<N.length),N[j]=n->(∀i (_:i<N.length),i<j->N[i]≠n)->N.idxOf n=j
 | m :: N,0,_,he,_=>by rw[gM];simp at he;simp[he]
 | m :: N,j+1,hj,he,hno=>by have h0:m≠n:=hno 0 (by simp) (by omega);have:=vA (N:=N) (j:=j) (by simpa using hj) (by simpa using he) (fun i hi q=>by have:=hno (i+1) (by simpa using hi) (by omega);simpa using this);rw[gM,this,mu h0];rfl
theorem Dm (N:List Nat):(fK N).length=N.length:=by simp[fK]
end af
namespace Go.Proofs.YthfjnfcekeknlabGreatDoor
open Go.RowKit af
variable {mo no mo':Option Addr} {mc g nb so sb nc:Nat} {S T:TypeId} {w w':World} {xs cs:Array Value} {N:List Nat} {a:AV} {u:af.U} {D:List Ng} {R' R:Nat->Prop}
structure lZ (w:World) (nb:Nat) (N:List Nat) (mo:Option Addr) (mc:Nat):Prop where
 blk:w.heap[nb]?=some (.cells #[.slice mo N.length mc] 136 (0,0))
 own:w.ownsRow 0 3 1 (.slice mo N.length mc) N.length (N.map cN)
def dw (nb:Nat) (mo:Option Addr) (k:Nat):Prop:=k=nb\/rowOf mo k
theorem lZ.apart (h:lZ w nb N mo mc) (hg:w.heap[g]?=some (.cells xs S (0,0))) (h1:S≠136) (h2:S≠3):¬dw nb mo g:=by
 rintro(rfl | ⟨p,rfl,rfl⟩)
 ·have:=h.blk;rw[hg]at this;simp only[aM,aR]at this;exact h1 this.2.1
 ·rcases h.own.2 with⟨c,_⟩ | ⟨g,cp,cur,c,_,hc,_⟩
  ·cases c
  ·simp only[aS,aM]at c;obtain⟨rfl,_⟩:=c;rw[hc]at hg;simp only[aM,aR]at hg;exact h2 hg.2.1.symm
theorem lZ.below (h:lZ w nb N mo mc) (hb:Below w.heap.size w w'):lZ w' nb N mo mc:=
 ⟨(hb.block nb (aD h.blk)).trans h.blk,aO h.own (fun g q=>hb.block g (h.own.lt g q).2)⟩
theorem lZ.rows (h:lZ w nb N mo mc):∀k,dw nb mo k->k<w.heap.size:=by
 rintro k (rfl | ⟨p,rfl,rfl⟩)
 ·exact aD h.blk
 ·exact(h.own.lt p.block rfl).2
theorem lZ.ne (h:lZ w nb N mo mc):¬rowOf mo nb:=by
 rintro⟨p,rfl,e⟩;rcases h.own.2 with⟨c,_⟩ | ⟨g,cp,cur,c,_,hc,_⟩
 ·cases c
 ·simp only[aS,aM]at c;obtain⟨rfl,_⟩:=c;dsimp only at e;have:=h.blk;rw[e,hc]at this;simp only[aM,aR]at this;exact absurd this.2.1 (by decide)
def PJ (nb:Nat) (N:List Nat) (mo:Option Addr) (n:Nat) (w:World) (e:Ending) (w':World):Prop:=
 ∃mo' mc',e= .returned (cN (N.idxOf n))/\lZ w' nb (uD N n) mo' mc'/\bZ (dw nb mo) (dw nb mo') w w'
theorem Hn (w:World) (nb:Nat) (N:List Nat) (mo:Option Addr) (mc:Nat) (n:Nat) (h:lZ w nb N mo mc) (hl:N.length<=1000000):
 Calls Tryz.prog 122 #[.pointer (some ⟨nb,0,none⟩),.int .i64 (n:Int)] w fun e w'=>PJ nb N mo n w e w':=by
 have s0:=aN h.blk 0;have sx:=bI h.blk 0;have sz:=aD h.blk;simp only[aE,aq]at s0;have H:=ah h;obtain⟨ti,hi,hz0,hz1,hz2⟩:=dH kO;have hcell:∀j (hj:j<N.length),∃g,mo=some ⟨g,0,none⟩/\g<w.heap.size/\w.cell? ⟨g,j,none⟩=some (.int .i64 (N[j]:Int)):=fun j hj=>by
  rcases h.own.2 with⟨_,q⟩ | ⟨g,cap,cur,q1,_,q3,_⟩
  ·omega
  ·simp only[aS]at q1;obtain⟨rfl,_,_⟩:=q1;refine⟨g,rfl,aD q3,?_⟩;rw[h.own.cellAt j (by omega),bC,aj hj];rfl
 have HC:=ah hcell;have HNE:=ah h.ne;clear h hcell;go_enter Tryz.func122,Tryz.ntmps122;go_wp2_with fail;go_loopg [12] N.length (fun k iv wr=>∃j:Nat,k+j=N.length/\iv= .int .i64 (j:Int)/\wr=w/\∀i (hi:i<N.length),i<j->N[i]≠n)
 case atStart=>exact⟨0,by omega,rfl,rfl,fun i _ q=>by omega⟩
 case round=>
  obtain⟨j,hkj,rfl,rfl,hno⟩:=hrel;by_cases hlt:j<N.length
  ·obtain⟨g,rfl,gz,cj⟩:=ae HC j hlt;have j0:(0:Int)<=(j:Int):=by omega
   have j1:(j:Int)<(N.length:Int):=by omega
   have HKJ:=ah hkj;by_cases he:N[j]=n
   ·have HFIN:=ah (show PJ nb N (some ⟨g,0,none⟩) n wr (.returned (.int .i64 (j:Int))) wr from by
     have hmem:n∈N:=he ▸ aL hlt;refine⟨some ⟨g,0,none⟩,mc,?_,?_,bZ.aX Qx⟩
     ·have:N.idxOf n=j:=vA hlt he hno;rw[this];rfl
     ·have:uD N n=N:=by unfold uD;rw[aH hmem]
      rw[this];exact ae H)
    rw[he]at cj;clear he hno hkj;go_wp2_with fail;go_ret;exact ae HFIN
   ·have t1:(((N[j]:Nat):Int) == (n:Int))=false:=by simp;omega
    have HNO:=ah (show∀i (hi:i<N.length),i<j+1->N[i]≠n from fun i hi q=>by
     by_cases e:i=j
     ·subst e;exact he
     ·exact hno i hi (by omega))
    generalize N[j]=na at*;clear he hno hkj;go_wp2_with fail;go_roundg (gk - 1)
    case measure=>have:=ae HKJ;omega
    case rel=>exact⟨j+1,by have:=ae HKJ;omega,by go_num,rfl,ae HNO⟩
  ·obtain rfl:j=N.length:=by omega
   have hmem:n∉N:=fun q=>by obtain⟨i,hi,e⟩:=bG q;exact hno i hi hi e
   have HM:=ah (show uD N n=N++[n]by unfold uD;rw[aG hmem])
   have HI:=ah (show N.idxOf n=N.length from lW hmem)
   clear hno hkj hmem;go_wp2_with (first | (at_builtin;go_must (refine wpList_append_own_at _ rfl (.tmp 26) (.tmp 28) 25 rfl 0 3 ti (.int .i64 0) 1 8 Tryz.underlying25 hi hz0 hz1 hz2 rfl (by decide) _ N.length (N.map cN) rfl ((ae H).own.alloc _) ⟨wr.heap.size,0,none⟩ 1 1 [.int .i64 (n:Int)] rfl rfl (lq _ _ _ _ rfl) (by simp[Value.oneCell']) (by unfold maxLen;omega) (by omega) (by omega) ?_);go_must (intro v' w7 hown' hgrow _ hat;obtain⟨g',cap',hv,hcm⟩:=fR hown';subst hv;have HO7:=ah hown';have HG:=ah hgrow;have HAT:=ah (show (some g':Option Nat)=(Value.slice mo N.length mc).ownBlock\/(some g':Option Nat)=some (wr.heap.size+1)from (by rcases hat with q | q;exact ay q;exact aw (by rw[aF]at q;exact q)));have b7:=(hgrow.block nb (by simp;omega) (i7 fun p q e=>ae HNE ⟨p,q,e⟩)).trans ((aZ _ _ _ sz).trans (ae H).blk);have HB7:=ah b7;have c7:=aN b7 0;have x7:=bI b7 0;have z7:=aD b7;simp only[aE,aq]at c7;clear hown' hgrow hat b7)))
   go_ret;refine⟨some ⟨g',0,none⟩,cap',?_,⟨?_,?_⟩,?_⟩
   ·rw[ae HI];show Ending.returned (.int .i64 _)= .returned (.int .i64 _);congr 2
   ·have:=bB (ae HB7) 0 (.slice (some ⟨g',0,none⟩) (N.length+1) cap');rw[ae HM,au];simpa using this
   ·rw[ae HM,au,dL]
    have hne:nb≠g':=fun e=>by
     rcases(ae HO7).2 with⟨c,_⟩ | ⟨g,cp,cur,c,_,hc,_⟩
     ·cases c
     ·simp only[aS,aM,qK]at c;obtain⟨⟨rfl,_⟩,_⟩:=c;have:=ae HB7;rw[e,hc]at this;simp only[aM,aR]at this;exact absurd this.2.1 (by decide)
    exact aO (ae HO7) (fun k q=>b6 _ _ _ _ (by simp[Value.ownBlock]at q;omega))
   ·have hz:=(ae HG).size;refine⟨(ae HG).os,(ae HG).tape,(ae HG).output,by rw[fj];simp at hz;omega,fun k hk hr=> ?_,?_⟩
    ·rw[b6 _ _ _ _ (fun e=>hr (ay e)),(ae HG).block k (by simp;omega) (i7 fun p q e=>hr (aw ⟨p,q,e⟩)),aZ _ _ _ hk]
    ·rintro k (rfl | ⟨p,e1,rfl⟩)
     ·exact ay (ay rfl)
     ·cases e1;rcases ae HAT with e | e
      ·left;right;cases mo with
       | none=>simp[Value.ownBlock]at e
       | some s=>simp[Value.ownBlock]at e;exact⟨s,rfl,e⟩
      ·right;have:=cF e;dsimp only;omega
def vV (N:List af.Vr) (a:AV):af.U->Prop
 | .v x=>a.k=1/\a.val=(N.idxOf x:Int)/\x∈N/\a.n=0
 | .n k tx num ss=>(k=3/\a.k=2/\a.val=num/\a.n=0/\ss=[])\/(k=1/\a.k=3/\a.tx.toList=tx/\a.n=ss.length/\ss.length<=3)
def RV:Nat->List af.Vr->(Nat->Prop)->World->AV->af.U->Prop
 | 0,_,_,_,_,_=>False
 | f+1,N,P,w,a,u=>vV N a u/\(F7 u≠[]->∃(g:Nat) (us:List AV) (cs:Array Value),a.ao=some ⟨g,0,none⟩/\P g/\w.heap[g]?=some (.cells cs 74 (0,0))/\cs.toList.take (us.length*4)=us.flatMap oq/\eO (RV f N P w) us (F7 u))
theorem RV.keep {N:List af.Vr} {P Q:Nat->Prop} {w w':World} (hk:∀g cs,P g->w.heap[g]?=some (.cells cs 74 (0,0))->w'.heap[g]?=some (.cells cs 74 (0,0))/\Q g):∀{f:Nat} {a:AV} {u:af.U},RV f N P w a u->RV f N Q w' a u
 | _+1,_,_,⟨h,q⟩=>⟨h,fun n=>by obtain⟨g,us,cs,h1,h2,h3,h4,h5⟩:=q n;obtain⟨r1,r2⟩:=hk g cs h2 h3;exact⟨g,us,cs,h1,r2,r1,h4,h5.imp fun _ _=>RV.keep hk⟩⟩
theorem vV.more {N:List af.Vr} (h:vV N a u) (M:List af.Vr):vV (N++M) a u:=by
 cases u with
 | v x=>obtain⟨h1,h2,h3,h4⟩:=h;exact⟨h1,by rw[h2,dA,aH h3],bO _ h3,h4⟩
 | n k tx num ss=>exact h
theorem RV.more {N:List af.Vr} {P:Nat->Prop} {w:World} (M:List af.Vr):∀{f:Nat} {a:AV} {u:af.U},RV f N P w a u->RV f (N++M) P w a u
 | _+1,_,_,⟨h,q⟩=>⟨h.more M,fun n=>by obtain⟨g,us,cs,h1,h2,h3,h4,h5⟩:=q n;exact⟨g,us,cs,h1,h2,h3,h4,h5.imp fun _ _=>RV.more M⟩⟩
def JL (s nb:Nat) (N:List Nat) (mo:Option Addr) (u:af.U) (w:World) (e:Ending) (w':World):Prop:=
 ∃(a:AV) (N':List Nat) (mo':Option Addr) (mc':Nat),e= .returned (.agg #[.int .i64 a.k,.int .i64 a.val,.string a.tx,.slice a.ao a.n a.cap])/\lZ w' nb N' mo' mc'/\fK N'=cJ (fK N) u/\RV s (fK N') (fun g=>w.heap.size<=g) w' a u/\bZ (dw nb mo) (dw nb mo') w w'
def BU (s:Nat):Prop:=∀(w:World) (sb so:Nat) (cs:Array Value) (T:TypeId) (D:List Ng) (no:Option Addr) (nc:Nat) (fr:Nat->Nat) (n:Nat) (u:af.U) (nb:Nat) (N:List Nat) (mo:Option Addr) (mc:Nat),fS w sb so cs T D no nc->T≠136->T≠3->g8 D fr->lZ w nb N mo mc->di w D (fun g=>¬dw nb mo g)->n<D.length->Tr (e8 D) fr n u->af.size u<=s->N.length+af.size u<=1000000->
 Calls Tryz.prog 72 #[.pointer (some ⟨sb,so,none⟩),.int .i64 (n:Int),.pointer (some ⟨nb,0,none⟩)] w fun e w'=>JL s nb N mo u w e w'
theorem fS.OI (h:fS w sb so cs T D no nc) (hn:lZ w nb N mo mc) (h1:T≠136) (h2:T≠3) (hf:bZ (dw nb mo) (dw nb mo') w w'):fS w' sb so cs T D no nc:=by
 refine⟨(hf.block sb (aD h.blk) (hn.apart h.blk h1 h2)).trans h.blk,h.qF,aO h.own (fun g q=>hf.block g (h.own.lt g q).2 ?_),h.ty⟩;rcases h.own.2 with⟨c,_⟩ | ⟨g',cp,cur,c,_,hc,_⟩
 ·rw[c]at q;simp[Value.ownBlock]at q
 ·rw[c]at q;simp[Value.ownBlock]at q;subst q;exact hn.apart hc (by decide) (by decide)
theorem di.OI (h:di w D fun g=>¬R g) (hf:bZ R R' w w'):di w' D fun g=>¬R' g:=
 h.keep fun g _ hp hg=>⟨(hf.block g (aD hg) hp).trans hg,hf.not (aD hg) hp⟩
theorem Gg (s:Nat) (w:World) (sb so:Nat) (cs:Array Value) (T:TypeId) (D:List Ng) (no:Option Addr) (nc:Nat) (fr:Nat->Nat) (n:Nat) (d:Ng) (nb:Nat) (N:List Nat) (mo:Option Addr) (mc:Nat) (h:fS w sb so cs T D no nc) (_hT1:T≠136) (_hT2:T≠3) (hok:g8 D fr) (hn:lZ w nb N mo mc) (hnl:n<D.length) (hd:D[fr n]?=some d) (hk:d.k=1) (hl:N.length+1<=1000000):
 Calls Tryz.prog 72 #[.pointer (some ⟨sb,so,none⟩),.int .i64 (n:Int),.pointer (some ⟨nb,0,none⟩)] w fun e w'=>JL (s+1) nb N mo (.v ([],fr n)) w e w':=by
 obtain⟨k,hk'⟩:=hok.hop n hnl;have LA:=ah (fun W (hb:Below w.heap.size w W)=>fd W sb so cs T D no nc n (fr n) k d (h.below hb) hk' hd);have FA:=ah (fun W (hb:Below w.heap.size w W)=>fw W sb so cs T D no nc n (fr n) k (h.below hb) hk');have NA:=ah (fun W (hb:Below w.heap.size w W)=>Hn W nb N mo mc (fr n) (hn.below hb) (by omega));have HN:=ah hn;obtain⟨dk,val,tx,cnt,ao,cap,args,nx,qs⟩:=d;dsimp only at hk LA;subst hk;clear h hok hn hnl hd hk';generalize fr n=p at*;go_enter Tryz.func72,Tryz.ntmps72;go_wp2_with fail;refine(ae LA _ (Qx.alloc Qw _)).mono ?_;rintro e w1 ⟨rfl,hb1⟩;have HB1:=ah ((((al w.heap.size w).alloc Qw (.cells #[.int .i64 0,.int .i64 0,.string ⟨#[]⟩,.slice none 0 0] 74)).trans (hb1.mono (by simp))).alloc (by have:=hb1.size;simp at this;omega) (.cells #[.int .i64 1,.int .i64 val,.string tx,.int .i64 (cnt:Int)] 144));have r0:=hb1.block w.heap.size (by simp);have r1:=r0.trans (aB w _);have z1:w.heap.size<w1.heap.size:=aD r1;have HR1:=ah (aQ r1 (.cells #[.int .i64 1,.int .i64 val,.string tx,.int .i64 (cnt:Int)] 144));clear hb1 r0 r1;go_wp2_with fail;refine(ae FA _ (ae HB1)).mono ?_;rintro e w2 ⟨rfl,rfl⟩;unfold cN;go_wp2_with fail;refine(ae NA _ (ae HB1)).mono ?_;rintro e w3 ⟨mo',mc',rfl,hn3,hf3⟩;unfold cN;have q3:=(hf3.block w.heap.size (by simp;omega) (((ae HN).below (ae HB1)).apart (ae HR1) (by decide) (by decide))).trans (ae HR1);have HQ3:=ah q3;have c3:=aN q3;have x3:=bI q3;have z3:=aD q3;have HN3:=ah hn3;have HF3:=ah hf3;clear hn3 hf3 q3;go_wp2_with fail;refine aI (v:= .agg #[.int .i64 1,.int .i64 ((N.idxOf p:Nat):Int),.string ⟨#[]⟩,.slice none 0 0]) (by simp[results,Tryz.results72,go_sem,c3]) rfl ?_;have hkeep:∀g,g≠w.heap.size->((((w3.setCell ⟨w.heap.size,0,none⟩ (.int .i64 1)).setCell ⟨w.heap.size,1,none⟩ (.int .i64 ((N.idxOf p:Nat):Int))).setCell ⟨w.heap.size,2,none⟩ (.string ⟨#[]⟩)).setCell ⟨w.heap.size,3,none⟩ (.slice none 0 0)).heap[g]?=w3.heap[g]?:=fun g hg=>by rw[b6 _ _ _ _ hg,b6 _ _ _ _ hg,b6 _ _ _ _ hg,b6 _ _ _ _ hg]
 have hne:nb≠w.heap.size:=by have:=aD (ae HN).blk;omega
 refine⟨⟨1,(N.idxOf p:Nat),⟨#[]⟩,none,0,0⟩,uD N p,mo',mc',rfl,⟨(hkeep nb hne).trans (ae HN3).blk,aO (ae HN3).own (fun g q=>hkeep g fun e=> ?_)⟩,?_,⟨⟨rfl,?_,?_,rfl⟩,fun q=>absurd rfl q⟩,?_⟩
 ·subst e;exact(ae HN3).apart (ae HQ3) (by decide) (by decide) (aw (by
   cases mo' with
   | none=>simp[Value.ownBlock]at q
   | some a=>simp[Value.ownBlock]at q;exact⟨a,rfl,q.symm⟩))
 ·rw[Dp];rfl
 ·show ((N.idxOf p:Nat):Int)=(((fK (uD N p)).idxOf ([],p):Nat):Int);rw[Do];congr 1;unfold uD;by_cases q:p∈N
  ·rw[aH q]
  ·rw[aG q,dA,aG q,lW q];simp
 ·rw[Dp];exact AT.2 (aw rfl)
 ·have q:=(bZ.aX (R:=dw nb mo) (ae HB1)).trans (ae HF3);refine⟨q.os,q.tape,q.output,by simp only[fj];exact q.size,fun k hk hr=> ?_,q.row⟩;rw[hkeep k (by omega)];exact q.block k hk hr
end Go.Proofs.YthfjnfcekeknlabGreatDoor
namespace af
theorem JD (N:List Vr) (x:Vr):(nk N x).length<=N.length+1:=by unfold nk;split<;>simp
theorem iK:∀(u:U) (N:List Vr),(cJ N u).length<=N.length+size u:=by
 refine U.ind (fun x N=>by rw[cJ,size];exact JD N x) (fun k tx num ss ih N=> ?_);rw[ij,size];induction ss generalizing N with
 | nil=>simp[b8]
 | cons a ss ihl=>have h1:=ihl (fun b hb=>ih b (by simp[hb])) (cJ N a);have h2:=ih a (by simp) N;rw[bF,b8];omega
theorem Fv (us:List U) (N:List Vr):(us.foldl cJ N).length<=N.length+b8 us:=by
 have:=iK (.n 1 [] 0 us) N;rw[ij,size]at this;induction us generalizing N with
 | nil=>simp[b8]
 | cons a us ih=>have h1:=ih (cJ N a) (by have:=iK (.n 1 [] 0 us) (cJ N a);rw[ij,size]at this;exact this);have h2:=iK a N;rw[bF,b8];omega
theorem oI:∀(u:U) (N:List Vr),∃M,cJ N u=N++M:=by
 refine U.ind (fun x N=> ?_) (fun k tx num ss ih N=> ?_)
 ·rw[cJ];unfold nk;split
  ·exact⟨[],by simp⟩
  ·exact⟨[x],rfl⟩
 ·rw[ij];induction ss generalizing N with
  | nil=>exact⟨[],by simp⟩
  | cons a ss ihl=>obtain⟨M,hM⟩:=ih a (by simp) N;obtain⟨M',hM'⟩:=ihl (fun b hb=>ih b (by simp[hb])) (cJ N a);exact⟨M++M',by rw[bF,hM',hM,aK]⟩
end af
namespace Go.Proofs.YthfjnfcekeknlabGreatDoor
open Go.RowKit af
def OS (w:World) (sb so:Nat) (cs:Array Value) (T:TypeId) (D:List Ng) (no:Option Addr) (nc:Nat) (tb nb:Nat) (N:List Nat) (mo:Option Addr) (s:Nat) (us:List af.U) (kv vv tv:Value) (k:Nat) (iv:Value) (wr:World):Prop:=
 ∃(j:Nat) (N1:List Nat) (mo1:Option Addr) (mc1:Nat) (av:Value) (vs:List AV),k+j=us.length/\iv= .int .i64 (j:Int)/\lZ wr nb N1 mo1 mc1/\fK N1=(us.take j).foldl cJ (fK N)/\bZ (dw nb mo) (dw nb mo1) w wr/\
  wr.heap[w.heap.size]?=some (.cells #[.int .i64 0,.int .i64 0,.string ⟨#[]⟩,.slice none 0 0] 74 (0,0))/\wr.heap[tb]?=some (.cells #[kv,vv,tv,av] 74 (0,0))/\wr.ownsRow (tb+1) 74 4 av j (vs.flatMap oq)/\
  eO (RV s (fK N1) (fun g=>tb+1<=g/\some g≠av.ownBlock) wr) vs (us.take j)/\fS wr sb so cs T D no nc/\di wr D (fun g=>¬dw nb mo1 g)
theorem Gh {wr w2 w7:World} {s tb nb:Nat} {N1 N2:List Nat} {mo1 mo2:Option Addr} {mc1:Nat} {av v':Value} {vs:List AV} {ts:List af.U} {a2:AV} {t:af.U} {X A:Obj} {M:List af.Vr}
 (hn:lZ wr nb N1 mo1 mc1) (h:eO (RV s (fK N1) (fun g=>tb+1<=g/\some g≠av.ownBlock) wr) vs ts) (hv:RV s (fK N2) (fun g=>wr.heap.size<=g) w2 a2 t) (hM:fK N2=fK N1++M) (hf:bZ (dw nb mo1) (dw nb mo2) wr w2) (htb:tb<wr.heap.size) (hav:∀k,av.ownBlock=some k->tb+1<=k/\k<wr.heap.size)
 (hg:((w2.alloc X).alloc A).grownBy w7 av.ownBlock) (hat:v'.ownBlock=av.ownBlock\/v'.ownBlock=some ((w2.alloc X).alloc A).heap.size) (u:Value):
 eO (RV s (fK N2) (fun g=>tb+1<=g/\some g≠v'.ownBlock) (w7.setCell ⟨tb,3,none⟩ u)) (vs++[a2]) (ts++[t]):=by
 have hsz:=hf.size;have keep:∀g,g<w2.heap.size->g≠tb->some g≠av.ownBlock->(w7.setCell ⟨tb,3,none⟩ u).heap[g]?=w2.heap[g]?:=fun g h1 h2 h4=>by rw[b6 _ _ _ _ h2,hg.block g (by simp;omega) h4,aZ _ _ _ (by simp;omega),aZ _ _ _ h1]
 have away:∀g,g<w2.heap.size->some g≠av.ownBlock->some g≠v'.ownBlock:=fun g h1 h2=>by
  rcases hat with e | e<;>rw[e]
  ·exact h2
  ·simp;omega
 refine eO.snoc (hv.keep fun g cs hp hc=> ?_) (h.imp fun a t q=> ?_)
 ·have hl:=aD hc;have h4:some g≠av.ownBlock:=fun e=>by have:=(hav g e.symm).2;omega
  exact⟨(keep g hl (by omega) h4).trans hc,by omega,away g hl h4⟩
 ·rw[hM];refine RV.more M (q.keep fun g cs hp hc=> ?_);have hl:=aD hc;obtain⟨p1,p2⟩:=hp;exact⟨(keep g (by omega) (by omega) p2).trans ((hf.block g hl (hn.apart hc (by decide) (by decide))).trans hc),p1,away g (by omega) p2⟩
theorem EC {s:Nat} (IH:BU s) (w:World) (sb so:Nat) (cs:Array Value) (T:TypeId) (D:List Ng) (no:Option Addr) (nc:Nat) (fr:Nat->Nat) (n:Nat) (u:af.U) (us:List af.U) (d:Ng) (nb:Nat) (N:List Nat) (mo:Option Addr) (mc:Nat) (h:fS w sb so cs T D no nc) (hT1:T≠136) (hT2:T≠3) (hok:g8 D fr) (hn:lZ w nb N mo mc) (har:di w D (fun g=>¬dw nb mo g)) (hnl:n<D.length) (hd:D[fr n]?=some d) (od:jw D.length d) (md:d∈D) (hk:d.k≠1) (hul:d.args.length=us.length) (hts:∀(i a:Nat) (v:af.U),d.args[i]?=some a->us[i]?=some v->Tr (e8 D) fr a v)
 (hu:(d.k=2/\u= .n 3 [] d.val []/\us=[])\/(d.k=3/\u= .n 1 d.tx.toList 0 us)) (hs:af.size u<=s+1) (hl:N.length+af.size u<=1000000):
 Calls Tryz.prog 72 #[.pointer (some ⟨sb,so,none⟩),.int .i64 (n:Int),.pointer (some ⟨nb,0,none⟩)] w fun e w'=>JL (s+1) nb N mo u w e w':=by
 obtain⟨k,hk'⟩:=hok.hop n hnl;have hsz:af.size u=1+b8 us:=by
  rcases hu with⟨_,rfl,rfl⟩ | ⟨_,rfl⟩
  ·simp[af.size,b8]
  ·rw[af.size]
 have hua:F7 u=us:=by rcases hu with⟨_,rfl,rfl⟩ | ⟨_,rfl⟩<;>rfl
 have hnu:∀M,cJ M u=us.foldl cJ M:=fun M=>by rcases hu with⟨_,rfl,rfl⟩ | ⟨_,rfl⟩<;>rw[ij]
 have hlf:∀M ao cap,vV M ⟨d.k,d.val,d.tx,ao,us.length,cap⟩ u:=fun M ao cap=>by
  rcases hu with⟨q,rfl,rfl⟩ | ⟨q,rfl⟩
  ·exact ay ⟨rfl,q,rfl,rfl,rfl⟩
  ·exact aw ⟨rfl,q,rfl,rfl,by rw[<-hul];exact od.few⟩
 have LA:=ah (fun W (hb:Below w.heap.size w W)=>fd W sb so cs T D no nc n (fr n) k d (h.below hb) hk' hd);have AG:=ah (fun W (hb:Below w.heap.size w W)=>lC W sb so cs T D no nc n (fr n) k d (h.below hb) hk' hd);have HAR:=ah (show∀W R,di W D R->tW W d.ao d.args from fun W R q=>q.row md)
 have HIN:=ah od.A7;have HTS:=ah hts;have HSZ:=ah hsz;have HS:=ah hs;have HL:=ah hl;have HUA:=ah hua;have HNU:=ah hnu;have HLF:=ah hlf;have HN:=ah hn;have HST:=ah h;have HARG:=ah har;have HOK:=ah hok;have I:=ah IH;have hfew:=od.few;have HT1:=ah hT1;have HT2:=ah hT2;obtain⟨i0',hi,hz0,hz1,hz2⟩:=dH Tryz.Il;obtain⟨dk,val,tx,cnt,ao,cap,xs,nx,qs⟩:=d;dsimp only at hk LA AG HAR HIN HTS hul hfew HLF;have t1:(dk == 1)=false:=by simpa using hk
 have HUL:=ah hul;clear h hok hn har hnl hd od md hk' hk hts hu hsz hua hnu hlf hs hl IH hul hT1 hT2;go_enter Tryz.func72,Tryz.ntmps72;go_wp2_with fail;refine(ae LA _ (Qx.alloc Qw _)).mono ?_;rintro e w1 ⟨rfl,hb1⟩;have HB1:=ah ((((al w.heap.size w).alloc Qw (.cells #[.int .i64 0,.int .i64 0,.string ⟨#[]⟩,.slice none 0 0] 74)).trans (hb1.mono (by simp))).alloc (by have:=hb1.size;simp at this;omega) (.cells #[.int .i64 dk,.int .i64 val,.string tx,.int .i64 (cnt:Int)] 144));have r0:=hb1.block w.heap.size (by simp);have r1:=r0.trans (aB w _);have z1:w.heap.size<w1.heap.size:=aD r1;have hB4:Below w.heap.size w ((w1.alloc (.cells #[.int .i64 dk,.int .i64 val,.string tx,.int .i64 (cnt:Int)] 144)).alloc (.cells #[.int .i64 dk,.int .i64 val,.string tx,.slice none 0 0] 74)):=(ae HB1).alloc (by simp;omega) _;have e4:=aB (w1.alloc (.cells #[.int .i64 dk,.int .i64 val,.string tx,.int .i64 (cnt:Int)] 144)) (.cells #[.int .i64 dk,.int .i64 val,.string tx,.slice none 0 0] 74);rw[aF]at e4;have HLL:=ah (show OS w sb so cs T D no nc (w1.heap.size+1) nb N mo s us (.int .i64 dk) (.int .i64 val) (.string tx) us.length (.int .i64 0) ((w1.alloc (.cells #[.int .i64 dk,.int .i64 val,.string tx,.int .i64 (cnt:Int)] 144)).alloc (.cells #[.int .i64 dk,.int .i64 val,.string tx,.slice none 0 0] 74))from
  ⟨0,N,mo,mc,.slice none 0 0,[],by omega,rfl,(ae HN).below hB4,rfl,bZ.aX hB4,aQ (aQ r1 _) _,e4,bD _ _ _ _,trivial,(ae HST).below hB4,(ae HARG).below hB4⟩)
 have HB4:=ah hB4;clear hb1 r0 r1 hB4 e4;go_wp2_with fail;refine(ae AG _ (ae HB4)).mono ?_;rintro e w2 ⟨rfl,rfl⟩;have HXU:=ah (show xs.length=us.length from ae HUL)
 go_wp2_with fail;go_loopg [37] us.length (fun k iv wr=>OS w sb so cs T D no nc (w1.heap.size+1) nb N mo s us (.int .i64 dk) (.int .i64 val) (.string tx) k iv wr)
 case atStart=>exact ae HLL
 case round=>
  clear HLL;obtain⟨j,N1,mo1,mc1,av,vs,hkj,rfl,hnm,hnn,hfr,hbz,hbt,how,hall,hst,har⟩:=hrel;obtain⟨oo,cp,rfl⟩:=gI how;have z2:=aD hbt;by_cases hlt:j<us.length
  ·have hltx:j<xs.length:=by have:=ae HXU;omega
   obtain⟨gx,ex,zx,cx⟩:=(ae HAR wr _ har).at hltx;subst ex;have hsj:af.size us[j]<=b8 us:=fP (aL hlt);have hN1:N1.length<=N.length+b8 (us.take j):=by have:=Fv (us.take j) (fK N);rw[<-hnn,Dm,Dm]at this;exact this
   have hsn:b8 (us.take (j+1))=b8 (us.take j)+af.size us[j]:=by rw[bR,aj hlt];exact oD _ _
   have hle:=sk us (j+1);have IC:=ah (ae I wr sb so cs T D no nc fr xs[j] us[j] nb N1 mo1 mc1 hst (ae HT1) (ae HT2) (ae HOK) hnm har (ae HIN _ (aL hltx)) (ae HTS j _ _ (aj hltx) (aj hlt)) (by have:=ae HSZ;have:=ae HS;omega) (by have:=ae HSZ;have:=ae HL;omega));have HNN:=ah (show (us.take (j+1)).foldl cJ (fK N)=cJ (fK N1) us[j]by rw[bR,aj hlt,cT,hnn];rfl)
   have HTK:=ah (show us.take (j+1)=us.take j++[us[j]]by rw[bR,aj hlt];rfl)
   have HKJ:=ah hkj;have HLT:=ah hlt;have HNM:=ah hnm;have HFR:=ah hfr;have HBZ:=ah hbz;have HBT:=ah hbt;have HOW:=ah how;have HALL:=ah hall;have HST1:=ah hst;have HARG1:=ah har;have j0:(0:Int)<=(j:Int):=by omega
   have j1:(j:Int)<(xs.length:Int):=by omega
   have j3:j<=3:=by omega
   generalize xs[j]=na at*;generalize us[j]=uj at*;clear hnm hnn hfr hbz hbt how hall hst har hsj hN1 hsn hle hltx hkj hlt;go_wp2_with fail;refine(ae IC).mono ?_;rintro e w2 ⟨a2,N2,mo2,mc2,rfl,hn2,hv2,hr2,hf2⟩;have q0:=(hf2.block w.heap.size (aD (ae HBZ)) ((ae HNM).apart (ae HBZ) (by decide) (by decide))).trans (ae HBZ);have q2:=(hf2.block (w1.heap.size+1) (aD (ae HBT)) ((ae HNM).apart (ae HBT) (by decide) (by decide))).trans (ae HBT);have HO2:=ah (aO (ae HOW) (fun g q=>hf2.block g ((ae HOW).lt g q).2 (by
    rcases(ae HOW).2 with⟨c,_⟩ | ⟨g',cp',cur,c,_,hc,_⟩
    ·rw[c]at q;simp[Value.ownBlock]at q
    ·rw[c]at q;simp[Value.ownBlock]at q;subst q;exact(ae HNM).apart hc (by decide) (by decide))))
   have y2:=aN q2;have yz2:=aD q2;have HQ0:=ah q0;have HQ2:=ah q2;have HN2:=ah hn2;have HV2:=ah hv2;have HR2:=ah hr2;have HF2:=ah hf2;have hz2':=hf2.size;have hzw:w.heap.size<w1.heap.size+1:=by omega
   clear q0 q2 hn2 hv2 hr2 hf2 IC;go_wp2_with (first | (at_builtin;go_must (refine wpList_append_own_at _ rfl (.tmp 46) (.tmp 48) 72 rfl (w1.heap.size+1+1) 74 i0' (.agg #[.int .i64 0,.int .i64 0,.string ⟨#[]⟩,.slice none 0 0]) 4 56 Tryz.underlying72 hi hz0 hz1 hz2 rfl (by decide) _ j (vs.flatMap oq) rfl (((ae HO2).alloc _).alloc _) ⟨w2.heap.size+1,0,none⟩ 1 1 [.int .i64 a2.k,.int .i64 a2.val,.string a2.tx,.slice a2.ao a2.n a2.cap] rfl rfl (AQ _ _ _ _ _ _ _) (Bk _ _ _ _ _ _) (by unfold maxLen;omega) (by omega) (by simp;omega) ?_);go_must (intro v' w7 hown' hgrow _ hat;obtain⟨g',cap',hv,hcm⟩:=fR hown';subst hv;have HAT:=ah (show (Value.slice (some ⟨g',0,none⟩) (j+1) cap').ownBlock=(Value.slice oo j cp).ownBlock\/(Value.slice (some ⟨g',0,none⟩) (j+1) cap').ownBlock=some _ from hat);have HG:=ah (show _ from hgrow);have HOWN7:=ah hown';have HB7:=ah ((((al (w1.heap.size+1+1) w2).alloc (by omega) (.cells #[.int .i64 a2.k,.int .i64 a2.val,.string a2.tx,.slice a2.ao a2.n a2.cap] 74)).alloc (by simp;omega) (.cells #[.int .i64 a2.k,.int .i64 a2.val,.string a2.tx,.slice a2.ao a2.n a2.cap] 74)).grown hgrow (by simp;omega) (fun k q=>((ae HO2).lt k q).1));have q7:=((ae HB7).block (w1.heap.size+1) (by omega)).trans (ae HQ2);have HQ7:=ah q7;have z7:=aN q7;have zx7:=bI q7;have zz7:=aD q7;clear hown' hgrow hat q7)))
   obtain⟨M,hM⟩:=af.oI uj (fK N1);have HR7:=ah (Gh (ae HNM) (ae HALL) (ae HR2) ((ae HV2).trans hM) (ae HF2) z2 (fun k q=>(ae HOW).lt k q) (ae HG) (ae HAT) (.slice (some ⟨g',0,none⟩) (j+1) cap'));clear hM;go_roundg (gk - 1)
   case measure=>have:=ae HKJ;have:=ae HLT;omega
   case rel=>
    have hG:=ae HG;have hgz:=hG.size;simp only[aF]at hgz;have keepN:∀g,g<w2.heap.size->(∀p,oo=some p->g≠p.block)->g≠w1.heap.size+1->(w7.setCell ⟨w1.heap.size+1,3,none⟩ (.slice (some ⟨g',0,none⟩) (j+1) cap')).heap[g]?=w2.heap[g]?:=fun g h1 h2 h3=>by rw[b6 _ _ _ _ h3,hG.block g (by simp;omega) (i7 h2),aZ _ _ _ (by simp;omega),aZ _ _ _ h1]
    have oty:∀(g:Nat) (xs:Array Value) (S:TypeId),w2.heap[g]?=some (.cells xs S (0,0))->S≠74->∀p,oo=some p->g≠p.block:=fun g xs S hg hS p hp e=>by
     rcases(ae HO2).2 with⟨c,_⟩ | ⟨g'',cp',cur,c,_,hc,_⟩
     ·rw[hp]at c;cases c
     ·simp only[aS]at c;rw[hp]at c;obtain⟨c,_⟩:=c;cases c;dsimp only at e;subst e;rw[hc]at hg;simp only[aM,aR]at hg;exact hS hg.2.1.symm
    have tyT:∀(g:Nat) (xs:Array Value) (S:TypeId),w2.heap[g]?=some (.cells xs S (0,0))->S≠74->(w7.setCell ⟨w1.heap.size+1,3,none⟩ (.slice (some ⟨g',0,none⟩) (j+1) cap')).heap[g]?=w2.heap[g]?:=fun g xs S hg hS=>keepN g (aD hg) (oty g xs S hg hS) (fun e=>by subst e;rw[ae HQ2]at hg;simp only[aM,aR]at hg;exact hS hg.2.1.symm);have hB7:=ae HB7;have Lm:∀p,oo=some p->w1.heap.size+1+1<=p.block:=fun p q=>((ae HO2).lt p.block (by rw[q];rfl)).1;refine⟨j+1,N2,mo2,mc2,.slice (some ⟨g',0,none⟩) (j+1) cap',vs++[a2],by have:=ae HKJ;have:=ae HLT;omega,by go_num,⟨(tyT _ _ _ (ae HN2).blk (by decide)).trans (ae HN2).blk,aO (ae HN2).own fun g q=> ?_⟩,(ae HV2).trans (ae HNN).symm,?_,?_,?_,?_,?_,?_,?_⟩
    ·rcases(ae HN2).own.2 with⟨c,_⟩ | ⟨g'',cp',cur,c,_,hc,_⟩
     ·rw[c]at q;simp[Value.ownBlock]at q
     ·rw[c]at q;simp[Value.ownBlock]at q;subst q;exact tyT _ _ _ hc (by decide)
    ·have q:=(ae HFR).trans (ae HF2);refine⟨hG.os.trans q.os,hG.tape.trans q.tape,hG.output.trans q.output,by rw[fj];have:=q.size;omega,fun k hk hr=> ?_,q.row⟩;rw[keepN k (by have:=q.size;omega) (fun p hp e=>by have:=Lm p hp;omega) (by omega)];exact q.block k hk hr
    ·exact bH ((hB7.block _ (by omega)).trans (ae HQ0)) (by omega) _ _
    ·have:=bB (ae HQ7) 3 (.slice (some ⟨g',0,none⟩) (j+1) cap');simpa using this
    ·have:=aO (ae HOWN7) (w':=w7.setCell ⟨w1.heap.size+1,3,none⟩ (.slice (some ⟨g',0,none⟩) (j+1) cap')) (fun k q=>b6 _ _ _ _ (by have:=((ae HOWN7).lt k q).1;omega));rw[uJ];simpa [oq] using this
    ·rw[ae HTK];exact ae HR7
    ·have hs2:=(ae HST1).OI (ae HNM) (ae HT1) (ae HT2) (ae HF2);refine⟨?_,hs2.qF,aO hs2.own fun g q=> ?_,hs2.ty⟩
     ·by_cases hTT:T=74
      ·have hlt1:=aD (ae HST).blk;exact(b6 _ _ _ _ (by omega)).trans ((hG.block sb (by have:=aD hs2.blk;simp;omega) (i7 fun p hp e=>by have:=Lm p hp;omega)).trans ((aZ _ _ _ (by have:=aD hs2.blk;simp;omega)).trans ((aZ _ _ _ (aD hs2.blk)).trans hs2.blk)))
      ·exact(tyT _ _ _ hs2.blk hTT).trans hs2.blk
     ·rcases hs2.own.2 with⟨c,_⟩ | ⟨g'',cp',cur,c,_,hc,_⟩
      ·rw[c]at q;simp[Value.ownBlock]at q
      ·rw[c]at q;simp[Value.ownBlock]at q;subst q;exact tyT _ _ _ hc (by decide)
    ·exact((ae HARG1).OI (ae HF2)).keep fun g cs hp hc=>⟨(tyT _ _ _ hc (by decide)).trans hc,hp⟩
  ·obtain rfl:j=us.length:=by omega
   rw[dM]at hall hnn;have hxu:xs.length=us.length:=ae HXU;have hrv:RV (s+1) (fK N1) (fun g=>w.heap.size<g) wr ⟨dk,val,tx,oo,us.length,cp⟩ u:=by
    refine⟨ae HLF _ _ _,fun q=> ?_⟩;rw[ae HUA]at q⊢;rcases how.2 with⟨_,h0⟩ | ⟨g,cap',cur,q1,hb,hc,_,_,_,ht⟩
    ·exact absurd (ch.1 h0) q
    ·simp only[aS]at q1;obtain⟨rfl,_,rfl⟩:=q1;exact⟨g,vs,cur,rfl,by omega,hc,by rw[hall.length];exact ht,hall.imp fun _ _ r=>r.keep fun k cs hp hc'=>⟨hc',by omega⟩⟩
   have r1:=aN hbz;have x1:=bI hbz;have y1:=aD hbz;have r2:=aN hbt;have HRV:=ah hrv;have HNM:=ah hnm;have HNN:=ah hnn;have HFR:=ah hfr;have HBZ:=ah hbz;have HBT:=ah hbt;clear hnm hnn hfr hbt how hall hst har hkj hrv hbz;rw[<-hxu];go_wp2_with fail;rw[hxu];refine aI (v:= .agg #[.int .i64 dk,.int .i64 val,.string tx,.slice oo us.length cp]) (by simp[results,Tryz.results72,go_sem,r1]) rfl ?_;have hkeep:∀g,g≠w.heap.size->((((wr.setCell ⟨w.heap.size,0,none⟩ (.int .i64 dk)).setCell ⟨w.heap.size,1,none⟩ (.int .i64 val)).setCell ⟨w.heap.size,2,none⟩ (.string tx)).setCell ⟨w.heap.size,3,none⟩ (.slice oo us.length cp)).heap[g]?=wr.heap[g]?:=fun g hg=>by rw[b6 _ _ _ _ hg,b6 _ _ _ _ hg,b6 _ _ _ _ hg,b6 _ _ _ _ hg]
   have hnoz:¬dw nb mo1 w.heap.size:=(ae HNM).apart (ae HBZ) (by decide) (by decide);have hne:nb≠w.heap.size:=by have:=aD (ae HN).blk;omega
   refine⟨⟨dk,val,tx,oo,us.length,cp⟩,N1,mo1,mc1,rfl,⟨(hkeep nb hne).trans (ae HNM).blk,aO (ae HNM).own (fun g q=>hkeep g fun e=> ?_)⟩,by rw[ae HNU];exact ae HNN,?_,?_⟩
   ·subst e;exact hnoz (aw (by
     cases mo1 with
     | none=>simp[Value.ownBlock]at q
     | some a=>simp[Value.ownBlock]at q;exact⟨a,rfl,q.symm⟩))
   ·exact(ae HRV).keep (fun g cs hp hc=>⟨(hkeep g (by omega)).trans hc,by omega⟩)
   ·have q:=ae HFR;refine⟨q.os,q.tape,q.output,by simp only[fj];exact q.size,fun k hk hr=> ?_,q.row⟩;rw[hkeep k (by omega)];exact q.block k hk hr
theorem Aa:∀s,BU s
 | 0=>fun _ _ _ _ _ _ _ _ _ _ u _ _ _ _ _ _ _ _ _ _ _ _ hs _=>absurd hs (by have:=size_pos u;omega)
 | s+1=>fun w sb so cs T D no nc fr n u nb N mo mc h hT1 hT2 hok hn har hnl ht hs hl=>by
  obtain⟨d,us,hd,od,md,hul,hts,hu⟩:=Ab hok hnl ht;rcases hu with⟨hk,rfl,rfl⟩ | hu
  ·exact Gg s w sb so cs T D no nc fr n d nb N mo mc h hT1 hT2 hok hn hnl hd hk (by simpa [af.size] using hl)
  ·have hk:d.k≠1:=by rcases hu with⟨q,_⟩ | ⟨q,_⟩<;>omega
   exact EC (Aa s) w sb so cs T D no nc fr n u us d nb N mo mc h hT1 hT2 hok hn har hnl hd od md hk hul hts hu hs hl
structure NP (w:World) (cb:Nat) (V:List Nat) (vo:Option Addr) (vc:Nat):Prop where
 blk:w.heap[cb]?=some (.cells #[.slice vo V.length vc] 90 (0,0))
 own:w.ownsRow 0 3 1 (.slice vo V.length vc) V.length (V.map cN)
def dO (sb:Nat) (no:Option Addr) (cb:Nat) (vo:Option Addr) (k:Nat):Prop:=k=sb\/rowOf no k\/k=cb\/rowOf vo k
structure mA (P:Nat->Prop) (w:World) (sb so:Nat) (cs:Array Value) (T:TypeId) (cb:Nat) (D:List Ng) (V:List Nat) (no:Option Addr) (nc:Nat) (vo:Option Addr) (vc:Nat):Prop where
 st:fS w sb so cs T D no nc
 sc:NP w cb V vo vc
 t1:T≠90
 t2:T≠3
 args:di w D fun g=>P g/\¬rowOf vo g
theorem cm {w:World} {b:Nat} {S S':TypeId} {sz:Nat} {o:Option Addr} {n cap:Nat} {xs:List Value} (h:w.ownsRow b S sz (.slice o n cap) n xs) {g:Nat} {ys:Array Value} (hg:w.heap[g]?=some (.cells ys S' (0,0))) (hne:S'≠S):¬rowOf o g:=by
 rintro⟨p,rfl,rfl⟩;rcases h.2 with⟨c,_⟩ | ⟨g,cp,cur,c,_,hc,_⟩
 ·cases c
 ·simp only[aS,aM]at c;obtain⟨rfl,_⟩:=c;rw[hc]at hg;simp only[aM,aR]at hg;exact hne hg.2.1.symm
theorem bP {o:Option Addr} {n cap g:Nat} (q:(Value.slice o n cap).ownBlock=some g):rowOf o g:=by
 cases o with
 | none=>simp[Value.ownBlock]at q
 | some a=>simp[Value.ownBlock]at q;exact⟨a,rfl,q.symm⟩
theorem dF {o:Option Addr} {n cap g:Nat} (q:¬rowOf o g):some g≠(Value.slice o n cap).ownBlock:=i7 fun p hp e=>q ⟨p,hp,e⟩
theorem bL {w:World} {b:Nat} {S:TypeId} {sz:Nat} {o:Option Addr} {n cap:Nat} {xs:List Value} (h:w.ownsRow b S sz (.slice o n cap) n xs) {g:Nat} (hg:rowOf o g):∃cur,w.heap[g]?=some (.cells cur S (0,0)):=by
 obtain⟨p,rfl,rfl⟩:=hg;rcases h.2 with⟨c,_⟩ | ⟨g,cp,cur,c,_,hc,_⟩
 ·cases c
 ·simp only[aS,aM]at c;obtain⟨rfl,_⟩:=c;exact⟨cur,hc⟩
section
variable {P:Nat->Prop} {w:World} {sb so:Nat} {cs:Array Value} {T:TypeId} {cb:Nat} {D:List Ng} {V:List Nat} {no:Option Addr} {nc:Nat} {vo:Option Addr} {vc:Nat}
theorem NP.below {w':World} (h:NP w cb V vo vc) (hb:Below w.heap.size w w'):NP w' cb V vo vc:=
 ⟨(hb.block cb (aD h.blk)).trans h.blk,aO h.own (fun g q=>hb.block g (h.own.lt g q).2)⟩
theorem mA.below {w':World} (h:mA P w sb so cs T cb D V no nc vo vc) (hb:Below w.heap.size w w'):mA P w' sb so cs T cb D V no nc vo vc:=
 ⟨h.st.below hb,h.sc.below hb,h.t1,h.t2,h.args.below hb⟩
theorem mA.ne (h:mA P w sb so cs T cb D V no nc vo vc):sb≠cb:=fun e=>by have h1:=h.st.blk;rw[e,h.sc.blk]at h1;simp only[aM,aR]at h1;exact h.t1 h1.2.1.symm
theorem mA.rows (h:mA P w sb so cs T cb D V no nc vo vc):∀k,dO sb no cb vo k->k<w.heap.size:=by
 rintro k (rfl | ⟨p,rfl,rfl⟩ | rfl | ⟨p,rfl,rfl⟩)
 ·exact aD h.st.blk
 ·exact(h.st.own.lt p.block rfl).2
 ·exact aD h.sc.blk
 ·exact(h.sc.own.lt p.block rfl).2
theorem mA.node {W w1:World} (h:mA P w sb so cs T cb D V no nc vo vc) (_hP:∀g,w.heap.size<=g->P g) (hso:so<cs.size) (hW:Below w.heap.size w W) {g cap':Nat} {d:Ng}
 (hown:w1.ownsRow 0 147 7 (.slice (some ⟨g,0,none⟩) (D.length+1) cap') (D.length+1) (nZ D++B5 d)) (hg:W.grownBy w1 (Value.slice no D.length nc).ownBlock) (hat:rowOf no g\/w.heap.size<=g)
 (hd:d.args≠[]->∃(q:Nat) (xs:Array Value),d.ao=some ⟨q,0,none⟩/\P q/\¬rowOf vo q/\q<w.heap.size/\w.heap[q]?=some (.cells xs 3 (0,0))/\xs.toList.take d.args.length=d.args.map cN):
 mA P (w1.setCell ⟨sb,so,none⟩ (.slice (some ⟨g,0,none⟩) (D.length+1) cap')) sb so (cs.setIfInBounds so (.slice (some ⟨g,0,none⟩) (D.length+1) cap')) T cb (D++[d]) V (some ⟨g,0,none⟩) cap' vo vc/\bZ (dO sb no cb vo) (dO sb (some ⟨g,0,none⟩) cb vo) w (w1.setCell ⟨sb,so,none⟩ (.slice (some ⟨g,0,none⟩) (D.length+1) cap')):=by
 have hz:=hW.size;have s0:=aD h.st.blk;have c0:=aD h.sc.blk;have keep:∀k,k<w.heap.size->k≠sb->¬rowOf no k->(w1.setCell ⟨sb,so,none⟩ (.slice (some ⟨g,0,none⟩) (D.length+1) cap')).heap[k]?=w.heap[k]?:=fun k h1 h2 h3=>by rw[b6 _ _ _ _ h2,hg.block k (by omega) (dF h3),hW.block k h1]
 have nsb:¬rowOf no sb:=cm h.st.own h.st.blk h.st.ty;have ncb:¬rowOf no cb:=cm h.st.own h.sc.blk (by decide);have gsb:g≠sb:=fun e=>by
  rcases hat with q | q
  ·exact nsb (e ▸ q)
  ·omega
 have row:∀k,dO sb (some ⟨g,0,none⟩) cb vo k->dO sb no cb vo k\/w.heap.size<=k:=by
  rintro k (e | ⟨p,q,e⟩ | e | e)
  ·exact ay (ay e)
  ·cases q;dsimp only at e;subst e;rcases hat with q | q
   ·exact ay (aw (ay q))
   ·exact aw q
  ·exact ay (aw (aw (ay e)))
  ·exact ay (aw (aw (aw e)))
 have iH:∀(k:Nat) (ys:Array Value) (S:TypeId),w.heap[k]?=some (.cells ys S (0,0))->S≠T->S≠147->(w1.setCell ⟨sb,so,none⟩ (.slice (some ⟨g,0,none⟩) (D.length+1) cap')).heap[k]?=some (.cells ys S (0,0)):=fun k ys S hk h1 h2=>(keep k (aD hk) (fun e=>by rw[e,h.st.blk]at hk;simp only[aM,aR]at hk;exact h1 hk.2.1.symm) (cm h.st.own hk h2)).trans hk;refine⟨⟨⟨?_,?_,?_,h.st.ty⟩,⟨iH cb _ _ h.sc.blk (de h.t1) (by decide),aO h.sc.own fun k q=> ?_⟩,h.t1,h.t2,?_⟩,⟨hg.os.trans hW.os,hg.tape.trans hW.tape,hg.output.trans hW.output,by rw[fj];have:=hg.size;omega,fun k hk hr=>keep k hk (fun e=>hr (ay e)) (fun q=>hr (aw (ay q))),row⟩⟩
 ·have q0:w1.heap[sb]?=some (.cells cs T (0,0)):=by
   rw[hg.block sb (by omega) (dF nsb),hW.block sb s0];exact h.st.blk
  exact bB q0 so _
 ·rw[mx,aH rfl,aH hso];simp
 ·rw[E9,au];exact aO hown (fun k q=>b6 _ _ _ _ (by simp[Value.ownBlock]at q;omega))
 ·obtain⟨cur,hc⟩:=bL h.sc.own (bP q);exact(iH k _ _ hc (de h.t2) (by decide)).trans hc.symm
 ·intro d' hd' hne;rcases bA.1 hd' with q | q
  ·obtain⟨r,xs,h1,h2,h3,h4⟩:=h.args d' q hne;exact⟨r,xs,h1,h2,iH r _ _ h3 (de h.t2) (by decide),h4⟩
  ·obtain rfl:d'=d:=by simpa using q
   obtain⟨r,xs,h1,h2,h3,h4,h5,h6⟩:=hd hne;exact⟨r,xs,h1,⟨h2,h3⟩,iH r _ _ h5 (de h.t2) (by decide),h6⟩
theorem mA.O5 {W w1:World} (h:mA P w sb so cs T cb D V no nc vo vc) (hW:Below w.heap.size w W) {g cap' n:Nat}
 (hown:w1.ownsRow 0 3 1 (.slice (some ⟨g,0,none⟩) (V.length+1) cap') (V.length+1) (V.map cN++[cN n])) (hg:W.grownBy w1 (Value.slice vo V.length vc).ownBlock) (hat:rowOf vo g\/w.heap.size<=g):
 mA P (w1.setCell ⟨cb,0,none⟩ (.slice (some ⟨g,0,none⟩) (V.length+1) cap')) sb so cs T cb D (V++[n]) no nc (some ⟨g,0,none⟩) cap'/\bZ (dO sb no cb vo) (dO sb no cb (some ⟨g,0,none⟩)) w (w1.setCell ⟨cb,0,none⟩ (.slice (some ⟨g,0,none⟩) (V.length+1) cap')):=by
 have hz:=hW.size;have s0:=aD h.st.blk;have c0:=aD h.sc.blk;have keep:∀k,k<w.heap.size->k≠cb->¬rowOf vo k->(w1.setCell ⟨cb,0,none⟩ (.slice (some ⟨g,0,none⟩) (V.length+1) cap')).heap[k]?=w.heap[k]?:=fun k h1 h2 h3=>by rw[b6 _ _ _ _ h2,hg.block k (by omega) (dF h3),hW.block k h1]
 have ncb:¬rowOf vo cb:=cm h.sc.own h.sc.blk (by decide);have gcb:g≠cb:=fun e=>by
  rcases hat with q | q
  ·exact ncb (e ▸ q)
  ·omega
 have row:∀k,dO sb no cb (some ⟨g,0,none⟩) k->dO sb no cb vo k\/w.heap.size<=k:=by
  rintro k (e | e | e | ⟨p,q,e⟩)
  ·exact ay (ay e)
  ·exact ay (aw (ay e))
  ·exact ay (aw (aw (ay e)))
  ·cases q;dsimp only at e;subst e;rcases hat with q | q
   ·exact ay (aw (aw (aw q)))
   ·exact aw q
 have iH:∀(k:Nat) (ys:Array Value) (S:TypeId),w.heap[k]?=some (.cells ys S (0,0))->S≠90->S≠3->(w1.setCell ⟨cb,0,none⟩ (.slice (some ⟨g,0,none⟩) (V.length+1) cap')).heap[k]?=some (.cells ys S (0,0)):=fun k ys S hk h1 h2=>(keep k (aD hk) (fun e=>by rw[e,h.sc.blk]at hk;simp only[aM,aR]at hk;exact h1 hk.2.1.symm) (cm h.sc.own hk h2)).trans hk;refine⟨⟨⟨iH sb _ _ h.st.blk h.t1 h.t2,h.st.qF,aO h.st.own fun k q=> ?_,h.st.ty⟩,⟨?_,?_⟩,h.t1,h.t2,?_⟩,⟨hg.os.trans hW.os,hg.tape.trans hW.tape,hg.output.trans hW.output,by rw[fj];have:=hg.size;omega,fun k hk hr=>keep k hk (fun e=>hr (aw (aw (ay e)))) (fun q=>hr (aw (aw (aw q)))),row⟩⟩
 ·obtain⟨cur,hc⟩:=bL h.st.own (bP q);exact(iH k _ _ hc (by decide) (by decide)).trans hc.symm
 ·have q0:w1.heap[cb]?=some (.cells #[.slice vo V.length vc] 90 (0,0)):=by
   rw[hg.block cb (by omega) (dF ncb),hW.block cb c0];exact h.sc.blk
  have:=bB q0 0 (.slice (some ⟨g,0,none⟩) (V.length+1) cap');simpa using this
 ·rw[au,dL];exact aO hown (fun k q=>b6 _ _ _ _ (by simp[Value.ownBlock]at q;omega))
 ·intro d' hd' hne;obtain⟨r,xs,h1,⟨h2,h2'⟩,h3,h4⟩:=h.args d' hd' hne;refine⟨r,xs,h1,⟨h2,?_⟩,(keep r (aD h3) (fun e=>by rw[e,h.sc.blk]at h3;simp only[aM,aR]at h3;exact absurd h3.2.1 (by decide)) h2').trans h3,h4⟩;rintro⟨p,q,e⟩;cases q;dsimp only at e;subst e;rcases hat with q | q
  ·exact h2' q
  ·have:=aD h3;omega
end
end Go.Proofs.YthfjnfcekeknlabGreatDoor
namespace Go.Proofs.YthfjnfcekeknlabGreatDoor
open Go.RowKit af
theorem Ev (w:World) (sb so cb:Nat) (V:List Nat) (vo:Option Addr) (vc:Nat) (i:Nat) (h:NP w cb V vo vc) (hi:i<V.length):
 Calls Tryz.prog 77 #[.pointer (some ⟨sb,so,none⟩),.int .i64 (i:Int),.pointer (some ⟨cb,0,none⟩)] w fun e w'=>e= .returned (cN V[i])/\w'=w:=by
 have c0:=aN h.blk 0;have cz:=aD h.blk;simp only[aE,aq]at c0;obtain⟨g,hg⟩:∃g,vo=some ⟨g,0,none⟩:=by
  rcases h.own.2 with⟨q,q2⟩ | ⟨g,cp,cur,q,_⟩
  ·omega
  ·simp only[aS]at q;exact⟨g,q.1⟩
 subst hg;have f0:w.cell? ⟨g,i,none⟩=some (.int .i64 (V[i]:Int)):=by rw[h.own.cellAt i (by omega),bC,aj hi];rfl
 have gz:=(h.own.lt g rfl).2;have i0:(0:Int)<=(i:Int):=by omega
 have i1:(i:Int)<(V.length:Int):=by omega
 have t1:decide ((V.length:Int)<=(i:Int))=false:=by simp;omega
 have t2:decide ((i:Int)<0)=false:=by simp
 clear h;generalize V[i]=n at*;go_enter Tryz.func77,Tryz.ntmps77;go_wp2_with fail;refine dW 1 ?_;rw[bT];go_wp2_with fail;go_ret;exact⟨rfl,rfl⟩
def xV (n:Nat):Ng:=⟨1,0,⟨#[]⟩,0,none,0,[],n,0⟩
theorem Ew (P:Nat->Prop) (w:World) (sb so:Nat) (cs:Array Value) (T:TypeId) (cb:Nat) (D:List Ng) (V:List Nat) (no:Option Addr) (nc:Nat) (vo:Option Addr) (vc:Nat) (h:mA P w sb so cs T cb D V no nc vo vc) (hP:∀g,w.heap.size<=g->P g) (hd:D.length<=1000000000) (hv:V.length<=1000000000):
 Calls Tryz.prog 77 #[.pointer (some ⟨sb,so,none⟩),.int .i64 (V.length:Int),.pointer (some ⟨cb,0,none⟩)] w fun e w'=>e= .returned (cN D.length)/\∃no' nc' vo' vc',mA P w' sb so (cs.setIfInBounds so (.slice no' (D.length+1) nc')) T cb (D++[xV D.length]) (V++[D.length]) no' nc' vo' vc'/\bZ (dO sb no cb vo) (dO sb no' cb vo') w w':=by
 obtain⟨ti,hi,hz0,hz1,hz2⟩:=dH CP;obtain⟨tj,hj,hy0,hy1,hy2⟩:=dH kO;have s0:=h.st.cell;have sz:=aD h.st.blk;have c0:=aN h.sc.blk 0;have cz:=aD h.sc.blk;simp only[aE,aq]at c0;have hne:=h.ne;have hso:so<cs.size:=by have:=h.st.qF;exact(bd.1 this).1
 have H:=ah h;have HP:=ah hP;have HSO:=ah hso;have t1:decide ((V.length:Int)<=(V.length:Int))=true:=by simp
 have t2:decide ((V.length:Int)<0)=false:=by simp
 have t3:decide ((V.length:Int)+1<=(V.length:Int))=false:=by simp;omega
 have i0:(0:Int)<=(V.length:Int):=by omega
 have i1:(V.length:Int)<(V.length:Int)+1:=by omega
 have n1:sb≠cb:=hne;have n2:cb≠sb:=de hne;have HNS:=ah (show some sb≠(Value.slice no D.length nc).ownBlock from dF (cm h.st.own h.st.blk h.st.ty))
 have HNC:=ah (show some cb≠(Value.slice no D.length nc).ownBlock from dF (cm h.st.own h.sc.blk (by decide)))
 have HNC2:=ah (show some cb≠(Value.slice vo V.length vc).ownBlock from dF (cm h.sc.own h.sc.blk (by decide)))
 clear h hP hso;go_enter Tryz.func77,Tryz.ntmps77;go_wp2_with fail;refine dW 2 ?_;rw[bT];go_wp2_with (first | (at_builtin;go_loud ((refine wpList_append_own_at _ rfl (.tmp 36) (.tmp 38) 25 rfl 0 3 tj (.int .i64 0) 1 8 Tryz.underlying25 hj hy0 hy1 hy2 rfl (by decide) _ V.length (V.map cN) rfl ((ae HN).1.sc.own.alloc _) ⟨w7.heap.size,0,none⟩ 1 1 [.int .i64 (D.length:Int)] rfl rfl (lq _ _ _ _ (by rw[fj])) (by simp[Value.oneCell']) (by unfold maxLen;omega) (by omega) (cI _) ?_);(intro v2 w9 hown2 hgrow2 _ hat2;obtain⟨g2,cap2,hv2,-⟩:=fR hown2;subst hv2;have HM:=ah ((ae HN).1.O5 (Qx.alloc Qw _) (n:=D.length) hown2 hgrow2 (by rcases hat2 with q | q;exact ay (bP q.symm);(right;simp only[Value.ownBlock,aF,fj,aM]at q⊢;omega)));have m0:=(hgrow2.cell_far ⟨cb,0,none⟩ (by simp only[aF,fj];omega) (ae HNC2)).trans ((aC _ _ _ (by rw[fj];exact zz7)).trans ((World.cell?_setCell_other _ _ _ _ (by intro e;first | exact n1 (cL Addr.block e) | exact n2 (cL Addr.block e))).trans k0));have m1:w9.frozen? ⟨cb,0,none⟩=false:=(by have:=bI (ae HM).1.sc.blk 0;rwa [cH]at this);have m2:w9.cell? ⟨g2,V.length,none⟩=some (.int .i64 (D.length:Int)):=(hown2.cellAt V.length (by omega)).trans (by simp);have mz:=(hown2.lt g2 rfl);have hcw:=aD (ae HM).1.sc.blk;have mne:cb≠g2:=(fun e=>cm (ae HM).1.sc.own (ae HM).1.sc.blk (by decide) ⟨_,rfl,e⟩);clear hown2 hgrow2 hat2))) | (at_builtin;go_must (refine wpList_append_own_at _ rfl (.tmp 24) (.tmp 28) 83 rfl 0 147 ti (.agg #[.int .i64 0,.int .i64 0,.string ⟨#[]⟩,.int .i64 0,.slice none 0 0,.int .i64 0,.int .i64 0]) 7 80 Tryz.underlying83 hi hz0 hz1 hz2 rfl (by decide) _ D.length (nZ D) rfl ((ae H).st.own.alloc _) ⟨w.heap.size,0,none⟩ 1 1 [.int .i64 1,.int .i64 0,.string ⟨#[]⟩,.int .i64 0,.slice none 0 0,.int .i64 (D.length:Int),.int .i64 0] rfl rfl (Ov _ _ _ _ _ rfl rfl) (by simp[Value.oneCell']) (by unfold maxLen;omega) (by omega) (cI _) ?_);go_must (intro v' w7 hown' hgrow _ hat;obtain⟨g',cap',hv',-⟩:=fR hown';subst hv';have HN:=ah ((ae H).node (ae HP) (ae HSO) (Qx.alloc Qw _) (d:=xV D.length) hown' hgrow (by rcases hat with q | q;exact ay (bP q.symm);(right;simp[Value.ownBlock]at q;omega)) (fun q=>absurd rfl q));have k0:=(hgrow.cell_far ⟨cb,0,none⟩ (by simp;omega) (ae HNC)).trans ((aC _ _ _ cz).trans c0);have k1:=(hgrow.cell_far ⟨sb,so,none⟩ (by simp;omega) (ae HNS)).trans ((aC _ _ _ sz).trans s0);have k3:w7.frozen? ⟨sb,so,none⟩=false:=(by have:=bI (ae HN).1.st.blk so;rwa [cH]at this);have zz7:cb<w7.heap.size:=(by have:=aD (ae HN).1.sc.blk;rwa [fj]at this);have zz8:sb<w7.heap.size:=(by have:=aD (ae HN).1.st.blk;rwa [fj]at this);clear hown' hgrow hat)));rw[bT];go_wp2_with fail;go_ret;exact⟨rfl,_,_,_,_,(ae HM).1,(ae HN).2.trans (ae HM).2⟩
theorem MA {α β:Type} {R:α->β->Prop}:∀{xs:List α} {ys:List β},eO R xs ys->∀(i:Nat) (h:i<xs.length) (h':i<ys.length),R xs[i] ys[i]
 | _ :: _,_ :: _,q,0,_,_=>q.1
 | _ :: _,_ :: _,q,i+1,h,h'=>MA q.2 i (by simpa using h) (by simpa using h')
theorem LY {us:List AV} {i:Nat} (h:i<us.length) (j:Nat) (hj:j<4):(us.flatMap oq)[i*4+j]?=(oq us[i])[j]?:=pD (F:=oq) (c:=4) (fun _=>rfl) h j hj
def JK (D:List Ng) (V:List Nat) (N:List (List UInt8)):Nat->Nat->Tm->Prop
 | 0,_,_=>False
 | f+1,n,t=>(t.kind=3->V[N.idxOf t.text.toList]?=some n)/\(t.kind≠3->∃d,D[n]?=some d/\d.nx=n/\d.k=ak t.kind/\(t.kind=4->d.val=(numOf t.text:Int))/\(t.kind=2->d.tx=t.text)/\eO (JK D V N f) d.args t.args)
theorem JK.more {D E:List Ng} {V F:List Nat} {N:List (List UInt8)}:∀{f n:Nat} {t:Tm},JK D V N f n t->JK (D++E) (V++F) N f n t
 | f+1,n,t,⟨h1,h2⟩=>⟨fun k=>by have:=h1 k;rw[cg (bl.1 this).1];exact this,fun k=>by obtain⟨d,q1,q2,q3,q4,q5,q6⟩:=h2 k;exact⟨d,by rw[cg (bl.1 q1).1];exact q1,q2,q3,q4,q5,q6.imp fun _ _=>JK.more⟩⟩
def gP (b:Nat) (E:List Ng):Prop:=∀(i:Nat) (d:Ng),E[i]?=some d->d.nx=b+i/\d.qs=0/\jw (b+i) d/\d.tx.size<=240/\0<=d.val/\d.val<=1000000000
theorem gP.app {b:Nat} {E E2:List Ng} (h:gP b E) (h2:gP (b+E.length) E2):gP b (E++E2):=fun i d hd=>by
 by_cases q:i<E.length
 ·rw[cg q]at hd;exact h i d hd
 ·rw[cZ (by omega)]at hd;have:=h2 _ d hd;rw[show b+E.length+(i - E.length)=b+i by omega]at this;exact this
theorem gP.one {b:Nat} {d:Ng} (h:d.nx=b/\d.qs=0/\jw b d/\d.tx.size<=240/\0<=d.val/\d.val<=1000000000):gP b [d]:=fun i e he=>by
 cases i with
 | zero=>simp at he;subst he;simpa using h
 | succ i=>simp at he
structure iZ (b:Nat) (E:List Ng) (F:List Nat):Prop where
 var:∀n∈F,b<=n/\∃d,E[n - b]?=some d/\d.k=1
 ord:F.Pairwise (·<·)
theorem iZ.app {b:Nat} {E E2:List Ng} {F F2:List Nat} (h:iZ b E F) (h2:iZ (b+E.length) E2 F2):iZ b (E++E2) (F++F2):=by
 refine⟨fun n hn=> ?_,?_⟩
 ·rcases bA.1 hn with q | q
  ·obtain⟨h1,d,h3,h4⟩:=h.var n q;exact⟨h1,d,by rw[cg (bl.1 h3).1];exact h3,h4⟩
  ·obtain⟨h1,d,h3,h4⟩:=h2.var n q;refine⟨by omega,d,?_,h4⟩;rw[cZ (by omega),show n - b - E.length=n - (b+E.length)by omega]
   exact h3
 ·rw[List.pairwise_append];refine⟨h.ord,h2.ord,fun x hx y hy=> ?_⟩;obtain⟨h1,d,h3,_⟩:=h.var x hx;obtain⟨h4,_⟩:=h2.var y hy;have:=(bl.1 h3).1;omega
theorem iZ.nil (b:Nat) (E:List Ng):iZ b E []:=⟨(fun n hn=>by cases hn),List.Pairwise.nil⟩
theorem iZ.last {b:Nat} {E:List Ng} {F:List Nat} (h:iZ b E F) (d:Ng):iZ b (E++[d]) F:=by have:=h.app (iZ.nil (b+E.length) [d]);rwa [br]at this
def Oc (P:Nat->Prop) (sb so:Nat) (cs:Array Value) (T:TypeId) (cb:Nat) (D:List Ng) (V:List Nat) (no:Option Addr) (vo:Option Addr) (N ns:List (List UInt8)) (f:Nat) (t:Tm) (w:World) (e:Ending) (w':World):Prop:=
 ∃(n:Nat) (E:List Ng) (F:List Nat) (no':Option Addr) (nc':Nat) (vo':Option Addr) (vc':Nat),e= .returned (cN n)/\mA P w' sb so (cs.setIfInBounds so (.slice no' (D++E).length nc')) T cb (D++E) (V++F) no' nc' vo' vc'/\gP D.length E/\iZ D.length E F/\(V++F).length=(aP f ns t).length/\JK (D++E) (V++F) N f n t/\n<(D++E).length/\E.length+1<=3 ^ f/\bZ (dO sb no cb vo) (dO sb no' cb vo') w w'
def JY (f:Nat):Prop:=∀(P:Nat->Prop) (w:World) (sb so:Nat) (cs:Array Value) (T:TypeId) (cb:Nat) (D:List Ng) (V:List Nat) (no:Option Addr) (nc:Nat) (vo:Option Addr) (vc:Nat) (N ns:List (List UInt8)) (Q:Nat->Prop) (a:AV) (t:Tm),mA P w sb so cs T cb D V no nc vo vc->(∀g,w.heap.size<=g->P g)->T≠74->(∀n∈V,n<D.length)->RA f N Q w a t->iE f t->V.length=ns.length->(∃M,N=aP f ns t++M)->D.length+3 ^ f<=1000000000->V.length+3 ^ f<=1000000000->
 Calls Tryz.prog 45 #[.pointer (some ⟨sb,so,none⟩),.agg #[.int .i64 a.k,.int .i64 a.val,.string a.tx,.slice a.ao a.n a.cap],.pointer (some ⟨cb,0,none⟩)] w fun e w'=>Oc P sb so cs T cb D V no vo N ns f t w e w'
theorem NO (f:Nat) (P:Nat->Prop) (w:World) (sb so:Nat) (cs:Array Value) (T:TypeId) (cb:Nat) (D:List Ng) (V:List Nat) (no:Option Addr) (nc:Nat) (vo:Option Addr) (vc:Nat) (N ns:List (List UInt8)) (a:AV) (t:Tm) (h:mA P w sb so cs T cb D V no nc vo vc) (hP:∀g,w.heap.size<=g->P g) (hV:∀n∈V,n<D.length) (ha:nt N a t) (_hw:iE (f+1) t) (ka:t.kind=3) (hv:V.length=ns.length) (hN:∃M,N=aP (f+1) ns t++M) (hd:D.length+3 ^ (f+1)<=1000000000) (hvl:V.length+3 ^ (f+1)<=1000000000):
 Calls Tryz.prog 45 #[.pointer (some ⟨sb,so,none⟩),.agg #[.int .i64 a.k,.int .i64 a.val,.string a.tx,.slice a.ao a.n a.cap],.pointer (some ⟨cb,0,none⟩)] w fun e w'=>Oc P sb so cs T cb D V no vo N ns (f+1) t w e w':=by
 have hp:3<=3 ^ (f+1):=by rw[fU];have:1<=3 ^ f:=kY _ _ (by omega);omega
 have hnf:aP (f+1) ns t=jf ns t.text.toList:=by unfold aP;rw[aH ka]
 rw[hnf]at hN;obtain⟨M,hM⟩:=hN;obtain⟨h1,h2,h3,h4,h5,h6,h7,h8⟩:=ha;obtain⟨h9,h10⟩:=h3 ka;obtain⟨k,val,tx,ao,n,cp⟩:=a;dsimp only at h1 h2 h10⊢;have e1:ak t.kind=1:=by rw[ka];rfl
 have hB:=(al w.heap.size w).alloc Qw (.cells #[.int .i64 k,.int .i64 val,.string tx,.slice ao n cp] 74);have HW:=ah (h.below hB);rw[e1]at h1;subst h1 h10;have hcs:∀(cs:Array Value) (so:Nat) (v:Value),cs[so]?=some v->cs.setIfInBounds so v=cs:=fun cs so v q=>by
  apply Array.ext (by simp);intro i h1 h2;rw[Array.getElem_setIfInBounds]
  ·split
   ·rename_i e;subst e;exact(bd.1 q).2.symm
   ·rfl
 by_cases hx:t.text.toList∈ns
 ·have hidx:N.idxOf t.text.toList=ns.idxOf t.text.toList:=by
   rw[hM];unfold jf;rw[aH hx,dA,aH hx]
  have hlt:N.idxOf t.text.toList<V.length:=by rw[hidx,hv];exact bW hx
  have HI:=ah (Ev _ sb so cb V vo vc (N.idxOf t.text.toList) (ae HW).sc hlt);have HFIN:=ah (show Oc P sb so cs T cb D V no vo N ns (f+1) t w (.returned (cN V[N.idxOf t.text.toList])) (w.alloc (.cells #[.int .i64 1,.int .i64 (N.idxOf t.text.toList:Int),.string tx,.slice ao n cp] 74))from by
   refine⟨V[N.idxOf t.text.toList],[],[],no,nc,vo,vc,rfl,?_,(fun i d hd=>by simp at hd),iZ.nil _ _,?_,?_,?_,by simp;omega,bZ.aX hB⟩
   ·have:=hcs cs so _ h.st.qF;simp only[br];rw[this];exact ae HW
   ·rw[hnf];unfold jf;rw[aH hx];simpa using hv
   ·exact⟨fun _=>by simp,fun q=>absurd ka q⟩
   ·simpa using hV _ (aL hlt))
  clear h hP hV h2 h3 h4 h5 h6 h7 h8 h9 hB hcs;generalize hix:V[N.idxOf t.text.toList]=m at*;generalize hjx:N.idxOf t.text.toList=ix at*;clear hix hjx hidx hv hM;go_enter Tryz.func45,Tryz.ntmps45;go_wp2_with fail;refine(ae HI).mono ?_;rintro e w2 ⟨rfl,hw2⟩;rw[hw2];clear hw2 w2;unfold cN at HFIN⊢;go_wp2_with fail;go_ret;exact ae HFIN
 ·have hidx:N.idxOf t.text.toList=V.length:=by
   rw[hM,hv];unfold jf;rw[aG hx,aK,dA,aG hx];simp
  rw[hidx]at HW hB⊢;have HI:=ah (Ew P _ sb so cs T cb D V no nc vo vc (ae HW) (fun g q=>hP g (by simp at q;omega)) (by omega) (by omega));have HFIN:=ah (show∀w2,(∃no' nc' vo' vc',mA P w2 sb so (cs.setIfInBounds so (.slice no' (D.length+1) nc')) T cb (D++[xV D.length]) (V++[D.length]) no' nc' vo' vc'/\bZ (dO sb no cb vo) (dO sb no' cb vo') (w.alloc (.cells #[.int .i64 1,.int .i64 (V.length:Int),.string tx,.slice ao n cp] 74)) w2)->Oc P sb so cs T cb D V no vo N ns (f+1) t w (.returned (cN D.length)) w2 from fun w2 ⟨no',nc',vo',vc',q1,q2⟩=>by
   refine⟨D.length,[xV D.length],[D.length],no',nc',vo',vc',rfl,by rw[au];exact q1,gP.one ⟨rfl,rfl,⟨ay rfl,fun _=>⟨rfl,rfl,rfl,rfl⟩,(fun q=>by cases q),(fun q=>by cases q),fun a ha=>by cases ha⟩,by simp[xV,ByteArray.size],by simp[xV],by simp[xV]⟩,⟨fun n hn=> ?_,by simp⟩,?_,?_,by simp,by simp;omega,(bZ.aX hB).trans q2⟩
   ·obtain rfl:n=D.length:=by simpa using hn
    exact⟨Qw,xV D.length,by simp,rfl⟩
   ·rw[hnf];unfold jf;rw[aG hx];simp[hv]
   ·exact⟨fun _=>by rw[hidx];simp,fun q=>absurd ka q⟩)
  clear h hP hV h2 h3 h4 h5 h6 h7 h8 h9 hidx hv hM hB hcs;go_enter Tryz.func45,Tryz.ntmps45;go_wp2_with fail;refine(ae HI).mono ?_;rintro e w2 ⟨rfl,hs2⟩;have HF:=ah (ae HFIN w2 hs2);clear hs2;unfold cN at HF⊢;go_wp2_with fail;go_ret;exact ae HF
section
variable {P:Nat->Prop} {w:World} {sb so:Nat} {cs:Array Value} {T:TypeId} {cb:Nat} {D:List Ng} {V:List Nat} {no:Option Addr} {nc:Nat} {vo:Option Addr} {vc:Nat}
theorem mA.grown {w7:World} {X:Obj} {o o':Option Addr} {n cap b:Nat} {xs:List Value} (h:mA (fun g=>P g/\¬rowOf o g) w sb so cs T cb D V no nc vo vc) (ho:w.ownsRow b 3 1 (.slice o n cap) n xs) (hnv:∀g,rowOf o g->¬rowOf vo g) (hg:(w.alloc X).grownBy w7 (Value.slice o n cap).ownBlock) (hat:∀g,rowOf o' g->rowOf o g\/w.heap.size<g):mA (fun g=>P g/\¬rowOf o' g) w7 sb so cs T cb D V no nc vo vc:=by
 have keep:∀k,k<w.heap.size->¬rowOf o k->w7.heap[k]?=w.heap[k]?:=fun k h1 h2=>by rw[hg.block k (by simp;omega) (dF h2),aZ _ _ _ h1]
 have iH:∀(k:Nat) (ys:Array Value) (S:TypeId),w.heap[k]?=some (.cells ys S (0,0))->S≠3->w7.heap[k]?=some (.cells ys S (0,0)):=fun k ys S hk h2=>(keep k (aD hk) (cm ho hk h2)).trans hk;refine⟨⟨iH sb _ _ h.st.blk h.t2,h.st.qF,aO h.st.own fun k q=> ?_,h.st.ty⟩,⟨iH cb _ _ h.sc.blk (by decide),aO h.sc.own fun k q=> ?_⟩,h.t1,h.t2,fun d hd hne=> ?_⟩
 ·obtain⟨cur,hc⟩:=bL h.st.own (bP q);exact(iH k _ _ hc (by decide)).trans hc.symm
 ·exact keep k (h.sc.own.lt k q).2 (fun r=>hnv k r (bP q))
 ·obtain⟨r,ys,h1,⟨⟨h2,h3⟩,h4⟩,h5,h6⟩:=h.args d hd hne;refine⟨r,ys,h1,⟨⟨h2,fun q=> ?_⟩,h4⟩,(keep r (aD h5) h3).trans h5,h6⟩;rcases hat r q with q | q
  ·exact h3 q
  ·have:=aD h5;omega
theorem mA.ra {w':World} {R':Nat->Prop} {f:Nat} {N:List (List UInt8)} {Q:Nat->Prop} {a:AV} {t:Tm} (h:mA P w sb so cs T cb D V no nc vo vc) (hT:T≠74) (hf:bZ (dO sb no cb vo) R' w w') (hr:RA f N Q w a t):RA f N Q w' a t:=
 hr.keep fun g _ hp hg _=>⟨(hf.block g (aD hg) (by
  rintro(e | e | e | e)
  ·rw[e,h.st.blk]at hg;simp only[aM,aR]at hg;exact hT hg.2.1
  ·exact cm h.st.own hg (by decide) e
  ·rw[e,h.sc.blk]at hg;simp only[aM,aR]at hg;exact absurd hg.2.1 (by decide)
  ·exact cm h.sc.own hg (by decide) e)).trans hg,hp⟩
theorem mA.blk {w':World} {R':Nat->Prop} {g:Nat} {ys:Array Value} {S:TypeId} (h:mA P w sb so cs T cb D V no nc vo vc) (hf:bZ (dO sb no cb vo) R' w w') (hg:w.heap[g]?=some (.cells ys S (0,0))) (h1:S≠T) (h2:S≠147) (h3:S≠90) (h4:S≠3):w'.heap[g]?=some (.cells ys S (0,0)):=
 (hf.block g (aD hg) (by
  rintro(e | e | e | e)
  ·rw[e,h.st.blk]at hg;simp only[aM,aR]at hg;exact h1 hg.2.1.symm
  ·exact cm h.st.own hg h2 e
  ·rw[e,h.sc.blk]at hg;simp only[aM,aR]at hg;exact h3 hg.2.1.symm
  ·exact cm h.sc.own hg h4 e)).trans hg
end
theorem set_set (cs:Array Value) (so:Nat) (u v:Value):(cs.setIfInBounds so u).setIfInBounds so v=cs.setIfInBounds so v:=by simp
theorem mg {cs:Array Value} {so:Nat} {v:Value} (q:cs[so]?=some v):cs.setIfInBounds so v=cs:=by
 apply Array.ext (by simp);intro i h1 h2;rw[Array.getElem_setIfInBounds];split
 ·rename_i e;subst e;exact(bd.1 q).2.symm
 ·rfl
def P7 (P:Nat->Prop) (w:World) (sb so:Nat) (cs:Array Value) (T:TypeId) (cb:Nat) (D:List Ng) (V:List Nat) (no:Option Addr) (vo:Option Addr) (N ns:List (List UInt8)) (f:Nat) (t:Tm) (C:Array Value) (k:Nat) (av iv:Value) (wr:World):Prop:=
 ∃(j:Nat) (E:List Ng) (F:List Nat) (no1:Option Addr) (nc1:Nat) (vo1:Option Addr) (vc1:Nat) (gs:List Nat) (oo:Option Addr) (cp:Nat),k+j=t.args.length/\iv= .int .i64 (j:Int)/\av= .slice oo j cp/\mA (fun g=>P g/\¬rowOf oo g) wr sb so (cs.setIfInBounds so (.slice no1 (D++E).length nc1)) T cb (D++E) (V++F) no1 nc1 vo1 vc1/\gP D.length E/\iZ D.length E F/\(V++F).length=((t.args.take j).foldl (aP f) ns).length/\
  wr.ownsRow (w.heap.size+1) 3 1 (.slice oo j cp) j (gs.map cN)/\(∀g,rowOf oo g->¬rowOf vo1 g)/\gs.length=j/\eO (JK (D++E) (V++F) N f) gs (t.args.take j)/\(∀g∈gs,g<(D++E).length)/\E.length+j<=j*3 ^ f/\bZ (dO sb no cb vo) (dO sb no1 cb vo1) w wr/\wr.heap[w.heap.size]?=some (.cells C 74 (0,0))/\(∀n∈V++F,n<(D++E).length)
theorem L7 {f:Nat} (IH:JY f) (P:Nat->Prop) (w:World) (sb so:Nat) (cs:Array Value) (T:TypeId) (cb:Nat) (D:List Ng) (V:List Nat) (no:Option Addr) (nc:Nat) (vo:Option Addr) (vc:Nat) (N ns:List (List UInt8)) (Q:Nat->Prop) (a:AV) (t:Tm) (h:mA P w sb so cs T cb D V no nc vo vc) (hP:∀g,w.heap.size<=g->P g) (hT:T≠74) (hV:∀n∈V,n<D.length) (hr:RA (f+1) N Q w a t) (hw:iE (f+1) t) (ka:t.kind≠3) (hv:V.length=ns.length) (hN:∃M,N=aP (f+1) ns t++M) (hd:D.length+3 ^ (f+1)<=1000000000) (hvl:V.length+3 ^ (f+1)<=1000000000):
 Calls Tryz.prog 45 #[.pointer (some ⟨sb,so,none⟩),.agg #[.int .i64 a.k,.int .i64 a.val,.string a.tx,.slice a.ao a.n a.cap],.pointer (some ⟨cb,0,none⟩)] w fun e w'=>Oc P sb so cs T cb D V no vo N ns (f+1) t w e w':=by
 obtain⟨⟨h1,h2,h3,h4,h5,h6,h7,h8⟩,hrow⟩:=hr;have hnf:aP (f+1) ns t=t.args.foldl (aP f) ns:=by
  unfold aP;rw[aG ka];by_cases k4:t.kind=4
  ·rw[aH k4,hw.2.1 (by omega)];rfl
  ·rw[aG k4]
 rw[hnf]at hN;have hso:so<cs.size:=(bd.1 h.st.qF).1;have hrows:=h.rows;obtain⟨ki,val,tx,ao,n,cp⟩:=a;dsimp only at h1 h2 h4 h5 hrow⊢;subst h2;have hk1:(ki == 1)=false:=by rw[h1];rcases h6 with e | e | e<;>first | (exact absurd e ka) | (rw[e];decide)
 have hB:=(al w.heap.size w).alloc Qw (.cells #[.int .i64 ki,.int .i64 val,.string tx,.slice ao t.args.length cp] 74);have HST:=ah (show P7 P w sb so cs T cb D V no vo N ns f t #[.int .i64 ki,.int .i64 val,.string tx,.slice ao t.args.length cp] t.args.length (.slice none 0 0) (.int .i64 0) (w.alloc (.cells #[.int .i64 ki,.int .i64 val,.string tx,.slice ao t.args.length cp] 74))from by refine⟨0,[],[],no,nc,vo,vc,[],none,0,by omega,rfl,rfl,?_,(fun i d hd=>by simp at hd),iZ.nil _ _,by simpa using hv,bD _ _ _ _,(fun g ⟨p,q,_⟩=>by cases q),rfl,trivial,(fun g hg=>by cases hg),by simp,bZ.aX hB,aB w _,by simpa using hV⟩;simp only[br];rw[mg h.st.qF];have:=h.below hB;exact⟨this.st,this.sc,this.t1,this.t2,this.args.keep fun g cs hp hg=>⟨hg,⟨hp.1,fun⟨p,q,_⟩=>by cases q⟩,hp.2⟩⟩)
 have HROW:=ah hrow;have HRO:=ah hrows;have HW:=ah hw;have HNN:=ah hN;have HNF:=ah hnf;have HD:=ah hd;have HVL:=ah hvl;have HVE:=ah hv;have H4:=ah h4;have H5:=ah h5;have H1:=ah h1;have H7:=ah h7;have HKA:=ah ka;have HP:=ah hP;have HT:=ah hT;have HAD:=ah h;have HSO:=ah hso;have HPO:=ah (show 3 ^ (f+1)=3*3 ^ f by rw[fU,gQ])
 have HP1:=ah (show 1<=3 ^ f from kY _ _ (by omega))
 have I:=ah IH;obtain⟨tj,hj,hy0,hy1,hy2⟩:=dH kO;clear h hrow hw ka hv hN hd hnf hrows h3 h4 h5 h6 h7 h1 IH hP hT hV hso hvl hB;go_enter Tryz.func45,Tryz.ntmps45;go_wp2_with fail;go_loopg [7,23] t.args.length (fun k av iv wr=>P7 P w sb so cs T cb D V no vo N ns f t #[.int .i64 ki,.int .i64 val,.string tx,.slice ao t.args.length cp] k av iv wr)
 case atStart=>exact ae HST
 case round=>
  clear HST;obtain⟨j,E,F,no1,nc1,vo1,vc1,gs,oo,cp1,hkj,rfl,rfl,had,hnd,hnv,hlen,hown,hfree,hgl,hall,hgs,hel,hfr,hbx,hVF⟩:=hrel;have hz:=hfr.size;have z4:=aD hbx;by_cases hlt:j<t.args.length
  ·obtain⟨g,vs,ca,hao,hga,hca,hta,haa⟩:=ae HROW (fun q=>by rw[q]at hlt;simp at hlt);subst hao;have hjv:j<vs.length:=by have:=haa.length;omega
   have hcw:wr.heap[g]?=some (.cells ca 74 (0,0)):=(ae HAD).blk hfr hca (de (ae HT)) (by decide) (by decide) (by decide);have fc:∀i,i<4->wr.cell? ⟨g,j*4+i,none⟩=(oq vs[j])[i]?:=fun i hi=>by rw[aN hcw,<-ci,<-LY hjv i hi,<-hta,cr (by omega)]
   have f0:=fc 0 (by omega);have f1:=fc 1 (by omega);have f2:=fc 2 (by omega);have f3:=fc 3 (by omega);simp only[oq,aq,aA,dJ]at f0 f1 f2 f3;have hfold:(t.args.take (j+1)).foldl (aP f) ns=aP f ((t.args.take j).foldl (aP f) ns) t.args[j]:=by rw[bR,aj hlt,cT];rfl
   have hpre:∃M,N=aP f ((t.args.take j).foldl (aP f) ns) t.args[j]++M:=by obtain⟨M,hM⟩:=ae HNN;rw[<-hfold];obtain⟨K,hK⟩:=oH f (t.args.drop (j+1)) ((t.args.take (j+1)).foldl (aP f) ns);refine⟨K++M,?_⟩;rw[hM,<-aK,<-hK,<-cT,lx]
   have hq3:j*3 ^ f<=2*3 ^ f:=bY _ (by omega);have hDl:(D++E).length+3 ^ f<=1000000000:=by have q1:=ae HD;have q2:=ae HPO;rw[au];omega
   have hFl:F.length<=E.length:=by
    have h1:∀n∈F,n - D.length∈List.range E.length:=fun n hn=>by obtain⟨q1,d,q2,_⟩:=hnv.var n hn;exact J2.2 (bl.1 q2).1
    have h2:(F.map (fun n=>n - D.length)).Nodup:=by unfold List.Nodup;rw[List.pairwise_map];refine hnv.ord.imp_of_mem fun {a b} ha hb hab=> ?_;have:=(hnv.var a ha).1;omega
    have:=h2.length_le_of_subset (l₂:=List.range E.length) (fun x hx=>by obtain⟨n,hn,rfl⟩:=bu.1 hx;exact h1 n hn);simpa using this
   have hVl:(V++F).length+3 ^ f<=1000000000:=by have q1:=ae HVL;have q2:=ae HPO;rw[au];omega
   have hbA:=(al wr.heap.size wr).alloc Qw (.cells #[.int .i64 vs[j].k,.int .i64 vs[j].val,.string vs[j].tx,.slice vs[j].ao vs[j].n vs[j].cap] 74);have hPn:∀g,(wr.alloc (.cells #[.int .i64 vs[j].k,.int .i64 vs[j].val,.string vs[j].tx,.slice vs[j].ao vs[j].n vs[j].cap] 74)).heap.size<=g->P g/\¬rowOf oo g:=fun g hg=>by rw[aF]at hg;refine⟨ae HP g (by omega),fun⟨p,q,e⟩=> ?_⟩;have:=(hown.lt p.block (by rw[q];rfl)).2;omega
   have IC:=ah (ae I (fun g=>P g/\¬rowOf oo g) (wr.alloc (.cells #[.int .i64 vs[j].k,.int .i64 vs[j].val,.string vs[j].tx,.slice vs[j].ao vs[j].n vs[j].cap] 74)) sb so (cs.setIfInBounds so (.slice no1 (D++E).length nc1)) T cb (D++E) (V++F) no1 nc1 vo1 vc1 N ((t.args.take j).foldl (aP f) ns) Q vs[j] t.args[j] (had.below hbA) hPn (ae HT) hVF ((RA.keep (fun g _ hp hg _=>⟨(hbA.block g (aD hg)).trans hg,hp⟩)) ((ae HAD).ra (ae HT) hfr (MA haa j hjv hlt))) ((ae HW).2.2.2 _ (aL hlt)) hlen hpre hDl hVl);have HOWN:=ah (hown.alloc (.cells #[.int .i64 vs[j].k,.int .i64 vs[j].val,.string vs[j].tx,.slice vs[j].ao vs[j].n vs[j].cap] 74));have HFREE:=ah hfree;have HGL:=ah hgl;have HALL:=ah hall;have HGS:=ah hgs;have HEL:=ah hel;have HND:=ah hnd;have HNV:=ah hnv;have HFR:=ah (hfr.trans (bZ.aX hbA));have HAD1:=ah (had.below hbA);have HBX:=ah (aQ hbx (.cells #[.int .i64 vs[j].k,.int .i64 vs[j].val,.string vs[j].tx,.slice vs[j].ao vs[j].n vs[j].cap] 74));have HFO:=ah hfold;have HVF:=ah hVF;have hgw:g<wr.heap.size:=aD hcw;have i0:(0:Int)<=(j:Int):=by omega
   have i1:(j:Int)<(t.args.length:Int):=by omega
   have HLT:=ah hlt;have HKJ:=ah hkj;have hj3:j<=3:=by omega
   clear had hnd hnv hlen hown hfree hgl hall hgs hel hfr hbx hca hta haa hcw fc hfold hpre hDl hFl hVl hkj hVF hPn hbA hq3 hga;go_wp2_with fail;refine(ae IC).mono ?_;rintro e w2 ⟨m,E2,F2,no2,nc2,vo2,vc2,rfl,hs2,hd2,hv2,hl2,hr2,hm2,he2,hf2⟩;rw[set_set]at hs2;have HOW2:=ah (aO (ae HOWN) (fun g q=>hf2.block g ((ae HOWN).lt g q).2 (by
    have hro:=bP q;rintro(e | e | e | e)
    ·obtain⟨cur,hc⟩:=bL (ae HOWN) hro;rw[e,(ae HAD1).st.blk]at hc;simp only[aM,aR]at hc;exact(ae HAD1).t2 hc.2.1
    ·obtain⟨cur,hc⟩:=bL (ae HOWN) hro;exact cm (ae HAD1).st.own hc (by decide) e
    ·obtain⟨cur,hc⟩:=bL (ae HOWN) hro;rw[e,(ae HAD1).sc.blk]at hc;simp only[aM,aR]at hc;exact absurd hc.2.1 (by decide)
    ·exact ae HFREE g hro e)))
   have hzz:=hf2.size;rw[aF]at hzz;have HS2:=ah hs2;have HD2:=ah hd2;have HV2:=ah hv2;have HL2:=ah hl2;have HR2:=ah hr2;have HM2:=ah hm2;have HE2:=ah he2;have HF2:=ah hf2;clear hs2 hd2 hv2 hl2 hr2 hm2 he2 hf2 f0 f1 f2 f3 IC;unfold cN;go_wp2_with (first | (at_builtin;go_must (refine wpList_append_own_at _ rfl (.tmp 31) (.tmp 33) 25 rfl (w.heap.size+1) 3 tj (.int .i64 0) 1 8 Tryz.underlying25 hj hy0 hy1 hy2 rfl (by decide) _ j (gs.map cN) rfl ((ae HOW2).alloc _) ⟨w2.heap.size,0,none⟩ 1 1 [.int .i64 (m:Int)] rfl rfl (lq _ _ _ _ rfl) (by simp[Value.oneCell']) (by unfold maxLen;omega) (by omega) (by simp;omega) ?_);go_must (intro v' w7 hown' hgrow _ hat;obtain⟨g',cap',hv',-⟩:=fR hown';subst hv';have HO7:=ah hown';have HG:=ah hgrow;have HAT:=ah (show∀g,rowOf (some ⟨g',0,none⟩) g->rowOf oo g\/w2.heap.size<g from (fun g hg=>by obtain⟨p,q,e⟩:=hg;cases q;dsimp only at e;subst e;rcases hat with q | q;exact ay (bP q.symm);right;have q2:g=w2.heap.size+1:=(by simpa [Value.ownBlock] using q);omega));clear hown' hgrow hat)))
   go_roundg (gk - 1)
   case measure=>have:=ae HKJ;have:=ae HLT;omega
   case rel=>
    have hfree2:∀g,rowOf oo g->¬rowOf vo2 g:=fun g q r=>by
     have q3:=((ae HOWN).lt g (by obtain⟨p,e1,e2⟩:=q;rw[e1,e2];rfl)).2;rcases(ae HF2).row g (aw (aw (aw r)))with(e | e | e | e) | e
     ·obtain⟨cur,hc⟩:=bL (ae HOWN) q;rw[e,(ae HAD1).st.blk]at hc;simp only[aM,aR]at hc;exact(ae HAD1).t2 hc.2.1
     ·obtain⟨cur,hc⟩:=bL (ae HOWN) q;exact cm (ae HAD1).st.own hc (by decide) e
     ·obtain⟨cur,hc⟩:=bL (ae HOWN) q;rw[e,(ae HAD1).sc.blk]at hc;simp only[aM,aR]at hc;exact absurd hc.2.1 (by decide)
     ·exact ae HFREE g q e
     ·omega
    have hS7:=(ae HS2).grown (ae HOW2) hfree2 (ae HG) (ae HAT);have hgz:=(ae HG).size;simp only[aF]at hgz;have hlowO:∀g,rowOf oo g->w.heap.size+1<=g:=fun g ⟨p,q,e⟩=>by rw[e];exact((ae HOWN).lt p.block (by rw[q];rfl)).1
    have keep7:∀k,k<=w.heap.size->k<w2.heap.size->w7.heap[k]?=w2.heap[k]?:=fun k h1 h2=>by rw[(ae HG).block k (by simp;omega) (dF fun q=>by have:=hlowO k q;omega),aZ _ _ _ h2]
    have hF7:bZ (dO sb no cb vo) (dO sb no2 cb vo2) w w7:=by have q:=(ae HFR).trans (ae HF2);refine⟨(ae HG).os.trans q.os,(ae HG).tape.trans q.tape,(ae HG).output.trans q.output,by have:=q.size;omega,fun k h1 h2=> ?_,q.row⟩;rw[keep7 k (by omega) (by have:=q.size;omega)];exact q.block k h1 h2
    refine⟨j+1,E++E2,F++F2,no2,nc2,vo2,vc2,gs++[m],some ⟨g',0,none⟩,cap',by have:=ae HKJ;have:=ae HLT;omega,by go_num,rfl,by rw[<-aK,<-aK];exact hS7,(ae HND).app (by have:=ae HD2;rwa [au]at this),(ae HNV).app (by have:=ae HV2;rwa [au]at this),by rw[ae HFO,<-aK];exact ae HL2,?_,?_,by simp[ae HGL],?_,?_,?_,hF7,?_,?_⟩
    ·have:=ae HO7;simpa [cN] using this
    ·intro g q r;rcases ae HAT g q with e | e
     ·exact hfree2 g e r
     ·have:=(ae HS2).rows g (aw (aw (aw r)));omega
    ·rw[bR,aj (ae HLT),<-aK,<-aK];exact eO.snoc (ae HR2) ((ae HALL).imp fun _ _ r=>r.more)
    ·intro g hg;rw[<-aK];rcases bA.1 hg with q | q
     ·have:=ae HGS g q;rw[au];omega
     ·obtain rfl:g=m:=by simpa using q
      exact ae HM2
    ·have q1:=ae HEL;have q2:=ae HE2;rw[au,d9];omega
    ·rw[keep7 w.heap.size Qw (by omega)];exact(ae HAD1).blk (ae HF2) (ae HBX) (de (ae HT)) (by decide) (by decide) (by decide)
    ·intro n hn;rw[<-aK]at hn⊢;rcases bA.1 hn with q | q
     ·have:=ae HVF n q;rw[au];omega
     ·obtain⟨q1,d,q2,_⟩:=(ae HV2).var n q;have:=(bl.1 q2).1;rw[au];omega
  ·obtain rfl:j=t.args.length:=by omega
   rw[dM]at hlen hall;have hdl:(D++E).length+1<=1000000000:=by
    have q1:=ae HD;have q2:=ae HPO;have q4:=ae HP1;have q5:E.length+2<=3*3 ^ f:=by
     obtain q | q | q | q:t.args.length=0\/t.args.length=1\/t.args.length=2\/t.args.length=3:=by omega
     all_goals rw[q]at hel;omega
    rw[au];omega
   have HE2:=ah (show (E.length+1)+1<=3 ^ (f+1)by
    have q2:=ae HPO;have q4:=ae HP1;obtain q | q | q | q:t.args.length=0\/t.args.length=1\/t.args.length=2\/t.args.length=3:=by omega
    all_goals rw[q]at hel;omega)
   have s0:=had.st.cell;have b0:=aN hbx 0;have b1:=aN hbx 1;have b2:=aN hbx 2;have b3:=aN hbx 3;simp only[aE,aq,aA]at b0 b1 b2 b3;have sz:=aD had.st.blk;have hlab:=pn (wr.drew) ⟨ki,val,tx,ao,t.args.length,cp⟩;have hlvv:mC ⟨ki,val,tx,ao,t.args.length,cp⟩=if ki=2 then val else 0:=rfl;generalize hlv:mC ⟨ki,val,tx,ao,t.args.length,cp⟩=lv at*;dsimp only at hlab;have LB:=ah hlab;have HLV:=ah hlvv;have hsb':sb≠w.heap.size:=fun e=>by have:=had.st.blk;rw[e,hbx]at this;simp only[aM,aR]at this;exact ae HT this.2.1.symm
   have HNS:=ah (show some sb≠(Value.slice no1 (D++E).length nc1).ownBlock from dF (cm had.st.own had.st.blk had.st.ty))
   have HNB:=ah (show some w.heap.size≠(Value.slice no1 (D++E).length nc1).ownBlock from dF (cm had.st.own hbx (by decide)))
   have HSO1:=ah (show so<(cs.setIfInBounds so (.slice no1 (D++E).length nc1)).size by simp;exact ae HSO)
   have had':mA P wr sb so (cs.setIfInBounds so (.slice no1 (D++E).length nc1)) T cb (D++E) (V++F) no1 nc1 vo1 vc1:=⟨had.st,had.sc,had.t1,had.t2,had.args.keep fun g cs hp hg=>⟨hg,hp.1.1,hp.2⟩⟩;have HAD2:=ah had';have hdnd:ki=2->(0<=val/\val<=1000000000):=fun q=>by
    have k4:t.kind=4:=by
     have:=ae H1;rw[q]at this;unfold ak at this;split at this
     ·cases this
     ·split at this
      ·assumption
      ·cases this
    obtain⟨q1,q2,_⟩:=ae H4 k4;have:=DR t.text.toList (by rw[lQ];exact q2);rw[q1];unfold numOf;omega
   have hkinds:ki=2\/ki=3:=by
    have:=ae H1;unfold ak at this;rcases(ae HW).1 with q | q | q
    ·rw[aG (by omega),aG (by omega)]at this;exact aw this
    ·exact absurd q (ae HKA)
    ·rw[aG (by omega),aH q]at this;exact ay this
   have hk4:ki=2->t.kind=4:=fun q=>by
    have:=ae H1;rw[q]at this;unfold ak at this;split at this
    ·cases this
    ·split at this
     ·assumption
     ·cases this
   have hk2:ki=3->t.kind=2:=fun q=>by
    rcases(ae HW).1 with r | r | r
    ·exact r
    ·exact absurd r (ae HKA)
    ·have:=ae H1;rw[q,r]at this;exact absurd this (by decide)
   have hnok:jw (D.length+E.length) ⟨ki,lv,tx,t.args.length,oo,cp1,gs,D.length+E.length,0⟩:=by
    refine⟨by rcases hkinds with q | q;exact aw (ay q);exact aw (aw q),fun q=>by rcases hkinds with r | r<;>(dsimp only at q;omega),fun q=> ?_,fun q=> ?_,fun a ha=> ?_⟩
    ·have k4:=hk4 q;have ha0:t.args=[]:=(ae HW).2.1 (by omega);exact⟨(ae H4 k4).2.2,by rw[ha0];rfl,ch.1 (by rw[hgl,ha0];rfl)⟩
    ·refine⟨?_,hgl.symm,by show gs.length<=3;omega⟩;show lv=0;rw[hlvv,aG];intro r;dsimp only at q;omega
    ·have:=hgs a ha;rwa [au]at this
   have hsmall:tx.size<=240/\0<=lv/\lv<=1000000000:=by
    refine⟨?_,?_⟩
    ·rcases hkinds with q | q
     ·rw[(ae H4 (hk4 q)).2.2];exact cI _
     ·rw[ae H5 (hk2 q)];exact ae H7
    ·rw[hlvv];split
     ·rename_i q;exact hdnd q
     ·omega
   have HDA:=ah (show∀w2,Below wr.heap.size wr w2->gs≠[]->∃(q:Nat) (cs:Array Value),oo=some ⟨q,0,none⟩/\P q/\¬rowOf vo1 q/\q<w2.heap.size/\w2.heap[q]?=some (.cells cs 3 (0,0))/\cs.toList.take gs.length=gs.map cN from fun w2 hb2 hne=>by
    rcases hown.2 with⟨q,q0⟩ | ⟨g,cap,cur,q1,q2,q3,q4⟩
    ·exact absurd (ch.1 (hgl.trans q0)) hne
    ·simp only[aS]at q1;obtain⟨rfl,_,_⟩:=q1;have q5:=aD q3;refine⟨g,cur,rfl,ae HP g (by omega),hfree g ⟨_,rfl,rfl⟩,aJ q5 hb2.size,(hb2.block g q5).trans q3,?_⟩;have q6:=q4.2.2.2;rw[hgl];simpa using q6)
   have HFIN:=ah (show∀(g cap':Nat) (w2 w8:World),mA P w8 sb so ((cs.setIfInBounds so (.slice no1 (D++E).length nc1)).setIfInBounds so (.slice (some ⟨g,0,none⟩) ((D++E).length+1) cap')) T cb ((D++E)++[⟨ki,lv,tx,t.args.length,oo,cp1,gs,D.length+E.length,0⟩]) (V++F) (some ⟨g,0,none⟩) cap' vo1 vc1->bZ (dO sb no1 cb vo1) (dO sb (some ⟨g,0,none⟩) cb vo1) w2 w8->Below wr.heap.size wr w2->Oc P sb so cs T cb D V no vo N ns (f+1) t w (.returned (.int .i64 ((D++E).length:Int))) w8 from fun g cap' w2 w8 k1 k2 k3=>by
    rw[set_set]at k1;refine⟨(D++E).length,E++[⟨ki,lv,tx,t.args.length,oo,cp1,gs,D.length+E.length,0⟩],F,some ⟨g,0,none⟩,cap',vo1,vc1,rfl,?_,hnd.app (gP.one ⟨rfl,rfl,hnok,hsmall⟩),hnv.last _,?_,?_,?_,?_,(hfr.trans (bZ.aX k3)).trans k2⟩
    ·have e:((D++E)++[(⟨ki,lv,tx,t.args.length,oo,cp1,gs,D.length+E.length,0⟩:Ng)]).length=(D++E).length+1:=by rw[au];rfl
     rw[<-aK,e];exact k1
    ·rw[ae HNF,hlen]
    ·rw[<-aK];refine⟨fun q=>absurd q (ae HKA),fun _=>⟨⟨ki,lv,tx,t.args.length,oo,cp1,gs,D.length+E.length,0⟩,by simp,by simp,ae H1,fun q=> ?_,fun q=> ?_,hall.imp fun _ _ r=> ?_⟩⟩
     ·obtain⟨q1,q2,q3⟩:=ae H4 q;show lv=_;rw[hlvv,aH,q1];rw[ae H1,q];rfl
     ·exact ae H5 q
     ·have:=r.more (E:=[⟨ki,lv,tx,t.args.length,oo,cp1,gs,D.length+E.length,0⟩]) (F:=[]);rwa [br]at this
    ·rw[<-aK];simp
    ·rw[au];exact ae HE2)
   have HGL:=ah hgl;obtain⟨ti,hi,hzz0,hzz1,hzz2⟩:=dH CP;have HDL:=ah (show D.length+E.length=(D++E).length by rw[au])
   rw[ae HDL]at HFIN;generalize hDE:D++E=DE at*;generalize hVF':V++F=VF at*;clear had had' hnd hnv hlen hown hfree hgl hall hgs hel hfr hbx hkj hlab hlv hVF hlvv hdnd hkinds hk4 hk2 hnok hsmall hDE hVF' HDL;go_wp2_with fail;go_region_law (first
    | (go_simp;go_at_call 78;refine(ae LB).mono ?_;rintro e w2 ⟨rfl,hb⟩;have HB2:=ah (((al _ wr).drew).trans hb);have k0:=(hb.cell (p:=⟨sb,so,none⟩) sz).trans s0;have k1:=(hb.cell (p:=⟨w.heap.size,0,none⟩) z4).trans b0;have k2:=(hb.cell (p:=⟨w.heap.size,1,none⟩) z4).trans b1;have k3:=(hb.cell (p:=⟨w.heap.size,2,none⟩) z4).trans b2;have k4:=(hb.cell (p:=⟨w.heap.size,3,none⟩) z4).trans b3;have hz2:wr.heap.size<=w2.heap.size:=hb.size;have k0':∀o,(w2.alloc o).cell? ⟨sb,so,none⟩=some (.slice no1 DE.length nc1):=(fun o=>(aC _ _ _ (by omega)).trans k0);clear hb)
    | (refine step_append_lies _ (by rfl) _ _ _ (by rfl) 0 147 ti _ 7 80 Tryz.underlying83 hi hzz0 hzz1 hzz2 rfl (by omega) (.slice no1 DE.length nc1) DE.length (nZ DE) (by rfl) (((ae HAD2).below (ae HB2)).st.own.alloc _) ⟨w2.heap.size,0,none⟩ 1 1 [.int .i64 ki,.int .i64 lv,.string tx,.int .i64 (t.args.length:Int),.slice oo t.args.length cp1,.int .i64 (DE.length:Int),.int .i64 0] (by rfl) (by rfl) (World.news_of_block (cs:=#[.int .i64 ki,.int .i64 lv,.string tx,.int .i64 (t.args.length:Int),.slice oo t.args.length cp1,.int .i64 (DE.length:Int),.int .i64 0]) (t:=147) (fr:=(0,0)) (aB w2 _)) (by simp[Value.oneCell']) (by omega) (by unfold maxLen;omega) (by omega) (cI _) (w2.heap.size+1) (by simp) ?_;intro g cap' w7 hown1 hgrow hat hlg;have m0:=(hgrow.cell_far ⟨sb,so,none⟩ (by simp;omega) (ae HNS)).trans ((aC _ _ _ (by omega)).trans k0);have m1:=(hgrow.cell_far ⟨w.heap.size,0,none⟩ (by simp;omega) (ae HNB)).trans ((aC _ _ _ (by omega)).trans k1);have m2:=(hgrow.cell_far ⟨w.heap.size,1,none⟩ (by simp;omega) (ae HNB)).trans ((aC _ _ _ (by omega)).trans k2);have m3:=(hgrow.cell_far ⟨w.heap.size,2,none⟩ (by simp;omega) (ae HNB)).trans ((aC _ _ _ (by omega)).trans k3);have m4:=(hgrow.cell_far ⟨w.heap.size,3,none⟩ (by simp;omega) (ae HNB)).trans ((aC _ _ _ (by omega)).trans k4);have HN:=ah (((ae HAD2).below (ae HB2)).node (fun g q=>ae HP g (by omega)) (ae HSO1) (Qx.alloc Qw _) (d:=⟨ki,lv,tx,t.args.length,oo,cp1,gs,DE.length,0⟩) (show w7.ownsRow _ _ _ _ _ (_++[_,_,_,_,_,_,_])from by rw[ae HGL];exact hown1) hgrow (by rcases hat with q | q;exact ay (bP q);(right;omega)) (fun q=>by have:=ae HDA w2 (ae HB2) q;exact this));have k9:w7.frozen? ⟨sb,so,none⟩=false:=(by have:=bI (ae HN).1.st.blk so;rwa [cH]at this);have zz7:sb<w7.heap.size:=(by have:=aD (ae HN).1.st.blk;rwa [fj]at this);clear hown1 hgrow hat hlg))
   all_goals (go_wp2_with fail;go_ret;exact ae HFIN _ _ _ _ (ae HN).1 (ae HN).2 (ae HB2))
theorem JC:∀f,JY f
 | 0=>fun _ _ _ _ _ _ _ _ _ _ _ _ _ _ _ _ _ _ _ _ _ _ h=>absurd h (fun q=>q)
 | f+1=>fun P w sb so cs T cb D V no nc vo vc N ns Q a t h hP hT hV hr hw hv hN hd hvl=>by
  by_cases ka:t.kind=3
  ·exact NO f P w sb so cs T cb D V no nc vo vc N ns a t h hP hV hr.1 hw ka hv hN hd hvl
  ·exact L7 (JC f) P w sb so cs T cb D V no nc vo vc N ns Q a t h hP hT hV hr hw ka hv hN hd hvl
end Go.Proofs.YthfjnfcekeknlabGreatDoor
namespace Go.Proofs.YthfjnfcekeknlabGreatDoor
open Go.RowKit af
variable {d:Ng} {l' l n:Nat} {D E:List Ng} {fr:Nat->Nat} {u:af.U} {T:Nat->af.U}
theorem jw.mono (h:jw l d) (hl:l<=l'):jw l' d:=⟨h.ks,h.v,h.m,h.c,fun a ha=>aJ (h.A7 a ha) hl⟩
theorem iD (h:n<D.length) (E:List Ng):af.gl (e8 (D++E)) n=af.gl (e8 D) n:=by rw[m7 (show n<(D++E).length by rw[au];omega),m7 h,cq h]
theorem kQ (h:n<D.length) (E:List Ng):af.ga (e8 (D++E)) n=af.ga (e8 D) n:=by rw[lO (show n<(D++E).length by rw[au];omega),lO h,cq h]
theorem xe (h:D.length<=n):af.ga (e8 D) n=[]:=by unfold af.ga e8;rw[bC,eC h];rfl
theorem gP.at {D E:List Ng} (h:gP D.length E) {n:Nat} (h1:D.length<=n) (h2:n<(D++E).length):(D++E)[n].nx=n/\(D++E)[n].qs=0/\jw n (D++E)[n]/\(D++E)[n].tx.size<=240/\0<=(D++E)[n].val/\(D++E)[n].val<=1000000000:=by rw[jm h1];rw[au]at h2;have:=h (n - D.length) E[n - D.length] (aj (by omega));rwa [show D.length+(n - D.length)=n by omega]at this
theorem g8.more (h:g8 D fr) (hE:gP D.length E):g8 (D++E) fr:=by
 refine⟨fun n hn=> ?_,fun n hn=> ?_,fun n hn=>h.out n (by rw[au]at hn;omega)⟩
 ·by_cases q:n<D.length
  ·rw[cq q];exact(h.nd n q).mono (by rw[au];omega)
  ·exact(hE.at (by omega) hn).2.2.1.mono (by omega)
 ·by_cases q:n<D.length
  ·obtain⟨k,hk⟩:=h.hop n q
   have key:∀{n m k},Hop D n m k->Hop (D++E) n m k:=by
    intro n m k hk;induction hk with
    | stop q e=>exact .stop (by rw[au];omega) (by rw[cq q];exact e)
    | go q e _ ih=>exact .go (by rw[au];omega) (by rw[cq q];exact e) (by rw[cq q];exact ih)
   exact⟨k,key hk⟩
  ·rw[h.out n (by omega)];exact⟨0,.stop hn (hE.at (by omega) hn).1⟩
theorem rW (h:g8 D fr) (ht:Tr (e8 D) fr n u):n<D.length->Tr (e8 (D++E)) fr n u:=by
 induction ht with
 | @var n hg ha=>exact fun hn=> .var (by rw[iD (h.lt hn)];exact hg) (by rw[kQ (h.lt hn)];exact ha)
 | @node n k tx num us hg hl _ ih=>intro hn;refine .node (by rw[iD (h.lt hn)];exact hg) (by rw[kQ (h.lt hn)];exact hl) fun i a v ha hv=> ?_;rw[kQ (h.lt hn)]at ha;refine ih i a v ha hv ?_;rw[lO (h.lt hn)]at ha;exact(h.nd _ (h.lt hn)).A7 a (bK ha)
theorem Gw (h:g8 D fr) (hS:kx (e8 D) fr T) (hE:gP D.length E):∃T',kx (e8 (D++E)) fr T'/\∀n,n<D.length->T' n=T n:=by
 have ho:=h.more hE;have hplain:Plain (e8 (D++E)):=fun n hg=>by
  by_cases q:n<(D++E).length
  ·rw[m7 q]at hg;rw[lO q];exact((ho.nd n q).v ((ho.nd n q).nQ.1 hg)).2.2.2
  ·exact xe (by omega)
 have htr:∀n,∃u,Tr (e8 (D++E)) fr n u:=by
  intro n;induction n using Nat.strongRecOn with
  | _ n ih=>
   by_cases q:n<D.length
   ·exact⟨_,rW h (hS.tr n) q⟩
   ·have hf:fr n=n:=h.out n (by omega);refine oC hplain fun a ha=>ih a ?_;rw[hf]at ha;by_cases r:n<(D++E).length
    ·rw[lO r]at ha;exact(hE.at (by omega) r).2.2.1.A7 a ha
    ·rw[xe (by omega)]at ha;cases ha
 refine⟨fun n=>Classical.choose (htr n),⟨⟨ho.idem,fun n hn=> ?_⟩,⟨fun n hn=> ?_,fun n hn i x y hx hy=> ?_⟩,fun n=>dI (htr n),hplain,fun n hg=> ?_⟩,fun n hn=> ?_⟩
 ·by_cases q:n<D.length
  ·rw[iD q]at hn;rw[iD (h.lt q)];exact hS.fG.nQ n hn
  ·rw[h.out n (by omega)];exact hn
 ·by_cases q:n<D.length
  ·rw[iD q]at hn;have:=hS.CU.nQ n hn;unfold qR at this⊢;rw[iD q,iD (h.lt q),kQ q,kQ (h.lt q)];exact this
  ·rw[h.out n (by omega)];exact⟨rfl,rfl⟩
 ·by_cases q:n<D.length
  ·rw[iD q]at hn;rw[kQ q]at hx;rw[kQ (h.lt q)]at hy;exact hS.CU.args n hn i x y hx hy
  ·rw[h.out n (by omega),hx]at hy;obtain rfl:=cF hy;exact .fr rfl
 ·by_cases q:n<D.length
  ·rw[iD (h.lt q)]at hg;exact hS.xU n hg
  ·rw[h.out n (by omega)];exact Qw
 ·exact(dI (htr n)).one (rW h (hS.tr n) hn)
theorem JK.is {D:List Ng} {fr:Nat->Nat} {T:Nat->af.U} (h:g8 D fr) (hS:kx (e8 D) fr T) {V:List Nat} {N:List (List UInt8)}:∀{f n:Nat} {t:Tm},JK D V N f n t->iE f t->T n=fb (fun x=>T ((V[N.idxOf x]?).getD 0)) f t
 | f+1,n,t,⟨h1,h2⟩,⟨k1,k2,k3,k4⟩=>by
  unfold fb;by_cases k:t.kind=3
  ·rw[aH k,h1 k];rfl
  ·rw[aG k]
   obtain⟨d,q1,q2,q3,q4,q5,q6⟩:=h2 k;have hn:=(bl.1 q1).1;have hdn:D[n]=d:=(bl.1 q1).2;have hf:fr n=n:=(h.self hn).2 (by rw[hdn];exact q2);have key:∀kk tx num,af.gl (e8 D) n=some (kk,tx,num)->T n= .n kk tx num (t.args.map (fb (fun x=>T ((V[N.idxOf x]?).getD 0)) f)):=fun kk tx num hg=>by
    rw[hS.reads.node n kk tx num hg,lO hn,hdn];congr 1;have:∀(xs:List Nat) (ts:List Tm),eO (JK D V N f) xs ts->(∀a∈ts,iE f a)->xs.map T=ts.map (fb (fun x=>T ((V[N.idxOf x]?).getD 0)) f):=by
     intro xs;induction xs with
     | nil=>intro ts ha _;cases ts with
      | nil=>rfl
      | cons t ts=>exact ha.elim
     | cons x xs ih=>intro ts ha hw;cases ts with
      | nil=>exact ha.elim
      | cons t ts=>rw[aY,aY,JK.is h hS ha.1 (hw t (by simp)),ih ts ha.2 (fun a ha=>hw a (by simp[ha]))]
    exact this d.args t.args q6 k4
   have hlab:af.gl (e8 D) n=im d:=by rw[m7 hn,hdn]
   by_cases kk:t.kind=4
   ·rw[aH kk];have hk:d.k=2:=by rw[q3,kk];rfl
    have:=key 3 [] d.val (by rw[hlab];unfold im;rw[aG (by omega),aH hk]);rw[this,q4 kk,k2 (by omega)];rfl
   ·rw[aG kk];have kt:t.kind=2:=by omega
    have hk:d.k=3:=by rw[q3,kt];rfl
    have:=key 1 d.tx.toList 0 (by rw[hlab];unfold im;rw[aG (by omega),aG (by omega)]);rw[this,q5 kt]
