import Derived.Test.YthfjnfcekeknlabGreatDoorPx30
import Derived.Deep.LoopGhost
set_option maxHeartbeats 8000000
set_option maxRecDepth 100000
set_option linter.unusedSimpArgs false
set_option linter.unusedVariables false
namespace af
open Go.Proofs.YthfjnfcekeknlabGreatDoor (iA jX jp)
def MG.ren (r:Nat->Nat) (g:MG):MG:=⟨fm r g.a,g.sg,fm r g.b,g.op,fm r g.c,g.wt,fun w=>∃v,g.on v/\r v=w⟩
structure FM (P:Nat->Prop) (g:MG):Prop where
 a:fz (PQ P) g.a
 b:fz (PQ P) g.b
 c:fz (PQ P) g.c
 on:∀v,g.on v->P v
structure fH (r:Nat->Nat) (P:Nat->Prop) (S S':MS):Prop where
 mono:∀i j,P i->P j->i<j->r i<r j
 l1:∀k,P k->k<S.lim
 l2:∀k,P k->r k<S'.lim
 wv:∀u∈S.vs,fz (PQ P) u
 wg:∀g∈S.gs,FM P g
 vs:S'.vs=S.vs.map (fm r)
 gs:S'.gs=S.gs.map (MG.ren r)
def rm (r:Nat->Nat) (P:Nat->Prop):Prop:=∀i j,P i->P j->i<j->r i<r j
theorem rm.inj {r:Nat->Nat} {P:Nat->Prop} (h:rm r P):lj r P:=fun i j hi hj e=>by
 rcases fM i j with q | q | q
 ·have:=h i j hi hj q;omega
 ·exact q
 ·have:=h j i hj hi q;omega
theorem iw.rn {r:Nat->Nat} {P:Nat->Prop} (hm:rm r P) {a b:U} {σ τ:Vr->U} (h:iw a b σ) (k:iw (fm r a) (fm r b) τ) (ha:fz (PQ P) a) (hb:fz (PQ P) b) {u:U} (hu:fz (PQ P) u):sub τ (fm r u)=fm r (sub σ u):=
 h.ren (ρ:=af.rn r) (Q:=PQ P) (fun x y hx hy e=>hm.inj.on x y hx hy e) (fun x y hx hy _ hl=>⟨rfl,by
  show r y.2<=r x.2;rcases xI hl with q | q
  ·exact mJ (hm _ _ hy.2 hx.2 q)
  ·rw[q];exact Qw⟩) ((eG a).1 ha) ((eG b).1 hb) k u ((eG u).1 hu)
theorem iw.FU {Q:Vr->Prop} {a b:U} {σ:Vr->U} (h:iw a b σ) (ha:fz Q a) (hb:fz Q b) {u:U} (hu:fz Q u):fz Q (sub σ u):=by
 induction hu with
 | @v x hx=>
  refine(eG _).2 fun z hz=> ?_;rcases h.vars hz with q | q | q
  ·rw[q];exact hx
  ·exact(eG a).1 ha z q
  ·exact(eG b).1 hb z q
 | @n k tx num ss hs ih=>rw[dS];refine .n fun u hu=> ?_;obtain⟨s,hs',rfl⟩:=bu.1 hu;exact ih s hs'
theorem DI {r:Nat->Nat} {P:Nat->Prop} (hm:rm r P) {a b:U} {σ τ:Vr->U} (h:iw a b σ) (k:iw (fm r a) (fm r b) τ) (ha:fz (PQ P) a) (hb:fz (PQ P) b) {g:MG} (hg:FM P g):MG.put τ (MG.ren r g)=MG.ren r (MG.put σ g)/\FM P (MG.put σ g):=by
 have hs:(MG.ren r g).stays τ↔g.stays σ:=by
  refine⟨fun q=>⟨q.1,fun v hv=> ?_⟩,fun q=>⟨q.1,fun w hw=> ?_⟩⟩
  ·have e:τ ([],r v)= .v ([],r v):=q.2 (r v) ⟨v,hv,rfl⟩;have e2:τ ([],r v)=fm r (σ ([],v)):=h.rn hm k ha hb (u:= .v ([],v)) (.v ⟨rfl,hg.on v hv⟩);rw[e]at e2;have hin:fz (PQ P) (σ ([],v)):=h.FU ha hb (u:= .v ([],v)) (.v ⟨rfl,hg.on v hv⟩);generalize σ ([],v)=s at e2 hin;cases s with
   | n kk tx num ss=>rw[gO]at e2;cases e2
   | v z=>rw[mT]at e2;injection e2 with e2;injection e2 with _ e2;have:=hm.inj _ _ (hg.on v hv) hin.var.2 e2;congr 1;exact B1 hin.var.1 this.symm
  ·obtain⟨v,hv,rfl⟩:=hw;have e2:τ ([],r v)=fm r (σ ([],v)):=h.rn hm k ha hb (u:= .v ([],v)) (.v ⟨rfl,hg.on v hv⟩);rw[e2,q.2 v hv];rfl
 refine⟨?_,⟨h.FU ha hb hg.a,h.FU ha hb hg.b,h.FU ha hb hg.c,fun v hv=>hg.on v hv.2⟩⟩;unfold MG.put;have e1:(MG.ren r g).a=fm r g.a:=rfl;have e2:(MG.ren r g).b=fm r g.b:=rfl;have e3:(MG.ren r g).c=fm r g.c:=rfl;rw[e1,e2,e3,h.rn hm k ha hb hg.a,h.rn hm k ha hb hg.b,h.rn hm k ha hb hg.c];unfold MG.ren at hs⊢;dsimp only at hs⊢;congr 1
 ·exact decide_eq_decide.2 hs
 ·funext w;apply mI;constructor
  ·rintro⟨q1,v,q2,q3⟩;exact⟨v,⟨hs.1 q1,q2⟩,q3⟩
  ·rintro⟨v,⟨q1,q2⟩,q3⟩;exact⟨hs.2 q1,v,q2,q3⟩
theorem DS {r:Nat->Nat} {P:Nat->Prop} (hi:lj r P) {a b:U} (ha:fz (PQ P) a) (hb:fz (PQ P) b) (h:∀θ,sub θ (fm r a)≠sub θ (fm r b)):∀θ,sub θ a≠sub θ b:=by
 classical
 refine Ni (ρ:=af.rn r) (ρ':=fun w=>if q:∃v,PQ P v/\af.rn r v=w then Classical.choose q else w) (fun v hv=> ?_) h;have hp:PQ P v:=by
  rcases hv with q | q
  ·exact(eG a).1 ha v q
  ·exact(eG b).1 hb v q
 have q:∃z,PQ P z/\af.rn r z=af.rn r v:=⟨v,hp,rfl⟩;rw[kX q];exact hi.on _ _ (dI q).1 hp (dI q).2
theorem Hp {r:Nat->Nat} {a b:U} (h:∀θ,sub θ a≠sub θ b):∀θ,sub θ (fm r a)≠sub θ (fm r b):=fun θ e=>by unfold fm at e;rw[sub_sub,sub_sub]at e;exact h _ e
theorem Hh.parts {x:dq} (h:Hh x) (ns:List (List UInt8)):∀t,(t=x.left\/x.right=some t\/x.last=some t)->iE 8 t/\∃ns',∀y∈aP 8 ns' t,y∈bU ns x:=fun t ht=>by
 have hO:∀(t:Option Tm) (ns:List (List UInt8)),∀y∈ns,y∈e7 ns t:=fun t ns y hy=>by
  cases t with
  | none=>exact hy
  | some r=>obtain⟨K,hK⟩:=dG 8 r ns;show y∈aP 8 ns r;rw[hK];exact bO _ hy
 rcases ht with q | q | q
 ·subst q;exact⟨h.wl,ns,fun y hy=>hO _ _ y (hO _ _ y hy)⟩
 ·refine⟨?_,aP 8 ns x.left,fun y hy=>hO _ _ y (by rw[q];exact hy)⟩;by_cases e:x.sign=[]
  ·rw[h.r0 e]at q;cases q
  ·obtain⟨r,h1,h2⟩:=h.r1 e;rw[h1]at q;cases q;exact h2
 ·refine⟨?_,e7 (aP 8 ns x.left) x.right,fun y hy=>by unfold bU;rw[q];exact hy⟩;by_cases e:x.op=[]
  ·rw[h.z0 e]at q;cases q
  ·obtain⟨r,h1,h2⟩:=h.z1 e;rw[h1]at q;cases q;exact h2
theorem Hi {r:Nat->Nat} {η θ:List UInt8->U} {x:dq} (h:Hh x) (ns:List (List UInt8)) (hy:∀y∈bU ns x,θ y=fm r (η y)):MG.of θ x=MG.ren r (MG.of η x):=by
 have hp:∀t,(t=x.left\/x.right=some t\/x.last=some t)->fb θ 8 t=fm r (fb η 8 t):=fun t ht=>by obtain⟨h1,ns',h2⟩:=h.parts ns t ht;rw[gR (θ:=fun y=>fm r (η y)) 8 t ns' h1 (fun y q=>hy y (h2 y q)),rA r η 8 t h1]
 unfold MG.of MG.ren;dsimp only;rw[hp x.left (ay rfl)];congr 1
 ·cases e:x.right with
  | none=>exact(GQ r).symm
  | some t=>exact hp t (aw (ay e))
 ·cases e:x.last with
  | none=>exact(GQ r).symm
  | some t=>exact hp t (aw (aw e))
 ·funext w;apply mI;constructor
  ·intro q;exact q.elim
  ·rintro⟨_,q,_⟩;exact q.elim
theorem Mo {P:Nat->Prop} {η:List UInt8->U} {x:dq} (h:Hh x) (ns:List (List UInt8)) (hy:∀y∈bU ns x,fz (PQ P) (η y)):FM P (MG.of η x):=by
 have hp:∀t,(t=x.left\/x.right=some t\/x.last=some t)->fz (PQ P) (fb η 8 t):=fun t ht=>by obtain⟨h1,ns',h2⟩:=h.parts ns t ht;exact mN 8 t ns' h1 fun y q=>hy y (h2 y q)
 refine⟨hp x.left (ay rfl),?_,?_,fun v q=>q.elim⟩
 ·show fz (PQ P) (x.right.elim zU (fb η 8));cases e:x.right with
  | none=>exact FZ _
  | some t=>exact hp t (aw (ay e))
 ·show fz (PQ P) (x.last.elim zU (fb η 8));cases e:x.last with
  | none=>exact FZ _
  | some t=>exact hp t (aw (aw e))
theorem GV {r:Nat->Nat} {P:Nat->Prop} (hm:rm r P) {l1 l2:Nat} (h1:∀k,P k->k<l1) (h2:∀k,P k->r k<l2) {F F':List Nat} (hl:F.length=F'.length) (hF:F.Pairwise (·<·)) (hF':F'.Pairwise (·<·)) (hf:∀f∈F,l1<=f) (hf':∀f∈F',l2<=f):∃r':Nat->Nat,rm r' (fun k=>P k\/k∈F)/\(∀k,P k->r' k=r k)/\(∀k,k<F.length->r' ((F[k]?).getD 0)=(F'[k]?).getD 0)/\(∀f∈F,r' f∈F'):=by
 have hnd:∀i (hi:i<F.length),F.idxOf F[i]=i:=fun i hi=>by
  have hk:F.idxOf F[i]<F.length:=bW (aL hi);have he:F[F.idxOf F[i]]=F[i]:=jU hk;rcases fM (F.idxOf F[i]) i with q | q | q
  ·have:=dQ.1 hF _ _ hk hi q;omega
  ·exact q
  ·have:=dQ.1 hF _ _ hi hk q;omega
 refine⟨fun k=>if k<l1 then r k else(F'[F.idxOf k]?).getD 0,?_,fun k hk=>aH (h1 k hk),fun k hk=> ?_,fun f hfm=> ?_⟩
 ·have hat:∀i (hi:i<F.length),(if F[i]<l1 then r F[i]else(F'[F.idxOf F[i]]?).getD 0)=F'[i]'(by omega):=fun i hi=>by
   have:=hf _ (aL hi);rw[aG (by omega),hnd i hi,aj (by omega)];rfl
  intro i j hi hj hij;dsimp only;rcases hi with hi | hi<;>rcases hj with hj | hj
  ·rw[aH (h1 i hi),aH (h1 j hj)];exact hm i j hi hj hij
  ·obtain⟨b,hb,rfl⟩:=bG hj;rw[hat b hb,aH (h1 i hi)];have:=h2 i hi;have:=hf' _ (aL (show b<F'.length by omega))
   omega
  ·have:=hf i hi;have:=h1 j hj;omega
  ·obtain⟨a,ha,rfl⟩:=bG hi
   obtain⟨b,hb,rfl⟩:=bG hj;rw[hat a ha,hat b hb];have:a<b:=by
    rcases fM a b with q | q | q
    ·exact q
    ·subst q;omega
    ·have:=dQ.1 hF _ _ hb ha q;omega
   exact dQ.1 hF' _ _ _ _ this
 ·have hm':=hf _ (aL hk);rw[aj hk];dsimp only[Option.getD_some];rw[aG (by omega),hnd k hk]
 ·obtain⟨a,ha,rfl⟩:=bG hfm;have:=hf _ (aL ha);dsimp only;rw[aG (by omega),hnd a ha,aj (by omega)];exact aL _
theorem MG.EV {r r':Nat->Nat} {P:Nat->Prop} (h:∀k,P k->r' k=r k) {g:MG} (hg:FM P g):MG.ren r' g=MG.ren r g:=by
 unfold MG.ren;rw[ky h hg.a,ky h hg.b,ky h hg.c];congr 1;funext w;apply mI;constructor
 ·rintro⟨v,q1,q2⟩;exact⟨v,q1,by rw[<-h v (hg.on v q1)];exact q2⟩
 ·rintro⟨v,q1,q2⟩;exact⟨v,q1,by rw[h v (hg.on v q1)];exact q2⟩
theorem FM.mono {P P':Nat->Prop} (h:∀k,P k->P' k) {g:MG} (hg:FM P g):FM P' g:=⟨hg.a.mono fun _ hx=>⟨hx.1,h _ hx.2⟩,hg.b.mono fun _ hx=>⟨hx.1,h _ hx.2⟩,hg.c.mono fun _ hx=>⟨hx.1,h _ hx.2⟩,fun v hv=>h v (hg.on v hv)⟩
theorem iY {α β:Type} (f:α->β):∀(l:List α) (i:Nat),(l.map f).eraseIdx i=(l.eraseIdx i).map f
 | [],_=>by simp
 | a :: l,0=>by simp
 | a :: l,i+1=>by simp[iY f l i]
section
variable {cls:List dE} {r:Nat->Nat} {P:Nat->Prop} {S S':MS}
theorem fH.at {i:Nat} {g g':MG} (h:fH r P S S') (hg:S.gs[i]?=some g) (hg':S'.gs[i]?=some g'):g'=MG.ren r g/\FM P g:=by rw[h.gs,bC,hg]at hg';exact⟨(cF hg').symm,h.wg g (bK hg)⟩
theorem pO.same {g:MG} {p:Int} {n n':Nat} {a a':Nat->Nat} (h:pO cls g p n a) (k:pO cls (MG.ren r g) p n' a'):n'=n/\a'=a:=by obtain⟨_,tx,us,h1,_,h2,h3⟩:=h;obtain⟨_,tx',us',k1,_,k2,k3⟩:=k;have:fm r g.a= .n 1 tx' 0 us':=k1;rw[h1,gO]at this;injection this with _ e1 _ e2;subst e1 e2;rw[bj]at k2 k3;have en:n'=n:=k2.trans h2.symm;subst en;exact⟨rfl,k3.trans h3.symm⟩
theorem pO.back {g:MG} {p:Int} {n':Nat} {a':Nat->Nat} (k:pO cls (MG.ren r g) p n' a'):pO cls g p n' a':=by
 obtain⟨k0,tx,us,k1,k2,k3,k4⟩:=k;have k1':fm r g.a= .n 1 tx 0 us:=k1;refine⟨k0,?_⟩;cases hg:g.a with
 | v x=>rw[hg,mT]at k1';cases k1'
 | n kk tx' num ss=>rw[hg,gO]at k1';injection k1' with e1 e2 e3 e4;subst e1 e2 e3 e4;rw[bj]at k3 k4;exact⟨tx',ss,rfl,fun q=>k2 ⟨q.1,by rw[q.2];rfl⟩,k3,k4⟩
theorem fH.Jx (h:fH r P S S') (hok:∀c∈cls,pV c) {g:MG} (hg:FM P g) {i:Nat} {c:dE} (hc:cls[i]?=some c):(eK S'.lim (fm r g.a) c).1=(eK S.lim g.a c).1/\(eK S'.lim (fm r g.a) c).2=(eK S.lim g.a c).2.map r/\∀v∈(eK S.lim g.a c).2,P v:=BO (rm.inj h.mono) h.l1 h.l2 hg.a (hok c (bK hc)).ts
theorem fH.lJ {S1 S1':MS} (h:fH r P S S') (hl:S.lim<=S1.lim) (hl':S'.lim<=S1'.lim) {a b:U} {σ τ:Vr->U} (hs:iw a b σ) (ht:iw (fm r a) (fm r b) τ) (ha:fz (PQ P) a) (hb:fz (PQ P) b) {i:Nat} (v1:S1.vs=S.vs.map (sub σ)) (g1:S1.gs=(S.gs.eraseIdx i).map (MG.put σ)) (v2:S1'.vs=S'.vs.map (sub τ)) (g2:S1'.gs=(S'.gs.eraseIdx i).map (MG.put τ)):fH r P S1 S1':=by
 refine⟨h.mono,fun k hk=>aJ (h.l1 k hk) hl,fun k hk=>aJ (h.l2 k hk) hl',fun u hu=> ?_,fun g hg=> ?_,?_,?_⟩
 ·rw[v1]at hu;obtain⟨w,hw,rfl⟩:=bu.1 hu;exact hs.FU ha hb (h.wv w hw)
 ·rw[g1]at hg;obtain⟨w,hw,rfl⟩:=bu.1 hg;exact(DI h.mono hs ht ha hb (h.wg w (cX hw))).2
 ·rw[v2,v1,h.vs,bQ,bQ];exact bt fun u hu=>hs.rn h.mono ht ha hb (h.wv u hu)
 ·rw[g2,g1,h.gs,iY,bQ,bQ];exact bt fun u hu=>(DI h.mono hs ht ha hb (h.wg u (cX hu))).1
theorem fH.Oj {S1 S1':MS} (h:fH r P S S') (hl:S.lim<=S1.lim) (hl':S'.lim<=S1'.lim) {i:Nat} {g g':MG} (hw:FM P g) (he:g'=MG.ren r g) (v1:S1.vs=S.vs) (g1:S1.gs=S.gs.set i g) (v2:S1'.vs=S'.vs) (g2:S1'.gs=S'.gs.set i g'):fH r P S1 S1':=by
 refine⟨h.mono,fun k hk=>aJ (h.l1 k hk) hl,fun k hk=>aJ (h.l2 k hk) hl',by rw[v1];exact h.wv,fun x hx=> ?_,by rw[v2,v1];exact h.vs,by rw[g2,g1,h.gs,he,mL]⟩;rw[g1]at hx;rcases cQ hx with q | q
 ·exact h.wg x q
 ·rw[q];exact hw
theorem nY {g:MG} (hm:lj r P) (hg:FM P g):(lY (MG.ren r g).op (MG.ren r g).b (MG.ren r g).c).wt=(lY g.op g.b g.c).wt.map r/\∀v∈(lY g.op g.b g.c).wt,P v:=by
 have:=L0 hm g.op hg.b (fun _=>hg.c);refine⟨by show (lY g.op (fm r g.b) (fm r g.c)).wt=_;rw[this];rfl,?_⟩;have hin:(lY g.op g.b g.c).lX (PQ P):=by
  unfold lY;split
  ·exact(eQ _).fh hg.b
  ·exact((eQ _).fh hg.b).fh hg.c
 exact hin.at
theorem fH.step (h:fH r P S S') (hok:∀c∈cls,pV c) {S1 S1':MS} {i:Nat} {p z z':Int} (hs:kW cls S S1 i p z) (ht:kW cls S' S1' i p z'):z'=z/\∃r' P',fH r' P' S1 S1':=by
 obtain⟨hl,g,hg,hs⟩:=hs;obtain⟨hl',g',hg',ht⟩:=ht;obtain⟨rfl,hw⟩:=h.at hg hg';have e0:(MG.ren r g).sg=g.sg:=rfl;have hi:=rm.inj h.mono;rcases hs with⟨s1,rfl,σ,s2,s3,s4⟩ | ⟨s1,rfl,s2,s3,s4⟩ | ⟨s1,rfl,s2,x,σ,s3,s4,s5,s6⟩ | ⟨s1,rfl,s2,s3,s4⟩ | ⟨n,a,s1,t,c,F,s2,s3,s4,s5,rfl,s6,s7,s8,s9,s10⟩ | ⟨n,a,s1,rfl,s2,s3,s4,s5⟩
 ·rcases ht with⟨t1,rfl,τ,t2,t3,t4⟩ | ⟨t1,_⟩ | ⟨t1,_⟩ | ⟨t1,_⟩ | ⟨n',a',⟨t1,_⟩,_⟩ | ⟨n',a',⟨t1,_⟩,_⟩
  ·exact⟨rfl,r,P,h.lJ hl hl' s2 t2 hw.a hw.b s3 s4 t3 t4⟩
  all_goals (rw[e0,s1]at t1;cases t1)
 ·rcases ht with⟨t1,_⟩ | ⟨t1,rfl,t2,t3,t4⟩ | ⟨t1,_,t2,_⟩ | ⟨t1,_⟩ | ⟨n',a',⟨t1,_⟩,_⟩ | ⟨n',a',⟨t1,_⟩,_⟩
  ·rw[e0,s1]at t1;cases t1
  ·refine⟨rfl,r,P,h.Oj hl hl' ?_ ?_ s3 s4 t3 t4⟩
   ·exact⟨hw.a,hw.b,hw.c,(nY hi hw).2⟩
   ·unfold MG.ren;dsimp only;congr 1;funext w;apply mI;have:=(nY hi hw).1;unfold MG.ren at this;dsimp only at this;rw[this,bu]
  ·exfalso;rw[(nY hi hw).1]at t2;exact s2 (dT.1 t2)
  all_goals (rw[e0,s1]at t1;cases t1)
 ·rcases ht with⟨t1,_⟩ | ⟨t1,rfl,t2,_⟩ | ⟨t1,rfl,t2,x',τ,t3,t4,t5,t6⟩ | ⟨t1,_⟩ | ⟨n',a',⟨t1,_⟩,_⟩ | ⟨n',a',⟨t1,_⟩,_⟩
  ·rw[e0,s1]at t1;cases t1
  ·exfalso;rw[(nY hi hw).1,s2]at t2;exact t2 rfl
  ·have ev:iA g.op (fm r g.b) (fm r g.c)=some x':=t3;rw[oT,s3]at ev;cases ev;exact⟨rfl,r,P,h.lJ hl hl' s4 (by rw[gO];exact t4) hw.a (.n fun a ha=>by cases ha) s5 s6 t5 t6⟩
  all_goals (rw[e0,s1]at t1;cases t1)
 ·rcases ht with⟨t1,_⟩ | ⟨t1,_⟩ | ⟨t1,_⟩ | ⟨t1,rfl,t2,t3,t4⟩ | ⟨n',a',t1,_⟩ | ⟨n',a',t1,_⟩
  ·rw[e0,s1]at t1;cases t1
  ·rw[e0,s1]at t1;cases t1
  ·rw[e0,s1]at t1;cases t1
  ·refine⟨rfl,r,P,⟨h.mono,fun k hk=>aJ (h.l1 k hk) hl,fun k hk=>aJ (h.l2 k hk) hl',by rw[s3];exact h.wv,fun x hx=> ?_,by rw[t3,s3];exact h.vs,by rw[t4,s4,h.gs,iY]⟩⟩;rw[s4]at hx;exact h.wg x (cX hx)
  all_goals
   obtain⟨_,tx,us,t2,t3,_⟩:=t1.back;rw[s2]at t2;injection t2 with _ e1 _ e2;exact absurd ⟨e1.symm,e2.symm⟩ t3
 ·rcases ht with⟨t1,_⟩ | ⟨t1,_⟩ | ⟨t1,_⟩ | ⟨t1,_,t2,_⟩ | ⟨n',a',t1,t',c',F',t2,t3,t4,t5,rfl,t6,t7,t8,t9,t10⟩ | ⟨n',a',t1,_,t2,_⟩
  ·rw[e0,s1.1]at t1;cases t1
  ·rw[e0,s1.1]at t1;cases t1
  ·rw[e0,s1.1]at t1;cases t1
  ·exfalso;obtain⟨_,tx,us,q2,q3,_⟩:=s1;have t2':fm r g.a= .n 1 [116,114,117,101] 0 []:=t2;rw[q2,gO]at t2';injection t2' with _ e1 _ e2;exact q3 ⟨e1,dT.1 e2⟩
  ·obtain⟨rfl,rfl⟩:=s1.same t1
   have et:t'=t:=by
    rcases fM t' t with q | q | q
    ·have:=s3 t' c' q t4;rw[<-(h.Jx hok hw t4).1]at this;exact absurd t5 this
    ·exact q
    ·have:=t3 t c q s4;have e1:(eK S'.lim (MG.ren r g).a c).1=_:=(h.Jx hok hw s4).1;rw[e1]at this;exact absurd s5 this
   subst et;rw[s4]at t4;cases t4;have hcm:=hok c (bK s4);obtain⟨r',m',o1,o2,o3⟩:=GV h.mono h.l1 h.l2 (F:=F) (F':=F') (by omega) s7 t7 (fun f hf=>(s8 f hf).1) (fun f hf=>(t8 f hf).1);have hidx:∀y∈NG c,y∉NH c->(NG c).idxOf y - (NH c).length<F.length:=fun y hy hn=>by have:=JR hy hn;omega
   have henv:∀y∈NG c,iN (fm r g.a) c (fun k=>(F'[k]?).getD 0) y=fm r' (iN g.a c (fun k=>(F[k]?).getD 0) y):=fun y hy=>tI hi o1 hw.a fun hn=>o2 _ (hidx y hy hn);have hin:∀y∈NG c,fz (PQ fun k=>P k\/k∈F) (iN g.a c (fun k=>(F[k]?).getD 0) y):=fun y hy=>xm (fun k hk=>ay hk) hw.a fun hn=>aw (by have:=hidx y hy hn;rw[aj this];exact aL _);refine⟨rfl,r',fun k=>P k\/k∈F,⟨m',fun k hk=> ?_,fun k hk=> ?_,fun u hu=> ?_,fun x hx=> ?_,?_,?_⟩⟩
   ·rcases hk with q | q
    ·exact aJ (h.l1 k q) hl
    ·exact(s8 k q).2
   ·rcases hk with q | q
    ·rw[o1 k q];exact aJ (h.l2 k q) hl'
    ·exact(t8 _ (o3 k q)).2
   ·rw[s9]at hu;exact(h.wv u hu).mono fun x hx=>⟨hx.1,ay hx.2⟩
   ·rw[s10]at hx;rcases bA.1 hx with q | q
    ·exact(h.wg x (cX q)).mono fun k hk=>ay hk
    ·obtain⟨y,hy,rfl⟩:=bu.1 q;obtain⟨ns,hn⟩:=fF c.goals (NT c) y hy;exact Mo (hcm.gs y hy) ns fun z hz=>hin z (hn z hz)
   ·rw[t9,s9,h.vs];exact bt fun u hu=>(ky o1 (h.wv u hu)).symm
   ·rw[t10,s10,h.gs,iY,dL,bQ];congr 1
    ·exact bt fun u hu=>(MG.EV o1 (h.wg u (cX hu))).symm
    ·refine bt fun y hy=> ?_;obtain⟨ns,hn⟩:=fF c.goals (NT c) y hy;exact Hi (hcm.gs y hy) ns fun z hz=>henv z (hn z hz)
  ·exfalso;obtain⟨rfl,rfl⟩:=s1.same t1;have:=t2 t c s2 s4;have e1:(eK S'.lim (MG.ren r g).a c).1=_:=(h.Jx hok hw s4).1;rw[e1]at this;exact this s5
 ·rcases ht with⟨t1,_⟩ | ⟨t1,_⟩ | ⟨t1,_⟩ | ⟨t1,_,t2,_⟩ | ⟨n',a',t1,t',c',F',t2,t3,t4,t5,_⟩ | ⟨n',a',t1,rfl,t2,t3,t4,t5⟩
  ·rw[e0,s1.1]at t1;cases t1
  ·rw[e0,s1.1]at t1;cases t1
  ·rw[e0,s1.1]at t1;cases t1
  ·exfalso;obtain⟨_,tx,us,q2,q3,_⟩:=s1;have t2':fm r g.a= .n 1 [116,114,117,101] 0 []:=t2;rw[q2,gO]at t2';injection t2' with _ e1 _ e2;exact q3 ⟨e1,dT.1 e2⟩
  ·exfalso;obtain⟨rfl,rfl⟩:=s1.same t1;have:=s2 t' c' t2 t4;rw[<-(h.Jx hok hw t4).1]at this;exact this t5
  ·obtain⟨rfl,rfl⟩:=s1.same t1;refine⟨rfl,r,P,h.Oj hl hl' ?_ ?_ s4 s5 t4 t5⟩
   ·refine⟨hw.a,hw.b,hw.c,fun v hv=> ?_⟩;obtain⟨t,c,_,q2,_,q4⟩:=hv;exact(h.Jx hok hw q2).2.2 v q4
   ·unfold MG.ren;dsimp only;congr 1;funext w;apply mI;constructor
    ·rintro⟨t,c,q1,q2,q3,q4⟩;have ha:=h.Jx hok hw q2;rw[ha.1]at q3;rw[ha.2.1]at q4;obtain⟨v,hv,e⟩:=bu.1 q4;exact⟨v,⟨t,c,q1,q2,q3,hv⟩,e⟩
    ·rintro⟨v,⟨t,c,q1,q2,q3,q4⟩,rfl⟩;have ha:=h.Jx hok hw q2;exact⟨t,c,q1,q2,ha.1.trans q3,by rw[ha.2.1];exact du q4⟩
end
end af
namespace af
open Go.Proofs.YthfjnfcekeknlabGreatDoor (iA jX jp)
section
variable {cls:List dE} {r:Nat->Nat} {P:Nat->Prop} {S S':MS}
theorem fH.Mp (h:fH r P S S') (hok:∀c∈cls,pV c) {S1:MS} {i:Nat} {p z en:Int} (hs:kW cls S S1 i p z) (ht:ME cls S' i p en):False:=by
 obtain⟨_,g,hg,hs⟩:=hs;obtain⟨g',hg',ht⟩:=ht;obtain⟨rfl,hw⟩:=h.at hg hg';have e0:(MG.ren r g).sg=g.sg:=rfl;have hi:=rm.inj h.mono;rcases ht with⟨t1,_,t2⟩ | ⟨t1,t2,t3⟩ | ⟨_,n',a',t1,t2⟩
 ·rcases hs with⟨s1,_,σ,s2,_⟩ | ⟨s1,_⟩ | ⟨s1,_⟩ | ⟨s1,_⟩ | ⟨_,_,⟨s1,_⟩,_⟩ | ⟨_,_,⟨s1,_⟩,_⟩
  ·exact DS hi hw.a hw.b t2 σ s2.one
  all_goals (rw[e0,s1]at t1;cases t1)
 ·rw[(nY hi hw).1]at t2;have t2':=dT.1 t2;have ev:iA (MG.ren r g).op (MG.ren r g).b (MG.ren r g).c=iA g.op g.b g.c:=oT r g.op g.b g.c;rw[ev]at t3;rcases hs with⟨s1,_⟩ | ⟨s1,_,s2,_⟩ | ⟨s1,_,s2,x,σ,s3,s4,_⟩ | ⟨s1,_⟩ | ⟨_,_,⟨s1,_⟩,_⟩ | ⟨_,_,⟨s1,_⟩,_⟩
  ·rw[e0,s1]at t1;cases t1
  ·exact s2 t2'
  ·rcases t3 with⟨_,q⟩ | ⟨_,x',q1,q2⟩
   ·rw[s3]at q;cases q
   ·rw[s3]at q1;cases q1;refine DS hi hw.a (b:= .n 3 [] x []) (.n fun a ha=>by cases ha) (fun θ q=> ?_) σ s4.one;rw[gO,bV,dS,bV]at q;exact q2 θ q
  all_goals (rw[e0,s1]at t1;cases t1)
 ·rcases hs with⟨s1,_⟩ | ⟨s1,_⟩ | ⟨s1,_⟩ | ⟨s1,_,s2,_⟩ | ⟨n,a,s1,t,c,F,s2,s3,s4,s5,_⟩ | ⟨n,a,s1,_,s2,⟨t,c,s3,s4,s5⟩,_⟩
  ·have:=t1.1;rw[e0,s1]at this;cases this
  ·have:=t1.1;rw[e0,s1]at this;cases this
  ·have:=t1.1;rw[e0,s1]at this;cases this
  ·obtain⟨_,tx,us,q2,q3,_⟩:=t1.back;rw[s2]at q2;injection q2 with _ e1 _ e2;exact q3 ⟨e1.symm,e2.symm⟩
  ·obtain⟨rfl,rfl⟩:=s1.same t1;have:=t2 t c s2 s4;have e1:(eK S'.lim (MG.ren r g).a c).1=_:=(h.Jx hok hw s4).1;rw[e1,s5]at this;cases this
  ·obtain⟨rfl,rfl⟩:=s1.same t1;have:=t2 t c s3 s4;have e1:(eK S'.lim (MG.ren r g).a c).1=_:=(h.Jx hok hw s4).1;rw[e1,s5]at this;cases this
theorem fH.Mw (h:fH r P S S') (hok:∀c∈cls,pV c) {S1:MS} {i:Nat} {p z en:Int} (ht:ME cls S i p en) (hs:kW cls S' S1 i p z):False:=by
 obtain⟨_,g',hg',hs⟩:=hs;obtain⟨g,hg,ht⟩:=ht;obtain⟨rfl,hw⟩:=h.at hg hg';have e0:(MG.ren r g).sg=g.sg:=rfl;have hi:=rm.inj h.mono;rcases ht with⟨t1,_,t2⟩ | ⟨t1,t2,t3⟩ | ⟨_,n',a',t1,t2⟩
 ·rcases hs with⟨s1,_,σ,s2,_⟩ | ⟨s1,_⟩ | ⟨s1,_⟩ | ⟨s1,_⟩ | ⟨_,_,⟨s1,_⟩,_⟩ | ⟨_,_,⟨s1,_⟩,_⟩
  ·exact Hp t2 σ s2.one
  all_goals (rw[e0,t1]at s1;cases s1)
 ·have ew:=(nY hi hw).1;rw[t2]at ew;have ev:iA (MG.ren r g).op (MG.ren r g).b (MG.ren r g).c=iA g.op g.b g.c:=oT r g.op g.b g.c;rcases hs with⟨s1,_⟩ | ⟨s1,_,s2,_⟩ | ⟨s1,_,s2,x,σ,s3,s4,_⟩ | ⟨s1,_⟩ | ⟨_,_,⟨s1,_⟩,_⟩ | ⟨_,_,⟨s1,_⟩,_⟩
  ·rw[e0,t1]at s1;cases s1
  ·exact s2 ew
  ·rw[ev]at s3;rcases t3 with⟨_,q⟩ | ⟨_,x',q1,q2⟩
   ·rw[s3]at q;cases q
   ·rw[s3]at q1;cases q1;have:=s4.one;rw[dS,bV]at this;have e2:sub σ (fm r g.a)=sub (fun y=>sub σ (af.ren (af.rn r) y)) g.a:=sub_sub _ _ _;exact q2 _ (e2.symm.trans this)
  all_goals (rw[e0,t1]at s1;cases s1)
 ·rcases hs with⟨s1,_⟩ | ⟨s1,_⟩ | ⟨s1,_⟩ | ⟨s1,_,s2,_⟩ | ⟨n,a,s1,t,c,F,s2,s3,s4,s5,_⟩ | ⟨n,a,s1,_,s2,⟨t,c,s3,s4,s5⟩,_⟩
  ·have:=t1.1;rw[e0,this]at s1;cases s1
  ·have:=t1.1;rw[e0,this]at s1;cases s1
  ·have:=t1.1;rw[e0,this]at s1;cases s1
  ·obtain⟨_,tx,us,q2,q3,_⟩:=t1;have s2':fm r g.a= .n 1 [116,114,117,101] 0 []:=s2;rw[q2,gO]at s2';injection s2' with _ e1 _ e2;exact q3 ⟨e1,dT.1 e2⟩
  ·obtain⟨rfl,rfl⟩:=t1.same s1;have:=t2 t c s2 s4;have e1:(eK S'.lim (MG.ren r g).a c).1=_:=(h.Jx hok hw s4).1;rw[e1,this]at s5;cases s5
  ·obtain⟨rfl,rfl⟩:=t1.same s1;have:=t2 t c s3 s4;have e1:(eK S'.lim (MG.ren r g).a c).1=_:=(h.Jx hok hw s4).1;rw[e1,this]at s5;cases s5
theorem fH.fl (h:fH r P S S') {i:Nat} {p en en':Int} (hs:ME cls S i p en) (ht:ME cls S' i p en'):en'=en:=by
 obtain⟨g,hg,hs⟩:=hs;obtain⟨g',hg',ht⟩:=ht;obtain⟨rfl,hw⟩:=h.at hg hg';have e0:(MG.ren r g).sg=g.sg:=rfl;have ev:iA (MG.ren r g).op (MG.ren r g).b (MG.ren r g).c=iA g.op g.b g.c:=oT r g.op g.b g.c;rcases hs with⟨s1,rfl,s2⟩ | ⟨s1,s2,s3⟩ | ⟨rfl,n,a,s1,s2⟩
 ·rcases ht with⟨_,rfl,_⟩ | ⟨t1,_⟩ | ⟨rfl,_⟩
  ·rfl
  ·rw[e0,s1]at t1;cases t1
  ·rfl
 ·rcases ht with⟨t1,_⟩ | ⟨t1,t2,t3⟩ | ⟨_,_,_,⟨t1,_⟩,_⟩
  ·rw[e0,s1]at t1;cases t1
  ·rw[ev]at t3;rcases s3 with⟨rfl,q⟩ | ⟨rfl,x,q,_⟩<;>rcases t3 with⟨rfl,q'⟩ | ⟨rfl,x',q',_⟩
   ·rfl
   ·rw[q]at q';cases q'
   ·rw[q]at q';cases q'
   ·rfl
  ·rw[e0,s1]at t1;cases t1
 ·rcases ht with⟨t1,rfl,_⟩ | ⟨t1,_⟩ | ⟨rfl,_⟩
  ·rfl
  ·have:=s1.1;rw[e0,this]at t1;cases t1
  ·rfl
theorem rU (r:Nat->Nat) (u:U):big (fm r u)=big u:=by unfold big fm;rw[GF]
theorem El (r:Nat->Nat) (us:List U):(us.map (fm r)).any big=us.any big:=by rw[lf];congr 1;funext u;exact rU r u
theorem fH.big (h:fH r P S S'):sV S'=sV S:=by
 unfold sV;rw[h.gs,h.vs,bj,El,lf];congr 3;funext g;show rj (MG.ren r g)=rj g;unfold rj MG.ren;dsimp only;rw[rU,rU,rU];cases g.a with
 | v x=>rfl
 | n k tx num us=>rw[gO];dsimp only;rw[El]
theorem fH.nJ (h:fH r P S S'):lB S'.gs=lB S.gs:=by unfold lB;rw[h.gs,bj];refine B2 fun i _=> ?_;rw[bC];cases S.gs[i]?<;>rfl
theorem fH.fin (h:fH r P S S'):oK S'.gs=oK S.gs:=by
 unfold oK;rw[h.nJ];have:S'.gs=[]↔S.gs=[]:=by rw[h.gs,dT]
 by_cases q:S.gs=[]
 ·rw[aH q,aH (this.2 q)]
 ·rw[aG q,aG (fun e=>q (this.1 e))]
theorem xX (hi:lj r P):∀(vs:List U) (ts:List (List UInt8)) (N:List Vr),(∀u∈vs,fz (PQ P) u)->(∀x∈N,PQ P x)->(vs.map (fm r)).foldl lG (ts,N.map (rn r))=((vs.foldl lG (ts,N)).1,(vs.foldl lG (ts,N)).2.map (rn r))/\∀x∈(vs.foldl lG (ts,N)).2,PQ P x
 | [],ts,N,_,hN=>⟨rfl,hN⟩
 | u :: vs,ts,N,hu,hN=>by
  have h1:=(eG u).1 (hu u (by simp));have hn:=vp hi.on u N h1 hN;have hN':∀x∈cJ N u,PQ P x:=fun x hx=>by
   rcases(jq u N).1 hx with q | q
   ·exact hN x q
   ·exact h1 x q
  have hs:=rC (D:=Go.Lib.itoa) hi.on hN' u h1;rw[aY,bF,bF];have e:lG (ts,N.map (rn r)) (fm r u)=((lG (ts,N) u).1,(cJ N u).map (rn r)):=by unfold lG;dsimp only;unfold fm;rw[hn,hs]
  rw[e];exact xX hi vs _ _ (fun w hw=>hu w (by simp[hw])) hN'
theorem Bc (hi:lj r P):∀(gs:List MG) (ts:List (List UInt8)) (N:List Vr),(∀g∈gs,FM P g)->(∀x∈N,PQ P x)->(gs.map (MG.ren r)).foldl mO (ts,N.map (rn r))=((gs.foldl mO (ts,N)).1,(gs.foldl mO (ts,N)).2.map (rn r))
 | [],ts,N,_,_=>rfl
 | g :: gs,ts,N,hg,hN=>by
  have hw:=hg g (by simp);have step:∀(u:U) (N:List Vr),fz (PQ P) u->(∀x∈N,PQ P x)->cJ (N.map (rn r)) (fm r u)=(cJ N u).map (rn r)/\∀x∈cJ N u,PQ P x:=fun u N hu hN=>by
   have h1:=(eG u).1 hu;refine⟨vp hi.on u N h1 hN,fun x hx=> ?_⟩;rcases(jq u N).1 hx with q | q
   ·exact hN x q
   ·exact h1 x q
  obtain⟨a1,a2⟩:=step g.a N hw.a hN;obtain⟨b1,b2⟩:=step g.b _ hw.b a2;obtain⟨c1,c2⟩:=step g.c _ hw.c b2;have en:kU (N.map (rn r)) (MG.ren r g)=(kU N g).map (rn r):=by unfold kU MG.ren;dsimp only;rw[a1,b1,c1]
  have ht:vE ((kU N g).map (rn r)) (MG.ren r g)=vE (kU N g) g:=by unfold vE MG.ren;dsimp only;unfold fm;have c3:∀x∈kU N g,PQ P x:=c2;rw[rC hi.on c3 g.a ((eG _).1 hw.a),rC hi.on c3 g.b ((eG _).1 hw.b),rC hi.on c3 g.c ((eG _).1 hw.c)]
  rw[aY,bF,bF];have e:mO (ts,N.map (rn r)) (MG.ren r g)=((mO (ts,N) g).1,(kU N g).map (rn r)):=by unfold mO;dsimp only;rw[en,ht]
  rw[e];exact Bc hi gs _ _ (fun w hw=>hg w (by simp[hw])) c2
theorem fH.told (h:fH r P S S'):(jj S'.vs).1=(jj S.vs).1/\(ux (jj S'.vs).2 S'.gs).1=(ux (jj S.vs).2 S.gs).1/\S'.gs.map (·.wt)=S.gs.map (·.wt):=by
 have hi:=rm.inj h.mono;obtain⟨v1,v2⟩:=xX hi S.vs [] [] h.wv (fun x hx=>by cases hx);have ev:jj S'.vs=((jj S.vs).1,(jj S.vs).2.map (rn r)):=by unfold jj;rw[h.vs];exact v1
 refine⟨by rw[ev],?_,?_⟩
 ·rw[ev,h.gs];unfold ux;dsimp only;rw[Bc hi S.gs [] (jj S.vs).2 h.wg v2]
 ·rw[h.gs,bQ];rfl
end
section
variable {cls:List dE} {script:List (Int×Int)} {S0 S0':MS}
theorem jk.rel (hok:∀c∈cls,pV c) {r:Nat->Nat} {P:Nat->Prop} (h0:fH r P S0 S0') {j:Nat} {S:MS} {L:List Int} (h:jk cls script S0 j S L):∀{S':MS} {L':List Int},jk cls script S0' j S' L'->L'=L/\∃r P,fH r P S S':=by
 induction h with
 | start=>
  intro S' L' k;cases k with
  | start=>exact⟨rfl,r,P,h0⟩
 | @step j S S1 L pg pc z i h hs hi hg hl ih=>
  intro S' L' k;cases k with
  | @step _ T S1' L1 pg' pc' z' i' k ks ki kg kl=>obtain⟨rfl,r1,P1,hr⟩:=ih k;rw[hs]at ks;cases ks;rw[hr.nJ,hi]at ki;cases ki;obtain⟨rfl,r2,P2,hr2⟩:=hr.step hok hg kg;exact⟨rfl,r2,P2,hr2⟩
theorem jk.before {j:Nat} {S:MS} {L:List Int} (h:jk cls script S0 j S L):∀{i:Nat},i<j->∃(T T':MS) (K:List Int) (pg pc z:Int) (k:Nat),jk cls script S0 i T K/\script[i]?=some (pg,pc)/\(lB T.gs)[jX pg (lB T.gs).length]?=some k/\kW cls T T' k pc z/\sV T'=false:=by
 induction h with
 | start=>intro i hi;omega
 | @step j S S1 L pg pc z k h hs hi hg hl ih=>
  intro i hij;by_cases e:i=j
  ·subst e;exact⟨S,S1,L,pg,pc,z,k,h,hs,hi,hg,hl⟩
  ·exact ih (by omega)
theorem oR.same (hok:∀c∈cls,pV c) {r:Nat->Nat} {P:Nat->Prop} (h0:fH r P S0 S0') {en en':Int} {log log':List Int} {v v' g g':List (List UInt8)} {w w':List Bool} (h:oR cls script S0 en log v g w) (k:oR cls script S0' en' log' v' g' w'):en'=en/\log'=log/\v'=v/\g'=g/\w'=w:=by
 obtain⟨j,S,L,hr,he⟩:=h;obtain⟨j',S',L',kr,ke⟩:=k;rcases fM j j' with q | q | q
 ·exfalso;obtain⟨T,T',K,pg,pc,z,i,b1,b2,b3,b4,b5⟩:=kr.before q;obtain⟨_,r1,P1,hR⟩:=hr.rel hok h0 b1;rw[hR.nJ]at b3;rcases he with⟨e1,_⟩ | ⟨pg',pc',i',z',e1,e2,e3,_⟩
  ·rcases e1 with e1 | e1
   ·rw[e1]at b2;rw[eC Qw]at b2;cases b2
   ·rw[e1]at b3;cases b3
  ·rw[b2]at e1;cases e1;rw[b3]at e2;cases e2;rcases e3 with⟨e3,_⟩ | ⟨_,S1,e3,e4⟩
   ·exact hR.Mw hok e3 b4
   ·obtain⟨_,r2,P2,hR2⟩:=hR.step hok e3 b4;rw[hR2.big,e4]at b5;cases b5
 ·subst q;obtain⟨rfl,r1,P1,hR⟩:=hr.rel hok h0 kr;obtain⟨t1,t2,t3⟩:=hR.told;rw[hR.nJ]at ke;rcases he with⟨e1,rfl,rfl,rfl,rfl,rfl⟩ | ⟨pg,pc,i,z,e1,e2,e3,rfl,rfl,rfl,rfl⟩<;>rcases ke with⟨k1,rfl,rfl,rfl,rfl,rfl⟩ | ⟨pg',pc',i',z',k1,k2,k3,rfl,rfl,rfl,rfl⟩
  ·exact⟨hR.fin,rfl,t1,t2,t3⟩
  ·exfalso;rcases e1 with e1 | e1
   ·rw[e1]at k1;rw[eC Qw]at k1;cases k1
   ·rw[e1]at k2;cases k2
  ·exfalso;rcases k1 with k1 | k1
   ·rw[k1]at e1;rw[eC Qw]at e1;cases e1
   ·rw[k1]at e2;cases e2
  ·rw[e1]at k1;cases k1;rw[e2]at k2;cases k2;rcases e3 with⟨e3,rfl⟩ | ⟨rfl,S1,e3,e4⟩<;>rcases k3 with⟨k3,rfl⟩ | ⟨rfl,S1',k3,k4⟩
   ·exact⟨hR.fl e3 k3,rfl,rfl,rfl,rfl⟩
   ·exact(hR.Mw hok e3 k3).elim
   ·exact(hR.Mp hok e3 k3).elim
   ·obtain⟨rfl,_⟩:=hR.step hok e3 k3;exact⟨rfl,rfl,rfl,rfl,rfl⟩
 ·exfalso;obtain⟨T,T',K,pg,pc,z,i,b1,b2,b3,b4,b5⟩:=hr.before q;obtain⟨_,r1,P1,hR⟩:=b1.rel hok h0 kr;rw[hR.nJ]at ke;rcases ke with⟨e1,_⟩ | ⟨pg',pc',i',z',e1,e2,e3,_⟩
  ·rcases e1 with e1 | e1
   ·rw[e1]at b2;rw[eC Qw]at b2;cases b2
   ·rw[e1]at b3;cases b3
  ·rw[b2]at e1;cases e1;rw[b3]at e2;cases e2;rcases e3 with⟨e3,_⟩ | ⟨_,S1,e3,e4⟩
   ·exact hR.Mp hok b4 e3
   ·obtain⟨_,r2,P2,hR2⟩:=hR.step hok b4 e3;rw[hR2.big,b5]at e4;cases e4
end
end af
namespace Go.Proofs.YthfjnfcekeknlabGreatDoor
open Go.RowKit af
open af (U Vr dE)
theorem Iz {T:Nat->U} {u:U} {c:dE} {V F:List Nat} (hV:vW T u c V) (hF:∀f∈F,T f= .v ([],f)) {y:List UInt8} (hy:y∈NG c) (hl:(NG c).idxOf y<(V++F).length):ej T (V++F) (NG c) y=iN u c (fun k=>(F[k]?).getD 0) y:=by
 have hvl:V.length=(NH c).length:=hV.1;unfold ej iN;by_cases hn:y∈NH c
 ·rw[aH hn];obtain⟨K,hK⟩:=JQ c;have ei:(NG c).idxOf y=(NH c).idxOf y:=by rw[hK,dA,aH hn]
  have hi:(NH c).idxOf y<(NH c).length:=bW hn;have h1:(aP 8 [] c.head)[(NH c).idxOf y]?=some y:=by show (NH c)[(NH c).idxOf y]?=some y;rw[aj hi,jU]
  have h2:V[(NH c).idxOf y]?=some (V[(NH c).idxOf y]'(by omega)):=aj (by omega);obtain⟨q,q1,q2⟩:=hV.2 _ y _ h1 h2;rw[ei,cg (by omega),h2,q1];exact q2
 ·rw[aG hn];have:=(JR hy hn).1;rw[cZ (by omega),hvl];rw[au]at hl;have hk:(NG c).idxOf y - (NH c).length<F.length:=by omega
  dsimp only;rw[aj hk];exact hF _ (aL hk)
theorem BB {u:U} {b:Nat} {c:dE} {V F:List Nat} {T:Nat->U} {says:Nat} {ws:List Nat} (h:uH u b c V F T says ws) (hu:fz (PQ (·<b)) u) (hok:pV c):(eK b u c).1=says/\∀v,v∈ws↔v∈(eK b u c).2:=by
 rcases h with⟨h1,rfl,rfl⟩ | ⟨h1,hV,hl,hF,hp,rfl,rfl⟩
 ·unfold eK;rw[aH h1];exact⟨rfl,fun v=>Iff.rfl⟩
 ·unfold eK
  rw[aG (by rw[h1];simp)];have hvl:V.length=(NH c).length:=hV.1;have hNT:∀y∈NT c,(NG c).idxOf y<(V++F).length:=fun y hy=>by
   have hext:∃K,NG c=NT c++K:=by
    have hO:∀(t:Option Tm) (ns:List (List UInt8)),∃M,e7 ns t=ns++M:=fun t ns=>by
     cases t with
     | none=>exact⟨[],by simp[e7]⟩
     | some r=>exact dG 8 r ns
    have hI:∀(x:dq) (ns:List (List UInt8)),∃M,bU ns x=ns++M:=fun x ns=>by obtain⟨M1,h1⟩:=dG 8 x.left ns;obtain⟨M2,h2⟩:=hO x.right (aP 8 ns x.left);obtain⟨M3,h3⟩:=hO x.last (e7 (aP 8 ns x.left) x.right);exact⟨M1++(M2++M3),by unfold bU;rw[h3,h2,h1];simp⟩
    have hL:∀(xs:List dq) (ns:List (List UInt8)),∃M,bE ns xs=ns++M:=fun xs=>by
     induction xs with
     | nil=>exact fun ns=>⟨[],by simp[bE]⟩
     | cons x xs ih=>intro ns;obtain⟨M1,h1⟩:=hI x ns;obtain⟨M2,h2⟩:=ih (bU ns x);exact⟨M1++M2,by show bE (bU ns x) xs=_;rw[h2,h1];simp⟩
    exact hL c.goals (NT c)
   obtain⟨K,hK⟩:=hext;rw[hK,dA,aH hy,hl];exact bW hy
  have he:nB (ej T (V++F) (NG c)) c.tests=nB (iN u c fun k=>(F[k]?).getD 0) c.tests:=p6 c.tests (NH c) hok.ts fun y hy=>Iz hV (fun f hf=>(hF f hf).2) (MD c y hy) (hNT y hy);let r:Nat->Nat:=fun k=>if k<b then k else(F[k - b]?).getD 0
  let P:Nat->Prop:=fun k=>k<b\/(b<=k/\k - b<F.length)
  have r1:∀k,k<b->r k=k:=fun k hk=>aH hk;have r2:∀k,b<=k->∀hk:k - b<F.length,r k=F[k - b]:=fun k hk hk'=>by show (if k<b then k else(F[k - b]?).getD 0)=_;rw[aG (by omega),aj hk'];rfl
  have hi:lj r P:=fun i j hPi hPj q=>by
   rcases hPi with a | ⟨a1,a2⟩<;>rcases hPj with d | ⟨d1,d2⟩
   ·rw[r1 i a,r1 j d]at q;exact q
   ·rw[r1 i a,r2 j d1 d2]at q;have:=(hF _ (aL d2)).1;omega
   ·rw[r2 i a1 a2,r1 j d]at q;have:=(hF _ (aL a2)).1;omega
   ·rw[r2 i a1 a2,r2 j d1 d2]at q;rcases fM (i - b) (j - b)with s | s | s
    ·have:=dQ.1 hp _ _ a2 d2 s;omega
    ·omega
    ·have:=dQ.1 hp _ _ d2 a2 s;omega
  have hix:∀y∈NT c,y∉NH c->(NG c).idxOf y - (NH c).length<F.length:=fun y hy hn=>by have h2:=(JR (MD c y hy) hn).1;have h3:=hNT y hy;rw[au]at h3;omega
  have hY:∀y∈NT c,fz (PQ P) (iN u c (b+·) y):=fun y hy=>xm (fun k hk=>ay hk) hu fun hn=>aw ⟨iq _ _,by have:=hix y hy hn;omega⟩;have hid:fm (fun k=>k) u=u:=by have:=ky (r:=fun k=>k) (r':=fun k=>k) (P:=(·<b)) (fun _ _=>rfl) hu;unfold fm;rw[sub_congr (τ:= .v) u (fun x hx=> ?_),sub_self];have hx1:=((eG u).1 hu x hx).1;show U.v ([],x.2)= .v x;congr 1;exact B1 hx1.symm rfl
  have hE:∀y∈NT c,iN u c (fun k=>(F[k]?).getD 0) y=fm r (iN u c (b+·) y):=fun y hy=>by have:=tI (r:=fun k=>k) (r':=r) (P:=(·<b)) (fun i j _ _ q=>q) (fun k hk=>r1 k hk) hu (c:=c) (o1:=(b+·)) (o2:=fun k=>(F[k]?).getD 0) (y:=y) (fun hn=>by have:=hix y hy hn;rw[r2 _ (iq _ _) (by omega),aj this];simp);rw[hid]at this;exact this
  rw[he,p6 (θ:=fun y=>fm r (iN u c (b+·) y)) c.tests (NH c) hok.ts hE,Dt hi c.tests (NH c) hok.ts hY];have hwt:=wm (η:=iN u c (b+·)) c.tests (NH c) hok.ts hY;refine⟨(Wn.oY _ _).symm,fun v=> ?_⟩;unfold ug;rw[gL,gL,List.drop_left];show (v∈(nB (iN u c (b+·)) c.tests).wt.map r/\_)↔_;rw[bu];constructor
  ·rintro⟨⟨w,hw,rfl⟩,h2⟩;rcases hwt.at w hw with q | ⟨q1,q2⟩
   ·rw[r1 w q];exact⟨hw,eN q⟩
   ·exfalso;rw[r2 w q1 q2]at h2;simp at h2
  ·rintro⟨h1,h2⟩;have hv:=fL h2;refine⟨⟨v,h1,r1 v hv⟩,?_⟩;simp only[B3,decide_eq_false_iff_not];intro q;have:=(hF v q).1;omega
def eI (T:Nat->U) (x:Int):U:=if x= -1 then zU else T x.toNat
def iP (fr:Nat->Nat) (T:Nat->U) (g:Gl):MG:=⟨T g.l,g.sg.toList,eI T g.r,g.op.toList,eI T g.z,!nJ fr g,fun v=>nJ fr g=false/\v∈g.nd⟩
def mF (V:List Nat) (S:iQ):MS:=⟨V.map S.T,S.G.map (iP S.fr S.T),S.D.length⟩
structure Mc (V:List Nat) (S:iQ):Prop where
 wf:O3 S
 nd:∀g∈S.G,∀v∈g.nd,af.gl (e8 S.D) v=none
 vl:∀v∈V,v<S.D.length
theorem rE (fr:Nat->Nat) (g:Gl):nJ fr g=false↔g.wt=true/\∀v∈g.nd,fr v=v:=by unfold nJ;simp
theorem gY (T:Nat->U) (n:Nat):eI T (n:Int)=T n:=by unfold eI;rw[aG (by omega)];rfl
theorem xD.rc {T:Nat->U} {len:Nat} {g:Gl} (h:xD T len g):g.r= -1\/∃n:Nat,g.r=(n:Int)/\n<len:=by
 by_cases q:g.sg.toList=[]
 ·exact ay (h.r0 q)
 ·exact aw (h.rr q)
theorem xD.zc {T:Nat->U} {len:Nat} {g:Gl} (h:xD T len g):g.z= -1\/∃n:Nat,g.z=(n:Int)/\n<len:=by
 by_cases q:g.op.toList=[]
 ·exact ay (h.z0 q)
 ·exact aw (h.zz q)
theorem lL {T T':Nat->U} {len:Nat} {f:U->U} (hf:f zU=zU) (h:∀m,m<len->T' m=f (T m)) {x:Int} (hx:x= -1\/∃n:Nat,x=(n:Int)/\n<len):eI T' x=f (eI T x):=by
 rcases hx with q | ⟨n,q,hn⟩
 ·unfold eI;rw[aH q,aH q,hf]
 ·rw[q,gY,gY,h n hn]
theorem Ep {fr:Nat->Nat} {T T':Nat->U} {len:Nat} (h:∀m,m<len->T' m=T m) {g:Gl} (hg:xD T len g):iP fr T' g=iP fr T g:=by unfold iP;rw[h g.l hg.ll,lL (f:=id) rfl h hg.rc,lL (f:=id) rfl h hg.zc];rfl
section
variable {G:List af.Gn} {fr fr':Nat->Nat} {T T':Nat->U} {a b:U} {σ:Vr->U}
theorem As (hm:af.Made G fr fr' T T' a b σ) (hs:kx G fr T) {g:Gl} (hnd:∀v∈g.nd,af.gl G v=none):nJ fr' g=false↔nJ fr g=false/\∀v∈g.nd,σ ([],v)= .v ([],v):=by
 rw[rE,rE];constructor
 ·rintro⟨h1,h2⟩
  have key:∀v∈g.nd,fr v=v/\σ ([],v)= .v ([],v):=fun v hv=>by
   have e1:=h2 v hv;have g0:=hnd v hv;have t1:T' v= .v ([],v):=by have:=hm.DB.var (n:=v) (by rw[e1];exact g0);rwa [e1]at this
   have hu:fr v=v:=by
    by_cases q:af.gl G (fr v)=none
    ·have v1:=hs.xU v q;have v2:fr' (fr v)=v:=(hm.left.mono _ _ (hs.fG.idem v)).trans e1;have v3:=hm.DB.xU (fr v) (by rw[v2];exact g0);omega
    ·exfalso;have ht:=hs.tr v;have e2:=hm.is v;rw[t1]at e2;generalize T v=x at ht e2;cases ht with
     | var h _=>exact q h
     | node _ _ _=>rw[dS]at e2;cases e2
   exact⟨hu,(hm.ui v hu g0).trans t1⟩
  exact⟨⟨h1,fun v hv=>(key v hv).1⟩,fun v hv=>(key v hv).2⟩
 ·rintro⟨⟨h1,h2⟩,h3⟩;refine⟨h1,fun v hv=> ?_⟩;have e1:T' v= .v ([],v):=(hm.ui v (h2 v hv) (hnd v hv)).symm.trans (h3 v hv);have ht:=hm.DB.tr v;generalize T' v=x at ht e1;cases ht with
  | var h _=>injection e1 with e1;injection e1
  | node _ _ _=>cases e1
theorem Eo {T0:Nat->U} {len:Nat} (hm:af.Made G fr fr' T T' a b σ) (hs:kx G fr T) (h0:∀m,m<len->T m=T0 m) {g:Gl} (hg:xD T0 len g) (hnd:∀v∈g.nd,af.gl G v=none):iP fr' T' g=MG.put σ (iP fr T0 g):=by
 have hT:∀m,m<len->T' m=af.sub σ (T0 m):=fun m q=>by rw[hm.is,h0 m q]
 have hz:af.sub σ zU=zU:=by unfold zU;rw[dS];rfl
 have hst:(iP fr T0 g).stays σ↔nJ fr' g=false:=by
  rw[As hm hs hnd];unfold MG.stays iP;dsimp only;constructor
  ·rintro⟨h1,h2⟩;have h1':nJ fr g=false:=by simpa using h1
   exact⟨h1',fun v hv=>h2 v ⟨h1',hv⟩⟩
  ·rintro⟨h1,h2⟩;exact⟨by rw[h1];rfl,fun v hv=>h2 v hv.2⟩
 unfold MG.put;have e1:(iP fr T0 g).a=T0 g.l:=rfl;have e2:(iP fr T0 g).b=eI T0 g.r:=rfl;have e3:(iP fr T0 g).c=eI T0 g.z:=rfl;rw[e1,e2,e3,<-hT g.l hg.ll,<-lL hz hT hg.rc,<-lL hz hT hg.zc];unfold iP at hst⊢;dsimp only at hst⊢;congr 1
 ·cases hq:nJ fr' g with
  | false=>exact(@eN _ (_) (hst.2 hq)).symm
  | true=>exact(@dK _ (_) (fun e=>by rw[hst.1 e]at hq;cases hq)).symm
 ·funext v;apply mI;constructor
  ·rintro⟨q1,q2⟩;exact⟨hst.2 q1,((As hm hs hnd).1 q1).1,q2⟩
  ·rintro⟨q1,q2⟩;exact⟨hst.1 q1,q2.2⟩
end
def isVar (S:iQ) (k:Nat):Prop:=k<S.D.length/\S.fr k=k/\af.gl (e8 S.D) k=none
theorem O3.FU {S:iQ} (h:O3 S) {n:Nat} (hn:n<S.D.length):fz (PQ (isVar S)) (S.T n):=(eG _).2 fun x hx=>by have h1:=(eG _).1 (h.ok.um h.DB n hn) x hx;have h2:=(h.DB.tr n).vars x hx;exact⟨h1.1,h1.2.1,h1.2.2,h2.2.1⟩
theorem C8 {T:Nat->U} {op:List UInt8} {r z:Int} {rn zn:Nat} (hr:r=(rn:Int)) (hz:op≠[]->z=(zn:Int)):lY op (eI T r) (eI T z)=lY op (T rn) (T zn)/\iA op (eI T r) (eI T z)=iA op (T rn) (T zn):=by
 rw[hr,gY];by_cases q:op=[]
 ·subst q;unfold lY iA;simp
 ·rw[hz q,gY];exact⟨rfl,rfl⟩
end Go.Proofs.YthfjnfcekeknlabGreatDoor
namespace Go.Proofs.YthfjnfcekeknlabGreatDoor
open Go.RowKit af
open af (U Vr dE)
variable {E D:List Ng} {v len b bg t m i:Nat} {x:dq} {η θ:List UInt8->U} {fr:Nat->Nat} {g:Gl} {T T':Nat->U} {V own:List Nat} {u:U} {c:dE} {op tx:List UInt8} {Q:Vr->Prop} {cls:List dE} {rs:List (Nat×List Nat)} {S S':iQ} {p z:Int}
theorem px (h:v<D.length):af.gl (e8 (D++E)) v=af.gl (e8 D) v:=by rw[m7 (show v<(D++E).length by rw[au];omega),m7 h,cq h]
theorem Hj (h:Hh x) (ns:List (List UInt8)) (hy:∀y∈bU ns x,η y=θ y):MG.of η x=MG.of θ x:=by
 have hp:∀t,(t=x.left\/x.right=some t\/x.last=some t)->fb η 8 t=fb θ 8 t:=fun t ht=>by obtain⟨h1,ns',h2⟩:=h.parts ns t ht;exact gR 8 t ns' h1 fun y q=>hy y (h2 y q)
 unfold MG.of;rw[hp x.left (ay rfl)];congr 1
 ·cases e:x.right with
  | none=>rfl
  | some t=>exact hp t (aw (ay e))
 ·cases e:x.last with
  | none=>rfl
  | some t=>exact hp t (aw (aw e))
theorem Ea (h:xM T len η x g) (hx:Hh x):iP fr T g=MG.of η x:=by
 have hr:nJ fr g=true:=by unfold nJ;rw[h.nw];rfl
 unfold iP MG.of;rw[h.tl,h.sg,h.op,hr];congr 1
 ·by_cases q:x.sign=[]
  ·rw[hx.r0 q,h.r0 q];rfl
  ·obtain⟨r,h1,_⟩:=hx.r1 q;obtain⟨n,h2,_,h3⟩:=h.r1 r h1;rw[h1,h2,gY,h3];rfl
 ·by_cases q:x.op=[]
  ·rw[hx.z0 q,h.z0 q];rfl
  ·obtain⟨r,h1,_⟩:=hx.z1 q;obtain⟨n,h2,_,h3⟩:=h.z1 r h1;rw[h1,h2,gY,h3];rfl
 ·funext v;simp
theorem tT {α β γ:Type} {R:α->β->Prop} {f:β->γ} {g:α->γ}:∀{xs:List α} {ys:List β},eO R xs ys->(∀x∈xs,∀y,R x y->f y=g x)->ys.map f=xs.map g
 | [],[],_,_=>rfl
 | x :: xs,y :: ys,h,hf=>by rw[aY,aY,hf x (by simp) y h.1,tT h.2 fun a ha b hb=>hf a (by simp[ha]) b hb]
theorem En {T:Nat->U} {len:Nat} {η:List UInt8->U}:∀{xs:List dq} {gs:List Gl},eO (xM T len η) xs gs->∀g∈gs,g.nd=[]
 | [],[],_,g,hg=>by cases hg
 | x :: xs,y :: ys,h,g,hg=>by
  rcases bh.1 hg with q | q
  ·rw[q];exact h.1.nd
  ·exact En h.2 g q
theorem Ba (h:vW T u c V) (he:∀m∈V,T' m=T m):vW T' u c V:=⟨h.1,fun i x m h1 h2=>by obtain⟨q,q1,q2⟩:=h.2 i x m h1 h2;exact⟨q,q1,(he m (bK h2)).trans q2⟩⟩
theorem NN {v:U} (hu:fz Q u) (hv:op≠[]->fz Q v):(lY op u v).lX Q:=by
 unfold lY;split
 ·exact(eQ Q).fh hu
 ·rename_i q;exact((eQ Q).fh hu).fh (hv q)
theorem p7 (h:nq cls own bg u b rs) (hu:fz (PQ (·<b)) u) (hok:∀c∈cls,pV c) (ht:t<rs.length) (hc:cls[jp own bg t]?=some c):(eK b u c).1=rs[t].1/\rs[t].1≠1/\∀v,v∈rs[t].2↔v∈(eK b u c).2:=by obtain⟨h1,c',V,F,T',h2,h3⟩:=h t rs[t] (aj ht);rw[hc]at h2;cases h2;obtain⟨k1,k2⟩:=BB h3 hu (hok c (bK hc));exact⟨k1,h1,k2⟩
theorem sT:v∈fE rs↔∃t,∃h:t<rs.length,rs[t].1=3/\v∈rs[t].2:=by
 unfold fE;rw[List.mem_flatMap];constructor
 ·rintro⟨r,h1,h2⟩;obtain⟨t,ht,rfl⟩:=bG h1;split at h2
  ·rename_i q;exact⟨t,ht,q,h2⟩
  ·cases h2
 ·rintro⟨t,ht,q,hv⟩;exact⟨rs[t],aL ht,by rw[aH q];exact hv⟩
theorem wK (h:t<(eW cls tx m cls.length).length):∃c,cls[jp (eW cls tx m cls.length) bg t]?=some c:=by unfold jp;have hk:(bg+t) % (eW cls tx m cls.length).length<(eW cls tx m cls.length).length:=J1 _ (by omega);rw[aj hk];have:=aL hk;unfold eW at this;rw[gL,J2]at this;exact⟨_,aj this.1⟩
theorem Ai (hok:∀c∈cls,pV c) (h:Mc V S) (hg:NX cls S S' i p z):kW cls (mF V S) (mF V S') i p z/\Mc V S':=by
 obtain⟨⟨g,hgi,hc⟩,hwf'⟩:=hg;have hgm:g∈S.G:=bK hgi;have gw:=h.wf.gw g hgm;have hai:(mF V S).gs[i]?=some (iP S.fr S.T g):=by show (S.G.map _)[i]?=_;rw[bC,hgi];rfl
 have hul:fz (PQ (·<S.D.length)) (S.T g.l):=(h.wf.FU gw.ll).mono fun x hx=>⟨hx.1,hx.2.1⟩;rcases hc with⟨hs,rfl,rn,σ,hr,hrl,hsm,hmd,hG⟩ | ⟨hs,rfl,rn,zn,wo,wc,hr,hrl,hz,hw,eD,eF,eT,hG⟩ | ⟨hs,rfl,rn,zn,x,T2,σ,hr,hrl,hz,hw,hv,st2,old2,tn2,hsm,hmd,hG⟩ | ⟨hs,rfl,ht,eD,eF,eT,hG⟩ | ⟨hs,tx,us,htx,hnt,rs,c,VV,F,T2,ws,E,F',Gn,r1,r2,r3,r4,rfl,eD,eF,r6,r7,r8,r9,r10,r11,r12,r13,hG⟩ | ⟨hs,rfl,tx,us,htx,hnt,rs,E,oo,oc,r1,r2,r3,eD,eF,r6,r7,hG⟩
 ·have hl:=hsm.len;refine⟨⟨mK hl.symm,_,hai,ay ⟨hs,rfl,σ,?_,?_,?_⟩⟩,hwf',fun x hx v hv=> ?_,fun v hv=>by rw[hl];exact h.vl v hv⟩
  ·show iw (S.T g.l) (eI S.T g.r) σ;rw[hr,gY];exact hmd.Ln
  ·show V.map S'.T=(V.map S.T).map _;rw[bQ];exact bt fun v _=>hmd.is v
  ·show S'.G.map _=((S.G.map _).eraseIdx i).map _;rw[hG,iY,bQ];exact bt fun x hx=>Eo hmd h.wf.DB (fun _ _=>rfl) (h.wf.gw x (mem_erase hx)) (h.nd x (mem_erase hx))
  ·rw[hsm.g];rw[hG]at hx;exact h.nd x (mem_erase hx) v hv
 ·have hin:=NN (Q:=PQ (isVar S)) (op:=g.op.toList) (h.wf.FU hrl) (fun q=>h.wf.FU (hz q).2);obtain⟨ew,_⟩:=C8 (T:=S.T) (op:=g.op.toList) hr (fun q=>(hz q).1);have hwt:∀v∈(lY g.op.toList (S.T rn) (S.T zn)).wt,isVar S v:=hin.at;refine⟨⟨by show S.D.length<=S'.D.length;rw[eD];exact Qw,_,hai,aw (ay ⟨hs,rfl,?_,?_,?_⟩)⟩,hwf',fun x hx v hv=> ?_,fun v hv=>by rw[eD];exact h.vl v hv⟩
  ·show (lY g.op.toList (eI S.T g.r) (eI S.T g.z)).wt≠[];rw[ew];exact hw
  ·show V.map S'.T=V.map S.T;rw[eT]
  ·show S'.G.map _=(S.G.map _).set i _;rw[hG,mL,eF,eT];congr 1;unfold iP;dsimp only;have hrd:=(rE S.fr {g with wt:=true,no:=wo,nc:=wc,nd:=(lY g.op.toList (S.T rn) (S.T zn)).wt}).2 ⟨rfl,fun v hv=>(hwt v hv).2.1⟩;rw[hrd,ew];congr 1;funext v;simp
  ·rw[eD];rw[hG]at hx;rcases cQ hx with q | q
   ·exact h.nd x q v hv
   ·rw[q]at hv;exact(hwt v hv).2.2
 ·have hl:=hsm.len;rw[au]at hl;have hl2:S'.D.length=S.D.length+1:=hl;obtain⟨ew,ev⟩:=C8 (T:=S.T) (op:=g.op.toList) hr (fun q=>(hz q).1);refine⟨⟨by show S.D.length<=S'.D.length;omega,_,hai,aw (aw (ay ⟨hs,rfl,?_,x,σ,?_,?_,?_,?_⟩))⟩,hwf',fun y hy v hv=> ?_,fun v hv=>by have:=h.vl v hv;omega⟩
  ·show (lY g.op.toList (eI S.T g.r) (eI S.T g.z)).wt=[];rw[ew];exact hw
  ·show iA g.op.toList (eI S.T g.r) (eI S.T g.z)=some x;rw[ev];exact hv
  ·show iw (S.T g.l) (.n 3 [] x []) σ;have:=hmd.Ln;rw[old2 g.l gw.ll,tn2]at this;exact this
  ·show V.map S'.T=(V.map S.T).map _;rw[bQ];refine bt fun v hv=> ?_;rw[hmd.is v,old2 v (h.vl v hv)];rfl
  ·show S'.G.map _=((S.G.map _).eraseIdx i).map _;rw[hG,iY,bQ];exact bt fun y hy=>Eo hmd st2 old2 (h.wf.gw y (mem_erase hy)) fun v hv=>by rw[px (h.wf.nl y (mem_erase hy) v hv)];exact h.nd y (mem_erase hy) v hv
  ·rw[hsm.g];rw[hG]at hy;rw[px (h.wf.nl y (mem_erase hy) v hv)];exact h.nd y (mem_erase hy) v hv
 ·refine⟨⟨by show S.D.length<=S'.D.length;rw[eD];exact Qw,_,hai,aw (aw (aw (ay ⟨hs,rfl,ht,?_,?_⟩)))⟩,hwf',fun x hx v hv=> ?_,fun v hv=>by rw[eD];exact h.vl v hv⟩
  ·show V.map S'.T=V.map S.T;rw[eT]
  ·show S'.G.map _=(S.G.map _).eraseIdx i;rw[hG,iY,eF,eT]
  ·rw[eD];rw[hG]at hx;exact h.nd x (mem_erase hx) v hv
 ·have hlen:S'.D.length=S.D.length+E.length:=by rw[eD,au]
  rw[htx]at r2 r4 hul;have hcm:c∈cls:=bK r3;have hkc:=hok c hcm;have hHV:vW T2 (.n 1 tx 0 us) c VV:=by
   rcases r4 with⟨q1,q2,_⟩ | ⟨_,q,_⟩
   ·exact absurd q2.symm q1
   ·exact q
  have hHV':vW S'.T (.n 1 tx 0 us) c VV:=Ba hHV fun m hm=>r7 m (bO _ hm);have hvl:VV.length=(NH c).length:=hHV.1;have hlF:(F++F').length+(NH c).length=(NG c).length:=by rw[<-r9,<-hvl];simp only[au];omega
  refine⟨⟨by show S.D.length<=S'.D.length;omega,_,hai,aw (aw (aw (aw (ay ⟨_,_,⟨hs,tx,us,htx,hnt,rfl,rfl⟩,rs.length,c,F++F',r1,fun t' c' ht' hc'=> ?_,r3,?_,rfl,hlF,r11,fun f hf=>⟨(r10 f hf).1,r12 f ?_⟩,?_,?_⟩))))⟩,hwf',fun x hx v hv=> ?_,fun v hv=>by have:=h.vl v hv;omega⟩
  ·show (eK S.D.length (S.T g.l) c').1≠1;rw[htx];obtain⟨q1,q2,_⟩:=p7 r2 hul hok ht' hc';rw[q1];exact q2
  ·show (eK S.D.length (S.T g.l) c).1=1;rw[htx];exact(BB r4 hul hkc).1
  ·rw[aK];exact iS _ hf
  ·show V.map S'.T=V.map S.T;exact bt fun v hv=>r6 v (h.vl v hv)
  ·show S'.G.map _=(S.G.map _).eraseIdx i++_;rw[hG,dL,iY];congr 1
   ·rw[eF];exact bt fun x hx=>Ep r6 (h.wf.gw x (mem_erase hx))
   ·refine tT r13 fun x hx y hy=> ?_;rw[Ea hy (hkc.gs x hx)];obtain⟨ns,hn⟩:=fF c.goals (NT c) x hx;refine Hj (hkc.gs x hx) ns fun w hw=> ?_;have hwn:w∈NG c:=hn w hw;show ej S'.T (VV++F++F') (NG c) w=iN (S.T g.l) c _ w;rw[htx,aK];refine Iz hHV' (fun f hf=>(r10 f hf).2) hwn ?_;have:=bW hwn;rw[<-r9,aK]at this;exact this
  ·rw[hG]at hx;rcases bA.1 hx with q | q
   ·rw[eD,px (h.wf.nl x (mem_erase q) v hv)];exact h.nd x (mem_erase q) v hv
   ·rw[En r13 x q]at hv;cases hv
 ·have hlen:S'.D.length=S.D.length+E.length:=by rw[eD,au]
  have hvs:fz (PQ (isVar S)) (S.T g.l):=h.wf.FU gw.ll;rw[htx]at r2 hul hvs;have hans:∀{t:Nat} (ht:t<rs.length) {c:dE},cls[jp (eW cls tx us.length cls.length) (jX p (eW cls tx us.length cls.length).length) t]?=some c->((eK S.D.length (.n 1 tx 0 us) c).1=rs[t].1/\rs[t].1≠1/\∀v,v∈rs[t].2↔v∈(eK S.D.length (.n 1 tx 0 us) c).2)/\∀v∈rs[t].2,isVar S v:=fun {t} ht {c} hc=>by have q:=p7 r2 hul hok ht hc;refine⟨q,fun v hv=> ?_⟩;exact(BO (r:=fun k=>k) (P:=isVar S) (l1:=S.D.length) (l2:=S.D.length) (fun i j _ _ e=>e) (fun k hk=>hk.1) (fun k hk=>hk.1) hvs (hok c (bK hc)).ts).2.2 v ((q.2.2 v).1 hv)
  have hnd:∀v∈fE rs,isVar S v:=fun v hv=>by obtain⟨t,ht,_,h2⟩:=sT.1 hv;obtain⟨c,hc⟩:=wK (cls:=cls) (tx:=tx) (m:=us.length) (bg:=jX p (eW cls tx us.length cls.length).length) (t:=t) (by omega);exact(hans ht hc).2 v h2
  refine⟨⟨by show S.D.length<=S'.D.length;omega,_,hai,aw (aw (aw (aw (aw ⟨_,_,⟨hs,tx,us,htx,hnt,rfl,rfl⟩,rfl,fun t c ht hc=> ?_,?_,?_,?_⟩))))⟩,hwf',fun x hx v hv=> ?_,fun v hv=>by have:=h.vl v hv;omega⟩
  ·show (eK S.D.length (S.T g.l) c).1≠1;rw[htx];obtain⟨⟨q1,q2,_⟩,_⟩:=hans (by omega) hc;rw[q1];exact q2
  ·have r3':=r3;unfold pL at r3';rw[pS]at r3';obtain⟨r,q1,q2⟩:=r3';obtain⟨t,ht,rfl⟩:=bG q1;obtain⟨c,hc⟩:=wK (cls:=cls) (tx:=tx) (m:=us.length) (bg:=jX p (eW cls tx us.length cls.length).length) (t:=t) (by omega);refine⟨t,c,by omega,hc,?_⟩;show (eK S.D.length (S.T g.l) c).1=3;rw[htx,(hans ht hc).1.1];simpa using q2
  ·show V.map S'.T=V.map S.T;exact bt fun v hv=>r6 v (h.vl v hv)
  ·show S'.G.map _=(S.G.map _).set i _;rw[hG,mL,eF];have e1:S.G.map (iP S.fr S'.T)=S.G.map (iP S.fr S.T):=bt fun x hx=>Ep r6 (h.wf.gw x hx);rw[e1];congr 1;have hrd:=(rE S.fr {g with wt:=true,no:=oo,nc:=oc,nd:=fE rs}).2 ⟨rfl,fun v hv=>(hnd v hv).2.1⟩;unfold iP;dsimp only;rw[hrd,r6 g.l gw.ll,lL (f:=id) rfl r6 gw.rc,lL (f:=id) rfl r6 gw.zc];dsimp only[id];congr 1;funext v;apply mI;constructor
   ·rintro⟨_,q⟩;obtain⟨t,ht,q1,q2⟩:=sT.1 q;obtain⟨c,hc⟩:=wK (cls:=cls) (tx:=tx) (m:=us.length) (bg:=jX p (eW cls tx us.length cls.length).length) (t:=t) (by omega);have k:=(hans ht hc).1;refine⟨t,c,by omega,hc,?_,?_⟩
    ·show (eK S.D.length (S.T g.l) c).1=3;rw[htx,k.1];exact q1
    ·show v∈(eK S.D.length (S.T g.l) c).2;rw[htx];exact(k.2.2 v).1 q2
   ·rintro⟨t,c,ht,hc,q1,q2⟩;have ht':t<rs.length:=by omega
    have k:=(hans ht' hc).1;have q1':(eK S.D.length (S.T g.l) c).1=3:=q1;have q2':v∈(eK S.D.length (S.T g.l) c).2:=q2;rw[htx]at q1' q2';rw[k.1]at q1';exact⟨rfl,sT.2 ⟨t,ht',q1',(k.2.2 v).2 q2'⟩⟩
  ·rw[hG]at hx;rcases cQ hx with q | q
   ·rw[eD,px (h.wf.nl x q v hv)];exact h.nd x q v hv
   ·rw[q]at hv;have:=hnd v hv;rw[eD,px this.1];exact this.2.2
end Go.Proofs.YthfjnfcekeknlabGreatDoor
namespace Go.Proofs.YthfjnfcekeknlabGreatDoor
open Go.RowKit af
structure PI (w:World) (cls:List af.dE) (clo:Option Addr) (items:List dq) (N:List (List UInt8)) (o:Option Addr) (n:Nat) (script:List (Int×Int)) (so:Option Addr):Prop where
 cl:ek w clo cls.length cls
 ok:∀c∈cls,pV c/\∀x∈c.goals,ml x
 cc:cls.length<=12
 it:dV N w o n items
 gl:∀x∈items,ml x
 il:items.length<=6
 nm:∃M,N=bE [] items++M
 nl:N.length<=100
 sz:∀x∈items,∀η:List UInt8->af.U,(∀y∈bE [] items,af.size (η y)=1)->af.size (fb η 8 x.left)<=300/\(∀r,x.right=some r->af.size (fb η 8 r)<=300)/\(∀z,x.last=some z->af.size (fb η 8 z)<=300)
 sc:tU w so script
 sl:script.length<=100
 sr:∀p∈script,(-9223372036854775808<=p.1/\p.1<=9223372036854775807)/\(-9223372036854775808<=p.2/\p.2<=9223372036854775807)
 pw:Pow w
theorem LI (fr:Nat->Nat) (G:List Gl):kw fr G=1\/kw fr G=2\/kw fr G=3:=by
 unfold kw;split
 ·exact ay rfl
 ·split
  ·exact aw (ay rfl)
  ·exact aw (aw rfl)
theorem QS.res {w:World} {cls:List af.dE} {clo:Option Addr} {clc:Nat} {F:List Nat} {vo:Option Addr} {vc:Nat} {script:List (Int×Int)} {S0:iQ} {j:Nat} {S:iQ} {L:List Int} {lo:Option Addr} {lc:Nat} {nO:Option Addr} {nC:Nat} {po:Option Addr} {pc:Nat} {wr:World} (h:QS w cls clo clc F vo vc script S0 j S L lo lc nO nC po pc wr) (hpw:Pow w) (hF:F.length<=100) (hj:j=script.length\/fD S.fr S.G S.G.length=[]):
 Calls Tryz.prog 39 #[.pointer (some ⟨w.heap.size+1,0,none⟩)] (wr.setCell ⟨w.heap.size+1,5,none⟩ (.int .i64 (kw S.fr S.G))) fun e w'=>∃(xo:Option Addr) (xc:Nat) (go:Option Addr) (gc:Nat) (yo:Option Addr) (yc:Nat),e= .returned (.agg #[.int .i64 (kw S.fr S.G),.slice lo L.length lc,.slice xo F.length xc,.slice go S.G.length gc,.slice yo S.G.length yc])/\JO cls F script S0 w.heap.size e w'/\Below w.heap.size w w'/\w'.heap[w.heap.size]?=some (.cells #[.int .i64 0,.slice none 0 0,.slice none 0 0,.slice none 0 0,.slice none 0 0] 29 (0,0))/\∀vs:List Value,vs.length=5->JO cls F script S0 w.heap.size e (((((w'.setCell ⟨w.heap.size,0,none⟩ (vs[0]?.getD (.int .i64 0))).setCell ⟨w.heap.size,1,none⟩ (vs[1]?.getD (.int .i64 0))).setCell ⟨w.heap.size,2,none⟩ (vs[2]?.getD (.int .i64 0))).setCell ⟨w.heap.size,3,none⟩ (vs[3]?.getD (.int .i64 0))).setCell ⟨w.heap.size,4,none⟩ (vs[4]?.getD (.int .i64 0))):=by
 have hm:=h.ma;have hbe:=h.be.setCell (p:=⟨w.heap.size+1,5,none⟩) (bS _) (.int .i64 (kw S.fr S.G));have kT:∀{k:Nat} {ys:Array Value} {Y:TypeId},wr.heap[k]?=some (.cells ys Y (0,0))->Y≠88->(wr.setCell ⟨w.heap.size+1,5,none⟩ (.int .i64 (kw S.fr S.G))).heap[k]?=wr.heap[k]?:=fun {k ys Y} hk h1=>b6 _ _ _ _ (fun e=>by rw[e,hm.mc.st.blk]at hk;simp only[aM,aR]at hk;exact h1 hk.2.1.symm);have kR:∀{b n cap sz:Nat} {Y:TypeId} {o:Option Addr} {zs:List Value},wr.ownsRow b Y sz (.slice o n cap) n zs->Y≠88->(wr.setCell ⟨w.heap.size+1,5,none⟩ (.int .i64 (kw S.fr S.G))).ownsRow b Y sz (.slice o n cap) n zs:=fun {b n cap sz Y o zs} ho h1=>aO ho fun k q=>by obtain⟨cur,hc⟩:=bL ho (bP q);exact kT hc h1
 have hmc:jh (wr.setCell ⟨w.heap.size+1,5,none⟩ (.int .i64 (kw S.fr S.G))) (w.heap.size+1) (DY clo cls.length clc nO S.D.length nC vo F.length vc po S.G.length pc lo L.length lc (kw S.fr S.G)) S.D nO nC S.fr S.G po pc:=⟨⟨bB hm.mc.st.blk 5 (.int .i64 (kw S.fr S.G)),rfl,kR hm.mc.st.own (by decide),hm.mc.st.ty⟩,hm.mc.ok,rfl,kR hm.mc.fp (by decide),fun g hg=>kR (hm.mc.pf g hg) (by decide),hm.mc.DT,hm.mc.nl⟩;have hlg:=kR hm.lg (by decide);have hzb:=(kT h.zb (by decide)).trans h.zb;refine(EU _ _ cls clo clc F vo vc L lo lc S nO nC po pc (kw S.fr S.G) hmc hm.to (fun _=>True) (hm.ar.keep fun g _ _ hg=>⟨(kT hg (by decide)).trans hg,trivial⟩) (kR hm.vr (by decide)) hm.vl hm.vb hm.tb hm.gw (hpw.below hbe) (LI _ _) hF h.gl (fun v hv=>by have:=h.sm.1 v hv;omega) (fun g hg x hx hne=>by have:=h.sm.2 g hg x hx hne;omega)).mono ?_;rintro e w' ⟨xo,xc,go,gc,yo,yc,rfl,h1,h2,h3,h4,h5⟩;have hsz:w.heap.size<=(wr.setCell ⟨w.heap.size+1,5,none⟩ (.int .i64 (kw S.fr S.G))).heap.size:=hbe.size;have hszz:w.heap.size<(wr.setCell ⟨w.heap.size+1,5,none⟩ (.int .i64 (kw S.fr S.G))).heap.size:=aD hzb;have hlow:∀k,rowOf lo k->w.heap.size<k:=fun k q=>by have q1:=h.Aq k (aw (aw q));have q2:k≠w.heap.size:=fun e=>cm hm.lg h.zb (by decide) (e ▸ q);omega
 have hlg':w'.ownsRow w.heap.size 3 1 (.slice lo L.length lc) L.length (L.map jI):=by
  have q:=aO hlg fun k q=>h5.block k (hlg.lt k q).2;refine⟨q.1,?_⟩;rcases q.2 with r | ⟨g,cap,cur,r1,r2,r3⟩
  ·exact ay r
  ·refine aw ⟨g,cap,cur,r1,?_,r3⟩;simp only[aS]at r1;exact mJ (hlow g ⟨_,r1.1,rfl⟩)
 refine⟨xo,xc,go,gc,yo,yc,rfl,?_,hbe.trans (h5.mono hsz),(h5.block _ hszz).trans hzb,fun vs _=> ?_⟩
 ·exact⟨j,S,L,lo,lc,h.ru,ay ⟨hj,xo,xc,go,gc,yo,yc,rfl,hlg',dh h1 hsz,dh h2 hsz,dh h3 hsz,h4⟩⟩
 ·have kk:∀k,k≠w.heap.size->(((((w'.setCell ⟨w.heap.size,0,none⟩ (vs[0]?.getD (.int .i64 0))).setCell ⟨w.heap.size,1,none⟩ (vs[1]?.getD (.int .i64 0))).setCell ⟨w.heap.size,2,none⟩ (vs[2]?.getD (.int .i64 0))).setCell ⟨w.heap.size,3,none⟩ (vs[3]?.getD (.int .i64 0))).setCell ⟨w.heap.size,4,none⟩ (vs[4]?.getD (.int .i64 0))).heap[k]?=w'.heap[k]?:=fun k q=>by
   rw[b6 _ _ _ _ q,b6 _ _ _ _ q,b6 _ _ _ _ q,b6 _ _ _ _ q,b6 _ _ _ _ q]
  exact⟨j,S,L,lo,lc,h.ru,ay ⟨hj,xo,xc,go,gc,yo,yc,rfl,aO hlg' fun k q=>kk k (by have:=hlow k (bP q);omega),aO (dh h1 hsz) fun k q=>kk k (by have:=(h1.lt k q).1;omega),aO (dh h2 hsz) fun k q=>kk k (by have:=(h2.lt k q).1;omega),aO (dh h3 hsz) fun k q=>kk k (by have:=(h3.lt k q).1;omega),h4⟩⟩
theorem my.res {w:World} {LL:List Int} {lo:Option Addr} {lc:Nat} {en:Int} {wr:World} (h:my wr (w.heap.size+1) LL lo lc en) (hen:en=4\/en=5\/en=6) (hbe:Below w.heap.size w wr) (hzb:wr.heap[w.heap.size]?=some (.cells #[.int .i64 0,.slice none 0 0,.slice none 0 0,.slice none 0 0,.slice none 0 0] 29 (0,0))) (hlo:∀k,rowOf lo k->w.heap.size<=k):
 Calls Tryz.prog 39 #[.pointer (some ⟨w.heap.size+1,0,none⟩)] wr fun e w'=>e= .returned (.agg #[.int .i64 en,.slice lo LL.length lc,.slice none 0 0,.slice none 0 0,.slice none 0 0])/\Below w.heap.size w w'/\w'.heap[w.heap.size]?=some (.cells #[.int .i64 0,.slice none 0 0,.slice none 0 0,.slice none 0 0,.slice none 0 0] 29 (0,0))/\w'.ownsRow (w.heap.size+1) 3 1 (.slice lo LL.length lc) LL.length (LL.map jI):=by
 refine(Ck wr _ LL lo lc en h hen).mono ?_;rintro e w' ⟨rfl,hb⟩;obtain⟨cs,_,_,_,_,ho⟩:=h;refine⟨rfl,hbe.trans (hb.mono hbe.size),(hb.block _ (aD hzb)).trans hzb,?_⟩;have q:=aO ho fun k q=>hb.block k (ho.lt k q).2;refine⟨q.1,?_⟩;rcases q.2 with r | ⟨g,cap,cur,r1,r2,r3⟩
 ·exact ay r
 ·refine aw ⟨g,cap,cur,r1,?_,r3⟩;simp only[aS]at r1;have h1:=hlo g ⟨_,r1.1,rfl⟩;have h2:g≠w.heap.size:=fun e=>cm ho hzb (by decide) ⟨_,r1.1,e.symm⟩;omega
theorem Mb.from {mb:Nat} {cls:List af.dE} {clo:Option Addr} {clc:Nat} {V:List Nat} {vo:Option Addr} {vc:Nat} {L:List Int} {lo:Option Addr} {S:iQ} {nO po:Option Addr} {i:Nat} {p:Int} {w w1 w':World} (hb:Below w.heap.size w w1) (h:Mb mb cls clo clc V vo vc L lo S nO po i p w1 w'):Mb mb cls clo clc V vo vc L lo S nO po i p w w':=by
 obtain⟨lo',lc',⟨z,S',nO',nC',po',pc',h1,h2,h3,h4,h5⟩ | ⟨z,S',h1,h2,h3,h4⟩ | ⟨en,h1,h2,h3,h4⟩⟩:=h
 ·exact⟨lo',lc',ay ⟨z,S',nO',nC',po',pc',h1,h2,h3,h4,(bZ.aX hb).trans h5⟩⟩
 ·exact⟨lo',lc',aw (ay ⟨z,S',h1,h2,h3,(bZ.aX hb).trans h4⟩)⟩
 ·exact⟨lo',lc',aw (aw ⟨en,h1,h2,h3,(bZ.aX hb).trans h4⟩)⟩
theorem Kw (fr:Nat->Nat) (G:List Gl) (j:Nat):∀i∈fD fr G j,i<G.length:=fun i hi=>by
 have:=(gL.1 hi).2;cases q:G[i]? with
 | none=>rw[q]at this;cases this
 | some g=>exact(bl.1 q).1
section
variable {w:World} {cls:List af.dE} {clo:Option Addr} {clc:Nat} {F:List Nat} {vo:Option Addr} {vc:Nat} {script:List (Int×Int)} {S0:iQ} {j:Nat} {S:iQ} {L:List Int} {lo:Option Addr} {lc:Nat} {nO:Option Addr} {nC:Nat} {po:Option Addr} {pc:Nat} {wr:World}
theorem QS.frame (h:QS w cls clo clc F vo vc script S0 j S L lo lc nO nC po pc wr) {w':World} {R':Nat->Prop} (hf:bZ (fun k=>k=w.heap.size+1\/rowOf nO k\/rowOf po k\/rowOf lo k) R' wr w'):Below w.heap.size w w'/\(∀k,R' k->w.heap.size<=k)/\w'.heap[w.heap.size]?=some (.cells #[.int .i64 0,.slice none 0 0,.slice none 0 0,.slice none 0 0,.slice none 0 0] 29 (0,0)):=by
 have hr:∀k,(k=w.heap.size+1\/rowOf nO k\/rowOf po k\/rowOf lo k)->w.heap.size<=k:=fun k q=>by
  rcases q with e | e
  ·omega
  ·exact h.Aq k e
 refine⟨h.be.trans (hf.down h.be.size hr),fun k q=> ?_,?_⟩
 ·rcases hf.row k q with e | e
  ·exact hr k e
  ·exact aW h.be.size e
 ·refine(hf.block _ (aD h.zb) ?_).trans h.zb;rintro(e | e | e | e)
  ·omega
  ·exact cm h.ma.mc.st.own h.zb (by decide) e
  ·exact cm h.ma.mc.fp h.zb (by decide) e
  ·exact cm h.ma.lg h.zb (by decide) e
theorem QS.next (h:QS w cls clo clc F vo vc script S0 j S L lo lc nO nC po pc wr) {pg pk z:Int} {i:Nat} (hs:script[j]?=some (pg,pk)) (hi:(fD S.fr S.G S.G.length)[jX pg (fD S.fr S.G S.G.length).length]?=some i) {S':iQ} (hg:NX cls S S' i pk z) (hl:qt F S'=false) {w':World} {lo':Option Addr} {lc':Nat} {nO':Option Addr} {nC':Nat} {po':Option Addr} {pc':Nat} (hm:ir w' (w.heap.size+1) cls clo clc F vo vc (L++[z]) lo' lc' S' nO' nC' po' pc') (hd:S'.D.length<=S.D.length+1100000) (hf:bZ (fun k=>k=w.heap.size+1\/rowOf nO k\/rowOf po k\/rowOf lo k) (fun k=>k=w.heap.size+1\/rowOf nO' k\/rowOf po' k\/rowOf lo' k) wr w'):QS w cls clo clc F vo vc script S0 (j+1) S' (L++[z]) lo' lc' nO' nC' po' pc' w':=by obtain⟨hb,hr,hz⟩:=h.frame hf;obtain⟨hsm,hgl⟩:=CH hm hl;exact⟨.step h.ru hs hi hg hl,hm,hsm,by omega,by rw[au,h.ll];rfl,by have:=h.dl;omega,hb,fun k q=>hr k (aw q),hz⟩
end
theorem EX (w:World) (cls:List af.dE) (clo:Option Addr) (clc:Nat) (items:List dq) (N:List (List UInt8)) (o:Option Addr) (n c:Nat) (script:List (Int×Int)) (so:Option Addr) (sc:Nat) (h:PI w cls clo items N o n script so):
 Calls Tryz.prog 22 #[.slice clo cls.length clc,.slice o n c,.slice so script.length sc] w fun e w'=>∃(F:List Nat) (S0:iQ),JN N items F S0/\JO cls F script S0 w.heap.size e w'/\Below w.heap.size w w':=by
 have hb1:=((al w.heap.size w).alloc Qw (.cells #[.int .i64 0,.slice none 0 0,.slice none 0 0,.slice none 0 0,.slice none 0 0] 29)).alloc (by simp) (.cells #[.slice clo cls.length clc,.slice none 0 0,.slice none 0 0,.slice none 0 0,.slice none 0 0,.int .i64 0] 88);have hb2:=hb1.alloc hb1.size (.cells #[.slice none 0 0] 90);have hmb:=aQ (aB (w.alloc (.cells #[.int .i64 0,.slice none 0 0,.slice none 0 0,.slice none 0 0,.slice none 0 0] 29)) (.cells #[.slice clo cls.length clc,.slice none 0 0,.slice none 0 0,.slice none 0 0,.slice none 0 0,.int .i64 0] 88)) (.cells #[.slice none 0 0] 90);rw[aF]at hmb;have hzb:=aQ (aQ (aB w (.cells #[.int .i64 0,.slice none 0 0,.slice none 0 0,.slice none 0 0,.slice none 0 0] 29)) (.cells #[.slice clo cls.length clc,.slice none 0 0,.slice none 0 0,.slice none 0 0,.slice none 0 0,.int .i64 0] 88)) (.cells #[.slice none 0 0] 90);have hcb:=aB ((w.alloc (.cells #[.int .i64 0,.slice none 0 0,.slice none 0 0,.slice none 0 0,.slice none 0 0] 29)).alloc (.cells #[.slice clo cls.length clc,.slice none 0 0,.slice none 0 0,.slice none 0 0,.slice none 0 0,.int .i64 0] 88)) (.cells #[.slice none 0 0] 90);simp only[aF]at hcb;have hsz2:(((w.alloc (.cells #[.int .i64 0,.slice none 0 0,.slice none 0 0,.slice none 0 0,.slice none 0 0] 29)).alloc (.cells #[.slice clo cls.length clc,.slice none 0 0,.slice none 0 0,.slice none 0 0,.slice none 0 0,.int .i64 0] 88)).alloc (.cells #[.slice none 0 0] 90)).heap.size=w.heap.size+3:=by simp
 generalize hW:(((w.alloc (.cells #[.int .i64 0,.slice none 0 0,.slice none 0 0,.slice none 0 0,.slice none 0 0] 29)).alloc (.cells #[.slice clo cls.length clc,.slice none 0 0,.slice none 0 0,.slice none 0 0,.slice none 0 0,.int .i64 0] 88)).alloc (.cells #[.slice none 0 0] 90))=W2 at*;have hst:fS W2 (w.heap.size+1) 1 (DY clo cls.length clc none 0 0 none 0 0 none 0 0 none 0 0 0) 88 [] none 0:=⟨hmb,rfl,bD _ _ _ _,by decide⟩;have hms:lU (fun _=>True) W2 (w.heap.size+1) 1 (DY clo cls.length clc none 0 0 none 0 0 none 0 0 none 0 0 0) 88 (w.heap.size+1+1) [] [] none 0 none 0 id (fun n=> .v ([],n)):=⟨⟨hst,⟨hcb,bD _ _ _ _⟩,by decide,by decide,(fun d hd=>by cases hd)⟩,qm,uR,(fun v hv=>by cases hv)⟩;have hmc:jh W2 (w.heap.size+1) (DY clo cls.length clc none 0 0 none 0 0 none 0 0 none 0 0 0) [] none 0 id [] none 0:=⟨hst,qm,rfl,bD _ _ _ _,(fun g hg=>by cases hg),(fun g hg=>by cases hg),(fun g hg=>by cases hg)⟩;have IJ:=ah (A0 W2 (w.heap.size+1) _ (w.heap.size+1+1) [] [] none 0 none 0 id _ (fun _=>True) [] none 0 N [] items o n c hms hmc (fun g hg=>by cases hg) (fun _ _=>trivial) (h.it.keep (cK.below hb2)) (fun x hx=>(h.gl x hx).ok) rfl h.nm (by have:=h.nl;omega) (by have:=h.il;omega) (by simp) (by simp));have HQ:=ah h;have HB2:=ah hb2;have HZB:=ah hzb;have HMS:=ah hms;have HMC:=ah hmc;have hsl:=h.sl;clear h hb1 hb2 hmb hzb hcb hst hms hmc;go_enter Tryz.func22,Tryz.ntmps22;go_wp2_with fail;refine(ae IJ).mono ?_;rintro e w3 ⟨rfl,E,F,no',nc',vo',vc',T',Gn,po',pc',hjo⟩;have hrows:∀k,vg (w.heap.size+1) no' (w.heap.size+1+1) vo' po' k->w.heap.size<=k:=fun k q=>by
  rcases hjo.fg.row k q with((e | ⟨_,e,_⟩ | e | ⟨_,e,_⟩) | ⟨_,e,_⟩) | e
  ·omega
  ·cases e
  ·omega
  ·cases e
  ·cases e
  ·omega
 have hdown:Below w.heap.size w w3:=(ae HB2).trans (hjo.fg.down (by omega) fun k q=>by
  rcases q with(e | ⟨_,e,_⟩ | e | ⟨_,e,_⟩) | ⟨_,e,_⟩
  ·omega
  ·cases e
  ·omega
  ·cases e
  ·cases e)
 have hz3:w3.heap[w.heap.size]?=some (.cells #[.int .i64 0,.slice none 0 0,.slice none 0 0,.slice none 0 0,.slice none 0 0] 29 (0,0)):=(hjo.fg.block _ (aD (ae HZB)) (fun q=>by
  rcases q with(e | ⟨_,e,_⟩ | e | ⟨_,e,_⟩) | ⟨_,e,_⟩
  ·omega
  ·cases e
  ·omega
  ·cases e
  ·cases e)).trans (ae HZB)
 have hcl3:ek w3 clo cls.length cls:=(gE.below hdown).cls (ae HQ).cl;have hma:=ir.start hjo hcl3 (ae HQ).gl;have hms3:=hjo.ms;have hmc3:=hjo.mc;have hnd:=hjo.nd;have hnv:=hjo.nv;have hln:=hjo.ln;have hgl:=hjo.gl;have hel:=hjo.el;simp only[cG,ct]at hms3 hmc3 hnd hnv hln hgl;have s0:=aN hms3.ad.sc.blk 0;have sz0:=aD hms3.ad.sc.blk;have m2:w3.cell? ⟨w.heap.size+1,2,none⟩=some (.slice none 0 0):=aN hmc3.st.blk 2;have mx2:=bI hmc3.st.blk 2;have mz3:=aD hmc3.st.blk;simp only[aE,aq]at s0;have hvar:∀f∈F,T' f= .v ([],f):=fun f hf=>by have:=mX (D:=[]) (E:=E) (F:=F) (fr:=id) (T':=T') (by simpa using hmc3.ok) (by simpa using hms3.to) (by simpa using hnd) (by simpa using hnv) f hf;exact this.2.2
 have hPS:JN N items F ⟨E,id,T',Gn⟩:=⟨rfl,hnd,hnv,hln,hms3.lt,hms3.to,hmc3.ok,hgl⟩;have hsm:O7 F ⟨E,id,T',Gn⟩:=by
  refine⟨fun v hv=> ?_,fun g hg x hx hne=> ?_⟩
  ·show af.size (T' v)<=300;rw[hvar v hv];simp[af.size]
  ·change g∈Gn at hg;show af.size (T' x.toNat)<=300;obtain⟨j,hj,rfl⟩:=bG hg;have hlj:j<items.length:=by have:=hgl.length;omega
   have hg1:=hgl.at j hlj hj;have hxm:items[j]∈items:=aL hlj;obtain⟨M,hM⟩:=(ae HQ).nm;have hs:=(ae HQ).sz _ hxm (ej T' F N) (fun y hy=>by obtain⟨m,hm,he⟩:=tH (T:=T') hy hM hln;rw[he,hvar m hm];simp[af.size]);have hgo:=(ae HQ).gl _ hxm;rcases hx with rfl | rfl | rfl
   ·have e0:((Gn[j].l:Int)).toNat=Gn[j].l:=by simp
    rw[e0,hg1.tl];exact hs.1
   ·by_cases q:items[j].sign=[]
    ·exact absurd (hg1.r0 q) hne
    ·obtain⟨r,hr,_⟩:=hgo.ok.r1 q;obtain⟨m,k1,k2,k3⟩:=hg1.r1 r hr;rw[k1];have e0:((m:Int)).toNat=m:=by simp
     rw[e0,k3];exact hs.2.1 r hr
   ·by_cases q:items[j].op=[]
    ·exact absurd (hg1.z0 q) hne
    ·obtain⟨r,hr,_⟩:=hgo.ok.z1 q;obtain⟨m,k1,k2,k3⟩:=hg1.z1 r hr;rw[k1];have e0:((m:Int)).toNat=m:=by simp
     rw[e0,k3];exact hs.2.2 r hr
 have hgn:Gn.length<=6:=by have:=hgl.length;have:=(ae HQ).il;omega
 have hFl:F.length<=100:=by obtain⟨M,hM⟩:=(ae HQ).nm;have h1:=(ae HQ).nl;rw[hM,au]at h1;omega
 have HST:=ah (show PU w cls clo clc F vo' vc' script ⟨E,id,T',Gn⟩ script.length (.int .i64 0) (w3.setCell ⟨w.heap.size+1,2,none⟩ (.slice vo' F.length vc'))from by
  refine⟨0,⟨E,id,T',Gn⟩,[],none,0,no',nc',po',pc',by omega,rfl,⟨.start,hma,hsm,by show Gn.length<=100;omega,rfl,?_,hdown.setCell (bS _) _,fun k q=> ?_,(b6 _ _ _ _ (by simp)).trans hz3⟩⟩
  ·show E.length<=_;have:=(ae HQ).il;have:items.length*19683<=6*19683:=bY _ this;omega
  ·rcases q with q | q | ⟨_,q,_⟩
   ·exact hrows k (ay (aw (ay q)))
   ·exact hrows k (aw q)
   ·cases q)
 have HPS:=ah hPS;clear hjo hrows hdown hz3 hcl3 hma hms3 hmc3 hnd hnv hln hgl hel hvar hPS hsm hgn IJ;generalize (⟨E,id,T',Gn⟩:iQ)=S0 at*;go_wp2_with fail;go_loopg [22] script.length (fun k iv wr=>PU w cls clo clc F vo' vc' script S0 k iv wr)
 case atStart=>exact ae HST
 case round=>
  clear HST s0 sz0 m2 mx2 mz3;obtain⟨j,S,L,lo,lc,nO,nC,po,pc,hkj,rfl,hqs⟩:=hrel;by_cases hlt:j<script.length
  ·obtain⟨g,off,hso,gz0,hcell⟩:=(ae HQ).sc (fun q=>by rw[q]at hlt;simp at hlt);subst hso;obtain⟨c0,c1⟩:=hcell j hlt;have d0:=(hqs.be.cell (p:=⟨g,off+j*2,none⟩) gz0).trans c0;have d1:=(hqs.be.cell (p:=⟨g,off+j*2+1,none⟩) gz0).trans c1;have hsr:=(ae HQ).sr _ (aL hlt);have hsj:script[j]?=some (script[j].1,script[j].2):=by rw[aj hlt]
   have gz:g<wr.heap.size:=aJ gz0 hqs.be.size;have i0:(0:Int)<=(j:Int):=by omega
   have i1:(j:Int)<(script.length:Int):=by omega
   generalize script[j].1=pg at*;generalize script[j].2=pk at*;have hba:=(al wr.heap.size wr).alloc Qw (.cells #[.int .i64 pg,.int .i64 pk] 49);have hqa:=hqs.below hba;have hpk:=aB wr (.cells #[.int .i64 pg,.int .i64 pk] 49);have hrl:=Au S.fr S.G S.G.length;have hgl:=hqs.gl;have IR:=ah (vh _ _ _ S.D nO nC S.fr S.G po pc hqa.ma.mc (by omega));have HQA:=ah hqa;have HPK:=ah hpk;have HKJ:=ah hkj;have HLT:=ah hlt;have HSJ:=ah hsj;have HSR:=ah hsr;have hjl:j<=100:=by omega
   clear hqs hkj hlt hsj hsr hcell c0 c1 hba hqa hpk;go_wp2_with fail;refine(ae IR).mono ?_;rintro e w5 ⟨oo,oc,rfl,how,hb5⟩;have hq5:=(ae HQA).below hb5;have hpk5:=(hb5.block _ (aD (ae HPK))).trans (ae HPK);have k0:=aN hpk5 0;have k1:=aN hpk5 1;have kz:=aD hpk5;simp only[aE,aq,aA]at k0 k1;by_cases hr0:fD S.fr S.G S.G.length=[]
   ·have t0:(((fD S.fr S.G S.G.length).length:Int) == 0)=true:=by rw[hr0];rfl
    have t1:((fD S.fr S.G S.G.length).length == 0)=true:=by rw[hr0];rfl
    have IFN:=ah (vI w5 _ _ S.D nO nC S.fr S.G po pc hq5.ma.mc (by omega) rfl);have HQ5:=ah hq5;have HR0:=ah hr0;clear hq5 hpk5 how hb5 IR hr0;go_wp2_with fail;refine(ae IFN).mono ?_;rintro e w6 ⟨rfl,W,hbW,rfl⟩;have IRS:=ah (((ae HQ5).below hbW).res (ae HQ).pw hFl (aw (ae HR0)));clear hbW IFN;go_wp2_with fail;refine(ae IRS).mono ?_;rintro e w7 ⟨xo,xc,go,gc,yo,yc,rfl,hpq,hbe7,hz7,hpv⟩;have z0:=aN hz7;have zx:=bI hz7;have zz:=aD hz7;have HPV:=ah (hpv [.int .i64 (kw S.fr S.G),.slice lo L.length lc,.slice xo F.length xc,.slice go S.G.length gc,.slice yo S.G.length yc] rfl);have HBE7:=ah hbe7;clear hpq hbe7 hz7 hpv IRS;go_wp2_with fail;refine aI (v:= .agg #[.int .i64 (kw S.fr S.G),.slice lo L.length lc,.slice xo F.length xc,.slice go S.G.length gc,.slice yo S.G.length yc]) (by simp[results,Tryz.results22,go_sem,z0]) rfl ?_;exact⟨F,S0,ae HPS,ae HPV,(((((ae HBE7).setCell Qw _).setCell Qw _).setCell Qw _).setCell Qw _).setCell Qw _⟩
   ·have hpos:0<(fD S.fr S.G S.G.length).length:=jy.2 hr0
    have hbg:=C3 pg (fD S.fr S.G S.G.length).length hpos;obtain⟨rg,hrg⟩:∃rg,oo=some ⟨rg,0,none⟩:=by
     rcases how.2 with⟨q,q2⟩ | ⟨g,cp,cur,q,_⟩
     ·omega
     ·simp only[aS]at q;exact⟨g,q.1⟩
    subst hrg;have rz:=(how.lt rg rfl).2;have hrq:w5.cell? ⟨rg,jX pg (fD S.fr S.G S.G.length).length,none⟩=some (.int .i64 ((fD S.fr S.G S.G.length)[jX pg (fD S.fr S.G S.G.length).length]:Int)):=by rw[how.cellAt _ (by omega),bC,aj hbg];rfl
    have hri:(fD S.fr S.G S.G.length)[jX pg (fD S.fr S.G S.G.length).length]?=some (fD S.fr S.G S.G.length)[jX pg (fD S.fr S.G S.G.length).length]:=aj hbg;have hil:=Kw S.fr S.G S.G.length _ (aL hbg);have hsr:=ae HSR;have IC:=ah (fun W=>vM W pg (fD S.fr S.G S.G.length).length (by omega) hsr.1.1 hsr.1.2);generalize (fD S.fr S.G S.G.length)[jX pg (fD S.fr S.G S.G.length).length]=ii at*;have HRI:=ah hri;generalize hbq:jX pg (fD S.fr S.G S.G.length).length=bq at*;have HBQ:=ah hbq;clear hbq;have t0:(((fD S.fr S.G S.G.length).length:Int) == 0)=false:=by simp;omega
    have t1:((fD S.fr S.G S.G.length).length == 0)=false:=by simp;omega
    have j0:(0:Int)<=(bq:Int):=by omega
    have j1:(bq:Int)<((fD S.fr S.G S.G.length).length:Int):=by omega
    have IST:=ah (fun W (hu:Below w5.heap.size w5 W)=>(Gx W (w.heap.size+1) cls clo clc F vo' vc' L lo lc S nO nC po pc ii pk (hq5.ma.below hu) (ae HQ).ok (ae HQ).cc hil (fun g hg=>by have:=hq5.sm.2 g hg (g.l:Int) (ay rfl) (by omega);simpa using this) hsr.2.1 hsr.2.2 (by have:=hq5.dl;omega) (by omega) (by have:=hq5.ll;omega) (by omega)).mono (fun e w' q=>cP q.1 (q.2.from hu)));have HQ5:=ah hq5;clear hq5 hpk5 how hb5 IR hr0 hri hsr hil hbg hpos;generalize hrn:(fD S.fr S.G S.G.length).length=rn at*;have HRN:=ah hrn;clear hrn;go_wp2_with fail;refine(ae IC _).mono ?_;rintro e w5 ⟨rfl,rfl⟩;go_wp2_with fail;go_region_with (go_at_call 37;refine(ae IST _ (by first | exact Qx | exact Qx.drew | exact Qx.drew.drew | exact Qx.drew.drew.drew)).mono ?_;rintro y w6 ⟨rfl,hst⟩)
    all_goals
     obtain⟨lo',lc',hst⟩:=hst;rcases hst with⟨z,S',nO',nC',po9,pc9,hgo,hlg,hm,hdl,hf⟩ | ⟨z,S',hgo,hlg,hm,hf⟩ | ⟨en,hgo,hen,hm,hf⟩
     ·have hnx:=(ae HQ5).next (ae HSJ) (by rw[ae HRN,ae HBQ];exact ae HRI) hgo hlg hm hdl hf;have f5:w6.cell? ⟨w.heap.size+1,5,none⟩=some (.int .i64 0):=aN hm.mc.st.blk 5;have mz6:=aD hm.mc.st.blk;have HNX:=ah hnx;clear hnx hm hgo hlg hdl hf;go_wp2_with fail;go_roundg (gk - 1)
      case measure=>have:=ae HKJ;have:=ae HLT;omega
      case rel=>exact⟨j+1,S',L++[z],lo',lc',nO',nC',po9,pc9,by have:=ae HKJ;have:=ae HLT;omega,by go_num,ae HNX⟩
     ·have hq5:=ae HQ5;obtain⟨hbe6,hrr,hz6⟩:=hq5.frame hf;have hlo6:∀k,rowOf lo' k->w.heap.size<=k:=fun k q=>hrr k (aw q);clear hrr;have hm0:=hm;obtain⟨cs6,hb6,h66,h46,h56,ho6⟩:=hm;have f5:=(aN hb6 5).trans h56;have mz6:=aD hb6;have t5:(6 == 0)=false:=rfl;have IFE:=ah (tE w6 _ cs6 _ 6 hb6 h56 (by decide));have IRE:=ah (hm0.res (aw (aw rfl)) hbe6 hz6 hlo6);have HRU:=ah hq5.ru;clear hq5 hbe6 hz6 hlo6 hm0 hb6 h66 h46 h56 ho6 hf;have HGO:=ah hgo;have HLG:=ah hlg;clear hgo hlg;go_wp2_with fail;refine(ae IFE).mono ?_;rintro e w6 ⟨rfl,rfl⟩;go_wp2_with fail;refine(ae IRE).mono ?_;rintro e w7 ⟨rfl,hbe7,hz7,hrow7⟩;have z0:=aN hz7;have zx:=bI hz7;have zz:=aD hz7;have HBE7:=ah hbe7;have HROW:=ah hrow7;clear hbe7 hz7 hrow7 IRE IFE;go_wp2_with fail;refine aI (v:= .agg #[.int .i64 6,.slice lo' (L++[z]).length lc',.slice none 0 0,.slice none 0 0,.slice none 0 0]) (by simp[results,Tryz.results22,go_sem,z0]) rfl ?_;refine⟨F,S0,ae HPS,⟨j,S,L,lo',lc',ae HRU,aw ⟨pg,pk,ii,6,z,ae HSJ,by rw[ae HRN,ae HBQ];exact ae HRI,aw ⟨rfl,S',ae HGO,ae HLG⟩,rfl,?_⟩⟩,(((((ae HBE7).setCell Qw _).setCell Qw _).setCell Qw _).setCell Qw _).setCell Qw _⟩;refine dh (aO (ae HROW) fun k q=> ?_) (bS _);have hne:k≠w.heap.size:=by have:=((ae HROW).lt k q).1;omega
      rw[b6 _ _ _ _ hne,b6 _ _ _ _ hne,b6 _ _ _ _ hne,b6 _ _ _ _ hne,b6 _ _ _ _ hne]
     ·have hq5:=ae HQ5;obtain⟨hbe6,hrr,hz6⟩:=hq5.frame hf;have hlo6:∀k,rowOf lo' k->w.heap.size<=k:=fun k q=>hrr k (aw q);clear hrr;have hm0:=hm;obtain⟨cs6,hb6,h66,h46,h56,ho6⟩:=hm;have f5:=(aN hb6 5).trans h56;have mz6:=aD hb6;have t5:(en == 0)=false:=by rcases hen with q | q<;>(rw[q];rfl)
      have IFE:=ah (tE w6 _ cs6 _ en hb6 h56 (by rcases hen with q | q<;>(rw[q];decide)));have IRE:=ah (hm0.res (by rcases hen with q | q;exact ay q;exact aw (ay q)) hbe6 hz6 hlo6);have HRU:=ah hq5.ru;clear hq5 hbe6 hz6 hlo6 hm0 hb6 h66 h46 h56 ho6 hf;have HGO:=ah hgo;have HEN:=ah hen;clear hgo hen;go_wp2_with fail;refine(ae IFE).mono ?_;rintro e w6 ⟨rfl,rfl⟩;go_wp2_with fail;refine(ae IRE).mono ?_;rintro e w7 ⟨rfl,hbe7,hz7,hrow7⟩;have z0:=aN hz7;have zx:=bI hz7;have zz:=aD hz7;have HBE7:=ah hbe7;have HROW:=ah hrow7;clear hbe7 hz7 hrow7 IRE IFE;go_wp2_with fail;refine aI (v:= .agg #[.int .i64 en,.slice lo' (L++[(-2)]).length lc',.slice none 0 0,.slice none 0 0,.slice none 0 0]) (by simp[results,Tryz.results22,go_sem,z0]) rfl ?_;refine⟨F,S0,ae HPS,⟨j,S,L,lo',lc',ae HRU,aw ⟨pg,pk,ii,en,(-2),ae HSJ,by rw[ae HRN,ae HBQ];exact ae HRI,ay ⟨ae HGO,ae HEN,rfl⟩,rfl,?_⟩⟩,(((((ae HBE7).setCell Qw _).setCell Qw _).setCell Qw _).setCell Qw _).setCell Qw _⟩;refine dh (aO (ae HROW) fun k q=> ?_) (bS _);have hne:k≠w.heap.size:=by have:=((ae HROW).lt k q).1;omega
      rw[b6 _ _ _ _ hne,b6 _ _ _ _ hne,b6 _ _ _ _ hne,b6 _ _ _ _ hne,b6 _ _ _ _ hne]
  ·obtain rfl:j=script.length:=by omega
   have hgl:=hqs.gl;have IFN:=ah (vI wr _ _ S.D nO nC S.fr S.G po pc hqs.ma.mc (by omega) rfl);have HQ5:=ah hqs;clear hqs hkj hlt;go_wp2_with fail;refine(ae IFN).mono ?_;rintro e w6 ⟨rfl,W,hbW,rfl⟩;have IRS:=ah (((ae HQ5).below hbW).res (ae HQ).pw hFl (ay rfl));clear hbW IFN;go_wp2_with fail;refine(ae IRS).mono ?_;rintro e w7 ⟨xo,xc,go,gc,yo,yc,rfl,hpq,hbe7,hz7,hpv⟩;have z0:=aN hz7;have zx:=bI hz7;have zz:=aD hz7;have HPV:=ah (hpv [.int .i64 (kw S.fr S.G),.slice lo L.length lc,.slice xo F.length xc,.slice go S.G.length gc,.slice yo S.G.length yc] rfl);have HBE7:=ah hbe7;clear hpq hbe7 hz7 hpv IRS;go_wp2_with fail;refine aI (v:= .agg #[.int .i64 (kw S.fr S.G),.slice lo L.length lc,.slice xo F.length xc,.slice go S.G.length gc,.slice yo S.G.length yc]) (by simp[results,Tryz.results22,go_sem,z0]) rfl ?_;exact⟨F,S0,ae HPS,ae HPV,(((((ae HBE7).setCell Qw _).setCell Qw _).setCell Qw _).setCell Qw _).setCell Qw _⟩
end Go.Proofs.YthfjnfcekeknlabGreatDoor
namespace af
variable {l l1:List bX} {e:Nat×Nat} {a b:Bool} {ys:List dq}
def query (l:List bX):jM (List dq):=match items 5 false true l with
 | .inl e=> .inl e
 | .inr ((ys,_,_),l1)=>if(hd l1).kind=0 then .inr (ys,l1)else bad 2 l1
theorem Ky (h:items 5 false true l= .inl e):query l= .inl e:=by unfold query;rw[h]
theorem DG (h:items 5 false true l= .inr ((ys,a,b),l1)) (hk:(hd l1).kind=0):query l= .inr (ys,l1):=by unfold query;rw[h];dsimp only;rw[aH hk]
theorem Kx (h:items 5 false true l= .inr ((ys,a,b),l1)) (hk:(hd l1).kind≠0):query l=bad 2 l1:=by unfold query;rw[h];dsimp only;rw[aG hk]
end af
namespace Go.Proofs.YthfjnfcekeknlabGreatDoor
open Go.RowKit af
variable {e:Ending} {w' w2:World} {F:List Nat} {b b':Nat} {script:List (Int×Int)} {S0:iQ} {cls:List af.dE}
def Qe (r:jM (List dq)) (w:World) (e:Ending) (w':World):Prop:=∃(o:Option Addr) (n cap er:Nat),e= .returned (.agg #[.slice o n cap,.int .i64 (er:Int)])/\(match r with
 | .inl (er',_)=>er=er'
 | .inr (ys,_)=>er=0/\dV (bE [] ys) w' o n ys)/\Below w.heap.size w w'
theorem Ku (w:World) (s:ByteArray) (hs:96<s.size):
 Calls Tryz.prog 21 #[.string s] w fun e w'=>e= .returned (.agg #[.slice none 0 0,.int .i64 1])/\Below w.heap.size w w':=by
 have hsz:decide (96<(s.size:Int))=true:=by simp;omega
 go_enter Tryz.func21,Tryz.ntmps21;go_wp2_with fail;refine aI (v:= .agg #[.slice none 0 0,.int .i64 1]) (by simp[results,Tryz.results21,go_sem]) rfl ?_;exact⟨rfl,Qx.alloc Qw _⟩
theorem M5 (w:World) (s:ByteArray) (L:List bX) (hs:s.size<=96) (hL:eM s L) (hh:af.hd L=af.next s 0) (hl:L.length<=1000) (hsg:fu w) (h0:0<w.heap.size):
 Calls Tryz.prog 21 #[.string s] w fun e w'=>Qe (query L) w e w':=by
 have hsz:decide (96<(s.size:Int))=false:=by simp;omega
 have HSG:=ah hsg;clear hsg;go_enter Tryz.func21,Tryz.ntmps21;go_wp2_with fail;refine(o9 s 0 _ (by unfold maxLen;omega) (cI _) ((ae HSG).below (Qx.alloc Qw _) h0) (by simp)).mono ?_;rintro e w1 ⟨rfl,hb1⟩;have hsg1:=((ae HSG).below (Qx.alloc Qw (.cells #[.slice none 0 0,.int .i64 0] 56)) h0).below hb1 (by simp);have hw1:w.heap.size<w1.heap.size:=by have:=hb1.size;simp at this;omega
 have HS:=ah (uT hsg1 (by omega) hL hh hl (by omega));have HB0:=ah (aQ ((hb1.block w.heap.size (by simp)).trans (aB w (.cells #[.slice none 0 0,.int .i64 0] 56))) (.cells #[.string s,.int .i64 ((af.next s 0).kind:Int),.int .i64 ((af.next s 0).pos:Int),.string (af.next s 0).text,.slice none 0 0,.int .i64 0] 71));have HBL:=ah ((((al w.heap.size w).alloc Qw (.cells #[.slice none 0 0,.int .i64 0] 56)).trans (hb1.mono (by simp))).alloc (by omega) (.cells #[.string s,.int .i64 ((af.next s 0).kind:Int),.int .i64 ((af.next s 0).pos:Int),.string (af.next s 0).text,.slice none 0 0,.int .i64 0] 71));clear hb1 hsg1 HSG hL hh hl;generalize (af.next s 0).kind=tk at*;generalize (af.next s 0).pos=tp at*;generalize (af.next s 0).text=tt at*;have hrz:(w1.alloc (.cells #[.string s,.int .i64 (tk:Int),.int .i64 (tp:Int),.string tt,.slice none 0 0,.int .i64 0] 71)).heap.size=w1.heap.size+1:=by simp
 have I:=ah (nR _ w1.heap.size s L [] (.slice none 0 0) 0 false true (ae HS));go_wp2_with fail;refine(ae I).mono ?_;generalize hW:w1.alloc (.cells #[.string s,.int .i64 (tk:Int),.int .i64 (tp:Int),.string tt,.slice none 0 0,.int .i64 0] 71)=W at*;generalize hrb:w1.heap.size=rb at*;clear I hW hrb;generalize hr:af.items 5 false true L=r;have HR:=ah hr;clear hr;rcases r with⟨er,pos⟩ | ⟨⟨ys,tb,gb⟩,l1⟩
 ·rintro e w2 ⟨l',ns',nv',rfl,hs2,-,hk2⟩;have hz2:=hk2.size;have b0:=bf hk2 (ae HB0) (by simp;omega);have y0:=aN b0;have x0:=bI b0;have z0:=aD b0;have c5:=hs2.rd.c5;have zr:=hs2.lt;have HBL2:=ah (show Below w.heap.size w w2 from (ae HBL).trans (hk2.below (by have:=(ae HBL).size;omega) (by omega) (by simp;omega)))
  have zw:w.heap.size<=w2.heap.size:=(ae HBL2).size;clear hs2 hk2 b0;go_wp2_with fail;refine aI (v:= .agg #[.slice none 0 0,.int .i64 er]) (by simp[results,Tryz.results21,go_sem,y0,z0,aC]) rfl ?_;rw[Ky (ae HR)];exact⟨none,0,0,er,rfl,rfl,by first | exact(((ae HBL2).setCell Qw _).setCell Qw _).alloc (by simp only[fj];omega) _ | exact(((ae HBL2).alloc (by omega) _).setCell Qw _).setCell Qw _⟩
 ·rintro e w2 ⟨ao,n,cap,ns',nv',e',rfl,⟨hit,hnm⟩,hs2,hk2⟩;have hz2:=hk2.size;have b0:=bf hk2 (ae HB0) (by simp;omega);have zr:=hs2.lt;have HBL2:=ah (show Below w.heap.size w w2 from (ae HBL).trans (hk2.below (by have:=(ae HBL).size;omega) (by omega) (by simp;omega)))
  have zw:w.heap.size<=w2.heap.size:=(ae HBL2).size;have HS2:=ah hs2;have HB02:=ah b0;have HIT:=ah hit;have HNM:=ah hnm;have y0:=aN b0;have x0:=bI b0;have z0:=aD b0;clear hs2 hk2 b0 hit hnm;by_cases hk:(af.hd l1).kind=0
  ·have HW:=ah (DG (ae HR) hk);go_wp2_with fail;refine(Ee _ rb s l1 ns' _ e' ((ae HS2).below (Qx.alloc Qw _)) hk).mono ?_;rintro e w3 ⟨rfl,rfl⟩;clear hk;go_wp2_with fail;refine aI (v:= .agg #[.slice ao n cap,.int .i64 0]) (by simp[results,Tryz.results21,go_sem,y0,z0,aC]) rfl ?_;rw[ae HW];have hne:∀{g:Nat} {cs:Array Value} {Y:TypeId},w2.heap[g]?=some (.cells cs Y (0,0))->Y≠56->g≠w.heap.size:=fun {g cs Y} hg hY e=>by rw[e,ae HB02]at hg;simp only[aM,aR]at hg;exact hY hg.2.1.symm
   refine⟨ao,n,cap,0,rfl,⟨rfl,?_⟩,(((ae HBL2).setCell Qw _).setCell Qw _).alloc (by simp only[fj];omega) _⟩;have hn:dj ns'=bE [] ys:=ae HNM;rw[<-hn];refine(ae HIT).keep ⟨fun g cs hg _=> ?_,fun g cs hg _=> ?_⟩
   ·have q:=hne hg (by decide);rw[aZ _ _ _ (by simp only[fj];exact aD hg),b6 _ _ _ _ q,b6 _ _ _ _ q];exact hg
   ·have q:=hne hg (by decide);rw[aZ _ _ _ (by simp only[fj];exact aD hg),b6 _ _ _ _ q,b6 _ _ _ _ q];exact hg
  ·have HW:=ah (Kx (ae HR) hk);go_wp2_with fail;refine(Ef _ rb s l1 ns' _ e' ((ae HS2).below (Qx.alloc Qw _)) hk).mono ?_;clear hk;rintro e w3 ⟨rfl,hs3,hk3⟩;have b3:=bf hk3 (aQ (ae HB02) _) (by simp;omega);have y3:=aN b3;have x3:=bI b3;have z3:=aD b3;have c5:=hs3.rd.c5;have zr3:=hs3.lt;have HBL3:=ah (show Below w.heap.size w w3 from ((ae HBL2).alloc (ae HBL2).size _).trans (hk3.below (by have:=(ae HBL2).size;simp;omega) (by omega) (by simp;omega)))
   clear hs3 hk3 b3 y0 x0 z0;go_wp2_with fail;refine aI (v:= .agg #[.slice none 0 0,.int .i64 2]) (by simp[results,Tryz.results21,go_sem,y3]) rfl ?_;rw[ae HW];exact⟨none,0,0,2,rfl,rfl,((ae HBL3).setCell Qw _).setCell Qw _⟩
theorem JO.keep (h:JO cls F script S0 b e w') (hb:b'<=b) (hk:∀k,b<=k->w2.heap[k]?=w'.heap[k]?):JO cls F script S0 b' e w2:=by
 have row:∀{Y:TypeId} {o:Option Addr} {n cap:Nat} {xs:List Value},w'.ownsRow b Y 1 (.slice o n cap) n xs->w2.ownsRow b' Y 1 (.slice o n cap) n xs:=fun {Y o n cap xs} q=>dh (aO q fun k r=>hk k (q.lt k r).1) hb;obtain⟨j,S,L,lo,lc,h1,⟨h2,xo,xc,go,gc,yo,yc,h3,h4,h5,h6,h7,h8⟩ | ⟨pg,pc,i,en,z,h2,h3,h4,h5,h6⟩⟩:=h
 ·exact⟨j,S,L,lo,lc,h1,ay ⟨h2,xo,xc,go,gc,yo,yc,h3,row h4,row h5,row h6,row h7,h8⟩⟩
 ·exact⟨j,S,L,lo,lc,h1,aw ⟨pg,pc,i,en,z,h2,h3,h4,h5,row h6⟩⟩
theorem JO.five (h:JO cls F script S0 b e w'):∃(en:Int) (lo:Option Addr) (ln lc:Nat) (xo:Option Addr) (xn xc:Nat) (go:Option Addr) (gn gc:Nat) (yo:Option Addr) (yn yc:Nat),e= .returned (.agg #[.int .i64 en,.slice lo ln lc,.slice xo xn xc,.slice go gn gc,.slice yo yn yc]):=by
 obtain⟨j,S,L,lo,lc,h1,⟨h2,xo,xc,go,gc,yo,yc,h3,_⟩ | ⟨pg,pc,i,en,z,h2,h3,h4,h5,h6⟩⟩:=h
 ·exact⟨_,_,_,_,_,_,_,_,_,_,_,_,_,h3⟩
 ·exact⟨_,_,_,_,_,_,_,_,_,_,_,_,_,h5⟩
structure JI (sp:ByteArray) (LP:List bX) (sq:ByteArray) (LQ:List bX):Prop where
 pe:∀e,prog 12 LP= .inl e->e.1≠0
 qe:∀e,query LQ= .inl e->e.1≠0
 p:∀cls l,sp.size<=240->prog 12 LP= .inr (cls,l)->(∀c∈cls,pV c/\∀x∈c.goals,ml x)/\cls.length<=12
 q:∀ys l,sq.size<=96->query LQ= .inr (ys,l)->(∀x∈ys,ml x)/\ys.length<=6/\(bE [] ys).length<=100/\∀x∈ys,∀η:List UInt8->af.U,(∀y∈bE [] ys,af.size (η y)=1)->af.size (fb η 8 x.left)<=300/\(∀r,x.right=some r->af.size (fb η 8 r)<=300)/\(∀z,x.last=some z->af.size (fb η 8 z)<=300)
def xk (s:ByteArray) (L:List bX):Nat:=if 96<s.size then 1 else(match query L with
 | .inl e=>e.1
 | .inr _=>0)
def uh (s:ByteArray) (L:List bX):Nat:=if 240<s.size then 1 else Iy (prog 12 L)
def Pk (sp:ByteArray) (LP:List bX) (sq:ByteArray) (LQ:List bX) (script:List (Int×Int)) (w:World) (e:Ending) (w':World):Prop:=
 (∃er:Nat,er≠0/\er=(if uh sp LP≠0 then uh sp LP else if 100<script.length then 1 else xk sq LQ)/\e= .returned (.tuple #[.agg #[.int .i64 0,.slice none 0 0,.slice none 0 0,.slice none 0 0,.slice none 0 0],.int .i64 (er:Int)])/\Below w.heap.size w w')\/
 (uh sp LP=0/\script.length<=100/\xk sq LQ=0/\∃(cls:List af.dE) (l1:List bX) (ys:List dq) (l2:List bX) (F:List Nat) (S0:iQ) (R:Value),prog 12 LP= .inr (cls,l1)/\query LQ= .inr (ys,l2)/\JN (bE [] ys) ys F S0/\e= .returned (.tuple #[R,.int .i64 0])/\JO cls F script S0 w.heap.size (.returned R) w'/\Below w.heap.size w w')
theorem On (w:World) (s:ByteArray) (L:List bX) (hL:eM s L) (hh:af.hd L=af.next s 0) (hl:s.size<=240->L.length<=1000) (hsg:fu w) (h0:0<w.heap.size) (he:∀e,prog 12 L= .inl e->e.1≠0):
 Calls Tryz.prog 20 #[.string s] w fun e w'=>∃(o:Option Addr) (n c p:Nat),e= .returned (.agg #[.slice o n c,.int .i64 (uh s L:Int),.int .i64 (p:Int)])/\(uh s L=0->s.size<=240/\∃cls l1,prog 12 L= .inr (cls,l1)/\ek w' o n cls)/\Below w.heap.size w w':=by
 by_cases hs:240<s.size
 ·refine(G6 w s hs).mono ?_;rintro e w' ⟨rfl,hb⟩;have:uh s L=1:=by unfold uh;rw[aH hs]
  exact⟨none,0,0,0,by rw[this];rfl,fun q=>by omega,hb⟩
 ·refine(KO w s L (by omega) hL hh (hl (by omega)) hsg h0).mono ?_;rintro e w' ⟨o,n,c,rfl,hr,hb⟩;have e1:uh s L=Iy (prog 12 L):=by unfold uh;rw[aG hs]
  refine⟨o,n,c,posOf (prog 12 L),by rw[e1],fun q=>⟨by omega,?_⟩,hb⟩;rw[e1]at q;cases hp:prog 12 L with
  | inl x=>rw[hp]at q;exact absurd q (he x hp)
  | inr x=>obtain⟨cls,l1⟩:=x;rw[hp]at hr;exact⟨cls,l1,rfl,hr⟩
theorem M7 (w:World) (s:ByteArray) (L:List bX) (hL:eM s L) (hh:af.hd L=af.next s 0) (hl:s.size<=96->L.length<=1000) (hsg:fu w) (h0:0<w.heap.size) (he:∀e,query L= .inl e->e.1≠0):
 Calls Tryz.prog 21 #[.string s] w fun e w'=>∃(o:Option Addr) (n c:Nat),e= .returned (.agg #[.slice o n c,.int .i64 (xk s L:Int)])/\(xk s L=0->s.size<=96/\∃ys l1,query L= .inr (ys,l1)/\dV (bE [] ys) w' o n ys)/\Below w.heap.size w w':=by
 by_cases hs:96<s.size
 ·refine(Ku w s hs).mono ?_;rintro e w' ⟨rfl,hb⟩;have:xk s L=1:=by unfold xk;rw[aH hs]
  exact⟨none,0,0,by rw[this];rfl,fun q=>by omega,hb⟩
 ·refine(M5 w s L (by omega) hL hh (hl (by omega)) hsg h0).mono ?_;rintro e w' ⟨o,n,c,er,rfl,hr,hb⟩;cases hp:query L with
  | inl x=>
   obtain⟨x1,x2⟩:=x;rw[hp]at hr;have e1:xk s L=x1:=by unfold xk;rw[aG hs,hp]
   have hr':er=x1:=hr;exact⟨o,n,c,by rw[e1,hr'],fun q=>by rw[e1]at q;exact absurd q (he _ hp),hb⟩
  | inr x=>
   obtain⟨ys,l1⟩:=x;rw[hp]at hr;have e1:xk s L=0:=by unfold xk;rw[aG hs,hp]
   obtain⟨rfl,hi⟩:=hr;exact⟨o,n,c,by rw[e1],fun _=>⟨by omega,ys,l1,rfl,hi⟩,hb⟩
theorem Ks (w:World) (sp:ByteArray) (LP:List bX) (sq:ByteArray) (LQ:List bX) (script:List (Int×Int)) (so:Option Addr) (sc:Nat) (hP:eM sp LP) (hPh:af.hd LP=af.next sp 0) (hPl:sp.size<=240->LP.length<=1000) (hQ:eM sq LQ) (hQh:af.hd LQ=af.next sq 0) (hQl:sq.size<=96->LQ.length<=1000) (hsg:fu w) (h0:0<w.heap.size) (hpw:Pow w) (hok:JI sp LP sq LQ) (hsc:tU w so script) (hsr:∀p∈script,(-9223372036854775808<=p.1/\p.1<=9223372036854775807)/\(-9223372036854775808<=p.2/\p.2<=9223372036854775807)):
 Calls Tryz.prog 8 #[.string sp,.string sq,.slice so script.length sc] w fun e w'=>Pk sp LP sq LQ script w e w':=by
 have hb0:=(al w.heap.size w).alloc Qw (.cells #[.int .i64 0,.slice none 0 0,.slice none 0 0,.slice none 0 0,.slice none 0 0] 29);have IP:=ah (On _ sp LP hP hPh hPl (hsg.below hb0 h0) (by simp) hok.pe);have IQ:=ah (fun W (hu:Below w.heap.size w W)=>M7 W sq LQ hQ hQh hQl (hsg.below hu h0) (aJ h0 hu.size) hok.qe);have HZ0:=ah (aB w (.cells #[.int .i64 0,.slice none 0 0,.slice none 0 0,.slice none 0 0,.slice none 0 0] 29));have HB0:=ah hb0;have HOK:=ah hok;have HPW:=ah hpw;have HSC:=ah hsc;have HSR:=ah hsr;clear hb0 hP hPh hPl hQ hQh hQl hsg hpw hok hsc hsr;generalize hep:uh sp LP=ep at*;generalize heq:xk sq LQ=eq at*;have HEP:=ah hep;have HEQ:=ah heq;clear hep heq;go_enter Tryz.func8,Tryz.ntmps8;go_wp2_with fail;refine(ae IP).mono ?_;rintro e w1 ⟨o1,n1,c1,p1,rfl,hp1,hb1⟩;have hbe1:=(ae HB0).trans (hb1.mono (ae HB0).size);have hz1:=(hb1.block w.heap.size (by simp)).trans (ae HZ0);have hbA:=hbe1.alloc hbe1.size (.cells #[.slice o1 n1 c1,.int .i64 (ep:Int),.int .i64 (p1:Int)] 52);have hzA:=aQ hz1 (.cells #[.slice o1 n1 c1,.int .i64 (ep:Int),.int .i64 (p1:Int)] 52);have haA:=aB w1 (.cells #[.slice o1 n1 c1,.int .i64 (ep:Int),.int .i64 (p1:Int)] 52);have IQ1:=ah (ae IQ _ hbA);have HP1:=ah hp1;have HZA:=ah hzA;have HAA:=ah haA;have HBA:=ah hbA;have z1w:w.heap.size<w1.heap.size:=aD hz1;clear hp1 hb1 hbe1 hz1 hbA hzA haA IP IQ;go_wp2_with fail;refine(ae IQ1).mono ?_;rintro e w2 ⟨o2,n2,c2,rfl,hq2,hb2⟩;have hbe2:=(ae HBA).trans (hb2.mono (ae HBA).size);have hz2:=(hb2.block _ (aD (ae HZA))).trans (ae HZA);have ha2:=(hb2.block _ (aD (ae HAA))).trans (ae HAA);have hbB:=hbe2.alloc hbe2.size (.cells #[.slice o2 n2 c2,.int .i64 (eq:Int)] 56);have hzB:=aQ hz2 (.cells #[.slice o2 n2 c2,.int .i64 (eq:Int)] 56);have haB:=aQ ha2 (.cells #[.slice o2 n2 c2,.int .i64 (eq:Int)] 56);have hqB:=aB w2 (.cells #[.slice o2 n2 c2,.int .i64 (eq:Int)] 56);have hzz2:=aD ha2;have hcl:ep=0->sp.size<=240/\∃cls l1,prog 12 LP= .inr (cls,l1)/\ek (w2.alloc (.cells #[.slice o2 n2 c2,.int .i64 (eq:Int)] 56)) o1 n1 cls:=fun q=>by obtain⟨q1,cls,l1,q2,q3⟩:=ae HP1 q;exact⟨q1,cls,l1,q2,((gE.below ((al _ w1).alloc Qw _)).trans ((gE.below hb2).trans (gE.below ((al _ w2).alloc Qw _)))).cls q3⟩
 have hqi:eq=0->sq.size<=96/\∃ys l1,query LQ= .inr (ys,l1)/\dV (bE [] ys) (w2.alloc (.cells #[.slice o2 n2 c2,.int .i64 (eq:Int)] 56)) o2 n2 ys:=fun q=>by obtain⟨q1,ys,l1,q2,q3⟩:=hq2 q;exact⟨q1,ys,l1,q2,q3.keep (cK.alloc _ _)⟩
 have HCL:=ah hcl;have HQI:=ah hqi;generalize hw3:w2.alloc (.cells #[.slice o2 n2 c2,.int .i64 (eq:Int)] 56)=w3 at*;have a0:=aN haB 0;have a1:=aN haB 1;have q0:=aN hqB 0;have q1:=aN hqB 1;have az:=aD haB;have qz:=aD hqB;have z0:=aN hzB;have zx:=bI hzB;have zz:=aD hzB;simp only[aE,aq,aA]at a0 a1 q0 q1;have HBB:=ah hbB;have HZB:=ah hzB;clear hq2 hb2 hbe2 hz2 ha2 hbB hzB haB hqB hcl hqi IQ1 HP1 HZA HAA HBA HZ0 HB0;by_cases h1:ep=0
 ·have t1:((ep:Int) != 0)=false:=by rw[h1];rfl
  have t1':((ep:Int) == 0)=true:=by rw[h1];rfl
  by_cases h2:100<script.length
  ·have t2:decide (100<(script.length:Int))=true:=by simp;omega
   have HE:=ah (show (1:Nat)=(if uh sp LP≠0 then uh sp LP else if 100<script.length then 1 else xk sq LQ)by rw[ae HEP,aG (by omega),aH h2])
   clear h1 h2;go_wp2_with fail;refine aI (v:= .tuple #[.agg #[.int .i64 0,.slice none 0 0,.slice none 0 0,.slice none 0 0,.slice none 0 0],.int .i64 1]) (by simp[results,Tryz.results8,go_sem,z0]) rfl ?_;exact ay ⟨1,by omega,ae HE,rfl,(((((ae HBB).setCell Qw _).setCell Qw _).setCell Qw _).setCell Qw _).setCell Qw _⟩
  ·have t2:decide (100<(script.length:Int))=false:=by simp;omega
   by_cases h3:eq=0
   ·have t3:((eq:Int) != 0)=false:=by rw[h3];rfl
    have t3':((eq:Int) == 0)=true:=by rw[h3];rfl
    obtain⟨hs1,cls,l1,hpr,hcl⟩:=ae HCL h1;obtain⟨hs2,ys,l2,hqr,hit⟩:=ae HQI h3;obtain⟨okp,cl12⟩:=(ae HOK).p cls l1 hs1 hpr;obtain⟨okq,il6,nl,szq⟩:=(ae HOK).q ys l2 hs2 hqr;have hn1:n1=cls.length:=hcl.1;subst hn1;have hqin:PI w3 cls o1 ys (bE [] ys) o2 n2 script so:=⟨hcl,okp,cl12,hit,okq,il6,⟨[],by simp⟩,nl,szq,fun hne=>by obtain⟨g,off,q1,q2,q3⟩:=ae HSC hne;exact⟨g,off,q1,aJ q2 (ae HBB).size,fun i hi=>⟨((ae HBB).cell (p:=⟨g,off+i*2,none⟩) q2).trans (q3 i hi).1,((ae HBB).cell (p:=⟨g,off+i*2+1,none⟩) q2).trans (q3 i hi).2⟩⟩,by omega,ae HSR,(ae HPW).below (ae HBB)⟩;have IY:=ah (EX w3 cls o1 c1 ys (bE [] ys) o2 n2 c2 script so sc hqin);have HFIN:=ah (show∀(R:Value) (F:List Nat) (S0:iQ) (w4 w5:World),JN (bE [] ys) ys F S0->JO cls F script S0 w3.heap.size (.returned R) w4->(∀k,w3.heap.size<=k->w5.heap[k]?=w4.heap[k]?)->Below w.heap.size w w5->Pk sp LP sq LQ script w (.returned (.tuple #[R,.int .i64 0])) w5 from fun R F S0 w4 w5 k1 k2 k3 k4=>aw ⟨by rw[ae HEP];exact h1,by omega,by rw[ae HEQ];exact h3,cls,l1,ys,l2,F,S0,R,hpr,hqr,k1,rfl,k2.keep (ae HBB).size k3,k4⟩)
    clear h1 h2 h3 hs1 hpr hcl hs2 hqr hit okp cl12 okq il6 nl szq hqin HCL HQI;go_wp2_with fail;refine(ae IY).mono ?_;rintro e w4 ⟨F,S0,hps,hpq,hb4⟩;obtain⟨en,lo,ln,lc,xo,xn,xc,go,gn,gc,yo,yn,yc,rfl⟩:=hpq.five;have hz4:=(hb4.block _ zz).trans (ae HZB);have y0:=aN hz4;have yx:=bI hz4;have yz:=aD hz4;have hbe4:=(ae HBB).trans (hb4.mono (ae HBB).size);have HB4:=ah hbe4;have HPQ:=ah hpq;have HPS:=ah hps;clear hz4 hbe4 hb4 hpq hps IY;go_wp2_with fail;refine aI (v:= .tuple #[.agg #[.int .i64 en,.slice lo ln lc,.slice xo xn xc,.slice go gn gc,.slice yo yn yc],.int .i64 0]) (by simp[results,Tryz.results8,go_sem,y0]) rfl ?_;refine ae HFIN _ F S0 w4 _ (ae HPS) (ae HPQ) (fun k hk=> ?_) ((((((ae HB4).setCell Qw _).setCell Qw _).setCell Qw _).setCell Qw _).setCell Qw _);have q:k≠w.heap.size:=by omega
    rw[b6 _ _ _ _ q,b6 _ _ _ _ q,b6 _ _ _ _ q,b6 _ _ _ _ q,b6 _ _ _ _ q]
   ·have t3:((eq:Int) != 0)=true:=by simp;omega
    have t3':((eq:Int) == 0)=false:=by simp;omega
    have HE:=ah (show eq=(if uh sp LP≠0 then uh sp LP else if 100<script.length then 1 else xk sq LQ)by rw[ae HEP,ae HEQ,aG (by omega),aG h2])
    have HNE:=ah h3;clear h1 h2 h3 HCL HQI;go_wp2_with fail;go_region
    all_goals
     go_wp2_with fail;refine aI (v:= .tuple #[.agg #[.int .i64 0,.slice none 0 0,.slice none 0 0,.slice none 0 0,.slice none 0 0],.int .i64 (eq:Int)]) (by simp[results,Tryz.results8,go_sem,z0]) rfl ?_;exact ay ⟨eq,ae HNE,ae HE,rfl,by first | exact((((((ae HBB).setCell Qw _).setCell Qw _).setCell Qw _).setCell Qw _).setCell Qw _).drew | exact(((((ae HBB).drew.setCell Qw _).setCell Qw _).setCell Qw _).setCell Qw _).setCell Qw _⟩
 ·have t1:((ep:Int) != 0)=true:=by simp;omega
  have t1':((ep:Int) == 0)=false:=by simp;omega
  have HE:=ah (show ep=(if uh sp LP≠0 then uh sp LP else if 100<script.length then 1 else xk sq LQ)by rw[ae HEP,aH h1])
  have HNE:=ah h1;clear h1 HCL HQI;go_wp2_with fail;go_region
  all_goals
   go_wp2_with fail;refine aI (v:= .tuple #[.agg #[.int .i64 0,.slice none 0 0,.slice none 0 0,.slice none 0 0,.slice none 0 0],.int .i64 (ep:Int)]) (by simp[results,Tryz.results8,go_sem,z0]) rfl ?_;exact ay ⟨ep,ae HNE,ae HE,rfl,by first | exact((((((ae HBB).setCell Qw _).setCell Qw _).setCell Qw _).setCell Qw _).setCell Qw _).drew | exact(((((ae HBB).drew.setCell Qw _).setCell Qw _).setCell Qw _).setCell Qw _).setCell Qw _⟩
end Go.Proofs.YthfjnfcekeknlabGreatDoor
namespace af
open Go.Proofs.YthfjnfcekeknlabGreatDoor (jX)
def mQ (s:Nat) (N:List (List UInt8)) (items:List dq):MS:=⟨(List.range N.length).map fun k=> .v ([],s+k),items.map (MG.of fun y=> .v ([],s+N.idxOf y)),s+N.length⟩
end af
namespace Go.Proofs.YthfjnfcekeknlabGreatDoor
open Go.RowKit af
open af (U Vr dE)
variable {V F:List Nat} {S S0:iQ} {cls:List dE} {en p:Int} {i j:Nat} {L:List Int} {script:List (Int×Int)} {items:List dq}
theorem Ix (hok:∀c∈cls,pV c) (h:Mc V S) (hg:OV cls S i p en):ME cls (mF V S) i p en:=by
 obtain⟨g,hgi,hc⟩:=hg;have hgm:g∈S.G:=bK hgi;have gw:=h.wf.gw g hgm;have hai:(mF V S).gs[i]?=some (iP S.fr S.T g):=by show (S.G.map _)[i]?=_;rw[bC,hgi];rfl
 have hul:fz (PQ (·<S.D.length)) (S.T g.l):=(h.wf.FU gw.ll).mono fun x hx=>⟨hx.1,hx.2.1⟩;refine⟨_,hai,?_⟩;rcases hc with⟨hs,he,rn,hr,hrl,hno⟩ | ⟨hs,rn,zn,hr,hrl,hz,hw,hv⟩ | ⟨hs,he,tx,us,htx,hnt,rs,r1,r2,r3⟩
 ·left;refine⟨hs,he,fun θ=> ?_⟩;show af.sub θ (S.T g.l)≠af.sub θ (eI S.T g.r);rw[hr,gY];exact hno θ
 ·right;left;obtain⟨ew,ev⟩:=C8 (T:=S.T) (op:=g.op.toList) hr (fun q=>(hz q).1);refine⟨hs,?_,?_⟩
  ·show (lY g.op.toList (eI S.T g.r) (eI S.T g.z)).wt=[];rw[ew];exact hw
  ·show (en=5/\iA g.op.toList (eI S.T g.r) (eI S.T g.z)=none)\/(en=4/\∃x,iA g.op.toList (eI S.T g.r) (eI S.T g.z)=some x/\_);rw[ev];exact hv
 ·right;right;rw[htx]at r2 hul;refine⟨he,_,_,⟨hs,tx,us,htx,hnt,rfl,rfl⟩,fun t c ht hc=> ?_⟩;show (eK S.D.length (S.T g.l) c).1=2;rw[htx];have ht':t<rs.length:=by omega
  obtain⟨q1,q2,_⟩:=p7 r2 hul hok ht' hc;rw[q1];unfold pL at r3;have q3:=oA.1 r3 rs[t] (aL ht');have q4:rs[t].1≠3:=by simpa using q3
  obtain⟨_,c',V',F',T',_,hcn⟩:=r2 t rs[t] (aj ht');rcases hcn with⟨_,k,_⟩ | ⟨_,_,_,_,_,k,_⟩
  ·rcases DF (dB 8 c'.head (.n 1 tx 0 us) ⟨[],Wn.none⟩).w with e | e | e<;>rw[e]at k
   ·exact absurd k q2
   ·exact k
   ·exact absurd k q4
  ·rcases DF (nB (ej T' (V'++F') (NG c')) c'.tests)with e | e | e<;>rw[e]at k
   ·exact absurd k q2
   ·exact k
   ·exact absurd k q4
theorem rF (V:List Nat) (S:iQ):lB (mF V S).gs=fD S.fr S.G S.G.length:=by
 unfold lB fD mF;dsimp only;rw[bj];refine B2 fun i _=> ?_;rw[bC];cases S.G[i]? with
 | none=>rfl
 | some g=>simp[iP]
theorem LH (V:List Nat) (S:iQ):oK (mF V S).gs=kw S.fr S.G:=by
 unfold oK kw;rw[rF];have:(mF V S).gs=[]↔S.G=[]:=dT;by_cases q:S.G=[]
 ·rw[aH q,aH (this.2 q)]
 ·rw[aG q,aG (fun e=>q (this.1 e))]
theorem ON:big zU=false:=by decide
theorem qI (T:Nat->U) (x:Int):jL T x=big (eI T x):=by
 unfold jL big eI;by_cases q:x= -1
 ·rw[aH q,dK (fun e=>e.1 q)];exact ON.symm
 ·rw[aG q];exact decide_eq_decide.2 ⟨fun e=>e.2,fun e=>⟨q,e⟩⟩
theorem Ei (h:Mc V S):sV (mF V S)=qt V S:=by
 unfold sV qt mF;dsimp only;rw[bj,lf,lf,lf];have e1:V.any (big∘S.T)=V.any (jL S.T∘fun n:Nat=>(n:Int)):=by congr 1;funext v;show big (S.T v)=jL S.T (v:Int);rw[qI,gY]
 have e2:S.G.any (rj∘iP S.fr S.T)=S.G.any (mE S.D S.fr S.T):=by
  have key:∀g∈S.G,rj (iP S.fr S.T g)=mE S.D S.fr S.T g:=fun g hg=>by
   have gw:=h.wf.gw g hg;unfold rj mE lK;by_cases q:g.sg.toList=[]
   ·rw[aH (show (iP S.fr S.T g).sg=[]from q),aH q]
    have hf:=h.wf.ok.lt gw.ll;rw[aj hf];dsimp only[Option.elim];rw[lf];have ht:=h.wf.DB.tr g.l;have ea:af.ga (e8 S.D) (S.fr g.l)=S.D[S.fr g.l].args:=lO hf;show (match S.T g.l with
     | .v _=>false
     | .n _ _ _ us=>us.any big)=_
    generalize S.T g.l=x at ht;cases ht with
    | var h1 h2=>rw[<-ea,h2];rfl
    | @node _ k tx num us h1 h2 h3=>
     dsimp only;rw[ea]at h2 h3;have eu:us=S.D[S.fr g.l].args.map S.T:=by
      apply fY (by rw[bj,h2]);intro j j1 j2;rw[fy];have ja:j<S.D[S.fr g.l].args.length:=by simpa using j2
      exact(h3 j _ _ (aj ja) (aj j1)).one (h.wf.DB.tr _)
     rw[eu,lf];congr 1;funext v;show big (S.T v)=jL S.T (v:Int);rw[qI,gY]
   ·rw[aG (show¬(iP S.fr S.T g).sg=[]from q),aG q]
    show (big (S.T g.l)||big (eI S.T g.r)||big (eI S.T g.z))=_;simp only[Md,List.any_nil,Bool.or_false,qI,gY,Bool.or_assoc]
  have:∀l:List Gl,(∀g∈l,g∈S.G)->l.any (rj∘iP S.fr S.T)=l.any (mE S.D S.fr S.T):=by
   intro l;induction l with
   | nil=>intro _;rfl
   | cons g l ih=>intro hl;rw[Md,Md,ih (fun x hx=>hl x (by simp[hx]))];show (rj (iP S.fr S.T g)||_)=_;rw[key g (hl g (by simp))]
  exact this S.G fun g hg=>hg
 rw[e1,e2]
theorem Dq (T:Nat->U) (V:List Nat):jj (V.map T)=iF T V:=by unfold jj iF;rw[List.foldl_map];rfl
theorem LC (h:Mc V S) (N:List Vr):ux N (mF V S).gs=n7 S.T N S.G:=by
 have nz:∀(N:List Vr) (x:Int),cJ N (eI S.T x)=pW S.T N x:=fun N x=>by
  unfold eI pW;by_cases q:x= -1
  ·rw[aH q,aH q];rfl
  ·rw[aG q,aG q]
 have key:∀g∈S.G,∀a,mO a (iP S.fr S.T g)=stepG S.T a g:=fun g hg a=>by
  have gw:=h.wf.gw g hg;have en:∀N,kU N (iP S.fr S.T g)=OH S.T N g:=fun N=>by
   unfold kU OH;show cJ (cJ (cJ N (S.T g.l)) (eI S.T g.r)) (eI S.T g.z)=_;rw[nz,nz];have:pW S.T N (g.l:Int)=cJ N (S.T g.l):=by rw[<-nz,gY]
   rw[this]
  have et:∀N,vE N (iP S.fr S.T g)=N9 S.T N g:=fun N=>by
   unfold vE N9;show p9 (d7 Lib.itoa N (S.T g.l)) g.sg.toList (d7 Lib.itoa N (eI S.T g.r)) g.op.toList (d7 Lib.itoa N (eI S.T g.z))=_;unfold p9;by_cases q:g.sg.toList=[]
   ·rw[aH q,aH q]
   ·rw[aG q,aG q];obtain⟨n,hn,_⟩:=gw.rr q;have e1:eI S.T g.r=S.T g.r.toNat:=by rw[hn,gY];rfl
    rw[e1];by_cases o:g.op.toList=[]
    ·rw[aH o,aH o]
    ·rw[aG o,aG o];obtain⟨m,hm,_⟩:=gw.zz o;have e2:eI S.T g.z=S.T g.z.toNat:=by rw[hm,gY];rfl
     rw[e2]
  unfold mO stepG;rw[en,et]
 unfold ux n7 mF;dsimp only;rw[List.foldl_map];have:∀(l:List Gl) (a:List (List UInt8)×List Vr),(∀g∈l,g∈S.G)->l.foldl (fun x y=>mO x (iP S.fr S.T y)) a=l.foldl (stepG S.T) a:=by
  intro l;induction l with
  | nil=>intro a _;rfl
  | cons g l ih=>intro a hl;rw[bF,bF,key g (hl g (by simp))];exact ih _ fun x hx=>hl x (by simp[hx])
 exact this S.G _ fun g hg=>hg
theorem Aw (hok:∀c∈cls,pV c) (h0:Mc V S0) (h:FP cls V script S0 j S L):jk cls script (mF V S0) j (mF V S) L/\Mc V S:=by
 induction h with
 | start=>exact⟨.start,h0⟩
 | @step j S S' L pg pc z i h hs hi hg hl ih=>obtain⟨i1,i2⟩:=ih;obtain⟨k1,k2⟩:=Ai hok i2 hg;exact⟨.step i1 hs (by rw[rF];exact hi) k1 (by rw[Ei k2];exact hl),k2⟩
theorem EM (h:JN (bE [] items) items F S) (hi:∀x∈items,ml x):Mc F S/\fH (fun k=>(F[k - 1]?).getD 0) (fun k=>1<=k/\k<1+(bE [] items).length) (mQ 1 (bE [] items) items) (mF F S):=by
 have hgl:=h.gl;have hgw:∀{xs:List dq} {gs:List Gl},eO (xM S.T S.D.length (ej S.T F (bE [] items))) xs gs->(∀x∈xs,ml x)->∀g∈gs,xD S.T S.D.length g/\g.nd=[]:=by
  intro xs;induction xs with
  | nil=>
   intro gs ha _ g hg;cases gs with
   | nil=>cases hg
   | cons y ys=>exact ha.elim
  | cons x xs ih=>
   intro gs ha hx g hg;cases gs with
   | nil=>cases hg
   | cons y ys=>
    rcases bh.1 hg with q | q
    ·rw[q];exact⟨ha.1.gw (hx x (by simp)),ha.1.nd⟩
    ·exact ih ha.2 (fun z hz=>hx z (by simp[hz])) g q
 have hv:∀f∈F,S.T f= .v ([],f):=fun f hf=>(mX (D:=[]) (E:=S.D) (by rw[cG];exact h.ok) (by rw[cG];exact h.DB) h.nd h.nv f hf).2.2;have hF:∀k (hk:k<F.length),(F[(1+k) - 1]?).getD 0=F[k]:=fun k hk=>by rw[Nat.add_sub_cancel_left,aj hk];rfl
 refine⟨⟨⟨h.DB,h.ok,fun g hg=>(hgw hgl hi g hg).1,fun g hg v hv=>(by rw[(hgw hgl hi g hg).2]at hv;cases hv)⟩,fun g hg v hv=>(by rw[(hgw hgl hi g hg).2]at hv;cases hv),h.lt⟩,⟨fun i j hPi hPj hij=> ?_,fun k hk=>hk.2,fun k hk=> ?_,fun u hu=> ?_,fun g hg=> ?_,?_,?_⟩⟩
 ·have hln:=h.ln;show (F[i - 1]?).getD 0<(F[j - 1]?).getD 0;rw[aj (show i - 1<F.length by omega),aj (show j - 1<F.length by omega)]
  exact dQ.1 h.nv.ord _ _ _ _ (by omega)
 ·have hln:=h.ln;show (F[k - 1]?).getD 0<S.D.length;rw[aj (show k - 1<F.length by omega)]
  exact h.lt _ (aL _)
 ·obtain⟨k,hk,rfl⟩:=bu.1 hu;have:=J2.1 hk;exact .v ⟨rfl,by show 1<=1+k;omega,by show 1+k<_;omega⟩
 ·obtain⟨x,hx,rfl⟩:=bu.1 hg;obtain⟨ns,hn⟩:=fF items [] x hx;refine Mo (hi x hx).ok ns fun y hy=> .v ⟨rfl,by show 1<=1+_;omega,?_⟩;have:=bW (hn y hy);show 1+(bE [] items).idxOf y<_;omega
 ·show F.map S.T=((List.range _).map _).map _;rw[bQ];apply fY (by simp[h.ln]);intro k k1 k2;have hk:k<F.length:=by simpa using k1
  rw[fy,fy,List.getElem_range,hv _ (aL hk)];show U.v ([],F[k])= .v ([],(F[(1+k) - 1]?).getD 0);rw[hF k hk]
 ·show S.G.map _=(items.map _).map _;rw[bQ];refine tT hgl fun x hx y hy=> ?_;rw[Ea hy (hi x hx).ok];obtain⟨ns,hn⟩:=fF items [] x hx;refine Hi (hi x hx).ok ns fun w hw=> ?_;have hwl:=bW (hn w hw);have hk:(bE [] items).idxOf w<F.length:=by rw[h.ln];exact hwl
  show ej S.T F (bE [] items) w=U.v ([],(F[(1+(bE [] items).idxOf w) - 1]?).getD 0);rw[hF _ hk];unfold ej;rw[aj hk];exact hv _ (aL hk)
end Go.Proofs.YthfjnfcekeknlabGreatDoor
namespace af
variable {α:Type} {e f:Nat} {p:List bX->jM Tm} {l l1 l2:List bX} {t:Tm} {g:List UInt8} {b t1 a g1:Bool} {x:dq} {ns:List (List UInt8)} {θ:Vr->U} {η:List UInt8->U} {xs ts gs:List dq} {c:dE}
def NZ {α:Type} (r:jM α):Prop:=∀e,r= .inl e->e.1≠0
theorem gU (he:e≠0) (l:List bX):NZ (bad (α:=α) e l):=fun x hx=>by unfold bad at hx;cases hx;exact he
theorem gZ (x:α×List bX):NZ (.inr x:jM α):=fun e he=>by cases he
theorem K4 (hp:∀l,NZ (p l)):∀(k:Nat) (l:List bX),NZ (cE p k l):=by
 intro k;induction k with
 | zero=>
  intro l;unfold cE;cases hr:p l with
  | inl e=>intro x hx;cases hx;exact hp l e hr
  | inr r=>
   dsimp only;split
   ·exact gU (by omega) _
   ·split
    ·exact gZ _
    ·exact gU (by omega) _
 | succ k ih=>
  intro l;unfold cE;cases hr:p l with
  | inl e=>intro x hx;cases hx;exact hp l e hr
  | inr r=>
   dsimp only;split
   ·have:=ih r.2.tail;cases hq:cE p k r.2.tail with
    | inl e=>intro x hx;cases hx;exact this e hq
    | inr q=>exact gZ _
   ·split
    ·exact gZ _
    ·exact gU (by omega) _
theorem rI:∀(f:Nat) (l:List bX),NZ (term f l):=by
 intro f;induction f with
 | zero=>
  intro l;unfold term;split
  ·exact gU (by omega) _
  ·exact gU (by omega) _
 | succ f ih=>
  intro l;unfold term;split
  ·split
   ·exact gU (by omega) _
   ·split
    ·split
     ·have:=K4 ih 2 l.tail.tail;cases hq:cE (term f) 2 l.tail.tail with
      | inl e=>intro x hx;cases hx;exact this e hq
      | inr q=>exact gZ _
     ·exact gZ _
    ·exact gZ _
  ·exact gU (by omega) _
theorem sJ (l:List bX):NZ (operand l):=by
 unfold operand;split
 ·exact gU (by omega) _
 ·exact rI 8 l
theorem AM (t:Tm) (b:Bool) (l:List bX):NZ (sides t b l):=by
 unfold sides;split
 ·cases hq:term 8 l.tail with
  | inl e=>intro x hx;cases hx;exact rI 8 _ e hq
  | inr q=>exact gZ _
 ·exact gU (by omega) _
theorem E7 (t:Tm) (b:Bool) (l:List bX):NZ (assignment t b l):=by
 unfold assignment;split
 ·cases hq:operand l.tail with
  | inl e=>intro x hx;cases hx;exact sJ _ e hq
  | inr q=>
   dsimp only;split
   ·cases hq2:operand q.2.tail with
    | inl e=>intro x hx;cases hx;exact sJ _ e hq2
    | inr q2=>exact gZ _
   ·exact gZ _
 ·exact gU (by omega) _
theorem DP (a b:Bool) (l:List bX):NZ (item a b l):=by
 unfold item;cases hq:term 8 l with
 | inl e=>intro x hx;cases hx;exact rI 8 _ e hq
 | inr q=>
  dsimp only;split
  ·cases h2:sides q.1 a q.2 with
   | inl e=>intro x hx;cases hx;exact AM _ _ _ e h2
   | inr q2=>exact gZ _
  ·split
   ·cases h2:sides q.1 b q.2 with
    | inl e=>intro x hx;cases hx;exact AM _ _ _ e h2
    | inr q2=>exact gZ _
   ·split
    ·cases h2:assignment q.1 b q.2 with
     | inl e=>intro x hx;cases hx;exact E7 _ _ _ e h2
     | inr q2=>exact gZ _
    ·split
     ·exact gZ _
     ·exact gU (by omega) _
theorem sK:∀(k:Nat) (a b:Bool) (l:List bX),NZ (items k a b l):=by
 intro k;induction k with
 | zero=>
  intro a b l;unfold items;cases hq:item a b l with
  | inl e=>intro x hx;cases hx;exact DP _ _ _ e hq
  | inr q=>
   dsimp only;split
   ·exact gU (by omega) _
   ·exact gZ _
 | succ k ih=>
  intro a b l;unfold items;cases hq:item a b l with
  | inl e=>intro x hx;cases hx;exact DP _ _ _ e hq
  | inr q=>
   dsimp only;split
   ·cases h2:items k q.1.2.1 q.1.2.2 q.2.tail with
    | inl e=>intro x hx;cases hx;exact ih _ _ _ e h2
    | inr q2=>exact gZ _
   ·exact gZ _
theorem Hl (l:List bX):NZ (query l):=by
 unfold query;cases hq:items 5 false true l with
 | inl e=>intro x hx;cases hx;exact sK _ _ _ _ e hq
 | inr q=>
  dsimp only;split
  ·exact gZ _
  ·exact gU (by omega) _
theorem K0 (l:List bX):NZ (body l):=by
 unfold body;cases hq:items 5 true true l with
 | inl e=>intro x hx;cases hx;exact sK _ _ _ _ e hq
 | inr q=>
  dsimp only;split
  ·cases h2:items 5 false true q.2.tail with
   | inl e=>intro x hx;cases hx;exact sK _ _ _ _ e h2
   | inr q2=>
    dsimp only;split
    ·exact gZ _
    ·exact gU (by omega) _
  ·split
   ·exact gZ _
   ·exact gU (by omega) _
theorem DO (x:α) (l:List bX):NZ (stop x l):=by
 unfold stop;split
 ·exact gZ _
 ·exact gU (by omega) _
theorem vm (b:Bool) (l:List bX):NZ (clause b l):=by
 unfold clause;split
 ·split
  ·cases hq:term 8 l with
   | inl e=>intro x hx;cases hx;exact rI 8 _ e hq
   | inr q=>
    dsimp only;split
    ·cases h2:body q.2.tail with
     | inl e=>intro x hx;cases hx;exact K0 _ e h2
     | inr q2=>exact DO _ _
    ·exact DO _ _
  ·exact gU (by omega) _
 ·exact gU (by omega) _
theorem KZ:∀(k:Nat) (l:List bX),NZ (prog k l):=by
 intro k;induction k with
 | zero=>
  intro l;unfold prog;split
  ·exact gZ _
  ·cases hq:clause false l with
   | inl e=>intro x hx;cases hx;exact vm _ _ e hq
   | inr q=>exact gZ _
 | succ k ih=>
  intro l;unfold prog;split
  ·exact gZ _
  ·cases hq:clause true l with
   | inl e=>intro x hx;cases hx;exact vm _ _ e hq
   | inr q=>
    dsimp only;cases h2:prog k q.2 with
    | inl e=>intro x hx;cases hx;exact ih _ e h2
    | inr q2=>exact gZ _
def rq (t:Tm):Nat:=size (Dv 8 0 t)
theorem oU (h:term 8 l= .inr (t,l1)):rq t+l1.length<=l.length:=by obtain⟨c,h1,h2⟩:=EF 0 8 l t l1 h;have:=h2.2;rw[Gv]at this;unfold rq;omega
def Mu (x:dq):Nat:=rq x.left+x.right.elim 0 rq+x.last.elim 0 rq
theorem gH (h:sees l g=true):(hd l).text.toList=g:=by unfold sees at h;simp only[eS,JZ]at h;exact h.2
theorem uo (h:dd l=true):((hd l).text.toList=[61,61]\/(hd l).text.toList=[92,61]\/(hd l).text.toList=[61,60]\/(hd l).text.toList=[60])/\l.length=l.tail.length+1:=by
 unfold dd at h;simp only[jO]at h;rcases h with((h | h) | h) | h
 ·exact⟨aw (aw (aw (gH h))),eU h⟩
 ·exact⟨aw (aw (ay (gH h))),eU h⟩
 ·exact⟨ay (gH h),eU h⟩
 ·exact⟨aw (ay (gH h)),eU h⟩
theorem uu (h:ig l=true):(hd l).text.toList.length=1/\l.length=l.tail.length+1:=by
 unfold ig at h;simp only[jO]at h;rcases h with(h | h) | h
 ·exact⟨by rw[gH h];rfl,eU h⟩
 ·exact⟨by rw[gH h];rfl,eU h⟩
 ·exact⟨by rw[gH h];rfl,eU h⟩
theorem sI (h:operand l= .inr (t,l1)):iE 8 t/\rq t+l1.length<=l.length:=by
 unfold operand at h;split at h
 ·cases h
 ·exact⟨lE 8 l t l1 h,oU h⟩
theorem Am (h:sides t b l= .inr (x,l2)):b=true/\∃r,x=⟨t,(hd l).text.toList,some r,[],none⟩/\iE 8 r/\rq r+l2.length<=l.tail.length:=by
 unfold sides at h;split at h
 ·rename_i hb;cases hq:term 8 l.tail with
  | inl e=>rw[hq]at h;cases h
  | inr q=>obtain⟨r,l3⟩:=q;rw[hq]at h;cases h;exact⟨hb,r,rfl,lE 8 _ r _ hq,oU hq⟩
 ·cases h
theorem FF (h:assignment t b l= .inr (x,l2)):b=true/\∃r,iE 8 r/\((x=⟨t,(hd l).text.toList,some r,[],none⟩/\rq r+l2.length<=l.tail.length)\/∃o z,o.length=1/\iE 8 z/\x=⟨t,(hd l).text.toList,some r,o,some z⟩/\rq r+rq z+l2.length<=l.tail.length):=by
 unfold assignment at h;split at h
 ·rename_i hb;cases hq:operand l.tail with
  | inl e=>rw[hq]at h;cases h
  | inr q=>
   obtain⟨r,l3⟩:=q;rw[hq]at h;dsimp only at h;obtain⟨w1,s1⟩:=sI hq;split at h
   ·rename_i ho;obtain⟨o1,o2⟩:=uu ho;cases hq2:operand l3.tail with
    | inl e=>rw[hq2]at h;cases h
    | inr q2=>obtain⟨z,l4⟩:=q2;rw[hq2]at h;cases h;obtain⟨w2,s2⟩:=sI hq2;exact⟨hb,r,w1,aw ⟨_,z,o1,w2,rfl,by omega⟩⟩
   ·cases h;exact⟨hb,r,w1,ay ⟨rfl,s1⟩⟩
 ·cases h
theorem D4 (h:item a b l= .inr ((x,t1,g1),l1)):(t1=true->a=true/\jc x)/\(g1=true->b=true/\ml x)/\(a=false->b=true->g1=true)/\Mu x+l1.length<=l.length:=by
 unfold item at h;cases hq:term 8 l with
 | inl e=>rw[hq]at h;cases h
 | inr q=>
  obtain⟨t,l2⟩:=q;rw[hq]at h;dsimp only at h;have wt:=lE 8 l t l2 hq;have st:=oU hq;split at h
  ·rename_i hs;obtain⟨s1,s2⟩:=uo hs;cases h2:sides t a l2 with
   | inl e=>rw[h2]at h;cases h
   | inr q2=>obtain⟨y,l3⟩:=q2;rw[h2]at h;obtain⟨ha,r,rfl,wr,sr⟩:=Am h2;cases h;refine⟨fun _=>⟨ha,⟨wt,(fun r' q=>by cases q;exact wr),(fun q=>by cases q),(fun r' q=>by cases q;exact s1),rfl⟩⟩,(fun q=>by cases q),(fun q=>by rw[ha]at q;cases q),?_⟩;show rq t+rq r+0+l1.length<=l.length;omega
  ·split at h
   ·rename_i hs;have s1:=gH hs;have s2:=eU hs;cases h2:sides t b l2 with
    | inl e=>rw[h2]at h;cases h
    | inr q2=>
     obtain⟨y,l3⟩:=q2;rw[h2]at h;obtain⟨hb,r,rfl,wr,sr⟩:=Am h2;cases h;refine⟨(fun q=>by cases q),fun _=>⟨hb,⟨⟨wt,fun q=> ?_,fun _=>⟨r,rfl,wr⟩,fun _=>rfl,fun q=>absurd rfl q,fun q=>absurd rfl q⟩,aw (ay s1),fun q=> ?_,fun q=>absurd rfl q,by simp⟩⟩,fun _ q=>q,?_⟩
     ·change (hd l2).text.toList=[]at q;rw[s1]at q;cases q
     ·change (hd l2).text.toList=[]at q;rw[s1]at q;cases q
     ·show rq t+rq r+0+l1.length<=l.length;omega
   ·split at h
    ·rename_i hs;have s1:=gH hs.2;have s2:=eU hs.2;cases h2:assignment t b l2 with
     | inl e=>rw[h2]at h;cases h
     | inr q2=>
      obtain⟨y,l3⟩:=q2;rw[h2]at h;obtain⟨hb,r,wr,hx⟩:=FF h2;cases h;rcases hx with⟨rfl,sr⟩ | ⟨o,z,ho,wz,rfl,sr⟩
      ·refine⟨(fun q=>by cases q),fun _=>⟨hb,⟨⟨wt,fun q=> ?_,fun _=>⟨r,rfl,wr⟩,fun _=>rfl,fun q=>absurd rfl q,fun q=>absurd rfl q⟩,aw (aw s1),fun q=> ?_,fun q=>absurd rfl q,by simp⟩⟩,fun _ q=>q,?_⟩
       ·change (hd l2).text.toList=[]at q;rw[s1]at q;cases q
       ·change (hd l2).text.toList=[]at q;rw[s1]at q;cases q
       ·show rq t+rq r+0+l1.length<=l.length;omega
      ·refine⟨(fun q=>by cases q),fun _=>⟨hb,⟨⟨wt,fun q=> ?_,fun _=>⟨r,rfl,wr⟩,fun q=> ?_,fun _=>⟨z,rfl,wz⟩,fun _ q=> ?_⟩,aw (aw s1),fun q=> ?_,fun _=>s1,by show o.length<=2;omega⟩⟩,fun _ q=>q,?_⟩
       ·change (hd l2).text.toList=[]at q;rw[s1]at q;cases q
       ·change o=[]at q;rw[q]at ho;cases ho
       ·change (hd l2).text.toList=[]at q;rw[s1]at q;cases q
       ·change (hd l2).text.toList=[]at q;rw[s1]at q;cases q
       ·show rq t+rq r+rq z+l1.length<=l.length;omega
    ·split at h
     ·rename_i hk;cases h;refine⟨fun q=> ?_,fun q=>⟨q,⟨⟨wt,fun _=>rfl,fun q=>absurd rfl q,fun _=>rfl,fun q=>absurd rfl q,fun q=>absurd rfl q⟩,ay rfl,fun _=>hk.1,fun q=>absurd rfl q,by simp⟩⟩,fun _ q=>q,?_⟩
      ·simp only[eS]at q;refine⟨q.1,⟨wt,(fun r q=>by cases q),fun _=>⟨rfl,hk.1,?_⟩,(fun r q=>by cases q),rfl⟩⟩;have:=q.2;unfold isInt at this;simp only[eS,JZ]at this;exact this.2
      ·show rq t+0+0+l1.length<=l.length;omega
     ·cases h
def B7 (xs:List dq):Nat:=(xs.map Mu).sum
theorem te:∀(k:Nat) (a b t1 g1:Bool) (l l1:List bX) (xs:List dq),items k a b l= .inr ((xs,t1,g1),l1)->(t1=true->a=true/\∀x∈xs,jc x)/\(g1=true->b=true/\∀x∈xs,ml x)/\(a=false->b=true->g1=true)/\B7 xs+l1.length<=l.length/\xs.length<=k+1:=by
 intro k;induction k with
 | zero=>
  intro a b t1 g1 l l1 xs h;unfold items at h;cases hq:item a b l with
  | inl e=>rw[hq]at h;cases h
  | inr q=>
   obtain⟨⟨x,t2,g2⟩,l2⟩:=q;rw[hq]at h;dsimp only at h;obtain⟨h1,h2,h3,h4⟩:=D4 hq;split at h
   ·cases h
   ·cases h;refine⟨fun q=>⟨(h1 q).1,fun y hy=> ?_⟩,fun q=>⟨(h2 q).1,fun y hy=> ?_⟩,h3,by simpa [B7] using h4,by simp⟩
    ·rw[a8.1 hy];exact(h1 q).2
    ·rw[a8.1 hy];exact(h2 q).2
 | succ k ih=>
  intro a b t1 g1 l l1 xs h;unfold items at h;cases hq:item a b l with
  | inl e=>rw[hq]at h;cases h
  | inr q=>
   obtain⟨⟨x,t2,g2⟩,l2⟩:=q;rw[hq]at h;dsimp only at h;obtain⟨h1,h2,h3,h4⟩:=D4 hq;split at h
   ·rename_i hs;have s2:=eU hs;cases hq2:items k t2 g2 l2.tail with
    | inl e=>rw[hq2]at h;cases h
    | inr q2=>
     obtain⟨⟨ys,t3,g3⟩,l3⟩:=q2;rw[hq2]at h;cases h;obtain⟨k1,k2,k3,k4,k5⟩:=ih _ _ _ _ _ _ _ hq2;refine⟨fun q=>⟨(h1 (k1 q).1).1,fun y hy=> ?_⟩,fun q=>⟨(h2 (k2 q).1).1,fun y hy=> ?_⟩,fun qa qb=> ?_,?_,by simp;omega⟩
     ·rcases bh.1 hy with rfl | hy
      ·exact(h1 (k1 q).1).2
      ·exact(k1 q).2 y hy
     ·rcases bh.1 hy with rfl | hy
      ·exact(h2 (k2 q).1).2
      ·exact(k2 q).2 y hy
     ·refine k3 ?_ (h3 qa qb);cases ht:t2 with
      | false=>rfl
      | true=>have:=(h1 ht).1;rw[qa]at this;cases this
     ·have:B7 (x :: ys)=Mu x+B7 ys:=by simp[B7]
      omega
   ·cases h;refine⟨fun q=>⟨(h1 q).1,fun y hy=> ?_⟩,fun q=>⟨(h2 q).1,fun y hy=> ?_⟩,h3,by simpa [B7] using h4,by simp⟩
    ·rw[a8.1 hy];exact(h1 q).2
    ·rw[a8.1 hy];exact(h2 q).2
theorem nL (sd:Nat):∀(f:Nat) (t:Tm) (ns:List (List UInt8)),iE f t->(aP f ns t).length<=ns.length+size (Dv f sd t)
 | f+1,t,ns,hw=>by
  unfold aP Dv fb;by_cases k3:t.kind=3
  ·rw[aH k3,aH k3];rw[size];unfold jf;split
   ·omega
   ·simp
  ·rw[aG k3,aG k3];by_cases k4:t.kind=4
   ·rw[aH k4,aH k4];omega
   ·rw[aG k4,aG k4,size]
    have key:∀(ts:List Tm) (ns:List (List UInt8)),(∀u∈ts,iE f u)->(ts.foldl (aP f) ns).length<=ns.length+b8 (ts.map (fb (fun x=> .v (x,sd)) f)):=by
     intro ts;induction ts with
     | nil=>intro ns _;simp[b8]
     | cons u ts ih=>intro ns hu;have h1:=nL sd f u ns (hu u (by simp));have h2:=ih (aP f ns u) (fun v hv=>hu v (by simp[hv]));rw[bF,aY,b8];unfold Dv at h1;omega
    have:=key t.args ns hw.2.2.2;omega
theorem CE (hl:iE 8 x.left) (hr:∀r,x.right=some r->iE 8 r) (hz:∀z,x.last=some z->iE 8 z):(bU ns x).length<=ns.length+Mu x:=by
 have h1:=nL 0 8 x.left ns hl;unfold bU Mu rq;have nO:∀(o:Option Tm) (ns:List (List UInt8)),(∀r,o=some r->iE 8 r)->(e7 ns o).length<=ns.length+o.elim 0 (fun t=>size (Dv 8 0 t)):=fun o ns ho=>by
  cases o with
  | none=>simp[e7]
  | some r=>exact nL 0 8 r ns (ho r rfl)
 have h2:=nO x.right (aP 8 ns x.left) hr;have h3:=nO x.last (e7 (aP 8 ns x.left) x.right) hz;omega
theorem mh:∀(xs:List dq) (ns:List (List UInt8)),(∀x∈xs,iE 8 x.left/\(∀r,x.right=some r->iE 8 r)/\(∀z,x.last=some z->iE 8 z))->(bE ns xs).length<=ns.length+B7 xs
 | [],ns,_=>by simp[bE,B7]
 | x :: xs,ns,h=>by
  have h0:=h x (by simp);have h1:=CE (ns:=ns) h0.1 h0.2.1 h0.2.2;have h2:=mh xs (bU ns x) (fun y hy=>h y (by simp[hy]));rw[mY];have:B7 (x :: xs)=Mu x+B7 xs:=by simp[B7]
  omega
theorem jc.wf (h:jc x):iE 8 x.left/\(∀r,x.right=some r->iE 8 r)/\(∀z,x.last=some z->iE 8 z):=⟨h.wl,h.wr,fun z q=>by rw[h.la]at q;cases q⟩
theorem ml.wf (h:ml x):iE 8 x.left/\(∀r,x.right=some r->iE 8 r)/\(∀z,x.last=some z->iE 8 z):=by
 refine⟨h.ok.wl,fun r q=> ?_,fun z q=> ?_⟩
 ·by_cases k:x.sign=[]
  ·rw[h.ok.r0 k]at q;cases q
  ·obtain⟨r',e,w⟩:=h.ok.r1 k;rw[e]at q;cases q;exact w
 ·by_cases k:x.op=[]
  ·rw[h.ok.z0 k]at q;cases q
  ·obtain⟨r',e,w⟩:=h.ok.z1 k;rw[e]at q;cases q;exact w
theorem Ci (h:∀x,size (θ x)=1):∀u,size (sub θ u)=size u:=by
 refine U.ind (fun x=> ?_) (fun k tx num ss ih=> ?_)
 ·rw[sub,h,size]
 ·rw[dS,size,size]
  have key:∀(ss:List U),(∀a∈ss,size (sub θ a)=size a)->b8 (ss.map (sub θ))=b8 ss:=by
   intro ss;induction ss with
   | nil=>intro _;rfl
   | cons a ss ih2=>intro hs;rw[aY,b8,b8,hs a (by simp),ih2 (fun b hb=>hs b (by simp[hb]))]
  rw[key ss ih]
theorem wq (hw:iE 8 t) (ns:List (List UInt8)) (h:∀y∈aP 8 ns t,size (η y)=1):size (fb η 8 t)=rq t:=by
 rw[gR (θ:=fun y=>if y∈aP 8 ns t then η y else .v ([],0)) 8 t ns hw (fun y hy=>(aH hy).symm),ry _ 0 8 t hw];refine Ci (fun x=> ?_) _;split
 ·rename_i q;exact h _ q
 ·rfl
theorem Ns (h:x∈xs):Mu x<=B7 xs:=by
 unfold B7;induction xs with
 | nil=>cases h
 | cons y ys ih=>
  rw[aY,vY];rcases bh.1 h with rfl | h
  ·omega
  ·have:=ih h;omega
theorem EJ (h:term f l= .inr (t,l1)):t.kind=(hd l).kind:=by
 cases f with
 | zero=>unfold term at h;split at h<;>cases h
 | succ f=>
  unfold term at h;split at h
  ·split at h
   ·cases h
   ·split at h
    ·rename_i k;split at h
     ·cases hq:cE (term f) 2 l.tail.tail with
      | inl e=>rw[hq]at h;cases h
      | inr q=>rw[hq]at h;cases h;exact k.symm
     ·cases h;exact k.symm
    ·cases h;rfl
  ·cases h
theorem LU (h:body l= .inr ((ts,gs),l2)):(∀x∈ts,jc x)/\(∀x∈gs,ml x)/\ts.length<=6/\gs.length<=6/\B7 ts+B7 gs+l2.length<=l.length:=by
 unfold body at h;cases hq:items 5 true true l with
 | inl e=>rw[hq]at h;cases h
 | inr q=>
  obtain⟨⟨xs,t,g⟩,l1⟩:=q;rw[hq]at h;dsimp only at h;obtain⟨h1,h2,h3,h4,h5⟩:=te _ _ _ _ _ _ _ _ hq;split at h
  ·rename_i ht;have s2:=eU ht.2;cases hq2:items 5 false true l1.tail with
   | inl e=>rw[hq2]at h;cases h
   | inr q2=>
    obtain⟨⟨ys,t2,g2⟩,l3⟩:=q2;rw[hq2]at h;dsimp only at h;obtain⟨k1,k2,k3,k4,k5⟩:=te _ _ _ _ _ _ _ _ hq2;split at h
    ·rename_i hg;cases h;exact⟨(h1 ht.1).2,(k2 hg).2,h5,k5,by omega⟩
    ·cases h
  ·split at h
   ·rename_i hg;cases h;refine⟨(fun x hx=>by cases hx),(h2 hg).2,by simp,h5,?_⟩;have:B7 []=0:=rfl;omega
   ·cases h
theorem vL (h:clause b l= .inr (c,l1)) (hl:l.length<=1000):b=true/\pV c/\(∀x∈c.goals,ml x)/\l1.length<=l.length:=by
 unfold clause at h;split at h
 ·rename_i hk;split at h
  ·rename_i hb;cases hq:term 8 l with
   | inl e=>rw[hq]at h;cases h
   | inr q=>
    obtain⟨t,l2⟩:=q;rw[hq]at h;dsimp only at h;have wt:=lE 8 l t l2 hq;have st:=oU hq;have kt:=(EJ hq).trans hk;have hh:(aP 8 [] t).length<=rq t:=by have:=nL 0 8 t [] wt;simpa [rq] using this
    have stop_is:∀{x:dE} {l3:List bX},stop x l3= .inr (c,l1)->c=x/\l1.length<=l3.length:=fun {x l3} q=>by
     unfold stop at q;split at q
     ·cases q;exact⟨rfl,by rw[List.length_tail];omega⟩
     ·cases q
    split at h
    ·rename_i hs;have s2:=eU hs;cases hq2:body l2.tail with
     | inl e=>rw[hq2]at h;cases h
     | inr q2=>obtain⟨⟨ts,gs⟩,l3⟩:=q2;rw[hq2]at h;obtain⟨k1,k2,k3,k4,k5⟩:=LU hq2;obtain⟨rfl,hl1⟩:=stop_is h;refine⟨hb,⟨kt,wt,k1,k3,fun x hx=>(k2 x hx).ok,k4,?_⟩,k2,by omega⟩;have n1:=mh ts (aP 8 [] t) (fun x hx=>(k1 x hx).wf);have n2:=mh gs (bE (aP 8 [] t) ts) (fun x hx=>(k2 x hx).wf);show (bE (bE (aP 8 [] t) ts) gs).length<=100000;omega
    ·obtain⟨rfl,hl1⟩:=stop_is h;refine⟨hb,⟨kt,wt,(fun x hx=>by cases hx),by simp,(fun x hx=>by cases hx),by simp,?_⟩,(fun x hx=>by cases hx),by omega⟩;show (aP 8 [] t).length<=100000;omega
  ·cases h
 ·cases h
theorem KH:∀(k:Nat) (l l1:List bX) (cls:List dE),prog k l= .inr (cls,l1)->l.length<=1000->(∀c∈cls,pV c/\∀x∈c.goals,ml x)/\cls.length<=k:=by
 intro k;induction k with
 | zero=>
  intro l l1 cls h hl;unfold prog at h;split at h
  ·cases h;exact⟨(fun c hc=>by cases hc),by simp⟩
  ·cases hq:clause false l with
   | inl e=>rw[hq]at h;cases h
   | inr q=>have:=(vL (c:=q.1) (l1:=q.2) hq hl).1;cases this
 | succ k ih=>
  intro l l1 cls h hl;unfold prog at h;split at h
  ·cases h;exact⟨(fun c hc=>by cases hc),by simp⟩
  ·cases hq:clause true l with
   | inl e=>rw[hq]at h;cases h
   | inr q=>
    obtain⟨c,l2⟩:=q;rw[hq]at h;dsimp only at h;obtain⟨_,h1,h2,h3⟩:=vL hq hl;cases hq2:prog k l2 with
    | inl e=>rw[hq2]at h;cases h
    | inr q2=>
     obtain⟨cs,l3⟩:=q2;rw[hq2]at h;cases h;obtain⟨k1,k2⟩:=ih l2 l1 cs hq2 (by omega);refine⟨fun d hd=> ?_,by simp;omega⟩;rcases bh.1 hd with rfl | hd
     ·exact⟨h1,h2⟩
     ·exact k1 d hd
end af
namespace Go.Proofs.YthfjnfcekeknlabGreatDoor
open Go.RowKit af
variable {sq sp:ByteArray} {LP LQ:List bX}
theorem Ol (hPl:sp.size<=240->LP.length<=1000) (hQ:eM sq LQ) (hQh:af.hd LQ=af.next sq 0):JI sp LP sq LQ:=by
 refine⟨KZ 12 LP,Hl LQ,fun cls l hs h=>KH 12 LP l cls h (hPl hs),fun ys l hs h=> ?_⟩;have hlen:LQ.length<=97:=by have:=eM.len sq.size 0 LQ hQ hQh (by omega);omega
 unfold query at h;cases hq:af.items 5 false true LQ with
 | inl e=>rw[hq]at h;cases h
 | inr q=>
  obtain⟨⟨xs,t,g⟩,l1⟩:=q;rw[hq]at h;dsimp only at h;obtain⟨h1,h2,h3,h4,h5⟩:=te _ _ _ _ _ _ _ _ hq;split at h
  ·cases h;have hgl:=(h2 (h3 rfl rfl)).2;have hn:=mh ys [] (fun x hx=>(hgl x hx).wf);simp only[ct,Nat.zero_add]at hn;refine⟨hgl,h5,by omega,fun x hx η hη=> ?_⟩;have hi:=Ns hx;have wf:=(hgl x hx).wf;obtain⟨ns',hs'⟩:=fF ys [] x hx;unfold Mu at hi;have eL:∀y∈aP 8 ns' x.left,af.size (η y)=1:=fun y hy=>hη y (hs' y (by obtain⟨K1,e1⟩:=kB x.right (aP 8 ns' x.left);obtain⟨K2,e2⟩:=kB x.last (e7 (aP 8 ns' x.left) x.right);unfold bU;rw[e2,e1];simp[hy]));refine⟨by rw[wq wf.1 ns' eL];omega,fun r q=> ?_,fun z q=> ?_⟩
   ·rw[wq (wf.2.1 r q) (aP 8 ns' x.left) (fun y hy=>hη y (hs' y (by
     obtain⟨K2,e2⟩:=kB x.last (e7 (aP 8 ns' x.left) x.right);unfold bU;rw[e2,q];exact bO _ hy)))]
    rw[q]at hi;simp only[Option.elim]at hi;omega
   ·rw[wq (wf.2.2 z q) (e7 (aP 8 ns' x.left) x.right) (fun y hy=>hη y (hs' y (by
     unfold bU;rw[q];exact hy)))]
    rw[q]at hi;simp only[Option.elim]at hi;omega
  ·cases h
end Go.Proofs.YthfjnfcekeknlabGreatDoor
namespace Go.Proofs.YthfjnfcekeknlabGreatDoor
open Go.RowKit af
open af (U Vr dE)
variable {w' w:World} {R:Value} {F:List Nat} {b:Nat} {cls:List dE} {S0:iQ} {script:List (Int×Int)} {e:Ending} {sp sq:ByteArray} {LP LQ:List bX}
def NQ (w:World) (b:Nat) (R:Value) (en:Int) (log:List Int) (vals gols:List (List UInt8)) (wts:List Bool):Prop:=
 ∃(lo:Option Addr) (lc:Nat) (xo:Option Addr) (xc:Nat) (go:Option Addr) (gc:Nat) (yo:Option Addr) (yc:Nat),R= .agg #[.int .i64 en,.slice lo log.length lc,.slice xo vals.length xc,.slice go gols.length gc,.slice yo wts.length yc]/\w.ownsRow b 3 1 (.slice lo log.length lc) log.length (log.map jI)/\w.ownsRow b 9 1 (.slice xo vals.length xc) vals.length (vals.map lA)/\w.ownsRow b 9 1 (.slice go gols.length gc) gols.length (gols.map lA)/\w.ownsRow b 4 1 (.slice yo wts.length yc) wts.length (wts.map fun b=> .bool b)/\(∀k,rowOf xo k->¬rowOf go k)
theorem KP (hok:∀c∈cls,pV c) (h0:Mc F S0) (h:JO cls F script S0 b (.returned R) w'):∃en log vals gols wts,oR cls script (mF F S0) en log vals gols wts/\NQ w' b R en log vals gols wts:=by
 obtain⟨j,S,L,lo,lc,h1,⟨h2,xo,xc,go,gc,yo,yc,h3,h4,h5,h6,h7,h8⟩ | ⟨pg,pc,i,en,z,h2,h3,h4,h5,h6⟩⟩:=h
 ·obtain⟨m1,m2⟩:=Aw hok h0 h1;refine⟨_,L,(iF S.T F).1,(n7 S.T (iF S.T F).2 S.G).1,S.G.map (fun g=> !nJ S.fr g),⟨j,_,L,m1,ay ⟨by rw[rF];exact h2,(LH F S).symm,rfl,?_,?_,?_⟩⟩,⟨lo,lc,xo,xc,go,gc,yo,yc,?_,h4,?_,?_,?_,h8⟩⟩
  ·show _=(jj (F.map S.T)).1;rw[Dq]
  ·show _=(ux (jj (F.map S.T)).2 (mF F S).gs).1;rw[Dq,LC m2]
  ·show _=(S.G.map _).map _;rw[bQ];rfl
  ·injection h3 with h3;rw[h3,xY,Bd,bj]
  ·rw[xY];exact h5
  ·rw[Bd];exact h6
  ·rw[bj,bQ];exact h7
 ·obtain⟨m1,m2⟩:=Aw hok h0 h1;refine⟨en,L++[z],[],[],[],⟨j,_,L,m1,aw ⟨pg,pc,i,z,h2,by rw[rF];exact h3,?_,rfl,rfl,rfl,rfl⟩⟩,⟨lo,lc,none,0,none,0,none,0,?_,h6,bD _ _ _ _,bD _ _ _ _,bD _ _ _ _,(fun k ⟨_,q,_⟩=>by cases q)⟩⟩
  ·rcases h4 with⟨k1,_,k3⟩ | ⟨k1,S',k2,k3⟩
   ·exact ay ⟨Ix hok m2 k1,k3⟩
   ·obtain⟨q1,q2⟩:=Ai hok m2 k2;exact aw ⟨k1,_,q1,by rw[Ei q2];exact k3⟩
  ·injection h5
def Qf (sp:ByteArray) (LP:List bX) (sq:ByteArray) (LQ:List bX) (script:List (Int×Int)) (w:World) (e:Ending) (w':World):Prop:=
 (∃er:Nat,er≠0/\er=(if uh sp LP≠0 then uh sp LP else if 100<script.length then 1 else xk sq LQ)/\e= .returned (.tuple #[.agg #[.int .i64 0,.slice none 0 0,.slice none 0 0,.slice none 0 0,.slice none 0 0],.int .i64 (er:Int)])/\Below w.heap.size w w')\/
 (uh sp LP=0/\script.length<=100/\xk sq LQ=0/\∃(cls:List dE) (l1:List bX) (ys:List dq) (l2:List bX) (R:Value),prog 12 LP= .inr (cls,l1)/\query LQ= .inr (ys,l2)/\(∀c∈cls,pV c)/\(∀x∈ys,ml x)/\e= .returned (.tuple #[R,.int .i64 0])/\Below w.heap.size w w'/\∃(r:Nat->Nat) (P:Nat->Prop) (S0:MS) (en:Int) (log:List Int) (vals gols:List (List UInt8)) (wts:List Bool),fH r P (mQ 1 (bE [] ys) ys) S0/\oR cls script S0 en log vals gols wts/\NQ w' w.heap.size R en log vals gols wts)
theorem KI (hok:JI sp LP sq LQ) (h:Pk sp LP sq LQ script w e w'):Qf sp LP sq LQ script w e w':=by
 rcases h with h | ⟨h1,h2,h3,cls,l1,ys,l2,F,S0,R,h4,h5,h6,h7,h8,h9⟩
 ·exact ay h
 ·have hsp:sp.size<=240:=by
   unfold uh at h1;split at h1
   ·cases h1
   ·omega
  have hsq:sq.size<=96:=by
   unfold xk at h3;split at h3
   ·cases h3
   ·omega
  have hk:∀c∈cls,pV c:=fun c hc=>((hok.p cls l1 hsp h4).1 c hc).1;have hy:=(hok.q ys l2 hsq h5).1;obtain⟨p1,p2⟩:=EM h6 hy;obtain⟨en,log,vals,gols,wts,q1,q2⟩:=KP hk p1 h8;exact aw ⟨h1,h2,h3,cls,l1,ys,l2,R,h4,h5,hk,hy,h7,h9,_,_,_,en,log,vals,gols,wts,p2,q1,q2⟩
end Go.Proofs.YthfjnfcekeknlabGreatDoor
namespace af
open Go.Proofs.YthfjnfcekeknlabGreatDoor (jX)
def vn (k:Nat):U:= .v ([],k)
theorem Cg (σ:Vr->U) (k:Nat):sub σ (vn k)=σ ([],k):=rfl
theorem qk (x:Vr) (b:U):one x b x=b:=by unfold one;rw[aH rfl]
theorem Hg {x y:Vr} (b:U) (h:y≠x):one x b y= .v y:=by unfold one;rw[aG h]
theorem JU {k:Nat} {t:U} (hn:¬has ([],k) t) (ht:∀y,t≠ .v y):iw (vn k) t (one ([],k) t):=by
 refine⟨?_,fun θ h x=> ?_,fun x y h=> ?_⟩
 ·rw[Cg,qk];exact(wH hn).symm
 ·by_cases q:x=([],k)
  ·rw[q,qk];exact h.symm
  ·rw[Hg _ q];rfl
 ·by_cases q:x=([],k)
  ·rw[q,qk]at h;exact absurd h (ht y)
  ·rw[Hg _ q]at h;injection h with h;rw[h];exact⟨rfl,Qw⟩
def MG.rd (a:U) (sg:List UInt8) (b:U) (op:List UInt8) (c:U):MG:=⟨a,sg,b,op,c,false,fun _=>False⟩
theorem MH (σ:Vr->U):sub σ zU=zU:=rfl
end af
namespace af
open Go.Proofs.YthfjnfcekeknlabGreatDoor (iA jX jp)
theorem sA {r:Nat->Nat} {P:Nat->Prop} {u:U} (h:fz (PQ P) u):fz (PQ fun m=>∃k,P k/\r k=m) (fm r u):=by
 induction h with
 | @v x hx=>exact .v ⟨rfl,x.2,hx.2,rfl⟩
 | @n k tx num ss hs ih=>rw[gO];refine .n fun u hu=> ?_;obtain⟨s,hs',rfl⟩:=bu.1 hu;exact ih s hs'
theorem rD {r r' r'':Nat->Nat} {P:Nat->Prop} (h:∀k,P k->r'' (r k)=r' k) {u:U} (hu:fz (PQ P) u):fm r'' (fm r u)=fm r' u:=by
 induction hu with
 | @v x hx=>rw[mT,mT,mT,h _ hx.2]
 | @n k tx num ss hs ih=>rw[gO,gO,gO,bQ];congr 1;exact bt fun s hs'=>ih s hs'
open Classical in
theorem fH.side {r r':Nat->Nat} {P P':Nat->Prop} {S A B:MS} (h:fH r P S A) (k:fH r' P' S B) (hPP:∀n,P n->P' n):∃q Q,fH q Q A B:=by
 have hi:=rm.inj (r:=r) (P:=P) h.mono;let q:Nat->Nat:=fun m=>if hm:∃n,P n/\r n=m then r' hm.choose else 0
 have hq:∀n,P n->q (r n)=r' n:=fun n hn=>by have hm:∃n',P n'/\r n'=r n:=⟨n,hn,rfl⟩;show (if hm:∃n',P n'/\r n'=r n then r' hm.choose else 0)=_;rw[kX hm,hi _ _ hm.choose_spec.1 hn hm.choose_spec.2]
 refine⟨q,fun m=>∃n,P n/\r n=m,⟨?_,?_,?_,?_,?_,?_,?_⟩⟩
 ·rintro _ _ ⟨i,hPi,rfl⟩ ⟨j,hPj,rfl⟩ hl;rw[hq i hPi,hq j hPj];refine k.mono i j (hPP i hPi) (hPP j hPj) ?_;rcases fM i j with e | e | e
  ·exact e
  ·rw[e]at hl;omega
  ·have:=h.mono j i hPj hPi e;omega
 ·rintro _ ⟨n,hn,rfl⟩;exact h.l2 n hn
 ·rintro _ ⟨n,hn,rfl⟩;rw[hq n hn];exact k.l2 n (hPP n hn)
 ·intro u hu;rw[h.vs]at hu;obtain⟨s,hs,rfl⟩:=bu.1 hu;exact sA (h.wv s hs)
 ·intro g hg;rw[h.gs]at hg;obtain⟨s,hs,rfl⟩:=bu.1 hg;obtain⟨w1,w2,w3,w4⟩:=h.wg s hs;exact⟨sA w1,sA w2,sA w3,fun v ⟨n,hn,e⟩=>⟨n,w4 n hn,e⟩⟩
 ·rw[k.vs,h.vs,bQ];exact bt fun u hu=>(rD hq (h.wv u hu)).symm
 ·rw[k.gs,h.gs,bQ];refine bt fun g hg=> ?_;obtain⟨w1,w2,w3,w4⟩:=h.wg g hg;show MG.ren r' g=MG.ren q (MG.ren r g);unfold MG.ren;dsimp only;rw[rD hq w1,rD hq w2,rD hq w3];congr 1;funext w;refine mI ⟨fun⟨v,h1,h2⟩=>⟨r v,⟨v,h1,rfl⟩,by rw[hq v (w4 v h1)];exact h2⟩,fun⟨m,⟨v,h1,e⟩,h2⟩=>⟨v,h1,by rw[<-e,hq v (w4 v h1)]at h2;exact h2⟩⟩
section
variable {cls:List dE} {script:List (Int×Int)} {S0:MS}
theorem jk.len {j:Nat} {S:MS} {L:List Int} (h:jk cls script S0 j S L):L.length=j:=by
 induction h with
 | start=>rfl
 | step h hs hi hg hl ih=>rw[au,ih];rfl
theorem kW.vs {S S':MS} {i:Nat} {p z:Int} (h:kW cls S S' i p z):∃σ,S'.vs=S.vs.map (sub σ):=by
 have id:S.vs=S.vs.map (sub .v):=by
  conv=>lhs;rw[<-Es S.vs]
  exact bt fun u _=>(sub_self u).symm
 obtain⟨_,g,_,⟨_,_,σ,_,e,_⟩ | ⟨_,_,_,e,_⟩ | ⟨_,_,_,_,σ,_,_,e,_⟩ | ⟨_,_,_,e,_⟩ | ⟨_,_,_,_,_,_,_,_,_,_,_,_,_,_,e,_⟩ | ⟨_,_,_,_,_,_,e,_⟩⟩:=h
 ·exact⟨σ,e⟩
 ·exact⟨.v,e.trans id⟩
 ·exact⟨σ,e⟩
 ·exact⟨.v,e.trans id⟩
 ·exact⟨.v,e.trans id⟩
 ·exact⟨.v,e.trans id⟩
theorem jk.cut {j:Nat} {S:MS} {L:List Int} (h:jk cls script S0 j S L):∀k,k<=j->∃T K M,jk cls script S0 k T K/\L=K++M/\(∃σ,S.vs=T.vs.map (sub σ))/\((k=j/\T=S/\K=L)\/lB T.gs≠[]):=by
 induction h with
 | start=>
  intro k hk;obtain rfl:k=0:=by omega
  refine⟨S0,[],[],.start,rfl,⟨.v,?_⟩,ay ⟨rfl,rfl,rfl⟩⟩
  conv=>lhs;rw[<-Es S0.vs]
  exact bt fun u _=>(sub_self u).symm
 | @step j S S' L pg pc z i h hs hi hg hl ih=>
  intro k hk;by_cases q:k=j+1
  ·subst q;refine⟨S',_,[],.step h hs hi hg hl,by rw[br],⟨.v,?_⟩,ay ⟨rfl,rfl,rfl⟩⟩
   conv=>lhs;rw[<-Es S'.vs]
   exact bt fun u _=>(sub_self u).symm
  ·obtain⟨T,K,M,h1,h2,⟨σ,h3⟩,h5⟩:=ih k (by omega);obtain⟨τ,h4⟩:=hg.vs;refine⟨T,K,M++[z],h1,by rw[h2,aK],⟨fun x=>sub τ (σ x),?_⟩,aw ?_⟩
   ·rw[h4,h3,bQ];exact bt fun u _=>sub_sub σ τ u
   ·rcases h5 with⟨_,rfl,_⟩ | h5
    ·intro e;rw[e]at hi;simp at hi
    ·exact h5
theorem jk.PG {script':List (Int×Int)} {j:Nat} {S:MS} {L:List Int} (h:jk cls script S0 j S L):(∀i,i<j->script'[i]?=script[i]?)->jk cls script' S0 j S L:=by
 induction h with
 | start=>exact fun _=> .start
 | step h hs hi hg hl ih=>exact fun he=> .step (ih fun i hi=>he i (by omega)) ((he _ (by omega)).trans hs) hi hg hl
end
theorem fH.both {r r':Nat->Nat} {P P':Nat->Prop} {S A B:MS} (h:fH r P S A) (k:fH r' P' S B):∃q Q,fH q Q A B:=by have hv:∀{u:U},fz (PQ P) u->fz (PQ P') u->fz (PQ fun n=>P n/\P' n) u:=fun {u} h1 h2=>(eG u).2 fun x hx=>⟨((eG u).1 h1 x hx).1,((eG u).1 h1 x hx).2,((eG u).1 h2 x hx).2⟩;refine fH.side (r:=r) (P:=fun n=>P n/\P' n) ⟨fun i j hi hj=>h.mono i j hi.1 hj.1,fun n hn=>h.l1 n hn.1,fun n hn=>h.l2 n hn.1,fun u hu=>hv (h.wv u hu) (k.wv u hu),fun g hg=> ?_,h.vs,h.gs⟩ k fun n hn=>hn.2;obtain⟨a1,a2,a3,a4⟩:=h.wg g hg;obtain⟨b1,b2,b3,b4⟩:=k.wg g hg;exact⟨hv a1 b1,hv a2 b2,hv a3 b3,fun v hv=>⟨a4 v hv,b4 v hv⟩⟩
theorem uP:∀(gs:List MG) (a:List (List UInt8)×List Vr),(gs.foldl mO a).1.length=a.1.length+gs.length
 | [],_=>rfl
 | g :: gs,a=>by rw[bF,uP gs,aT];show (a.1++[_]).length+gs.length=_;rw[au];simp;omega
theorem wR (gs:List MG):(oK gs=1/\gs=[])\/(oK gs=2/\lB gs=[])\/(oK gs=3/\gs≠[]/\lB gs≠[]):=by
 unfold oK;by_cases h1:gs=[]
 ·rw[aH h1];exact ay ⟨rfl,h1⟩
 ·rw[aG h1];by_cases h2:lB gs=[]
  ·rw[aH h2];exact aw (ay ⟨rfl,h2⟩)
  ·rw[aG h2];exact aw (aw ⟨rfl,h1,h2⟩)
theorem wQ {gs:List MG} (h:lB gs=[]):oK gs≠3/\1<=oK gs/\oK gs<=6:=by
 rcases wR gs with⟨e,_⟩ | ⟨e,_⟩ | ⟨_,_,e⟩
 ·rw[e];decide
 ·rw[e];decide
 ·exact absurd h e
theorem ME.en {cls:List dE} {S:MS} {i:Nat} {p en:Int} (h:ME cls S i p en):en=4\/en=5:=by
 obtain⟨g,_,⟨_,e,_⟩ | ⟨_,_,⟨e,_⟩ | ⟨e,_⟩⟩ | ⟨e,_⟩⟩:=h
 ·exact ay e
 ·exact aw e
 ·exact ay e
 ·exact ay e
theorem KL {cls:List dE} (hok:∀c∈cls,pV c) {r:Nat->Nat} {P:Nat->Prop} {A B:MS} (h0:fH r P A B) {script:List (Int×Int)} {k:Nat} (hk:k<=script.length) {en en':Int} {log log':List Int} {v v' g g':List (List UInt8)} {w w':List Bool} (h1:oR cls (script.take k) A en log v g w) (h2:oR cls script B en' log' v' g' w'):
 (1<=en/\en<=6)/\((en≠3/\en'=en/\log'=log/\v'=v/\g'=g/\w'=w/\log.length<=k)\/(en=3/\(∃M,log'=log++M)/\log.length=k/\g.length=w.length/\0<g.length/\((3<en'/\v'=[]/\g'=[]/\w'=[]/\k<log'.length)\/(en'<=3/\∃(T S:MS) (K L:List Int) (j:Nat) (σ:Vr->U),jk cls script B k T K/\jk cls script B j S L/\S.vs=T.vs.map (sub σ)/\v=(jj T.vs).1/\v'=(jj S.vs).1)))):=by
 obtain⟨j,S,L,hr,he⟩:=h2;have hlen:=hr.len;have htk:(script.take k).length=k:=by rw[df];omega
 by_cases hj:k<=j
 ·obtain⟨T,K,M,hT,hL,⟨σ,hv⟩,hor⟩:=hr.cut k hj
  have hKl:=hT.len;have hT':jk cls (script.take k) B k T K:=hT.PG fun i hi=>cr hi;obtain⟨e1,e2,e3,e4,e5⟩:=oR.same hok h0 h1 ⟨k,T,K,hT',ay ⟨ay htk.symm,rfl,rfl,rfl,rfl,rfl⟩⟩;subst e1 e2 e3 e4 e5;have fin0:lB T.gs=[]->oK T.gs≠3->en'=oK T.gs/\log'=K/\v'=(jj T.vs).1/\g'=(ux (jj T.vs).2 T.gs).1/\w'=T.gs.map (·.wt):=fun hm _=>by
   rcases hor with⟨_,rfl,rfl⟩ | q
   ·rcases he with⟨_,a1,a2,a3,a4,a5⟩ | ⟨pg,pc,i,z,_,a2,_⟩
    ·exact⟨a1,a2,a3,a4,a5⟩
    ·rw[hm]at a2;simp at a2
   ·exact absurd hm q
  rcases wR T.gs with⟨e,hg⟩ | ⟨e,hm⟩ | ⟨e,hg,hm⟩
  ·have hm:lB T.gs=[]:=by rw[hg];rfl
   have hn:=wQ hm;obtain⟨a1,a2,a3,a4,a5⟩:=fin0 hm hn.1;exact⟨hn.2,ay ⟨hn.1,a1,a2,a3,a4,a5,by omega⟩⟩
  ·have hn:=wQ hm;obtain⟨a1,a2,a3,a4,a5⟩:=fin0 hm hn.1;exact⟨hn.2,ay ⟨hn.1,a1,a2,a3,a4,a5,by omega⟩⟩
  ·have hgl:(ux (jj T.vs).2 T.gs).1.length=T.gs.length:=by
    unfold ux;rw[uP];simp
   have hg0:0<T.gs.length:=jy.2 hg;refine⟨by rw[e];decide,aw ⟨e,?_,hKl,by rw[hgl,bj],by rw[hgl];exact hg0,?_⟩⟩
   ·rcases he with⟨_,_,a2,_⟩ | ⟨pg,pc,i,z,_,_,_,a4,_⟩
    ·exact⟨M,by rw[a2,hL]⟩
    ·exact⟨M++[z],by rw[a4,hL,aK]⟩
   ·rcases he with⟨_,a1,_,a3,_⟩ | ⟨pg,pc,i,z,_,_,a3,a4,a5,a6,a7⟩
    ·refine aw ⟨?_,T,S,K,L,j,σ,hT,hr,hv,rfl,a3⟩;rw[a1];rcases wR S.gs with⟨e',_⟩ | ⟨e',_⟩ | ⟨e',_⟩<;>rw[e']<;>decide
    ·refine ay ⟨?_,a5,a6,a7,by rw[a4,au,hlen];simp;omega⟩;rcases a3 with⟨a3,_⟩ | ⟨a3,_⟩
     ·rcases a3.en with q | q<;>rw[q]<;>decide
     ·rw[a3];decide
 ·have hr':jk cls (script.take k) B j S L:=hr.PG fun i hi=>cr (by omega);rcases he with⟨a0,a1,a2,a3,a4,a5⟩ | ⟨pg,pc,i,z,a1,a2,a3,a4,a5,a6,a7⟩
  ·have hm:lB S.gs=[]:=by
    rcases a0 with q | q
    ·omega
    ·exact q
   obtain⟨e1,e2,e3,e4,e5⟩:=oR.same hok h0 h1 ⟨j,S,L,hr',ay ⟨aw hm,rfl,rfl,rfl,rfl,rfl⟩⟩;have hn:=wQ hm;rw[<-e1,<-e2,<-e3,<-e4,<-e5];exact⟨hn.2,ay ⟨hn.1,a1,a2,a3,a4,a5,by omega⟩⟩
  ·obtain⟨e1,e2,e3,e4,e5⟩:=oR.same hok h0 h1 ⟨j,S,L,hr',aw ⟨pg,pc,i,z,(cr (by omega)).trans a1,a2,a3,a4,a5,a6,a7⟩⟩
   rw[<-e1,<-e2,<-e3,<-e4,<-e5];have hen:en'=4\/en'=5\/en'=6:=by
    rcases a3 with⟨a3,_⟩ | ⟨a3,_⟩
    ·rcases a3.en with q | q
     ·exact ay q
     ·exact aw (ay q)
    ·exact aw (aw a3)
   refine⟨by omega,ay ⟨by omega,rfl,rfl,rfl,rfl,rfl,?_⟩⟩;rw[a4,au,hlen];simp;omega
end af
namespace af
open Go.Proofs.YthfjnfcekeknlabGreatDoor (jX)
theorem C2 {u:U} (h:size u<=40):big u=false:=by unfold big;exact dK (by omega)
theorem MV:size zU=1:=by unfold zU;simp[size,b8]
