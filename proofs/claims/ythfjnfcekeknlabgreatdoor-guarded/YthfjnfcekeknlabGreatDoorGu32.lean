import Derived.Test.YthfjnfcekeknlabGreatDoorGu30
import Derived.Deep.LoopGhost
set_option maxHeartbeats 8000000
set_option maxRecDepth 100000
namespace Zf
open Go.Proofs.YthfjnfcekeknlabGreatDoor (fh dB gu)
def MG.ren (r:Nat→Nat) (g:MG):MG:=⟨bl r g.a,g.sg,bl r g.b,g.op,bl r g.c,g.wt,fun w=>∃v,g.on v∧r v=w⟩
structure qK (P:Nat→Prop) (g:MG):Prop where
 a:bB (PQ P) g.a
 b:bB (PQ P) g.b
 c:bB (PQ P) g.c
 on:∀v,g.on v→P v
structure eP (r:Nat→Nat) (P:Nat→Prop) (S S':MS):Prop where
 mono:∀i j,P i→P j→i<j→r i<r j
 l1:∀k,P k→k<S.lim
 l2:∀k,P k→r k<S'.lim
 wv:∀u∈S.vs,bB (PQ P) u
 wg:∀g∈S.gs,qK P g
 vs:S'.vs=S.vs.map (bl r)
 gs:S'.gs=S.gs.map (MG.ren r)
def pJ (r:Nat→Nat) (P:Nat→Prop):Prop:=∀i j,P i→P j→i<j→r i<r j
theorem pJ.inj {r:Nat→Nat} {P:Nat→Prop} (h:pJ r P):ie r P:=fun i j hi hj e=>by
 rcases Nat.lt_trichotomy i j with q | q | q
 ·have:=h i j hi hj q;omega
 ·exact q
 ·have:=h j i hj hi q;omega
theorem fF.rn {r:Nat→Nat} {P:Nat→Prop} (hm:pJ r P) {a b:U} {σ τ:Vr→U} (h:fF a b σ) (k:fF (bl r a) (bl r b) τ) (ha:bB (PQ P) a) (hb:bB (PQ P) b) {u:U} (hu:bB (PQ P) u):sub τ (bl r u)=bl r (sub σ u):=
 h.ren (ρ:=Zf.rn r) (Q:=PQ P) (fun x y hx hy e=>hm.inj.on x y hx hy e) (fun x y hx hy _ hl=>⟨rfl,by
  show r y.2≤r x.2
  rcases Nat.lt_or_eq_of_le hl with q | q
  ·exact Nat.le_of_lt (hm _ _ hy.2 hx.2 q)
  ·rw[q];exact Nat.le_refl _⟩) ((eX a).1 ha) ((eX b).1 hb) k u ((eX u).1 hu)
theorem fF.tY {Q:Vr→Prop} {a b:U} {σ:Vr→U} (h:fF a b σ) (ha:bB Q a) (hb:bB Q b) {u:U} (hu:bB Q u):bB Q (sub σ u):=by
 induction hu with
 | @v x hx=>
  refine(eX _).2 fun z hz=> ?_
  rcases h.vars hz with q | q | q
  ·rw[q];exact hx
  ·exact(eX a).1 ha z q
  ·exact(eX b).1 hb z q
 | @n k tx num ss hs ih=>
  rw[ej]
  refine .n fun u hu=> ?_
  obtain⟨s,hs',rfl⟩:=List.mem_map.1 hu
  exact ih s hs'
theorem EM {r:Nat→Nat} {P:Nat→Prop} (hm:pJ r P) {a b:U} {σ τ:Vr→U} (h:fF a b σ) (k:fF (bl r a) (bl r b) τ) (ha:bB (PQ P) a) (hb:bB (PQ P) b) {g:MG} (hg:qK P g):MG.put τ (MG.ren r g)=MG.ren r (MG.put σ g)∧qK P (MG.put σ g):=by
 have hs:(MG.ren r g).stays τ↔g.stays σ:=by
  refine⟨fun q=>⟨q.1,fun v hv=> ?_⟩,fun q=>⟨q.1,fun w hw=> ?_⟩⟩
  ·have e:τ ([],r v)= .v ([],r v):=q.2 (r v) ⟨v,hv,rfl⟩
   have e2:τ ([],r v)=bl r (σ ([],v)):=h.rn hm k ha hb (u:= .v ([],v)) (.v ⟨rfl,hg.on v hv⟩)
   rw[e]at e2
   have hin:bB (PQ P) (σ ([],v)):=h.tY ha hb (u:= .v ([],v)) (.v ⟨rfl,hg.on v hv⟩)
   generalize σ ([],v)=s at e2 hin
   cases s with
   | n kk tx num ss=>rw[fR]at e2;cases e2
   | v z=>
    rw[p8]at e2
    injection e2 with e2
    injection e2 with _ e2
    have:=hm.inj _ _ (hg.on v hv) hin.var.2 e2
    congr 1
    exact Prod.ext hin.var.1 this.symm
  ·obtain⟨v,hv,rfl⟩:=hw
   have e2:τ ([],r v)=bl r (σ ([],v)):=h.rn hm k ha hb (u:= .v ([],v)) (.v ⟨rfl,hg.on v hv⟩)
   rw[e2,q.2 v hv]
   rfl
 refine⟨?_,⟨h.tY ha hb hg.a,h.tY ha hb hg.b,h.tY ha hb hg.c,fun v hv=>hg.on v hv.2⟩⟩
 unfold MG.put
 have e1:(MG.ren r g).a=bl r g.a:=rfl
 have e2:(MG.ren r g).b=bl r g.b:=rfl
 have e3:(MG.ren r g).c=bl r g.c:=rfl
 rw[e1,e2,e3,h.rn hm k ha hb hg.a,h.rn hm k ha hb hg.b,h.rn hm k ha hb hg.c]
 unfold MG.ren at hs⊢
 dsimp only at hs⊢
 congr 1
 ·exact decide_eq_decide.2 hs
 ·funext w
  apply propext
  constructor
  ·rintro⟨q1,v,q2,q3⟩
   exact⟨v,⟨hs.1 q1,q2⟩,q3⟩
  ·rintro⟨v,⟨q1,q2⟩,q3⟩
   exact⟨hs.2 q1,v,q2,q3⟩
theorem EN {r:Nat→Nat} {P:Nat→Prop} (hi:ie r P) {a b:U} (ha:bB (PQ P) a) (hb:bB (PQ P) b) (h:∀θ,sub θ (bl r a)≠sub θ (bl r b)):∀θ,sub θ a≠sub θ b:=by
 classical
 refine PN (ρ:=Zf.rn r) (ρ':=fun w=>if q:∃v,PQ P v∧Zf.rn r v=w then Classical.choose q else w) (fun v hv=> ?_) h
 have hp:PQ P v:=by
  rcases hv with q | q
  ·exact(eX a).1 ha v q
  ·exact(eX b).1 hb v q
 have q:∃z,PQ P z∧Zf.rn r z=Zf.rn r v:=⟨v,hp,rfl⟩
 rw[dif_pos q]
 exact hi.on _ _ (Classical.choose_spec q).1 hp (Classical.choose_spec q).2
theorem MC {r:Nat→Nat} {a b:U} (h:∀θ,sub θ a≠sub θ b):∀θ,sub θ (bl r a)≠sub θ (bl r b):=fun θ e=>by
 unfold bl at e
 rw[sub_sub,sub_sub]at e
 exact h _ e
theorem tP.parts {x:aD} (h:tP x) (ns:List (List UInt8)):∀t,(t=x.left∨x.right=some t∨x.last=some t)→wfK 8 t∧∃ns',∀y∈namesF 8 ns' t,y∈aL ns x:=fun t ht=>by
 have hO:∀(t:Option Tm) (ns:List (List UInt8)),∀y∈ns,y∈cL ns t:=fun t ns y hy=>by
  cases t with
  | none=>exact hy
  | some r=>
   obtain⟨K,hK⟩:=namesV_ext 8 r ns
   show y∈namesF 8 ns r
   rw[hK];exact List.mem_append_left _ hy
 rcases ht with q | q | q
 ·subst q;exact⟨h.wl,ns,fun y hy=>hO _ _ y (hO _ _ y hy)⟩
 ·refine⟨?_,namesF 8 ns x.left,fun y hy=>hO _ _ y (by rw[q];exact hy)⟩
  by_cases e:x.sign=[]
  ·rw[h.r0 e]at q;cases q
  ·obtain⟨r,h1,h2⟩:=h.r1 e
   rw[h1]at q;cases q;exact h2
 ·refine⟨?_,cL (namesF 8 ns x.left) x.right,fun y hy=>by unfold aL;rw[q];exact hy⟩
  by_cases e:x.op=[]
  ·rw[h.z0 e]at q;cases q
  ·obtain⟨r,h1,h2⟩:=h.z1 e
   rw[h1]at q;cases q;exact h2
theorem JT {r:Nat→Nat} {η θ:List UInt8→U} {x:aD} (h:tP x) (ns:List (List UInt8)) (hy:∀y∈aL ns x,θ y=bl r (η y)):MG.of θ x=MG.ren r (MG.of η x):=by
 have hp:∀t,(t=x.left∨x.right=some t∨x.last=some t)→bJ θ 8 t=bl r (bJ η 8 t):=fun t ht=>by
  obtain⟨h1,ns',h2⟩:=h.parts ns t ht
  rw[gN (θ:=fun y=>bl r (η y)) 8 t ns' h1 (fun y q=>hy y (h2 y q)),uH r η 8 t h1]
 unfold MG.of MG.ren
 dsimp only
 rw[hp x.left (Or.inl rfl)]
 congr 1
 ·cases e:x.right with
  | none=>exact(GQ r).symm
  | some t=>exact hp t (Or.inr (Or.inl e))
 ·cases e:x.last with
  | none=>exact(GQ r).symm
  | some t=>exact hp t (Or.inr (Or.inr e))
 ·funext w
  apply propext
  constructor
  ·intro q;exact q.elim
  ·rintro⟨_,q,_⟩;exact q.elim
theorem N8 {P:Nat→Prop} {η:List UInt8→U} {x:aD} (h:tP x) (ns:List (List UInt8)) (hy:∀y∈aL ns x,bB (PQ P) (η y)):qK P (MG.of η x):=by
 have hp:∀t,(t=x.left∨x.right=some t∨x.last=some t)→bB (PQ P) (bJ η 8 t):=fun t ht=>by
  obtain⟨h1,ns',h2⟩:=h.parts ns t ht
  exact py 8 t ns' h1 fun y q=>hy y (h2 y q)
 refine⟨hp x.left (Or.inl rfl),?_,?_,fun v q=>q.elim⟩
 ·show bB (PQ P) (x.right.elim zU (bJ η 8))
  cases e:x.right with
  | none=>exact GR _
  | some t=>exact hp t (Or.inr (Or.inl e))
 ·show bB (PQ P) (x.last.elim zU (bJ η 8))
  cases e:x.last with
  | none=>exact GR _
  | some t=>exact hp t (Or.inr (Or.inr e))
theorem MD {r:Nat→Nat} {P:Nat→Prop} (hm:pJ r P) {l1 l2:Nat} (h1:∀k,P k→k<l1) (h2:∀k,P k→r k<l2) {F F':List Nat} (hl:F.length=F'.length) (hF:F.Pairwise (·<·)) (hF':F'.Pairwise (·<·)) (hf:∀f∈F,l1≤f) (hf':∀f∈F',l2≤f):∃r':Nat→Nat,pJ r' (fun k=>P k∨k∈F)∧(∀k,P k→r' k=r k)∧(∀k,k<F.length→r' ((F[k]?).getD 0)=(F'[k]?).getD 0)∧(∀f∈F,r' f∈F'):=by
 have hnd:∀i (hi:i<F.length),F.idxOf F[i]=i:=fun i hi=>by
  have hk:F.idxOf F[i]<F.length:=List.idxOf_lt_length_of_mem (List.getElem_mem hi)
  have he:F[F.idxOf F[i]]=F[i]:=List.getElem_idxOf hk
  rcases Nat.lt_trichotomy (F.idxOf F[i]) i with q | q | q
  ·have:=List.pairwise_iff_getElem.1 hF _ _ hk hi q;omega
  ·exact q
  ·have:=List.pairwise_iff_getElem.1 hF _ _ hi hk q;omega
 refine⟨fun k=>if k<l1 then r k else(F'[F.idxOf k]?).getD 0,?_,fun k hk=>if_pos (h1 k hk),fun k hk=> ?_,fun f YF=> ?_⟩
 ·have hat:∀i (hi:i<F.length),(if F[i]<l1 then r F[i]else(F'[F.idxOf F[i]]?).getD 0)=F'[i]'(by omega):=fun i hi=>by
   have:=hf _ (List.getElem_mem hi)
   rw[if_neg (by omega),hnd i hi,List.getElem?_eq_getElem (by omega)]
   rfl
  intro i j hi hj hij
  dsimp only
  rcases hi with hi | hi<;>rcases hj with hj | hj
  ·rw[if_pos (h1 i hi),if_pos (h1 j hj)];exact hm i j hi hj hij
  ·obtain⟨b,hb,rfl⟩:=List.getElem_of_mem hj
   rw[hat b hb,if_pos (h1 i hi)]
   have:=h2 i hi
   have:=hf' _ (List.getElem_mem (show b<F'.length by omega))
   omega
  ·have:=hf i hi
   have:=h1 j hj
   omega
  ·obtain⟨a,ha,rfl⟩:=List.getElem_of_mem hi
   obtain⟨b,hb,rfl⟩:=List.getElem_of_mem hj
   rw[hat a ha,hat b hb]
   have:a<b:=by
    rcases Nat.lt_trichotomy a b with q | q | q
    ·exact q
    ·subst q;omega
    ·have:=List.pairwise_iff_getElem.1 hF _ _ hb ha q;omega
   exact List.pairwise_iff_getElem.1 hF' _ _ _ _ this
 ·have hm':=hf _ (List.getElem_mem hk)
  rw[List.getElem?_eq_getElem hk]
  dsimp only[Option.getD_some]
  rw[if_neg (by omega),hnd k hk]
 ·obtain⟨a,ha,rfl⟩:=List.getElem_of_mem YF
  have:=hf _ (List.getElem_mem ha)
  dsimp only
  rw[if_neg (by omega),hnd a ha,List.getElem?_eq_getElem (by omega)]
  exact List.getElem_mem _
theorem MG.JU {r r':Nat→Nat} {P:Nat→Prop} (h:∀k,P k→r' k=r k) {g:MG} (hg:qK P g):MG.ren r' g=MG.ren r g:=by
 unfold MG.ren
 rw[lU h hg.a,lU h hg.b,lU h hg.c]
 congr 1
 funext w
 apply propext
 constructor
 ·rintro⟨v,q1,q2⟩;exact⟨v,q1,by rw[←h v (hg.on v q1)];exact q2⟩
 ·rintro⟨v,q1,q2⟩;exact⟨v,q1,by rw[h v (hg.on v q1)];exact q2⟩
theorem qK.mono {P P':Nat→Prop} (h:∀k,P k→P' k) {g:MG} (hg:qK P g):qK P' g:=⟨hg.a.mono fun _ hx=>⟨hx.1,h _ hx.2⟩,hg.b.mono fun _ hx=>⟨hx.1,h _ hx.2⟩,hg.c.mono fun _ hx=>⟨hx.1,h _ hx.2⟩,fun v hv=>h v (hg.on v hv)⟩
theorem iP {α β:Type} (f:α→β):∀(l:List α) (i:Nat),(l.map f).eraseIdx i=(l.eraseIdx i).map f
 | [],_=>by simp
 | a :: l,0=>by simp
 | a :: l,i+1=>by simp[iP f l i]
section
variable {cls:List aI} {r:Nat→Nat} {P:Nat→Prop} {S S':MS}
theorem eP.at {i:Nat} {g g':MG} (h:eP r P S S') (hg:S.gs[i]?=some g) (hg':S'.gs[i]?=some g'):g'=MG.ren r g∧qK P g:=by
 rw[h.gs,List.getElem?_map,hg]at hg'
 exact⟨(Option.some.inj hg').symm,h.wg g (List.mem_of_getElem? hg)⟩
theorem oG.same {g:MG} {p:Int} {n n':Nat} {a a':Nat→Nat} (h:oG cls g p n a) (k:oG cls (MG.ren r g) p n' a'):n'=n∧a'=a:=by
 obtain⟨_,tx,us,h1,_,h2,h3⟩:=h
 obtain⟨_,tx',us',k1,_,k2,k3⟩:=k
 have:bl r g.a= .n 1 tx' 0 us':=k1
 rw[h1,fR]at this
 injection this with _ e1 _ e2
 subst e1 e2
 rw[List.length_map]at k2 k3
 have en:n'=n:=k2.trans h2.symm
 subst en
 exact⟨rfl,k3.trans h3.symm⟩
theorem oG.back {g:MG} {p:Int} {n':Nat} {a':Nat→Nat} (k:oG cls (MG.ren r g) p n' a'):oG cls g p n' a':=by
 obtain⟨k0,tx,us,k1,k2,k3,k4⟩:=k
 have k1':bl r g.a= .n 1 tx 0 us:=k1
 refine⟨k0,?_⟩
 cases hg:g.a with
 | v x=>rw[hg,p8]at k1';cases k1'
 | n kk tx' num ss=>
  rw[hg,fR]at k1'
  injection k1' with e1 e2 e3 e4
  subst e1 e2 e3 e4
  rw[List.length_map]at k3 k4
  exact⟨tx',ss,rfl,fun q=>k2 ⟨q.1,by rw[q.2];rfl⟩,k3,k4⟩
theorem eP.tZ (h:eP r P S S') (hok:∀c∈cls,jN c) {g:MG} (hg:qK P g) {i:Nat} {c:aI} (hc:cls[i]?=some c):(bI S'.lim (bl r g.a) c).1=(bI S.lim g.a c).1∧(bI S'.lim (bl r g.a) c).2=(bI S.lim g.a c).2.map r∧∀v∈(bI S.lim g.a c).2,P v:=C4 (pJ.inj h.mono) h.l1 h.l2 hg.a (hok c (List.mem_of_getElem? hc)).ts
theorem eP.SH {S1 S1':MS} (h:eP r P S S') (hl:S.lim≤S1.lim) (hl':S'.lim≤S1'.lim) {a b:U} {σ τ:Vr→U} (hs:fF a b σ) (ht:fF (bl r a) (bl r b) τ) (ha:bB (PQ P) a) (hb:bB (PQ P) b) {i:Nat} (v1:S1.vs=S.vs.map (sub σ)) (g1:S1.gs=(S.gs.eraseIdx i).map (MG.put σ)) (v2:S1'.vs=S'.vs.map (sub τ)) (g2:S1'.gs=(S'.gs.eraseIdx i).map (MG.put τ)):eP r P S1 S1':=by
 refine⟨h.mono,fun k hk=>Nat.lt_of_lt_of_le (h.l1 k hk) hl,fun k hk=>Nat.lt_of_lt_of_le (h.l2 k hk) hl',fun u hu=> ?_,fun g hg=> ?_,?_,?_⟩
 ·rw[v1]at hu
  obtain⟨w,hw,rfl⟩:=List.mem_map.1 hu
  exact hs.tY ha hb (h.wv w hw)
 ·rw[g1]at hg
  obtain⟨w,hw,rfl⟩:=List.mem_map.1 hg
  exact(EM h.mono hs ht ha hb (h.wg w (List.mem_of_mem_eraseIdx hw))).2
 ·rw[v2,v1,h.vs,List.map_map,List.map_map]
  exact List.map_congr_left fun u hu=>hs.rn h.mono ht ha hb (h.wv u hu)
 ·rw[g2,g1,h.gs,iP,List.map_map,List.map_map]
  exact List.map_congr_left fun u hu=>(EM h.mono hs ht ha hb (h.wg u (List.mem_of_mem_eraseIdx hu))).1
theorem eP.sets {S1 S1':MS} (h:eP r P S S') (hl:S.lim≤S1.lim) (hl':S'.lim≤S1'.lim) {i:Nat} {g g':MG} (hw:qK P g) (he:g'=MG.ren r g) (v1:S1.vs=S.vs) (g1:S1.gs=S.gs.set i g) (v2:S1'.vs=S'.vs) (g2:S1'.gs=S'.gs.set i g'):eP r P S1 S1':=by
 refine⟨h.mono,fun k hk=>Nat.lt_of_lt_of_le (h.l1 k hk) hl,fun k hk=>Nat.lt_of_lt_of_le (h.l2 k hk) hl',by rw[v1];exact h.wv,fun x hx=> ?_,by rw[v2,v1];exact h.vs,by rw[g2,g1,h.gs,he,List.map_set]⟩
 rw[g1]at hx
 rcases List.mem_or_eq_of_mem_set hx with q | q
 ·exact h.wg x q
 ·rw[q];exact hw
theorem oN {g:MG} (hm:ie r P) (hg:qK P g):(fp (MG.ren r g).op (MG.ren r g).b (MG.ren r g).c).wt=(fp g.op g.b g.c).wt.map r∧∀v∈(fp g.op g.b g.c).wt,P v:=by
 have:=Pk hm g.op hg.b (fun _=>hg.c)
 refine⟨by show (fp g.op (bl r g.b) (bl r g.c)).wt=_;rw[this];rfl,?_⟩
 have hin:(fp g.op g.b g.c).fo (PQ P):=by
  unfold fp
  split
  ·exact(dH _).aU hg.b
  ·exact((dH _).aU hg.b).aU hg.c
 exact hin.at
theorem eP.step (h:eP r P S S') (hok:∀c∈cls,jN c) {S1 S1':MS} {i:Nat} {p z z':Int} (hs:nr cls S S1 i p z) (ht:nr cls S' S1' i p z'):z'=z∧∃r' P',eP r' P' S1 S1':=by
 obtain⟨hl,g,hg,hs⟩:=hs
 obtain⟨hl',g',hg',ht⟩:=ht
 obtain⟨rfl,hw⟩:=h.at hg hg'
 have e0:(MG.ren r g).sg=g.sg:=rfl
 have hi:=pJ.inj h.mono
 rcases hs with⟨s1,rfl,σ,s2,s3,s4⟩ | ⟨s1,rfl,s2,s3,s4⟩ | ⟨s1,rfl,s2,x,σ,s3,s4,s5,s6⟩ | ⟨s1,rfl,s2,s3,s4⟩ | ⟨n,a,s1,t,c,F,s2,s3,s4,s5,rfl,s6,s7,s8,s9,s10⟩ | ⟨n,a,s1,rfl,s2,s3,s4,s5⟩
 ·rcases ht with⟨t1,rfl,τ,t2,t3,t4⟩ | ⟨t1,_⟩ | ⟨t1,_⟩ | ⟨t1,_⟩ | ⟨n',a',⟨t1,_⟩,_⟩ | ⟨n',a',⟨t1,_⟩,_⟩
  ·exact⟨rfl,r,P,h.SH hl hl' s2 t2 hw.a hw.b s3 s4 t3 t4⟩
  all_goals (rw[e0,s1]at t1;cases t1)
 ·rcases ht with⟨t1,_⟩ | ⟨t1,rfl,t2,t3,t4⟩ | ⟨t1,_,t2,_⟩ | ⟨t1,_⟩ | ⟨n',a',⟨t1,_⟩,_⟩ | ⟨n',a',⟨t1,_⟩,_⟩
  ·rw[e0,s1]at t1;cases t1
  ·refine⟨rfl,r,P,h.sets hl hl' ?_ ?_ s3 s4 t3 t4⟩
   ·exact⟨hw.a,hw.b,hw.c,(oN hi hw).2⟩
   ·unfold MG.ren
    dsimp only
    congr 1
    funext w
    apply propext
    have:=(oN hi hw).1
    unfold MG.ren at this
    dsimp only at this
    rw[this,List.mem_map]
  ·exfalso
   rw[(oN hi hw).1]at t2
   exact s2 (List.map_eq_nil_iff.1 t2)
  all_goals (rw[e0,s1]at t1;cases t1)
 ·rcases ht with⟨t1,_⟩ | ⟨t1,rfl,t2,_⟩ | ⟨t1,rfl,t2,x',τ,t3,t4,t5,t6⟩ | ⟨t1,_⟩ | ⟨n',a',⟨t1,_⟩,_⟩ | ⟨n',a',⟨t1,_⟩,_⟩
  ·rw[e0,s1]at t1;cases t1
  ·exfalso
   rw[(oN hi hw).1,s2]at t2
   exact t2 rfl
  ·have ev:fh g.op (bl r g.b) (bl r g.c)=some x':=t3
   rw[rC,s3]at ev
   cases ev
   exact⟨rfl,r,P,h.SH hl hl' s4 (by rw[fR];exact t4) hw.a (.n fun a ha=>by cases ha) s5 s6 t5 t6⟩
  all_goals (rw[e0,s1]at t1;cases t1)
 ·rcases ht with⟨t1,_⟩ | ⟨t1,_⟩ | ⟨t1,_⟩ | ⟨t1,rfl,t2,t3,t4⟩ | ⟨n',a',t1,_⟩ | ⟨n',a',t1,_⟩
  ·rw[e0,s1]at t1;cases t1
  ·rw[e0,s1]at t1;cases t1
  ·rw[e0,s1]at t1;cases t1
  ·refine⟨rfl,r,P,⟨h.mono,fun k hk=>Nat.lt_of_lt_of_le (h.l1 k hk) hl,fun k hk=>Nat.lt_of_lt_of_le (h.l2 k hk) hl',by rw[s3];exact h.wv,fun x hx=> ?_,by rw[t3,s3];exact h.vs,by rw[t4,s4,h.gs,iP]⟩⟩
   rw[s4]at hx
   exact h.wg x (List.mem_of_mem_eraseIdx hx)
  all_goals
   obtain⟨_,tx,us,t2,t3,_⟩:=t1.back
   rw[s2]at t2
   injection t2 with _ e1 _ e2
   exact absurd ⟨e1.symm,e2.symm⟩ t3
 ·rcases ht with⟨t1,_⟩ | ⟨t1,_⟩ | ⟨t1,_⟩ | ⟨t1,_,t2,_⟩ | ⟨n',a',t1,t',c',F',t2,t3,t4,t5,rfl,t6,t7,t8,t9,t10⟩ | ⟨n',a',t1,_,t2,_⟩
  ·rw[e0,s1.1]at t1;cases t1
  ·rw[e0,s1.1]at t1;cases t1
  ·rw[e0,s1.1]at t1;cases t1
  ·exfalso
   obtain⟨_,tx,us,q2,q3,_⟩:=s1
   have t2':bl r g.a= .n 1 [116,114,117,101] 0 []:=t2
   rw[q2,fR]at t2'
   injection t2' with _ e1 _ e2
   exact q3 ⟨e1,List.map_eq_nil_iff.1 e2⟩
  ·obtain⟨rfl,rfl⟩:=s1.same t1
   have et:t'=t:=by
    rcases Nat.lt_trichotomy t' t with q | q | q
    ·have:=s3 t' c' q t4
     rw[←(h.tZ hok hw t4).1]at this
     exact absurd t5 this
    ·exact q
    ·have:=t3 t c q s4
     have e1:(bI S'.lim (MG.ren r g).a c).1=_:=(h.tZ hok hw s4).1
     rw[e1]at this
     exact absurd s5 this
   subst et
   rw[s4]at t4
   cases t4
   have hcm:=hok c (List.mem_of_getElem? s4)
   obtain⟨r',m',o1,o2,o3⟩:=MD h.mono h.l1 h.l2 (F:=F) (F':=F') (by omega) s7 t7 (fun f hf=>(s8 f hf).1) (fun f hf=>(t8 f hf).1)
   have qp:∀y∈NG c,y∉NH c→(NG c).idxOf y - (NH c).length<F.length:=fun y hy hn=>by
    have:=GP hy hn
    omega
   have Gs:∀y∈NG c,di (bl r g.a) c (fun k=>(F'[k]?).getD 0) y=bl r' (di g.a c (fun k=>(F[k]?).getD 0) y):=fun y hy=>wE hi o1 hw.a fun hn=>o2 _ (qp y hy hn)
   have hin:∀y∈NG c,bB (PQ fun k=>P k∨k∈F) (di g.a c (fun k=>(F[k]?).getD 0) y):=fun y hy=>yN (fun k hk=>Or.inl hk) hw.a fun hn=>Or.inr (by
    have:=qp y hy hn
    rw[List.getElem?_eq_getElem this]
    exact List.getElem_mem _)
   refine⟨rfl,r',fun k=>P k∨k∈F,⟨m',fun k hk=> ?_,fun k hk=> ?_,fun u hu=> ?_,fun x hx=> ?_,?_,?_⟩⟩
   ·rcases hk with q | q
    ·exact Nat.lt_of_lt_of_le (h.l1 k q) hl
    ·exact(s8 k q).2
   ·rcases hk with q | q
    ·rw[o1 k q];exact Nat.lt_of_lt_of_le (h.l2 k q) hl'
    ·exact(t8 _ (o3 k q)).2
   ·rw[s9]at hu
    exact(h.wv u hu).mono fun x hx=>⟨hx.1,Or.inl hx.2⟩
   ·rw[s10]at hx
    rcases List.mem_append.1 hx with q | q
    ·exact(h.wg x (List.mem_of_mem_eraseIdx q)).mono fun k hk=>Or.inl hk
    ·obtain⟨y,hy,rfl⟩:=List.mem_map.1 q
     obtain⟨ns,hn⟩:=fA c.goals (NT c) y hy
     exact N8 (hcm.gs y hy) ns fun z hz=>hin z (hn z hz)
   ·rw[t9,s9,h.vs]
    exact List.map_congr_left fun u hu=>(lU o1 (h.wv u hu)).symm
   ·rw[t10,s10,h.gs,iP,List.map_append,List.map_map]
    congr 1
    ·exact List.map_congr_left fun u hu=>(MG.JU o1 (h.wg u (List.mem_of_mem_eraseIdx hu))).symm
    ·refine List.map_congr_left fun y hy=> ?_
     obtain⟨ns,hn⟩:=fA c.goals (NT c) y hy
     exact JT (hcm.gs y hy) ns fun z hz=>Gs z (hn z hz)
  ·exfalso
   obtain⟨rfl,rfl⟩:=s1.same t1
   have:=t2 t c s2 s4
   have e1:(bI S'.lim (MG.ren r g).a c).1=_:=(h.tZ hok hw s4).1
   rw[e1]at this
   exact this s5
 ·rcases ht with⟨t1,_⟩ | ⟨t1,_⟩ | ⟨t1,_⟩ | ⟨t1,_,t2,_⟩ | ⟨n',a',t1,t',c',F',t2,t3,t4,t5,_⟩ | ⟨n',a',t1,rfl,t2,t3,t4,t5⟩
  ·rw[e0,s1.1]at t1;cases t1
  ·rw[e0,s1.1]at t1;cases t1
  ·rw[e0,s1.1]at t1;cases t1
  ·exfalso
   obtain⟨_,tx,us,q2,q3,_⟩:=s1
   have t2':bl r g.a= .n 1 [116,114,117,101] 0 []:=t2
   rw[q2,fR]at t2'
   injection t2' with _ e1 _ e2
   exact q3 ⟨e1,List.map_eq_nil_iff.1 e2⟩
  ·exfalso
   obtain⟨rfl,rfl⟩:=s1.same t1
   have:=s2 t' c' t2 t4
   rw[←(h.tZ hok hw t4).1]at this
   exact this t5
  ·obtain⟨rfl,rfl⟩:=s1.same t1
   refine⟨rfl,r,P,h.sets hl hl' ?_ ?_ s4 s5 t4 t5⟩
   ·refine⟨hw.a,hw.b,hw.c,fun v hv=> ?_⟩
    obtain⟨t,c,_,q2,_,q4⟩:=hv
    exact(h.tZ hok hw q2).2.2 v q4
   ·unfold MG.ren
    dsimp only
    congr 1
    funext w
    apply propext
    constructor
    ·rintro⟨t,c,q1,q2,q3,q4⟩
     have ha:=h.tZ hok hw q2
     rw[ha.1]at q3
     rw[ha.2.1]at q4
     obtain⟨v,hv,e⟩:=List.mem_map.1 q4
     exact⟨v,⟨t,c,q1,q2,q3,hv⟩,e⟩
    ·rintro⟨v,⟨t,c,q1,q2,q3,q4⟩,rfl⟩
     have ha:=h.tZ hok hw q2
     exact⟨t,c,q1,q2,ha.1.trans q3,by rw[ha.2.1];exact List.mem_map_of_mem q4⟩
end
end Zf
namespace Zf
open Go.Proofs.YthfjnfcekeknlabGreatDoor (fh dB gu)
section
variable {cls:List aI} {r:Nat→Nat} {P:Nat→Prop} {S S':MS}
theorem eP.N9 (h:eP r P S S') (hok:∀c∈cls,jN c) {S1:MS} {i:Nat} {p z en:Int} (hs:nr cls S S1 i p z) (ht:EJ cls S' i p en):False:=by
 obtain⟨_,g,hg,hs⟩:=hs
 obtain⟨g',hg',ht⟩:=ht
 obtain⟨rfl,hw⟩:=h.at hg hg'
 have e0:(MG.ren r g).sg=g.sg:=rfl
 have hi:=pJ.inj h.mono
 rcases ht with⟨t1,_,t2⟩ | ⟨t1,t2,t3⟩ | ⟨_,n',a',t1,t2⟩
 ·rcases hs with⟨s1,_,σ,s2,_⟩ | ⟨s1,_⟩ | ⟨s1,_⟩ | ⟨s1,_⟩ | ⟨_,_,⟨s1,_⟩,_⟩ | ⟨_,_,⟨s1,_⟩,_⟩
  ·exact EN hi hw.a hw.b t2 σ s2.one
  all_goals (rw[e0,s1]at t1;cases t1)
 ·rw[(oN hi hw).1]at t2
  have t2':=List.map_eq_nil_iff.1 t2
  have ev:fh (MG.ren r g).op (MG.ren r g).b (MG.ren r g).c=fh g.op g.b g.c:=rC r g.op g.b g.c
  rw[ev]at t3
  rcases hs with⟨s1,_⟩ | ⟨s1,_,s2,_⟩ | ⟨s1,_,s2,x,σ,s3,s4,_⟩ | ⟨s1,_⟩ | ⟨_,_,⟨s1,_⟩,_⟩ | ⟨_,_,⟨s1,_⟩,_⟩
  ·rw[e0,s1]at t1;cases t1
  ·exact s2 t2'
  ·rcases t3 with⟨_,q⟩ | ⟨_,x',q1,q2⟩
   ·rw[s3]at q;cases q
   ·rw[s3]at q1
    cases q1
    refine EN hi hw.a (b:= .n 3 [] x []) (.n fun a ha=>by cases ha) (fun θ q=> ?_) σ s4.one
    rw[fR,List.map_nil,ej,List.map_nil]at q
    exact q2 θ q
  all_goals (rw[e0,s1]at t1;cases t1)
 ·rcases hs with⟨s1,_⟩ | ⟨s1,_⟩ | ⟨s1,_⟩ | ⟨s1,_,s2,_⟩ | ⟨n,a,s1,t,c,F,s2,s3,s4,s5,_⟩ | ⟨n,a,s1,_,s2,⟨t,c,s3,s4,s5⟩,_⟩
  ·have:=t1.1;rw[e0,s1]at this;cases this
  ·have:=t1.1;rw[e0,s1]at this;cases this
  ·have:=t1.1;rw[e0,s1]at this;cases this
  ·obtain⟨_,tx,us,q2,q3,_⟩:=t1.back
   rw[s2]at q2
   injection q2 with _ e1 _ e2
   exact q3 ⟨e1.symm,e2.symm⟩
  ·obtain⟨rfl,rfl⟩:=s1.same t1
   have:=t2 t c s2 s4
   have e1:(bI S'.lim (MG.ren r g).a c).1=_:=(h.tZ hok hw s4).1
   rw[e1,s5]at this
   cases this
  ·obtain⟨rfl,rfl⟩:=s1.same t1
   have:=t2 t c s3 s4
   have e1:(bI S'.lim (MG.ren r g).a c).1=_:=(h.tZ hok hw s4).1
   rw[e1,s5]at this
   cases this
theorem eP.Oa (h:eP r P S S') (hok:∀c∈cls,jN c) {S1:MS} {i:Nat} {p z en:Int} (ht:EJ cls S i p en) (hs:nr cls S' S1 i p z):False:=by
 obtain⟨_,g',hg',hs⟩:=hs
 obtain⟨g,hg,ht⟩:=ht
 obtain⟨rfl,hw⟩:=h.at hg hg'
 have e0:(MG.ren r g).sg=g.sg:=rfl
 have hi:=pJ.inj h.mono
 rcases ht with⟨t1,_,t2⟩ | ⟨t1,t2,t3⟩ | ⟨_,n',a',t1,t2⟩
 ·rcases hs with⟨s1,_,σ,s2,_⟩ | ⟨s1,_⟩ | ⟨s1,_⟩ | ⟨s1,_⟩ | ⟨_,_,⟨s1,_⟩,_⟩ | ⟨_,_,⟨s1,_⟩,_⟩
  ·exact MC t2 σ s2.one
  all_goals (rw[e0,t1]at s1;cases s1)
 ·have ew:=(oN hi hw).1
  rw[t2]at ew
  have ev:fh (MG.ren r g).op (MG.ren r g).b (MG.ren r g).c=fh g.op g.b g.c:=rC r g.op g.b g.c
  rcases hs with⟨s1,_⟩ | ⟨s1,_,s2,_⟩ | ⟨s1,_,s2,x,σ,s3,s4,_⟩ | ⟨s1,_⟩ | ⟨_,_,⟨s1,_⟩,_⟩ | ⟨_,_,⟨s1,_⟩,_⟩
  ·rw[e0,t1]at s1;cases s1
  ·exact s2 ew
  ·rw[ev]at s3
   rcases t3 with⟨_,q⟩ | ⟨_,x',q1,q2⟩
   ·rw[s3]at q;cases q
   ·rw[s3]at q1
    cases q1
    have:=s4.one
    rw[ej,List.map_nil]at this
    have e2:sub σ (bl r g.a)=sub (fun y=>sub σ (Zf.ren (Zf.rn r) y)) g.a:=sub_sub _ _ _
    exact q2 _ (e2.symm.trans this)
  all_goals (rw[e0,t1]at s1;cases s1)
 ·rcases hs with⟨s1,_⟩ | ⟨s1,_⟩ | ⟨s1,_⟩ | ⟨s1,_,s2,_⟩ | ⟨n,a,s1,t,c,F,s2,s3,s4,s5,_⟩ | ⟨n,a,s1,_,s2,⟨t,c,s3,s4,s5⟩,_⟩
  ·have:=t1.1;rw[e0,this]at s1;cases s1
  ·have:=t1.1;rw[e0,this]at s1;cases s1
  ·have:=t1.1;rw[e0,this]at s1;cases s1
  ·obtain⟨_,tx,us,q2,q3,_⟩:=t1
   have s2':bl r g.a= .n 1 [116,114,117,101] 0 []:=s2
   rw[q2,fR]at s2'
   injection s2' with _ e1 _ e2
   exact q3 ⟨e1,List.map_eq_nil_iff.1 e2⟩
  ·obtain⟨rfl,rfl⟩:=t1.same s1
   have:=t2 t c s2 s4
   have e1:(bI S'.lim (MG.ren r g).a c).1=_:=(h.tZ hok hw s4).1
   rw[e1,this]at s5
   cases s5
  ·obtain⟨rfl,rfl⟩:=t1.same s1
   have:=t2 t c s3 s4
   have e1:(bI S'.lim (MG.ren r g).a c).1=_:=(h.tZ hok hw s4).1
   rw[e1,this]at s5
   cases s5
theorem eP.fl (h:eP r P S S') {i:Nat} {p en en':Int} (hs:EJ cls S i p en) (ht:EJ cls S' i p en'):en'=en:=by
 obtain⟨g,hg,hs⟩:=hs
 obtain⟨g',hg',ht⟩:=ht
 obtain⟨rfl,hw⟩:=h.at hg hg'
 have e0:(MG.ren r g).sg=g.sg:=rfl
 have ev:fh (MG.ren r g).op (MG.ren r g).b (MG.ren r g).c=fh g.op g.b g.c:=rC r g.op g.b g.c
 rcases hs with⟨s1,rfl,s2⟩ | ⟨s1,s2,s3⟩ | ⟨rfl,n,a,s1,s2⟩
 ·rcases ht with⟨_,rfl,_⟩ | ⟨t1,_⟩ | ⟨rfl,_⟩
  ·rfl
  ·rw[e0,s1]at t1;cases t1
  ·rfl
 ·rcases ht with⟨t1,_⟩ | ⟨t1,t2,t3⟩ | ⟨_,_,_,⟨t1,_⟩,_⟩
  ·rw[e0,s1]at t1;cases t1
  ·rw[ev]at t3
   rcases s3 with⟨rfl,q⟩ | ⟨rfl,x,q,_⟩<;>rcases t3 with⟨rfl,q'⟩ | ⟨rfl,x',q',_⟩
   ·rfl
   ·rw[q]at q';cases q'
   ·rw[q]at q';cases q'
   ·rfl
  ·rw[e0,s1]at t1;cases t1
 ·rcases ht with⟨t1,rfl,_⟩ | ⟨t1,_⟩ | ⟨rfl,_⟩
  ·rfl
  ·have:=s1.1;rw[e0,this]at t1;cases t1
  ·rfl
theorem uL (r:Nat→Nat) (u:U):big (bl r u)=big u:=by unfold big bl;rw[KF]
theorem EO (r:Nat→Nat) (us:List U):(us.map (bl r)).any big=us.any big:=by
 rw[List.any_map]
 congr 1
 funext u
 exact uL r u
theorem eP.big (h:eP r P S S'):pH S'=pH S:=by
 unfold pH
 rw[h.gs,h.vs,List.length_map,EO,List.any_map]
 congr 3
 funext g
 show pG (MG.ren r g)=pG g
 unfold pG MG.ren
 dsimp only
 rw[uL,uL,uL]
 cases g.a with
 | v x=>rfl
 | n k tx num us=>rw[fR];dsimp only;rw[EO]
theorem eP.gm (h:eP r P S S'):jO S'.gs=jO S.gs:=by
 unfold jO
 rw[h.gs,List.length_map]
 refine List.filter_congr fun i _=> ?_
 rw[List.getElem?_map]
 cases S.gs[i]?<;>rfl
theorem eP.fin (h:eP r P S S'):yM S'.gs=yM S.gs:=by
 unfold yM
 rw[h.gm]
 have:S'.gs=[]↔S.gs=[]:=by rw[h.gs,List.map_eq_nil_iff]
 by_cases q:S.gs=[]
 ·rw[if_pos q,if_pos (this.2 q)]
 ·rw[if_neg q,if_neg (fun e=>q (this.1 e))]
theorem C6 (hi:ie r P):∀(vs:List U) (ts:List (List UInt8)) (N:List Vr),(∀u∈vs,bB (PQ P) u)→(∀x∈N,PQ P x)→(vs.map (bl r)).foldl qd (ts,N.map (rn r))=((vs.foldl qd (ts,N)).1,(vs.foldl qd (ts,N)).2.map (rn r))∧∀x∈(vs.foldl qd (ts,N)).2,PQ P x
 | [],ts,N,_,hN=>⟨rfl,hN⟩
 | u :: vs,ts,N,hu,hN=>by
  have h1:=(eX u).1 (hu u (by simp))
  have hn:=y7 hi.on u N h1 hN
  have hN':∀x∈aZ N u,PQ P x:=fun x hx=>by
   rcases(qU u N).1 hx with q | q
   ·exact hN x q
   ·exact h1 x q
  have hs:=ur (D:=Go.Lib.itoa) hi.on hN' u h1
  rw[List.map_cons,List.foldl_cons,List.foldl_cons]
  have e:qd (ts,N.map (rn r)) (bl r u)=((qd (ts,N) u).1,(aZ N u).map (rn r)):=by
   unfold qd
   dsimp only
   unfold bl
   rw[hn,hs]
  rw[e]
  exact C6 hi vs _ _ (fun w hw=>hu w (by simp[hw])) hN'
theorem C7 (hi:ie r P):∀(gs:List MG) (ts:List (List UInt8)) (N:List Vr),(∀g∈gs,qK P g)→(∀x∈N,PQ P x)→(gs.map (MG.ren r)).foldl nt (ts,N.map (rn r))=((gs.foldl nt (ts,N)).1,(gs.foldl nt (ts,N)).2.map (rn r))
 | [],ts,N,_,_=>rfl
 | g :: gs,ts,N,hg,hN=>by
  have hw:=hg g (by simp)
  have step:∀(u:U) (N:List Vr),bB (PQ P) u→(∀x∈N,PQ P x)→aZ (N.map (rn r)) (bl r u)=(aZ N u).map (rn r)∧∀x∈aZ N u,PQ P x:=fun u N hu hN=>by
   have h1:=(eX u).1 hu
   refine⟨y7 hi.on u N h1 hN,fun x hx=> ?_⟩
   rcases(qU u N).1 hx with q | q
   ·exact hN x q
   ·exact h1 x q
  obtain⟨a1,a2⟩:=step g.a N hw.a hN
  obtain⟨b1,b2⟩:=step g.b _ hw.b a2
  obtain⟨c1,c2⟩:=step g.c _ hw.c b2
  have en:iN (N.map (rn r)) (MG.ren r g)=(iN N g).map (rn r):=by
   unfold iN MG.ren
   dsimp only
   rw[a1,b1,c1]
  have ht:rI ((iN N g).map (rn r)) (MG.ren r g)=rI (iN N g) g:=by
   unfold rI MG.ren
   dsimp only
   unfold bl
   have c3:∀x∈iN N g,PQ P x:=c2
   rw[ur hi.on c3 g.a ((eX _).1 hw.a),ur hi.on c3 g.b ((eX _).1 hw.b),ur hi.on c3 g.c ((eX _).1 hw.c)]
  rw[List.map_cons,List.foldl_cons,List.foldl_cons]
  have e:nt (ts,N.map (rn r)) (MG.ren r g)=((nt (ts,N) g).1,(iN N g).map (rn r)):=by
   unfold nt
   dsimp only
   rw[en,ht]
  rw[e]
  exact C7 hi gs _ _ (fun w hw=>hg w (by simp[hw])) c2
theorem eP.told (h:eP r P S S'):(iW S'.vs).1=(iW S.vs).1∧(wD (iW S'.vs).2 S'.gs).1=(wD (iW S.vs).2 S.gs).1∧S'.gs.map (·.wt)=S.gs.map (·.wt):=by
 have hi:=pJ.inj h.mono
 obtain⟨v1,v2⟩:=C6 hi S.vs [] [] h.wv (fun x hx=>by cases hx)
 have ev:iW S'.vs=((iW S.vs).1,(iW S.vs).2.map (rn r)):=by
  unfold iW
  rw[h.vs]
  exact v1
 refine⟨by rw[ev],?_,?_⟩
 ·rw[ev,h.gs]
  unfold wD
  dsimp only
  rw[C7 hi S.gs [] (iW S.vs).2 h.wg v2]
 ·rw[h.gs,List.map_map]
  rfl
end
section
variable {cls:List aI} {script:List (Int×Int)} {S0 S0':MS}
theorem mC.rel (hok:∀c∈cls,jN c) {r:Nat→Nat} {P:Nat→Prop} (h0:eP r P S0 S0') {j:Nat} {S:MS} {L:List Int} (h:mC cls script S0 j S L):∀{S':MS} {L':List Int},mC cls script S0' j S' L'→L'=L∧∃r P,eP r P S S':=by
 induction h with
 | start=>
  intro S' L' k
  cases k with
  | start=>exact⟨rfl,r,P,h0⟩
 | @step j S S1 L pg pc z i h hs hi hg hl ih=>
  intro S' L' k
  cases k with
  | @step _ T S1' L1 pg' pc' z' i' k ks ki kg kl=>
   obtain⟨rfl,r1,P1,hr⟩:=ih k
   rw[hs]at ks
   cases ks
   rw[hr.gm,hi]at ki
   cases ki
   obtain⟨rfl,r2,P2,hr2⟩:=hr.step hok hg kg
   exact⟨rfl,r2,P2,hr2⟩
theorem mC.before {j:Nat} {S:MS} {L:List Int} (h:mC cls script S0 j S L):∀{i:Nat},i<j→∃(T T':MS) (K:List Int) (pg pc z:Int) (k:Nat),mC cls script S0 i T K∧script[i]?=some (pg,pc)∧(jO T.gs)[dB pg (jO T.gs).length]?=some k∧nr cls T T' k pc z∧pH T'=false:=by
 induction h with
 | start=>intro i hi;omega
 | @step j S S1 L pg pc z k h hs hi hg hl ih=>
  intro i hij
  by_cases e:i=j
  ·subst e;exact⟨S,S1,L,pg,pc,z,k,h,hs,hi,hg,hl⟩
  ·exact ih (by omega)
theorem pI.same (hok:∀c∈cls,jN c) {r:Nat→Nat} {P:Nat→Prop} (h0:eP r P S0 S0') {en en':Int} {log log':List Int} {v v' g g':List (List UInt8)} {w w':List Bool} (h:pI cls script S0 en log v g w) (k:pI cls script S0' en' log' v' g' w'):en'=en∧log'=log∧v'=v∧g'=g∧w'=w:=by
 obtain⟨j,S,L,hr,he⟩:=h
 obtain⟨j',S',L',kr,ke⟩:=k
 rcases Nat.lt_trichotomy j j' with q | q | q
 ·exfalso
  obtain⟨T,T',K,pg,pc,z,i,b1,b2,b3,b4,b5⟩:=kr.before q
  obtain⟨_,r1,P1,hR⟩:=hr.rel hok h0 b1
  rw[hR.gm]at b3
  rcases he with⟨e1,_⟩ | ⟨pg',pc',i',z',e1,e2,e3,_⟩
  ·rcases e1 with e1 | e1
   ·rw[e1]at b2
    rw[List.getElem?_eq_none (Nat.le_refl _)]at b2
    cases b2
   ·rw[e1]at b3;cases b3
  ·rw[b2]at e1
   cases e1
   rw[b3]at e2
   cases e2
   rcases e3 with⟨e3,_⟩ | ⟨_,S1,e3,e4⟩
   ·exact hR.Oa hok e3 b4
   ·obtain⟨_,r2,P2,hR2⟩:=hR.step hok e3 b4
    rw[hR2.big,e4]at b5
    cases b5
 ·subst q
  obtain⟨rfl,r1,P1,hR⟩:=hr.rel hok h0 kr
  obtain⟨t1,t2,t3⟩:=hR.told
  rw[hR.gm]at ke
  rcases he with⟨e1,rfl,rfl,rfl,rfl,rfl⟩ | ⟨pg,pc,i,z,e1,e2,e3,rfl,rfl,rfl,rfl⟩<;>rcases ke with⟨k1,rfl,rfl,rfl,rfl,rfl⟩ | ⟨pg',pc',i',z',k1,k2,k3,rfl,rfl,rfl,rfl⟩
  ·exact⟨hR.fin,rfl,t1,t2,t3⟩
  ·exfalso
   rcases e1 with e1 | e1
   ·rw[e1]at k1
    rw[List.getElem?_eq_none (Nat.le_refl _)]at k1
    cases k1
   ·rw[e1]at k2;cases k2
  ·exfalso
   rcases k1 with k1 | k1
   ·rw[k1]at e1
    rw[List.getElem?_eq_none (Nat.le_refl _)]at e1
    cases e1
   ·rw[k1]at e2;cases e2
  ·rw[e1]at k1
   cases k1
   rw[e2]at k2
   cases k2
   rcases e3 with⟨e3,rfl⟩ | ⟨rfl,S1,e3,e4⟩<;>rcases k3 with⟨k3,rfl⟩ | ⟨rfl,S1',k3,k4⟩
   ·exact⟨hR.fl e3 k3,rfl,rfl,rfl,rfl⟩
   ·exact(hR.Oa hok e3 k3).elim
   ·exact(hR.N9 hok e3 k3).elim
   ·obtain⟨rfl,_⟩:=hR.step hok e3 k3
    exact⟨rfl,rfl,rfl,rfl,rfl⟩
 ·exfalso
  obtain⟨T,T',K,pg,pc,z,i,b1,b2,b3,b4,b5⟩:=hr.before q
  obtain⟨_,r1,P1,hR⟩:=b1.rel hok h0 kr
  rw[hR.gm]at ke
  rcases ke with⟨e1,_⟩ | ⟨pg',pc',i',z',e1,e2,e3,_⟩
  ·rcases e1 with e1 | e1
   ·rw[e1]at b2
    rw[List.getElem?_eq_none (Nat.le_refl _)]at b2
    cases b2
   ·rw[e1]at b3;cases b3
  ·rw[b2]at e1
   cases e1
   rw[b3]at e2
   cases e2
   rcases e3 with⟨e3,_⟩ | ⟨_,S1,e3,e4⟩
   ·exact hR.N9 hok b4 e3
   ·obtain⟨_,r2,P2,hR2⟩:=hR.step hok b4 e3
    rw[hR2.big,b5]at e4
    cases e4
end
end Zf
namespace Go.Proofs.YthfjnfcekeknlabGreatDoor
open Go.RowKit
open Zf (U Vr aI)
theorem JW {T:Nat→U} {u:U} {c:aI} {V F:List Nat} (hV:Zf.uG T u c V) (hF:∀f∈F,T f= .v ([],f)) {y:List UInt8} (hy:y∈Zf.NG c) (hl:(Zf.NG c).idxOf y<(V++F).length):bT T (V++F) (Zf.NG c) y=Zf.di u c (fun k=>(F[k]?).getD 0) y:=by
 have hvl:V.length=(Zf.NH c).length:=hV.1
 unfold bT Zf.di
 by_cases hn:y∈Zf.NH c
 ·rw[if_pos hn]
  obtain⟨K,hK⟩:=Zf.JO c
  have ei:(Zf.NG c).idxOf y=(Zf.NH c).idxOf y:=by rw[hK,List.idxOf_append,if_pos hn]
  have hi:(Zf.NH c).idxOf y<(Zf.NH c).length:=List.idxOf_lt_length_of_mem hn
  have h1:(Zf.namesF 8 [] c.head)[(Zf.NH c).idxOf y]?=some y:=by
   show (Zf.NH c)[(Zf.NH c).idxOf y]?=some y
   rw[List.getElem?_eq_getElem hi,List.getElem_idxOf]
  have h2:V[(Zf.NH c).idxOf y]?=some (V[(Zf.NH c).idxOf y]'(by omega)):=List.getElem?_eq_getElem (by omega)
  obtain⟨q,q1,q2⟩:=hV.2 _ y _ h1 h2
  rw[ei,List.getElem?_append_left (by omega),h2,q1]
  exact q2
 ·rw[if_neg hn]
  have:=(Zf.GP hy hn).1
  rw[List.getElem?_append_right (by omega),hvl]
  rw[List.length_append]at hl
  have hk:(Zf.NG c).idxOf y - (Zf.NH c).length<F.length:=by omega
  dsimp only
  rw[List.getElem?_eq_getElem hk]
  exact hF _ (List.getElem_mem hk)
theorem C8 {u:U} {b:Nat} {c:aI} {V F:List Nat} {T:Nat→U} {says:Nat} {ws:List Nat} (h:qu u b c V F T says ws) (hu:Zf.bB (Zf.PQ (·<b)) u) (hok:Zf.jN c):(Zf.bI b u c).1=says∧∀v,v∈ws↔v∈(Zf.bI b u c).2:=by
 rcases h with⟨h1,rfl,rfl⟩ | ⟨h1,hV,hl,hF,hp,rfl,rfl⟩
 ·unfold Zf.bI
  rw[if_pos h1]
  exact⟨rfl,fun v=>Iff.rfl⟩
 ·unfold Zf.bI
  rw[if_neg (by rw[h1];simp)]
  have hvl:V.length=(Zf.NH c).length:=hV.1
  have hNT:∀y∈Zf.NT c,(Zf.NG c).idxOf y<(V++F).length:=fun y hy=>by
   have W6:∃K,Zf.NG c=Zf.NT c++K:=by
    have hO:∀(t:Option Zf.Tm) (ns:List (List UInt8)),∃M,Zf.cL ns t=ns++M:=fun t ns=>by
     cases t with
     | none=>exact⟨[],by simp[Zf.cL]⟩
     | some r=>exact Zf.namesV_ext 8 r ns
    have hI:∀(x:Zf.aD) (ns:List (List UInt8)),∃M,Zf.aL ns x=ns++M:=fun x ns=>by
     obtain⟨M1,h1⟩:=Zf.namesV_ext 8 x.left ns
     obtain⟨M2,h2⟩:=hO x.right (Zf.namesF 8 ns x.left)
     obtain⟨M3,h3⟩:=hO x.last (Zf.cL (Zf.namesF 8 ns x.left) x.right)
     exact⟨M1++(M2++M3),by unfold Zf.aL;rw[h3,h2,h1];simp⟩
    have hL:∀(xs:List Zf.aD) (ns:List (List UInt8)),∃M,Zf.ay ns xs=ns++M:=fun xs=>by
     induction xs with
     | nil=>exact fun ns=>⟨[],by simp[Zf.ay]⟩
     | cons x xs ih=>
      intro ns
      obtain⟨M1,h1⟩:=hI x ns
      obtain⟨M2,h2⟩:=ih (Zf.aL ns x)
      exact⟨M1++M2,by show Zf.ay (Zf.aL ns x) xs=_;rw[h2,h1];simp⟩
    exact hL c.goals (Zf.NT c)
   obtain⟨K,hK⟩:=W6
   rw[hK,List.idxOf_append,if_pos hy,hl]
   exact List.idxOf_lt_length_of_mem hy
  have he:Zf.fP (bT T (V++F) (Zf.NG c)) c.tests=Zf.fP (Zf.di u c fun k=>(F[k]?).getD 0) c.tests:=Zf.tJ c.tests (Zf.NH c) hok.ts fun y hy=>JW hV (fun f hf=>(hF f hf).2) (Zf.N5 c y hy) (hNT y hy)
  let r:Nat→Nat:=fun k=>if k<b then k else(F[k - b]?).getD 0
  let P:Nat→Prop:=fun k=>k<b∨(b≤k∧k - b<F.length)
  have r1:∀k,k<b→r k=k:=fun k hk=>if_pos hk
  have r2:∀k,b≤k→∀hk:k - b<F.length,r k=F[k - b]:=fun k hk hk'=>by
   show (if k<b then k else(F[k - b]?).getD 0)=_
   rw[if_neg (by omega),List.getElem?_eq_getElem hk']
   rfl
  have hi:Zf.ie r P:=fun i j hPi hPj q=>by
   rcases hPi with a | ⟨a1,a2⟩<;>rcases hPj with d | ⟨d1,d2⟩
   ·rw[r1 i a,r1 j d]at q;exact q
   ·rw[r1 i a,r2 j d1 d2]at q;have:=(hF _ (List.getElem_mem d2)).1;omega
   ·rw[r2 i a1 a2,r1 j d]at q;have:=(hF _ (List.getElem_mem a2)).1;omega
   ·rw[r2 i a1 a2,r2 j d1 d2]at q
    rcases Nat.lt_trichotomy (i - b) (j - b)with s | s | s
    ·have:=List.pairwise_iff_getElem.1 hp _ _ a2 d2 s;omega
    ·omega
    ·have:=List.pairwise_iff_getElem.1 hp _ _ d2 a2 s;omega
  have Nq:∀y∈Zf.NT c,y∉Zf.NH c→(Zf.NG c).idxOf y - (Zf.NH c).length<F.length:=fun y hy hn=>by
   have h2:=(Zf.GP (Zf.N5 c y hy) hn).1
   have h3:=hNT y hy
   rw[List.length_append]at h3
   omega
  have hY:∀y∈Zf.NT c,Zf.bB (Zf.PQ P) (Zf.di u c (b+·) y):=fun y hy=>Zf.yN (fun k hk=>Or.inl hk) hu fun hn=>Or.inr ⟨Nat.le_add_right _ _,by have:=Nq y hy hn;omega⟩
  have hid:Zf.bl (fun k=>k) u=u:=by
   have:=Zf.lU (r:=fun k=>k) (r':=fun k=>k) (P:=(·<b)) (fun _ _=>rfl) hu
   unfold Zf.bl
   rw[Zf.sub_congr (τ:= .v) u (fun x hx=> ?_),Zf.sub_self]
   have hx1:=((Zf.eX u).1 hu x hx).1
   show U.v ([],x.2)= .v x
   congr 1
   exact Prod.ext hx1.symm rfl
  have hE:∀y∈Zf.NT c,Zf.di u c (fun k=>(F[k]?).getD 0) y=Zf.bl r (Zf.di u c (b+·) y):=fun y hy=>by
   have:=Zf.wE (r:=fun k=>k) (r':=r) (P:=(·<b)) (fun i j _ _ q=>q) (fun k hk=>r1 k hk) hu (c:=c) (o1:=(b+·)) (o2:=fun k=>(F[k]?).getD 0) (y:=y) (fun hn=>by
    have:=Nq y hy hn
    rw[r2 _ (Nat.le_add_right _ _) (by omega),List.getElem?_eq_getElem this]
    simp)
   rw[hid]at this
   exact this
  rw[he,Zf.tJ (θ:=fun y=>Zf.bl r (Zf.di u c (b+·) y)) c.tests (Zf.NH c) hok.ts hE,Zf.EE hi c.tests (Zf.NH c) hok.ts hY]
  have hwt:=Zf.yC (η:=Zf.di u c (b+·)) c.tests (Zf.NH c) hok.ts hY
  refine⟨(Zf.Wn.rB _ _).symm,fun v=> ?_⟩
  unfold Zf.kj
  rw[List.mem_filter,List.mem_filter,List.drop_left]
  show (v∈(Zf.fP (Zf.di u c (b+·)) c.tests).wt.map r∧_)↔_
  rw[List.mem_map]
  constructor
  ·rintro⟨⟨w,hw,rfl⟩,h2⟩
   rcases hwt.at w hw with q | ⟨q1,q2⟩
   ·rw[r1 w q];exact⟨hw,decide_eq_true q⟩
   ·exfalso
    rw[r2 w q1 q2]at h2
    simp at h2
  ·rintro⟨h1,h2⟩
   have hv:=of_decide_eq_true h2
   refine⟨⟨v,h1,r1 v hv⟩,?_⟩
   simp only[Bool.not_eq_true',decide_eq_false_iff_not]
   intro q
   have:=(hF v q).1
   omega
def cG (T:Nat→U) (x:Int):U:=if x= -1 then Zf.zU else T x.toNat
def eQ (fr:Nat→Nat) (T:Nat→U) (g:Gl):Zf.MG:=⟨T g.l,g.sg.toList,cG T g.r,g.op.toList,cG T g.z,!gm fr g,fun v=>gm fr g=false∧v∈g.nd⟩
def js (V:List Nat) (S:cE):Zf.MS:=⟨V.map S.T,S.G.map (eQ S.fr S.T),S.D.length⟩
structure xX (V:List Nat) (S:cE):Prop where
 wf:NS S
 nd:∀g∈S.G,∀v∈g.nd,Zf.gl (aX S.D) v=none
 vl:∀v∈V,v<S.D.length
theorem uM (fr:Nat→Nat) (g:Gl):gm fr g=false↔g.wt=true∧∀v∈g.nd,fr v=v:=by
 unfold gm
 simp
theorem gq (T:Nat→U) (n:Nat):cG T (n:Int)=T n:=by
 unfold cG
 rw[if_neg (by omega)]
 rfl
theorem mA.rc {T:Nat→U} {len:Nat} {g:Gl} (h:mA T len g):g.r= -1∨∃n:Nat,g.r=(n:Int)∧n<len:=by
 by_cases q:g.sg.toList=[]
 ·exact Or.inl (h.r0 q)
 ·exact Or.inr (h.rr q)
theorem mA.zc {T:Nat→U} {len:Nat} {g:Gl} (h:mA T len g):g.z= -1∨∃n:Nat,g.z=(n:Int)∧n<len:=by
 by_cases q:g.op.toList=[]
 ·exact Or.inl (h.z0 q)
 ·exact Or.inr (h.zz q)
theorem ni {T T':Nat→U} {len:Nat} {f:U→U} (hf:f Zf.zU=Zf.zU) (h:∀m,m<len→T' m=f (T m)) {x:Int} (hx:x= -1∨∃n:Nat,x=(n:Int)∧n<len):cG T' x=f (cG T x):=by
 rcases hx with q | ⟨n,q,hn⟩
 ·unfold cG;rw[if_pos q,if_pos q,hf]
 ·rw[q,gq,gq,h n hn]
theorem EP {fr:Nat→Nat} {T T':Nat→U} {len:Nat} (h:∀m,m<len→T' m=T m) {g:Gl} (hg:mA T len g):eQ fr T' g=eQ fr T g:=by
 unfold eQ
 rw[h g.l hg.ll,ni (f:=id) rfl h hg.rc,ni (f:=id) rfl h hg.zc]
 rfl
section
variable {G:List Zf.Gn} {fr fr':Nat→Nat} {T T':Nat→U} {a b:U} {σ:Vr→U}
theorem C9 (hm:Zf.Made G fr fr' T T' a b σ) (hs:Zf.dI G fr T) {g:Gl} (hnd:∀v∈g.nd,Zf.gl G v=none):gm fr' g=false↔gm fr g=false∧∀v∈g.nd,σ ([],v)= .v ([],v):=by
 rw[uM,uM]
 constructor
 ·rintro⟨h1,h2⟩
  have key:∀v∈g.nd,fr v=v∧σ ([],v)= .v ([],v):=fun v hv=>by
   have e1:=h2 v hv
   have g0:=hnd v hv
   have t1:T' v= .v ([],v):=by
    have:=hm.sto.var (n:=v) (by rw[e1];exact g0)
    rwa [e1]at this
   have hu:fr v=v:=by
    by_cases q:Zf.gl G (fr v)=none
    ·have v1:=hs.sj v q
     have v2:fr' (fr v)=v:=(hm.left.mono _ _ (hs.fronts.idem v)).trans e1
     have v3:=hm.sto.sj (fr v) (by rw[v2];exact g0)
     omega
    ·exfalso
     have ht:=hs.tr v
     have e2:=hm.is v
     rw[t1]at e2
     generalize T v=x at ht e2
     cases ht with
     | var h _=>exact q h
     | node _ _ _=>rw[Zf.ej]at e2;cases e2
   exact⟨hu,(hm.lD v hu g0).trans t1⟩
  exact⟨⟨h1,fun v hv=>(key v hv).1⟩,fun v hv=>(key v hv).2⟩
 ·rintro⟨⟨h1,h2⟩,h3⟩
  refine⟨h1,fun v hv=> ?_⟩
  have e1:T' v= .v ([],v):=(hm.lD v (h2 v hv) (hnd v hv)).symm.trans (h3 v hv)
  have ht:=hm.sto.tr v
  generalize T' v=x at ht e1
  cases ht with
  | var h _=>
   injection e1 with e1
   injection e1
  | node _ _ _=>cases e1
theorem ER {T0:Nat→U} {len:Nat} (hm:Zf.Made G fr fr' T T' a b σ) (hs:Zf.dI G fr T) (h0:∀m,m<len→T m=T0 m) {g:Gl} (hg:mA T0 len g) (hnd:∀v∈g.nd,Zf.gl G v=none):eQ fr' T' g=Zf.MG.put σ (eQ fr T0 g):=by
 have hT:∀m,m<len→T' m=Zf.sub σ (T0 m):=fun m q=>by rw[hm.is,h0 m q]
 have hz:Zf.sub σ Zf.zU=Zf.zU:=by unfold Zf.zU;rw[Zf.ej];rfl
 have hst:(eQ fr T0 g).stays σ↔gm fr' g=false:=by
  rw[C9 hm hs hnd]
  unfold Zf.MG.stays eQ
  dsimp only
  constructor
  ·rintro⟨h1,h2⟩
   have h1':gm fr g=false:=by simpa using h1
   exact⟨h1',fun v hv=>h2 v ⟨h1',hv⟩⟩
  ·rintro⟨h1,h2⟩
   exact⟨by rw[h1];rfl,fun v hv=>h2 v hv.2⟩
 unfold Zf.MG.put
 have e1:(eQ fr T0 g).a=T0 g.l:=rfl
 have e2:(eQ fr T0 g).b=cG T0 g.r:=rfl
 have e3:(eQ fr T0 g).c=cG T0 g.z:=rfl
 rw[e1,e2,e3,←hT g.l hg.ll,←ni hz hT hg.rc,←ni hz hT hg.zc]
 unfold eQ at hst⊢
 dsimp only at hst⊢
 congr 1
 ·cases hq:gm fr' g with
  | false=>exact(@decide_eq_true _ (_) (hst.2 hq)).symm
  | true=>exact(@decide_eq_false _ (_) (fun e=>by rw[hst.1 e]at hq;cases hq)).symm
 ·funext v
  apply propext
  constructor
  ·rintro⟨q1,q2⟩
   exact⟨hst.2 q1,((C9 hm hs hnd).1 q1).1,q2⟩
  ·rintro⟨q1,q2⟩
   exact⟨hst.1 q1,q2.2⟩
end
def isVar (S:cE) (k:Nat):Prop:=k<S.D.length∧S.fr k=k∧Zf.gl (aX S.D) k=none
theorem NS.tY {S:cE} (h:NS S) {n:Nat} (hn:n<S.D.length):Zf.bB (Zf.PQ (isVar S)) (S.T n):=(Zf.eX _).2 fun x hx=>by
 have h1:=(Zf.eX _).1 (h.ok.kP h.sto n hn) x hx
 have h2:=(h.sto.tr n).vars x hx
 exact⟨h1.1,h1.2.1,h1.2.2,h2.2.1⟩
theorem Da {T:Nat→U} {op:List UInt8} {r z:Int} {rn zn:Nat} (hr:r=(rn:Int)) (hz:op≠[]→z=(zn:Int)):Zf.fp op (cG T r) (cG T z)=Zf.fp op (T rn) (T zn)∧fh op (cG T r) (cG T z)=fh op (T rn) (T zn):=by
 rw[hr,gq]
 by_cases q:op=[]
 ·subst q
  unfold Zf.fp fh
  simp
 ·rw[hz q,gq]
  exact⟨rfl,rfl⟩
end Go.Proofs.YthfjnfcekeknlabGreatDoor
namespace Go.Proofs.YthfjnfcekeknlabGreatDoor
open Go.RowKit
open Zf (U Vr aI)
theorem qL {D E:List Ng} {v:Nat} (h:v<D.length):Zf.gl (aX (D++E)) v=Zf.gl (aX D) v:=by
 rw[mf (show v<(D++E).length by rw[List.length_append];omega),mf h,List.getElem_append_left h]
theorem ME {η θ:List UInt8→U} {x:Zf.aD} (h:Zf.tP x) (ns:List (List UInt8)) (hy:∀y∈Zf.aL ns x,η y=θ y):Zf.MG.of η x=Zf.MG.of θ x:=by
 have hp:∀t,(t=x.left∨x.right=some t∨x.last=some t)→Zf.bJ η 8 t=Zf.bJ θ 8 t:=fun t ht=>by
  obtain⟨h1,ns',h2⟩:=h.parts ns t ht
  exact Zf.gN 8 t ns' h1 fun y q=>hy y (h2 y q)
 unfold Zf.MG.of
 rw[hp x.left (Or.inl rfl)]
 congr 1
 ·cases e:x.right with
  | none=>rfl
  | some t=>exact hp t (Or.inr (Or.inl e))
 ·cases e:x.last with
  | none=>rfl
  | some t=>exact hp t (Or.inr (Or.inr e))
theorem ES {fr:Nat→Nat} {T:Nat→U} {len:Nat} {η:List UInt8→U} {x:Zf.aD} {g:Gl} (h:mL T len η x g) (hx:Zf.tP x):eQ fr T g=Zf.MG.of η x:=by
 have hr:gm fr g=true:=by unfold gm;rw[h.nw];rfl
 unfold eQ Zf.MG.of
 rw[h.tl,h.sg,h.op,hr]
 congr 1
 ·by_cases q:x.sign=[]
  ·rw[hx.r0 q,h.r0 q];rfl
  ·obtain⟨r,h1,_⟩:=hx.r1 q
   obtain⟨n,h2,_,h3⟩:=h.r1 r h1
   rw[h1,h2,gq,h3];rfl
 ·by_cases q:x.op=[]
  ·rw[hx.z0 q,h.z0 q];rfl
  ·obtain⟨r,h1,_⟩:=hx.z1 q
   obtain⟨n,h2,_,h3⟩:=h.z1 r h1
   rw[h1,h2,gq,h3];rfl
 ·funext v
  simp
theorem wF {α β γ:Type} {R:α→β→Prop} {f:β→γ} {g:α→γ}:∀{xs:List α} {ys:List β},bR R xs ys→(∀x∈xs,∀y,R x y→f y=g x)→ys.map f=xs.map g
 | [],[],_,_=>rfl
 | x :: xs,y :: ys,h,hf=>by
  rw[List.map_cons,List.map_cons,hf x (by simp) y h.1,wF h.2 fun a ha b hb=>hf a (by simp[ha]) b hb]
theorem ET {T:Nat→U} {len:Nat} {η:List UInt8→U}:∀{xs:List Zf.aD} {gs:List Gl},bR (mL T len η) xs gs→∀g∈gs,g.nd=[]
 | [],[],_,g,hg=>by cases hg
 | x :: xs,y :: ys,h,g,hg=>by
  rcases List.mem_cons.1 hg with q | q
  ·rw[q];exact h.1.nd
  ·exact ET h.2 g q
theorem DT {T T':Nat→U} {u:U} {c:aI} {V:List Nat} (h:Zf.uG T u c V) (he:∀m∈V,T' m=T m):Zf.uG T' u c V:=⟨h.1,fun i x m h1 h2=>by
 obtain⟨q,q1,q2⟩:=h.2 i x m h1 h2
 exact⟨q,q1,(he m (List.mem_of_getElem? h2)).trans q2⟩⟩
theorem SI {Q:Vr→Prop} {op:List UInt8} {u v:U} (hu:Zf.bB Q u) (hv:op≠[]→Zf.bB Q v):(Zf.fp op u v).fo Q:=by
 unfold Zf.fp
 split
 ·exact(Zf.dH Q).aU hu
 ·rename_i q;exact((Zf.dH Q).aU hu).aU (hv q)
theorem ud {cls:List aI} {own:List Nat} {bg:Nat} {u:U} {b:Nat} {rs:List (Nat×List Nat)} (h:nK cls own bg u b rs) (hu:Zf.bB (Zf.PQ (·<b)) u) (hok:∀c∈cls,Zf.jN c) {t:Nat} (ht:t<rs.length) {c:aI} (hc:cls[gu own bg t]?=some c):(Zf.bI b u c).1=rs[t].1∧rs[t].1≠1∧∀v,v∈rs[t].2↔v∈(Zf.bI b u c).2:=by
 obtain⟨h1,c',V,F,T',h2,h3⟩:=h t rs[t] (List.getElem?_eq_getElem ht)
 rw[hc]at h2
 cases h2
 obtain⟨k1,k2⟩:=C8 h3 hu (hok c (List.mem_of_getElem? hc))
 exact⟨k1,h1,k2⟩
theorem wG {rs:List (Nat×List Nat)} {v:Nat}:v∈Zf.cK rs↔∃t,∃h:t<rs.length,rs[t].1=3∧v∈rs[t].2:=by
 unfold Zf.cK
 rw[List.mem_flatMap]
 constructor
 ·rintro⟨r,h1,h2⟩
  obtain⟨t,ht,rfl⟩:=List.getElem_of_mem h1
  split at h2
  ·rename_i q;exact⟨t,ht,q,h2⟩
  ·cases h2
 ·rintro⟨t,ht,q,hv⟩
  exact⟨rs[t],List.getElem_mem ht,by rw[if_pos q];exact hv⟩
theorem yO {cls:List aI} {tx:List UInt8} {m bg t:Nat} (h:t<(Zf.bM cls tx m cls.length).length):∃c,cls[gu (Zf.bM cls tx m cls.length) bg t]?=some c:=by
 unfold gu
 have hk:(bg+t) % (Zf.bM cls tx m cls.length).length<(Zf.bM cls tx m cls.length).length:=Nat.mod_lt _ (by omega)
 rw[List.getElem?_eq_getElem hk]
 have:=List.getElem_mem hk
 unfold Zf.bM at this
 rw[List.mem_filter,List.mem_range]at this
 exact⟨_,List.getElem?_eq_getElem this.1⟩
theorem Db {cls:List aI} {V:List Nat} {S S':cE} {i:Nat} {p z:Int} (hok:∀c∈cls,Zf.jN c) (h:xX V S) (hg:CL cls S S' i p z):Zf.nr cls (js V S) (js V S') i p z∧xX V S':=by
 obtain⟨⟨g,iK,hc⟩,yP⟩:=hg
 have km:g∈S.G:=List.mem_of_getElem? iK
 have gw:=h.wf.gw g km
 have hai:(js V S).gs[i]?=some (eQ S.fr S.T g):=by show (S.G.map _)[i]?=_;rw[List.getElem?_map,iK];rfl
 have mj:Zf.bB (Zf.PQ (·<S.D.length)) (S.T g.l):=(h.wf.tY gw.ll).mono fun x hx=>⟨hx.1,hx.2.1⟩
 rcases hc with⟨hs,rfl,rn,σ,hr,hrl,hsm,pE,hG⟩ | ⟨hs,rfl,rn,zn,wo,wc,hr,hrl,hz,hw,eD,eF,eT,hG⟩ | ⟨hs,rfl,rn,zn,x,T2,σ,hr,hrl,hz,hw,hv,st2,old2,tn2,hsm,pE,hG⟩ | ⟨hs,rfl,ht,eD,eF,eT,hG⟩ | ⟨hs,tx,us,htx,hnt,rs,c,VV,F,T2,ws,E,F',Gn,r1,r2,r3,r4,rfl,eD,eF,r6,r7,r8,r9,r10,r11,r12,r13,hG⟩ | ⟨hs,rfl,tx,us,htx,hnt,rs,E,oo,oc,r1,r2,r3,eD,eF,r6,r7,hG⟩
 ·have hl:=hsm.len
  refine⟨⟨Nat.le_of_eq hl.symm,_,hai,Or.inl ⟨hs,rfl,σ,?_,?_,?_⟩⟩,yP,fun x hx v hv=> ?_,fun v hv=>by rw[hl];exact h.vl v hv⟩
  ·show Zf.fF (S.T g.l) (cG S.T g.r) σ
   rw[hr,gq]
   exact pE.PR
  ·show V.map S'.T=(V.map S.T).map _
   rw[List.map_map]
   exact List.map_congr_left fun v _=>pE.is v
  ·show S'.G.map _=((S.G.map _).eraseIdx i).map _
   rw[hG,Zf.iP,List.map_map]
   exact List.map_congr_left fun x hx=>ER pE h.wf.sto (fun _ _=>rfl) (h.wf.gw x (mem_erase hx)) (h.nd x (mem_erase hx))
  ·rw[hsm.g]
   rw[hG]at hx
   exact h.nd x (mem_erase hx) v hv
 ·have hin:=SI (Q:=Zf.PQ (isVar S)) (op:=g.op.toList) (h.wf.tY hrl) (fun q=>h.wf.tY (hz q).2)
  obtain⟨ew,_⟩:=Da (T:=S.T) (op:=g.op.toList) hr (fun q=>(hz q).1)
  have hwt:∀v∈(Zf.fp g.op.toList (S.T rn) (S.T zn)).wt,isVar S v:=hin.at
  refine⟨⟨by show S.D.length≤S'.D.length;rw[eD];exact Nat.le_refl _,_,hai,Or.inr (Or.inl ⟨hs,rfl,?_,?_,?_⟩)⟩,yP,fun x hx v hv=> ?_,fun v hv=>by rw[eD];exact h.vl v hv⟩
  ·show (Zf.fp g.op.toList (cG S.T g.r) (cG S.T g.z)).wt≠[]
   rw[ew];exact hw
  ·show V.map S'.T=V.map S.T
   rw[eT]
  ·show S'.G.map _=(S.G.map _).set i _
   rw[hG,List.map_set,eF,eT]
   congr 1
   unfold eQ
   dsimp only
   have xI:=(uM S.fr {g with wt:=true,no:=wo,nc:=wc,nd:=(Zf.fp g.op.toList (S.T rn) (S.T zn)).wt}).2 ⟨rfl,fun v hv=>(hwt v hv).2.1⟩
   rw[xI,ew]
   congr 1
   funext v
   simp
  ·rw[eD]
   rw[hG]at hx
   rcases List.mem_or_eq_of_mem_set hx with q | q
   ·exact h.nd x q v hv
   ·rw[q]at hv
    exact(hwt v hv).2.2
 ·have hl:=hsm.len
  rw[List.length_append]at hl
  have hl2:S'.D.length=S.D.length+1:=hl
  obtain⟨ew,ev⟩:=Da (T:=S.T) (op:=g.op.toList) hr (fun q=>(hz q).1)
  refine⟨⟨by show S.D.length≤S'.D.length;omega,_,hai,Or.inr (Or.inr (Or.inl ⟨hs,rfl,?_,x,σ,?_,?_,?_,?_⟩))⟩,yP,fun y hy v hv=> ?_,fun v hv=>by have:=h.vl v hv;omega⟩
  ·show (Zf.fp g.op.toList (cG S.T g.r) (cG S.T g.z)).wt=[]
   rw[ew];exact hw
  ·show fh g.op.toList (cG S.T g.r) (cG S.T g.z)=some x
   rw[ev];exact hv
  ·show Zf.fF (S.T g.l) (.n 3 [] x []) σ
   have:=pE.PR
   rw[old2 g.l gw.ll,tn2]at this
   exact this
  ·show V.map S'.T=(V.map S.T).map _
   rw[List.map_map]
   refine List.map_congr_left fun v hv=> ?_
   rw[pE.is v,old2 v (h.vl v hv)]
   rfl
  ·show S'.G.map _=((S.G.map _).eraseIdx i).map _
   rw[hG,Zf.iP,List.map_map]
   exact List.map_congr_left fun y hy=>ER pE st2 old2 (h.wf.gw y (mem_erase hy)) fun v hv=>by
    rw[qL (h.wf.nl y (mem_erase hy) v hv)]
    exact h.nd y (mem_erase hy) v hv
  ·rw[hsm.g]
   rw[hG]at hy
   rw[qL (h.wf.nl y (mem_erase hy) v hv)]
   exact h.nd y (mem_erase hy) v hv
 ·refine⟨⟨by show S.D.length≤S'.D.length;rw[eD];exact Nat.le_refl _,_,hai,Or.inr (Or.inr (Or.inr (Or.inl ⟨hs,rfl,ht,?_,?_⟩)))⟩,yP,fun x hx v hv=> ?_,fun v hv=>by rw[eD];exact h.vl v hv⟩
  ·show V.map S'.T=V.map S.T
   rw[eT]
  ·show S'.G.map _=(S.G.map _).eraseIdx i
   rw[hG,Zf.iP,eF,eT]
  ·rw[eD]
   rw[hG]at hx
   exact h.nd x (mem_erase hx) v hv
 ·have hlen:S'.D.length=S.D.length+E.length:=by rw[eD,List.length_append]
  rw[htx]at r2 r4 mj
  have hcm:c∈cls:=List.mem_of_getElem? r3
  have hkc:=hok c hcm
  have hHV:Zf.uG T2 (.n 1 tx 0 us) c VV:=by
   rcases r4 with⟨q1,q2,_⟩ | ⟨_,q,_⟩
   ·exact absurd q2.symm q1
   ·exact q
  have hHV':Zf.uG S'.T (.n 1 tx 0 us) c VV:=DT hHV fun m hm=>r7 m (List.mem_append_left _ hm)
  have hvl:VV.length=(Zf.NH c).length:=hHV.1
  have hlF:(F++F').length+(Zf.NH c).length=(Zf.NG c).length:=by
   rw[←r9,←hvl]
   simp only[List.length_append]
   omega
  refine⟨⟨by show S.D.length≤S'.D.length;omega,_,hai,Or.inr (Or.inr (Or.inr (Or.inr (Or.inl ⟨_,_,⟨hs,tx,us,htx,hnt,rfl,rfl⟩,rs.length,c,F++F',r1,fun t' c' ht' hc'=> ?_,r3,?_,rfl,hlF,r11,fun f hf=>⟨(r10 f hf).1,r12 f ?_⟩,?_,?_⟩))))⟩,yP,fun x hx v hv=> ?_,fun v hv=>by have:=h.vl v hv;omega⟩
  ·show (Zf.bI S.D.length (S.T g.l) c').1≠1
   rw[htx]
   obtain⟨q1,q2,_⟩:=ud r2 mj hok ht' hc'
   rw[q1];exact q2
  ·show (Zf.bI S.D.length (S.T g.l) c).1=1
   rw[htx]
   exact(C8 r4 mj hkc).1
  ·rw[List.append_assoc]
   exact List.mem_append_right _ hf
  ·show V.map S'.T=V.map S.T
   exact List.map_congr_left fun v hv=>r6 v (h.vl v hv)
  ·show S'.G.map _=(S.G.map _).eraseIdx i++_
   rw[hG,List.map_append,Zf.iP]
   congr 1
   ·rw[eF]
    exact List.map_congr_left fun x hx=>EP r6 (h.wf.gw x (mem_erase hx))
   ·refine wF r13 fun x hx y hy=> ?_
    rw[ES hy (hkc.gs x hx)]
    obtain⟨ns,hn⟩:=Zf.fA c.goals (Zf.NT c) x hx
    refine ME (hkc.gs x hx) ns fun w hw=> ?_
    have hwn:w∈Zf.NG c:=hn w hw
    show bT S'.T (VV++F++F') (Zf.NG c) w=Zf.di (S.T g.l) c _ w
    rw[htx,List.append_assoc]
    refine JW hHV' (fun f hf=>(r10 f hf).2) hwn ?_
    have:=List.idxOf_lt_length_of_mem hwn
    rw[←r9,List.append_assoc]at this
    exact this
  ·rw[hG]at hx
   rcases List.mem_append.1 hx with q | q
   ·rw[eD,qL (h.wf.nl x (mem_erase q) v hv)]
    exact h.nd x (mem_erase q) v hv
   ·rw[ET r13 x q]at hv
    cases hv
 ·have hlen:S'.D.length=S.D.length+E.length:=by rw[eD,List.length_append]
  have hvs:Zf.bB (Zf.PQ (isVar S)) (S.T g.l):=h.wf.tY gw.ll
  rw[htx]at r2 mj hvs
  have qw:∀{t:Nat} (ht:t<rs.length) {c:aI},cls[gu (Zf.bM cls tx us.length cls.length) (dB p (Zf.bM cls tx us.length cls.length).length) t]?=some c→((Zf.bI S.D.length (.n 1 tx 0 us) c).1=rs[t].1∧rs[t].1≠1∧∀v,v∈rs[t].2↔v∈(Zf.bI S.D.length (.n 1 tx 0 us) c).2)∧∀v∈rs[t].2,isVar S v:=fun {t} ht {c} hc=>by
   have q:=ud r2 mj hok ht hc
   refine⟨q,fun v hv=> ?_⟩
   exact(Zf.C4 (r:=fun k=>k) (P:=isVar S) (l1:=S.D.length) (l2:=S.D.length) (fun i j _ _ e=>e) (fun k hk=>hk.1) (fun k hk=>hk.1) hvs (hok c (List.mem_of_getElem? hc)).ts).2.2 v ((q.2.2 v).1 hv)
  have hnd:∀v∈Zf.cK rs,isVar S v:=fun v hv=>by
   obtain⟨t,ht,_,h2⟩:=wG.1 hv
   obtain⟨c,hc⟩:=yO (cls:=cls) (tx:=tx) (m:=us.length) (bg:=dB p (Zf.bM cls tx us.length cls.length).length) (t:=t) (by omega)
   exact(qw ht hc).2 v h2
  refine⟨⟨by show S.D.length≤S'.D.length;omega,_,hai,Or.inr (Or.inr (Or.inr (Or.inr (Or.inr ⟨_,_,⟨hs,tx,us,htx,hnt,rfl,rfl⟩,rfl,fun t c ht hc=> ?_,?_,?_,?_⟩))))⟩,yP,fun x hx v hv=> ?_,fun v hv=>by have:=h.vl v hv;omega⟩
  ·show (Zf.bI S.D.length (S.T g.l) c).1≠1
   rw[htx]
   obtain⟨⟨q1,q2,_⟩,_⟩:=qw (by omega) hc
   rw[q1];exact q2
  ·have r3':=r3
   unfold Zf.mr at r3'
   rw[List.any_eq_true]at r3'
   obtain⟨r,q1,q2⟩:=r3'
   obtain⟨t,ht,rfl⟩:=List.getElem_of_mem q1
   obtain⟨c,hc⟩:=yO (cls:=cls) (tx:=tx) (m:=us.length) (bg:=dB p (Zf.bM cls tx us.length cls.length).length) (t:=t) (by omega)
   refine⟨t,c,by omega,hc,?_⟩
   show (Zf.bI S.D.length (S.T g.l) c).1=3
   rw[htx,(qw ht hc).1.1]
   simpa using q2
  ·show V.map S'.T=V.map S.T
   exact List.map_congr_left fun v hv=>r6 v (h.vl v hv)
  ·show S'.G.map _=(S.G.map _).set i _
   rw[hG,List.map_set,eF]
   have e1:S.G.map (eQ S.fr S'.T)=S.G.map (eQ S.fr S.T):=List.map_congr_left fun x hx=>EP r6 (h.wf.gw x hx)
   rw[e1]
   congr 1
   have xI:=(uM S.fr {g with wt:=true,no:=oo,nc:=oc,nd:=Zf.cK rs}).2 ⟨rfl,fun v hv=>(hnd v hv).2.1⟩
   unfold eQ
   dsimp only
   rw[xI,r6 g.l gw.ll,ni (f:=id) rfl r6 gw.rc,ni (f:=id) rfl r6 gw.zc]
   dsimp only[id]
   congr 1
   funext v
   apply propext
   constructor
   ·rintro⟨_,q⟩
    obtain⟨t,ht,q1,q2⟩:=wG.1 q
    obtain⟨c,hc⟩:=yO (cls:=cls) (tx:=tx) (m:=us.length) (bg:=dB p (Zf.bM cls tx us.length cls.length).length) (t:=t) (by omega)
    have k:=(qw ht hc).1
    refine⟨t,c,by omega,hc,?_,?_⟩
    ·show (Zf.bI S.D.length (S.T g.l) c).1=3
     rw[htx,k.1];exact q1
    ·show v∈(Zf.bI S.D.length (S.T g.l) c).2
     rw[htx];exact(k.2.2 v).1 q2
   ·rintro⟨t,c,ht,hc,q1,q2⟩
    have ht':t<rs.length:=by omega
    have k:=(qw ht' hc).1
    have q1':(Zf.bI S.D.length (S.T g.l) c).1=3:=q1
    have q2':v∈(Zf.bI S.D.length (S.T g.l) c).2:=q2
    rw[htx]at q1' q2'
    rw[k.1]at q1'
    exact⟨rfl,wG.2 ⟨t,ht',q1',(k.2.2 v).2 q2'⟩⟩
  ·rw[hG]at hx
   rcases List.mem_or_eq_of_mem_set hx with q | q
   ·rw[eD,qL (h.wf.nl x q v hv)]
    exact h.nd x q v hv
   ·rw[q]at hv
    have:=hnd v hv
    rw[eD,qL this.1]
    exact this.2.2
end Go.Proofs.YthfjnfcekeknlabGreatDoor
namespace Go.Proofs.YthfjnfcekeknlabGreatDoor
open Go.RowKit
structure Vo (w:World) (cls:List Zf.aI) (clo:Option Addr) (items:List Zf.aD) (N:List (List UInt8)) (o:Option Addr) (n:Nat) (script:List (Int×Int)) (so:Option Addr):Prop where
 cl:dh w clo cls.length cls
 ok:∀c∈cls,Zf.jN c∧∀x∈c.goals,Zf.iV x
 cc:cls.length≤12
 it:cD N w o n items
 gl:∀x∈items,Zf.iV x
 il:items.length≤6
 nm:∃M,N=Zf.ay [] items++M
 nl:N.length≤100
 sz:∀x∈items,∀η:List UInt8→Zf.U,(∀y∈Zf.ay [] items,Zf.size (η y)=1)→Zf.size (Zf.bJ η 8 x.left)≤300∧(∀r,x.right=some r→Zf.size (Zf.bJ η 8 r)≤300)∧(∀z,x.last=some z→Zf.size (Zf.bJ η 8 z)≤300)
 sc:kF w so script
 sl:script.length≤100
 sr:∀p∈script,(-9223372036854775808≤p.1∧p.1≤9223372036854775807)∧(-9223372036854775808≤p.2∧p.2≤9223372036854775807)
 pw:Pow w
theorem Pt (fr:Nat→Nat) (G:List Gl):gJ fr G=1∨gJ fr G=2∨gJ fr G=3:=by
 unfold gJ
 split
 ·exact Or.inl rfl
 ·split
  ·exact Or.inr (Or.inl rfl)
  ·exact Or.inr (Or.inr rfl)
theorem QS.res {w:World} {cls:List Zf.aI} {clo:Option Addr} {clc:Nat} {F:List Nat} {vo:Option Addr} {vc:Nat} {script:List (Int×Int)} {S0:cE} {j:Nat} {S:cE} {L:List Int} {lo:Option Addr} {lc:Nat} {nO:Option Addr} {nC:Nat} {po:Option Addr} {pc:Nat} {wr:World} (h:QS w cls clo clc F vo vc script S0 j S L lo lc nO nC po pc wr) (hpw:Pow w) (hF:F.length≤100) (hj:j=script.length∨cJ S.fr S.G S.G.length=[]):
 Calls Tryz.prog 39 #[.pointer (some ⟨w.heap.size+1,0,none⟩)] (wr.setCell ⟨w.heap.size+1,5,none⟩ (.int .i64 (gJ S.fr S.G))) fun e w'=>∃(xo:Option Addr) (xc:Nat) (go:Option Addr) (gc:Nat) (yo:Option Addr) (yc:Nat),e= .returned (.agg #[.int .i64 (gJ S.fr S.G),.slice lo L.length lc,.slice xo F.length xc,.slice go S.G.length gc,.slice yo S.G.length yc])∧tW cls F script S0 w.heap.size e w'∧Below w.heap.size w w'∧w'.heap[w.heap.size]?=some (.cells #[.int .i64 0,.slice none 0 0,.slice none 0 0,.slice none 0 0,.slice none 0 0] 29 (0,0))∧∀vs:List Value,vs.length=5→tW cls F script S0 w.heap.size e (((((w'.setCell ⟨w.heap.size,0,none⟩ (vs[0]?.getD (.int .i64 0))).setCell ⟨w.heap.size,1,none⟩ (vs[1]?.getD (.int .i64 0))).setCell ⟨w.heap.size,2,none⟩ (vs[2]?.getD (.int .i64 0))).setCell ⟨w.heap.size,3,none⟩ (vs[3]?.getD (.int .i64 0))).setCell ⟨w.heap.size,4,none⟩ (vs[4]?.getD (.int .i64 0))):=by
 have hm:=h.ma
 have aT:=h.be.setCell (p:=⟨w.heap.size+1,5,none⟩) (Nat.le_succ _) (.int .i64 (gJ S.fr S.G))
 have kT:∀{k:Nat} {ys:Array Value} {Y:TypeId},wr.heap[k]?=some (.cells ys Y (0,0))→Y≠88→(wr.setCell ⟨w.heap.size+1,5,none⟩ (.int .i64 (gJ S.fr S.G))).heap[k]?=wr.heap[k]?:=fun {k ys Y} hk h1=>aC _ _ _ _ (fun e=>by
  rw[e,hm.mc.st.blk]at hk
  simp only[Option.some.injEq,Obj.cells.injEq]at hk
  exact h1 hk.2.1.symm)
 have kR:∀{b n cap sz:Nat} {Y:TypeId} {o:Option Addr} {zs:List Value},wr.ownsRow b Y sz (.slice o n cap) n zs→Y≠88→(wr.setCell ⟨w.heap.size+1,5,none⟩ (.int .i64 (gJ S.fr S.G))).ownsRow b Y sz (.slice o n cap) n zs:=fun {b n cap sz Y o zs} ho h1=>ai ho fun k q=>by
  obtain⟨cur,hc⟩:=aH ho (aG q)
  exact kT hc h1
 have fE:cR (wr.setCell ⟨w.heap.size+1,5,none⟩ (.int .i64 (gJ S.fr S.G))) (w.heap.size+1) (p7 clo cls.length clc nO S.D.length nC vo F.length vc po S.G.length pc lo L.length lc (gJ S.fr S.G)) S.D nO nC S.fr S.G po pc:=⟨⟨aw hm.mc.st.blk 5 (.int .i64 (gJ S.fr S.G)),rfl,kR hm.mc.st.own (by decide),hm.mc.st.ty⟩,hm.mc.ok,rfl,kR hm.mc.pool (by decide),fun g hg=>kR (hm.mc.nds g hg) (by decide),hm.mc.nlt,hm.mc.nl⟩
 have jG:=kR hm.lg (by decide)
 have hzb:=(kT h.zb (by decide)).trans h.zb
 refine(JK _ _ cls clo clc F vo vc L lo lc S nO nC po pc (gJ S.fr S.G) fE hm.to (fun _=>True) (hm.ar.keep fun g _ _ hg=>⟨(kT hg (by decide)).trans hg,trivial⟩) (kR hm.vr (by decide)) hm.vl hm.vb hm.tb hm.gw (hpw.below aT) (Pt _ _) hF h.gl (fun v hv=>by have:=h.sm.1 v hv;omega) (fun g hg x hx hne=>by have:=h.sm.2 g hg x hx hne;omega)).mono ?_
 rintro e w' ⟨xo,xc,go,gc,yo,yc,rfl,h1,h2,h3,h4,h5⟩
 have hsz:w.heap.size≤(wr.setCell ⟨w.heap.size+1,5,none⟩ (.int .i64 (gJ S.fr S.G))).heap.size:=aT.size
 have W7:w.heap.size<(wr.setCell ⟨w.heap.size+1,5,none⟩ (.int .i64 (gJ S.fr S.G))).heap.size:=af hzb
 have Fw:∀k,rowOf lo k→w.heap.size<k:=fun k q=>by
  have q1:=h.rw_ k (Or.inr (Or.inr q))
  have q2:k≠w.heap.size:=fun e=>aN hm.lg h.zb (by decide) (e ▸ q)
  omega
 have SJ:w'.ownsRow w.heap.size 3 1 (.slice lo L.length lc) L.length (L.map fT):=by
  have q:=ai jG fun k q=>h5.block k (jG.lt k q).2
  refine⟨q.1,?_⟩
  rcases q.2 with r | ⟨g,cap,cur,r1,r2,r3⟩
  ·exact Or.inl r
  ·refine Or.inr ⟨g,cap,cur,r1,?_,r3⟩
   simp only[Value.slice.injEq]at r1
   exact Nat.le_of_lt (Fw g ⟨_,r1.1,rfl⟩)
 refine⟨xo,xc,go,gc,yo,yc,rfl,?_,aT.trans (h5.mono hsz),(h5.block _ W7).trans hzb,fun vs _=> ?_⟩
 ·exact⟨j,S,L,lo,lc,h.ru,Or.inl ⟨hj,xo,xc,go,gc,yo,yc,rfl,SJ,bV h1 hsz,bV h2 hsz,bV h3 hsz,h4⟩⟩
 ·have kk:∀k,k≠w.heap.size→(((((w'.setCell ⟨w.heap.size,0,none⟩ (vs[0]?.getD (.int .i64 0))).setCell ⟨w.heap.size,1,none⟩ (vs[1]?.getD (.int .i64 0))).setCell ⟨w.heap.size,2,none⟩ (vs[2]?.getD (.int .i64 0))).setCell ⟨w.heap.size,3,none⟩ (vs[3]?.getD (.int .i64 0))).setCell ⟨w.heap.size,4,none⟩ (vs[4]?.getD (.int .i64 0))).heap[k]?=w'.heap[k]?:=fun k q=>by
   rw[aC _ _ _ _ q,aC _ _ _ _ q,aC _ _ _ _ q,aC _ _ _ _ q,aC _ _ _ _ q]
  exact⟨j,S,L,lo,lc,h.ru,Or.inl ⟨hj,xo,xc,go,gc,yo,yc,rfl,ai SJ fun k q=>kk k (by have:=Fw k (aG q);omega),ai (bV h1 hsz) fun k q=>kk k (by have:=(h1.lt k q).1;omega),ai (bV h2 hsz) fun k q=>kk k (by have:=(h2.lt k q).1;omega),ai (bV h3 hsz) fun k q=>kk k (by have:=(h3.lt k q).1;omega),h4⟩⟩
theorem kW.res {w:World} {LL:List Int} {lo:Option Addr} {lc:Nat} {en:Int} {wr:World} (h:kW wr (w.heap.size+1) LL lo lc en) (hen:en=4∨en=5∨en=6) (aT:Below w.heap.size w wr) (hzb:wr.heap[w.heap.size]?=some (.cells #[.int .i64 0,.slice none 0 0,.slice none 0 0,.slice none 0 0,.slice none 0 0] 29 (0,0))) (hlo:∀k,rowOf lo k→w.heap.size≤k):
 Calls Tryz.prog 39 #[.pointer (some ⟨w.heap.size+1,0,none⟩)] wr fun e w'=>e= .returned (.agg #[.int .i64 en,.slice lo LL.length lc,.slice none 0 0,.slice none 0 0,.slice none 0 0])∧Below w.heap.size w w'∧w'.heap[w.heap.size]?=some (.cells #[.int .i64 0,.slice none 0 0,.slice none 0 0,.slice none 0 0,.slice none 0 0] 29 (0,0))∧w'.ownsRow (w.heap.size+1) 3 1 (.slice lo LL.length lc) LL.length (LL.map fT):=by
 refine(GK wr _ LL lo lc en h hen).mono ?_
 rintro e w' ⟨rfl,hb⟩
 obtain⟨cs,_,_,_,_,ho⟩:=h
 refine⟨rfl,aT.trans (hb.mono aT.size),(hb.block _ (af hzb)).trans hzb,?_⟩
 have q:=ai ho fun k q=>hb.block k (ho.lt k q).2
 refine⟨q.1,?_⟩
 rcases q.2 with r | ⟨g,cap,cur,r1,r2,r3⟩
 ·exact Or.inl r
 ·refine Or.inr ⟨g,cap,cur,r1,?_,r3⟩
  simp only[Value.slice.injEq]at r1
  have h1:=hlo g ⟨_,r1.1,rfl⟩
  have h2:g≠w.heap.size:=fun e=>aN ho hzb (by decide) ⟨_,r1.1,e.symm⟩
  omega
theorem GH.from {mb:Nat} {cls:List Zf.aI} {clo:Option Addr} {clc:Nat} {V:List Nat} {vo:Option Addr} {vc:Nat} {L:List Int} {lo:Option Addr} {S:cE} {nO po:Option Addr} {i:Nat} {p:Int} {w w1 w':World} (hb:Below w.heap.size w w1) (h:GH mb cls clo clc V vo vc L lo S nO po i p w1 w'):GH mb cls clo clc V vo vc L lo S nO po i p w w':=by
 obtain⟨lo',lc',⟨z,S',nO',nC',po',pc',h1,h2,h3,h4,h5⟩ | ⟨z,S',h1,h2,h3,h4⟩ | ⟨en,h1,h2,h3,h4⟩⟩:=h
 ·exact⟨lo',lc',Or.inl ⟨z,S',nO',nC',po',pc',h1,h2,h3,h4,(aq.of_below hb).trans h5⟩⟩
 ·exact⟨lo',lc',Or.inr (Or.inl ⟨z,S',h1,h2,h3,(aq.of_below hb).trans h4⟩)⟩
 ·exact⟨lo',lc',Or.inr (Or.inr ⟨en,h1,h2,h3,(aq.of_below hb).trans h4⟩)⟩
theorem Pv (fr:Nat→Nat) (G:List Gl) (j:Nat):∀i∈cJ fr G j,i<G.length:=fun i hi=>by
 have:=(List.mem_filter.1 hi).2
 cases q:G[i]? with
 | none=>rw[q]at this;cases this
 | some g=>exact(List.getElem?_eq_some_iff.1 q).1
section
variable {w:World} {cls:List Zf.aI} {clo:Option Addr} {clc:Nat} {F:List Nat} {vo:Option Addr} {vc:Nat} {script:List (Int×Int)} {S0:cE} {j:Nat} {S:cE} {L:List Int} {lo:Option Addr} {lc:Nat} {nO:Option Addr} {nC:Nat} {po:Option Addr} {pc:Nat} {wr:World}
theorem QS.frame (h:QS w cls clo clc F vo vc script S0 j S L lo lc nO nC po pc wr) {w':World} {R':Nat→Prop} (hf:aq (fun k=>k=w.heap.size+1∨rowOf nO k∨rowOf po k∨rowOf lo k) R' wr w'):Below w.heap.size w w'∧(∀k,R' k→w.heap.size≤k)∧w'.heap[w.heap.size]?=some (.cells #[.int .i64 0,.slice none 0 0,.slice none 0 0,.slice none 0 0,.slice none 0 0] 29 (0,0)):=by
 have hr:∀k,(k=w.heap.size+1∨rowOf nO k∨rowOf po k∨rowOf lo k)→w.heap.size≤k:=fun k q=>by
  rcases q with e | e
  ·omega
  ·exact h.rw_ k e
 refine⟨h.be.trans (hf.down h.be.size hr),fun k q=> ?_,?_⟩
 ·rcases hf.row k q with e | e
  ·exact hr k e
  ·exact Nat.le_trans h.be.size e
 ·refine(hf.block _ (af h.zb) ?_).trans h.zb
  rintro(e | e | e | e)
  ·omega
  ·exact aN h.ma.mc.st.own h.zb (by decide) e
  ·exact aN h.ma.mc.pool h.zb (by decide) e
  ·exact aN h.ma.lg h.zb (by decide) e
theorem QS.next (h:QS w cls clo clc F vo vc script S0 j S L lo lc nO nC po pc wr) {pg pk z:Int} {i:Nat} (hs:script[j]?=some (pg,pk)) (hi:(cJ S.fr S.G S.G.length)[dB pg (cJ S.fr S.G S.G.length).length]?=some i) {S':cE} (hg:CL cls S S' i pk z) (hl:mX F S'=false) {w':World} {lo':Option Addr} {lc':Nat} {nO':Option Addr} {nC':Nat} {po':Option Addr} {pc':Nat} (hm:dW w' (w.heap.size+1) cls clo clc F vo vc (L++[z]) lo' lc' S' nO' nC' po' pc') (hd:S'.D.length≤S.D.length+1100000) (hf:aq (fun k=>k=w.heap.size+1∨rowOf nO k∨rowOf po k∨rowOf lo k) (fun k=>k=w.heap.size+1∨rowOf nO' k∨rowOf po' k∨rowOf lo' k) wr w'):QS w cls clo clc F vo vc script S0 (j+1) S' (L++[z]) lo' lc' nO' nC' po' pc' w':=by
 obtain⟨hb,hr,hz⟩:=h.frame hf
 obtain⟨hsm,hgl⟩:=GN hm hl
 exact⟨.step h.ru hs hi hg hl,hm,hsm,by omega,by rw[List.length_append,h.ll];rfl,by have:=h.dl;omega,hb,fun k q=>hr k (Or.inr q),hz⟩
end
theorem JX (w:World) (cls:List Zf.aI) (clo:Option Addr) (clc:Nat) (items:List Zf.aD) (N:List (List UInt8)) (o:Option Addr) (n c:Nat) (script:List (Int×Int)) (so:Option Addr) (sc:Nat) (h:Vo w cls clo items N o n script so):
 Calls Tryz.prog 22 #[.slice clo cls.length clc,.slice o n c,.slice so script.length sc] w fun e w'=>∃(F:List Nat) (S0:cE),C3 N items F S0∧tW cls F script S0 w.heap.size e w'∧Below w.heap.size w w':=by
 have hb1:=((Below.refl w.heap.size w).alloc (Nat.le_refl _) (.cells #[.int .i64 0,.slice none 0 0,.slice none 0 0,.slice none 0 0,.slice none 0 0] 29)).alloc (by simp) (.cells #[.slice clo cls.length clc,.slice none 0 0,.slice none 0 0,.slice none 0 0,.slice none 0 0,.int .i64 0] 88)
 have hb2:=hb1.alloc hb1.size (.cells #[.slice none 0 0] 90)
 have hmb:=aA (heap_alloc_new (w.alloc (.cells #[.int .i64 0,.slice none 0 0,.slice none 0 0,.slice none 0 0,.slice none 0 0] 29)) (.cells #[.slice clo cls.length clc,.slice none 0 0,.slice none 0 0,.slice none 0 0,.slice none 0 0,.int .i64 0] 88)) (.cells #[.slice none 0 0] 90)
 rw[World.size_alloc]at hmb
 have hzb:=aA (aA (heap_alloc_new w (.cells #[.int .i64 0,.slice none 0 0,.slice none 0 0,.slice none 0 0,.slice none 0 0] 29)) (.cells #[.slice clo cls.length clc,.slice none 0 0,.slice none 0 0,.slice none 0 0,.slice none 0 0,.int .i64 0] 88)) (.cells #[.slice none 0 0] 90)
 have hcb:=heap_alloc_new ((w.alloc (.cells #[.int .i64 0,.slice none 0 0,.slice none 0 0,.slice none 0 0,.slice none 0 0] 29)).alloc (.cells #[.slice clo cls.length clc,.slice none 0 0,.slice none 0 0,.slice none 0 0,.slice none 0 0,.int .i64 0] 88)) (.cells #[.slice none 0 0] 90)
 simp only[World.size_alloc]at hcb
 have YZ:(((w.alloc (.cells #[.int .i64 0,.slice none 0 0,.slice none 0 0,.slice none 0 0,.slice none 0 0] 29)).alloc (.cells #[.slice clo cls.length clc,.slice none 0 0,.slice none 0 0,.slice none 0 0,.slice none 0 0,.int .i64 0] 88)).alloc (.cells #[.slice none 0 0] 90)).heap.size=w.heap.size+3:=by simp
 generalize hW:(((w.alloc (.cells #[.int .i64 0,.slice none 0 0,.slice none 0 0,.slice none 0 0,.slice none 0 0] 29)).alloc (.cells #[.slice clo cls.length clc,.slice none 0 0,.slice none 0 0,.slice none 0 0,.slice none 0 0,.int .i64 0] 88)).alloc (.cells #[.slice none 0 0] 90))=W2 at*
 have hst:bG W2 (w.heap.size+1) 1 (p7 clo cls.length clc none 0 0 none 0 0 none 0 0 none 0 0 0) 88 [] none 0:=⟨hmb,rfl,World.ownsRow_nil _ _ _ _,by decide⟩
 have xO:fy (fun _=>True) W2 (w.heap.size+1) 1 (p7 clo cls.length clc none 0 0 none 0 0 none 0 0 none 0 0 0) 88 (w.heap.size+1+1) [] [] none 0 none 0 id (fun n=> .v ([],n)):=⟨⟨hst,⟨hcb,World.ownsRow_nil _ _ _ _⟩,by decide,by decide,(fun d hd=>by cases hd)⟩,okD_empty,sto_empty,(fun v hv=>by cases hv)⟩
 have fE:cR W2 (w.heap.size+1) (p7 clo cls.length clc none 0 0 none 0 0 none 0 0 none 0 0 0) [] none 0 id [] none 0:=⟨hst,okD_empty,rfl,World.ownsRow_nil _ _ _ _,(fun g hg=>by cases hg),(fun g hg=>by cases hg),(fun g hg=>by cases hg)⟩
 have IJ:=hide (CF W2 (w.heap.size+1) _ (w.heap.size+1+1) [] [] none 0 none 0 id _ (fun _=>True) [] none 0 N [] items o n c xO fE (fun g hg=>by cases hg) (fun _ _=>trivial) (h.it.keep (aQ.below hb2)) (fun x hx=>(h.gl x hx).ok) rfl h.nm (by have:=h.nl;omega) (by have:=h.il;omega) (by simp) (by simp))
 have HQ:=hide h
 have aP:=hide hb2
 have Ob:=hide hzb
 have Za:=hide xO
 have Zb:=hide fE
 have hsl:=h.sl
 clear h hb1 hb2 hmb hzb hcb hst xO fE
 go_enter Tryz.func22,Tryz.ntmps22
 go_wp2_with fail
 refine(ae IJ).mono ?_
 rintro e w3 ⟨rfl,E,F,no',nc',vo',vc',T',Gn,po',pc',hjo⟩
 have hrows:∀k,uF (w.heap.size+1) no' (w.heap.size+1+1) vo' po' k→w.heap.size≤k:=fun k q=>by
  rcases hjo.fg.row k q with((e | ⟨_,e,_⟩ | e | ⟨_,e,_⟩) | ⟨_,e,_⟩) | e
  ·omega
  ·cases e
  ·omega
  ·cases e
  ·cases e
  ·omega
 have GU:Below w.heap.size w w3:=(ae aP).trans (hjo.fg.down (by omega) fun k q=>by
  rcases q with(e | ⟨_,e,_⟩ | e | ⟨_,e,_⟩) | ⟨_,e,_⟩
  ·omega
  ·cases e
  ·omega
  ·cases e
  ·cases e)
 have hz3:w3.heap[w.heap.size]?=some (.cells #[.int .i64 0,.slice none 0 0,.slice none 0 0,.slice none 0 0,.slice none 0 0] 29 (0,0)):=(hjo.fg.block _ (af (ae Ob)) (fun q=>by
  rcases q with(e | ⟨_,e,_⟩ | e | ⟨_,e,_⟩) | ⟨_,e,_⟩
  ·omega
  ·cases e
  ·omega
  ·cases e
  ·cases e)).trans (ae Ob)
 have SK:dh w3 clo cls.length cls:=(ez.below GU).cls (ae HQ).cl
 have Vp:=dW.start hjo SK (ae HQ).gl
 have wH:=hjo.ms
 have wI:=hjo.mc
 have hnd:=hjo.nd
 have fS:=hjo.nv
 have iB:=hjo.ln
 have hgl:=hjo.gl
 have hel:=hjo.el
 simp only[List.nil_append,List.length_nil]at wH wI hnd fS iB hgl
 have s0:=ah wH.ad.sc.blk 0
 have sz0:=af wH.ad.sc.blk
 have m2:w3.cell? ⟨w.heap.size+1,2,none⟩=some (.slice none 0 0):=ah wI.st.blk 2
 have mx2:=au wI.st.blk 2
 have mz3:=af wI.st.blk
 simp only[List.getElem?_toArray,List.getElem?_cons_zero]at s0
 have hvar:∀f∈F,T' f= .v ([],f):=fun f hf=>by
  have:=pD (D:=[]) (E:=E) (F:=F) (fr:=id) (T':=T') (by simpa using wI.ok) (by simpa using wH.to) (by simpa using hnd) (by simpa using fS) f hf
  exact this.2.2
 have hPS:C3 N items F ⟨E,id,T',Gn⟩:=⟨rfl,hnd,fS,iB,wH.lt,wH.to,wI.ok,hgl⟩
 have hsm:SE F ⟨E,id,T',Gn⟩:=by
  refine⟨fun v hv=> ?_,fun g hg x hx hne=> ?_⟩
  ·show Zf.size (T' v)≤300
   rw[hvar v hv]
   simp[Zf.size]
  ·change g∈Gn at hg
   show Zf.size (T' x.toNat)≤300
   obtain⟨j,hj,rfl⟩:=List.getElem_of_mem hg
   have Qk:j<items.length:=by have:=hgl.length;omega
   have hg1:=hgl.at j Qk hj
   have Ey:items[j]∈items:=List.getElem_mem Qk
   obtain⟨M,hM⟩:=(ae HQ).nm
   have hs:=(ae HQ).sz _ Ey (bT T' F N) (fun y hy=>by
    obtain⟨m,hm,he⟩:=xw (T:=T') hy hM iB
    rw[he,hvar m hm]
    simp[Zf.size])
   have hgo:=(ae HQ).gl _ Ey
   rcases hx with rfl | rfl | rfl
   ·have e0:((Gn[j].l:Int)).toNat=Gn[j].l:=by simp
    rw[e0,hg1.tl]
    exact hs.1
   ·by_cases q:items[j].sign=[]
    ·exact absurd (hg1.r0 q) hne
    ·obtain⟨r,hr,_⟩:=hgo.ok.r1 q
     obtain⟨m,k1,k2,k3⟩:=hg1.r1 r hr
     rw[k1]
     have e0:((m:Int)).toNat=m:=by simp
     rw[e0,k3]
     exact hs.2.1 r hr
   ·by_cases q:items[j].op=[]
    ·exact absurd (hg1.z0 q) hne
    ·obtain⟨r,hr,_⟩:=hgo.ok.z1 q
     obtain⟨m,k1,k2,k3⟩:=hg1.z1 r hr
     rw[k1]
     have e0:((m:Int)).toNat=m:=by simp
     rw[e0,k3]
     exact hs.2.2 r hr
 have tN:Gn.length≤6:=by have:=hgl.length;have:=(ae HQ).il;omega
 have hFl:F.length≤100:=by
  obtain⟨M,hM⟩:=(ae HQ).nm
  have h1:=(ae HQ).nl
  rw[hM,List.length_append]at h1
  omega
 have HST:=hide (show Vl w cls clo clc F vo' vc' script ⟨E,id,T',Gn⟩ script.length (.int .i64 0) (w3.setCell ⟨w.heap.size+1,2,none⟩ (.slice vo' F.length vc'))from by
  refine⟨0,⟨E,id,T',Gn⟩,[],none,0,no',nc',po',pc',by omega,rfl,⟨.start,Vp,hsm,by show Gn.length≤100;omega,rfl,?_,GU.setCell (Nat.le_succ _) _,fun k q=> ?_,(aC _ _ _ _ (by simp)).trans hz3⟩⟩
  ·show E.length≤_
   have:=(ae HQ).il
   have:items.length*19683≤6*19683:=Nat.mul_le_mul_right _ this
   omega
  ·rcases q with q | q | ⟨_,q,_⟩
   ·exact hrows k (Or.inl (Or.inr (Or.inl q)))
   ·exact hrows k (Or.inr q)
   ·cases q)
 have zq:=hide hPS
 clear hjo hrows GU hz3 SK Vp wH wI hnd fS iB hgl hel hvar hPS hsm tN IJ
 generalize (⟨E,id,T',Gn⟩:cE)=S0 at*
 go_wp2_with fail
 go_loopg [22] script.length (fun k iv wr=>Vl w cls clo clc F vo' vc' script S0 k iv wr)
 case atStart=>exact ae HST
 case round=>
  clear HST s0 sz0 m2 mx2 mz3
  obtain⟨j,S,L,lo,lc,nO,nC,po,pc,hkj,rfl,ue⟩:=hrel
  by_cases hlt:j<script.length
  ·obtain⟨g,off,rV,gz0,hcell⟩:=(ae HQ).sc (fun q=>by rw[q]at hlt;simp at hlt)
   subst rV
   obtain⟨c0,c1⟩:=hcell j hlt
   have d0:=(ue.be.cell (p:=⟨g,off+j*2,none⟩) gz0).trans c0
   have d1:=(ue.be.cell (p:=⟨g,off+j*2+1,none⟩) gz0).trans c1
   have ji:=(ae HQ).sr _ (List.getElem_mem hlt)
   have hsj:script[j]?=some (script[j].1,script[j].2):=by rw[List.getElem?_eq_getElem hlt]
   have gz:g<wr.heap.size:=Nat.lt_of_lt_of_le gz0 ue.be.size
   have i0:(0:Int)≤(j:Int):=by omega
   have i1:(j:Int)<(script.length:Int):=by omega
   generalize script[j].1=pg at*
   generalize script[j].2=pk at*
   have JN:=(Below.refl wr.heap.size wr).alloc (Nat.le_refl _) (.cells #[.int .i64 pg,.int .i64 pk] 49)
   have SL:=ue.below JN
   have hpk:=heap_alloc_new wr (.cells #[.int .i64 pg,.int .i64 pk] 49)
   have hrl:=Ct S.fr S.G S.G.length
   have hgl:=ue.gl
   have IR:=hide (zP _ _ _ S.D nO nC S.fr S.G po pc SL.ma.mc (by omega))
   have YG:=hide SL
   have Vq:=hide hpk
   have aW:=hide hkj
   have ba:=hide hlt
   have SM:=hide hsj
   have zH:=hide ji
   have hjl:j≤100:=by omega
   clear ue hkj hlt hsj ji hcell c0 c1 JN SL hpk
   go_wp2_with fail
   refine(ae IR).mono ?_
   rintro e w5 ⟨oo,oc,rfl,how,bf⟩
   have nN:=(ae YG).below bf
   have Dc:=(bf.block _ (af (ae Vq))).trans (ae Vq)
   have k0:=ah Dc 0
   have k1:=ah Dc 1
   have kz:=af Dc
   simp only[List.getElem?_toArray,List.getElem?_cons_zero,List.getElem?_cons_succ]at k0 k1
   by_cases pX:cJ S.fr S.G S.G.length=[]
   ·have t0:(((cJ S.fr S.G S.G.length).length:Int) == 0)=true:=by rw[pX];rfl
    have t1:((cJ S.fr S.G S.G.length).length == 0)=true:=by rw[pX];rfl
    have IFN:=hide (zS w5 _ _ S.D nO nC S.fr S.G po pc nN.ma.mc (by omega) rfl)
    have Dd:=hide nN
    have jw:=hide pX
    clear nN Dc how bf IR pX
    go_wp2_with fail
    refine(ae IFN).mono ?_
    rintro e w6 ⟨rfl,W,hbW,rfl⟩
    have IRS:=hide (((ae Dd).below hbW).res (ae HQ).pw hFl (Or.inr (ae jw)))
    clear hbW IFN
    go_wp2_with fail
    refine(ae IRS).mono ?_
    rintro e w7 ⟨xo,xc,go,gc,yo,yc,rfl,De,lB,kQ,hpv⟩
    have z0:=ah kQ
    have zx:=au kQ
    have zz:=af kQ
    have SN:=hide (hpv [.int .i64 (gJ S.fr S.G),.slice lo L.length lc,.slice xo F.length xc,.slice go S.G.length gc,.slice yo S.G.length yc] rfl)
    have wJ:=hide lB
    clear De lB kQ hpv IRS
    go_wp2_with fail
    refine bodyPost_ret (v:= .agg #[.int .i64 (gJ S.fr S.G),.slice lo L.length lc,.slice xo F.length xc,.slice go S.G.length gc,.slice yo S.G.length yc]) (by simp[results,Tryz.results22,go_sem,z0]) rfl ?_
    exact⟨F,S0,ae zq,ae SN,(((((ae wJ).setCell (Nat.le_refl _) _).setCell (Nat.le_refl _) _).setCell (Nat.le_refl _) _).setCell (Nat.le_refl _) _).setCell (Nat.le_refl _) _⟩
   ·have hpos:0<(cJ S.fr S.G S.G.length).length:=List.length_pos_iff.2 pX
    have hbg:=tQ pg (cJ S.fr S.G S.G.length).length hpos
    obtain⟨rg,hrg⟩:∃rg,oo=some ⟨rg,0,none⟩:=by
     rcases how.2 with⟨q,q2⟩ | ⟨g,cp,cur,q,_⟩
     ·omega
     ·simp only[Value.slice.injEq]at q
      exact⟨g,q.1⟩
    subst hrg
    have rz:=(how.lt rg rfl).2
    have Zc:w5.cell? ⟨rg,dB pg (cJ S.fr S.G S.G.length).length,none⟩=some (.int .i64 ((cJ S.fr S.G S.G.length)[dB pg (cJ S.fr S.G S.G.length).length]:Int)):=by
     rw[how.cellAt _ (by omega),List.getElem?_map,List.getElem?_eq_getElem hbg]
     rfl
    have Vs:(cJ S.fr S.G S.G.length)[dB pg (cJ S.fr S.G S.G.length).length]?=some (cJ S.fr S.G S.G.length)[dB pg (cJ S.fr S.G S.G.length).length]:=List.getElem?_eq_getElem hbg
    have hil:=Pv S.fr S.G S.G.length _ (List.getElem_mem hbg)
    have ji:=ae zH
    have IC:=hide (fun W=>zX W pg (cJ S.fr S.G S.G.length).length (by omega) ji.1.1 ji.1.2)
    generalize (cJ S.fr S.G S.G.length)[dB pg (cJ S.fr S.G S.G.length).length]=ii at*
    have SP:=hide Vs
    generalize Vt:dB pg (cJ S.fr S.G S.G.length).length=bq at*
    have SQ:=hide Vt
    clear Vt
    have t0:(((cJ S.fr S.G S.G.length).length:Int) == 0)=false:=by simp;omega
    have t1:((cJ S.fr S.G S.G.length).length == 0)=false:=by simp;omega
    have j0:(0:Int)≤(bq:Int):=by omega
    have j1:(bq:Int)<((cJ S.fr S.G S.G.length).length:Int):=by omega
    have IST:=hide (fun W (hu:Below w5.heap.size w5 W)=>(Mg W (w.heap.size+1) cls clo clc F vo' vc' L lo lc S nO nC po pc ii pk (nN.ma.below hu) (ae HQ).ok (ae HQ).cc hil (fun g hg=>by
     have:=nN.sm.2 g hg (g.l:Int) (Or.inl rfl) (by omega)
     simpa using this) ji.2.1 ji.2.2 (by have:=nN.dl;omega) (by omega) (by have:=nN.ll;omega) (by omega)).mono (fun e w' q=>And.intro q.1 (q.2.from hu)))
    have Dd:=hide nN
    clear nN Dc how bf IR pX Vs ji hil hbg hpos
    generalize zO:(cJ S.fr S.G S.G.length).length=rn at*
    have zZ:=hide zO
    clear zO
    go_wp2_with fail
    refine(ae IC _).mono ?_
    rintro e w5 ⟨rfl,rfl⟩
    go_wp2_with fail
    go_region_with (go_at_call 37;refine(ae IST _ (by first | exact Below.refl _ _ | exact(Below.refl _ _).drew | exact(Below.refl _ _).drew.drew | exact(Below.refl _ _).drew.drew.drew)).mono ?_;rintro y w6 ⟨rfl,hst⟩)
    all_goals
     obtain⟨lo',lc',hst⟩:=hst
     rcases hst with⟨z,S',nO',nC',po9,pc9,hgo,jG,hm,zF,hf⟩ | ⟨z,S',hgo,jG,hm,hf⟩ | ⟨en,hgo,hen,hm,hf⟩
     ·have hnx:=(ae Dd).next (ae SM) (by rw[ae zZ,ae SQ];exact ae SP) hgo jG hm zF hf
      have f5:w6.cell? ⟨w.heap.size+1,5,none⟩=some (.int .i64 0):=ah hm.mc.st.blk 5
      have mz6:=af hm.mc.st.blk
      have jy:=hide hnx
      clear hnx hm hgo jG zF hf
      go_wp2_with fail
      go_roundg (gk - 1)
      case measure=>have:=ae aW;have:=ae ba;omega
      case rel=>exact⟨j+1,S',L++[z],lo',lc',nO',nC',po9,pc9,by have:=ae aW;have:=ae ba;omega,by go_num,ae jy⟩
     ·have nN:=ae Dd
      obtain⟨Df,rY,l9⟩:=nN.frame hf
      have Dg:∀k,rowOf lo' k→w.heap.size≤k:=fun k q=>rY k (Or.inr q)
      clear rY
      have hm0:=hm
      obtain⟨cs6,iq,h66,h46,h56,SS⟩:=hm
      have f5:=(ah iq 5).trans h56
      have mz6:=af iq
      have t5:(6 == 0)=false:=rfl
      have IFE:=hide (xN w6 _ cs6 _ 6 iq h56 (by decide))
      have IRE:=hide (hm0.res (Or.inr (Or.inr rfl)) Df l9 Dg)
      have SU:=hide nN.ru
      clear nN Df l9 Dg hm0 iq h66 h46 h56 SS hf
      have Ab:=hide hgo
      have EC:=hide jG
      clear hgo jG
      go_wp2_with fail
      refine(ae IFE).mono ?_
      rintro e w6 ⟨rfl,rfl⟩
      go_wp2_with fail
      refine(ae IRE).mono ?_
      rintro e w7 ⟨rfl,lB,kQ,xY⟩
      have z0:=ah kQ
      have zx:=au kQ
      have zz:=af kQ
      have wJ:=hide lB
      have lj:=hide xY
      clear lB kQ xY IRE IFE
      go_wp2_with fail
      refine bodyPost_ret (v:= .agg #[.int .i64 6,.slice lo' (L++[z]).length lc',.slice none 0 0,.slice none 0 0,.slice none 0 0]) (by simp[results,Tryz.results22,go_sem,z0]) rfl ?_
      refine⟨F,S0,ae zq,⟨j,S,L,lo',lc',ae SU,Or.inr ⟨pg,pk,ii,6,z,ae SM,by rw[ae zZ,ae SQ];exact ae SP,Or.inr ⟨rfl,S',ae Ab,ae EC⟩,rfl,?_⟩⟩,(((((ae wJ).setCell (Nat.le_refl _) _).setCell (Nat.le_refl _) _).setCell (Nat.le_refl _) _).setCell (Nat.le_refl _) _).setCell (Nat.le_refl _) _⟩
      refine bV (ai (ae lj) fun k q=> ?_) (Nat.le_succ _)
      have hne:k≠w.heap.size:=by have:=((ae lj).lt k q).1;omega
      rw[aC _ _ _ _ hne,aC _ _ _ _ hne,aC _ _ _ _ hne,aC _ _ _ _ hne,aC _ _ _ _ hne]
     ·have nN:=ae Dd
      obtain⟨Df,rY,l9⟩:=nN.frame hf
      have Dg:∀k,rowOf lo' k→w.heap.size≤k:=fun k q=>rY k (Or.inr q)
      clear rY
      have hm0:=hm
      obtain⟨cs6,iq,h66,h46,h56,SS⟩:=hm
      have f5:=(ah iq 5).trans h56
      have mz6:=af iq
      have t5:(en == 0)=false:=by rcases hen with q | q<;>(rw[q];rfl)
      have IFE:=hide (xN w6 _ cs6 _ en iq h56 (by rcases hen with q | q<;>(rw[q];decide)))
      have IRE:=hide (hm0.res (by rcases hen with q | q;exact Or.inl q;exact Or.inr (Or.inl q)) Df l9 Dg)
      have SU:=hide nN.ru
      clear nN Df l9 Dg hm0 iq h66 h46 h56 SS hf
      have Ab:=hide hgo
      have R5:=hide hen
      clear hgo hen
      go_wp2_with fail
      refine(ae IFE).mono ?_
      rintro e w6 ⟨rfl,rfl⟩
      go_wp2_with fail
      refine(ae IRE).mono ?_
      rintro e w7 ⟨rfl,lB,kQ,xY⟩
      have z0:=ah kQ
      have zx:=au kQ
      have zz:=af kQ
      have wJ:=hide lB
      have lj:=hide xY
      clear lB kQ xY IRE IFE
      go_wp2_with fail
      refine bodyPost_ret (v:= .agg #[.int .i64 en,.slice lo' (L++[(-2)]).length lc',.slice none 0 0,.slice none 0 0,.slice none 0 0]) (by simp[results,Tryz.results22,go_sem,z0]) rfl ?_
      refine⟨F,S0,ae zq,⟨j,S,L,lo',lc',ae SU,Or.inr ⟨pg,pk,ii,en,(-2),ae SM,by rw[ae zZ,ae SQ];exact ae SP,Or.inl ⟨ae Ab,ae R5,rfl⟩,rfl,?_⟩⟩,(((((ae wJ).setCell (Nat.le_refl _) _).setCell (Nat.le_refl _) _).setCell (Nat.le_refl _) _).setCell (Nat.le_refl _) _).setCell (Nat.le_refl _) _⟩
      refine bV (ai (ae lj) fun k q=> ?_) (Nat.le_succ _)
      have hne:k≠w.heap.size:=by have:=((ae lj).lt k q).1;omega
      rw[aC _ _ _ _ hne,aC _ _ _ _ hne,aC _ _ _ _ hne,aC _ _ _ _ hne,aC _ _ _ _ hne]
  ·obtain rfl:j=script.length:=by omega
   have hgl:=ue.gl
   have IFN:=hide (zS wr _ _ S.D nO nC S.fr S.G po pc ue.ma.mc (by omega) rfl)
   have Dd:=hide ue
   clear ue hkj hlt
   go_wp2_with fail
   refine(ae IFN).mono ?_
   rintro e w6 ⟨rfl,W,hbW,rfl⟩
   have IRS:=hide (((ae Dd).below hbW).res (ae HQ).pw hFl (Or.inl rfl))
   clear hbW IFN
   go_wp2_with fail
   refine(ae IRS).mono ?_
   rintro e w7 ⟨xo,xc,go,gc,yo,yc,rfl,De,lB,kQ,hpv⟩
   have z0:=ah kQ
   have zx:=au kQ
   have zz:=af kQ
   have SN:=hide (hpv [.int .i64 (gJ S.fr S.G),.slice lo L.length lc,.slice xo F.length xc,.slice go S.G.length gc,.slice yo S.G.length yc] rfl)
   have wJ:=hide lB
   clear De lB kQ hpv IRS
   go_wp2_with fail
   refine bodyPost_ret (v:= .agg #[.int .i64 (gJ S.fr S.G),.slice lo L.length lc,.slice xo F.length xc,.slice go S.G.length gc,.slice yo S.G.length yc]) (by simp[results,Tryz.results22,go_sem,z0]) rfl ?_
   exact⟨F,S0,ae zq,ae SN,(((((ae wJ).setCell (Nat.le_refl _) _).setCell (Nat.le_refl _) _).setCell (Nat.le_refl _) _).setCell (Nat.le_refl _) _).setCell (Nat.le_refl _) _⟩
end Go.Proofs.YthfjnfcekeknlabGreatDoor
namespace Zf
def query (l:List Tok):dP (List aD):=match items 5 false true l with
 | .inl e=> .inl e
 | .inr ((ys,_,_),l1)=>if(hd l1).kind=0 then .inr (ys,l1)else bad 2 l1
theorem Pw {l:List Tok} {e:Nat×Nat} (h:items 5 false true l= .inl e):query l= .inl e:=by unfold query;rw[h]
theorem EU {l l1:List Tok} {ys:List aD} {a b:Bool} (h:items 5 false true l= .inr ((ys,a,b),l1)) (hk:(hd l1).kind=0):query l= .inr (ys,l1):=by unfold query;rw[h];dsimp only;rw[if_pos hk]
theorem Px {l l1:List Tok} {ys:List aD} {a b:Bool} (h:items 5 false true l= .inr ((ys,a,b),l1)) (hk:(hd l1).kind≠0):query l=bad 2 l1:=by unfold query;rw[h];dsimp only;rw[if_neg hk]
end Zf
namespace Go.Proofs.YthfjnfcekeknlabGreatDoor
open Go.RowKit
def YH (r:Zf.dP (List Zf.aD)) (w:World) (e:Ending) (w':World):Prop:=∃(o:Option Addr) (n cap er:Nat),e= .returned (.agg #[.slice o n cap,.int .i64 (er:Int)])∧(match r with
 | .inl (er',_)=>er=er'
 | .inr (ys,_)=>er=0∧cD (Zf.ay [] ys) w' o n ys)∧Below w.heap.size w w'
theorem Py (w:World) (s:ByteArray) (hs:96<s.size):
 Calls Tryz.prog 21 #[.string s] w fun e w'=>e= .returned (.agg #[.slice none 0 0,.int .i64 1])∧Below w.heap.size w w':=by
 have hsz:decide (96<(s.size:Int))=true:=by simp;omega
 go_enter Tryz.func21,Tryz.ntmps21
 go_wp2_with fail
 refine bodyPost_ret (v:= .agg #[.slice none 0 0,.int .i64 1]) (by simp[results,Tryz.results21,go_sem]) rfl ?_
 exact⟨rfl,(Below.refl _ _).alloc (Nat.le_refl _) _⟩
theorem SV (w:World) (s:ByteArray) (L:List Zf.Tok) (hs:s.size≤96) (hL:Zf.ek s L) (hh:Zf.hd L=Zf.next s 0) (hl:L.length≤1000) (aV:dK w) (h0:0<w.heap.size):
 Calls Tryz.prog 21 #[.string s] w fun e w'=>YH (Zf.query L) w e w':=by
 have hsz:decide (96<(s.size:Int))=false:=by simp;omega
 have jL:=hide aV
 clear aV
 go_enter Tryz.func21,Tryz.ntmps21
 go_wp2_with fail
 refine(vL s 0 _ (by unfold maxLen;omega) (Nat.zero_le _) ((ae jL).below ((Below.refl _ _).alloc (Nat.le_refl _) _) h0) (by simp)).mono ?_
 rintro e w1 ⟨rfl,hb1⟩
 have Ci:=((ae jL).below ((Below.refl _ _).alloc (Nat.le_refl _) (.cells #[.slice none 0 0,.int .i64 0] 56)) h0).below hb1 (by simp)
 have hw1:w.heap.size<w1.heap.size:=by have:=hb1.size;simp at this;omega
 have HS:=hide (Ht Ci (by omega) hL hh hl (by omega))
 have aS:=hide (aA ((hb1.block w.heap.size (by simp)).trans (heap_alloc_new w (.cells #[.slice none 0 0,.int .i64 0] 56))) (.cells #[.string s,.int .i64 ((Zf.next s 0).kind:Int),.int .i64 ((Zf.next s 0).pos:Int),.string (Zf.next s 0).text,.slice none 0 0,.int .i64 0] 71))
 have dA:=hide ((((Below.refl w.heap.size w).alloc (Nat.le_refl _) (.cells #[.slice none 0 0,.int .i64 0] 56)).trans (hb1.mono (by simp))).alloc (by omega) (.cells #[.string s,.int .i64 ((Zf.next s 0).kind:Int),.int .i64 ((Zf.next s 0).pos:Int),.string (Zf.next s 0).text,.slice none 0 0,.int .i64 0] 71))
 clear hb1 Ci jL hL hh hl
 generalize (Zf.next s 0).kind=tk at*
 generalize (Zf.next s 0).pos=tp at*
 generalize (Zf.next s 0).text=tt at*
 have Zd:(w1.alloc (.cells #[.string s,.int .i64 (tk:Int),.int .i64 (tp:Int),.string tt,.slice none 0 0,.int .i64 0] 71)).heap.size=w1.heap.size+1:=by simp
 have I:=hide (pV _ w1.heap.size s L [] (.slice none 0 0) 0 false true (ae HS))
 go_wp2_with fail
 refine(ae I).mono ?_
 generalize hW:w1.alloc (.cells #[.string s,.int .i64 (tk:Int),.int .i64 (tp:Int),.string tt,.slice none 0 0,.int .i64 0] 71)=W at*
 generalize gY:w1.heap.size=rb at*
 clear I hW gY
 generalize hr:Zf.items 5 false true L=r
 have HR:=hide hr
 clear hr
 rcases r with⟨er,pos⟩ | ⟨⟨ys,tb,gb⟩,l1⟩
 ·rintro e w2 ⟨l',ns',nv',rfl,hs2,-,hk2⟩
  have hz2:=hk2.size
  have b0:=aj hk2 (ae aS) (by simp;omega)
  have y0:=ah b0
  have x0:=au b0
  have z0:=af b0
  have c5:=hs2.rd.c5
  have zr:=hs2.lt
  have dE:=hide (show Below w.heap.size w w2 from (ae dA).trans (hk2.below (by have:=(ae dA).size;omega) (by omega) (by simp;omega)))
  have zw:w.heap.size≤w2.heap.size:=(ae dE).size
  clear hs2 hk2 b0
  go_wp2_with fail
  refine bodyPost_ret (v:= .agg #[.slice none 0 0,.int .i64 er]) (by simp[results,Tryz.results21,go_sem,y0,z0,World.cell?_alloc_past]) rfl ?_
  rw[Zf.Pw (ae HR)]
  exact⟨none,0,0,er,rfl,rfl,by first | exact(((ae dE).setCell (Nat.le_refl _) _).setCell (Nat.le_refl _) _).alloc (by simp only[bS];omega) _ | exact(((ae dE).alloc (by omega) _).setCell (Nat.le_refl _) _).setCell (Nat.le_refl _) _⟩
 ·rintro e w2 ⟨ao,n,cap,ns',nv',e',rfl,⟨hit,kL⟩,hs2,hk2⟩
  have hz2:=hk2.size
  have b0:=aj hk2 (ae aS) (by simp;omega)
  have zr:=hs2.lt
  have dE:=hide (show Below w.heap.size w w2 from (ae dA).trans (hk2.below (by have:=(ae dA).size;omega) (by omega) (by simp;omega)))
  have zw:w.heap.size≤w2.heap.size:=(ae dE).size
  have cm:=hide hs2
  have kC:=hide b0
  have HIT:=hide hit
  have gX:=hide kL
  have y0:=ah b0
  have x0:=au b0
  have z0:=af b0
  clear hs2 hk2 b0 hit kL
  by_cases hk:(Zf.hd l1).kind=0
  ·have HW:=hide (Zf.EU (ae HR) hk)
   go_wp2_with fail
   refine(OS _ rb s l1 ns' _ e' ((ae cm).below ((Below.refl _ _).alloc (Nat.le_refl _) _)) hk).mono ?_
   rintro e w3 ⟨rfl,rfl⟩
   clear hk
   go_wp2_with fail
   refine bodyPost_ret (v:= .agg #[.slice ao n cap,.int .i64 0]) (by simp[results,Tryz.results21,go_sem,y0,z0,World.cell?_alloc_past]) rfl ?_
   rw[ae HW]
   have hne:∀{g:Nat} {cs:Array Value} {Y:TypeId},w2.heap[g]?=some (.cells cs Y (0,0))→Y≠56→g≠w.heap.size:=fun {g cs Y} hg hY e=>by
    rw[e,ae kC]at hg
    simp only[Option.some.injEq,Obj.cells.injEq]at hg
    exact hY hg.2.1.symm
   refine⟨ao,n,cap,0,rfl,⟨rfl,?_⟩,(((ae dE).setCell (Nat.le_refl _) _).setCell (Nat.le_refl _) _).alloc (by simp only[bS];omega) _⟩
   have hn:aR ns'=Zf.ay [] ys:=ae gX
   rw[←hn]
   refine(ae HIT).keep ⟨fun g cs hg _=> ?_,fun g cs hg _=> ?_⟩
   ·have q:=hne hg (by decide)
    rw[Below.heap_alloc _ _ _ (by simp only[bS];exact af hg),aC _ _ _ _ q,aC _ _ _ _ q]
    exact hg
   ·have q:=hne hg (by decide)
    rw[Below.heap_alloc _ _ _ (by simp only[bS];exact af hg),aC _ _ _ _ q,aC _ _ _ _ q]
    exact hg
  ·have HW:=hide (Zf.Px (ae HR) hk)
   go_wp2_with fail
   refine(OT _ rb s l1 ns' _ e' ((ae cm).below ((Below.refl _ _).alloc (Nat.le_refl _) _)) hk).mono ?_
   clear hk
   rintro e w3 ⟨rfl,hs3,hk3⟩
   have b3:=aj hk3 (aA (ae kC) _) (by simp;omega)
   have y3:=ah b3
   have x3:=au b3
   have z3:=af b3
   have c5:=hs3.rd.c5
   have zr3:=hs3.lt
   have nR:=hide (show Below w.heap.size w w3 from ((ae dE).alloc (ae dE).size _).trans (hk3.below (by have:=(ae dE).size;simp;omega) (by omega) (by simp;omega)))
   clear hs3 hk3 b3 y0 x0 z0
   go_wp2_with fail
   refine bodyPost_ret (v:= .agg #[.slice none 0 0,.int .i64 2]) (by simp[results,Tryz.results21,go_sem,y3]) rfl ?_
   rw[ae HW]
   exact⟨none,0,0,2,rfl,rfl,((ae nR).setCell (Nat.le_refl _) _).setCell (Nat.le_refl _) _⟩
theorem tW.keep {cls:List Zf.aI} {F:List Nat} {script:List (Int×Int)} {S0:cE} {b b':Nat} {e:Ending} {w' w2:World} (h:tW cls F script S0 b e w') (hb:b'≤b) (hk:∀k,b≤k→w2.heap[k]?=w'.heap[k]?):tW cls F script S0 b' e w2:=by
 have row:∀{Y:TypeId} {o:Option Addr} {n cap:Nat} {xs:List Value},w'.ownsRow b Y 1 (.slice o n cap) n xs→w2.ownsRow b' Y 1 (.slice o n cap) n xs:=fun {Y o n cap xs} q=>bV (ai q fun k r=>hk k (q.lt k r).1) hb
 obtain⟨j,S,L,lo,lc,h1,⟨h2,xo,xc,go,gc,yo,yc,h3,h4,h5,h6,h7,h8⟩ | ⟨pg,pc,i,en,z,h2,h3,h4,h5,h6⟩⟩:=h
 ·exact⟨j,S,L,lo,lc,h1,Or.inl ⟨h2,xo,xc,go,gc,yo,yc,h3,row h4,row h5,row h6,row h7,h8⟩⟩
 ·exact⟨j,S,L,lo,lc,h1,Or.inr ⟨pg,pc,i,en,z,h2,h3,h4,h5,row h6⟩⟩
theorem tW.five {cls:List Zf.aI} {F:List Nat} {script:List (Int×Int)} {S0:cE} {b:Nat} {e:Ending} {w':World} (h:tW cls F script S0 b e w'):∃(en:Int) (lo:Option Addr) (ln lc:Nat) (xo:Option Addr) (xn xc:Nat) (go:Option Addr) (gn gc:Nat) (yo:Option Addr) (yn yc:Nat),e= .returned (.agg #[.int .i64 en,.slice lo ln lc,.slice xo xn xc,.slice go gn gc,.slice yo yn yc]):=by
 obtain⟨j,S,L,lo,lc,h1,⟨h2,xo,xc,go,gc,yo,yc,h3,_⟩ | ⟨pg,pc,i,en,z,h2,h3,h4,h5,h6⟩⟩:=h
 ·exact⟨_,_,_,_,_,_,_,_,_,_,_,_,_,h3⟩
 ·exact⟨_,_,_,_,_,_,_,_,_,_,_,_,_,h5⟩
structure GV (sp:ByteArray) (LP:List Zf.Tok) (sq:ByteArray) (LQ:List Zf.Tok):Prop where
 pe:∀e,Zf.prog 12 LP= .inl e→e.1≠0
 qe:∀e,Zf.query LQ= .inl e→e.1≠0
 p:∀cls l,sp.size≤240→Zf.prog 12 LP= .inr (cls,l)→(∀c∈cls,Zf.jN c∧∀x∈c.goals,Zf.iV x)∧cls.length≤12
 q:∀ys l,sq.size≤96→Zf.query LQ= .inr (ys,l)→(∀x∈ys,Zf.iV x)∧ys.length≤6∧(Zf.ay [] ys).length≤100∧∀x∈ys,∀η:List UInt8→Zf.U,(∀y∈Zf.ay [] ys,Zf.size (η y)=1)→Zf.size (Zf.bJ η 8 x.left)≤300∧(∀r,x.right=some r→Zf.size (Zf.bJ η 8 r)≤300)∧(∀z,x.last=some z→Zf.size (Zf.bJ η 8 z)≤300)
def mD (s:ByteArray) (L:List Zf.Tok):Nat:=if 96<s.size then 1 else(match Zf.query L with
 | .inl e=>e.1
 | .inr _=>0)
def ko (s:ByteArray) (L:List Zf.Tok):Nat:=if 240<s.size then 1 else Zf.Fm (Zf.prog 12 L)
def SX (sp:ByteArray) (LP:List Zf.Tok) (sq:ByteArray) (LQ:List Zf.Tok) (script:List (Int×Int)) (w:World) (e:Ending) (w':World):Prop:=
 (∃er:Nat,er≠0∧er=(if ko sp LP≠0 then ko sp LP else if 100<script.length then 1 else mD sq LQ)∧e= .returned (.tuple #[.agg #[.int .i64 0,.slice none 0 0,.slice none 0 0,.slice none 0 0,.slice none 0 0],.int .i64 (er:Int)])∧Below w.heap.size w w')∨
 (ko sp LP=0∧script.length≤100∧mD sq LQ=0∧∃(cls:List Zf.aI) (l1:List Zf.Tok) (ys:List Zf.aD) (l2:List Zf.Tok) (F:List Nat) (S0:cE) (R:Value),Zf.prog 12 LP= .inr (cls,l1)∧Zf.query LQ= .inr (ys,l2)∧C3 (Zf.ay [] ys) ys F S0∧e= .returned (.tuple #[R,.int .i64 0])∧tW cls F script S0 w.heap.size (.returned R) w'∧Below w.heap.size w w')
theorem TS (w:World) (s:ByteArray) (L:List Zf.Tok) (hL:Zf.ek s L) (hh:Zf.hd L=Zf.next s 0) (hl:s.size≤240→L.length≤1000) (aV:dK w) (h0:0<w.heap.size) (he:∀e,Zf.prog 12 L= .inl e→e.1≠0):
 Calls Tryz.prog 20 #[.string s] w fun e w'=>∃(o:Option Addr) (n c p:Nat),e= .returned (.agg #[.slice o n c,.int .i64 (ko s L:Int),.int .i64 (p:Int)])∧(ko s L=0→s.size≤240∧∃cls l1,Zf.prog 12 L= .inr (cls,l1)∧dh w' o n cls)∧Below w.heap.size w w':=by
 by_cases hs:240<s.size
 ·refine(Lx w s hs).mono ?_
  rintro e w' ⟨rfl,hb⟩
  have:ko s L=1:=by unfold ko;rw[if_pos hs]
  exact⟨none,0,0,0,by rw[this];rfl,fun q=>by omega,hb⟩
 ·refine(Pb w s L (by omega) hL hh (hl (by omega)) aV h0).mono ?_
  rintro e w' ⟨o,n,c,rfl,hr,hb⟩
  have e1:ko s L=Zf.Fm (Zf.prog 12 L):=by unfold ko;rw[if_neg hs]
  refine⟨o,n,c,Zf.posOf (Zf.prog 12 L),by rw[e1],fun q=>⟨by omega,?_⟩,hb⟩
  rw[e1]at q
  cases hp:Zf.prog 12 L with
  | inl x=>rw[hp]at q;exact absurd q (he x hp)
  | inr x=>
   obtain⟨cls,l1⟩:=x
   rw[hp]at hr
   exact⟨cls,l1,rfl,hr⟩
theorem SY (w:World) (s:ByteArray) (L:List Zf.Tok) (hL:Zf.ek s L) (hh:Zf.hd L=Zf.next s 0) (hl:s.size≤96→L.length≤1000) (aV:dK w) (h0:0<w.heap.size) (he:∀e,Zf.query L= .inl e→e.1≠0):
 Calls Tryz.prog 21 #[.string s] w fun e w'=>∃(o:Option Addr) (n c:Nat),e= .returned (.agg #[.slice o n c,.int .i64 (mD s L:Int)])∧(mD s L=0→s.size≤96∧∃ys l1,Zf.query L= .inr (ys,l1)∧cD (Zf.ay [] ys) w' o n ys)∧Below w.heap.size w w':=by
 by_cases hs:96<s.size
 ·refine(Py w s hs).mono ?_
  rintro e w' ⟨rfl,hb⟩
  have:mD s L=1:=by unfold mD;rw[if_pos hs]
  exact⟨none,0,0,by rw[this];rfl,fun q=>by omega,hb⟩
 ·refine(SV w s L (by omega) hL hh (hl (by omega)) aV h0).mono ?_
  rintro e w' ⟨o,n,c,er,rfl,hr,hb⟩
  cases hp:Zf.query L with
  | inl x=>
   obtain⟨x1,x2⟩:=x
   rw[hp]at hr
   have e1:mD s L=x1:=by unfold mD;rw[if_neg hs,hp]
   have hr':er=x1:=hr
   exact⟨o,n,c,by rw[e1,hr'],fun q=>by rw[e1]at q;exact absurd q (he _ hp),hb⟩
  | inr x=>
   obtain⟨ys,l1⟩:=x
   rw[hp]at hr
   have e1:mD s L=0:=by unfold mD;rw[if_neg hs,hp]
   obtain⟨rfl,hi⟩:=hr
   exact⟨o,n,c,by rw[e1],fun _=>⟨by omega,ys,l1,rfl,hi⟩,hb⟩
theorem Pz (w:World) (sp:ByteArray) (LP:List Zf.Tok) (sq:ByteArray) (LQ:List Zf.Tok) (script:List (Int×Int)) (so:Option Addr) (sc:Nat) (hP:Zf.ek sp LP) (hPh:Zf.hd LP=Zf.next sp 0) (hPl:sp.size≤240→LP.length≤1000) (hQ:Zf.ek sq LQ) (hQh:Zf.hd LQ=Zf.next sq 0) (hQl:sq.size≤96→LQ.length≤1000) (aV:dK w) (h0:0<w.heap.size) (hpw:Pow w) (hok:GV sp LP sq LQ) (hsc:kF w so script) (ji:∀p∈script,(-9223372036854775808≤p.1∧p.1≤9223372036854775807)∧(-9223372036854775808≤p.2∧p.2≤9223372036854775807)):
 Calls Tryz.prog 8 #[.string sp,.string sq,.slice so script.length sc] w fun e w'=>SX sp LP sq LQ script w e w':=by
 have hb0:=(Below.refl w.heap.size w).alloc (Nat.le_refl _) (.cells #[.int .i64 0,.slice none 0 0,.slice none 0 0,.slice none 0 0,.slice none 0 0] 29)
 have IP:=hide (TS _ sp LP hP hPh hPl (aV.below hb0 h0) (by simp) hok.pe)
 have IQ:=hide (fun W (hu:Below w.heap.size w W)=>SY W sq LQ hQ hQh hQl (aV.below hu h0) (Nat.lt_of_lt_of_le h0 hu.size) hok.qe)
 have JQ:=hide (heap_alloc_new w (.cells #[.int .i64 0,.slice none 0 0,.slice none 0 0,.slice none 0 0,.slice none 0 0] 29))
 have aS:=hide hb0
 have qE:=hide hok
 have EG:=hide hpw
 have Jh:=hide hsc
 have zH:=hide ji
 clear hb0 hP hPh hPl hQ hQh hQl aV hpw hok hsc ji
 generalize Vu:ko sp LP=ep at*
 generalize heq:mD sq LQ=eq at*
 have Oc:=hide Vu
 have Eu:=hide heq
 clear Vu heq
 go_enter Tryz.func8,Tryz.ntmps8
 go_wp2_with fail
 refine(ae IP).mono ?_
 rintro e w1 ⟨o1,n1,c1,p1,rfl,hp1,hb1⟩
 have MF:=(ae aS).trans (hb1.mono (ae aS).size)
 have hz1:=(hb1.block w.heap.size (by simp)).trans (ae JQ)
 have hbA:=MF.alloc MF.size (.cells #[.slice o1 n1 c1,.int .i64 (ep:Int),.int .i64 (p1:Int)] 52)
 have hzA:=aA hz1 (.cells #[.slice o1 n1 c1,.int .i64 (ep:Int),.int .i64 (p1:Int)] 52)
 have haA:=heap_alloc_new w1 (.cells #[.slice o1 n1 c1,.int .i64 (ep:Int),.int .i64 (p1:Int)] 52)
 have IQ1:=hide (ae IQ _ hbA)
 have IK:=hide hp1
 have SZ:=hide hzA
 have Hm:=hide haA
 have xU:=hide hbA
 have z1w:w.heap.size<w1.heap.size:=af hz1
 clear hp1 hb1 MF hz1 hbA hzA haA IP IQ
 go_wp2_with fail
 refine(ae IQ1).mono ?_
 rintro e w2 ⟨o2,n2,c2,rfl,hq2,hb2⟩
 have tU:=(ae xU).trans (hb2.mono (ae xU).size)
 have hz2:=(hb2.block _ (af (ae SZ))).trans (ae SZ)
 have ha2:=(hb2.block _ (af (ae Hm))).trans (ae Hm)
 have hbB:=tU.alloc tU.size (.cells #[.slice o2 n2 c2,.int .i64 (eq:Int)] 56)
 have hzB:=aA hz2 (.cells #[.slice o2 n2 c2,.int .i64 (eq:Int)] 56)
 have haB:=aA ha2 (.cells #[.slice o2 n2 c2,.int .i64 (eq:Int)] 56)
 have hqB:=heap_alloc_new w2 (.cells #[.slice o2 n2 c2,.int .i64 (eq:Int)] 56)
 have tz:=af ha2
 have hcl:ep=0→sp.size≤240∧∃cls l1,Zf.prog 12 LP= .inr (cls,l1)∧dh (w2.alloc (.cells #[.slice o2 n2 c2,.int .i64 (eq:Int)] 56)) o1 n1 cls:=fun q=>by
  obtain⟨q1,cls,l1,q2,q3⟩:=ae IK q
  exact⟨q1,cls,l1,q2,((ez.below ((Below.refl _ w1).alloc (Nat.le_refl _) _)).trans ((ez.below hb2).trans (ez.below ((Below.refl _ w2).alloc (Nat.le_refl _) _)))).cls q3⟩
 have Vv:eq=0→sq.size≤96∧∃ys l1,Zf.query LQ= .inr (ys,l1)∧cD (Zf.ay [] ys) (w2.alloc (.cells #[.slice o2 n2 c2,.int .i64 (eq:Int)] 56)) o2 n2 ys:=fun q=>by
  obtain⟨q1,ys,l1,q2,q3⟩:=hq2 q
  exact⟨q1,ys,l1,q2,q3.keep (aQ.alloc _ _)⟩
 have vz:=hide hcl
 have Od:=hide Vv
 generalize hw3:w2.alloc (.cells #[.slice o2 n2 c2,.int .i64 (eq:Int)] 56)=w3 at*
 have a0:=ah haB 0
 have a1:=ah haB 1
 have q0:=ah hqB 0
 have q1:=ah hqB 1
 have az:=af haB
 have qz:=af hqB
 have z0:=ah hzB
 have zx:=au hzB
 have zz:=af hzB
 simp only[List.getElem?_toArray,List.getElem?_cons_zero,List.getElem?_cons_succ]at a0 a1 q0 q1
 have oq:=hide hbB
 have Ob:=hide hzB
 clear hq2 hb2 tU hz2 ha2 hbB hzB haB hqB hcl Vv IQ1 IK SZ Hm xU JQ aS
 by_cases h1:ep=0
 ·have t1:((ep:Int) != 0)=false:=by rw[h1];rfl
  have t1':((ep:Int) == 0)=true:=by rw[h1];rfl
  by_cases h2:100<script.length
  ·have t2:decide (100<(script.length:Int))=true:=by simp;omega
   have HE:=hide (show (1:Nat)=(if ko sp LP≠0 then ko sp LP else if 100<script.length then 1 else mD sq LQ)by rw[ae Oc,if_neg (by omega),if_pos h2])
   clear h1 h2
   go_wp2_with fail
   refine bodyPost_ret (v:= .tuple #[.agg #[.int .i64 0,.slice none 0 0,.slice none 0 0,.slice none 0 0,.slice none 0 0],.int .i64 1]) (by simp[results,Tryz.results8,go_sem,z0]) rfl ?_
   exact Or.inl ⟨1,by omega,ae HE,rfl,(((((ae oq).setCell (Nat.le_refl _) _).setCell (Nat.le_refl _) _).setCell (Nat.le_refl _) _).setCell (Nat.le_refl _) _).setCell (Nat.le_refl _) _⟩
  ·have t2:decide (100<(script.length:Int))=false:=by simp;omega
   by_cases h3:eq=0
   ·have t3:((eq:Int) != 0)=false:=by rw[h3];rfl
    have t3':((eq:Int) == 0)=true:=by rw[h3];rfl
    obtain⟨hs1,cls,l1,C2,hcl⟩:=ae vz h1
    obtain⟨hs2,ys,l2,S3,hit⟩:=ae Od h3
    obtain⟨okp,cl12⟩:=(ae qE).p cls l1 hs1 C2
    obtain⟨okq,il6,nl,szq⟩:=(ae qE).q ys l2 hs2 S3
    have sV:n1=cls.length:=hcl.1
    subst sV
    have S4:Vo w3 cls o1 ys (Zf.ay [] ys) o2 n2 script so:=⟨hcl,okp,cl12,hit,okq,il6,⟨[],by simp⟩,nl,szq,fun hne=>by
     obtain⟨g,off,q1,q2,q3⟩:=ae Jh hne
     exact⟨g,off,q1,Nat.lt_of_lt_of_le q2 (ae oq).size,fun i hi=>⟨((ae oq).cell (p:=⟨g,off+i*2,none⟩) q2).trans (q3 i hi).1,((ae oq).cell (p:=⟨g,off+i*2+1,none⟩) q2).trans (q3 i hi).2⟩⟩,by omega,ae zH,(ae EG).below (ae oq)⟩
    have IY:=hide (JX w3 cls o1 c1 ys (Zf.ay [] ys) o2 n2 c2 script so sc S4)
    have dG:=hide (show∀(R:Value) (F:List Nat) (S0:cE) (w4 w5:World),C3 (Zf.ay [] ys) ys F S0→tW cls F script S0 w3.heap.size (.returned R) w4→(∀k,w3.heap.size≤k→w5.heap[k]?=w4.heap[k]?)→Below w.heap.size w w5→SX sp LP sq LQ script w (.returned (.tuple #[R,.int .i64 0])) w5 from fun R F S0 w4 w5 k1 k2 k3 k4=>Or.inr ⟨by rw[ae Oc];exact h1,by omega,by rw[ae Eu];exact h3,cls,l1,ys,l2,F,S0,R,C2,S3,k1,rfl,k2.keep (ae oq).size k3,k4⟩)
    clear h1 h2 h3 hs1 C2 hcl hs2 S3 hit okp cl12 okq il6 nl szq S4 vz Od
    go_wp2_with fail
    refine(ae IY).mono ?_
    rintro e w4 ⟨F,S0,hps,De,hb4⟩
    obtain⟨en,lo,ln,lc,xo,xn,xc,go,gn,gc,yo,yn,yc,rfl⟩:=De.five
    have Oe:=(hb4.block _ zz).trans (ae Ob)
    have y0:=ah Oe
    have yx:=au Oe
    have yz:=af Oe
    have CZ:=(ae oq).trans (hb4.mono (ae oq).size)
    have cu:=hide CZ
    have YI:=hide De
    have zq:=hide hps
    clear Oe CZ hb4 De hps IY
    go_wp2_with fail
    refine bodyPost_ret (v:= .tuple #[.agg #[.int .i64 en,.slice lo ln lc,.slice xo xn xc,.slice go gn gc,.slice yo yn yc],.int .i64 0]) (by simp[results,Tryz.results8,go_sem,y0]) rfl ?_
    refine ae dG _ F S0 w4 _ (ae zq) (ae YI) (fun k hk=> ?_) ((((((ae cu).setCell (Nat.le_refl _) _).setCell (Nat.le_refl _) _).setCell (Nat.le_refl _) _).setCell (Nat.le_refl _) _).setCell (Nat.le_refl _) _)
    have q:k≠w.heap.size:=by omega
    rw[aC _ _ _ _ q,aC _ _ _ _ q,aC _ _ _ _ q,aC _ _ _ _ q,aC _ _ _ _ q]
   ·have t3:((eq:Int) != 0)=true:=by simp;omega
    have t3':((eq:Int) == 0)=false:=by simp;omega
    have HE:=hide (show eq=(if ko sp LP≠0 then ko sp LP else if 100<script.length then 1 else mD sq LQ)by rw[ae Oc,ae Eu,if_neg (by omega),if_neg h2])
    have qD:=hide h3
    clear h1 h2 h3 vz Od
    go_wp2_with fail
    go_region
    all_goals
     go_wp2_with fail
     refine bodyPost_ret (v:= .tuple #[.agg #[.int .i64 0,.slice none 0 0,.slice none 0 0,.slice none 0 0,.slice none 0 0],.int .i64 (eq:Int)]) (by simp[results,Tryz.results8,go_sem,z0]) rfl ?_
     exact Or.inl ⟨eq,ae qD,ae HE,rfl,by first | exact((((((ae oq).setCell (Nat.le_refl _) _).setCell (Nat.le_refl _) _).setCell (Nat.le_refl _) _).setCell (Nat.le_refl _) _).setCell (Nat.le_refl _) _).drew | exact(((((ae oq).drew.setCell (Nat.le_refl _) _).setCell (Nat.le_refl _) _).setCell (Nat.le_refl _) _).setCell (Nat.le_refl _) _).setCell (Nat.le_refl _) _⟩
 ·have t1:((ep:Int) != 0)=true:=by simp;omega
  have t1':((ep:Int) == 0)=false:=by simp;omega
  have HE:=hide (show ep=(if ko sp LP≠0 then ko sp LP else if 100<script.length then 1 else mD sq LQ)by rw[ae Oc,if_pos h1])
  have qD:=hide h1
  clear h1 vz Od
  go_wp2_with fail
  go_region
  all_goals
   go_wp2_with fail
   refine bodyPost_ret (v:= .tuple #[.agg #[.int .i64 0,.slice none 0 0,.slice none 0 0,.slice none 0 0,.slice none 0 0],.int .i64 (ep:Int)]) (by simp[results,Tryz.results8,go_sem,z0]) rfl ?_
   exact Or.inl ⟨ep,ae qD,ae HE,rfl,by first | exact((((((ae oq).setCell (Nat.le_refl _) _).setCell (Nat.le_refl _) _).setCell (Nat.le_refl _) _).setCell (Nat.le_refl _) _).setCell (Nat.le_refl _) _).drew | exact(((((ae oq).drew.setCell (Nat.le_refl _) _).setCell (Nat.le_refl _) _).setCell (Nat.le_refl _) _).setCell (Nat.le_refl _) _).setCell (Nat.le_refl _) _⟩
end Go.Proofs.YthfjnfcekeknlabGreatDoor
namespace Zf
open Go.Proofs.YthfjnfcekeknlabGreatDoor (dB)
def jk (s:Nat) (N:List (List UInt8)) (items:List aD):MS:=⟨(List.range N.length).map fun k=> .v ([],s+k),items.map (MG.of fun y=> .v ([],s+N.idxOf y)),s+N.length⟩
end Zf
namespace Go.Proofs.YthfjnfcekeknlabGreatDoor
open Go.RowKit
open Zf (U Vr aI)
theorem MH {cls:List aI} {V:List Nat} {S:cE} {i:Nat} {p en:Int} (hok:∀c∈cls,Zf.jN c) (h:xX V S) (hg:JC cls S i p en):Zf.EJ cls (js V S) i p en:=by
 obtain⟨g,iK,hc⟩:=hg
 have km:g∈S.G:=List.mem_of_getElem? iK
 have gw:=h.wf.gw g km
 have hai:(js V S).gs[i]?=some (eQ S.fr S.T g):=by show (S.G.map _)[i]?=_;rw[List.getElem?_map,iK];rfl
 have mj:Zf.bB (Zf.PQ (·<S.D.length)) (S.T g.l):=(h.wf.tY gw.ll).mono fun x hx=>⟨hx.1,hx.2.1⟩
 refine⟨_,hai,?_⟩
 rcases hc with⟨hs,he,rn,hr,hrl,hno⟩ | ⟨hs,rn,zn,hr,hrl,hz,hw,hv⟩ | ⟨hs,he,tx,us,htx,hnt,rs,r1,r2,r3⟩
 ·left
  refine⟨hs,he,fun θ=> ?_⟩
  show Zf.sub θ (S.T g.l)≠Zf.sub θ (cG S.T g.r)
  rw[hr,gq]
  exact hno θ
 ·right;left
  obtain⟨ew,ev⟩:=Da (T:=S.T) (op:=g.op.toList) hr (fun q=>(hz q).1)
  refine⟨hs,?_,?_⟩
  ·show (Zf.fp g.op.toList (cG S.T g.r) (cG S.T g.z)).wt=[]
   rw[ew];exact hw
  ·show (en=5∧fh g.op.toList (cG S.T g.r) (cG S.T g.z)=none)∨(en=4∧∃x,fh g.op.toList (cG S.T g.r) (cG S.T g.z)=some x∧_)
   rw[ev]
   exact hv
 ·right;right
  rw[htx]at r2 mj
  refine⟨he,_,_,⟨hs,tx,us,htx,hnt,rfl,rfl⟩,fun t c ht hc=> ?_⟩
  show (Zf.bI S.D.length (S.T g.l) c).1=2
  rw[htx]
  have ht':t<rs.length:=by omega
  obtain⟨q1,q2,_⟩:=ud r2 mj hok ht' hc
  rw[q1]
  unfold Zf.mr at r3
  have q3:=List.any_eq_false.1 r3 rs[t] (List.getElem_mem ht')
  have q4:rs[t].1≠3:=by simpa using q3
  obtain⟨_,c',V',F',T',_,hcn⟩:=r2 t rs[t] (List.getElem?_eq_getElem ht')
  rcases hcn with⟨_,k,_⟩ | ⟨_,_,_,_,_,k,_⟩
  ·rcases AO (Zf.matU 8 c'.head (.n 1 tx 0 us) ⟨[],Zf.Wn.none⟩).w with e | e | e<;>rw[e]at k
   ·exact absurd k q2
   ·exact k
   ·exact absurd k q4
  ·rcases AO (Zf.fP (bT T' (V'++F') (Zf.NG c')) c'.tests)with e | e | e<;>rw[e]at k
   ·exact absurd k q2
   ·exact k
   ·exact absurd k q4
theorem uN (V:List Nat) (S:cE):Zf.jO (js V S).gs=cJ S.fr S.G S.G.length:=by
 unfold Zf.jO cJ js
 dsimp only
 rw[List.length_map]
 refine List.filter_congr fun i _=> ?_
 rw[List.getElem?_map]
 cases S.G[i]? with
 | none=>rfl
 | some g=>simp[eQ]
theorem PA (V:List Nat) (S:cE):Zf.yM (js V S).gs=gJ S.fr S.G:=by
 unfold Zf.yM gJ
 rw[uN]
 have:(js V S).gs=[]↔S.G=[]:=List.map_eq_nil_iff
 by_cases q:S.G=[]
 ·rw[if_pos q,if_pos (this.2 q)]
 ·rw[if_neg q,if_neg (fun e=>q (this.1 e))]
theorem big_z:Zf.big Zf.zU=false:=by decide
theorem uf (T:Nat→U) (x:Int):fY T x=Zf.big (cG T x):=by
 unfold fY Zf.big cG
 by_cases q:x= -1
 ·rw[if_pos q,decide_eq_false (fun e=>e.1 q)];exact big_z.symm
 ·rw[if_neg q]
  exact decide_eq_decide.2 ⟨fun e=>e.2,fun e=>⟨q,e⟩⟩
theorem EW {V:List Nat} {S:cE} (h:xX V S):Zf.pH (js V S)=mX V S:=by
 unfold Zf.pH mX js
 dsimp only
 rw[List.length_map,List.any_map,List.any_map,List.any_map]
 have e1:V.any (Zf.big∘S.T)=V.any (fY S.T∘fun n:Nat=>(n:Int)):=by
  congr 1
  funext v
  show Zf.big (S.T v)=fY S.T (v:Int)
  rw[uf,gq]
 have e2:S.G.any (Zf.pG∘eQ S.fr S.T)=S.G.any (jr S.D S.fr S.T):=by
  have key:∀g∈S.G,Zf.pG (eQ S.fr S.T g)=jr S.D S.fr S.T g:=fun g hg=>by
   have gw:=h.wf.gw g hg
   unfold Zf.pG jr iL
   by_cases q:g.sg.toList=[]
   ·rw[if_pos (show (eQ S.fr S.T g).sg=[]from q),if_pos q]
    have hf:=h.wf.ok.lt gw.ll
    rw[List.getElem?_eq_getElem hf]
    dsimp only[Option.elim]
    rw[List.any_map]
    have ht:=h.wf.sto.tr g.l
    have ea:Zf.ga (aX S.D) (S.fr g.l)=S.D[S.fr g.l].args:=jS hf
    show (match S.T g.l with
     | .v _=>false
     | .n _ _ _ us=>us.any Zf.big)=_
    generalize S.T g.l=x at ht
    cases ht with
    | var h1 h2=>rw[←ea,h2];rfl
    | @node _ k tx num us h1 h2 h3=>
     dsimp only
     rw[ea]at h2 h3
     have eu:us=S.D[S.fr g.l].args.map S.T:=by
      apply List.ext_getElem (by rw[List.length_map,h2])
      intro j j1 j2
      rw[List.getElem_map]
      have ja:j<S.D[S.fr g.l].args.length:=by simpa using j2
      exact(h3 j _ _ (List.getElem?_eq_getElem ja) (List.getElem?_eq_getElem j1)).one (h.wf.sto.tr _)
     rw[eu,List.any_map]
     congr 1
     funext v
     show Zf.big (S.T v)=fY S.T (v:Int)
     rw[uf,gq]
   ·rw[if_neg (show¬(eQ S.fr S.T g).sg=[]from q),if_neg q]
    show (Zf.big (S.T g.l)||Zf.big (cG S.T g.r)||Zf.big (cG S.T g.z))=_
    simp only[List.any_cons,List.any_nil,Bool.or_false,uf,gq,Bool.or_assoc]
  have:∀l:List Gl,(∀g∈l,g∈S.G)→l.any (Zf.pG∘eQ S.fr S.T)=l.any (jr S.D S.fr S.T):=by
   intro l
   induction l with
   | nil=>intro _;rfl
   | cons g l ih=>
    intro hl
    rw[List.any_cons,List.any_cons,ih (fun x hx=>hl x (by simp[hx]))]
    show (Zf.pG (eQ S.fr S.T g)||_)=_
    rw[key g (hl g (by simp))]
  exact this S.G fun g hg=>hg
 rw[e1,e2]
theorem EX (T:Nat→U) (V:List Nat):Zf.iW (V.map T)=eO T V:=by
 unfold Zf.iW eO
 rw[List.foldl_map]
 rfl
theorem PB {V:List Nat} {S:cE} (h:xX V S) (N:List Vr):Zf.wD N (js V S).gs=kE S.T N S.G:=by
 have nz:∀(N:List Vr) (x:Int),Zf.aZ N (cG S.T x)=iC S.T N x:=fun N x=>by
  unfold cG iC
  by_cases q:x= -1
  ·rw[if_pos q,if_pos q];rfl
  ·rw[if_neg q,if_neg q]
 have key:∀g∈S.G,∀a,Zf.nt a (eQ S.fr S.T g)=stepG S.T a g:=fun g hg a=>by
  have gw:=h.wf.gw g hg
  have en:∀N,Zf.iN N (eQ S.fr S.T g)=JJ S.T N g:=fun N=>by
   unfold Zf.iN JJ
   show Zf.aZ (Zf.aZ (Zf.aZ N (S.T g.l)) (cG S.T g.r)) (cG S.T g.z)=_
   rw[nz,nz]
   have:iC S.T N (g.l:Int)=Zf.aZ N (S.T g.l):=by rw[←nz,gq]
   rw[this]
  have et:∀N,Zf.rI N (eQ S.fr S.T g)=EI S.T N g:=fun N=>by
   unfold Zf.rI EI
   show Zf.mZ (Zf.bP Lib.itoa N (S.T g.l)) g.sg.toList (Zf.bP Lib.itoa N (cG S.T g.r)) g.op.toList (Zf.bP Lib.itoa N (cG S.T g.z))=_
   unfold Zf.mZ
   by_cases q:g.sg.toList=[]
   ·rw[if_pos q,if_pos q]
   ·rw[if_neg q,if_neg q]
    obtain⟨n,hn,_⟩:=gw.rr q
    have e1:cG S.T g.r=S.T g.r.toNat:=by rw[hn,gq];rfl
    rw[e1]
    by_cases o:g.op.toList=[]
    ·rw[if_pos o,if_pos o]
    ·rw[if_neg o,if_neg o]
     obtain⟨m,hm,_⟩:=gw.zz o
     have e2:cG S.T g.z=S.T g.z.toNat:=by rw[hm,gq];rfl
     rw[e2]
  unfold Zf.nt stepG
  rw[en,et]
 unfold Zf.wD kE js
 dsimp only
 rw[List.foldl_map]
 have:∀(l:List Gl) (a:List (List UInt8)×List Vr),(∀g∈l,g∈S.G)→l.foldl (fun x y=>Zf.nt x (eQ S.fr S.T y)) a=l.foldl (stepG S.T) a:=by
  intro l
  induction l with
  | nil=>intro a _;rfl
  | cons g l ih=>
   intro a hl
   rw[List.foldl_cons,List.foldl_cons,key g (hl g (by simp))]
   exact ih _ fun x hx=>hl x (by simp[hx])
 exact this S.G _ fun g hg=>hg
theorem Dh {cls:List aI} {V:List Nat} {script:List (Int×Int)} {S0:cE} (hok:∀c∈cls,Zf.jN c) (h0:xX V S0) {j:Nat} {S:cE} {L:List Int} (h:yL cls V script S0 j S L):Zf.mC cls script (js V S0) j (js V S) L∧xX V S:=by
 induction h with
 | start=>exact⟨.start,h0⟩
 | @step j S S' L pg pc z i h hs hi hg hl ih=>
  obtain⟨i1,i2⟩:=ih
  obtain⟨k1,k2⟩:=Db hok i2 hg
  exact⟨.step i1 hs (by rw[uN];exact hi) k1 (by rw[EW k2];exact hl),k2⟩
theorem JY {items:List Zf.aD} {F:List Nat} {S:cE} (h:C3 (Zf.ay [] items) items F S) (hi:∀x∈items,Zf.iV x):xX F S∧Zf.eP (fun k=>(F[k - 1]?).getD 0) (fun k=>1≤k∧k<1+(Zf.ay [] items).length) (Zf.jk 1 (Zf.ay [] items) items) (js F S):=by
 have hgl:=h.gl
 have zE:∀{xs:List Zf.aD} {gs:List Gl},bR (mL S.T S.D.length (bT S.T F (Zf.ay [] items))) xs gs→(∀x∈xs,Zf.iV x)→∀g∈gs,mA S.T S.D.length g∧g.nd=[]:=by
  intro xs
  induction xs with
  | nil=>
   intro gs ha _ g hg
   cases gs with
   | nil=>cases hg
   | cons y ys=>exact ha.elim
  | cons x xs ih=>
   intro gs ha hx g hg
   cases gs with
   | nil=>cases hg
   | cons y ys=>
    rcases List.mem_cons.1 hg with q | q
    ·rw[q];exact⟨ha.1.gw (hx x (by simp)),ha.1.nd⟩
    ·exact ih ha.2 (fun z hz=>hx z (by simp[hz])) g q
 have hv:∀f∈F,S.T f= .v ([],f):=fun f hf=>(pD (D:=[]) (E:=S.D) (by rw[List.nil_append];exact h.ok) (by rw[List.nil_append];exact h.sto) h.nd h.nv f hf).2.2
 have hF:∀k (hk:k<F.length),(F[(1+k) - 1]?).getD 0=F[k]:=fun k hk=>by
  rw[Nat.add_sub_cancel_left,List.getElem?_eq_getElem hk];rfl
 refine⟨⟨⟨h.sto,h.ok,fun g hg=>(zE hgl hi g hg).1,fun g hg v hv=>(by rw[(zE hgl hi g hg).2]at hv;cases hv)⟩,fun g hg v hv=>(by rw[(zE hgl hi g hg).2]at hv;cases hv),h.lt⟩,⟨fun i j hPi hPj hij=> ?_,fun k hk=>hk.2,fun k hk=> ?_,fun u hu=> ?_,fun g hg=> ?_,?_,?_⟩⟩
 ·have iB:=h.ln
  show (F[i - 1]?).getD 0<(F[j - 1]?).getD 0
  rw[List.getElem?_eq_getElem (show i - 1<F.length by omega),List.getElem?_eq_getElem (show j - 1<F.length by omega)]
  exact List.pairwise_iff_getElem.1 h.nv.ord _ _ _ _ (by omega)
 ·have iB:=h.ln
  show (F[k - 1]?).getD 0<S.D.length
  rw[List.getElem?_eq_getElem (show k - 1<F.length by omega)]
  exact h.lt _ (List.getElem_mem _)
 ·obtain⟨k,hk,rfl⟩:=List.mem_map.1 hu
  have:=List.mem_range.1 hk
  exact .v ⟨rfl,by show 1≤1+k;omega,by show 1+k<_;omega⟩
 ·obtain⟨x,hx,rfl⟩:=List.mem_map.1 hg
  obtain⟨ns,hn⟩:=Zf.fA items [] x hx
  refine Zf.N8 (hi x hx).ok ns fun y hy=> .v ⟨rfl,by show 1≤1+_;omega,?_⟩
  have:=List.idxOf_lt_length_of_mem (hn y hy)
  show 1+(Zf.ay [] items).idxOf y<_
  omega
 ·show F.map S.T=((List.range _).map _).map _
  rw[List.map_map]
  apply List.ext_getElem (by simp[h.ln])
  intro k k1 k2
  have hk:k<F.length:=by simpa using k1
  rw[List.getElem_map,List.getElem_map,List.getElem_range,hv _ (List.getElem_mem hk)]
  show U.v ([],F[k])= .v ([],(F[(1+k) - 1]?).getD 0)
  rw[hF k hk]
 ·show S.G.map _=(items.map _).map _
  rw[List.map_map]
  refine wF hgl fun x hx y hy=> ?_
  rw[ES hy (hi x hx).ok]
  obtain⟨ns,hn⟩:=Zf.fA items [] x hx
  refine Zf.JT (hi x hx).ok ns fun w hw=> ?_
  have rX:=List.idxOf_lt_length_of_mem (hn w hw)
  have hk:(Zf.ay [] items).idxOf w<F.length:=by rw[h.ln];exact rX
  show bT S.T F (Zf.ay [] items) w=U.v ([],(F[(1+(Zf.ay [] items).idxOf w) - 1]?).getD 0)
  rw[hF _ hk]
  unfold bT
  rw[List.getElem?_eq_getElem hk]
  exact hv _ (List.getElem_mem hk)
end Go.Proofs.YthfjnfcekeknlabGreatDoor
