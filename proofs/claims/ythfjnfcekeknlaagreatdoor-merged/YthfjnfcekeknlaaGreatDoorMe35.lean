import Derived.Test.YthfjnfcekeknlaaGreatDoorMe33
import Derived.Deep.LoopGhost
set_option maxHeartbeats 8000000
set_option maxRecDepth 100000
namespace Go.Proofs.YthfjnfcekeknlaaGreatDoor
open Go.RowKit
open Zc (U Vr aJ)
theorem rk {D E:List Ng} {v:Nat} (h:v<D.length):Zc.gl (aZ (D++E)) v=Zc.gl (aZ D) v:=by
 rw[lY (show v<(D++E).length by rw[List.length_append];omega),lY h,List.getElem_append_left h]
theorem Mt {η θ:List UInt8→U} {x:Zc.aH} (h:Zc.ug x) (ns:List (List UInt8)) (hy:∀y∈Zc.aO ns x,η y=θ y):Zc.MG.of η x=Zc.MG.of θ x:=by
 have hp:∀t,(t=x.left∨x.right=some t∨x.last=some t)→Zc.bH η 8 t=Zc.bH θ 8 t:=fun t ht=>by
  obtain⟨h1,ns',h2⟩:=h.parts ns t ht
  exact Zc.iy 8 t ns' h1 fun y q=>hy y (h2 y q)
 unfold Zc.MG.of
 rw[hp x.left (Or.inl rfl)]
 congr 1
 ·cases e:x.right with
  | none=>rfl
  | some t=>exact hp t (Or.inr (Or.inl e))
 ·cases e:x.last with
  | none=>rfl
  | some t=>exact hp t (Or.inr (Or.inr e))
theorem ET {fr:Nat→Nat} {T:Nat→U} {len:Nat} {η:List UInt8→U} {x:Zc.aH} {g:Gl} (h:mN T len η x g) (hx:Zc.ug x):eU fr T g=Zc.MG.of η x:=by
 have hr:fU fr g=true:=by unfold fU;rw[h.nw];rfl
 unfold eU Zc.MG.of
 rw[h.tl,h.sg,h.op,hr]
 congr 1
 ·by_cases q:x.sign=[]
  ·rw[hx.r0 q,h.r0 q];rfl
  ·obtain⟨r,h1,_⟩:=hx.r1 q
   obtain⟨n,h2,_,h3⟩:=h.r1 r h1
   rw[h1,h2,gA,h3];rfl
 ·by_cases q:x.op=[]
  ·rw[hx.z0 q,h.z0 q];rfl
  ·obtain⟨r,h1,_⟩:=hx.z1 q
   obtain⟨n,h2,_,h3⟩:=h.z1 r h1
   rw[h1,h2,gA,h3];rfl
 ·funext v
  simp
theorem wV {α β γ:Type} {R:α→β→Prop} {f:β→γ} {g:α→γ}:∀{xs:List α} {ys:List β},bO R xs ys→(∀x∈xs,∀y,R x y→f y=g x)→ys.map f=xs.map g
 | [],[],_,_=>rfl
 | x :: xs,y :: ys,h,hf=>by
  rw[List.map_cons,List.map_cons,hf x (by simp) y h.1,wV h.2 fun a ha b hb=>hf a (by simp[ha]) b hb]
theorem EU {T:Nat→U} {len:Nat} {η:List UInt8→U}:∀{xs:List Zc.aH} {gs:List Gl},bO (mN T len η) xs gs→∀g∈gs,g.nd=[]
 | [],[],_,g,hg=>by cases hg
 | x :: xs,y :: ys,h,g,hg=>by
  rcases List.mem_cons.1 hg with q | q
  ·rw[q];exact h.1.nd
  ·exact EU h.2 g q
theorem DW {T T':Nat→U} {u:U} {c:aJ} {V:List Nat} (h:Zc.uZ T u c V) (he:∀m∈V,T' m=T m):Zc.uZ T' u c V:=⟨h.1,fun i x m h1 h2=>by
 obtain⟨q,q1,q2⟩:=h.2 i x m h1 h2
 exact⟨q,q1,(he m (List.mem_of_getElem? h2)).trans q2⟩⟩
theorem SF {Q:Vr→Prop} {op:List UInt8} {u v:U} (hu:Zc.bA Q u) (hv:op≠[]→Zc.bA Q v):(Zc.fo op u v).fk Q:=by
 unfold Zc.fo
 split
 ·exact(Zc.dG Q).bN hu
 ·rename_i q;exact((Zc.dG Q).bN hu).bN (hv q)
theorem uy {cls:List aJ} {own:List Nat} {bg:Nat} {u:U} {b:Nat} {rs:List (Nat×List Nat)} (h:nR cls own bg u b rs) (hu:Zc.bA (Zc.PQ (·<b)) u) (aF:∀c∈cls,Zc.jN c) {t:Nat} (ht:t<rs.length) {c:aJ} (hc:cls[iW own bg t]?=some c):(Zc.bT b u c).1=rs[t].1∧rs[t].1≠1∧∀v,v∈rs[t].2↔v∈(Zc.bT b u c).2:=by
 obtain⟨h1,c',V,F,T',h2,h3⟩:=h t rs[t] (List.getElem?_eq_getElem ht)
 rw[hc]at h2
 cases h2
 obtain⟨k1,k2⟩:=C5 h3 hu (aF c (List.mem_of_getElem? hc))
 exact⟨k1,h1,k2⟩
theorem wW {rs:List (Nat×List Nat)} {v:Nat}:v∈Zc.cE rs↔∃t,∃h:t<rs.length,rs[t].1=3∧v∈rs[t].2:=by
 unfold Zc.cE
 rw[List.mem_flatMap]
 constructor
 ·rintro⟨r,h1,h2⟩
  obtain⟨t,ht,rfl⟩:=List.getElem_of_mem h1
  split at h2
  ·rename_i q;exact⟨t,ht,q,h2⟩
  ·cases h2
 ·rintro⟨t,ht,q,hv⟩
  exact⟨rs[t],List.getElem_mem ht,by rw[if_pos q];exact hv⟩
theorem yS {cls:List aJ} {tx:List UInt8} {m bg t:Nat} (h:t<(Zc.cr cls tx m cls.length).length):∃c,cls[iW (Zc.cr cls tx m cls.length) bg t]?=some c:=by
 unfold iW
 have hk:(bg+t) % (Zc.cr cls tx m cls.length).length<(Zc.cr cls tx m cls.length).length:=Nat.mod_lt _ (by omega)
 rw[List.getElem?_eq_getElem hk]
 have:=List.getElem_mem hk
 unfold Zc.cr at this
 rw[List.mem_filter,List.mem_range]at this
 exact⟨_,List.getElem?_eq_getElem this.1⟩
theorem C8 {cls:List aJ} {V:List Nat} {S S':b8} {i:Nat} {p z:Int} (aF:∀c∈cls,Zc.jN c) (h:yb V S) (hg:CI cls S S' i p z):Zc.kZ cls (jv V S) (jv V S') i p z∧yb V S':=by
 obtain⟨⟨g,iE,hc⟩,yT⟩:=hg
 have ky:g∈S.G:=List.mem_of_getElem? iE
 have gw:=h.wf.gw g ky
 have hai:(jv V S).gs[i]?=some (eU S.fr S.T g):=by show (S.G.map _)[i]?=_;rw[List.getElem?_map,iE];rfl
 have mh:Zc.bA (Zc.PQ (·<S.D.length)) (S.T g.l):=(h.wf.uw gw.ll).mono fun x hx=>⟨hx.1,hx.2.1⟩
 rcases hc with⟨hs,rfl,rn,σ,hr,eO,hsm,pG,hG⟩ | ⟨hs,rfl,rn,zn,wo,wc,hr,eO,hz,hw,eD,eF,eT,hG⟩ | ⟨hs,rfl,rn,zn,x,T2,σ,hr,eO,hz,hw,hv,st2,old2,tn2,hsm,pG,hG⟩ | ⟨hs,rfl,ht,eD,eF,eT,hG⟩ | ⟨hs,tx,us,bj,ui,rs,c,VV,F,T2,ws,E,F',Gn,r1,r2,r3,r4,rfl,eD,eF,r6,r7,r8,r9,r10,r11,r12,r13,hG⟩ | ⟨hs,rfl,tx,us,bj,ui,rs,E,oo,oc,r1,r2,r3,eD,eF,r6,r7,hG⟩
 ·have hl:=hsm.len
  refine⟨⟨Nat.le_of_eq hl.symm,_,hai,Or.inl ⟨hs,rfl,σ,?_,?_,?_⟩⟩,yT,fun x hx v hv=> ?_,fun v hv=>by rw[hl];exact h.vl v hv⟩
  ·show Zc.fG (S.T g.l) (ct S.T g.r) σ
   rw[hr,gA]
   exact pG.PJ
  ·show V.map S'.T=(V.map S.T).map _
   rw[List.map_map]
   exact List.map_congr_left fun v _=>pG.is v
  ·show S'.G.map _=((S.G.map _).eraseIdx i).map _
   rw[hG,Zc.i7,List.map_map]
   exact List.map_congr_left fun x hx=>ER pG h.wf.sto (fun _ _=>rfl) (h.wf.gw x (mem_erase hx)) (h.nd x (mem_erase hx))
  ·rw[hsm.g]
   rw[hG]at hx
   exact h.nd x (mem_erase hx) v hv
 ·have uv:=SF (Q:=Zc.PQ (isVar S)) (op:=g.op.toList) (h.wf.uw eO) (fun q=>h.wf.uw (hz q).2)
  obtain⟨ew,_⟩:=C7 (T:=S.T) (op:=g.op.toList) hr (fun q=>(hz q).1)
  have hwt:∀v∈(Zc.fo g.op.toList (S.T rn) (S.T zn)).wt,isVar S v:=uv.at
  refine⟨⟨by show S.D.length≤S'.D.length;rw[eD];exact Nat.le_refl _,_,hai,Or.inr (Or.inl ⟨hs,rfl,?_,?_,?_⟩)⟩,yT,fun x hx v hv=> ?_,fun v hv=>by rw[eD];exact h.vl v hv⟩
  ·show (Zc.fo g.op.toList (ct S.T g.r) (ct S.T g.z)).wt≠[]
   rw[ew];exact hw
  ·show V.map S'.T=V.map S.T
   rw[eT]
  ·show S'.G.map _=(S.G.map _).set i _
   rw[hG,List.map_set,eF,eT]
   congr 1
   unfold eU
   dsimp only
   have xQ:=(vp S.fr {g with wt:=true,no:=wo,nc:=wc,nd:=(Zc.fo g.op.toList (S.T rn) (S.T zn)).wt}).2 ⟨rfl,fun v hv=>(hwt v hv).2.1⟩
   rw[xQ,ew]
   congr 1
   funext v
   simp
  ·rw[eD]
   rw[hG]at hx
   rcases List.mem_or_eq_of_mem_set hx with q | q
   ·exact h.nd x q v hv
   ·rw[q]at hv
    exact(hwt v hv).2.2
 ·have hl:=hsm.len
  rw[List.length_append]at hl
  have hl2:S'.D.length=S.D.length+1:=hl
  obtain⟨ew,ev⟩:=C7 (T:=S.T) (op:=g.op.toList) hr (fun q=>(hz q).1)
  refine⟨⟨by show S.D.length≤S'.D.length;omega,_,hai,Or.inr (Or.inr (Or.inl ⟨hs,rfl,?_,x,σ,?_,?_,?_,?_⟩))⟩,yT,fun y hy v hv=> ?_,fun v hv=>by have:=h.vl v hv;omega⟩
  ·show (Zc.fo g.op.toList (ct S.T g.r) (ct S.T g.z)).wt=[]
   rw[ew];exact hw
  ·show fA g.op.toList (ct S.T g.r) (ct S.T g.z)=some x
   rw[ev];exact hv
  ·show Zc.fG (S.T g.l) (.n 3 [] x []) σ
   have:=pG.PJ
   rw[old2 g.l gw.ll,tn2]at this
   exact this
  ·show V.map S'.T=(V.map S.T).map _
   rw[List.map_map]
   refine List.map_congr_left fun v hv=> ?_
   rw[pG.is v,old2 v (h.vl v hv)]
   rfl
  ·show S'.G.map _=((S.G.map _).eraseIdx i).map _
   rw[hG,Zc.i7,List.map_map]
   exact List.map_congr_left fun y hy=>ER pG st2 old2 (h.wf.gw y (mem_erase hy)) fun v hv=>by
    rw[rk (h.wf.nl y (mem_erase hy) v hv)]
    exact h.nd y (mem_erase hy) v hv
  ·rw[hsm.g]
   rw[hG]at hy
   rw[rk (h.wf.nl y (mem_erase hy) v hv)]
   exact h.nd y (mem_erase hy) v hv
 ·refine⟨⟨by show S.D.length≤S'.D.length;rw[eD];exact Nat.le_refl _,_,hai,Or.inr (Or.inr (Or.inr (Or.inl ⟨hs,rfl,ht,?_,?_⟩)))⟩,yT,fun x hx v hv=> ?_,fun v hv=>by rw[eD];exact h.vl v hv⟩
  ·show V.map S'.T=V.map S.T
   rw[eT]
  ·show S'.G.map _=(S.G.map _).eraseIdx i
   rw[hG,Zc.i7,eF,eT]
  ·rw[eD]
   rw[hG]at hx
   exact h.nd x (mem_erase hx) v hv
 ·have hlen:S'.D.length=S.D.length+E.length:=by rw[eD,List.length_append]
  rw[bj]at r2 r4 mh
  have hcm:c∈cls:=List.mem_of_getElem? r3
  have Ey:=aF c hcm
  have hHV:Zc.uZ T2 (.n 1 tx 0 us) c VV:=by
   rcases r4 with⟨q1,q2,_⟩ | ⟨_,q,_⟩
   ·exact absurd q2.symm q1
   ·exact q
  have hHV':Zc.uZ S'.T (.n 1 tx 0 us) c VV:=DW hHV fun m hm=>r7 m (List.mem_append_left _ hm)
  have jI:VV.length=(Zc.NH c).length:=hHV.1
  have hlF:(F++F').length+(Zc.NH c).length=(Zc.NG c).length:=by
   rw[←r9,←jI]
   simp only[List.length_append]
   omega
  refine⟨⟨by show S.D.length≤S'.D.length;omega,_,hai,Or.inr (Or.inr (Or.inr (Or.inr (Or.inl ⟨_,_,⟨hs,tx,us,bj,ui,rfl,rfl⟩,rs.length,c,F++F',r1,fun t' c' nG hc'=> ?_,r3,?_,rfl,hlF,r11,fun f hf=>⟨(r10 f hf).1,r12 f ?_⟩,?_,?_⟩))))⟩,yT,fun x hx v hv=> ?_,fun v hv=>by have:=h.vl v hv;omega⟩
  ·show (Zc.bT S.D.length (S.T g.l) c').1≠1
   rw[bj]
   obtain⟨q1,q2,_⟩:=uy r2 mh aF nG hc'
   rw[q1];exact q2
  ·show (Zc.bT S.D.length (S.T g.l) c).1=1
   rw[bj]
   exact(C5 r4 mh Ey).1
  ·rw[List.append_assoc]
   exact List.mem_append_right _ hf
  ·show V.map S'.T=V.map S.T
   exact List.map_congr_left fun v hv=>r6 v (h.vl v hv)
  ·show S'.G.map _=(S.G.map _).eraseIdx i++_
   rw[hG,List.map_append,Zc.i7]
   congr 1
   ·rw[eF]
    exact List.map_congr_left fun x hx=>EP r6 (h.wf.gw x (mem_erase hx))
   ·refine wV r13 fun x hx y hy=> ?_
    rw[ET hy (Ey.gs x hx)]
    obtain⟨ns,hn⟩:=Zc.fz c.goals (Zc.NT c) x hx
    refine Mt (Ey.gs x hx) ns fun w hw=> ?_
    have Vh:w∈Zc.NG c:=hn w hw
    show cR S'.T (VV++F++F') (Zc.NG c) w=Zc.cT (S.T g.l) c _ w
    rw[bj,List.append_assoc]
    refine JS hHV' (fun f hf=>(r10 f hf).2) Vh ?_
    have:=List.idxOf_lt_length_of_mem Vh
    rw[←r9,List.append_assoc]at this
    exact this
  ·rw[hG]at hx
   rcases List.mem_append.1 hx with q | q
   ·rw[eD,rk (h.wf.nl x (mem_erase q) v hv)]
    exact h.nd x (mem_erase q) v hv
   ·rw[EU r13 x q]at hv
    cases hv
 ·have hlen:S'.D.length=S.D.length+E.length:=by rw[eD,List.length_append]
  have iY:Zc.bA (Zc.PQ (isVar S)) (S.T g.l):=h.wf.uw gw.ll
  rw[bj]at r2 mh iY
  have qK:∀{t:Nat} (ht:t<rs.length) {c:aJ},cls[iW (Zc.cr cls tx us.length cls.length) (dE p (Zc.cr cls tx us.length cls.length).length) t]?=some c→((Zc.bT S.D.length (.n 1 tx 0 us) c).1=rs[t].1∧rs[t].1≠1∧∀v,v∈rs[t].2↔v∈(Zc.bT S.D.length (.n 1 tx 0 us) c).2)∧∀v∈rs[t].2,isVar S v:=fun {t} ht {c} hc=>by
   have q:=uy r2 mh aF ht hc
   refine⟨q,fun v hv=> ?_⟩
   exact(Zc.C2 (r:=fun k=>k) (P:=isVar S) (l1:=S.D.length) (l2:=S.D.length) (fun i j _ _ e=>e) (fun k hk=>hk.1) (fun k hk=>hk.1) iY (aF c (List.mem_of_getElem? hc)).ts).2.2 v ((q.2.2 v).1 hv)
  have dC:∀v∈Zc.cE rs,isVar S v:=fun v hv=>by
   obtain⟨t,ht,_,h2⟩:=wW.1 hv
   obtain⟨c,hc⟩:=yS (cls:=cls) (tx:=tx) (m:=us.length) (bg:=dE p (Zc.cr cls tx us.length cls.length).length) (t:=t) (by omega)
   exact(qK ht hc).2 v h2
  refine⟨⟨by show S.D.length≤S'.D.length;omega,_,hai,Or.inr (Or.inr (Or.inr (Or.inr (Or.inr ⟨_,_,⟨hs,tx,us,bj,ui,rfl,rfl⟩,rfl,fun t c ht hc=> ?_,?_,?_,?_⟩))))⟩,yT,fun x hx v hv=> ?_,fun v hv=>by have:=h.vl v hv;omega⟩
  ·show (Zc.bT S.D.length (S.T g.l) c).1≠1
   rw[bj]
   obtain⟨⟨q1,q2,_⟩,_⟩:=qK (by omega) hc
   rw[q1];exact q2
  ·have r3':=r3
   unfold Zc.my at r3'
   rw[List.any_eq_true]at r3'
   obtain⟨r,q1,q2⟩:=r3'
   obtain⟨t,ht,rfl⟩:=List.getElem_of_mem q1
   obtain⟨c,hc⟩:=yS (cls:=cls) (tx:=tx) (m:=us.length) (bg:=dE p (Zc.cr cls tx us.length cls.length).length) (t:=t) (by omega)
   refine⟨t,c,by omega,hc,?_⟩
   show (Zc.bT S.D.length (S.T g.l) c).1=3
   rw[bj,(qK ht hc).1.1]
   simpa using q2
  ·show V.map S'.T=V.map S.T
   exact List.map_congr_left fun v hv=>r6 v (h.vl v hv)
  ·show S'.G.map _=(S.G.map _).set i _
   rw[hG,List.map_set,eF]
   have e1:S.G.map (eU S.fr S'.T)=S.G.map (eU S.fr S.T):=List.map_congr_left fun x hx=>EP r6 (h.wf.gw x hx)
   rw[e1]
   congr 1
   have xQ:=(vp S.fr {g with wt:=true,no:=oo,nc:=oc,nd:=Zc.cE rs}).2 ⟨rfl,fun v hv=>(dC v hv).2.1⟩
   unfold eU
   dsimp only
   rw[xQ,r6 g.l gw.ll,np (f:=id) rfl r6 gw.rc,np (f:=id) rfl r6 gw.zc]
   dsimp only[id]
   congr 1
   funext v
   apply propext
   constructor
   ·rintro⟨_,q⟩
    obtain⟨t,ht,q1,q2⟩:=wW.1 q
    obtain⟨c,hc⟩:=yS (cls:=cls) (tx:=tx) (m:=us.length) (bg:=dE p (Zc.cr cls tx us.length cls.length).length) (t:=t) (by omega)
    have k:=(qK ht hc).1
    refine⟨t,c,by omega,hc,?_,?_⟩
    ·show (Zc.bT S.D.length (S.T g.l) c).1=3
     rw[bj,k.1];exact q1
    ·show v∈(Zc.bT S.D.length (S.T g.l) c).2
     rw[bj];exact(k.2.2 v).1 q2
   ·rintro⟨t,c,ht,hc,q1,q2⟩
    have nG:t<rs.length:=by omega
    have k:=(qK nG hc).1
    have q1':(Zc.bT S.D.length (S.T g.l) c).1=3:=q1
    have q2':v∈(Zc.bT S.D.length (S.T g.l) c).2:=q2
    rw[bj]at q1' q2'
    rw[k.1]at q1'
    exact⟨rfl,wW.2 ⟨t,nG,q1',(k.2.2 v).2 q2'⟩⟩
  ·rw[hG]at hx
   rcases List.mem_or_eq_of_mem_set hx with q | q
   ·rw[eD,rk (h.wf.nl x q v hv)]
    exact h.nd x q v hv
   ·rw[q]at hv
    have:=dC v hv
    rw[eD,rk this.1]
    exact this.2.2
end Go.Proofs.YthfjnfcekeknlaaGreatDoor
namespace Go.Proofs.YthfjnfcekeknlaaGreatDoor
open Go.RowKit
structure Vi (w:World) (cls:List Zc.aJ) (clo:Option Addr) (items:List Zc.aH) (N:List (List UInt8)) (o:Option Addr) (n:Nat) (script:List (Int×Int)) (so:Option Addr):Prop where
 cl:df w clo cls.length cls
 ok:∀c∈cls,Zc.jN c∧∀x∈c.goals,Zc.jf x
 cc:cls.length≤12
 it:b6 N w o n items
 gl:∀x∈items,Zc.jf x
 il:items.length≤6
 nm:∃M,N=Zc.aC [] items++M
 nl:N.length≤100
 sz:∀x∈items,∀η:List UInt8→Zc.U,(∀y∈Zc.aC [] items,Zc.size (η y)=1)→Zc.size (Zc.bH η 8 x.left)≤300∧(∀r,x.right=some r→Zc.size (Zc.bH η 8 r)≤300)∧(∀z,x.last=some z→Zc.size (Zc.bH η 8 z)≤300)
 sc:qL w so script
 sl:script.length≤100
 sr:∀p∈script,(-9223372036854775808≤p.1∧p.1≤9223372036854775807)∧(-9223372036854775808≤p.2∧p.2≤9223372036854775807)
 pw:Pow w
theorem O2 (fr:Nat→Nat) (G:List Gl):gK fr G=1∨gK fr G=2∨gK fr G=3:=by
 unfold gK
 split
 ·exact Or.inl rfl
 ·split
  ·exact Or.inr (Or.inl rfl)
  ·exact Or.inr (Or.inr rfl)
theorem QS.res {w:World} {cls:List Zc.aJ} {clo:Option Addr} {clc:Nat} {F:List Nat} {vo:Option Addr} {vc:Nat} {script:List (Int×Int)} {S0:b8} {j:Nat} {S:b8} {L:List Int} {lo:Option Addr} {lc:Nat} {nO:Option Addr} {nC:Nat} {po:Option Addr} {pc:Nat} {wr:World} (h:QS w cls clo clc F vo vc script S0 j S L lo lc nO nC po pc wr) (CV:Pow w) (hF:F.length≤100) (hj:j=script.length∨cD S.fr S.G S.G.length=[]):
 Calls Tryz.prog 47 #[.pointer (some ⟨w.heap.size+1,0,none⟩)] (wr.setCell ⟨w.heap.size+1,5,none⟩ (.int .i64 (gK S.fr S.G))) fun e w'=>∃(xo:Option Addr) (xc:Nat) (go:Option Addr) (gc:Nat) (yo:Option Addr) (yc:Nat),e= .returned (.agg #[.int .i64 (gK S.fr S.G),.slice lo L.length lc,.slice xo F.length xc,.slice go S.G.length gc,.slice yo S.G.length yc])∧ur cls F script S0 w.heap.size e w'∧Below w.heap.size w w'∧w'.heap[w.heap.size]?=some (.cells #[.int .i64 0,.slice none 0 0,.slice none 0 0,.slice none 0 0,.slice none 0 0] 32 (0,0))∧∀vs:List Value,vs.length=5→ur cls F script S0 w.heap.size e (((((w'.setCell ⟨w.heap.size,0,none⟩ (vs[0]?.getD (.int .i64 0))).setCell ⟨w.heap.size,1,none⟩ (vs[1]?.getD (.int .i64 0))).setCell ⟨w.heap.size,2,none⟩ (vs[2]?.getD (.int .i64 0))).setCell ⟨w.heap.size,3,none⟩ (vs[3]?.getD (.int .i64 0))).setCell ⟨w.heap.size,4,none⟩ (vs[4]?.getD (.int .i64 0))):=by
 have hm:=h.ma
 have aY:=h.be.setCell (p:=⟨w.heap.size+1,5,none⟩) (Nat.le_succ _) (.int .i64 (gK S.fr S.G))
 have kT:∀{k:Nat} {ys:Array Value} {Y:TypeId},wr.heap[k]?=some (.cells ys Y (0,0))→Y≠91→(wr.setCell ⟨w.heap.size+1,5,none⟩ (.int .i64 (gK S.fr S.G))).heap[k]?=wr.heap[k]?:=fun {k ys Y} hk h1=>aL _ _ _ _ (fun e=>by
  rw[e,hm.mc.st.blk]at hk
  simp only[Option.some.injEq,Obj.cells.injEq]at hk
  exact h1 hk.2.1.symm)
 have kR:∀{b n cap sz:Nat} {Y:TypeId} {o:Option Addr} {zs:List Value},wr.ownsRow b Y sz (.slice o n cap) n zs→Y≠91→(wr.setCell ⟨w.heap.size+1,5,none⟩ (.int .i64 (gK S.fr S.G))).ownsRow b Y sz (.slice o n cap) n zs:=fun {b n cap sz Y o zs} ho h1=>ai ho fun k q=>by
  obtain⟨cur,hc⟩:=aM ho (aI q)
  exact kT hc h1
 have fF:cQ (wr.setCell ⟨w.heap.size+1,5,none⟩ (.int .i64 (gK S.fr S.G))) (w.heap.size+1) (qq clo cls.length clc nO S.D.length nC vo F.length vc po S.G.length pc lo L.length lc (gK S.fr S.G)) S.D nO nC S.fr S.G po pc:=⟨⟨aA hm.mc.st.blk 5 (.int .i64 (gK S.fr S.G)),rfl,kR hm.mc.st.own (by decide),hm.mc.st.ty⟩,hm.mc.ok,rfl,kR hm.mc.pool (by decide),fun g hg=>kR (hm.mc.nds g hg) (by decide),hm.mc.nlt,hm.mc.nl⟩
 have jo:=kR hm.lg (by decide)
 have hzb:=(kT h.zb (by decide)).trans h.zb
 refine(JK _ _ cls clo clc F vo vc L lo lc S nO nC po pc (gK S.fr S.G) fF hm.to (fun _=>True) (hm.ar.keep fun g _ _ hg=>⟨(kT hg (by decide)).trans hg,trivial⟩) (kR hm.vr (by decide)) hm.vl hm.vb hm.tb hm.gw (CV.below aY) (O2 _ _) hF h.gl (fun v hv=>by have:=h.sm.1 v hv;omega) (fun g hg x hx hne=>by have:=h.sm.2 g hg x hx hne;omega)).mono ?_
 rintro e w' ⟨xo,xc,go,gc,yo,yc,rfl,h1,h2,h3,h4,h5⟩
 have hsz:w.heap.size≤(wr.setCell ⟨w.heap.size+1,5,none⟩ (.int .i64 (gK S.fr S.G))).heap.size:=aY.size
 have WN:w.heap.size<(wr.setCell ⟨w.heap.size+1,5,none⟩ (.int .i64 (gK S.fr S.G))).heap.size:=ag hzb
 have GL:∀k,rowOf lo k→w.heap.size<k:=fun k q=>by
  have q1:=h.rw_ k (Or.inr (Or.inr q))
  have q2:k≠w.heap.size:=fun e=>aQ hm.lg h.zb (by decide) (e ▸ q)
  omega
 have GM:w'.ownsRow w.heap.size 3 1 (.slice lo L.length lc) L.length (L.map fX):=by
  have q:=ai jo fun k q=>h5.block k (jo.lt k q).2
  refine⟨q.1,?_⟩
  rcases q.2 with r | ⟨g,cap,cur,r1,r2,r3⟩
  ·exact Or.inl r
  ·refine Or.inr ⟨g,cap,cur,r1,?_,r3⟩
   simp only[Value.slice.injEq]at r1
   exact Nat.le_of_lt (GL g ⟨_,r1.1,rfl⟩)
 refine⟨xo,xc,go,gc,yo,yc,rfl,?_,aY.trans (h5.mono hsz),(h5.block _ WN).trans hzb,fun vs _=> ?_⟩
 ·exact⟨j,S,L,lo,lc,h.ru,Or.inl ⟨hj,xo,xc,go,gc,yo,yc,rfl,GM,cf h1 hsz,cf h2 hsz,cf h3 hsz,h4⟩⟩
 ·have kk:∀k,k≠w.heap.size→(((((w'.setCell ⟨w.heap.size,0,none⟩ (vs[0]?.getD (.int .i64 0))).setCell ⟨w.heap.size,1,none⟩ (vs[1]?.getD (.int .i64 0))).setCell ⟨w.heap.size,2,none⟩ (vs[2]?.getD (.int .i64 0))).setCell ⟨w.heap.size,3,none⟩ (vs[3]?.getD (.int .i64 0))).setCell ⟨w.heap.size,4,none⟩ (vs[4]?.getD (.int .i64 0))).heap[k]?=w'.heap[k]?:=fun k q=>by
   rw[aL _ _ _ _ q,aL _ _ _ _ q,aL _ _ _ _ q,aL _ _ _ _ q,aL _ _ _ _ q]
  exact⟨j,S,L,lo,lc,h.ru,Or.inl ⟨hj,xo,xc,go,gc,yo,yc,rfl,ai GM fun k q=>kk k (by have:=GL k (aI q);omega),ai (cf h1 hsz) fun k q=>kk k (by have:=(h1.lt k q).1;omega),ai (cf h2 hsz) fun k q=>kk k (by have:=(h2.lt k q).1;omega),ai (cf h3 hsz) fun k q=>kk k (by have:=(h3.lt k q).1;omega),h4⟩⟩
theorem kY.res {w:World} {LL:List Int} {lo:Option Addr} {lc:Nat} {en:Int} {wr:World} (h:kY wr (w.heap.size+1) LL lo lc en) (hen:en=4∨en=5∨en=6) (aY:Below w.heap.size w wr) (hzb:wr.heap[w.heap.size]?=some (.cells #[.int .i64 0,.slice none 0 0,.slice none 0 0,.slice none 0 0,.slice none 0 0] 32 (0,0))) (fS:∀k,rowOf lo k→w.heap.size≤k):
 Calls Tryz.prog 47 #[.pointer (some ⟨w.heap.size+1,0,none⟩)] wr fun e w'=>e= .returned (.agg #[.int .i64 en,.slice lo LL.length lc,.slice none 0 0,.slice none 0 0,.slice none 0 0])∧Below w.heap.size w w'∧w'.heap[w.heap.size]?=some (.cells #[.int .i64 0,.slice none 0 0,.slice none 0 0,.slice none 0 0,.slice none 0 0] 32 (0,0))∧w'.ownsRow (w.heap.size+1) 3 1 (.slice lo LL.length lc) LL.length (LL.map fX):=by
 refine(GA wr _ LL lo lc en h hen).mono ?_
 rintro e w' ⟨rfl,hb⟩
 obtain⟨cs,_,_,_,_,ho⟩:=h
 refine⟨rfl,aY.trans (hb.mono aY.size),(hb.block _ (ag hzb)).trans hzb,?_⟩
 have q:=ai ho fun k q=>hb.block k (ho.lt k q).2
 refine⟨q.1,?_⟩
 rcases q.2 with r | ⟨g,cap,cur,r1,r2,r3⟩
 ·exact Or.inl r
 ·refine Or.inr ⟨g,cap,cur,r1,?_,r3⟩
  simp only[Value.slice.injEq]at r1
  have h1:=fS g ⟨_,r1.1,rfl⟩
  have h2:g≠w.heap.size:=fun e=>aQ ho hzb (by decide) ⟨_,r1.1,e.symm⟩
  omega
theorem Gx.from {mb:Nat} {cls:List Zc.aJ} {clo:Option Addr} {clc:Nat} {V:List Nat} {vo:Option Addr} {vc:Nat} {L:List Int} {lo:Option Addr} {S:b8} {nO po:Option Addr} {i:Nat} {p:Int} {w w1 w':World} (hb:Below w.heap.size w w1) (h:Gx mb cls clo clc V vo vc L lo S nO po i p w1 w'):Gx mb cls clo clc V vo vc L lo S nO po i p w w':=by
 obtain⟨lo',lc',⟨z,S',nO',nC',po',pc',h1,h2,h3,h4,h5⟩ | ⟨z,S',h1,h2,h3,h4⟩ | ⟨en,h1,h2,h3,h4⟩⟩:=h
 ·exact⟨lo',lc',Or.inl ⟨z,S',nO',nC',po',pc',h1,h2,h3,h4,(au.aw hb).trans h5⟩⟩
 ·exact⟨lo',lc',Or.inr (Or.inl ⟨z,S',h1,h2,h3,(au.aw hb).trans h4⟩)⟩
 ·exact⟨lo',lc',Or.inr (Or.inr ⟨en,h1,h2,h3,(au.aw hb).trans h4⟩)⟩
theorem O3 (fr:Nat→Nat) (G:List Gl) (j:Nat):∀i∈cD fr G j,i<G.length:=fun i hi=>by
 have:=(List.mem_filter.1 hi).2
 cases q:G[i]? with
 | none=>rw[q]at this;cases this
 | some g=>exact(List.getElem?_eq_some_iff.1 q).1
section
variable {w:World} {cls:List Zc.aJ} {clo:Option Addr} {clc:Nat} {F:List Nat} {vo:Option Addr} {vc:Nat} {script:List (Int×Int)} {S0:b8} {j:Nat} {S:b8} {L:List Int} {lo:Option Addr} {lc:Nat} {nO:Option Addr} {nC:Nat} {po:Option Addr} {pc:Nat} {wr:World}
theorem QS.frame (h:QS w cls clo clc F vo vc script S0 j S L lo lc nO nC po pc wr) {w':World} {R':Nat→Prop} (hf:au (fun k=>k=w.heap.size+1∨rowOf nO k∨rowOf po k∨rowOf lo k) R' wr w'):Below w.heap.size w w'∧(∀k,R' k→w.heap.size≤k)∧w'.heap[w.heap.size]?=some (.cells #[.int .i64 0,.slice none 0 0,.slice none 0 0,.slice none 0 0,.slice none 0 0] 32 (0,0)):=by
 have hr:∀k,(k=w.heap.size+1∨rowOf nO k∨rowOf po k∨rowOf lo k)→w.heap.size≤k:=fun k q=>by
  rcases q with e | e
  ·omega
  ·exact h.rw_ k e
 refine⟨h.be.trans (hf.down h.be.size hr),fun k q=> ?_,?_⟩
 ·rcases hf.row k q with e | e
  ·exact hr k e
  ·exact Nat.le_trans h.be.size e
 ·refine(hf.block _ (ag h.zb) ?_).trans h.zb
  rintro(e | e | e | e)
  ·omega
  ·exact aQ h.ma.mc.st.own h.zb (by decide) e
  ·exact aQ h.ma.mc.pool h.zb (by decide) e
  ·exact aQ h.ma.lg h.zb (by decide) e
theorem QS.next (h:QS w cls clo clc F vo vc script S0 j S L lo lc nO nC po pc wr) {pg pk z:Int} {i:Nat} (hs:script[j]?=some (pg,pk)) (hi:(cD S.fr S.G S.G.length)[dE pg (cD S.fr S.G S.G.length).length]?=some i) {S':b8} (hg:CI cls S S' i pk z) (hl:ng F S'=false) {w':World} {lo':Option Addr} {lc':Nat} {nO':Option Addr} {nC':Nat} {po':Option Addr} {pc':Nat} (hm:dW w' (w.heap.size+1) cls clo clc F vo vc (L++[z]) lo' lc' S' nO' nC' po' pc') (hd:S'.D.length≤S.D.length+1100000) (hf:au (fun k=>k=w.heap.size+1∨rowOf nO k∨rowOf po k∨rowOf lo k) (fun k=>k=w.heap.size+1∨rowOf nO' k∨rowOf po' k∨rowOf lo' k) wr w'):QS w cls clo clc F vo vc script S0 (j+1) S' (L++[z]) lo' lc' nO' nC' po' pc' w':=by
 obtain⟨hb,hr,hz⟩:=h.frame hf
 obtain⟨hsm,dM⟩:=GF hm hl
 exact⟨.step h.ru hs hi hg hl,hm,hsm,by omega,by rw[List.length_append,h.ll];rfl,by have:=h.dl;omega,hb,fun k q=>hr k (Or.inr q),hz⟩
end
theorem JT (w:World) (cls:List Zc.aJ) (clo:Option Addr) (clc:Nat) (items:List Zc.aH) (N:List (List UInt8)) (o:Option Addr) (n c:Nat) (script:List (Int×Int)) (so:Option Addr) (sc:Nat) (h:Vi w cls clo items N o n script so):
 Calls Tryz.prog 28 #[.slice clo cls.length clc,.slice o n c,.slice so script.length sc] w fun e w'=>∃(F:List Nat) (S0:b8),C0 N items F S0∧ur cls F script S0 w.heap.size e w'∧Below w.heap.size w w':=by
 have hb1:=((Below.refl w.heap.size w).alloc (Nat.le_refl _) (.cells #[.int .i64 0,.slice none 0 0,.slice none 0 0,.slice none 0 0,.slice none 0 0] 32)).alloc (by simp) (.cells #[.slice clo cls.length clc,.slice none 0 0,.slice none 0 0,.slice none 0 0,.slice none 0 0,.int .i64 0] 91)
 have hb2:=hb1.alloc hb1.size (.cells #[.slice none 0 0] 93)
 have SG:=aB (heap_alloc_new (w.alloc (.cells #[.int .i64 0,.slice none 0 0,.slice none 0 0,.slice none 0 0,.slice none 0 0] 32)) (.cells #[.slice clo cls.length clc,.slice none 0 0,.slice none 0 0,.slice none 0 0,.slice none 0 0,.int .i64 0] 91)) (.cells #[.slice none 0 0] 93)
 rw[World.size_alloc]at SG
 have hzb:=aB (aB (heap_alloc_new w (.cells #[.int .i64 0,.slice none 0 0,.slice none 0 0,.slice none 0 0,.slice none 0 0] 32)) (.cells #[.slice clo cls.length clc,.slice none 0 0,.slice none 0 0,.slice none 0 0,.slice none 0 0,.int .i64 0] 91)) (.cells #[.slice none 0 0] 93)
 have hcb:=heap_alloc_new ((w.alloc (.cells #[.int .i64 0,.slice none 0 0,.slice none 0 0,.slice none 0 0,.slice none 0 0] 32)).alloc (.cells #[.slice clo cls.length clc,.slice none 0 0,.slice none 0 0,.slice none 0 0,.slice none 0 0,.int .i64 0] 91)) (.cells #[.slice none 0 0] 93)
 simp only[World.size_alloc]at hcb
 have YR:(((w.alloc (.cells #[.int .i64 0,.slice none 0 0,.slice none 0 0,.slice none 0 0,.slice none 0 0] 32)).alloc (.cells #[.slice clo cls.length clc,.slice none 0 0,.slice none 0 0,.slice none 0 0,.slice none 0 0,.int .i64 0] 91)).alloc (.cells #[.slice none 0 0] 93)).heap.size=w.heap.size+3:=by simp
 generalize hW:(((w.alloc (.cells #[.int .i64 0,.slice none 0 0,.slice none 0 0,.slice none 0 0,.slice none 0 0] 32)).alloc (.cells #[.slice clo cls.length clc,.slice none 0 0,.slice none 0 0,.slice none 0 0,.slice none 0 0,.int .i64 0] 91)).alloc (.cells #[.slice none 0 0] 93))=W2 at*
 have hst:bG W2 (w.heap.size+1) 1 (qq clo cls.length clc none 0 0 none 0 0 none 0 0 none 0 0 0) 91 [] none 0:=⟨SG,rfl,World.ownsRow_nil _ _ _ _,by decide⟩
 have xW:gO (fun _=>True) W2 (w.heap.size+1) 1 (qq clo cls.length clc none 0 0 none 0 0 none 0 0 none 0 0 0) 91 (w.heap.size+1+1) [] [] none 0 none 0 id (fun n=> .v ([],n)):=⟨⟨hst,⟨hcb,World.ownsRow_nil _ _ _ _⟩,by decide,by decide,(fun d hd=>by cases hd)⟩,okD_empty,sto_empty,(fun v hv=>by cases hv)⟩
 have fF:cQ W2 (w.heap.size+1) (qq clo cls.length clc none 0 0 none 0 0 none 0 0 none 0 0 0) [] none 0 id [] none 0:=⟨hst,okD_empty,rfl,World.ownsRow_nil _ _ _ _,(fun g hg=>by cases hg),(fun g hg=>by cases hg),(fun g hg=>by cases hg)⟩
 have IJ:=af (Cx W2 (w.heap.size+1) _ (w.heap.size+1+1) [] [] none 0 none 0 id _ (fun _=>True) [] none 0 N [] items o n c xW fF (fun g hg=>by cases hg) (fun _ _=>trivial) (h.it.keep (aS.below hb2)) (fun x hx=>(h.gl x hx).ok) rfl h.nm (by have:=h.nl;omega) (by have:=h.il;omega) (by simp) (by simp))
 have HQ:=af h
 have aX:=af hb2
 have NR:=af hzb
 have Y8:=af xW
 have Y9:=af fF
 have kN:=h.sl
 clear h hb1 hb2 SG hzb hcb hst xW fF
 go_enter Tryz.func28,Tryz.ntmps28
 go_wp2_with fail
 refine(ae IJ).mono ?_
 rintro e w3 ⟨rfl,E,F,no',nc',vo',vc',T',Gn,po',pc',dZ⟩
 have uS:∀k,uY (w.heap.size+1) no' (w.heap.size+1+1) vo' po' k→w.heap.size≤k:=fun k q=>by
  rcases dZ.fg.row k q with((e | ⟨_,e,_⟩ | e | ⟨_,e,_⟩) | ⟨_,e,_⟩) | e
  ·omega
  ·cases e
  ·omega
  ·cases e
  ·cases e
  ·omega
 have GN:Below w.heap.size w w3:=(ae aX).trans (dZ.fg.down (by omega) fun k q=>by
  rcases q with(e | ⟨_,e,_⟩ | e | ⟨_,e,_⟩) | ⟨_,e,_⟩
  ·omega
  ·cases e
  ·omega
  ·cases e
  ·cases e)
 have hz3:w3.heap[w.heap.size]?=some (.cells #[.int .i64 0,.slice none 0 0,.slice none 0 0,.slice none 0 0,.slice none 0 0] 32 (0,0)):=(dZ.fg.block _ (ag (ae NR)) (fun q=>by
  rcases q with(e | ⟨_,e,_⟩ | e | ⟨_,e,_⟩) | ⟨_,e,_⟩
  ·omega
  ·cases e
  ·omega
  ·cases e
  ·cases e)).trans (ae NR)
 have SH:df w3 clo cls.length cls:=(eG.below GN).cls (ae HQ).cl
 have Vj:=dW.start dZ SH (ae HQ).gl
 have wX:=dZ.ms
 have wY:=dZ.mc
 have dC:=dZ.nd
 have gR:=dZ.nv
 have lO:=dZ.ln
 have dM:=dZ.gl
 have fD:=dZ.el
 simp only[List.nil_append,List.length_nil]at wX wY dC gR lO dM
 have s0:=ah wX.ad.sc.blk 0
 have sz0:=ag wX.ad.sc.blk
 have m2:w3.cell? ⟨w.heap.size+1,2,none⟩=some (.slice none 0 0):=ah wY.st.blk 2
 have mx2:=ay wY.st.blk 2
 have mz3:=ag wY.st.blk
 simp only[List.getElem?_toArray,List.getElem?_cons_zero]at s0
 have rB:∀f∈F,T' f= .v ([],f):=fun f hf=>by
  have:=pF (D:=[]) (E:=E) (F:=F) (fr:=id) (T':=T') (by simpa using wY.ok) (by simpa using wX.to) (by simpa using dC) (by simpa using gR) f hf
  exact this.2.2
 have hPS:C0 N items F ⟨E,id,T',Gn⟩:=⟨rfl,dC,gR,lO,wX.lt,wX.to,wY.ok,dM⟩
 have hsm:Sy F ⟨E,id,T',Gn⟩:=by
  refine⟨fun v hv=> ?_,fun g hg x hx hne=> ?_⟩
  ·show Zc.size (T' v)≤300
   rw[rB v hv]
   simp[Zc.size]
  ·change g∈Gn at hg
   show Zc.size (T' x.toNat)≤300
   obtain⟨j,hj,rfl⟩:=List.getElem_of_mem hg
   have Qc:j<items.length:=by have:=dM.length;omega
   have hg1:=dM.at j Qc hj
   have Ew:items[j]∈items:=List.getElem_mem Qc
   obtain⟨M,hM⟩:=(ae HQ).nm
   have hs:=(ae HQ).sz _ Ew (cR T' F N) (fun y hy=>by
    obtain⟨m,hm,he⟩:=Jc (T:=T') hy hM lO
    rw[he,rB m hm]
    simp[Zc.size])
   have hgo:=(ae HQ).gl _ Ew
   rcases hx with rfl | rfl | rfl
   ·have e0:((Gn[j].l:Int)).toNat=Gn[j].l:=by simp
    rw[e0,hg1.tl]
    exact hs.1
   ·by_cases q:items[j].sign=[]
    ·exact absurd (hg1.r0 q) hne
    ·obtain⟨r,hr,_⟩:=hgo.ok.r1 q
     obtain⟨m,k1,k2,k3⟩:=hg1.r1 r hr
     rw[k1]
     have e0:((m:Int)).toNat=m:=by simp
     rw[e0,k3]
     exact hs.2.1 r hr
   ·by_cases q:items[j].op=[]
    ·exact absurd (hg1.z0 q) hne
    ·obtain⟨r,hr,_⟩:=hgo.ok.z1 q
     obtain⟨m,k1,k2,k3⟩:=hg1.z1 r hr
     rw[k1]
     have e0:((m:Int)).toNat=m:=by simp
     rw[e0,k3]
     exact hs.2.2 r hr
 have ue:Gn.length≤6:=by have:=dM.length;have:=(ae HQ).il;omega
 have hFl:F.length≤100:=by
  obtain⟨M,hM⟩:=(ae HQ).nm
  have h1:=(ae HQ).nl
  rw[hM,List.length_append]at h1
  omega
 have HST:=af (show Vf w cls clo clc F vo' vc' script ⟨E,id,T',Gn⟩ script.length (.int .i64 0) (w3.setCell ⟨w.heap.size+1,2,none⟩ (.slice vo' F.length vc'))from by
  refine⟨0,⟨E,id,T',Gn⟩,[],none,0,no',nc',po',pc',by omega,rfl,⟨.start,Vj,hsm,by show Gn.length≤100;omega,rfl,?_,GN.setCell (Nat.le_succ _) _,fun k q=> ?_,(aL _ _ _ _ (by simp)).trans hz3⟩⟩
  ·show E.length≤_
   have:=(ae HQ).il
   have:items.length*19683≤6*19683:=Nat.mul_le_mul_right _ this
   omega
  ·rcases q with q | q | ⟨_,q,_⟩
   ·exact uS k (Or.inl (Or.inr (Or.inl q)))
   ·exact uS k (Or.inr q)
   ·cases q)
 have zJ:=af hPS
 clear dZ uS GN hz3 SH Vj wX wY dC gR lO dM fD rB hPS hsm ue IJ
 generalize (⟨E,id,T',Gn⟩:b8)=S0 at*
 go_wp2_with fail
 go_loopg [22] script.length (fun k iv wr=>Vf w cls clo clc F vo' vc' script S0 k iv wr)
 case atStart=>exact ae HST
 case round=>
  clear HST s0 sz0 m2 mx2 mz3
  obtain⟨j,S,L,lo,lc,nO,nC,po,pc,hkj,rfl,uz⟩:=hrel
  by_cases hlt:j<script.length
  ·obtain⟨g,off,sF,gz0,hcell⟩:=(ae HQ).sc (fun q=>by rw[q]at hlt;simp at hlt)
   subst sF
   obtain⟨c0,c1⟩:=hcell j hlt
   have d0:=(uz.be.cell (p:=⟨g,off+j*2,none⟩) gz0).trans c0
   have d1:=(uz.be.cell (p:=⟨g,off+j*2+1,none⟩) gz0).trans c1
   have kX:=(ae HQ).sr _ (List.getElem_mem hlt)
   have hsj:script[j]?=some (script[j].1,script[j].2):=by rw[List.getElem?_eq_getElem hlt]
   have gz:g<wr.heap.size:=Nat.lt_of_lt_of_le gz0 uz.be.size
   have i0:(0:Int)≤(j:Int):=by omega
   have i1:(j:Int)<(script.length:Int):=by omega
   generalize script[j].1=pg at*
   generalize script[j].2=pk at*
   have JN:=(Below.refl wr.heap.size wr).alloc (Nat.le_refl _) (.cells #[.int .i64 pg,.int .i64 pk] 62)
   have SI:=uz.below JN
   have Vk:=heap_alloc_new wr (.cells #[.int .i64 pg,.int .i64 pk] 62)
   have eO:=Co S.fr S.G S.G.length
   have dM:=uz.gl
   have IR:=af (zY _ _ _ S.D nO nC S.fr S.G po pc SI.ma.mc (by omega))
   have Yv:=af SI
   have Vl:=af Vk
   have aW:=af hkj
   have bh:=af hlt
   have SJ:=af hsj
   have zQ:=af kX
   have EB:j≤100:=by omega
   clear uz hkj hlt hsj kX hcell c0 c1 JN SI Vk
   go_wp2_with fail
   refine(ae IR).mono ?_
   rintro e w5 ⟨oo,oc,rfl,how,bB⟩
   have nV:=(ae Yv).below bB
   have C9:=(bB.block _ (ag (ae Vl))).trans (ae Vl)
   have k0:=ah C9 0
   have k1:=ah C9 1
   have kz:=ag C9
   simp only[List.getElem?_toArray,List.getElem?_cons_zero,List.getElem?_cons_succ]at k0 k1
   by_cases qf:cD S.fr S.G S.G.length=[]
   ·have t0:(((cD S.fr S.G S.G.length).length:Int) == 0)=true:=by rw[qf];rfl
    have t1:((cD S.fr S.G S.G.length).length == 0)=true:=by rw[qf];rfl
    have IFN:=af (Ab w5 _ _ S.D nO nC S.fr S.G po pc nV.ma.mc (by omega) rfl)
    have Da:=af nV
    have kq:=af qf
    clear nV C9 how bB IR qf
    go_wp2_with fail
    refine(ae IFN).mono ?_
    rintro e w6 ⟨rfl,W,hbW,rfl⟩
    have IRS:=af (((ae Da).below hbW).res (ae HQ).pw hFl (Or.inr (ae kq)))
    clear hbW IFN
    go_wp2_with fail
    refine(ae IRS).mono ?_
    rintro e w7 ⟨xo,xc,go,gc,yo,yc,rfl,Db,lA,ig,JU⟩
    have z0:=ah ig
    have zx:=ay ig
    have zz:=ag ig
    have SK:=af (JU [.int .i64 (gK S.fr S.G),.slice lo L.length lc,.slice xo F.length xc,.slice go S.G.length gc,.slice yo S.G.length yc] rfl)
    have wZ:=af lA
    clear Db lA ig JU IRS
    go_wp2_with fail
    refine bodyPost_ret (v:= .agg #[.int .i64 (gK S.fr S.G),.slice lo L.length lc,.slice xo F.length xc,.slice go S.G.length gc,.slice yo S.G.length yc]) (by simp[results,Tryz.results28,go_sem,z0]) rfl ?_
    exact⟨F,S0,ae zJ,ae SK,(((((ae wZ).setCell (Nat.le_refl _) _).setCell (Nat.le_refl _) _).setCell (Nat.le_refl _) _).setCell (Nat.le_refl _) _).setCell (Nat.le_refl _) _⟩
   ·have cm:0<(cD S.fr S.G S.G.length).length:=List.length_pos_iff.2 qf
    have hbg:=uh pg (cD S.fr S.G S.G.length).length cm
    obtain⟨rg,hrg⟩:∃rg,oo=some ⟨rg,0,none⟩:=by
     rcases how.2 with⟨q,q2⟩ | ⟨g,cp,cur,q,_⟩
     ·omega
     ·simp only[Value.slice.injEq]at q
      exact⟨g,q.1⟩
    subst hrg
    have rz:=(how.lt rg rfl).2
    have Y':w5.cell? ⟨rg,dE pg (cD S.fr S.G S.G.length).length,none⟩=some (.int .i64 ((cD S.fr S.G S.G.length)[dE pg (cD S.fr S.G S.G.length).length]:Int)):=by
     rw[how.cellAt _ (by omega),List.getElem?_map,List.getElem?_eq_getElem hbg]
     rfl
    have Vm:(cD S.fr S.G S.G.length)[dE pg (cD S.fr S.G S.G.length).length]?=some (cD S.fr S.G S.G.length)[dE pg (cD S.fr S.G S.G.length).length]:=List.getElem?_eq_getElem hbg
    have sI:=O3 S.fr S.G S.G.length _ (List.getElem_mem hbg)
    have kX:=ae zQ
    have IC:=af (fun W=>Ag W pg (cD S.fr S.G S.G.length).length (by omega) kX.1.1 kX.1.2)
    generalize (cD S.fr S.G S.G.length)[dE pg (cD S.fr S.G S.G.length).length]=ii at*
    have SL:=af Vm
    generalize Vn:dE pg (cD S.fr S.G S.G.length).length=bq at*
    have EW:=af Vn
    clear Vn
    have t0:(((cD S.fr S.G S.G.length).length:Int) == 0)=false:=by simp;omega
    have t1:((cD S.fr S.G S.G.length).length == 0)=false:=by simp;omega
    have j0:(0:Int)≤(bq:Int):=by omega
    have j1:(bq:Int)<((cD S.fr S.G S.G.length).length:Int):=by omega
    have IST:=af (fun W (hu:Below w5.heap.size w5 W)=>(L5 W (w.heap.size+1) cls clo clc F vo' vc' L lo lc S nO nC po pc ii pk (nV.ma.below hu) (ae HQ).ok (ae HQ).cc sI (fun g hg=>by
     have:=nV.sm.2 g hg (g.l:Int) (Or.inl rfl) (by omega)
     simpa using this) kX.2.1 kX.2.2 (by have:=nV.dl;omega) (by omega) (by have:=nV.ll;omega) (by omega)).mono (fun e w' q=>And.intro q.1 (q.2.from hu)))
    have Da:=af nV
    clear nV C9 how bB IR qf Vm kX sI hbg cm
    generalize zX:(cD S.fr S.G S.G.length).length=rn at*
    have Ai:=af zX
    clear zX
    go_wp2_with fail
    refine(ae IC _).mono ?_
    rintro e w5 ⟨rfl,rfl⟩
    go_wp2_with fail
    go_region_with (go_at_call 45;refine(ae IST _ (by first | exact Below.refl _ _ | exact(Below.refl _ _).drew | exact(Below.refl _ _).drew.drew | exact(Below.refl _ _).drew.drew.drew)).mono ?_;rintro y w6 ⟨rfl,hst⟩)
    all_goals
     obtain⟨lo',lc',hst⟩:=hst
     rcases hst with⟨z,S',nO',nC',po9,pc9,hgo,jo,hm,zO,hf⟩ | ⟨z,S',hgo,jo,hm,hf⟩ | ⟨en,hgo,hen,hm,hf⟩
     ·have Jz:=(ae Da).next (ae SJ) (by rw[ae Ai,ae EW];exact ae SL) hgo jo hm zO hf
      have f5:w6.cell? ⟨w.heap.size+1,5,none⟩=some (.int .i64 0):=ah hm.mc.st.blk 5
      have mz6:=ag hm.mc.st.blk
      have kx:=af Jz
      clear Jz hm hgo jo zO hf
      go_wp2_with fail
      go_roundg (gk - 1)
      case measure=>have:=ae aW;have:=ae bh;omega
      case rel=>exact⟨j+1,S',L++[z],lo',lc',nO',nC',po9,pc9,by have:=ae aW;have:=ae bh;omega,by go_num,ae kx⟩
     ·have nV:=ae Da
      obtain⟨Dc,xO,zu⟩:=nV.frame hf
      have Dd:∀k,rowOf lo' k→w.heap.size≤k:=fun k q=>xO k (Or.inr q)
      clear xO
      have zH:=hm
      obtain⟨cs6,eR,h66,h46,h56,SM⟩:=hm
      have f5:=(ah eR 5).trans h56
      have mz6:=ag eR
      have t5:(6 == 0)=false:=rfl
      have IFE:=af (xV w6 _ cs6 _ 6 eR h56 (by decide))
      have IRE:=af (zH.res (Or.inr (Or.inr rfl)) Dc zu Dd)
      have SN:=af nV.ru
      clear nV Dc zu Dd zH eR h66 h46 h56 SM hf
      have Al:=af hgo
      have EE:=af jo
      clear hgo jo
      go_wp2_with fail
      refine(ae IFE).mono ?_
      rintro e w6 ⟨rfl,rfl⟩
      go_wp2_with fail
      refine(ae IRE).mono ?_
      rintro e w7 ⟨rfl,lA,ig,ye⟩
      have z0:=ah ig
      have zx:=ay ig
      have zz:=ag ig
      have wZ:=af lA
      have lq:=af ye
      clear lA ig ye IRE IFE
      go_wp2_with fail
      refine bodyPost_ret (v:= .agg #[.int .i64 6,.slice lo' (L++[z]).length lc',.slice none 0 0,.slice none 0 0,.slice none 0 0]) (by simp[results,Tryz.results28,go_sem,z0]) rfl ?_
      refine⟨F,S0,ae zJ,⟨j,S,L,lo',lc',ae SN,Or.inr ⟨pg,pk,ii,6,z,ae SJ,by rw[ae Ai,ae EW];exact ae SL,Or.inr ⟨rfl,S',ae Al,ae EE⟩,rfl,?_⟩⟩,(((((ae wZ).setCell (Nat.le_refl _) _).setCell (Nat.le_refl _) _).setCell (Nat.le_refl _) _).setCell (Nat.le_refl _) _).setCell (Nat.le_refl _) _⟩
      refine cf (ai (ae lq) fun k q=> ?_) (Nat.le_succ _)
      have hne:k≠w.heap.size:=by have:=((ae lq).lt k q).1;omega
      rw[aL _ _ _ _ hne,aL _ _ _ _ hne,aL _ _ _ _ hne,aL _ _ _ _ hne,aL _ _ _ _ hne]
     ·have nV:=ae Da
      obtain⟨Dc,xO,zu⟩:=nV.frame hf
      have Dd:∀k,rowOf lo' k→w.heap.size≤k:=fun k q=>xO k (Or.inr q)
      clear xO
      have zH:=hm
      obtain⟨cs6,eR,h66,h46,h56,SM⟩:=hm
      have f5:=(ah eR 5).trans h56
      have mz6:=ag eR
      have t5:(en == 0)=false:=by rcases hen with q | q<;>(rw[q];rfl)
      have IFE:=af (xV w6 _ cs6 _ en eR h56 (by rcases hen with q | q<;>(rw[q];decide)))
      have IRE:=af (zH.res (by rcases hen with q | q;exact Or.inl q;exact Or.inr (Or.inl q)) Dc zu Dd)
      have SN:=af nV.ru
      clear nV Dc zu Dd zH eR h66 h46 h56 SM hf
      have Al:=af hgo
      have RR:=af hen
      clear hgo hen
      go_wp2_with fail
      refine(ae IFE).mono ?_
      rintro e w6 ⟨rfl,rfl⟩
      go_wp2_with fail
      refine(ae IRE).mono ?_
      rintro e w7 ⟨rfl,lA,ig,ye⟩
      have z0:=ah ig
      have zx:=ay ig
      have zz:=ag ig
      have wZ:=af lA
      have lq:=af ye
      clear lA ig ye IRE IFE
      go_wp2_with fail
      refine bodyPost_ret (v:= .agg #[.int .i64 en,.slice lo' (L++[(-2)]).length lc',.slice none 0 0,.slice none 0 0,.slice none 0 0]) (by simp[results,Tryz.results28,go_sem,z0]) rfl ?_
      refine⟨F,S0,ae zJ,⟨j,S,L,lo',lc',ae SN,Or.inr ⟨pg,pk,ii,en,(-2),ae SJ,by rw[ae Ai,ae EW];exact ae SL,Or.inl ⟨ae Al,ae RR,rfl⟩,rfl,?_⟩⟩,(((((ae wZ).setCell (Nat.le_refl _) _).setCell (Nat.le_refl _) _).setCell (Nat.le_refl _) _).setCell (Nat.le_refl _) _).setCell (Nat.le_refl _) _⟩
      refine cf (ai (ae lq) fun k q=> ?_) (Nat.le_succ _)
      have hne:k≠w.heap.size:=by have:=((ae lq).lt k q).1;omega
      rw[aL _ _ _ _ hne,aL _ _ _ _ hne,aL _ _ _ _ hne,aL _ _ _ _ hne,aL _ _ _ _ hne]
  ·obtain rfl:j=script.length:=by omega
   have dM:=uz.gl
   have IFN:=af (Ab wr _ _ S.D nO nC S.fr S.G po pc uz.ma.mc (by omega) rfl)
   have Da:=af uz
   clear uz hkj hlt
   go_wp2_with fail
   refine(ae IFN).mono ?_
   rintro e w6 ⟨rfl,W,hbW,rfl⟩
   have IRS:=af (((ae Da).below hbW).res (ae HQ).pw hFl (Or.inl rfl))
   clear hbW IFN
   go_wp2_with fail
   refine(ae IRS).mono ?_
   rintro e w7 ⟨xo,xc,go,gc,yo,yc,rfl,Db,lA,ig,JU⟩
   have z0:=ah ig
   have zx:=ay ig
   have zz:=ag ig
   have SK:=af (JU [.int .i64 (gK S.fr S.G),.slice lo L.length lc,.slice xo F.length xc,.slice go S.G.length gc,.slice yo S.G.length yc] rfl)
   have wZ:=af lA
   clear Db lA ig JU IRS
   go_wp2_with fail
   refine bodyPost_ret (v:= .agg #[.int .i64 (gK S.fr S.G),.slice lo L.length lc,.slice xo F.length xc,.slice go S.G.length gc,.slice yo S.G.length yc]) (by simp[results,Tryz.results28,go_sem,z0]) rfl ?_
   exact⟨F,S0,ae zJ,ae SK,(((((ae wZ).setCell (Nat.le_refl _) _).setCell (Nat.le_refl _) _).setCell (Nat.le_refl _) _).setCell (Nat.le_refl _) _).setCell (Nat.le_refl _) _⟩
end Go.Proofs.YthfjnfcekeknlaaGreatDoor
namespace Zc
def query (l:List aj):dR (List aH):=match items 5 false true l with
 | .inl e=> .inl e
 | .inr ((ys,_,_),l1)=>if(hd l1).kind=0 then .inr (ys,l1)else bad 2 l1
theorem O4 {l:List aj} {e:Nat×Nat} (h:items 5 false true l= .inl e):query l= .inl e:=by unfold query;rw[h]
theorem EX {l l1:List aj} {ys:List aH} {a b:Bool} (h:items 5 false true l= .inr ((ys,a,b),l1)) (hk:(hd l1).kind=0):query l= .inr (ys,l1):=by unfold query;rw[h];dsimp only;rw[if_pos hk]
theorem O5 {l l1:List aj} {ys:List aH} {a b:Bool} (h:items 5 false true l= .inr ((ys,a,b),l1)) (hk:(hd l1).kind≠0):query l=bad 2 l1:=by unfold query;rw[h];dsimp only;rw[if_neg hk]
end Zc
namespace Go.Proofs.YthfjnfcekeknlaaGreatDoor
open Go.RowKit
def Yw (r:Zc.dR (List Zc.aH)) (w:World) (e:Ending) (w':World):Prop:=∃(o:Option Addr) (n cap er:Nat),e= .returned (.agg #[.slice o n cap,.int .i64 (er:Int)])∧(match r with
 | .inl (er',_)=>er=er'
 | .inr (ys,_)=>er=0∧b6 (Zc.aC [] ys) w' o n ys)∧Below w.heap.size w w'
theorem O6 (w:World) (s:ByteArray) (hs:96<s.size):
 Calls Tryz.prog 27 #[.string s] w fun e w'=>e= .returned (.agg #[.slice none 0 0,.int .i64 1])∧Below w.heap.size w w':=by
 have hsz:decide (96<(s.size:Int))=true:=by simp;omega
 go_enter Tryz.func27,Tryz.ntmps27
 go_wp2_with fail
 refine bodyPost_ret (v:= .agg #[.slice none 0 0,.int .i64 1]) (by simp[results,Tryz.results27,go_sem]) rfl ?_
 exact⟨rfl,(Below.refl _ _).alloc (Nat.le_refl _) _⟩
theorem SP (w:World) (s:ByteArray) (L:List Zc.aj) (hs:s.size≤96) (hL:Zc.eo s L) (hh:Zc.hd L=Zc.next s 0) (hl:L.length≤1000) (aV:dN w) (h0:0<w.heap.size):
 Calls Tryz.prog 27 #[.string s] w fun e w'=>Yw (Zc.query L) w e w':=by
 have hsz:decide (96<(s.size:Int))=false:=by simp;omega
 have jM:=af aV
 clear aV
 go_enter Tryz.func27,Tryz.ntmps27
 go_wp2_with fail
 refine(wk s 0 _ (by unfold maxLen;omega) (Nat.zero_le _) ((ae jM).below ((Below.refl _ _).alloc (Nat.le_refl _) _) h0) (by simp)).mono ?_
 rintro e w1 ⟨rfl,hb1⟩
 have Cj:=((ae jM).below ((Below.refl _ _).alloc (Nat.le_refl _) (.cells #[.slice none 0 0,.int .i64 0] 56)) h0).below hb1 (by simp)
 have q8:w.heap.size<w1.heap.size:=by have:=hb1.size;simp at this;omega
 have HS:=af (Hq Cj (by omega) hL hh hl (by omega))
 have bf:=af (aB ((hb1.block w.heap.size (by simp)).trans (heap_alloc_new w (.cells #[.slice none 0 0,.int .i64 0] 56))) (.cells #[.string s,.int .i64 ((Zc.next s 0).kind:Int),.int .i64 ((Zc.next s 0).pos:Int),.string (Zc.next s 0).text,.slice none 0 0,.int .i64 0] 73))
 have dD:=af ((((Below.refl w.heap.size w).alloc (Nat.le_refl _) (.cells #[.slice none 0 0,.int .i64 0] 56)).trans (hb1.mono (by simp))).alloc (by omega) (.cells #[.string s,.int .i64 ((Zc.next s 0).kind:Int),.int .i64 ((Zc.next s 0).pos:Int),.string (Zc.next s 0).text,.slice none 0 0,.int .i64 0] 73))
 clear hb1 Cj jM hL hh hl
 generalize (Zc.next s 0).kind=tk at*
 generalize (Zc.next s 0).pos=tp at*
 generalize (Zc.next s 0).text=tt at*
 have Za:(w1.alloc (.cells #[.string s,.int .i64 (tk:Int),.int .i64 (tp:Int),.string tt,.slice none 0 0,.int .i64 0] 73)).heap.size=w1.heap.size+1:=by simp
 have I:=af (qc _ w1.heap.size s L [] (.slice none 0 0) 0 false true (ae HS))
 go_wp2_with fail
 refine(ae I).mono ?_
 generalize hW:w1.alloc (.cells #[.string s,.int .i64 (tk:Int),.int .i64 (tp:Int),.string tt,.slice none 0 0,.int .i64 0] 73)=W at*
 generalize mH:w1.heap.size=rb at*
 clear I hW mH
 generalize hr:Zc.items 5 false true L=r
 have HR:=af hr
 clear hr
 rcases r with⟨er,pos⟩ | ⟨⟨ys,tb,gb⟩,l1⟩
 ·rintro e w2 ⟨l',ns',nv',rfl,hs2,-,hk2⟩
  have hz2:=hk2.size
  have b0:=aq hk2 (ae bf) (by simp;omega)
  have y0:=ah b0
  have x0:=ay b0
  have z0:=ag b0
  have c5:=hs2.rd.c5
  have zr:=hs2.lt
  have dx:=af (show Below w.heap.size w w2 from (ae dD).trans (hk2.below (by have:=(ae dD).size;omega) (by omega) (by simp;omega)))
  have zw:w.heap.size≤w2.heap.size:=(ae dx).size
  clear hs2 hk2 b0
  go_wp2_with fail
  refine bodyPost_ret (v:= .agg #[.slice none 0 0,.int .i64 er]) (by simp[results,Tryz.results27,go_sem,y0,z0,World.cell?_alloc_past]) rfl ?_
  rw[Zc.O4 (ae HR)]
  exact⟨none,0,0,er,rfl,rfl,by first | exact(((ae dx).setCell (Nat.le_refl _) _).setCell (Nat.le_refl _) _).alloc (by simp only[cN];omega) _ | exact(((ae dx).alloc (by omega) _).setCell (Nat.le_refl _) _).setCell (Nat.le_refl _) _⟩
 ·rintro e w2 ⟨ao,n,cap,ns',nv',e',rfl,⟨hit,kO⟩,hs2,hk2⟩
  have hz2:=hk2.size
  have b0:=aq hk2 (ae bf) (by simp;omega)
  have zr:=hs2.lt
  have dx:=af (show Below w.heap.size w w2 from (ae dD).trans (hk2.below (by have:=(ae dD).size;omega) (by omega) (by simp;omega)))
  have zw:w.heap.size≤w2.heap.size:=(ae dx).size
  have bZ:=af hs2
  have kG:=af b0
  have Nl:=af hit
  have gW:=af kO
  have y0:=ah b0
  have x0:=ay b0
  have z0:=ag b0
  clear hs2 hk2 b0 hit kO
  by_cases hk:(Zc.hd l1).kind=0
  ·have HW:=af (Zc.EX (ae HR) hk)
   go_wp2_with fail
   refine(Ou _ rb s l1 ns' _ e' ((ae bZ).below ((Below.refl _ _).alloc (Nat.le_refl _) _)) hk).mono ?_
   rintro e w3 ⟨rfl,rfl⟩
   clear hk
   go_wp2_with fail
   refine bodyPost_ret (v:= .agg #[.slice ao n cap,.int .i64 0]) (by simp[results,Tryz.results27,go_sem,y0,z0,World.cell?_alloc_past]) rfl ?_
   rw[ae HW]
   have hne:∀{g:Nat} {cs:Array Value} {Y:TypeId},w2.heap[g]?=some (.cells cs Y (0,0))→Y≠56→g≠w.heap.size:=fun {g cs Y} hg hY e=>by
    rw[e,ae kG]at hg
    simp only[Option.some.injEq,Obj.cells.injEq]at hg
    exact hY hg.2.1.symm
   refine⟨ao,n,cap,0,rfl,⟨rfl,?_⟩,(((ae dx).setCell (Nat.le_refl _) _).setCell (Nat.le_refl _) _).alloc (by simp only[cN];omega) _⟩
   have hn:aT ns'=Zc.aC [] ys:=ae gW
   rw[←hn]
   refine(ae Nl).keep ⟨fun g cs hg _=> ?_,fun g cs hg _=> ?_⟩
   ·have q:=hne hg (by decide)
    rw[Below.heap_alloc _ _ _ (by simp only[cN];exact ag hg),aL _ _ _ _ q,aL _ _ _ _ q]
    exact hg
   ·have q:=hne hg (by decide)
    rw[Below.heap_alloc _ _ _ (by simp only[cN];exact ag hg),aL _ _ _ _ q,aL _ _ _ _ q]
    exact hg
  ·have HW:=af (Zc.O5 (ae HR) hk)
   go_wp2_with fail
   refine(Ov _ rb s l1 ns' _ e' ((ae bZ).below ((Below.refl _ _).alloc (Nat.le_refl _) _)) hk).mono ?_
   clear hk
   rintro e w3 ⟨rfl,hs3,hk3⟩
   have b3:=aq hk3 (aB (ae kG) _) (by simp;omega)
   have y3:=ah b3
   have x3:=ay b3
   have z3:=ag b3
   have c5:=hs3.rd.c5
   have zr3:=hs3.lt
   have nY:=af (show Below w.heap.size w w3 from ((ae dx).alloc (ae dx).size _).trans (hk3.below (by have:=(ae dx).size;simp;omega) (by omega) (by simp;omega)))
   clear hs3 hk3 b3 y0 x0 z0
   go_wp2_with fail
   refine bodyPost_ret (v:= .agg #[.slice none 0 0,.int .i64 2]) (by simp[results,Tryz.results27,go_sem,y3]) rfl ?_
   rw[ae HW]
   exact⟨none,0,0,2,rfl,rfl,((ae nY).setCell (Nat.le_refl _) _).setCell (Nat.le_refl _) _⟩
theorem ur.keep {cls:List Zc.aJ} {F:List Nat} {script:List (Int×Int)} {S0:b8} {b b':Nat} {e:Ending} {w' w2:World} (h:ur cls F script S0 b e w') (hb:b'≤b) (hk:∀k,b≤k→w2.heap[k]?=w'.heap[k]?):ur cls F script S0 b' e w2:=by
 have row:∀{Y:TypeId} {o:Option Addr} {n cap:Nat} {xs:List Value},w'.ownsRow b Y 1 (.slice o n cap) n xs→w2.ownsRow b' Y 1 (.slice o n cap) n xs:=fun {Y o n cap xs} q=>cf (ai q fun k r=>hk k (q.lt k r).1) hb
 obtain⟨j,S,L,lo,lc,h1,⟨h2,xo,xc,go,gc,yo,yc,h3,h4,h5,h6,h7,h8⟩ | ⟨pg,pc,i,en,z,h2,h3,h4,h5,h6⟩⟩:=h
 ·exact⟨j,S,L,lo,lc,h1,Or.inl ⟨h2,xo,xc,go,gc,yo,yc,h3,row h4,row h5,row h6,row h7,h8⟩⟩
 ·exact⟨j,S,L,lo,lc,h1,Or.inr ⟨pg,pc,i,en,z,h2,h3,h4,h5,row h6⟩⟩
theorem ur.five {cls:List Zc.aJ} {F:List Nat} {script:List (Int×Int)} {S0:b8} {b:Nat} {e:Ending} {w':World} (h:ur cls F script S0 b e w'):∃(en:Int) (lo:Option Addr) (ln lc:Nat) (xo:Option Addr) (xn xc:Nat) (go:Option Addr) (gn gc:Nat) (yo:Option Addr) (yn yc:Nat),e= .returned (.agg #[.int .i64 en,.slice lo ln lc,.slice xo xn xc,.slice go gn gc,.slice yo yn yc]):=by
 obtain⟨j,S,L,lo,lc,h1,⟨h2,xo,xc,go,gc,yo,yc,h3,_⟩ | ⟨pg,pc,i,en,z,h2,h3,h4,h5,h6⟩⟩:=h
 ·exact⟨_,_,_,_,_,_,_,_,_,_,_,_,_,h3⟩
 ·exact⟨_,_,_,_,_,_,_,_,_,_,_,_,_,h5⟩
structure GP (sp:ByteArray) (LP:List Zc.aj) (sq:ByteArray) (LQ:List Zc.aj):Prop where
 pe:∀e,Zc.prog 12 LP= .inl e→e.1≠0
 qe:∀e,Zc.query LQ= .inl e→e.1≠0
 p:∀cls l,sp.size≤240→Zc.prog 12 LP= .inr (cls,l)→(∀c∈cls,Zc.jN c∧∀x∈c.goals,Zc.jf x)∧cls.length≤12
 q:∀ys l,sq.size≤96→Zc.query LQ= .inr (ys,l)→(∀x∈ys,Zc.jf x)∧ys.length≤6∧(Zc.aC [] ys).length≤100∧∀x∈ys,∀η:List UInt8→Zc.U,(∀y∈Zc.aC [] ys,Zc.size (η y)=1)→Zc.size (Zc.bH η 8 x.left)≤300∧(∀r,x.right=some r→Zc.size (Zc.bH η 8 r)≤300)∧(∀z,x.last=some z→Zc.size (Zc.bH η 8 z)≤300)
def mD (s:ByteArray) (L:List Zc.aj):Nat:=if 96<s.size then 1 else(match Zc.query L with
 | .inl e=>e.1
 | .inr _=>0)
def kA (s:ByteArray) (L:List Zc.aj):Nat:=if 240<s.size then 1 else Zc.Fm (Zc.prog 12 L)
def SQ (sp:ByteArray) (LP:List Zc.aj) (sq:ByteArray) (LQ:List Zc.aj) (script:List (Int×Int)) (w:World) (e:Ending) (w':World):Prop:=
 (∃er:Nat,er≠0∧er=(if kA sp LP≠0 then kA sp LP else if 100<script.length then 1 else mD sq LQ)∧e= .returned (.tuple #[.agg #[.int .i64 0,.slice none 0 0,.slice none 0 0,.slice none 0 0,.slice none 0 0],.int .i64 (er:Int)])∧Below w.heap.size w w')∨
 (kA sp LP=0∧script.length≤100∧mD sq LQ=0∧∃(cls:List Zc.aJ) (l1:List Zc.aj) (ys:List Zc.aH) (l2:List Zc.aj) (F:List Nat) (S0:b8) (R:Value),Zc.prog 12 LP= .inr (cls,l1)∧Zc.query LQ= .inr (ys,l2)∧C0 (Zc.aC [] ys) ys F S0∧e= .returned (.tuple #[R,.int .i64 0])∧ur cls F script S0 w.heap.size (.returned R) w'∧Below w.heap.size w w')
theorem TJ (w:World) (s:ByteArray) (L:List Zc.aj) (hL:Zc.eo s L) (hh:Zc.hd L=Zc.next s 0) (hl:s.size≤240→L.length≤1000) (aV:dN w) (h0:0<w.heap.size) (he:∀e,Zc.prog 12 L= .inl e→e.1≠0):
 Calls Tryz.prog 26 #[.string s] w fun e w'=>∃(o:Option Addr) (n c p:Nat),e= .returned (.agg #[.slice o n c,.int .i64 (kA s L:Int),.int .i64 (p:Int)])∧(kA s L=0→s.size≤240∧∃cls l1,Zc.prog 12 L= .inr (cls,l1)∧df w' o n cls)∧Below w.heap.size w w':=by
 by_cases hs:240<s.size
 ·refine(Lq w s hs).mono ?_
  rintro e w' ⟨rfl,hb⟩
  have:kA s L=1:=by unfold kA;rw[if_pos hs]
  exact⟨none,0,0,0,by rw[this];rfl,fun q=>by omega,hb⟩
 ·refine(OL w s L (by omega) hL hh (hl (by omega)) aV h0).mono ?_
  rintro e w' ⟨o,n,c,rfl,hr,hb⟩
  have e1:kA s L=Zc.Fm (Zc.prog 12 L):=by unfold kA;rw[if_neg hs]
  refine⟨o,n,c,Zc.posOf (Zc.prog 12 L),by rw[e1],fun q=>⟨by omega,?_⟩,hb⟩
  rw[e1]at q
  cases hp:Zc.prog 12 L with
  | inl x=>rw[hp]at q;exact absurd q (he x hp)
  | inr x=>
   obtain⟨cls,l1⟩:=x
   rw[hp]at hr
   exact⟨cls,l1,rfl,hr⟩
theorem SS (w:World) (s:ByteArray) (L:List Zc.aj) (hL:Zc.eo s L) (hh:Zc.hd L=Zc.next s 0) (hl:s.size≤96→L.length≤1000) (aV:dN w) (h0:0<w.heap.size) (he:∀e,Zc.query L= .inl e→e.1≠0):
 Calls Tryz.prog 27 #[.string s] w fun e w'=>∃(o:Option Addr) (n c:Nat),e= .returned (.agg #[.slice o n c,.int .i64 (mD s L:Int)])∧(mD s L=0→s.size≤96∧∃ys l1,Zc.query L= .inr (ys,l1)∧b6 (Zc.aC [] ys) w' o n ys)∧Below w.heap.size w w':=by
 by_cases hs:96<s.size
 ·refine(O6 w s hs).mono ?_
  rintro e w' ⟨rfl,hb⟩
  have:mD s L=1:=by unfold mD;rw[if_pos hs]
  exact⟨none,0,0,by rw[this];rfl,fun q=>by omega,hb⟩
 ·refine(SP w s L (by omega) hL hh (hl (by omega)) aV h0).mono ?_
  rintro e w' ⟨o,n,c,er,rfl,hr,hb⟩
  cases hp:Zc.query L with
  | inl x=>
   obtain⟨x1,x2⟩:=x
   rw[hp]at hr
   have e1:mD s L=x1:=by unfold mD;rw[if_neg hs,hp]
   have PE:er=x1:=hr
   exact⟨o,n,c,by rw[e1,PE],fun q=>by rw[e1]at q;exact absurd q (he _ hp),hb⟩
  | inr x=>
   obtain⟨ys,l1⟩:=x
   rw[hp]at hr
   have e1:mD s L=0:=by unfold mD;rw[if_neg hs,hp]
   obtain⟨rfl,hi⟩:=hr
   exact⟨o,n,c,by rw[e1],fun _=>⟨by omega,ys,l1,rfl,hi⟩,hb⟩
theorem O7 (w:World) (sp:ByteArray) (LP:List Zc.aj) (sq:ByteArray) (LQ:List Zc.aj) (script:List (Int×Int)) (so:Option Addr) (sc:Nat) (hP:Zc.eo sp LP) (hPh:Zc.hd LP=Zc.next sp 0) (hPl:sp.size≤240→LP.length≤1000) (hQ:Zc.eo sq LQ) (hQh:Zc.hd LQ=Zc.next sq 0) (hQl:sq.size≤96→LQ.length≤1000) (aV:dN w) (h0:0<w.heap.size) (CV:Pow w) (aF:GP sp LP sq LQ) (hsc:qL w so script) (kX:∀p∈script,(-9223372036854775808≤p.1∧p.1≤9223372036854775807)∧(-9223372036854775808≤p.2∧p.2≤9223372036854775807)):
 Calls Tryz.prog 15 #[.string sp,.string sq,.slice so script.length sc] w fun e w'=>SQ sp LP sq LQ script w e w':=by
 have hb0:=(Below.refl w.heap.size w).alloc (Nat.le_refl _) (.cells #[.int .i64 0,.slice none 0 0,.slice none 0 0,.slice none 0 0,.slice none 0 0] 32)
 have IP:=af (TJ _ sp LP hP hPh hPl (aV.below hb0 h0) (by simp) aF.pe)
 have IQ:=af (fun W (hu:Below w.heap.size w W)=>SS W sq LQ hQ hQh hQl (aV.below hu h0) (Nat.lt_of_lt_of_le h0 hu.size) aF.qe)
 have Vo:=af (heap_alloc_new w (.cells #[.int .i64 0,.slice none 0 0,.slice none 0 0,.slice none 0 0,.slice none 0 0] 32))
 have bf:=af hb0
 have qW:=af aF
 have EH:=af CV
 have SE:=af hsc
 have zQ:=af kX
 clear hb0 hP hPh hPl hQ hQh hQl aV CV aF hsc kX
 generalize Vp:kA sp LP=ep at*
 generalize heq:mD sq LQ=eq at*
 have NS:=af Vp
 have Vq:=af heq
 clear Vp heq
 go_enter Tryz.func15,Tryz.ntmps15
 go_wp2_with fail
 refine(ae IP).mono ?_
 rintro e w1 ⟨o1,n1,c1,p1,rfl,oC,hb1⟩
 have Mu:=(ae bf).trans (hb1.mono (ae bf).size)
 have hz1:=(hb1.block w.heap.size (by simp)).trans (ae Vo)
 have hbA:=Mu.alloc Mu.size (.cells #[.slice o1 n1 c1,.int .i64 (ep:Int),.int .i64 (p1:Int)] 52)
 have hzA:=aB hz1 (.cells #[.slice o1 n1 c1,.int .i64 (ep:Int),.int .i64 (p1:Int)] 52)
 have haA:=heap_alloc_new w1 (.cells #[.slice o1 n1 c1,.int .i64 (ep:Int),.int .i64 (p1:Int)] 52)
 have IQ1:=af (ae IQ _ hbA)
 have IX:=af oC
 have SU:=af hzA
 have Hj:=af haA
 have EK:=af hbA
 have z1w:w.heap.size<w1.heap.size:=ag hz1
 clear oC hb1 Mu hz1 hbA hzA haA IP IQ
 go_wp2_with fail
 refine(ae IQ1).mono ?_
 rintro e w2 ⟨o2,n2,c2,rfl,jz,hb2⟩
 have uq:=(ae EK).trans (hb2.mono (ae EK).size)
 have hz2:=(hb2.block _ (ag (ae SU))).trans (ae SU)
 have ha2:=(hb2.block _ (ag (ae Hj))).trans (ae Hj)
 have hbB:=uq.alloc uq.size (.cells #[.slice o2 n2 c2,.int .i64 (eq:Int)] 56)
 have hzB:=aB hz2 (.cells #[.slice o2 n2 c2,.int .i64 (eq:Int)] 56)
 have haB:=aB ha2 (.cells #[.slice o2 n2 c2,.int .i64 (eq:Int)] 56)
 have hqB:=heap_alloc_new w2 (.cells #[.slice o2 n2 c2,.int .i64 (eq:Int)] 56)
 have tR:=ag ha2
 have gu:ep=0→sp.size≤240∧∃cls l1,Zc.prog 12 LP= .inr (cls,l1)∧df (w2.alloc (.cells #[.slice o2 n2 c2,.int .i64 (eq:Int)] 56)) o1 n1 cls:=fun q=>by
  obtain⟨q1,cls,l1,q2,q3⟩:=ae IX q
  exact⟨q1,cls,l1,q2,((eG.below ((Below.refl _ w1).alloc (Nat.le_refl _) _)).trans ((eG.below hb2).trans (eG.below ((Below.refl _ w2).alloc (Nat.le_refl _) _)))).cls q3⟩
 have Vs:eq=0→sq.size≤96∧∃ys l1,Zc.query LQ= .inr (ys,l1)∧b6 (Zc.aC [] ys) (w2.alloc (.cells #[.slice o2 n2 c2,.int .i64 (eq:Int)] 56)) o2 n2 ys:=fun q=>by
  obtain⟨q1,ys,l1,q2,q3⟩:=jz q
  exact⟨q1,ys,l1,q2,q3.keep (aS.alloc _ _)⟩
 have vR:=af gu
 have NU:=af Vs
 generalize hw3:w2.alloc (.cells #[.slice o2 n2 c2,.int .i64 (eq:Int)] 56)=w3 at*
 have a0:=ah haB 0
 have a1:=ah haB 1
 have q0:=ah hqB 0
 have q1:=ah hqB 1
 have az:=ag haB
 have qz:=ag hqB
 have z0:=ah hzB
 have zx:=ay hzB
 have zz:=ag hzB
 simp only[List.getElem?_toArray,List.getElem?_cons_zero,List.getElem?_cons_succ]at a0 a1 q0 q1
 have oB:=af hbB
 have NR:=af hzB
 clear jz hb2 uq hz2 ha2 hbB hzB haB hqB gu Vs IQ1 IX SU Hj EK Vo bf
 by_cases h1:ep=0
 ·have t1:((ep:Int) != 0)=false:=by rw[h1];rfl
  have t1':((ep:Int) == 0)=true:=by rw[h1];rfl
  by_cases h2:100<script.length
  ·have t2:decide (100<(script.length:Int))=true:=by simp;omega
   have HE:=af (show (1:Nat)=(if kA sp LP≠0 then kA sp LP else if 100<script.length then 1 else mD sq LQ)by rw[ae NS,if_neg (by omega),if_pos h2])
   clear h1 h2
   go_wp2_with fail
   refine bodyPost_ret (v:= .tuple #[.agg #[.int .i64 0,.slice none 0 0,.slice none 0 0,.slice none 0 0,.slice none 0 0],.int .i64 1]) (by simp[results,Tryz.results15,go_sem,z0]) rfl ?_
   exact Or.inl ⟨1,by omega,ae HE,rfl,(((((ae oB).setCell (Nat.le_refl _) _).setCell (Nat.le_refl _) _).setCell (Nat.le_refl _) _).setCell (Nat.le_refl _) _).setCell (Nat.le_refl _) _⟩
  ·have t2:decide (100<(script.length:Int))=false:=by simp;omega
   by_cases h3:eq=0
   ·have t3:((eq:Int) != 0)=false:=by rw[h3];rfl
    have t3':((eq:Int) == 0)=true:=by rw[h3];rfl
    obtain⟨hs1,cls,l1,CZ,gu⟩:=ae vR h1
    obtain⟨hs2,ys,l2,SV,hit⟩:=ae NU h3
    obtain⟨okp,cl12⟩:=(ae qW).p cls l1 hs1 CZ
    obtain⟨okq,il6,nl,szq⟩:=(ae qW).q ys l2 hs2 SV
    have tB:n1=cls.length:=gu.1
    subst tB
    have SX:Vi w3 cls o1 ys (Zc.aC [] ys) o2 n2 script so:=⟨gu,okp,cl12,hit,okq,il6,⟨[],by simp⟩,nl,szq,fun hne=>by
     obtain⟨g,off,q1,q2,q3⟩:=ae SE hne
     exact⟨g,off,q1,Nat.lt_of_lt_of_le q2 (ae oB).size,fun i hi=>⟨((ae oB).cell (p:=⟨g,off+i*2,none⟩) q2).trans (q3 i hi).1,((ae oB).cell (p:=⟨g,off+i*2+1,none⟩) q2).trans (q3 i hi).2⟩⟩,by omega,ae zQ,(ae EH).below (ae oB)⟩
    have IY:=af (JT w3 cls o1 c1 ys (Zc.aC [] ys) o2 n2 c2 script so sc SX)
    have dF:=af (show∀(R:Value) (F:List Nat) (S0:b8) (w4 w5:World),C0 (Zc.aC [] ys) ys F S0→ur cls F script S0 w3.heap.size (.returned R) w4→(∀k,w3.heap.size≤k→w5.heap[k]?=w4.heap[k]?)→Below w.heap.size w w5→SQ sp LP sq LQ script w (.returned (.tuple #[R,.int .i64 0])) w5 from fun R F S0 w4 w5 k1 k2 k3 k4=>Or.inr ⟨by rw[ae NS];exact h1,by omega,by rw[ae Vq];exact h3,cls,l1,ys,l2,F,S0,R,CZ,SV,k1,rfl,k2.keep (ae oB).size k3,k4⟩)
    clear h1 h2 h3 hs1 CZ gu hs2 SV hit okp cl12 okq il6 nl szq SX vR NU
    go_wp2_with fail
    refine(ae IY).mono ?_
    rintro e w4 ⟨F,S0,xG,Db,hb4⟩
    obtain⟨en,lo,ln,lc,xo,xn,xc,go,gn,gc,yo,yn,yc,rfl⟩:=Db.five
    have NV:=(hb4.block _ zz).trans (ae NR)
    have y0:=ah NV
    have yx:=ay NV
    have yz:=ag NV
    have CX:=(ae oB).trans (hb4.mono (ae oB).size)
    have cu:=af CX
    have Yx:=af Db
    have zJ:=af xG
    clear NV CX hb4 Db xG IY
    go_wp2_with fail
    refine bodyPost_ret (v:= .tuple #[.agg #[.int .i64 en,.slice lo ln lc,.slice xo xn xc,.slice go gn gc,.slice yo yn yc],.int .i64 0]) (by simp[results,Tryz.results15,go_sem,y0]) rfl ?_
    refine ae dF _ F S0 w4 _ (ae zJ) (ae Yx) (fun k hk=> ?_) ((((((ae cu).setCell (Nat.le_refl _) _).setCell (Nat.le_refl _) _).setCell (Nat.le_refl _) _).setCell (Nat.le_refl _) _).setCell (Nat.le_refl _) _)
    have q:k≠w.heap.size:=by omega
    rw[aL _ _ _ _ q,aL _ _ _ _ q,aL _ _ _ _ q,aL _ _ _ _ q,aL _ _ _ _ q]
   ·have t3:((eq:Int) != 0)=true:=by simp;omega
    have t3':((eq:Int) == 0)=false:=by simp;omega
    have HE:=af (show eq=(if kA sp LP≠0 then kA sp LP else if 100<script.length then 1 else mD sq LQ)by rw[ae NS,ae Vq,if_neg (by omega),if_neg h2])
    have qV:=af h3
    clear h1 h2 h3 vR NU
    go_wp2_with fail
    go_region
    all_goals
     go_wp2_with fail
     refine bodyPost_ret (v:= .tuple #[.agg #[.int .i64 0,.slice none 0 0,.slice none 0 0,.slice none 0 0,.slice none 0 0],.int .i64 (eq:Int)]) (by simp[results,Tryz.results15,go_sem,z0]) rfl ?_
     exact Or.inl ⟨eq,ae qV,ae HE,rfl,by first | exact((((((ae oB).setCell (Nat.le_refl _) _).setCell (Nat.le_refl _) _).setCell (Nat.le_refl _) _).setCell (Nat.le_refl _) _).setCell (Nat.le_refl _) _).drew | exact(((((ae oB).drew.setCell (Nat.le_refl _) _).setCell (Nat.le_refl _) _).setCell (Nat.le_refl _) _).setCell (Nat.le_refl _) _).setCell (Nat.le_refl _) _⟩
 ·have t1:((ep:Int) != 0)=true:=by simp;omega
  have t1':((ep:Int) == 0)=false:=by simp;omega
  have HE:=af (show ep=(if kA sp LP≠0 then kA sp LP else if 100<script.length then 1 else mD sq LQ)by rw[ae NS,if_pos h1])
  have qV:=af h1
  clear h1 vR NU
  go_wp2_with fail
  go_region
  all_goals
   go_wp2_with fail
   refine bodyPost_ret (v:= .tuple #[.agg #[.int .i64 0,.slice none 0 0,.slice none 0 0,.slice none 0 0,.slice none 0 0],.int .i64 (ep:Int)]) (by simp[results,Tryz.results15,go_sem,z0]) rfl ?_
   exact Or.inl ⟨ep,ae qV,ae HE,rfl,by first | exact((((((ae oB).setCell (Nat.le_refl _) _).setCell (Nat.le_refl _) _).setCell (Nat.le_refl _) _).setCell (Nat.le_refl _) _).setCell (Nat.le_refl _) _).drew | exact(((((ae oB).drew.setCell (Nat.le_refl _) _).setCell (Nat.le_refl _) _).setCell (Nat.le_refl _) _).setCell (Nat.le_refl _) _).setCell (Nat.le_refl _) _⟩
end Go.Proofs.YthfjnfcekeknlaaGreatDoor
namespace Zc
open Go.Proofs.YthfjnfcekeknlaaGreatDoor (dE)
def jP (s:Nat) (N:List (List UInt8)) (items:List aH):MS:=⟨(List.range N.length).map fun k=> .v ([],s+k),items.map (MG.of fun y=> .v ([],s+N.idxOf y)),s+N.length⟩
end Zc
namespace Go.Proofs.YthfjnfcekeknlaaGreatDoor
open Go.RowKit
open Zc (U Vr aJ)
theorem Mv {cls:List aJ} {V:List Nat} {S:b8} {i:Nat} {p en:Int} (aF:∀c∈cls,Zc.jN c) (h:yb V S) (hg:JC cls S i p en):Zc.EL cls (jv V S) i p en:=by
 obtain⟨g,iE,hc⟩:=hg
 have ky:g∈S.G:=List.mem_of_getElem? iE
 have gw:=h.wf.gw g ky
 have hai:(jv V S).gs[i]?=some (eU S.fr S.T g):=by show (S.G.map _)[i]?=_;rw[List.getElem?_map,iE];rfl
 have mh:Zc.bA (Zc.PQ (·<S.D.length)) (S.T g.l):=(h.wf.uw gw.ll).mono fun x hx=>⟨hx.1,hx.2.1⟩
 refine⟨_,hai,?_⟩
 rcases hc with⟨hs,he,rn,hr,eO,hno⟩ | ⟨hs,rn,zn,hr,eO,hz,hw,hv⟩ | ⟨hs,he,tx,us,bj,ui,rs,r1,r2,r3⟩
 ·left
  refine⟨hs,he,fun θ=> ?_⟩
  show Zc.sub θ (S.T g.l)≠Zc.sub θ (ct S.T g.r)
  rw[hr,gA]
  exact hno θ
 ·right;left
  obtain⟨ew,ev⟩:=C7 (T:=S.T) (op:=g.op.toList) hr (fun q=>(hz q).1)
  refine⟨hs,?_,?_⟩
  ·show (Zc.fo g.op.toList (ct S.T g.r) (ct S.T g.z)).wt=[]
   rw[ew];exact hw
  ·show (en=5∧fA g.op.toList (ct S.T g.r) (ct S.T g.z)=none)∨(en=4∧∃x,fA g.op.toList (ct S.T g.r) (ct S.T g.z)=some x∧_)
   rw[ev]
   exact hv
 ·right;right
  rw[bj]at r2 mh
  refine⟨he,_,_,⟨hs,tx,us,bj,ui,rfl,rfl⟩,fun t c ht hc=> ?_⟩
  show (Zc.bT S.D.length (S.T g.l) c).1=2
  rw[bj]
  have nG:t<rs.length:=by omega
  obtain⟨q1,q2,_⟩:=uy r2 mh aF nG hc
  rw[q1]
  unfold Zc.my at r3
  have q3:=List.any_eq_false.1 r3 rs[t] (List.getElem_mem nG)
  have q4:rs[t].1≠3:=by simpa using q3
  obtain⟨_,c',V',F',T',_,Yy⟩:=r2 t rs[t] (List.getElem?_eq_getElem nG)
  rcases Yy with⟨_,k,_⟩ | ⟨_,_,_,_,_,k,_⟩
  ·rcases AY (Zc.matU 8 c'.head (.n 1 tx 0 us) ⟨[],Zc.Wn.none⟩).w with e | e | e<;>rw[e]at k
   ·exact absurd k q2
   ·exact k
   ·exact absurd k q4
  ·rcases AY (Zc.iU (cR T' (V'++F') (Zc.NG c')) c'.tests)with e | e | e<;>rw[e]at k
   ·exact absurd k q2
   ·exact k
   ·exact absurd k q4
theorem vu (V:List Nat) (S:b8):Zc.iq (jv V S).gs=cD S.fr S.G S.G.length:=by
 unfold Zc.iq cD jv
 dsimp only
 rw[List.length_map]
 refine List.filter_congr fun i _=> ?_
 rw[List.getElem?_map]
 cases S.G[i]? with
 | none=>rfl
 | some g=>simp[eU]
theorem O9 (V:List Nat) (S:b8):Zc.yQ (jv V S).gs=gK S.fr S.G:=by
 unfold Zc.yQ gK
 rw[vu]
 have:(jv V S).gs=[]↔S.G=[]:=List.map_eq_nil_iff
 by_cases q:S.G=[]
 ·rw[if_pos q,if_pos (this.2 q)]
 ·rw[if_neg q,if_neg (fun e=>q (this.1 e))]
theorem big_z:Zc.big Zc.zU=false:=by decide
theorem uA (T:Nat→U) (x:Int):gf T x=Zc.big (ct T x):=by
 unfold gf Zc.big ct
 by_cases q:x= -1
 ·rw[if_pos q,decide_eq_false (fun e=>e.1 q)];exact big_z.symm
 ·rw[if_neg q]
  exact decide_eq_decide.2 ⟨fun e=>e.2,fun e=>⟨q,e⟩⟩
theorem EY {V:List Nat} {S:b8} (h:yb V S):Zc.qN (jv V S)=ng V S:=by
 unfold Zc.qN ng jv
 dsimp only
 rw[List.length_map,List.any_map,List.any_map,List.any_map]
 have e1:V.any (Zc.big∘S.T)=V.any (gf S.T∘fun n:Nat=>(n:Int)):=by
  congr 1
  funext v
  show Zc.big (S.T v)=gf S.T (v:Int)
  rw[uA,gA]
 have e2:S.G.any (Zc.mC∘eU S.fr S.T)=S.G.any (ju S.D S.fr S.T):=by
  have key:∀g∈S.G,Zc.mC (eU S.fr S.T g)=ju S.D S.fr S.T g:=fun g hg=>by
   have gw:=h.wf.gw g hg
   unfold Zc.mC ju iV
   by_cases q:g.sg.toList=[]
   ·rw[if_pos (show (eU S.fr S.T g).sg=[]from q),if_pos q]
    have hf:=h.wf.ok.lt gw.ll
    rw[List.getElem?_eq_getElem hf]
    dsimp only[Option.elim]
    rw[List.any_map]
    have ht:=h.wf.sto.tr g.l
    have ea:Zc.ga (aZ S.D) (S.fr g.l)=S.D[S.fr g.l].args:=jT hf
    show (match S.T g.l with
     | .v _=>false
     | .n _ _ _ us=>us.any Zc.big)=_
    generalize S.T g.l=x at ht
    cases ht with
    | var h1 h2=>rw[←ea,h2];rfl
    | @node _ k tx num us h1 h2 h3=>
     dsimp only
     rw[ea]at h2 h3
     have eu:us=S.D[S.fr g.l].args.map S.T:=by
      apply List.ext_getElem (by rw[List.length_map,h2])
      intro j j1 j2
      rw[List.getElem_map]
      have ja:j<S.D[S.fr g.l].args.length:=by simpa using j2
      exact(h3 j _ _ (List.getElem?_eq_getElem ja) (List.getElem?_eq_getElem j1)).one (h.wf.sto.tr _)
     rw[eu,List.any_map]
     congr 1
     funext v
     show Zc.big (S.T v)=gf S.T (v:Int)
     rw[uA,gA]
   ·rw[if_neg (show¬(eU S.fr S.T g).sg=[]from q),if_neg q]
    show (Zc.big (S.T g.l)||Zc.big (ct S.T g.r)||Zc.big (ct S.T g.z))=_
    simp only[List.any_cons,List.any_nil,Bool.or_false,uA,gA,Bool.or_assoc]
  have:∀l:List Gl,(∀g∈l,g∈S.G)→l.any (Zc.mC∘eU S.fr S.T)=l.any (ju S.D S.fr S.T):=by
   intro l
   induction l with
   | nil=>intro _;rfl
   | cons g l ih=>
    intro hl
    rw[List.any_cons,List.any_cons,ih (fun x hx=>hl x (by simp[hx]))]
    show (Zc.mC (eU S.fr S.T g)||_)=_
    rw[key g (hl g (by simp))]
  exact this S.G fun g hg=>hg
 rw[e1,e2]
theorem EZ (T:Nat→U) (V:List Nat):Zc.kK (V.map T)=eP T V:=by
 unfold Zc.kK eP
 rw[List.foldl_map]
 rfl
theorem Pa {V:List Nat} {S:b8} (h:yb V S) (N:List Vr):Zc.wT N (jv V S).gs=kJ S.T N S.G:=by
 have nz:∀(N:List Vr) (x:Int),Zc.aU N (ct S.T x)=iJ S.T N x:=fun N x=>by
  unfold ct iJ
  by_cases q:x= -1
  ·rw[if_pos q,if_pos q];rfl
  ·rw[if_neg q,if_neg q]
 have key:∀g∈S.G,∀a,Zc.nD a (eU S.fr S.T g)=stepG S.T a g:=fun g hg a=>by
  have gw:=h.wf.gw g hg
  have en:∀N,Zc.jO N (eU S.fr S.T g)=JJ S.T N g:=fun N=>by
   unfold Zc.jO JJ
   show Zc.aU (Zc.aU (Zc.aU N (S.T g.l)) (ct S.T g.r)) (ct S.T g.z)=_
   rw[nz,nz]
   have:iJ S.T N (g.l:Int)=Zc.aU N (S.T g.l):=by rw[←nz,gA]
   rw[this]
  have et:∀N,Zc.vh N (eU S.fr S.T g)=EJ S.T N g:=fun N=>by
   unfold Zc.vh EJ
   show Zc.ni (Zc.bP Lib.itoa N (S.T g.l)) g.sg.toList (Zc.bP Lib.itoa N (ct S.T g.r)) g.op.toList (Zc.bP Lib.itoa N (ct S.T g.z))=_
   unfold Zc.ni
   by_cases q:g.sg.toList=[]
   ·rw[if_pos q,if_pos q]
   ·rw[if_neg q,if_neg q]
    obtain⟨n,hn,_⟩:=gw.rr q
    have e1:ct S.T g.r=S.T g.r.toNat:=by rw[hn,gA];rfl
    rw[e1]
    by_cases o:g.op.toList=[]
    ·rw[if_pos o,if_pos o]
    ·rw[if_neg o,if_neg o]
     obtain⟨m,hm,_⟩:=gw.zz o
     have e2:ct S.T g.z=S.T g.z.toNat:=by rw[hm,gA];rfl
     rw[e2]
  unfold Zc.nD stepG
  rw[en,et]
 unfold Zc.wT kJ jv
 dsimp only
 rw[List.foldl_map]
 have:∀(l:List Gl) (a:List (List UInt8)×List Vr),(∀g∈l,g∈S.G)→l.foldl (fun x y=>Zc.nD x (eU S.fr S.T y)) a=l.foldl (stepG S.T) a:=by
  intro l
  induction l with
  | nil=>intro a _;rfl
  | cons g l ih=>
   intro a hl
   rw[List.foldl_cons,List.foldl_cons,key g (hl g (by simp))]
   exact ih _ fun x hx=>hl x (by simp[hx])
 exact this S.G _ fun g hg=>hg
theorem De {cls:List aJ} {V:List Nat} {script:List (Int×Int)} {S0:b8} (aF:∀c∈cls,Zc.jN c) (h0:yb V S0) {j:Nat} {S:b8} {L:List Int} (h:yP cls V script S0 j S L):Zc.nk cls script (jv V S0) j (jv V S) L∧yb V S:=by
 induction h with
 | start=>exact⟨.start,h0⟩
 | @step j S S' L pg pc z i h hs hi hg hl ih=>
  obtain⟨i1,i2⟩:=ih
  obtain⟨k1,k2⟩:=C8 aF i2 hg
  exact⟨.step i1 hs (by rw[vu];exact hi) k1 (by rw[EY k2];exact hl),k2⟩
theorem JW {items:List Zc.aH} {F:List Nat} {S:b8} (h:C0 (Zc.aC [] items) items F S) (hi:∀x∈items,Zc.jf x):yb F S∧Zc.eQ (fun k=>(F[k - 1]?).getD 0) (fun k=>1≤k∧k<1+(Zc.aC [] items).length) (Zc.jP 1 (Zc.aC [] items) items) (jv F S):=by
 have dM:=h.gl
 have zN:∀{xs:List Zc.aH} {gs:List Gl},bO (mN S.T S.D.length (cR S.T F (Zc.aC [] items))) xs gs→(∀x∈xs,Zc.jf x)→∀g∈gs,mA S.T S.D.length g∧g.nd=[]:=by
  intro xs
  induction xs with
  | nil=>
   intro gs ha _ g hg
   cases gs with
   | nil=>cases hg
   | cons y ys=>exact ha.elim
  | cons x xs ih=>
   intro gs ha hx g hg
   cases gs with
   | nil=>cases hg
   | cons y ys=>
    rcases List.mem_cons.1 hg with q | q
    ·rw[q];exact⟨ha.1.gw (hx x (by simp)),ha.1.nd⟩
    ·exact ih ha.2 (fun z hz=>hx z (by simp[hz])) g q
 have hv:∀f∈F,S.T f= .v ([],f):=fun f hf=>(pF (D:=[]) (E:=S.D) (by rw[List.nil_append];exact h.ok) (by rw[List.nil_append];exact h.sto) h.nd h.nv f hf).2.2
 have hF:∀k (hk:k<F.length),(F[(1+k) - 1]?).getD 0=F[k]:=fun k hk=>by
  rw[Nat.add_sub_cancel_left,List.getElem?_eq_getElem hk];rfl
 refine⟨⟨⟨h.sto,h.ok,fun g hg=>(zN dM hi g hg).1,fun g hg v hv=>(by rw[(zN dM hi g hg).2]at hv;cases hv)⟩,fun g hg v hv=>(by rw[(zN dM hi g hg).2]at hv;cases hv),h.lt⟩,⟨fun i j hPi hPj JQ=> ?_,fun k hk=>hk.2,fun k hk=> ?_,fun u hu=> ?_,fun g hg=> ?_,?_,?_⟩⟩
 ·have lO:=h.ln
  show (F[i - 1]?).getD 0<(F[j - 1]?).getD 0
  rw[List.getElem?_eq_getElem (show i - 1<F.length by omega),List.getElem?_eq_getElem (show j - 1<F.length by omega)]
  exact List.pairwise_iff_getElem.1 h.nv.ord _ _ _ _ (by omega)
 ·have lO:=h.ln
  show (F[k - 1]?).getD 0<S.D.length
  rw[List.getElem?_eq_getElem (show k - 1<F.length by omega)]
  exact h.lt _ (List.getElem_mem _)
 ·obtain⟨k,hk,rfl⟩:=List.mem_map.1 hu
  have:=List.mem_range.1 hk
  exact .v ⟨rfl,by show 1≤1+k;omega,by show 1+k<_;omega⟩
 ·obtain⟨x,hx,rfl⟩:=List.mem_map.1 hg
  obtain⟨ns,hn⟩:=Zc.fz items [] x hx
  refine Zc.NM (hi x hx).ok ns fun y hy=> .v ⟨rfl,by show 1≤1+_;omega,?_⟩
  have:=List.idxOf_lt_length_of_mem (hn y hy)
  show 1+(Zc.aC [] items).idxOf y<_
  omega
 ·show F.map S.T=((List.range _).map _).map _
  rw[List.map_map]
  apply List.ext_getElem (by simp[h.ln])
  intro k k1 k2
  have hk:k<F.length:=by simpa using k1
  rw[List.getElem_map,List.getElem_map,List.getElem_range,hv _ (List.getElem_mem hk)]
  show U.v ([],F[k])= .v ([],(F[(1+k) - 1]?).getD 0)
  rw[hF k hk]
 ·show S.G.map _=(items.map _).map _
  rw[List.map_map]
  refine wV dM fun x hx y hy=> ?_
  rw[ET hy (hi x hx).ok]
  obtain⟨ns,hn⟩:=Zc.fz items [] x hx
  refine Zc.JP (hi x hx).ok ns fun w hw=> ?_
  have vS:=List.idxOf_lt_length_of_mem (hn w hw)
  have hk:(Zc.aC [] items).idxOf w<F.length:=by rw[h.ln];exact vS
  show cR S.T F (Zc.aC [] items) w=U.v ([],(F[(1+(Zc.aC [] items).idxOf w) - 1]?).getD 0)
  rw[hF _ hk]
  unfold cR
  rw[List.getElem?_eq_getElem hk]
  exact hv _ (List.getElem_mem hk)
end Go.Proofs.YthfjnfcekeknlaaGreatDoor
namespace Zc
def NZ {α:Type} (r:dR α):Prop:=∀e,r= .inl e→e.1≠0
theorem fO {α:Type} {e:Nat} (he:e≠0) (l:List aj):NZ (bad (α:=α) e l):=fun x hx=>by
 unfold bad at hx
 cases hx
 exact he
theorem fh {α:Type} (x:α×List aj):NZ (.inr x:dR α):=fun e he=>by cases he
theorem Pb {p:List aj→dR Tm} (hp:∀l,NZ (p l)):∀(k:Nat) (l:List aj),NZ (bL p k l):=by
 intro k
 induction k with
 | zero=>
  intro l
  unfold bL
  cases hr:p l with
  | inl e=>intro x hx;cases hx;exact hp l e hr
  | inr r=>
   dsimp only
   split
   ·exact fO (by omega) _
   ·split
    ·exact fh _
    ·exact fO (by omega) _
 | succ k ih=>
  intro l
  unfold bL
  cases hr:p l with
  | inl e=>intro x hx;cases hx;exact hp l e hr
  | inr r=>
   dsimp only
   split
   ·have:=ih r.2.tail
    cases hq:bL p k r.2.tail with
    | inl e=>intro x hx;cases hx;exact this e hq
    | inr q=>exact fh _
   ·split
    ·exact fh _
    ·exact fO (by omega) _
theorem nz_term:∀(f:Nat) (l:List aj),NZ (term f l):=by
 intro f
 induction f with
 | zero=>
  intro l
  unfold term
  split
  ·exact fO (by omega) _
  ·exact fO (by omega) _
 | succ f ih=>
  intro l
  unfold term
  split
  ·split
   ·exact fO (by omega) _
   ·split
    ·split
     ·have:=Pb ih 2 l.tail.tail
      cases hq:bL (term f) 2 l.tail.tail with
      | inl e=>intro x hx;cases hx;exact this e hq
      | inr q=>exact fh _
     ·exact fh _
    ·exact fh _
  ·exact fO (by omega) _
theorem yf (l:List aj):NZ (operand l):=by
 unfold operand
 split
 ·exact fO (by omega) _
 ·exact nz_term 8 l
theorem Df (t:Tm) (b:Bool) (l:List aj):NZ (sides t b l):=by
 unfold sides
 split
 ·cases hq:term 8 l.tail with
  | inl e=>intro x hx;cases hx;exact nz_term 8 _ e hq
  | inr q=>exact fh _
 ·exact fO (by omega) _
theorem JX (t:Tm) (b:Bool) (l:List aj):NZ (assignment t b l):=by
 unfold assignment
 split
 ·cases hq:operand l.tail with
  | inl e=>intro x hx;cases hx;exact yf _ e hq
  | inr q=>
   dsimp only
   split
   ·cases jz:operand q.2.tail with
    | inl e=>intro x hx;cases hx;exact yf _ e jz
    | inr q2=>exact fh _
   ·exact fh _
 ·exact fO (by omega) _
theorem E0 (a b:Bool) (l:List aj):NZ (item a b l):=by
 unfold item
 cases hq:term 8 l with
 | inl e=>intro x hx;cases hx;exact nz_term 8 _ e hq
 | inr q=>
  dsimp only
  split
  ·cases h2:sides q.1 a q.2 with
   | inl e=>intro x hx;cases hx;exact Df _ _ _ e h2
   | inr q2=>exact fh _
  ·split
   ·cases h2:sides q.1 b q.2 with
    | inl e=>intro x hx;cases hx;exact Df _ _ _ e h2
    | inr q2=>exact fh _
   ·split
    ·cases h2:assignment q.1 b q.2 with
     | inl e=>intro x hx;cases hx;exact JX _ _ _ e h2
     | inr q2=>exact fh _
    ·split
     ·exact fh _
     ·exact fO (by omega) _
theorem nz_items:∀(k:Nat) (a b:Bool) (l:List aj),NZ (items k a b l):=by
 intro k
 induction k with
 | zero=>
  intro a b l
  unfold items
  cases hq:item a b l with
  | inl e=>intro x hx;cases hx;exact E0 _ _ _ e hq
  | inr q=>
   dsimp only
   split
   ·exact fO (by omega) _
   ·exact fh _
 | succ k ih=>
  intro a b l
  unfold items
  cases hq:item a b l with
  | inl e=>intro x hx;cases hx;exact E0 _ _ _ e hq
  | inr q=>
   dsimp only
   split
   ·cases h2:items k q.1.2.1 q.1.2.2 q.2.tail with
    | inl e=>intro x hx;cases hx;exact ih _ _ _ e h2
    | inr q2=>exact fh _
   ·exact fh _
theorem Mw (l:List aj):NZ (query l):=by
 unfold query
 cases hq:items 5 false true l with
 | inl e=>intro x hx;cases hx;exact nz_items _ _ _ _ e hq
 | inr q=>
  dsimp only
  split
  ·exact fh _
  ·exact fO (by omega) _
theorem Pc (l:List aj):NZ (body l):=by
 unfold body
 cases hq:items 5 true true l with
 | inl e=>intro x hx;cases hx;exact nz_items _ _ _ _ e hq
 | inr q=>
  dsimp only
  split
  ·cases h2:items 5 false true q.2.tail with
   | inl e=>intro x hx;cases hx;exact nz_items _ _ _ _ e h2
   | inr q2=>
    dsimp only
    split
    ·exact fh _
    ·exact fO (by omega) _
  ·split
   ·exact fh _
   ·exact fO (by omega) _
theorem E4 {α:Type} (x:α) (l:List aj):NZ (stop x l):=by
 unfold stop
 split
 ·exact fh _
 ·exact fO (by omega) _
theorem Aq (b:Bool) (l:List aj):NZ (clause b l):=by
 unfold clause
 split
 ·split
  ·cases hq:term 8 l with
   | inl e=>intro x hx;cases hx;exact nz_term 8 _ e hq
   | inr q=>
    dsimp only
    split
    ·cases h2:body q.2.tail with
     | inl e=>intro x hx;cases hx;exact Pc _ e h2
     | inr q2=>exact E4 _ _
    ·exact E4 _ _
  ·exact fO (by omega) _
 ·exact fO (by omega) _
theorem nz_prog:∀(k:Nat) (l:List aj),NZ (prog k l):=by
 intro k
 induction k with
 | zero=>
  intro l
  unfold prog
  split
  ·exact fh _
  ·cases hq:clause false l with
   | inl e=>intro x hx;cases hx;exact Aq _ _ e hq
   | inr q=>exact fh _
 | succ k ih=>
  intro l
  unfold prog
  split
  ·exact fh _
  ·cases hq:clause true l with
   | inl e=>intro x hx;cases hx;exact Aq _ _ e hq
   | inr q=>
    dsimp only
    cases h2:prog k q.2 with
    | inl e=>intro x hx;cases hx;exact ih _ e h2
    | inr q2=>exact fh _
def jA (t:Tm):Nat:=size (pR 8 0 t)
theorem rY {l l1:List aj} {t:Tm} (h:term 8 l= .inr (t,l1)):jA t+l1.length≤l.length:=by
 obtain⟨c,h1,h2⟩:=Ha 0 8 l t l1 h
 have:=h2.2
 rw[subs_len]at this
 unfold jA
 omega
def Ar (x:aH):Nat:=jA x.left+x.right.elim 0 jA+x.last.elim 0 jA
theorem gM {l:List aj} {g:List UInt8} (h:sees l g=true):(hd l).text.toList=g:=by
 unfold sees at h
 simp only[Bool.and_eq_true,beq_iff_eq]at h
 exact h.2
theorem AH {l:List aj} (h:bF l=true):((hd l).text.toList=[61,61]∨(hd l).text.toList=[92,61]∨(hd l).text.toList=[61,60]∨(hd l).text.toList=[60])∧l.length=l.tail.length+1:=by
 unfold bF at h
 simp only[Bool.or_eq_true]at h
 rcases h with((h | h) | h) | h
 ·exact⟨Or.inr (Or.inr (Or.inr (gM h))),dP h⟩
 ·exact⟨Or.inr (Or.inr (Or.inl (gM h))),dP h⟩
 ·exact⟨Or.inl (gM h),dP h⟩
 ·exact⟨Or.inr (Or.inl (gM h)),dP h⟩
theorem AJ {l:List aj} (h:gQ l=true):(hd l).text.toList.length=1∧l.length=l.tail.length+1:=by
 unfold gQ at h
 simp only[Bool.or_eq_true]at h
 rcases h with(h | h) | h
 ·exact⟨by rw[gM h];rfl,dP h⟩
 ·exact⟨by rw[gM h];rfl,dP h⟩
 ·exact⟨by rw[gM h];rfl,dP h⟩
theorem yg {l l1:List aj} {t:Tm} (h:operand l= .inr (t,l1)):wfK 8 t∧jA t+l1.length≤l.length:=by
 unfold operand at h
 split at h
 ·cases h
 ·exact⟨wfK_term 8 l t l1 h,rY h⟩
theorem Dg {t:Tm} {b:Bool} {l l2:List aj} {x:aH} (h:sides t b l= .inr (x,l2)):b=true∧∃r,x=⟨t,(hd l).text.toList,some r,[],none⟩∧wfK 8 r∧jA r+l2.length≤l.tail.length:=by
 unfold sides at h
 split at h
 ·rename_i hb
  cases hq:term 8 l.tail with
  | inl e=>rw[hq]at h;cases h
  | inr q=>
   obtain⟨r,l3⟩:=q
   rw[hq]at h
   cases h
   exact⟨hb,r,rfl,wfK_term 8 _ r _ hq,rY hq⟩
 ·cases h
theorem JY {t:Tm} {b:Bool} {l l2:List aj} {x:aH} (h:assignment t b l= .inr (x,l2)):b=true∧∃r,wfK 8 r∧((x=⟨t,(hd l).text.toList,some r,[],none⟩∧jA r+l2.length≤l.tail.length)∨∃o z,o.length=1∧wfK 8 z∧x=⟨t,(hd l).text.toList,some r,o,some z⟩∧jA r+jA z+l2.length≤l.tail.length):=by
 unfold assignment at h
 split at h
 ·rename_i hb
  cases hq:operand l.tail with
  | inl e=>rw[hq]at h;cases h
  | inr q=>
   obtain⟨r,l3⟩:=q
   rw[hq]at h
   dsimp only at h
   obtain⟨w1,s1⟩:=yg hq
   split at h
   ·rename_i ho
    obtain⟨o1,o2⟩:=AJ ho
    cases jz:operand l3.tail with
    | inl e=>rw[jz]at h;cases h
    | inr q2=>
     obtain⟨z,l4⟩:=q2
     rw[jz]at h
     cases h
     obtain⟨w2,s2⟩:=yg jz
     exact⟨hb,r,w1,Or.inr ⟨_,z,o1,w2,rfl,by omega⟩⟩
   ·cases h
    exact⟨hb,r,w1,Or.inl ⟨rfl,s1⟩⟩
 ·cases h
theorem E5 {a b t1 g1:Bool} {l l1:List aj} {x:aH} (h:item a b l= .inr ((x,t1,g1),l1)):(t1=true→a=true∧iL x)∧(g1=true→b=true∧jf x)∧(a=false→b=true→g1=true)∧Ar x+l1.length≤l.length:=by
 unfold item at h
 cases hq:term 8 l with
 | inl e=>rw[hq]at h;cases h
 | inr q=>
  obtain⟨t,l2⟩:=q
  rw[hq]at h
  dsimp only at h
  have wt:=wfK_term 8 l t l2 hq
  have st:=rY hq
  split at h
  ·rename_i hs
   obtain⟨s1,s2⟩:=AH hs
   cases h2:sides t a l2 with
   | inl e=>rw[h2]at h;cases h
   | inr q2=>
    obtain⟨y,l3⟩:=q2
    rw[h2]at h
    obtain⟨ha,r,rfl,wr,sr⟩:=Dg h2
    cases h
    refine⟨fun _=>⟨ha,⟨wt,(fun r' q=>by cases q;exact wr),(fun q=>by cases q),(fun r' q=>by cases q;exact s1),rfl⟩⟩,(fun q=>by cases q),(fun q=>by rw[ha]at q;cases q),?_⟩
    show jA t+jA r+0+l1.length≤l.length
    omega
  ·split at h
   ·rename_i hs
    have s1:=gM hs
    have s2:=dP hs
    cases h2:sides t b l2 with
    | inl e=>rw[h2]at h;cases h
    | inr q2=>
     obtain⟨y,l3⟩:=q2
     rw[h2]at h
     obtain⟨hb,r,rfl,wr,sr⟩:=Dg h2
     cases h
     refine⟨(fun q=>by cases q),fun _=>⟨hb,⟨⟨wt,fun q=> ?_,fun _=>⟨r,rfl,wr⟩,fun _=>rfl,fun q=>absurd rfl q,fun q=>absurd rfl q⟩,Or.inr (Or.inl s1),fun q=> ?_,fun q=>absurd rfl q,by simp⟩⟩,fun _ q=>q,?_⟩
     ·change (hd l2).text.toList=[]at q;rw[s1]at q;cases q
     ·change (hd l2).text.toList=[]at q;rw[s1]at q;cases q
     ·show jA t+jA r+0+l1.length≤l.length
      omega
   ·split at h
    ·rename_i hs
     have s1:=gM hs.2
     have s2:=dP hs.2
     cases h2:assignment t b l2 with
     | inl e=>rw[h2]at h;cases h
     | inr q2=>
      obtain⟨y,l3⟩:=q2
      rw[h2]at h
      obtain⟨hb,r,wr,hx⟩:=JY h2
      cases h
      rcases hx with⟨rfl,sr⟩ | ⟨o,z,ho,wz,rfl,sr⟩
      ·refine⟨(fun q=>by cases q),fun _=>⟨hb,⟨⟨wt,fun q=> ?_,fun _=>⟨r,rfl,wr⟩,fun _=>rfl,fun q=>absurd rfl q,fun q=>absurd rfl q⟩,Or.inr (Or.inr s1),fun q=> ?_,fun q=>absurd rfl q,by simp⟩⟩,fun _ q=>q,?_⟩
       ·change (hd l2).text.toList=[]at q;rw[s1]at q;cases q
       ·change (hd l2).text.toList=[]at q;rw[s1]at q;cases q
       ·show jA t+jA r+0+l1.length≤l.length
        omega
      ·refine⟨(fun q=>by cases q),fun _=>⟨hb,⟨⟨wt,fun q=> ?_,fun _=>⟨r,rfl,wr⟩,fun q=> ?_,fun _=>⟨z,rfl,wz⟩,fun _ q=> ?_⟩,Or.inr (Or.inr s1),fun q=> ?_,fun _=>s1,by show o.length≤2;omega⟩⟩,fun _ q=>q,?_⟩
       ·change (hd l2).text.toList=[]at q;rw[s1]at q;cases q
       ·change o=[]at q;rw[q]at ho;cases ho
       ·change (hd l2).text.toList=[]at q;rw[s1]at q;cases q
       ·change (hd l2).text.toList=[]at q;rw[s1]at q;cases q
       ·show jA t+jA r+jA z+l1.length≤l.length
        omega
    ·split at h
     ·rename_i hk
      cases h
      refine⟨fun q=> ?_,fun q=>⟨q,⟨⟨wt,fun _=>rfl,fun q=>absurd rfl q,fun _=>rfl,fun q=>absurd rfl q,fun q=>absurd rfl q⟩,Or.inl rfl,fun _=>hk.1,fun q=>absurd rfl q,by simp⟩⟩,fun _ q=>q,?_⟩
      ·simp only[Bool.and_eq_true]at q
       refine⟨q.1,⟨wt,(fun r q=>by cases q),fun _=>⟨rfl,hk.1,?_⟩,(fun r q=>by cases q),rfl⟩⟩
       have:=q.2
       unfold isInt at this
       simp only[Bool.and_eq_true,beq_iff_eq]at this
       exact this.2
      ·show jA t+0+0+l1.length≤l.length
       omega
     ·cases h
def oF (xs:List aH):Nat:=(xs.map Ar).sum
theorem items_is:∀(k:Nat) (a b t1 g1:Bool) (l l1:List aj) (xs:List aH),items k a b l= .inr ((xs,t1,g1),l1)→(t1=true→a=true∧∀x∈xs,iL x)∧(g1=true→b=true∧∀x∈xs,jf x)∧(a=false→b=true→g1=true)∧oF xs+l1.length≤l.length∧xs.length≤k+1:=by
 intro k
 induction k with
 | zero=>
  intro a b t1 g1 l l1 xs h
  unfold items at h
  cases hq:item a b l with
  | inl e=>rw[hq]at h;cases h
  | inr q=>
   obtain⟨⟨x,t2,g2⟩,l2⟩:=q
   rw[hq]at h
   dsimp only at h
   obtain⟨h1,h2,h3,h4⟩:=E5 hq
   split at h
   ·cases h
   ·cases h
    refine⟨fun q=>⟨(h1 q).1,fun y hy=> ?_⟩,fun q=>⟨(h2 q).1,fun y hy=> ?_⟩,h3,by simpa [oF] using h4,by simp⟩
    ·rw[List.mem_singleton.1 hy];exact(h1 q).2
    ·rw[List.mem_singleton.1 hy];exact(h2 q).2
 | succ k ih=>
  intro a b t1 g1 l l1 xs h
  unfold items at h
  cases hq:item a b l with
  | inl e=>rw[hq]at h;cases h
  | inr q=>
   obtain⟨⟨x,t2,g2⟩,l2⟩:=q
   rw[hq]at h
   dsimp only at h
   obtain⟨h1,h2,h3,h4⟩:=E5 hq
   split at h
   ·rename_i hs
    have s2:=dP hs
    cases jz:items k t2 g2 l2.tail with
    | inl e=>rw[jz]at h;cases h
    | inr q2=>
     obtain⟨⟨ys,t3,g3⟩,l3⟩:=q2
     rw[jz]at h
     cases h
     obtain⟨k1,k2,k3,k4,k5⟩:=ih _ _ _ _ _ _ _ jz
     refine⟨fun q=>⟨(h1 (k1 q).1).1,fun y hy=> ?_⟩,fun q=>⟨(h2 (k2 q).1).1,fun y hy=> ?_⟩,fun qa qb=> ?_,?_,by simp;omega⟩
     ·rcases List.mem_cons.1 hy with rfl | hy
      ·exact(h1 (k1 q).1).2
      ·exact(k1 q).2 y hy
     ·rcases List.mem_cons.1 hy with rfl | hy
      ·exact(h2 (k2 q).1).2
      ·exact(k2 q).2 y hy
     ·refine k3 ?_ (h3 qa qb)
      cases ht:t2 with
      | false=>rfl
      | true=>have:=(h1 ht).1;rw[qa]at this;cases this
     ·have:oF (x :: ys)=Ar x+oF ys:=by simp[oF]
      omega
   ·cases h
    refine⟨fun q=>⟨(h1 q).1,fun y hy=> ?_⟩,fun q=>⟨(h2 q).1,fun y hy=> ?_⟩,h3,by simpa [oF] using h4,by simp⟩
    ·rw[List.mem_singleton.1 hy];exact(h1 q).2
    ·rw[List.mem_singleton.1 hy];exact(h2 q).2
theorem qx (sd:Nat):∀(f:Nat) (t:Tm) (ns:List (List UInt8)),wfK f t→(namesF f ns t).length≤ns.length+size (pR f sd t)
 | f+1,t,ns,hw=>by
  unfold namesF pR bH
  by_cases k3:t.kind=3
  ·rw[if_pos k3,if_pos k3]
   rw[size]
   unfold dK
   split
   ·omega
   ·simp
  ·rw[if_neg k3,if_neg k3]
   by_cases k4:t.kind=4
   ·rw[if_pos k4,if_pos k4];omega
   ·rw[if_neg k4,if_neg k4,size]
    have key:∀(ts:List Tm) (ns:List (List UInt8)),(∀u∈ts,wfK f u)→(ts.foldl (namesF f) ns).length≤ns.length+sizeL (ts.map (bH (fun x=> .v (x,sd)) f)):=by
     intro ts
     induction ts with
     | nil=>intro ns _;simp[sizeL]
     | cons u ts ih=>
      intro ns hu
      have h1:=qx sd f u ns (hu u (by simp))
      have h2:=ih (namesF f ns u) (fun v hv=>hu v (by simp[hv]))
      rw[List.foldl_cons,List.map_cons,sizeL]
      unfold pR at h1
      omega
    have:=key t.args ns hw.2.2.2
    omega
theorem GQ {x:aH} {ns:List (List UInt8)} (hl:wfK 8 x.left) (hr:∀r,x.right=some r→wfK 8 r) (hz:∀z,x.last=some z→wfK 8 z):(aO ns x).length≤ns.length+Ar x:=by
 have h1:=qx 0 8 x.left ns hl
 unfold aO Ar jA
 have nO:∀(o:Option Tm) (ns:List (List UInt8)),(∀r,o=some r→wfK 8 r)→(cq ns o).length≤ns.length+o.elim 0 (fun t=>size (pR 8 0 t)):=fun o ns ho=>by
  cases o with
  | none=>simp[cq]
  | some r=>exact qx 0 8 r ns (ho r rfl)
 have h2:=nO x.right (namesF 8 ns x.left) hr
 have h3:=nO x.last (cq (namesF 8 ns x.left) x.right) hz
 omega
theorem namesL_lsz:∀(xs:List aH) (ns:List (List UInt8)),(∀x∈xs,wfK 8 x.left∧(∀r,x.right=some r→wfK 8 r)∧(∀z,x.last=some z→wfK 8 z))→(aC ns xs).length≤ns.length+oF xs
 | [],ns,_=>by simp[aC,oF]
 | x :: xs,ns,h=>by
  have h0:=h x (by simp)
  have h1:=GQ (ns:=ns) h0.1 h0.2.1 h0.2.2
  have h2:=namesL_lsz xs (aO ns x) (fun y hy=>h y (by simp[hy]))
  rw[qH]
  have:oF (x :: xs)=Ar x+oF xs:=by simp[oF]
  omega
theorem iL.wf {x:aH} (h:iL x):wfK 8 x.left∧(∀r,x.right=some r→wfK 8 r)∧(∀z,x.last=some z→wfK 8 z):=⟨h.wl,h.wr,fun z q=>by rw[h.la]at q;cases q⟩
theorem jf.wf {x:aH} (h:jf x):wfK 8 x.left∧(∀r,x.right=some r→wfK 8 r)∧(∀z,x.last=some z→wfK 8 z):=by
 refine⟨h.ok.wl,fun r q=> ?_,fun z q=> ?_⟩
 ·by_cases k:x.sign=[]
  ·rw[h.ok.r0 k]at q;cases q
  ·obtain⟨r',e,w⟩:=h.ok.r1 k
   rw[e]at q;cases q;exact w
 ·by_cases k:x.op=[]
  ·rw[h.ok.z0 k]at q;cases q
  ·obtain⟨r',e,w⟩:=h.ok.z1 k
   rw[e]at q;cases q;exact w
theorem GR {θ:Vr→U} (h:∀x,size (θ x)=1):∀u,size (sub θ u)=size u:=by
 refine U.ind (fun x=> ?_) (fun k tx num ss ih=> ?_)
 ·rw[sub,h,size]
 ·rw[ek,size,size]
  have key:∀(ss:List U),(∀a∈ss,size (sub θ a)=size a)→sizeL (ss.map (sub θ))=sizeL ss:=by
   intro ss
   induction ss with
   | nil=>intro _;rfl
   | cons a ss ih2=>
    intro hs
    rw[List.map_cons,sizeL,sizeL,hs a (by simp),ih2 (fun b hb=>hs b (by simp[hb]))]
  rw[key ss ih]
theorem yU {η:List UInt8→U} {t:Tm} (hw:wfK 8 t) (ns:List (List UInt8)) (h:∀y∈namesF 8 ns t,size (η y)=1):size (bH η 8 t)=jA t:=by
 rw[iy (θ:=fun y=>if y∈namesF 8 ns t then η y else .v ([],0)) 8 t ns hw (fun y hy=>(if_pos hy).symm),uM _ 0 8 t hw]
 refine GR (fun x=> ?_) _
 split
 ·rename_i q;exact h _ q
 ·rfl
theorem SY {x:aH} {xs:List aH} (h:x∈xs):Ar x≤oF xs:=by
 unfold oF
 induction xs with
 | nil=>cases h
 | cons y ys ih=>
  rw[List.map_cons,List.sum_cons]
  rcases List.mem_cons.1 h with rfl | h
  ·omega
  ·have:=ih h;omega
theorem JZ {f:Nat} {l l1:List aj} {t:Tm} (h:term f l= .inr (t,l1)):t.kind=(hd l).kind:=by
 cases f with
 | zero=>unfold term at h;split at h<;>cases h
 | succ f=>
  unfold term at h
  split at h
  ·split at h
   ·cases h
   ·split at h
    ·rename_i k
     split at h
     ·cases hq:bL (term f) 2 l.tail.tail with
      | inl e=>rw[hq]at h;cases h
      | inr q=>rw[hq]at h;cases h;exact k.symm
     ·cases h;exact k.symm
    ·cases h;rfl
  ·cases h
theorem Pd {l l2:List aj} {ts gs:List aH} (h:body l= .inr ((ts,gs),l2)):(∀x∈ts,iL x)∧(∀x∈gs,jf x)∧ts.length≤6∧gs.length≤6∧oF ts+oF gs+l2.length≤l.length:=by
 unfold body at h
 cases hq:items 5 true true l with
 | inl e=>rw[hq]at h;cases h
 | inr q=>
  obtain⟨⟨xs,t,g⟩,l1⟩:=q
  rw[hq]at h
  dsimp only at h
  obtain⟨h1,h2,h3,h4,h5⟩:=items_is _ _ _ _ _ _ _ _ hq
  split at h
  ·rename_i ht
   have s2:=dP ht.2
   cases jz:items 5 false true l1.tail with
   | inl e=>rw[jz]at h;cases h
   | inr q2=>
    obtain⟨⟨ys,t2,g2⟩,l3⟩:=q2
    rw[jz]at h
    dsimp only at h
    obtain⟨k1,k2,k3,k4,k5⟩:=items_is _ _ _ _ _ _ _ _ jz
    split at h
    ·rename_i hg
     cases h
     exact⟨(h1 ht.1).2,(k2 hg).2,h5,k5,by omega⟩
    ·cases h
  ·split at h
   ·rename_i hg
    cases h
    refine⟨(fun x hx=>by cases hx),(h2 hg).2,by simp,h5,?_⟩
    have:oF []=0:=rfl
    omega
   ·cases h
theorem Au {b:Bool} {l l1:List aj} {c:aJ} (h:clause b l= .inr (c,l1)) (hl:l.length≤1000):b=true∧(c.tests=[]→jN c)∧(∀x∈c.goals,jf x)∧l1.length≤l.length:=by
 unfold clause at h
 split at h
 ·rename_i hk
  split at h
  ·rename_i hb
   cases hq:term 8 l with
   | inl e=>rw[hq]at h;cases h
   | inr q=>
    obtain⟨t,l2⟩:=q
    rw[hq]at h
    dsimp only at h
    have wt:=wfK_term 8 l t l2 hq
    have st:=rY hq
    have kt:=(JZ hq).trans hk
    have hh:(namesF 8 [] t).length≤jA t:=by have:=qx 0 8 t [] wt;simpa [jA] using this
    have stop_is:∀{x:aJ} {l3:List aj},stop x l3= .inr (c,l1)→c=x∧l1.length≤l3.length:=fun {x l3} q=>by
     unfold stop at q
     split at q
     ·cases q
      exact⟨rfl,by rw[List.length_tail];omega⟩
     ·cases q
    split at h
    ·rename_i hs
     have s2:=dP hs
     cases jz:body l2.tail with
     | inl e=>rw[jz]at h;cases h
     | inr q2=>
      obtain⟨⟨ts,gs⟩,l3⟩:=q2
      rw[jz]at h
      obtain⟨k1,k2,k3,k4,k5⟩:=Pd jz
      obtain⟨rfl,jH⟩:=stop_is h
      refine⟨hb,fun h0=>⟨kt,wt,k1,k3,fun x hx=>(k2 x hx).ok,k4,?_,h0⟩,k2,by omega⟩
      have n1:=namesL_lsz ts (namesF 8 [] t) (fun x hx=>(k1 x hx).wf)
      have n2:=namesL_lsz gs (aC (namesF 8 [] t) ts) (fun x hx=>(k2 x hx).wf)
      show (aC (aC (namesF 8 [] t) ts) gs).length≤100000
      omega
    ·obtain⟨rfl,jH⟩:=stop_is h
     refine⟨hb,fun h0=>⟨kt,wt,(fun x hx=>by cases hx),by simp,(fun x hx=>by cases hx),by simp,?_,h0⟩,(fun x hx=>by cases hx),by omega⟩
     show (namesF 8 [] t).length≤100000
     omega
  ·cases h
 ·cases h
theorem prog_is:∀(k:Nat) (l l1:List aj) (cls:List aJ),prog k l= .inr (cls,l1)→l.length≤1000→(∀c∈cls,(c.tests=[]→jN c)∧∀x∈c.goals,jf x)∧cls.length≤k:=by
 intro k
 induction k with
 | zero=>
  intro l l1 cls h hl
  unfold prog at h
  split at h
  ·cases h
   exact⟨(fun c hc=>by cases hc),by simp⟩
  ·cases hq:clause false l with
   | inl e=>rw[hq]at h;cases h
   | inr q=>
    have:=(Au (c:=q.1) (l1:=q.2) hq hl).1
    cases this
 | succ k ih=>
  intro l l1 cls h hl
  unfold prog at h
  split at h
  ·cases h
   exact⟨(fun c hc=>by cases hc),by simp⟩
  ·cases hq:clause true l with
   | inl e=>rw[hq]at h;cases h
   | inr q=>
    obtain⟨c,l2⟩:=q
    rw[hq]at h
    dsimp only at h
    obtain⟨_,h1,h2,h3⟩:=Au hq hl
    cases jz:prog k l2 with
    | inl e=>rw[jz]at h;cases h
    | inr q2=>
     obtain⟨cs,l3⟩:=q2
     rw[jz]at h
     cases h
     obtain⟨k1,k2⟩:=ih l2 l1 cs jz (by omega)
     refine⟨fun d hd=> ?_,by simp;omega⟩
     rcases List.mem_cons.1 hd with rfl | hd
     ·exact⟨h1,h2⟩
     ·exact k1 d hd
end Zc
namespace Go.Proofs.YthfjnfcekeknlaaGreatDoor
open Go.RowKit
theorem TK {sp:ByteArray} {LP:List Zc.aj} {sq:ByteArray} {LQ:List Zc.aj} (hPl:sp.size≤240→LP.length≤1000) (hQ:Zc.eo sq LQ) (hQh:Zc.hd LQ=Zc.next sq 0) (ht:∀cls l,Zc.prog 12 LP= .inr (cls,l)→∀c∈cls,c.tests=[]):GP sp LP sq LQ:=by
 refine⟨Zc.nz_prog 12 LP,Zc.Mw LQ,fun cls l hs h=>⟨fun c hc=>⟨((Zc.prog_is 12 LP l cls h (hPl hs)).1 c hc).1 (ht cls l h c hc),((Zc.prog_is 12 LP l cls h (hPl hs)).1 c hc).2⟩,(Zc.prog_is 12 LP l cls h (hPl hs)).2⟩,fun ys l hs h=> ?_⟩
 have hlen:LQ.length≤97:=by have:=Zc.eo.len sq.size 0 LQ hQ hQh (by omega);omega
 unfold Zc.query at h
 cases hq:Zc.items 5 false true LQ with
 | inl e=>rw[hq]at h;cases h
 | inr q=>
  obtain⟨⟨xs,t,g⟩,l1⟩:=q
  rw[hq]at h
  dsimp only at h
  obtain⟨h1,h2,h3,h4,h5⟩:=Zc.items_is _ _ _ _ _ _ _ _ hq
  split at h
  ·cases h
   have dM:=(h2 (h3 rfl rfl)).2
   have hn:=Zc.namesL_lsz ys [] (fun x hx=>(dM x hx).wf)
   simp only[List.length_nil,Nat.zero_add]at hn
   refine⟨dM,h5,by omega,fun x hx η hη=> ?_⟩
   have hi:=Zc.SY hx
   have wf:=(dM x hx).wf
   obtain⟨ns',hs'⟩:=Zc.fz ys [] x hx
   unfold Zc.Ar at hi
   have eL:∀y∈Zc.namesF 8 ns' x.left,Zc.size (η y)=1:=fun y hy=>hη y (hs' y (by
    obtain⟨K1,e1⟩:=lQ x.right (Zc.namesF 8 ns' x.left)
    obtain⟨K2,e2⟩:=lQ x.last (Zc.cq (Zc.namesF 8 ns' x.left) x.right)
    unfold Zc.aO
    rw[e2,e1]
    simp[hy]))
   refine⟨by rw[Zc.yU wf.1 ns' eL];omega,fun r q=> ?_,fun z q=> ?_⟩
   ·rw[Zc.yU (wf.2.1 r q) (Zc.namesF 8 ns' x.left) (fun y hy=>hη y (hs' y (by
     obtain⟨K2,e2⟩:=lQ x.last (Zc.cq (Zc.namesF 8 ns' x.left) x.right)
     unfold Zc.aO
     rw[e2,q]
     exact List.mem_append_left _ hy)))]
    rw[q]at hi
    simp only[Option.elim]at hi
    omega
   ·rw[Zc.yU (wf.2.2 z q) (Zc.cq (Zc.namesF 8 ns' x.left) x.right) (fun y hy=>hη y (hs' y (by
     unfold Zc.aO
     rw[q]
     exact hy)))]
    rw[q]at hi
    simp only[Option.elim]at hi
    omega
  ·cases h
end Go.Proofs.YthfjnfcekeknlaaGreatDoor
namespace Go.Proofs.YthfjnfcekeknlaaGreatDoor
open Go.RowKit
open Zc (U Vr aJ)
def Dh (w:World) (b:Nat) (R:Value) (en:Int) (log:List Int) (vals gols:List (List UInt8)) (wts:List Bool):Prop:=
 ∃(lo:Option Addr) (lc:Nat) (xo:Option Addr) (xc:Nat) (go:Option Addr) (gc:Nat) (yo:Option Addr) (yc:Nat),R= .agg #[.int .i64 en,.slice lo log.length lc,.slice xo vals.length xc,.slice go gols.length gc,.slice yo wts.length yc]∧w.ownsRow b 3 1 (.slice lo log.length lc) log.length (log.map fX)∧w.ownsRow b 9 1 (.slice xo vals.length xc) vals.length (vals.map iH)∧w.ownsRow b 9 1 (.slice go gols.length gc) gols.length (gols.map iH)∧w.ownsRow b 4 1 (.slice yo wts.length yc) wts.length (wts.map fun b=> .bool b)∧(∀k,rowOf xo k→¬rowOf go k)
theorem Pe {cls:List aJ} {F:List Nat} {script:List (Int×Int)} {S0:b8} {b:Nat} {R:Value} {w':World} (aF:∀c∈cls,Zc.jN c) (h0:yb F S0) (h:ur cls F script S0 b (.returned R) w'):∃en log vals gols wts,Zc.rW cls script (jv F S0) en log vals gols wts∧Dh w' b R en log vals gols wts:=by
 obtain⟨j,S,L,lo,lc,h1,⟨h2,xo,xc,go,gc,yo,yc,h3,h4,h5,h6,h7,h8⟩ | ⟨pg,pc,i,en,z,h2,h3,h4,h5,h6⟩⟩:=h
 ·obtain⟨m1,m2⟩:=De aF h0 h1
  refine⟨_,L,(eP S.T F).1,(kJ S.T (eP S.T F).2 S.G).1,S.G.map (fun g=> !fU S.fr g),⟨j,_,L,m1,Or.inl ⟨by rw[vu];exact h2,(O9 F S).symm,rfl,?_,?_,?_⟩⟩,⟨lo,lc,xo,xc,go,gc,yo,yc,?_,h4,?_,?_,?_,h8⟩⟩
  ·show _=(Zc.kK (F.map S.T)).1
   rw[EZ]
  ·show _=(Zc.wT (Zc.kK (F.map S.T)).2 (jv F S).gs).1
   rw[EZ,Pa m2]
  ·show _=(S.G.map _).map _
   rw[List.map_map]
   rfl
  ·injection h3 with h3
   rw[h3,CR,CS,List.length_map]
  ·rw[CR];exact h5
  ·rw[CS];exact h6
  ·rw[List.length_map,List.map_map];exact h7
 ·obtain⟨m1,m2⟩:=De aF h0 h1
  refine⟨en,L++[z],[],[],[],⟨j,_,L,m1,Or.inr ⟨pg,pc,i,z,h2,by rw[vu];exact h3,?_,rfl,rfl,rfl,rfl⟩⟩,⟨lo,lc,none,0,none,0,none,0,?_,h6,World.ownsRow_nil _ _ _ _,World.ownsRow_nil _ _ _ _,World.ownsRow_nil _ _ _ _,(fun k ⟨_,q,_⟩=>by cases q)⟩⟩
  ·rcases h4 with⟨k1,_,k3⟩ | ⟨k1,S',k2,k3⟩
   ·exact Or.inl ⟨Mv aF m2 k1,k3⟩
   ·obtain⟨q1,q2⟩:=C8 aF m2 k2
    exact Or.inr ⟨k1,_,q1,by rw[EY q2];exact k3⟩
  ·injection h5
def SZ (sp:ByteArray) (LP:List Zc.aj) (sq:ByteArray) (LQ:List Zc.aj) (script:List (Int×Int)) (w:World) (e:Ending) (w':World):Prop:=
 (∃er:Nat,er≠0∧er=(if kA sp LP≠0 then kA sp LP else if 100<script.length then 1 else mD sq LQ)∧e= .returned (.tuple #[.agg #[.int .i64 0,.slice none 0 0,.slice none 0 0,.slice none 0 0,.slice none 0 0],.int .i64 (er:Int)])∧Below w.heap.size w w')∨
 (kA sp LP=0∧script.length≤100∧mD sq LQ=0∧∃(cls:List aJ) (l1:List Zc.aj) (ys:List Zc.aH) (l2:List Zc.aj) (R:Value),Zc.prog 12 LP= .inr (cls,l1)∧Zc.query LQ= .inr (ys,l2)∧(∀c∈cls,Zc.jN c)∧(∀x∈ys,Zc.jf x)∧e= .returned (.tuple #[R,.int .i64 0])∧Below w.heap.size w w'∧∃(r:Nat→Nat) (P:Nat→Prop) (S0:Zc.MS) (en:Int) (log:List Int) (vals gols:List (List UInt8)) (wts:List Bool),Zc.eQ r P (Zc.jP 1 (Zc.aC [] ys) ys) S0∧Zc.rW cls script S0 en log vals gols wts∧Dh w' w.heap.size R en log vals gols wts)
theorem Pf {sp:ByteArray} {LP:List Zc.aj} {sq:ByteArray} {LQ:List Zc.aj} {script:List (Int×Int)} {w:World} {e:Ending} {w':World} (aF:GP sp LP sq LQ) (h:SQ sp LP sq LQ script w e w'):SZ sp LP sq LQ script w e w':=by
 rcases h with h | ⟨h1,h2,h3,cls,l1,ys,l2,F,S0,R,h4,h5,h6,h7,h8,h9⟩
 ·exact Or.inl h
 ·have hsp:sp.size≤240:=by
   unfold kA at h1
   split at h1
   ·cases h1
   ·omega
  have Yz:sq.size≤96:=by
   unfold mD at h3
   split at h3
   ·cases h3
   ·omega
  have hk:∀c∈cls,Zc.jN c:=fun c hc=>((aF.p cls l1 hsp h4).1 c hc).1
  have hy:=(aF.q ys l2 Yz h5).1
  obtain⟨p1,p2⟩:=JW h6 hy
  obtain⟨en,log,vals,gols,wts,q1,q2⟩:=Pe hk p1 h8
  exact Or.inr ⟨h1,h2,h3,cls,l1,ys,l2,R,h4,h5,hk,hy,h7,h9,_,_,_,en,log,vals,gols,wts,p2,q1,q2⟩
theorem SZ.ends {sp:ByteArray} {LP:List Zc.aj} {sq:ByteArray} {LQ:List Zc.aj} {script:List (Int×Int)} {w:World} {e:Ending} {w':World} (h:SZ sp LP sq LQ script w e w') {cls:List aJ} {l1:List Zc.aj} {ys:List Zc.aH} {l2:List Zc.aj} (hp:kA sp LP=0) (hs:script.length≤100) (hq:mD sq LQ=0) (hc:Zc.prog 12 LP= .inr (cls,l1)) (hy:Zc.query LQ= .inr (ys,l2)) {en:Int} {log:List Int} {vals gols:List (List UInt8)} {wts:List Bool} (he:Zc.rW cls script (Zc.jP 1 (Zc.aC [] ys) ys) en log vals gols wts):∃R,e= .returned (.tuple #[R,.int .i64 0])∧Dh w' w.heap.size R en log vals gols wts∧Below w.heap.size w w':=by
 rcases h with⟨er,h1,h2,_⟩ | ⟨h1,h2,h3,cls',l1',ys',l2',R,h4,h5,hk,hg,h7,h9,r,P,S0,en',log',vals',gols',wts',q1,q2,q3⟩
 ·exfalso
  rw[hp,hq]at h2
  rw[if_neg (by simp),if_neg (by omega)]at h2
  exact h1 h2
 ·rw[hc]at h4
  rw[hy]at h5
  cases h4
  cases h5
  obtain⟨rfl,rfl,rfl,rfl,rfl⟩:=he.same hk q1 q2
  exact⟨R,h7,q3,h9⟩
end Go.Proofs.YthfjnfcekeknlaaGreatDoor
namespace Zc
open Go.Proofs.YthfjnfcekeknlaaGreatDoor (dE)
def vn (k:Nat):U:= .v ([],k)
def jB (d:Nat):U:= .n 3 [] (d:Int) []
def nlU:U:= .n 1 [110] 0 []
def jC (h t:U):U:= .n 1 [99] 0 [h,t]
def lsU:List Nat→U
 | []=>nlU
 | d :: l=>jC (jB d) (lsU l)
def vX (u:U):Prop:=∀x,¬has x u
theorem vX.sub {u:U} (h:vX u) (σ:Vr→U):sub σ u=u:=by
 rw[sub_congr (τ:= .v) u (fun x hx=>absurd hx (h x)),sub_self]
theorem Di {x:Vr} {d:Nat} {t:U}:has x (jC (jB d) t)↔has x t:=by
 unfold jC jB
 simp[has,sN]
theorem gnd_ls:∀l,vX (lsU l)
 | []=>fun x h=>by unfold lsU nlU at h;simp[has,sN]at h
 | d :: l=>fun x h=>gnd_ls l x (Di.1 h)
theorem J0 (σ:Vr→U) (d:Nat) (t:U):sub σ (jC (jB d) t)=jC (jB d) (sub σ t):=by
 unfold jC jB
 simp[sub,A4]
theorem yV (d:Nat) (t:U):size (jC (jB d) t)=size t+2:=by
 unfold jC jB
 simp[size,sizeL]
 omega
theorem size_ls:∀l,size (lsU l)=2*l.length+1
 | []=>by unfold lsU nlU;simp[size,sizeL]
 | d :: l=>by rw[lsU,yV,size_ls l,List.length_cons];omega
theorem pK (σ:Vr→U) (k:Nat):sub σ (vn k)=σ ([],k):=rfl
theorem uB (x:Vr) (b:U):one x b x=b:=by unfold one;rw[if_pos rfl]
theorem rq {x y:Vr} (b:U) (h:y≠x):one x b y= .v y:=by unfold one;rw[if_neg h]
theorem A0 {i j:Nat} (h:i≠j):(([],i):Vr)≠([],j):=fun q=>h (congrArg Prod.snd q)
theorem Mx {k:Nat} {t:U} (hn:¬has ([],k) t) (ht:∀y,t≠ .v y):fG (vn k) t (one ([],k) t):=by
 refine⟨?_,fun θ h x=> ?_,fun x y h=> ?_⟩
 ·rw[pK,uB];exact(G0 hn).symm
 ·by_cases q:x=([],k)
  ·rw[q,uB];exact h.symm
  ·rw[rq _ q];rfl
 ·by_cases q:x=([],k)
  ·rw[q,uB]at h;exact absurd h (ht y)
  ·rw[rq _ q]at h
   injection h with h
   rw[h];exact⟨rfl,Nat.le_refl _⟩
def MG.rd (a:U) (sg:List UInt8) (b:U) (op:List UInt8) (c:U):MG:=⟨a,sg,b,op,c,false,fun _=>False⟩
theorem J1 (σ:Vr→U) (a:U) (sg:List UInt8) (b:U) (op:List UInt8) (c:U):(MG.rd a sg b op c).put σ=MG.rd (sub σ a) sg (sub σ b) op (sub σ c):=by
 have h:¬(MG.rd a sg b op c).stays σ:=fun q=>by cases q.1
 unfold MG.put
 have e1:@decide ((MG.rd a sg b op c).stays σ) (Classical.propDecidable _)=false:=@decide_eq_false _ (_) h
 have e2:(fun v=>(MG.rd a sg b op c).stays σ∧(MG.rd a sg b op c).on v)=fun _=>False:=funext fun v=>propext ⟨fun q=>h q.1,fun q=>q.elim⟩
 rw[e1,e2]
 rfl
theorem J2 (σ:Vr→U):sub σ zU=zU:=rfl
def ed (D:Nat→Bool) (fin:Option U):List Nat→Nat→U
 | [],i=>match fin with
  | some u=>if D i=true then u else vn (1+i)
  | none=>vn (1+i)
 | h :: t,i=>if D i=true then jC (jB h) (ed D fin t (i+1))else vn (1+i)
theorem pL {D:Nat→Bool} {fin:Option U} {i:Nat} (h:D i=false):∀l,ed D fin l i=vn (1+i)
 | []=>by unfold ed;cases fin with
  | none=>rfl
  | some u=>show (if D i=true then u else vn (1+i))=_;rw[h];rfl
 | d :: t=>by unfold ed;rw[h];rfl
theorem xg {D:Nat→Bool} (d:Nat):∀(l:List Nat) (i:Nat),D (i+l.length)=false→ed D none (l++[d]) i=ed D none l i
 | [],i,h=>by
  rw[List.nil_append,pL (by simpa using h),pL (by simpa using h)]
 | c :: t,i,h=>by
  rw[List.cons_append,ed,ed,xg d t (i+1) (by rw[←h];congr 1;simp;omega)]
theorem yX {D:Nat→Bool} (u:U):∀(l:List Nat) (i:Nat),D (i+l.length)=false→ed D (some u) l i=ed D none l i
 | [],i,h=>by
  rw[pL (by simpa using h),pL (by simpa using h)]
 | c :: t,i,h=>by
  rw[ed,ed,yX u t (i+1) (by rw[←h];congr 1;simp;omega)]
theorem xh {D:Nat→Bool} {fin:Option U} {B:Nat} (hB:1≤B) (hf:∀u,fin=some u→size u≤B):∀(l:List Nat) (i:Nat),size (ed D fin l i)≤2*l.length+B
 | [],i=>by
  unfold ed
  cases fin with
  | none=>show size (vn _)≤_;unfold vn;rw[size];omega
  | some u=>
   have:=hf u rfl
   show size (if D i=true then u else vn (1+i))≤_
   split
   ·omega
   ·unfold vn;rw[size];omega
 | d :: t,i=>by
  have:=xh (D:=D) hB hf t (i+1)
  rw[ed,List.length_cons]
  split
  ·rw[yV];omega
  ·unfold vn;rw[size];omega
theorem E6 {D:Nat→Bool} {fin:Option U} (hf:∀u,fin=some u→vX u) {x:Vr}:∀(l:List Nat) (i:Nat),has x (ed D fin l i)→∃k,i≤k∧k≤i+l.length∧x=([],1+k)∧D k=false∨(k=i+l.length∧fin=none∧x=([],1+k)∧i≤k)
 | [],i,h=>by
  unfold ed at h
  cases fin with
  | none=>
   have h':has x (vn (1+i)):=h
   exact⟨i,Or.inr ⟨rfl,rfl,(show ([],1+i)=x from h').symm,Nat.le_refl _⟩⟩
  | some u=>
   have h':has x (if D i=true then u else vn (1+i)):=h
   by_cases q:D i=true
   ·rw[if_pos q]at h';exact absurd h' (hf u rfl x)
   ·rw[if_neg q]at h'
    exact⟨i,Or.inl ⟨Nat.le_refl _,Nat.le_refl _,(show ([],1+i)=x from h').symm,by simpa using q⟩⟩
 | d :: t,i,h=>by
  rw[ed]at h
  by_cases q:D i=true
  ·rw[if_pos q]at h
   obtain⟨k,h1 | h1⟩:=E6 hf t (i+1) (Di.1 h)
   ·exact⟨k,Or.inl ⟨by omega,by rw[List.length_cons];omega,h1.2.2⟩⟩
   ·exact⟨k,Or.inr ⟨by rw[List.length_cons];omega,h1.2.1,h1.2.2.1,by omega⟩⟩
  ·rw[if_neg q]at h
   exact⟨i,Or.inl ⟨Nat.le_refl _,by omega,(show ([],1+i)=x from h).symm,by simpa using q⟩⟩
def ld (D:Nat→Bool) (k:Nat):Nat→Bool:=fun i=>D i||i == k
theorem xi (D:Nat→Bool) (k:Nat):ld D k k=true:=by simp[ld]
theorem nt {D:Nat→Bool} {k i:Nat} (h:i≠k):ld D k i=D i:=by simp[ld,h]
theorem J3 {D:Nat→Bool} {fin:Option U} {k:Nat}:∀(l:List Nat) (i:Nat),k<i→ed (ld D k) fin l i=ed D fin l i
 | [],i,h=>by
  unfold ed
  rw[nt (by omega)]
 | d :: t,i,h=>by
  rw[ed,ed,nt (by omega),J3 t (i+1) (by omega)]
def rhs (D:Nat→Bool) (fin:Option U) (hs:List Nat) (k:Nat):U:=match hs[k]? with
 | some h=>jC (jB h) (ed D fin (hs.drop (k+1)) (k+1))
 | none=>fin.getD zU
theorem fR {D:Nat→Bool} {fin:Option U} {hs:List Nat} {k:Nat} (h:k<hs.length):rhs D fin hs k=jC (jB hs[k]) (ed D fin (hs.drop (k+1)) (k+1)):=by unfold rhs;rw[List.getElem?_eq_getElem h]
theorem jX {D:Nat→Bool} {u:U} {hs:List Nat} {k:Nat} (h:hs.length≤k):rhs D (some u) hs k=u:=by unfold rhs;rw[List.getElem?_eq_none h];rfl
def isEq (fin:Option U) (hs:List Nat) (k:Nat):Prop:=k<hs.length∨(k=hs.length∧fin≠none)
theorem J4 {D:Nat→Bool} {fin:Option U} {hs:List Nat} {k:Nat} (h:isEq fin hs k) (hd:D k=true):ed D fin (hs.drop k) k=rhs D fin hs k:=by
 rcases h with h | ⟨h,hf⟩
 ·rw[fR h,List.drop_eq_getElem_cons h,ed,if_pos hd]
 ·cases fin with
  | none=>exact absurd rfl hf
  | some u=>
   rw[jX (by omega),List.drop_eq_nil_of_le (by omega),ed]
   show (if D k=true then u else vn (1+k))=u
   rw[if_pos hd]
theorem Pg {D:Nat→Bool} {fin:Option U} {hs:List Nat} {k:Nat} (hf:∀u,fin=some u→vX u) (h:isEq fin hs k):¬has ([],1+k) (rhs D fin hs k):=fun q=>by
 rcases h with h | ⟨h,hf'⟩
 ·rw[fR h]at q
  obtain⟨j,h1 | h1⟩:=E6 hf _ _ (Di.1 q)
  ·have:=congrArg Prod.snd h1.2.2.1
   have:1+k=1+j:=this
   omega
  ·have:=congrArg Prod.snd h1.2.2.1
   have:1+k=1+j:=this
   omega
 ·cases fin with
  | none=>exact absurd rfl hf'
  | some u=>
   rw[jX (by omega)]at q
   exact hf u rfl _ q
theorem S3 {D:Nat→Bool} {fin:Option U} {hs:List Nat} {k:Nat} (hf:∀u,fin=some u→∀y,u≠ .v y) (h:isEq fin hs k):∀y,rhs D fin hs k≠ .v y:=fun y q=>by
 rcases h with h | ⟨h,hf'⟩
 ·rw[fR h]at q;cases q
 ·cases fin with
  | none=>exact absurd rfl hf'
  | some u=>
   rw[jX (by omega)]at q
   exact hf u rfl _ q
theorem E7 {D:Nat→Bool} {fin:Option U} {hs:List Nat} {k:Nat} (hf:∀u,fin=some u→vX u) (hk:isEq fin hs k) (hd:D k=false):∀(n i:Nat),hs.length - i=n→i≤hs.length→sub (one ([],1+k) (rhs D fin hs k)) (ed D fin (hs.drop i) i)=ed (ld D k) fin (hs.drop i) i:=by
 intro n
 induction n with
 | zero=>
  intro i hn hi
  obtain rfl:i=hs.length:=by omega
  rw[List.drop_length]
  by_cases q:hs.length=k
  ·subst q
   rw[pL hd,pK,uB]
   have:=J4 (D:=ld D hs.length) hk (xi _ _)
   rw[List.drop_length]at this
   rw[this]
   rcases hk with hk | ⟨_,hf'⟩
   ·omega
   ·cases fin with
    | none=>exact absurd rfl hf'
    | some u=>rw[jX (Nat.le_refl _),jX (Nat.le_refl _)]
  ·unfold ed
   rw[nt q]
   cases fin with
   | none=>show sub _ (vn _)=vn _;rw[pK,rq _ (A0 (by omega))];rfl
   | some u=>
    show sub _ (if D _=true then u else vn _)=if D _=true then u else vn _
    split
    ·exact(hf u rfl).sub _
    ·rw[pK,rq _ (A0 (by omega))];rfl
 | succ n ih=>
  intro i hn hi
  have hl:i<hs.length:=by omega
  have ih':=ih (i+1) (by omega) (by omega)
  by_cases q:i=k
  ·subst q
   rw[pL hd,pK,uB,J4 hk (xi _ _),fR hl,fR hl,J3 _ _ (by omega)]
  ·rw[List.drop_eq_getElem_cons hl,ed,ed,nt q]
   split
   ·rw[J0,ih']
   ·rw[pK,rq _ (A0 (by omega))];rfl
theorem Ph {D:Nat→Bool} {fin:Option U} {hs:List Nat} {k i:Nat} (hf:∀u,fin=some u→vX u) (hk:isEq fin hs k) (hd:D k=false) (hi:isEq fin hs i):sub (one ([],1+k) (rhs D fin hs k)) (rhs D fin hs i)=rhs (ld D k) fin hs i:=by
 rcases hi with hi | ⟨hi,hf'⟩
 ·rw[fR (k:=i) hi,fR (k:=i) hi,J0,E7 hf hk hd _ (i+1) rfl (by omega)]
 ·cases fin with
  | none=>exact absurd rfl hf'
  | some u=>rw[jX (k:=i) (by omega),jX (k:=i) (by omega)];exact(hf u rfl).sub _
structure gP where
 hs:List Nat
 fin:Option U
 D:Nat→Bool
 its:List (Option Nat)
 call:U
def gP.sL (s:gP):Option Nat→MG
 | some i=>MG.rd (vn (1+i)) [61] (rhs s.D s.fin s.hs i) [] zU
 | none=>MG.rd s.call [] zU [] zU
def gP.st (s:gP) (lim:Nat):MS:=⟨[ed s.D s.fin s.hs 0],s.its.map s.sL,lim⟩
structure gP.ok (s:gP) (c0:Nat):Prop where
 nd:s.its.Nodup
 eq:∀i,some i∈s.its↔isEq s.fin s.hs i∧s.D i=false
 cl:none∈s.its↔s.fin=none
 dn:∀i,s.D i=true→isEq s.fin s.hs i
 gr:∀u,s.fin=some u→vX u∧(∀y,u≠ .v y)∧2*s.hs.length+size u≤21
 hl:s.hs.length≤10
 cg:s.fin=none→∀i,i<s.hs.length→¬has ([],1+i) s.call
 cb:s.fin=none→mC (MG.rd s.call [] zU [] zU)=false
 ln:s.its.length+c0=s.hs.length+1
theorem My {gs:List MG} (h:∀g∈gs,g.wt=false):iq gs=List.range gs.length:=by
 unfold iq
 rw[List.filter_eq_self]
 intro i hi
 have hi':=List.mem_range.1 hi
 rw[List.getElem?_eq_getElem hi']
 show (!(gs[i]).wt)=true
 rw[h _ (List.getElem_mem _)]
 rfl
theorem uh (p:Int) {n:Nat} (h:0<n):dE p n<n:=by
 unfold dE
 rw[if_neg (by omega)]
 have h1:=Int.emod_nonneg p (b:=(n:Int)) (by omega)
 have h2:=Int.emod_lt_of_pos p (b:=(n:Int)) (by omega)
 omega
theorem gP.fU (s:gP) (lim:Nat):iq (s.st lim).gs=List.range s.its.length:=by
 rw[My,show (s.st lim).gs.length=s.its.length from List.length_map ..]
 intro g hg
 obtain⟨o,_,rfl⟩:=List.mem_map.1 hg
 cases o<;>rfl
theorem gP.pick (s:gP) (lim:Nat) (pg:Int) (h:s.its≠[]):dE pg s.its.length<s.its.length∧(iq (s.st lim).gs)[dE pg (iq (s.st lim).gs).length]?=some (dE pg s.its.length):=by
 have h0:0<s.its.length:=List.length_pos_iff.2 h
 have h1:=uh pg h0
 rw[s.fU lim,List.length_range]
 exact⟨h1,by rw[List.getElem?_range h1]⟩
theorem pM {u:U} (h:size u≤40):big u=false:=by unfold big;exact decide_eq_false (by omega)
theorem size_z:size zU=1:=by unfold zU;simp[size,sizeL]
theorem gP.ok.small {s:gP} {c0:Nat} (h:s.ok c0) (lim:Nat):qN (s.st lim)=false:=by
 have hB:∃B,1≤B∧(∀u,s.fin=some u→size u≤B)∧2*s.hs.length+B≤21:=by
  cases hf:s.fin with
  | none=>exact⟨1,Nat.le_refl _,(fun u q=>by cases q),by have:=h.hl;omega⟩
  | some u=>exact⟨size u,size_pos u,(fun v q=>by cases q;exact Nat.le_refl _),(h.gr u hf).2.2⟩
 obtain⟨B,h1,h2,h3⟩:=hB
 have hl:=h.hl
 have hn:=h.ln
 unfold qN
 rw[Bool.or_eq_false_iff,Bool.or_eq_false_iff]
 refine⟨decide_eq_false ?_,?_,?_⟩
 ·show¬24<(s.its.map s.sL).length
  rw[List.length_map];omega
 ·show [ed s.D s.fin s.hs 0].any big=false
  simp only[List.any_cons,List.any_nil,Bool.or_false]
  exact pM (by have:=xh (D:=s.D) h1 h2 s.hs 0;omega)
 ·refine List.any_eq_false.2 fun g hg=> ?_
  obtain⟨o,ho,rfl⟩:=List.mem_map.1 hg
  cases o with
  | none=>rw[show s.sL none=MG.rd s.call [] zU [] zU from rfl,h.cb (h.cl.1 ho)];decide
  | some i=>
   have hi:=((h.eq i).1 ho).1
   have:mC (s.sL (some i))=(big (vn (1+i))||big (rhs s.D s.fin s.hs i)||big zU):=by
    unfold mC
    rw[if_neg (show¬(s.sL (some i)).sg=[]from fun q=>by cases q)]
    rfl
   rw[this,pM (u:=vn (1+i)) (by unfold vn;rw[size];omega),pM (u:=zU) (by rw[size_z];omega),pM]
   ·decide
   ·rcases hi with q | ⟨q,q'⟩
    ·rw[fR q,yV]
     have:=xh (D:=s.D) h1 h2 (s.hs.drop (i+1)) (i+1)
     rw[List.length_drop]at this
     omega
    ·cases hf:s.fin with
     | none=>exact absurd hf q'
     | some u=>rw[jX (by omega)];have:=h2 u hf;omega
theorem yh {α β:Type} (f:α→β):∀(l:List α) (p:Nat),(l.map f).eraseIdx p=(l.eraseIdx p).map f
 | [],p=>by simp
 | a :: l,0=>rfl
 | a :: l,p+1=>by
  rw[List.map_cons,List.eraseIdx_cons_succ,List.eraseIdx_cons_succ,List.map_cons,yh f l p]
theorem qO {α:Type} {l:List α} {p:Nat} {x:α} (h:l.Nodup) (hp:l[p]?=some x):(l.eraseIdx p).Nodup∧∀y,y∈l.eraseIdx p↔y∈l∧y≠x:=by
 obtain⟨hl,rfl⟩:=List.getElem?_eq_some_iff.1 hp
 refine⟨h.sublist (List.eraseIdx_sublist _ _),fun y=>⟨fun q=>⟨List.mem_of_mem_eraseIdx q,?_⟩,fun⟨q1,q2⟩=> ?_⟩⟩
 ·rintro rfl
  obtain⟨j,hj,hne,e⟩:=List.mem_eraseIdx_iff_getElem.1 q
  exact hne ((List.getElem_inj h).1 e)
 ·obtain⟨j,hj,rfl⟩:=List.mem_iff_getElem.1 q1
  exact List.mem_eraseIdx_iff_getElem.2 ⟨j,hj,fun e=>q2 (by subst e;rfl),rfl⟩
theorem gP.ok.solve {s:gP} {c0:Nat} (h:s.ok c0) {p k:Nat} (hp:s.its[p]?=some (some k)) (cls:List aJ) (lim:Nat) (pc:Int):
 ∃s':gP,kZ cls (s.st lim) (s'.st lim) p pc 0∧s'.ok (c0+1)∧s'.hs=s.hs∧s'.fin=s.fin∧s'.call=s.call:=by
 obtain⟨hk,hd⟩:=(h.eq k).1 (List.mem_of_getElem? hp)
 have hf:∀u,s.fin=some u→vX u:=fun u q=>(h.gr u q).1
 obtain⟨n1,n2⟩:=qO h.nd hp
 have hlen:s.its.length=(s.its.eraseIdx p).length+1:=by
  have:=(List.getElem?_eq_some_iff.1 hp).1
  rw[List.length_eraseIdx_of_lt this];omega
 refine⟨⟨s.hs,s.fin,ld s.D k,s.its.eraseIdx p,s.call⟩,⟨Nat.le_refl _,s.sL (some k),?_,Or.inl ⟨rfl,rfl,_,Mx (Pg (D:=s.D) hf hk) (S3 (fun u q=>(h.gr u q).2.1) hk),?_,?_⟩⟩,?_,rfl,rfl,rfl⟩
 ·show (s.its.map s.sL)[p]?=_
  rw[List.getElem?_map,hp];rfl
 ·show [ed (ld s.D k) s.fin s.hs 0]=[ed s.D s.fin s.hs 0].map (sub (one ([],1+k) (rhs s.D s.fin s.hs k)))
  rw[List.map_cons,List.map_nil]
  have:=E7 hf hk hd _ 0 rfl (Nat.zero_le _)
  rw[List.drop_zero]at this
  rw[this]
 ·show (s.its.eraseIdx p).map _=((s.its.map s.sL).eraseIdx p).map (MG.put (one ([],1+k) (rhs s.D s.fin s.hs k)))
  rw[yh,List.map_map]
  refine List.map_congr_left fun o ho=> ?_
  obtain⟨o1,o2⟩:=(n2 o).1 ho
  cases o with
  | none=>
   show MG.rd s.call [] zU [] zU=(MG.rd s.call [] zU [] zU).put _
   rw[J1,J2]
   have hfn:=h.cl.1 o1
   congr 1
   have:¬has ([],1+k) s.call:=h.cg hfn k (by
    rcases hk with q | ⟨_,q⟩
    ·exact q
    ·exact absurd hfn q)
   exact(G0 this).symm
  | some i=>
   have hik:i≠k:=fun q=>o2 (by rw[q])
   obtain⟨hi,Vt⟩:=(h.eq i).1 o1
   show MG.rd (vn (1+i)) [61] (rhs (ld s.D k) s.fin s.hs i) [] zU=(MG.rd (vn (1+i)) [61] (rhs s.D s.fin s.hs i) [] zU).put _
   rw[J1,J2,Ph hf hk hd hi,pK,rq _ (A0 (by omega))]
   rfl
 ·refine⟨n1,fun i=> ?_,?_,fun i hi=> ?_,h.gr,h.hl,h.cg,h.cb,?_⟩
  ·show some i∈s.its.eraseIdx p↔isEq s.fin s.hs i∧ld s.D k i=false
   rw[n2,h.eq]
   by_cases q:i=k
   ·subst q
    rw[xi]
    simp
   ·rw[nt q]
    simp[q]
  ·show none∈s.its.eraseIdx p↔s.fin=none
   rw[n2,h.cl]
   simp
  ·by_cases q:i=k
   ·subst q;exact hk
   ·exact h.dn i (by rw[←nt (D:=s.D) q];exact hi)
  ·show (s.its.eraseIdx p).length+(c0+1)=s.hs.length+1
   have:=h.ln
   omega
theorem gP.ok.last {s:gP} {c0:Nat} (h:s.ok c0) (hf:s.fin=none):s.D s.hs.length=false:=by
 cases q:s.D s.hs.length with
 | false=>rfl
 | true=>
  rcases h.dn _ q with r | ⟨_,r⟩
  ·omega
  ·exact absurd hf r
theorem gP.ok.more {s:gP} {c0:Nat} (h:s.ok c0) {p:Nat} (hp:s.its[p]?=some none) (d:Nat) (call':U) (h9:s.hs.length≤9) (hg:∀i,i≤s.hs.length→¬has ([],1+i) call') (hb:mC (MG.rd call' [] zU [] zU)=false):
 ∃s':gP,s'.ok c0∧s'.hs=s.hs++[d]∧s'.fin=none∧s'.call=call'∧∀lim,(s'.st lim).vs=(s.st lim).vs∧(s'.st lim).gs=(s.st lim).gs.eraseIdx p++[MG.rd (vn (1+s.hs.length)) [61] (jC (jB d) (vn (2+s.hs.length))) [] zU,MG.rd call' [] zU [] zU]:=by
 have hfn:=h.cl.1 (List.mem_of_getElem? hp)
 obtain⟨n1,n2⟩:=qO h.nd hp
 have hlen:s.its.length=(s.its.eraseIdx p).length+1:=by
  have:=(List.getElem?_eq_some_iff.1 hp).1
  rw[List.length_eraseIdx_of_lt this];omega
 have hD:=h.last hfn
 have isE:∀i,isEq none (s.hs++[d]) i↔i<s.hs.length+1:=fun i=>by
  unfold isEq;simp
 have isE0:∀i,isEq s.fin s.hs i↔i<s.hs.length:=fun i=>by
  unfold isEq;rw[hfn];simp
 have hm:some s.hs.length∉s.its:=fun q=>by
  have:=((h.eq _).1 q).1
  rw[isE0]at this
  omega
 have hD1:s.D (s.hs.length+1)=false:=by
  cases q:s.D (s.hs.length+1)with
  | false=>rfl
  | true=>have:=h.dn _ q;rw[isE0]at this;omega
 refine⟨⟨s.hs++[d],none,s.D,s.its.eraseIdx p++[some s.hs.length,none],call'⟩,⟨?_,fun i=> ?_,?_,fun i hi=> ?_,(fun u q=>by cases q),?_,fun _ i hi=> ?_,fun _=>hb,?_⟩,rfl,rfl,rfl,fun lim=>⟨?_,?_⟩⟩
 ·show (s.its.eraseIdx p++[some s.hs.length,none]).Nodup
  rw[List.nodup_append]
  refine⟨n1,by simp,fun a ha b hb=> ?_⟩
  simp only[List.mem_cons,List.not_mem_nil,or_false]at hb
  rcases hb with rfl | rfl
  ·rintro rfl;exact hm ((n2 _).1 ha).1
  ·exact((n2 _).1 ha).2
 ·show some i∈s.its.eraseIdx p++[some s.hs.length,none]↔isEq none (s.hs++[d]) i∧s.D i=false
  rw[List.mem_append,n2,h.eq,isE,isE0]
  simp only[List.mem_cons,List.not_mem_nil,or_false,Option.some.injEq,reduceCtorEq,ne_eq,not_false_eq_true,and_true]
  constructor
  ·rintro(⟨q1,q2⟩ | q)
   ·exact⟨by omega,q2⟩
   ·rw[q];exact⟨by omega,hD⟩
  ·rintro⟨q1,q2⟩
   by_cases q:i=s.hs.length
   ·exact Or.inr q
   ·exact Or.inl ⟨by omega,q2⟩
 ·show none∈s.its.eraseIdx p++[some s.hs.length,none]↔none=none
  simp
 ·have:=h.dn i hi
  rw[isE0]at this
  exact(isE i).2 (by omega)
 ·show (s.hs++[d]).length≤10
  simp;omega
 ·have hi':i<(s.hs++[d]).length:=hi
  exact hg i (by simp at hi';omega)
 ·show (s.its.eraseIdx p++[some s.hs.length,none]).length+c0=(s.hs++[d]).length+1
  have:=h.ln
  simp
  omega
 ·show [ed s.D none (s.hs++[d]) 0]=[ed s.D s.fin s.hs 0]
  rw[hfn,xg d s.hs 0 (by rw[Nat.zero_add];exact hD)]
 ·show (s.its.eraseIdx p++[some s.hs.length,none]).map _=(s.its.map s.sL).eraseIdx p++_
  rw[List.map_append,yh]
  congr 1
  ·refine List.map_congr_left fun o ho=> ?_
   obtain⟨o1,o2⟩:=(n2 o).1 ho
   cases o with
   | none=>exact absurd rfl o2
   | some i=>
    obtain⟨hi,Vt⟩:=(h.eq i).1 o1
    rw[isE0]at hi
    show MG.rd (vn (1+i)) [61] (rhs s.D none (s.hs++[d]) i) [] zU=MG.rd (vn (1+i)) [61] (rhs s.D s.fin s.hs i) [] zU
    congr 1
    rw[fR (by simp;omega),fR hi,hfn,List.getElem_append_left hi,List.drop_append_of_le_length (by omega),xg d _ _ (by rw[List.length_drop,show i+1+(s.hs.length - (i+1))=s.hs.length by omega];exact hD)]
  ·show [MG.rd (vn (1+s.hs.length)) [61] (rhs s.D none (s.hs++[d]) s.hs.length) [] zU,MG.rd call' [] zU [] zU]=_
   have e:rhs s.D none (s.hs++[d]) s.hs.length=jC (jB d) (vn (2+s.hs.length)):=by
    rw[fR (by simp),List.drop_eq_nil_of_le (by simp),pL hD1,List.getElem_append_right (Nat.le_refl _)]
    rw[show 1+(s.hs.length+1)=2+s.hs.length by omega]
    simp
   rw[e]
theorem gP.ok.close {s:gP} {c0:Nat} (h:s.ok c0) {p:Nat} (hp:s.its[p]?=some none) {u:U} (hu:vX u∧(∀y,u≠ .v y)∧2*s.hs.length+size u≤21):
 ∃s':gP,s'.ok c0∧s'.hs=s.hs∧s'.fin=some u∧∀lim,(s'.st lim).vs=(s.st lim).vs∧(s'.st lim).gs=(s.st lim).gs.eraseIdx p++[MG.rd (vn (1+s.hs.length)) [61] u [] zU]:=by
 have hfn:=h.cl.1 (List.mem_of_getElem? hp)
 obtain⟨n1,n2⟩:=qO h.nd hp
 have hlen:s.its.length=(s.its.eraseIdx p).length+1:=by
  have:=(List.getElem?_eq_some_iff.1 hp).1
  rw[List.length_eraseIdx_of_lt this];omega
 have hD:=h.last hfn
 have isE:∀i,isEq (some u) s.hs i↔i<s.hs.length+1:=fun i=>by
  unfold isEq;simp;omega
 have isE0:∀i,isEq s.fin s.hs i↔i<s.hs.length:=fun i=>by
  unfold isEq;rw[hfn];simp
 have hm:some s.hs.length∉s.its:=fun q=>by
  have:=((h.eq _).1 q).1
  rw[isE0]at this
  omega
 refine⟨⟨s.hs,some u,s.D,s.its.eraseIdx p++[some s.hs.length],s.call⟩,⟨?_,fun i=> ?_,?_,fun i hi=> ?_,(fun v q=>by cases q;exact hu),h.hl,(fun q=>by cases q),(fun q=>by cases q),?_⟩,rfl,rfl,fun lim=>⟨?_,?_⟩⟩
 ·show (s.its.eraseIdx p++[some s.hs.length]).Nodup
  rw[List.nodup_append]
  refine⟨n1,by simp,fun a ha b hb=> ?_⟩
  rw[List.mem_singleton.1 hb]
  rintro rfl;exact hm ((n2 _).1 ha).1
 ·show some i∈s.its.eraseIdx p++[some s.hs.length]↔isEq (some u) s.hs i∧s.D i=false
  rw[List.mem_append,n2,h.eq,isE,isE0]
  simp only[List.mem_cons,List.not_mem_nil,or_false,Option.some.injEq,reduceCtorEq,ne_eq,not_false_eq_true,and_true]
  constructor
  ·rintro(⟨q1,q2⟩ | q)
   ·exact⟨by omega,q2⟩
   ·rw[q];exact⟨by omega,hD⟩
  ·rintro⟨q1,q2⟩
   by_cases q:i=s.hs.length
   ·exact Or.inr q
   ·exact Or.inl ⟨by omega,q2⟩
 ·show none∈s.its.eraseIdx p++[some s.hs.length]↔some u=none
  rw[List.mem_append,n2]
  simp
 ·have:=h.dn i hi
  rw[isE0]at this
  exact(isE i).2 (by omega)
 ·show (s.its.eraseIdx p++[some s.hs.length]).length+c0=s.hs.length+1
  have:=h.ln
  simp
  omega
 ·show [ed s.D (some u) s.hs 0]=[ed s.D s.fin s.hs 0]
  rw[hfn,yX u s.hs 0 (by rw[Nat.zero_add];exact hD)]
 ·show (s.its.eraseIdx p++[some s.hs.length]).map _=(s.its.map s.sL).eraseIdx p++_
  rw[List.map_append,yh]
  congr 1
  ·refine List.map_congr_left fun o ho=> ?_
   obtain⟨o1,o2⟩:=(n2 o).1 ho
   cases o with
   | none=>exact absurd rfl o2
   | some i=>
    obtain⟨hi,Vt⟩:=(h.eq i).1 o1
    rw[isE0]at hi
    show MG.rd (vn (1+i)) [61] (rhs s.D (some u) s.hs i) [] zU=MG.rd (vn (1+i)) [61] (rhs s.D s.fin s.hs i) [] zU
    congr 1
    rw[fR hi,fR hi,hfn,yX u _ _ (by rw[List.length_drop,show i+1+(s.hs.length - (i+1))=s.hs.length by omega];exact hD)]
  ·show [MG.rd (vn (1+s.hs.length)) [61] (rhs s.D (some u) s.hs s.hs.length) [] zU]=_
   rw[jX (Nat.le_refl _)]
end Zc
