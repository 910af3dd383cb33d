import Derived.Test.YthfjnfcekeknlaaGreatDoorAp36
import Derived.Deep.LoopGhost
set_option maxHeartbeats 8000000
set_option maxRecDepth 100000
namespace Go.Proofs.YthfjnfcekeknlaaGreatDoor
open Go.RowKit
open Za (U Vr aL)
theorem q8 {D E:List Ng} {v:Nat} (h:v<D.length):Za.gl (aY (D++E)) v=Za.gl (aY D) v:=by
 rw[lN (show v<(D++E).length by rw[List.length_append];omega),lN h,List.getElem_append_left h]
theorem LX {η θ:List UInt8→U} {x:Za.aH} (h:Za.tW x) (ns:List (List UInt8)) (hy:∀y∈Za.aP ns x,η y=θ y):Za.MG.of η x=Za.MG.of θ x:=by
 have hp:∀t,(t=x.left∨x.right=some t∨x.last=some t)→Za.bJ η 8 t=Za.bJ θ 8 t:=fun t ht=>by
  obtain⟨h1,ns',h2⟩:=h.parts ns t ht
  exact Za.ig 8 t ns' h1 fun y q=>hy y (h2 y q)
 unfold Za.MG.of
 rw[hp x.left (Or.inl rfl)]
 congr 1
 ·cases e:x.right with
  | none=>rfl
  | some t=>exact hp t (Or.inr (Or.inl e))
 ·cases e:x.last with
  | none=>rfl
  | some t=>exact hp t (Or.inr (Or.inr e))
theorem EA {fr:Nat→Nat} {T:Nat→U} {len:Nat} {η:List UInt8→U} {x:Za.aH} {g:Gl} (h:mD T len η x g) (hx:Za.tW x):eI fr T g=Za.MG.of η x:=by
 have hr:fK fr g=true:=by unfold fK;rw[h.nw];rfl
 unfold eI Za.MG.of
 rw[h.tl,h.sg,h.op,hr]
 congr 1
 ·by_cases q:x.sign=[]
  ·rw[hx.r0 q,h.r0 q];rfl
  ·obtain⟨r,h1,_⟩:=hx.r1 q
   obtain⟨n,h2,_,h3⟩:=h.r1 r h1
   rw[h1,h2,gj,h3];rfl
 ·by_cases q:x.op=[]
  ·rw[hx.z0 q,h.z0 q];rfl
  ·obtain⟨r,h1,_⟩:=hx.z1 q
   obtain⟨n,h2,_,h3⟩:=h.z1 r h1
   rw[h1,h2,gj,h3];rfl
 ·funext v
  simp
theorem wM {α β γ:Type} {R:α→β→Prop} {f:β→γ} {g:α→γ}:∀{xs:List α} {ys:List β},bO R xs ys→(∀x∈xs,∀y,R x y→f y=g x)→ys.map f=xs.map g
 | [],[],_,_=>rfl
 | x :: xs,y :: ys,h,hf=>by
  rw[List.map_cons,List.map_cons,hf x (by simp) y h.1,wM h.2 fun a ha b hb=>hf a (by simp[ha]) b hb]
theorem EB {T:Nat→U} {len:Nat} {η:List UInt8→U}:∀{xs:List Za.aH} {gs:List Gl},bO (mD T len η) xs gs→∀g∈gs,g.nd=[]
 | [],[],_,g,hg=>by cases hg
 | x :: xs,y :: ys,h,g,hg=>by
  rcases List.mem_cons.1 hg with q | q
  ·rw[q];exact h.1.nd
  ·exact EB h.2 g q
theorem Dx {T T':Nat→U} {u:U} {c:aL} {V:List Nat} (h:Za.uP T u c V) (he:∀m∈V,T' m=T m):Za.uP T' u c V:=⟨h.1,fun i x m h1 h2=>by
 obtain⟨q,q1,q2⟩:=h.2 i x m h1 h2
 exact⟨q,q1,(he m (List.mem_of_getElem? h2)).trans q2⟩⟩
theorem Rz {Q:Vr→Prop} {op:List UInt8} {u v:U} (hu:Za.bB Q u) (hv:op≠[]→Za.bB Q v):(Za.e7 op u v).eU Q:=by
 unfold Za.e7
 split
 ·exact(Za.dC Q).bN hu
 ·rename_i q;exact((Za.dC Q).bN hu).bN (hv q)
theorem uq {cls:List aL} {own:List Nat} {bg:Nat} {u:U} {b:Nat} {rs:List (Nat×List Nat)} (h:nH cls own bg u b rs) (hu:Za.bB (Za.PQ (·<b)) u) (aF:∀c∈cls,Za.jH c) {t:Nat} (ht:t<rs.length) {c:aL} (hc:cls[ir own bg t]?=some c):(Za.bU b u c).1=rs[t].1∧rs[t].1≠1∧∀v,v∈rs[t].2↔v∈(Za.bU b u c).2:=by
 obtain⟨h1,c',V,F,T',h2,h3⟩:=h t rs[t] (List.getElem?_eq_getElem ht)
 rw[hc]at h2
 cases h2
 obtain⟨k1,k2⟩:=CV h3 hu (aF c (List.mem_of_getElem? hc))
 exact⟨k1,h1,k2⟩
theorem wN {rs:List (Nat×List Nat)} {v:Nat}:v∈Za.cC rs↔∃t,∃h:t<rs.length,rs[t].1=3∧v∈rs[t].2:=by
 unfold Za.cC
 rw[List.mem_flatMap]
 constructor
 ·rintro⟨r,h1,h2⟩
  obtain⟨t,ht,rfl⟩:=List.getElem_of_mem h1
  split at h2
  ·rename_i q;exact⟨t,ht,q,h2⟩
  ·cases h2
 ·rintro⟨t,ht,q,hv⟩
  exact⟨rs[t],List.getElem_mem ht,by rw[if_pos q];exact hv⟩
theorem yG {cls:List aL} {tx:List UInt8} {m bg t:Nat} (h:t<(Za.cr cls tx m cls.length).length):∃c,cls[ir (Za.cr cls tx m cls.length) bg t]?=some c:=by
 unfold ir
 have hk:(bg+t) % (Za.cr cls tx m cls.length).length<(Za.cr cls tx m cls.length).length:=Nat.mod_lt _ (by omega)
 rw[List.getElem?_eq_getElem hk]
 have:=List.getElem_mem hk
 unfold Za.cr at this
 rw[List.mem_filter,List.mem_range]at this
 exact⟨_,List.getElem?_eq_getElem this.1⟩
theorem CZ {cls:List aL} {V:List Nat} {S S':b8} {i:Nat} {p z:Int} (aF:∀c∈cls,Za.jH c) (h:xS V S) (hg:Cv cls S S' i p z):Za.nj cls (jl V S) (jl V S') i p z∧xS V S':=by
 obtain⟨⟨g,gV,hc⟩,yH⟩:=hg
 have jZ:g∈S.G:=List.mem_of_getElem? gV
 have gw:=h.wf.gw g jZ
 have hai:(jl V S).gs[i]?=some (eI S.fr S.T g):=by show (S.G.map _)[i]?=_;rw[List.getElem?_map,gV];rfl
 have lU:Za.bB (Za.PQ (·<S.D.length)) (S.T g.l):=(h.wf.uk gw.ll).mono fun x hx=>⟨hx.1,hx.2.1⟩
 rcases hc with⟨hs,rfl,rn,σ,hr,e9,hsm,pq,hG⟩ | ⟨hs,rfl,rn,zn,wo,wc,hr,e9,hz,hw,eD,eF,eT,hG⟩ | ⟨hs,rfl,rn,zn,x,T2,σ,hr,e9,hz,hw,hv,st2,old2,tn2,hsm,pq,hG⟩ | ⟨hs,rfl,ht,eD,eF,eT,hG⟩ | ⟨hs,tx,us,bh,tY,rs,c,VV,F,T2,ws,E,F',Gn,r1,r2,r3,r4,rfl,eD,eF,r6,r7,r8,r9,r10,r11,r12,r13,hG⟩ | ⟨hs,rfl,tx,us,bh,tY,rs,E,oo,oc,r1,r2,r3,eD,eF,r6,r7,hG⟩
 ·have hl:=hsm.len
  refine⟨⟨Nat.le_of_eq hl.symm,_,hai,Or.inl ⟨hs,rfl,σ,?_,?_,?_⟩⟩,yH,fun x hx v hv=> ?_,fun v hv=>by rw[hl];exact h.vl v hv⟩
  ·show Za.fB (S.T g.l) (ct S.T g.r) σ
   rw[hr,gj]
   exact pq.OS
  ·show V.map S'.T=(V.map S.T).map _
   rw[List.map_map]
   exact List.map_congr_left fun v _=>pq.is v
  ·show S'.G.map _=((S.G.map _).eraseIdx i).map _
   rw[hG,Za.iQ,List.map_map]
   exact List.map_congr_left fun x hx=>Ex pq h.wf.sto (fun _ _=>rfl) (h.wf.gw x (mem_erase hx)) (h.nd x (mem_erase hx))
  ·rw[hsm.g]
   rw[hG]at hx
   exact h.nd x (mem_erase hx) v hv
 ·have uf:=Rz (Q:=Za.PQ (isVar S)) (op:=g.op.toList) (h.wf.uk e9) (fun q=>h.wf.uk (hz q).2)
  obtain⟨ew,_⟩:=CX (T:=S.T) (op:=g.op.toList) hr (fun q=>(hz q).1)
  have hwt:∀v∈(Za.e7 g.op.toList (S.T rn) (S.T zn)).wt,isVar S v:=uf.at
  refine⟨⟨by show S.D.length≤S'.D.length;rw[eD];exact Nat.le_refl _,_,hai,Or.inr (Or.inl ⟨hs,rfl,?_,?_,?_⟩)⟩,yH,fun x hx v hv=> ?_,fun v hv=>by rw[eD];exact h.vl v hv⟩
  ·show (Za.e7 g.op.toList (ct S.T g.r) (ct S.T g.z)).wt≠[]
   rw[ew];exact hw
  ·show V.map S'.T=V.map S.T
   rw[eT]
  ·show S'.G.map _=(S.G.map _).set i _
   rw[hG,List.map_set,eF,eT]
   congr 1
   unfold eI
   dsimp only
   have xE:=(uU S.fr {g with wt:=true,no:=wo,nc:=wc,nd:=(Za.e7 g.op.toList (S.T rn) (S.T zn)).wt}).2 ⟨rfl,fun v hv=>(hwt v hv).2.1⟩
   rw[xE,ew]
   congr 1
   funext v
   simp
  ·rw[eD]
   rw[hG]at hx
   rcases List.mem_or_eq_of_mem_set hx with q | q
   ·exact h.nd x q v hv
   ·rw[q]at hv
    exact(hwt v hv).2.2
 ·have hl:=hsm.len
  rw[List.length_append]at hl
  have hl2:S'.D.length=S.D.length+1:=hl
  obtain⟨ew,ev⟩:=CX (T:=S.T) (op:=g.op.toList) hr (fun q=>(hz q).1)
  refine⟨⟨by show S.D.length≤S'.D.length;omega,_,hai,Or.inr (Or.inr (Or.inl ⟨hs,rfl,?_,x,σ,?_,?_,?_,?_⟩))⟩,yH,fun y hy v hv=> ?_,fun v hv=>by have:=h.vl v hv;omega⟩
  ·show (Za.e7 g.op.toList (ct S.T g.r) (ct S.T g.z)).wt=[]
   rw[ew];exact hw
  ·show eP g.op.toList (ct S.T g.r) (ct S.T g.z)=some x
   rw[ev];exact hv
  ·show Za.fB (S.T g.l) (.n 3 [] x []) σ
   have:=pq.OS
   rw[old2 g.l gw.ll,tn2]at this
   exact this
  ·show V.map S'.T=(V.map S.T).map _
   rw[List.map_map]
   refine List.map_congr_left fun v hv=> ?_
   rw[pq.is v,old2 v (h.vl v hv)]
   rfl
  ·show S'.G.map _=((S.G.map _).eraseIdx i).map _
   rw[hG,Za.iQ,List.map_map]
   exact List.map_congr_left fun y hy=>Ex pq st2 old2 (h.wf.gw y (mem_erase hy)) fun v hv=>by
    rw[q8 (h.wf.nl y (mem_erase hy) v hv)]
    exact h.nd y (mem_erase hy) v hv
  ·rw[hsm.g]
   rw[hG]at hy
   rw[q8 (h.wf.nl y (mem_erase hy) v hv)]
   exact h.nd y (mem_erase hy) v hv
 ·refine⟨⟨by show S.D.length≤S'.D.length;rw[eD];exact Nat.le_refl _,_,hai,Or.inr (Or.inr (Or.inr (Or.inl ⟨hs,rfl,ht,?_,?_⟩)))⟩,yH,fun x hx v hv=> ?_,fun v hv=>by rw[eD];exact h.vl v hv⟩
  ·show V.map S'.T=V.map S.T
   rw[eT]
  ·show S'.G.map _=(S.G.map _).eraseIdx i
   rw[hG,Za.iQ,eF,eT]
  ·rw[eD]
   rw[hG]at hx
   exact h.nd x (mem_erase hx) v hv
 ·have hlen:S'.D.length=S.D.length+E.length:=by rw[eD,List.length_append]
  rw[bh]at r2 r4 lU
  have hcm:c∈cls:=List.mem_of_getElem? r3
  have Eg:=aF c hcm
  have hHV:Za.uP T2 (.n 1 tx 0 us) c VV:=by
   rcases r4 with⟨q1,q2,_⟩ | ⟨_,q,_⟩
   ·exact absurd q2.symm q1
   ·exact q
  have hHV':Za.uP S'.T (.n 1 tx 0 us) c VV:=Dx hHV fun m hm=>r7 m (List.mem_append_left _ hm)
  have jC:VV.length=(Za.NH c).length:=hHV.1
  have hlF:(F++F').length+(Za.NH c).length=(Za.NG c).length:=by
   rw[←r9,←jC]
   simp only[List.length_append]
   omega
  refine⟨⟨by show S.D.length≤S'.D.length;omega,_,hai,Or.inr (Or.inr (Or.inr (Or.inr (Or.inl ⟨_,_,⟨hs,tx,us,bh,tY,rfl,rfl⟩,rs.length,c,F++F',r1,fun t' c' np hc'=> ?_,r3,?_,rfl,hlF,r11,fun f hf=>⟨(r10 f hf).1,r12 f ?_⟩,?_,?_⟩))))⟩,yH,fun x hx v hv=> ?_,fun v hv=>by have:=h.vl v hv;omega⟩
  ·show (Za.bU S.D.length (S.T g.l) c').1≠1
   rw[bh]
   obtain⟨q1,q2,_⟩:=uq r2 lU aF np hc'
   rw[q1];exact q2
  ·show (Za.bU S.D.length (S.T g.l) c).1=1
   rw[bh]
   exact(CV r4 lU Eg).1
  ·rw[List.append_assoc]
   exact List.mem_append_right _ hf
  ·show V.map S'.T=V.map S.T
   exact List.map_congr_left fun v hv=>r6 v (h.vl v hv)
  ·show S'.G.map _=(S.G.map _).eraseIdx i++_
   rw[hG,List.map_append,Za.iQ]
   congr 1
   ·rw[eF]
    exact List.map_congr_left fun x hx=>Ew r6 (h.wf.gw x (mem_erase hx))
   ·refine wM r13 fun x hx y hy=> ?_
    rw[EA hy (Eg.gs x hx)]
    obtain⟨ns,hn⟩:=Za.ft c.goals (Za.NT c) x hx
    refine LX (Eg.gs x hx) ns fun w hw=> ?_
    have Uy:w∈Za.NG c:=hn w hw
    show cP S'.T (VV++F++F') (Za.NG c) w=Za.cJ (S.T g.l) c _ w
    rw[bh,List.append_assoc]
    refine Jl hHV' (fun f hf=>(r10 f hf).2) Uy ?_
    have:=List.idxOf_lt_length_of_mem Uy
    rw[←r9,List.append_assoc]at this
    exact this
  ·rw[hG]at hx
   rcases List.mem_append.1 hx with q | q
   ·rw[eD,q8 (h.wf.nl x (mem_erase q) v hv)]
    exact h.nd x (mem_erase q) v hv
   ·rw[EB r13 x q]at hv
    cases hv
 ·have hlen:S'.D.length=S.D.length+E.length:=by rw[eD,List.length_append]
  have iM:Za.bB (Za.PQ (isVar S)) (S.T g.l):=h.wf.uk gw.ll
  rw[bh]at r2 lU iM
  have qD:∀{t:Nat} (ht:t<rs.length) {c:aL},cls[ir (Za.cr cls tx us.length cls.length) (dA p (Za.cr cls tx us.length cls.length).length) t]?=some c→((Za.bU S.D.length (.n 1 tx 0 us) c).1=rs[t].1∧rs[t].1≠1∧∀v,v∈rs[t].2↔v∈(Za.bU S.D.length (.n 1 tx 0 us) c).2)∧∀v∈rs[t].2,isVar S v:=fun {t} ht {c} hc=>by
   have q:=uq r2 lU aF ht hc
   refine⟨q,fun v hv=> ?_⟩
   exact(Za.CK (r:=fun k=>k) (P:=isVar S) (l1:=S.D.length) (l2:=S.D.length) (fun i j _ _ e=>e) (fun k hk=>hk.1) (fun k hk=>hk.1) iM (aF c (List.mem_of_getElem? hc)).ts).2.2 v ((q.2.2 v).1 hv)
  have dx:∀v∈Za.cC rs,isVar S v:=fun v hv=>by
   obtain⟨t,ht,_,h2⟩:=wN.1 hv
   obtain⟨c,hc⟩:=yG (cls:=cls) (tx:=tx) (m:=us.length) (bg:=dA p (Za.cr cls tx us.length cls.length).length) (t:=t) (by omega)
   exact(qD ht hc).2 v h2
  refine⟨⟨by show S.D.length≤S'.D.length;omega,_,hai,Or.inr (Or.inr (Or.inr (Or.inr (Or.inr ⟨_,_,⟨hs,tx,us,bh,tY,rfl,rfl⟩,rfl,fun t c ht hc=> ?_,?_,?_,?_⟩))))⟩,yH,fun x hx v hv=> ?_,fun v hv=>by have:=h.vl v hv;omega⟩
  ·show (Za.bU S.D.length (S.T g.l) c).1≠1
   rw[bh]
   obtain⟨⟨q1,q2,_⟩,_⟩:=qD (by omega) hc
   rw[q1];exact q2
  ·have r3':=r3
   unfold Za.l9 at r3'
   rw[List.any_eq_true]at r3'
   obtain⟨r,q1,q2⟩:=r3'
   obtain⟨t,ht,rfl⟩:=List.getElem_of_mem q1
   obtain⟨c,hc⟩:=yG (cls:=cls) (tx:=tx) (m:=us.length) (bg:=dA p (Za.cr cls tx us.length cls.length).length) (t:=t) (by omega)
   refine⟨t,c,by omega,hc,?_⟩
   show (Za.bU S.D.length (S.T g.l) c).1=3
   rw[bh,(qD ht hc).1.1]
   simpa using q2
  ·show V.map S'.T=V.map S.T
   exact List.map_congr_left fun v hv=>r6 v (h.vl v hv)
  ·show S'.G.map _=(S.G.map _).set i _
   rw[hG,List.map_set,eF]
   have e1:S.G.map (eI S.fr S'.T)=S.G.map (eI S.fr S.T):=List.map_congr_left fun x hx=>Ew r6 (h.wf.gw x hx)
   rw[e1]
   congr 1
   have xE:=(uU S.fr {g with wt:=true,no:=oo,nc:=oc,nd:=Za.cC rs}).2 ⟨rfl,fun v hv=>(dx v hv).2.1⟩
   unfold eI
   dsimp only
   rw[xE,r6 g.l gw.ll,mX (f:=id) rfl r6 gw.rc,mX (f:=id) rfl r6 gw.zc]
   dsimp only[id]
   congr 1
   funext v
   apply propext
   constructor
   ·rintro⟨_,q⟩
    obtain⟨t,ht,q1,q2⟩:=wN.1 q
    obtain⟨c,hc⟩:=yG (cls:=cls) (tx:=tx) (m:=us.length) (bg:=dA p (Za.cr cls tx us.length cls.length).length) (t:=t) (by omega)
    have k:=(qD ht hc).1
    refine⟨t,c,by omega,hc,?_,?_⟩
    ·show (Za.bU S.D.length (S.T g.l) c).1=3
     rw[bh,k.1];exact q1
    ·show v∈(Za.bU S.D.length (S.T g.l) c).2
     rw[bh];exact(k.2.2 v).1 q2
   ·rintro⟨t,c,ht,hc,q1,q2⟩
    have np:t<rs.length:=by omega
    have k:=(qD np hc).1
    have q1':(Za.bU S.D.length (S.T g.l) c).1=3:=q1
    have q2':v∈(Za.bU S.D.length (S.T g.l) c).2:=q2
    rw[bh]at q1' q2'
    rw[k.1]at q1'
    exact⟨rfl,wN.2 ⟨t,np,q1',(k.2.2 v).2 q2'⟩⟩
  ·rw[hG]at hx
   rcases List.mem_or_eq_of_mem_set hx with q | q
   ·rw[eD,q8 (h.wf.nl x q v hv)]
    exact h.nd x q v hv
   ·rw[q]at hv
    have:=dx v hv
    rw[eD,q8 this.1]
    exact this.2.2
end Go.Proofs.YthfjnfcekeknlaaGreatDoor
namespace Go.Proofs.YthfjnfcekeknlaaGreatDoor
open Go.RowKit
structure Uz (w:World) (cls:List Za.aL) (clo:Option Addr) (items:List Za.aH) (N:List (List UInt8)) (o:Option Addr) (n:Nat) (script:List (Int×Int)) (so:Option Addr):Prop where
 cl:cX w clo cls.length cls
 ok:∀c∈cls,Za.jH c∧∀x∈c.goals,Za.iW x
 cc:cls.length≤12
 it:b6 N w o n items
 gl:∀x∈items,Za.iW x
 il:items.length≤6
 nm:∃M,N=Za.aC [] items++M
 nl:N.length≤100
 sz:∀x∈items,∀η:List UInt8→Za.U,(∀y∈Za.aC [] items,Za.size (η y)=1)→Za.size (Za.bJ η 8 x.left)≤300∧(∀r,x.right=some r→Za.size (Za.bJ η 8 r)≤300)∧(∀z,x.last=some z→Za.size (Za.bJ η 8 z)≤300)
 sc:pC w so script
 sl:script.length≤100
 sr:∀p∈script,(-9223372036854775808≤p.1∧p.1≤9223372036854775807)∧(-9223372036854775808≤p.2∧p.2≤9223372036854775807)
 pw:Pow w
theorem Ol (fr:Nat→Nat) (G:List Gl):gG fr G=1∨gG fr G=2∨gG fr G=3:=by
 unfold gG
 split
 ·exact Or.inl rfl
 ·split
  ·exact Or.inr (Or.inl rfl)
  ·exact Or.inr (Or.inr rfl)
theorem QS.res {w:World} {cls:List Za.aL} {clo:Option Addr} {clc:Nat} {F:List Nat} {vo:Option Addr} {vc:Nat} {script:List (Int×Int)} {S0:b8} {j:Nat} {S:b8} {L:List Int} {lo:Option Addr} {lc:Nat} {nO:Option Addr} {nC:Nat} {po:Option Addr} {pc:Nat} {wr:World} (h:QS w cls clo clc F vo vc script S0 j S L lo lc nO nC po pc wr) (CN:Pow w) (hF:F.length≤100) (hj:j=script.length∨cu S.fr S.G S.G.length=[]):
 Calls Tryz.prog 47 #[.pointer (some ⟨w.heap.size+1,0,none⟩)] (wr.setCell ⟨w.heap.size+1,5,none⟩ (.int .i64 (gG S.fr S.G))) fun e w'=>∃(xo:Option Addr) (xc:Nat) (go:Option Addr) (gc:Nat) (yo:Option Addr) (yc:Nat),e= .returned (.agg #[.int .i64 (gG S.fr S.G),.slice lo L.length lc,.slice xo F.length xc,.slice go S.G.length gc,.slice yo S.G.length yc])∧ui cls F script S0 w.heap.size e w'∧Below w.heap.size w w'∧w'.heap[w.heap.size]?=some (.cells #[.int .i64 0,.slice none 0 0,.slice none 0 0,.slice none 0 0,.slice none 0 0] 32 (0,0))∧∀vs:List Value,vs.length=5→ui cls F script S0 w.heap.size e (((((w'.setCell ⟨w.heap.size,0,none⟩ (vs[0]?.getD (.int .i64 0))).setCell ⟨w.heap.size,1,none⟩ (vs[1]?.getD (.int .i64 0))).setCell ⟨w.heap.size,2,none⟩ (vs[2]?.getD (.int .i64 0))).setCell ⟨w.heap.size,3,none⟩ (vs[3]?.getD (.int .i64 0))).setCell ⟨w.heap.size,4,none⟩ (vs[4]?.getD (.int .i64 0))):=by
 have hm:=h.ma
 have aS:=h.be.setCell (p:=⟨w.heap.size+1,5,none⟩) (Nat.le_succ _) (.int .i64 (gG S.fr S.G))
 have kT:∀{k:Nat} {ys:Array Value} {Y:TypeId},wr.heap[k]?=some (.cells ys Y (0,0))→Y≠91→(wr.setCell ⟨w.heap.size+1,5,none⟩ (.int .i64 (gG S.fr S.G))).heap[k]?=wr.heap[k]?:=fun {k ys Y} hk h1=>aJ _ _ _ _ (fun e=>by
  rw[e,hm.mc.st.blk]at hk
  simp only[Option.some.injEq,Obj.cells.injEq]at hk
  exact h1 hk.2.1.symm)
 have kR:∀{b n cap sz:Nat} {Y:TypeId} {o:Option Addr} {zs:List Value},wr.ownsRow b Y sz (.slice o n cap) n zs→Y≠91→(wr.setCell ⟨w.heap.size+1,5,none⟩ (.int .i64 (gG S.fr S.G))).ownsRow b Y sz (.slice o n cap) n zs:=fun {b n cap sz Y o zs} ho h1=>ai ho fun k q=>by
  obtain⟨cur,hc⟩:=aK ho (aI q)
  exact kT hc h1
 have fA:cN (wr.setCell ⟨w.heap.size+1,5,none⟩ (.int .i64 (gG S.fr S.G))) (w.heap.size+1) (qg clo cls.length clc nO S.D.length nC vo F.length vc po S.G.length pc lo L.length lc (gG S.fr S.G)) S.D nO nC S.fr S.G po pc:=⟨⟨aA hm.mc.st.blk 5 (.int .i64 (gG S.fr S.G)),rfl,kR hm.mc.st.own (by decide),hm.mc.st.ty⟩,hm.mc.ok,rfl,kR hm.mc.pool (by decide),fun g hg=>kR (hm.mc.nds g hg) (by decide),hm.mc.nlt,hm.mc.nl⟩
 have je:=kR hm.lg (by decide)
 have hzb:=(kT h.zb (by decide)).trans h.zb
 refine(Jf _ _ cls clo clc F vo vc L lo lc S nO nC po pc (gG S.fr S.G) fA hm.to (fun _=>True) (hm.ar.keep fun g _ _ hg=>⟨(kT hg (by decide)).trans hg,trivial⟩) (kR hm.vr (by decide)) hm.vl hm.vb hm.tb hm.gw (CN.below aS) (Ol _ _) hF h.gl (fun v hv=>by have:=h.sm.1 v hv;omega) (fun g hg x hx hne=>by have:=h.sm.2 g hg x hx hne;omega)).mono ?_
 rintro e w' ⟨xo,xc,go,gc,yo,yc,rfl,h1,h2,h3,h4,h5⟩
 have hsz:w.heap.size≤(wr.setCell ⟨w.heap.size+1,5,none⟩ (.int .i64 (gG S.fr S.G))).heap.size:=aS.size
 have V0:w.heap.size<(wr.setCell ⟨w.heap.size+1,5,none⟩ (.int .i64 (gG S.fr S.G))).heap.size:=ag hzb
 have EY:∀k,rowOf lo k→w.heap.size<k:=fun k q=>by
  have q1:=h.rw_ k (Or.inr (Or.inr q))
  have q2:k≠w.heap.size:=fun e=>aQ hm.lg h.zb (by decide) (e ▸ q)
  omega
 have RD:w'.ownsRow w.heap.size 3 1 (.slice lo L.length lc) L.length (L.map fV):=by
  have q:=ai je fun k q=>h5.block k (je.lt k q).2
  refine⟨q.1,?_⟩
  rcases q.2 with r | ⟨g,cap,cur,r1,r2,r3⟩
  ·exact Or.inl r
  ·refine Or.inr ⟨g,cap,cur,r1,?_,r3⟩
   simp only[Value.slice.injEq]at r1
   exact Nat.le_of_lt (EY g ⟨_,r1.1,rfl⟩)
 refine⟨xo,xc,go,gc,yo,yc,rfl,?_,aS.trans (h5.mono hsz),(h5.block _ V0).trans hzb,fun vs _=> ?_⟩
 ·exact⟨j,S,L,lo,lc,h.ru,Or.inl ⟨hj,xo,xc,go,gc,yo,yc,rfl,RD,cf h1 hsz,cf h2 hsz,cf h3 hsz,h4⟩⟩
 ·have kk:∀k,k≠w.heap.size→(((((w'.setCell ⟨w.heap.size,0,none⟩ (vs[0]?.getD (.int .i64 0))).setCell ⟨w.heap.size,1,none⟩ (vs[1]?.getD (.int .i64 0))).setCell ⟨w.heap.size,2,none⟩ (vs[2]?.getD (.int .i64 0))).setCell ⟨w.heap.size,3,none⟩ (vs[3]?.getD (.int .i64 0))).setCell ⟨w.heap.size,4,none⟩ (vs[4]?.getD (.int .i64 0))).heap[k]?=w'.heap[k]?:=fun k q=>by
   rw[aJ _ _ _ _ q,aJ _ _ _ _ q,aJ _ _ _ _ q,aJ _ _ _ _ q,aJ _ _ _ _ q]
  exact⟨j,S,L,lo,lc,h.ru,Or.inl ⟨hj,xo,xc,go,gc,yo,yc,rfl,ai RD fun k q=>kk k (by have:=EY k (aI q);omega),ai (cf h1 hsz) fun k q=>kk k (by have:=(h1.lt k q).1;omega),ai (cf h2 hsz) fun k q=>kk k (by have:=(h2.lt k q).1;omega),ai (cf h3 hsz) fun k q=>kk k (by have:=(h3.lt k q).1;omega),h4⟩⟩
theorem kN.res {w:World} {LL:List Int} {lo:Option Addr} {lc:Nat} {en:Int} {wr:World} (h:kN wr (w.heap.size+1) LL lo lc en) (hen:en=4∨en=5∨en=6) (aS:Below w.heap.size w wr) (hzb:wr.heap[w.heap.size]?=some (.cells #[.int .i64 0,.slice none 0 0,.slice none 0 0,.slice none 0 0,.slice none 0 0] 32 (0,0))) (fQ:∀k,rowOf lo k→w.heap.size≤k):
 Calls Tryz.prog 47 #[.pointer (some ⟨w.heap.size+1,0,none⟩)] wr fun e w'=>e= .returned (.agg #[.int .i64 en,.slice lo LL.length lc,.slice none 0 0,.slice none 0 0,.slice none 0 0])∧Below w.heap.size w w'∧w'.heap[w.heap.size]?=some (.cells #[.int .i64 0,.slice none 0 0,.slice none 0 0,.slice none 0 0,.slice none 0 0] 32 (0,0))∧w'.ownsRow (w.heap.size+1) 3 1 (.slice lo LL.length lc) LL.length (LL.map fV):=by
 refine(F9 wr _ LL lo lc en h hen).mono ?_
 rintro e w' ⟨rfl,hb⟩
 obtain⟨cs,_,_,_,_,ho⟩:=h
 refine⟨rfl,aS.trans (hb.mono aS.size),(hb.block _ (ag hzb)).trans hzb,?_⟩
 have q:=ai ho fun k q=>hb.block k (ho.lt k q).2
 refine⟨q.1,?_⟩
 rcases q.2 with r | ⟨g,cap,cur,r1,r2,r3⟩
 ·exact Or.inl r
 ·refine Or.inr ⟨g,cap,cur,r1,?_,r3⟩
  simp only[Value.slice.injEq]at r1
  have h1:=fQ g ⟨_,r1.1,rfl⟩
  have h2:g≠w.heap.size:=fun e=>aQ ho hzb (by decide) ⟨_,r1.1,e.symm⟩
  omega
theorem F5.from {mb:Nat} {cls:List Za.aL} {clo:Option Addr} {clc:Nat} {V:List Nat} {vo:Option Addr} {vc:Nat} {L:List Int} {lo:Option Addr} {S:b8} {nO po:Option Addr} {i:Nat} {p:Int} {w w1 w':World} (hb:Below w.heap.size w w1) (h:F5 mb cls clo clc V vo vc L lo S nO po i p w1 w'):F5 mb cls clo clc V vo vc L lo S nO po i p w w':=by
 obtain⟨lo',lc',⟨z,S',nO',nC',po',pc',h1,h2,h3,h4,h5⟩ | ⟨z,S',h1,h2,h3,h4⟩ | ⟨en,h1,h2,h3,h4⟩⟩:=h
 ·exact⟨lo',lc',Or.inl ⟨z,S',nO',nC',po',pc',h1,h2,h3,h4,(au.aw hb).trans h5⟩⟩
 ·exact⟨lo',lc',Or.inr (Or.inl ⟨z,S',h1,h2,h3,(au.aw hb).trans h4⟩)⟩
 ·exact⟨lo',lc',Or.inr (Or.inr ⟨en,h1,h2,h3,(au.aw hb).trans h4⟩)⟩
theorem Om (fr:Nat→Nat) (G:List Gl) (j:Nat):∀i∈cu fr G j,i<G.length:=fun i hi=>by
 have:=(List.mem_filter.1 hi).2
 cases q:G[i]? with
 | none=>rw[q]at this;cases this
 | some g=>exact(List.getElem?_eq_some_iff.1 q).1
section
variable {w:World} {cls:List Za.aL} {clo:Option Addr} {clc:Nat} {F:List Nat} {vo:Option Addr} {vc:Nat} {script:List (Int×Int)} {S0:b8} {j:Nat} {S:b8} {L:List Int} {lo:Option Addr} {lc:Nat} {nO:Option Addr} {nC:Nat} {po:Option Addr} {pc:Nat} {wr:World}
theorem QS.frame (h:QS w cls clo clc F vo vc script S0 j S L lo lc nO nC po pc wr) {w':World} {R':Nat→Prop} (hf:au (fun k=>k=w.heap.size+1∨rowOf nO k∨rowOf po k∨rowOf lo k) R' wr w'):Below w.heap.size w w'∧(∀k,R' k→w.heap.size≤k)∧w'.heap[w.heap.size]?=some (.cells #[.int .i64 0,.slice none 0 0,.slice none 0 0,.slice none 0 0,.slice none 0 0] 32 (0,0)):=by
 have hr:∀k,(k=w.heap.size+1∨rowOf nO k∨rowOf po k∨rowOf lo k)→w.heap.size≤k:=fun k q=>by
  rcases q with e | e
  ·omega
  ·exact h.rw_ k e
 refine⟨h.be.trans (hf.down h.be.size hr),fun k q=> ?_,?_⟩
 ·rcases hf.row k q with e | e
  ·exact hr k e
  ·exact Nat.le_trans h.be.size e
 ·refine(hf.block _ (ag h.zb) ?_).trans h.zb
  rintro(e | e | e | e)
  ·omega
  ·exact aQ h.ma.mc.st.own h.zb (by decide) e
  ·exact aQ h.ma.mc.pool h.zb (by decide) e
  ·exact aQ h.ma.lg h.zb (by decide) e
theorem QS.next (h:QS w cls clo clc F vo vc script S0 j S L lo lc nO nC po pc wr) {pg pk z:Int} {i:Nat} (hs:script[j]?=some (pg,pk)) (hi:(cu S.fr S.G S.G.length)[dA pg (cu S.fr S.G S.G.length).length]?=some i) {S':b8} (hg:Cv cls S S' i pk z) (hl:mR F S'=false) {w':World} {lo':Option Addr} {lc':Nat} {nO':Option Addr} {nC':Nat} {po':Option Addr} {pc':Nat} (hm:dR w' (w.heap.size+1) cls clo clc F vo vc (L++[z]) lo' lc' S' nO' nC' po' pc') (hd:S'.D.length≤S.D.length+1100000) (hf:au (fun k=>k=w.heap.size+1∨rowOf nO k∨rowOf po k∨rowOf lo k) (fun k=>k=w.heap.size+1∨rowOf nO' k∨rowOf po' k∨rowOf lo' k) wr w'):QS w cls clo clc F vo vc script S0 (j+1) S' (L++[z]) lo' lc' nO' nC' po' pc' w':=by
 obtain⟨hb,hr,hz⟩:=h.frame hf
 obtain⟨hsm,dh⟩:=Gf hm hl
 exact⟨.step h.ru hs hi hg hl,hm,hsm,by omega,by rw[List.length_append,h.ll];rfl,by have:=h.dl;omega,hb,fun k q=>hr k (Or.inr q),hz⟩
end
theorem Jr (w:World) (cls:List Za.aL) (clo:Option Addr) (clc:Nat) (items:List Za.aH) (N:List (List UInt8)) (o:Option Addr) (n c:Nat) (script:List (Int×Int)) (so:Option Addr) (sc:Nat) (h:Uz w cls clo items N o n script so):
 Calls Tryz.prog 28 #[.slice clo cls.length clc,.slice o n c,.slice so script.length sc] w fun e w'=>∃(F:List Nat) (S0:b8),CS N items F S0∧ui cls F script S0 w.heap.size e w'∧Below w.heap.size w w':=by
 have hb1:=((Below.refl w.heap.size w).alloc (Nat.le_refl _) (.cells #[.int .i64 0,.slice none 0 0,.slice none 0 0,.slice none 0 0,.slice none 0 0] 32)).alloc (by simp) (.cells #[.slice clo cls.length clc,.slice none 0 0,.slice none 0 0,.slice none 0 0,.slice none 0 0,.int .i64 0] 91)
 have hb2:=hb1.alloc hb1.size (.cells #[.slice none 0 0] 93)
 have RF:=aB (heap_alloc_new (w.alloc (.cells #[.int .i64 0,.slice none 0 0,.slice none 0 0,.slice none 0 0,.slice none 0 0] 32)) (.cells #[.slice clo cls.length clc,.slice none 0 0,.slice none 0 0,.slice none 0 0,.slice none 0 0,.int .i64 0] 91)) (.cells #[.slice none 0 0] 93)
 rw[World.size_alloc]at RF
 have hzb:=aB (aB (heap_alloc_new w (.cells #[.int .i64 0,.slice none 0 0,.slice none 0 0,.slice none 0 0,.slice none 0 0] 32)) (.cells #[.slice clo cls.length clc,.slice none 0 0,.slice none 0 0,.slice none 0 0,.slice none 0 0,.int .i64 0] 91)) (.cells #[.slice none 0 0] 93)
 have hcb:=heap_alloc_new ((w.alloc (.cells #[.int .i64 0,.slice none 0 0,.slice none 0 0,.slice none 0 0,.slice none 0 0] 32)).alloc (.cells #[.slice clo cls.length clc,.slice none 0 0,.slice none 0 0,.slice none 0 0,.slice none 0 0,.int .i64 0] 91)) (.cells #[.slice none 0 0] 93)
 simp only[World.size_alloc]at hcb
 have X8:(((w.alloc (.cells #[.int .i64 0,.slice none 0 0,.slice none 0 0,.slice none 0 0,.slice none 0 0] 32)).alloc (.cells #[.slice clo cls.length clc,.slice none 0 0,.slice none 0 0,.slice none 0 0,.slice none 0 0,.int .i64 0] 91)).alloc (.cells #[.slice none 0 0] 93)).heap.size=w.heap.size+3:=by simp
 generalize hW:(((w.alloc (.cells #[.int .i64 0,.slice none 0 0,.slice none 0 0,.slice none 0 0,.slice none 0 0] 32)).alloc (.cells #[.slice clo cls.length clc,.slice none 0 0,.slice none 0 0,.slice none 0 0,.slice none 0 0,.int .i64 0] 91)).alloc (.cells #[.slice none 0 0] 93))=W2 at*
 have hst:bG W2 (w.heap.size+1) 1 (qg clo cls.length clc none 0 0 none 0 0 none 0 0 none 0 0 0) 91 [] none 0:=⟨RF,rfl,World.ownsRow_nil _ _ _ _,by decide⟩
 have xK:gK (fun _=>True) W2 (w.heap.size+1) 1 (qg clo cls.length clc none 0 0 none 0 0 none 0 0 none 0 0 0) 91 (w.heap.size+1+1) [] [] none 0 none 0 id (fun n=> .v ([],n)):=⟨⟨hst,⟨hcb,World.ownsRow_nil _ _ _ _⟩,by decide,by decide,(fun d hd=>by cases hd)⟩,okD_empty,sto_empty,(fun v hv=>by cases hv)⟩
 have fA:cN W2 (w.heap.size+1) (qg clo cls.length clc none 0 0 none 0 0 none 0 0 none 0 0 0) [] none 0 id [] none 0:=⟨hst,okD_empty,rfl,World.ownsRow_nil _ _ _ _,(fun g hg=>by cases hg),(fun g hg=>by cases hg),(fun g hg=>by cases hg)⟩
 have IJ:=af (Cm W2 (w.heap.size+1) _ (w.heap.size+1+1) [] [] none 0 none 0 id _ (fun _=>True) [] none 0 N [] items o n c xK fA (fun g hg=>by cases hg) (fun _ _=>trivial) (h.it.keep (aT.below hb2)) (fun x hx=>(h.gl x hx).ok) rfl h.nm (by have:=h.nl;omega) (by have:=h.il;omega) (by simp) (by simp))
 have HQ:=af h
 have aZ:=af hb2
 have MZ:=af hzb
 have Yp:=af xK
 have Yq:=af fA
 have pO:=h.sl
 clear h hb1 hb2 RF hzb hcb hst xK fA
 go_enter Tryz.func28,Tryz.ntmps28
 go_wp2_with fail
 refine(ae IJ).mono ?_
 rintro e w3 ⟨rfl,E,F,no',nc',vo',vc',T',Gn,po',pc',dT⟩
 have uI:∀k,uO (w.heap.size+1) no' (w.heap.size+1+1) vo' po' k→w.heap.size≤k:=fun k q=>by
  rcases dT.fg.row k q with((e | ⟨_,e,_⟩ | e | ⟨_,e,_⟩) | ⟨_,e,_⟩) | e
  ·omega
  ·cases e
  ·omega
  ·cases e
  ·cases e
  ·omega
 have Gg:Below w.heap.size w w3:=(ae aZ).trans (dT.fg.down (by omega) fun k q=>by
  rcases q with(e | ⟨_,e,_⟩ | e | ⟨_,e,_⟩) | ⟨_,e,_⟩
  ·omega
  ·cases e
  ·omega
  ·cases e
  ·cases e)
 have hz3:w3.heap[w.heap.size]?=some (.cells #[.int .i64 0,.slice none 0 0,.slice none 0 0,.slice none 0 0,.slice none 0 0] 32 (0,0)):=(dT.fg.block _ (ag (ae MZ)) (fun q=>by
  rcases q with(e | ⟨_,e,_⟩ | e | ⟨_,e,_⟩) | ⟨_,e,_⟩
  ·omega
  ·cases e
  ·omega
  ·cases e
  ·cases e)).trans (ae MZ)
 have RG:cX w3 clo cls.length cls:=(ed.below Gg).cls (ae HQ).cl
 have UA:=dR.start dT RG (ae HQ).gl
 have wO:=dT.ms
 have wP:=dT.mc
 have dx:=dT.nd
 have gM:=dT.nv
 have jv:=dT.ln
 have dh:=dT.gl
 have fy:=dT.el
 simp only[List.nil_append,List.length_nil]at wO wP dx gM jv dh
 have s0:=ah wO.ad.sc.blk 0
 have sz0:=ag wO.ad.sc.blk
 have m2:w3.cell? ⟨w.heap.size+1,2,none⟩=some (.slice none 0 0):=ah wP.st.blk 2
 have mx2:=ay wP.st.blk 2
 have mz3:=ag wP.st.blk
 simp only[List.getElem?_toArray,List.getElem?_cons_zero]at s0
 have rf:∀f∈F,T' f= .v ([],f):=fun f hf=>by
  have:=pn (D:=[]) (E:=E) (F:=F) (fr:=id) (T':=T') (by simpa using wP.ok) (by simpa using wO.to) (by simpa using dx) (by simpa using gM) f hf
  exact this.2.2
 have hPS:CS N items F ⟨E,id,T',Gn⟩:=⟨rfl,dx,gM,jv,wO.lt,wO.to,wP.ok,dh⟩
 have hsm:Rq F ⟨E,id,T',Gn⟩:=by
  refine⟨fun v hv=> ?_,fun g hg x hx hne=> ?_⟩
  ·show Za.size (T' v)≤300
   rw[rf v hv]
   simp[Za.size]
  ·change g∈Gn at hg
   show Za.size (T' x.toNat)≤300
   obtain⟨j,hj,rfl⟩:=List.getElem_of_mem hg
   have Pn:j<items.length:=by have:=dh.length;omega
   have hg1:=dh.at j Pn hj
   have Ee:items[j]∈items:=List.getElem_mem Pn
   obtain⟨M,hM⟩:=(ae HQ).nm
   have hs:=(ae HQ).sz _ Ee (cP T' F N) (fun y hy=>by
    obtain⟨m,hm,he⟩:=Ih (T:=T') hy hM jv
    rw[he,rf m hm]
    simp[Za.size])
   have hgo:=(ae HQ).gl _ Ee
   rcases hx with rfl | rfl | rfl
   ·have e0:((Gn[j].l:Int)).toNat=Gn[j].l:=by simp
    rw[e0,hg1.tl]
    exact hs.1
   ·by_cases q:items[j].sign=[]
    ·exact absurd (hg1.r0 q) hne
    ·obtain⟨r,hr,_⟩:=hgo.ok.r1 q
     obtain⟨m,k1,k2,k3⟩:=hg1.r1 r hr
     rw[k1]
     have e0:((m:Int)).toNat=m:=by simp
     rw[e0,k3]
     exact hs.2.1 r hr
   ·by_cases q:items[j].op=[]
    ·exact absurd (hg1.z0 q) hne
    ·obtain⟨r,hr,_⟩:=hgo.ok.z1 q
     obtain⟨m,k1,k2,k3⟩:=hg1.z1 r hr
     rw[k1]
     have e0:((m:Int)).toNat=m:=by simp
     rw[e0,k3]
     exact hs.2.2 r hr
 have tT:Gn.length≤6:=by have:=dh.length;have:=(ae HQ).il;omega
 have hFl:F.length≤100:=by
  obtain⟨M,hM⟩:=(ae HQ).nm
  have h1:=(ae HQ).nl
  rw[hM,List.length_append]at h1
  omega
 have HST:=af (show Ux w cls clo clc F vo' vc' script ⟨E,id,T',Gn⟩ script.length (.int .i64 0) (w3.setCell ⟨w.heap.size+1,2,none⟩ (.slice vo' F.length vc'))from by
  refine⟨0,⟨E,id,T',Gn⟩,[],none,0,no',nc',po',pc',by omega,rfl,⟨.start,UA,hsm,by show Gn.length≤100;omega,rfl,?_,Gg.setCell (Nat.le_succ _) _,fun k q=> ?_,(aJ _ _ _ _ (by simp)).trans hz3⟩⟩
  ·show E.length≤_
   have:=(ae HQ).il
   have:items.length*19683≤6*19683:=Nat.mul_le_mul_right _ this
   omega
  ·rcases q with q | q | ⟨_,q,_⟩
   ·exact uI k (Or.inl (Or.inr (Or.inl q)))
   ·exact uI k (Or.inr q)
   ·cases q)
 have zg:=af hPS
 clear dT uI Gg hz3 RG UA wO wP dx gM jv dh fy rf hPS hsm tT IJ
 generalize (⟨E,id,T',Gn⟩:b8)=S0 at*
 go_wp2_with fail
 go_loopg [22] script.length (fun k iv wr=>Ux w cls clo clc F vo' vc' script S0 k iv wr)
 case atStart=>exact ae HST
 case round=>
  clear HST s0 sz0 m2 mx2 mz3
  obtain⟨j,S,L,lo,lc,nO,nC,po,pc,hkj,rfl,ur⟩:=hrel
  by_cases hlt:j<script.length
  ·obtain⟨g,off,sk,gz0,hcell⟩:=(ae HQ).sc (fun q=>by rw[q]at hlt;simp at hlt)
   subst sk
   obtain⟨c0,c1⟩:=hcell j hlt
   have d0:=(ur.be.cell (p:=⟨g,off+j*2,none⟩) gz0).trans c0
   have d1:=(ur.be.cell (p:=⟨g,off+j*2+1,none⟩) gz0).trans c1
   have mF:=(ae HQ).sr _ (List.getElem_mem hlt)
   have hsj:script[j]?=some (script[j].1,script[j].2):=by rw[List.getElem?_eq_getElem hlt]
   have gz:g<wr.heap.size:=Nat.lt_of_lt_of_le gz0 ur.be.size
   have i0:(0:Int)≤(j:Int):=by omega
   have i1:(j:Int)<(script.length:Int):=by omega
   generalize script[j].1=pg at*
   generalize script[j].2=pk at*
   have Jh:=(Below.refl wr.heap.size wr).alloc (Nat.le_refl _) (.cells #[.int .i64 pg,.int .i64 pk] 62)
   have RH:=ur.below Jh
   have M0:=heap_alloc_new wr (.cells #[.int .i64 pg,.int .i64 pk] 62)
   have e9:=Cc S.fr S.G S.G.length
   have dh:=ur.gl
   have IR:=af (zG _ _ _ S.D nO nC S.fr S.G po pc RH.ma.mc (by omega))
   have XN:=af RH
   have UB:=af M0
   have bf:=af hkj
   have bp:=af hlt
   have RI:=af hsj
   have zt:=af mF
   have Qw:j≤100:=by omega
   clear ur hkj hlt hsj mF hcell c0 c1 Jh RH M0
   go_wp2_with fail
   refine(ae IR).mono ?_
   rintro e w5 ⟨oo,oc,rfl,how,bt⟩
   have nK:=(ae XN).below bt
   have C0:=(bt.block _ (ag (ae UB))).trans (ae UB)
   have k0:=ah C0 0
   have k1:=ah C0 1
   have kz:=ag C0
   simp only[List.getElem?_toArray,List.getElem?_cons_zero,List.getElem?_cons_succ]at k0 k1
   by_cases p6:cu S.fr S.G S.G.length=[]
   ·have t0:(((cu S.fr S.G S.G.length).length:Int) == 0)=true:=by rw[p6];rfl
    have t1:((cu S.fr S.G S.G.length).length == 0)=true:=by rw[p6];rfl
    have IFN:=af (zJ w5 _ _ S.D nO nC S.fr S.G po pc nK.ma.mc (by omega) rfl)
    have C2:=af nK
    have jX:=af p6
    clear nK C0 how bt IR p6
    go_wp2_with fail
    refine(ae IFN).mono ?_
    rintro e w6 ⟨rfl,W,hbW,rfl⟩
    have IRS:=af (((ae C2).below hbW).res (ae HQ).pw hFl (Or.inr (ae jX)))
    clear hbW IFN
    go_wp2_with fail
    refine(ae IRS).mono ?_
    rintro e w7 ⟨xo,xc,go,gc,yo,yc,rfl,C3,lf,gR,Js⟩
    have z0:=ah gR
    have zx:=ay gR
    have zz:=ag gR
    have RJ:=af (Js [.int .i64 (gG S.fr S.G),.slice lo L.length lc,.slice xo F.length xc,.slice go S.G.length gc,.slice yo S.G.length yc] rfl)
    have wQ:=af lf
    clear C3 lf gR Js IRS
    go_wp2_with fail
    refine bodyPost_ret (v:= .agg #[.int .i64 (gG S.fr S.G),.slice lo L.length lc,.slice xo F.length xc,.slice go S.G.length gc,.slice yo S.G.length yc]) (by simp[results,Tryz.results28,go_sem,z0]) rfl ?_
    exact⟨F,S0,ae zg,ae RJ,(((((ae wQ).setCell (Nat.le_refl _) _).setCell (Nat.le_refl _) _).setCell (Nat.le_refl _) _).setCell (Nat.le_refl _) _).setCell (Nat.le_refl _) _⟩
   ·have cq:0<(cu S.fr S.G S.G.length).length:=List.length_pos_iff.2 p6
    have hbg:=tX pg (cu S.fr S.G S.G.length).length cq
    obtain⟨rg,hrg⟩:∃rg,oo=some ⟨rg,0,none⟩:=by
     rcases how.2 with⟨q,q2⟩ | ⟨g,cp,cur,q,_⟩
     ·omega
     ·simp only[Value.slice.injEq]at q
      exact⟨g,q.1⟩
    subst hrg
    have rz:=(how.lt rg rfl).2
    have Yr:w5.cell? ⟨rg,dA pg (cu S.fr S.G S.G.length).length,none⟩=some (.int .i64 ((cu S.fr S.G S.G.length)[dA pg (cu S.fr S.G S.G.length).length]:Int)):=by
     rw[how.cellAt _ (by omega),List.getElem?_map,List.getElem?_eq_getElem hbg]
     rfl
    have UC:(cu S.fr S.G S.G.length)[dA pg (cu S.fr S.G S.G.length).length]?=some (cu S.fr S.G S.G.length)[dA pg (cu S.fr S.G S.G.length).length]:=List.getElem?_eq_getElem hbg
    have sw:=Om S.fr S.G S.G.length _ (List.getElem_mem hbg)
    have mF:=ae zt
    have IC:=af (fun W=>zO W pg (cu S.fr S.G S.G.length).length (by omega) mF.1.1 mF.1.2)
    generalize (cu S.fr S.G S.G.length)[dA pg (cu S.fr S.G S.G.length).length]=ii at*
    have RM:=af UC
    generalize UD:dA pg (cu S.fr S.G S.G.length).length=bq at*
    have RN:=af UD
    clear UD
    have t0:(((cu S.fr S.G S.G.length).length:Int) == 0)=false:=by simp;omega
    have t1:((cu S.fr S.G S.G.length).length == 0)=false:=by simp;omega
    have j0:(0:Int)≤(bq:Int):=by omega
    have j1:(bq:Int)<((cu S.fr S.G S.G.length).length:Int):=by omega
    have IST:=af (fun W (hu:Below w5.heap.size w5 W)=>(Lm W (w.heap.size+1) cls clo clc F vo' vc' L lo lc S nO nC po pc ii pk (nK.ma.below hu) (ae HQ).ok (ae HQ).cc sw (fun g hg=>by
     have:=nK.sm.2 g hg (g.l:Int) (Or.inl rfl) (by omega)
     simpa using this) mF.2.1 mF.2.2 (by have:=nK.dl;omega) (by omega) (by have:=nK.ll;omega) (by omega)).mono (fun e w' q=>And.intro q.1 (q.2.from hu)))
    have C2:=af nK
    clear nK C0 how bt IR p6 UC mF sw hbg cq
    generalize zF:(cu S.fr S.G S.G.length).length=rn at*
    have zQ:=af zF
    clear zF
    go_wp2_with fail
    refine(ae IC _).mono ?_
    rintro e w5 ⟨rfl,rfl⟩
    go_wp2_with fail
    go_region_with (go_at_call 45;refine(ae IST _ (by first | exact Below.refl _ _ | exact(Below.refl _ _).drew | exact(Below.refl _ _).drew.drew | exact(Below.refl _ _).drew.drew.drew)).mono ?_;rintro y w6 ⟨rfl,hst⟩)
    all_goals
     obtain⟨lo',lc',hst⟩:=hst
     rcases hst with⟨z,S',nO',nC',po9,pc9,hgo,je,hm,zo,hf⟩ | ⟨z,S',hgo,je,hm,hf⟩ | ⟨en,hgo,hen,hm,hf⟩
     ·have I5:=(ae C2).next (ae RI) (by rw[ae zQ,ae RN];exact ae RM) hgo je hm zo hf
      have f5:w6.cell? ⟨w.heap.size+1,5,none⟩=some (.int .i64 0):=ah hm.mc.st.blk 5
      have mz6:=ag hm.mc.st.blk
      have jY:=af I5
      clear I5 hm hgo je zo hf
      go_wp2_with fail
      go_roundg (gk - 1)
      case measure=>have:=ae bf;have:=ae bp;omega
      case rel=>exact⟨j+1,S',L++[z],lo',lc',nO',nC',po9,pc9,by have:=ae bf;have:=ae bp;omega,by go_num,ae jY⟩
     ·have nK:=ae C2
      obtain⟨C4,xC,y4⟩:=nK.frame hf
      have C5:∀k,rowOf lo' k→w.heap.size≤k:=fun k q=>xC k (Or.inr q)
      clear xC
      have DR:=hm
      obtain⟨cs6,fI,h66,h46,h56,RQ⟩:=hm
      have f5:=(ah fI 5).trans h56
      have mz6:=ag fI
      have t5:(6 == 0)=false:=rfl
      have IFE:=af (xJ w6 _ cs6 _ 6 fI h56 (by decide))
      have IRE:=af (DR.res (Or.inr (Or.inr rfl)) C4 y4 C5)
      have RR:=af nK.ru
      clear nK C4 y4 C5 DR fI h66 h46 h56 RQ hf
      have zT:=af hgo
      have El:=af je
      clear hgo je
      go_wp2_with fail
      refine(ae IFE).mono ?_
      rintro e w6 ⟨rfl,rfl⟩
      go_wp2_with fail
      refine(ae IRE).mono ?_
      rintro e w7 ⟨rfl,lf,gR,xT⟩
      have z0:=ah gR
      have zx:=ay gR
      have zz:=ag gR
      have wQ:=af lf
      have kX:=af xT
      clear lf gR xT IRE IFE
      go_wp2_with fail
      refine bodyPost_ret (v:= .agg #[.int .i64 6,.slice lo' (L++[z]).length lc',.slice none 0 0,.slice none 0 0,.slice none 0 0]) (by simp[results,Tryz.results28,go_sem,z0]) rfl ?_
      refine⟨F,S0,ae zg,⟨j,S,L,lo',lc',ae RR,Or.inr ⟨pg,pk,ii,6,z,ae RI,by rw[ae zQ,ae RN];exact ae RM,Or.inr ⟨rfl,S',ae zT,ae El⟩,rfl,?_⟩⟩,(((((ae wQ).setCell (Nat.le_refl _) _).setCell (Nat.le_refl _) _).setCell (Nat.le_refl _) _).setCell (Nat.le_refl _) _).setCell (Nat.le_refl _) _⟩
      refine cf (ai (ae kX) fun k q=> ?_) (Nat.le_succ _)
      have hne:k≠w.heap.size:=by have:=((ae kX).lt k q).1;omega
      rw[aJ _ _ _ _ hne,aJ _ _ _ _ hne,aJ _ _ _ _ hne,aJ _ _ _ _ hne,aJ _ _ _ _ hne]
     ·have nK:=ae C2
      obtain⟨C4,xC,y4⟩:=nK.frame hf
      have C5:∀k,rowOf lo' k→w.heap.size≤k:=fun k q=>xC k (Or.inr q)
      clear xC
      have DR:=hm
      obtain⟨cs6,fI,h66,h46,h56,RQ⟩:=hm
      have f5:=(ah fI 5).trans h56
      have mz6:=ag fI
      have t5:(en == 0)=false:=by rcases hen with q | q<;>(rw[q];rfl)
      have IFE:=af (xJ w6 _ cs6 _ en fI h56 (by rcases hen with q | q<;>(rw[q];decide)))
      have IRE:=af (DR.res (by rcases hen with q | q;exact Or.inl q;exact Or.inr (Or.inl q)) C4 y4 C5)
      have RR:=af nK.ru
      clear nK C4 y4 C5 DR fI h66 h46 h56 RQ hf
      have zT:=af hgo
      have QY:=af hen
      clear hgo hen
      go_wp2_with fail
      refine(ae IFE).mono ?_
      rintro e w6 ⟨rfl,rfl⟩
      go_wp2_with fail
      refine(ae IRE).mono ?_
      rintro e w7 ⟨rfl,lf,gR,xT⟩
      have z0:=ah gR
      have zx:=ay gR
      have zz:=ag gR
      have wQ:=af lf
      have kX:=af xT
      clear lf gR xT IRE IFE
      go_wp2_with fail
      refine bodyPost_ret (v:= .agg #[.int .i64 en,.slice lo' (L++[(-2)]).length lc',.slice none 0 0,.slice none 0 0,.slice none 0 0]) (by simp[results,Tryz.results28,go_sem,z0]) rfl ?_
      refine⟨F,S0,ae zg,⟨j,S,L,lo',lc',ae RR,Or.inr ⟨pg,pk,ii,en,(-2),ae RI,by rw[ae zQ,ae RN];exact ae RM,Or.inl ⟨ae zT,ae QY,rfl⟩,rfl,?_⟩⟩,(((((ae wQ).setCell (Nat.le_refl _) _).setCell (Nat.le_refl _) _).setCell (Nat.le_refl _) _).setCell (Nat.le_refl _) _).setCell (Nat.le_refl _) _⟩
      refine cf (ai (ae kX) fun k q=> ?_) (Nat.le_succ _)
      have hne:k≠w.heap.size:=by have:=((ae kX).lt k q).1;omega
      rw[aJ _ _ _ _ hne,aJ _ _ _ _ hne,aJ _ _ _ _ hne,aJ _ _ _ _ hne,aJ _ _ _ _ hne]
  ·obtain rfl:j=script.length:=by omega
   have dh:=ur.gl
   have IFN:=af (zJ wr _ _ S.D nO nC S.fr S.G po pc ur.ma.mc (by omega) rfl)
   have C2:=af ur
   clear ur hkj hlt
   go_wp2_with fail
   refine(ae IFN).mono ?_
   rintro e w6 ⟨rfl,W,hbW,rfl⟩
   have IRS:=af (((ae C2).below hbW).res (ae HQ).pw hFl (Or.inl rfl))
   clear hbW IFN
   go_wp2_with fail
   refine(ae IRS).mono ?_
   rintro e w7 ⟨xo,xc,go,gc,yo,yc,rfl,C3,lf,gR,Js⟩
   have z0:=ah gR
   have zx:=ay gR
   have zz:=ag gR
   have RJ:=af (Js [.int .i64 (gG S.fr S.G),.slice lo L.length lc,.slice xo F.length xc,.slice go S.G.length gc,.slice yo S.G.length yc] rfl)
   have wQ:=af lf
   clear C3 lf gR Js IRS
   go_wp2_with fail
   refine bodyPost_ret (v:= .agg #[.int .i64 (gG S.fr S.G),.slice lo L.length lc,.slice xo F.length xc,.slice go S.G.length gc,.slice yo S.G.length yc]) (by simp[results,Tryz.results28,go_sem,z0]) rfl ?_
   exact⟨F,S0,ae zg,ae RJ,(((((ae wQ).setCell (Nat.le_refl _) _).setCell (Nat.le_refl _) _).setCell (Nat.le_refl _) _).setCell (Nat.le_refl _) _).setCell (Nat.le_refl _) _⟩
end Go.Proofs.YthfjnfcekeknlaaGreatDoor
namespace Za
def query (l:List aj):dM (List aH):=match items 5 false true l with
 | .inl e=> .inl e
 | .inr ((ys,_,_),l1)=>if(hd l1).kind=0 then .inr (ys,l1)else bad 2 l1
theorem Oo {l:List aj} {e:Nat×Nat} (h:items 5 false true l= .inl e):query l= .inl e:=by unfold query;rw[h]
theorem EC {l l1:List aj} {ys:List aH} {a b:Bool} (h:items 5 false true l= .inr ((ys,a,b),l1)) (hk:(hd l1).kind=0):query l= .inr (ys,l1):=by unfold query;rw[h];dsimp only;rw[if_pos hk]
theorem Oq {l l1:List aj} {ys:List aH} {a b:Bool} (h:items 5 false true l= .inr ((ys,a,b),l1)) (hk:(hd l1).kind≠0):query l=bad 2 l1:=by unfold query;rw[h];dsimp only;rw[if_neg hk]
end Za
namespace Go.Proofs.YthfjnfcekeknlaaGreatDoor
open Go.RowKit
def XO (r:Za.dM (List Za.aH)) (w:World) (e:Ending) (w':World):Prop:=∃(o:Option Addr) (n cap er:Nat),e= .returned (.agg #[.slice o n cap,.int .i64 (er:Int)])∧(match r with
 | .inl (er',_)=>er=er'
 | .inr (ys,_)=>er=0∧b6 (Za.aC [] ys) w' o n ys)∧Below w.heap.size w w'
theorem Ot (w:World) (s:ByteArray) (hs:96<s.size):
 Calls Tryz.prog 27 #[.string s] w fun e w'=>e= .returned (.agg #[.slice none 0 0,.int .i64 1])∧Below w.heap.size w w':=by
 have hsz:decide (96<(s.size:Int))=true:=by simp;omega
 go_enter Tryz.func27,Tryz.ntmps27
 go_wp2_with fail
 refine bodyPost_ret (v:= .agg #[.slice none 0 0,.int .i64 1]) (by simp[results,Tryz.results27,go_sem]) rfl ?_
 exact⟨rfl,(Below.refl _ _).alloc (Nat.le_refl _) _⟩
theorem RT (w:World) (s:ByteArray) (L:List Za.aj) (hs:s.size≤96) (hL:Za.dY s L) (hh:Za.hd L=Za.next s 0) (hl:L.length≤1000) (aW:dH w) (h0:0<w.heap.size):
 Calls Tryz.prog 27 #[.string s] w fun e w'=>XO (Za.query L) w e w':=by
 have hsz:decide (96<(s.size:Int))=false:=by simp;omega
 have jG:=af aW
 clear aW
 go_enter Tryz.func27,Tryz.ntmps27
 go_wp2_with fail
 refine(vP s 0 _ (by unfold maxLen;omega) (Nat.zero_le _) ((ae jG).below ((Below.refl _ _).alloc (Nat.le_refl _) _) h0) (by simp)).mono ?_
 rintro e w1 ⟨rfl,hb1⟩
 have B6:=((ae jG).below ((Below.refl _ _).alloc (Nat.le_refl _) (.cells #[.slice none 0 0,.int .i64 0] 56)) h0).below hb1 (by simp)
 have qT:w.heap.size<w1.heap.size:=by have:=hb1.size;simp at this;omega
 have HS:=af (GX B6 (by omega) hL hh hl (by omega))
 have aX:=af (aB ((hb1.block w.heap.size (by simp)).trans (heap_alloc_new w (.cells #[.slice none 0 0,.int .i64 0] 56))) (.cells #[.string s,.int .i64 ((Za.next s 0).kind:Int),.int .i64 ((Za.next s 0).pos:Int),.string (Za.next s 0).text,.slice none 0 0,.int .i64 0] 73))
 have dy:=af ((((Below.refl w.heap.size w).alloc (Nat.le_refl _) (.cells #[.slice none 0 0,.int .i64 0] 56)).trans (hb1.mono (by simp))).alloc (by omega) (.cells #[.string s,.int .i64 ((Za.next s 0).kind:Int),.int .i64 ((Za.next s 0).pos:Int),.string (Za.next s 0).text,.slice none 0 0,.int .i64 0] 73))
 clear hb1 B6 jG hL hh hl
 generalize (Za.next s 0).kind=tk at*
 generalize (Za.next s 0).pos=tp at*
 generalize (Za.next s 0).text=tt at*
 have Ys:(w1.alloc (.cells #[.string s,.int .i64 (tk:Int),.int .i64 (tp:Int),.string tt,.slice none 0 0,.int .i64 0] 73)).heap.size=w1.heap.size+1:=by simp
 have I:=af (pZ _ w1.heap.size s L [] (.slice none 0 0) 0 false true (ae HS))
 go_wp2_with fail
 refine(ae I).mono ?_
 generalize hW:w1.alloc (.cells #[.string s,.int .i64 (tk:Int),.int .i64 (tp:Int),.string tt,.slice none 0 0,.int .i64 0] 73)=W at*
 generalize mr:w1.heap.size=rb at*
 clear I hW mr
 generalize hr:Za.items 5 false true L=r
 have HR:=af hr
 clear hr
 rcases r with⟨er,pos⟩ | ⟨⟨ys,tb,gb⟩,l1⟩
 ·rintro e w2 ⟨l',ns',nv',rfl,hs2,-,hk2⟩
  have hz2:=hk2.size
  have b0:=aq hk2 (ae aX) (by simp;omega)
  have y0:=ah b0
  have x0:=ay b0
  have z0:=ag b0
  have c5:=hs2.rd.c5
  have zr:=hs2.lt
  have dr:=af (show Below w.heap.size w w2 from (ae dy).trans (hk2.below (by have:=(ae dy).size;omega) (by omega) (by simp;omega)))
  have zw:w.heap.size≤w2.heap.size:=(ae dr).size
  clear hs2 hk2 b0
  go_wp2_with fail
  refine bodyPost_ret (v:= .agg #[.slice none 0 0,.int .i64 er]) (by simp[results,Tryz.results27,go_sem,y0,z0,World.cell?_alloc_past]) rfl ?_
  rw[Za.Oo (ae HR)]
  exact⟨none,0,0,er,rfl,rfl,by first | exact(((ae dr).setCell (Nat.le_refl _) _).setCell (Nat.le_refl _) _).alloc (by simp only[cI];omega) _ | exact(((ae dr).alloc (by omega) _).setCell (Nat.le_refl _) _).setCell (Nat.le_refl _) _⟩
 ·rintro e w2 ⟨ao,n,cap,ns',nv',e',rfl,⟨hit,kE⟩,hs2,hk2⟩
  have hz2:=hk2.size
  have b0:=aq hk2 (ae aX) (by simp;omega)
  have zr:=hs2.lt
  have dr:=af (show Below w.heap.size w w2 from (ae dy).trans (hk2.below (by have:=(ae dy).size;omega) (by omega) (by simp;omega)))
  have zw:w.heap.size≤w2.heap.size:=(ae dr).size
  have bZ:=af hs2
  have kx:=af b0
  have MB:=af hit
  have gS:=af kE
  have y0:=ah b0
  have x0:=ay b0
  have z0:=ag b0
  clear hs2 hk2 b0 hit kE
  by_cases hk:(Za.hd l1).kind=0
  ·have HW:=af (Za.EC (ae HR) hk)
   go_wp2_with fail
   refine(NJ _ rb s l1 ns' _ e' ((ae bZ).below ((Below.refl _ _).alloc (Nat.le_refl _) _)) hk).mono ?_
   rintro e w3 ⟨rfl,rfl⟩
   clear hk
   go_wp2_with fail
   refine bodyPost_ret (v:= .agg #[.slice ao n cap,.int .i64 0]) (by simp[results,Tryz.results27,go_sem,y0,z0,World.cell?_alloc_past]) rfl ?_
   rw[ae HW]
   have hne:∀{g:Nat} {cs:Array Value} {Y:TypeId},w2.heap[g]?=some (.cells cs Y (0,0))→Y≠56→g≠w.heap.size:=fun {g cs Y} hg hY e=>by
    rw[e,ae kx]at hg
    simp only[Option.some.injEq,Obj.cells.injEq]at hg
    exact hY hg.2.1.symm
   refine⟨ao,n,cap,0,rfl,⟨rfl,?_⟩,(((ae dr).setCell (Nat.le_refl _) _).setCell (Nat.le_refl _) _).alloc (by simp only[cI];omega) _⟩
   have hn:aU ns'=Za.aC [] ys:=ae gS
   rw[←hn]
   refine(ae MB).keep ⟨fun g cs hg _=> ?_,fun g cs hg _=> ?_⟩
   ·have q:=hne hg (by decide)
    rw[Below.heap_alloc _ _ _ (by simp only[cI];exact ag hg),aJ _ _ _ _ q,aJ _ _ _ _ q]
    exact hg
   ·have q:=hne hg (by decide)
    rw[Below.heap_alloc _ _ _ (by simp only[cI];exact ag hg),aJ _ _ _ _ q,aJ _ _ _ _ q]
    exact hg
  ·have HW:=af (Za.Oq (ae HR) hk)
   go_wp2_with fail
   refine(NK _ rb s l1 ns' _ e' ((ae bZ).below ((Below.refl _ _).alloc (Nat.le_refl _) _)) hk).mono ?_
   clear hk
   rintro e w3 ⟨rfl,hs3,hk3⟩
   have b3:=aq hk3 (aB (ae kx) _) (by simp;omega)
   have y3:=ah b3
   have x3:=ay b3
   have z3:=ag b3
   have c5:=hs3.rd.c5
   have zr3:=hs3.lt
   have nP:=af (show Below w.heap.size w w3 from ((ae dr).alloc (ae dr).size _).trans (hk3.below (by have:=(ae dr).size;simp;omega) (by omega) (by simp;omega)))
   clear hs3 hk3 b3 y0 x0 z0
   go_wp2_with fail
   refine bodyPost_ret (v:= .agg #[.slice none 0 0,.int .i64 2]) (by simp[results,Tryz.results27,go_sem,y3]) rfl ?_
   rw[ae HW]
   exact⟨none,0,0,2,rfl,rfl,((ae nP).setCell (Nat.le_refl _) _).setCell (Nat.le_refl _) _⟩
end Go.Proofs.YthfjnfcekeknlaaGreatDoor
namespace Za
def NZ {α:Type} (r:dM α):Prop:=∀e,r= .inl e→e.1≠0
theorem fL {α:Type} {e:Nat} (he:e≠0) (l:List aj):NZ (bad (α:=α) e l):=fun x hx=>by
 unfold bad at hx
 cases hx
 exact he
theorem eO {α:Type} (x:α×List aj):NZ (.inr x:dM α):=fun e he=>by cases he
theorem Ou {p:List aj→dM Tm} (hp:∀l,NZ (p l)):∀(k:Nat) (l:List aj),NZ (bL p k l):=by
 intro k
 induction k with
 | zero=>
  intro l
  unfold bL
  cases hr:p l with
  | inl e=>intro x hx;cases hx;exact hp l e hr
  | inr r=>
   dsimp only
   split
   ·exact fL (by omega) _
   ·split
    ·exact eO _
    ·exact fL (by omega) _
 | succ k ih=>
  intro l
  unfold bL
  cases hr:p l with
  | inl e=>intro x hx;cases hx;exact hp l e hr
  | inr r=>
   dsimp only
   split
   ·have:=ih r.2.tail
    cases hq:bL p k r.2.tail with
    | inl e=>intro x hx;cases hx;exact this e hq
    | inr q=>exact eO _
   ·split
    ·exact eO _
    ·exact fL (by omega) _
theorem nz_term:∀(f:Nat) (l:List aj),NZ (term f l):=by
 intro f
 induction f with
 | zero=>
  intro l
  unfold term
  split
  ·exact fL (by omega) _
  ·exact fL (by omega) _
 | succ f ih=>
  intro l
  unfold term
  split
  ·split
   ·exact fL (by omega) _
   ·split
    ·split
     ·have:=Ou ih 2 l.tail.tail
      cases hq:bL (term f) 2 l.tail.tail with
      | inl e=>intro x hx;cases hx;exact this e hq
      | inr q=>exact eO _
     ·exact eO _
    ·exact eO _
  ·exact fL (by omega) _
theorem xU (l:List aj):NZ (operand l):=by
 unfold operand
 split
 ·exact fL (by omega) _
 ·exact nz_term 8 l
theorem C6 (t:Tm) (b:Bool) (l:List aj):NZ (sides t b l):=by
 unfold sides
 split
 ·cases hq:term 8 l.tail with
  | inl e=>intro x hx;cases hx;exact nz_term 8 _ e hq
  | inr q=>exact eO _
 ·exact fL (by omega) _
theorem Jt (t:Tm) (b:Bool) (l:List aj):NZ (assignment t b l):=by
 unfold assignment
 split
 ·cases hq:operand l.tail with
  | inl e=>intro x hx;cases hx;exact xU _ e hq
  | inr q=>
   dsimp only
   split
   ·cases jw:operand q.2.tail with
    | inl e=>intro x hx;cases hx;exact xU _ e jw
    | inr q2=>exact eO _
   ·exact eO _
 ·exact fL (by omega) _
theorem ED (a b:Bool) (l:List aj):NZ (item a b l):=by
 unfold item
 cases hq:term 8 l with
 | inl e=>intro x hx;cases hx;exact nz_term 8 _ e hq
 | inr q=>
  dsimp only
  split
  ·cases h2:sides q.1 a q.2 with
   | inl e=>intro x hx;cases hx;exact C6 _ _ _ e h2
   | inr q2=>exact eO _
  ·split
   ·cases h2:sides q.1 b q.2 with
    | inl e=>intro x hx;cases hx;exact C6 _ _ _ e h2
    | inr q2=>exact eO _
   ·split
    ·cases h2:assignment q.1 b q.2 with
     | inl e=>intro x hx;cases hx;exact Jt _ _ _ e h2
     | inr q2=>exact eO _
    ·split
     ·exact eO _
     ·exact fL (by omega) _
theorem nz_items:∀(k:Nat) (a b:Bool) (l:List aj),NZ (items k a b l):=by
 intro k
 induction k with
 | zero=>
  intro a b l
  unfold items
  cases hq:item a b l with
  | inl e=>intro x hx;cases hx;exact ED _ _ _ e hq
  | inr q=>
   dsimp only
   split
   ·exact fL (by omega) _
   ·exact eO _
 | succ k ih=>
  intro a b l
  unfold items
  cases hq:item a b l with
  | inl e=>intro x hx;cases hx;exact ED _ _ _ e hq
  | inr q=>
   dsimp only
   split
   ·cases h2:items k q.1.2.1 q.1.2.2 q.2.tail with
    | inl e=>intro x hx;cases hx;exact ih _ _ _ e h2
    | inr q2=>exact eO _
   ·exact eO _
theorem LY (l:List aj):NZ (query l):=by
 unfold query
 cases hq:items 5 false true l with
 | inl e=>intro x hx;cases hx;exact nz_items _ _ _ _ e hq
 | inr q=>
  dsimp only
  split
  ·exact eO _
  ·exact fL (by omega) _
theorem Ov (l:List aj):NZ (body l):=by
 unfold body
 cases hq:items 5 true true l with
 | inl e=>intro x hx;cases hx;exact nz_items _ _ _ _ e hq
 | inr q=>
  dsimp only
  split
  ·cases h2:items 5 false true q.2.tail with
   | inl e=>intro x hx;cases hx;exact nz_items _ _ _ _ e h2
   | inr q2=>
    dsimp only
    split
    ·exact eO _
    ·exact fL (by omega) _
  ·split
   ·exact eO _
   ·exact fL (by omega) _
theorem EE {α:Type} (x:α) (l:List aj):NZ (stop x l):=by
 unfold stop
 split
 ·exact eO _
 ·exact fL (by omega) _
theorem zX (b:Bool) (l:List aj):NZ (clause b l):=by
 unfold clause
 split
 ·split
  ·cases hq:term 8 l with
   | inl e=>intro x hx;cases hx;exact nz_term 8 _ e hq
   | inr q=>
    dsimp only
    split
    ·cases h2:body q.2.tail with
     | inl e=>intro x hx;cases hx;exact Ov _ e h2
     | inr q2=>exact EE _ _
    ·exact EE _ _
  ·exact fL (by omega) _
 ·exact fL (by omega) _
theorem nz_prog:∀(k:Nat) (l:List aj),NZ (prog k l):=by
 intro k
 induction k with
 | zero=>
  intro l
  unfold prog
  split
  ·exact eO _
  ·cases hq:clause false l with
   | inl e=>intro x hx;cases hx;exact zX _ _ e hq
   | inr q=>exact eO _
 | succ k ih=>
  intro l
  unfold prog
  split
  ·exact eO _
  ·cases hq:clause true l with
   | inl e=>intro x hx;cases hx;exact zX _ _ e hq
   | inr q=>
    dsimp only
    cases h2:prog k q.2 with
    | inl e=>intro x hx;cases hx;exact ih _ e h2
    | inr q2=>exact eO _
def jx (t:Tm):Nat:=size (pM 8 0 t)
theorem rR {l l1:List aj} {t:Tm} (h:term 8 l= .inr (t,l1)):jx t+l1.length≤l.length:=by
 obtain⟨c,h1,h2⟩:=Gz 0 8 l t l1 h
 have:=h2.2
 rw[subs_len]at this
 unfold jx
 omega
def zY (x:aH):Nat:=jx x.left+x.right.elim 0 jx+x.last.elim 0 jx
theorem gI {l:List aj} {g:List UInt8} (h:sees l g=true):(hd l).text.toList=g:=by
 unfold sees at h
 simp only[Bool.and_eq_true,beq_iff_eq]at h
 exact h.2
theorem Ag {l:List aj} (h:bF l=true):((hd l).text.toList=[61,61]∨(hd l).text.toList=[92,61]∨(hd l).text.toList=[61,60]∨(hd l).text.toList=[60])∧l.length=l.tail.length+1:=by
 unfold bF at h
 simp only[Bool.or_eq_true]at h
 rcases h with((h | h) | h) | h
 ·exact⟨Or.inr (Or.inr (Or.inr (gI h))),dJ h⟩
 ·exact⟨Or.inr (Or.inr (Or.inl (gI h))),dJ h⟩
 ·exact⟨Or.inl (gI h),dJ h⟩
 ·exact⟨Or.inr (Or.inl (gI h)),dJ h⟩
theorem Ah {l:List aj} (h:gL l=true):(hd l).text.toList.length=1∧l.length=l.tail.length+1:=by
 unfold gL at h
 simp only[Bool.or_eq_true]at h
 rcases h with(h | h) | h
 ·exact⟨by rw[gI h];rfl,dJ h⟩
 ·exact⟨by rw[gI h];rfl,dJ h⟩
 ·exact⟨by rw[gI h];rfl,dJ h⟩
theorem xV {l l1:List aj} {t:Tm} (h:operand l= .inr (t,l1)):wfK 8 t∧jx t+l1.length≤l.length:=by
 unfold operand at h
 split at h
 ·cases h
 ·exact⟨wfK_term 8 l t l1 h,rR h⟩
theorem C7 {t:Tm} {b:Bool} {l l2:List aj} {x:aH} (h:sides t b l= .inr (x,l2)):b=true∧∃r,x=⟨t,(hd l).text.toList,some r,[],none⟩∧wfK 8 r∧jx r+l2.length≤l.tail.length:=by
 unfold sides at h
 split at h
 ·rename_i hb
  cases hq:term 8 l.tail with
  | inl e=>rw[hq]at h;cases h
  | inr q=>
   obtain⟨r,l3⟩:=q
   rw[hq]at h
   cases h
   exact⟨hb,r,rfl,wfK_term 8 _ r _ hq,rR hq⟩
 ·cases h
theorem Ju {t:Tm} {b:Bool} {l l2:List aj} {x:aH} (h:assignment t b l= .inr (x,l2)):b=true∧∃r,wfK 8 r∧((x=⟨t,(hd l).text.toList,some r,[],none⟩∧jx r+l2.length≤l.tail.length)∨∃o z,o.length=1∧wfK 8 z∧x=⟨t,(hd l).text.toList,some r,o,some z⟩∧jx r+jx z+l2.length≤l.tail.length):=by
 unfold assignment at h
 split at h
 ·rename_i hb
  cases hq:operand l.tail with
  | inl e=>rw[hq]at h;cases h
  | inr q=>
   obtain⟨r,l3⟩:=q
   rw[hq]at h
   dsimp only at h
   obtain⟨w1,s1⟩:=xV hq
   split at h
   ·rename_i ho
    obtain⟨o1,o2⟩:=Ah ho
    cases jw:operand l3.tail with
    | inl e=>rw[jw]at h;cases h
    | inr q2=>
     obtain⟨z,l4⟩:=q2
     rw[jw]at h
     cases h
     obtain⟨w2,s2⟩:=xV jw
     exact⟨hb,r,w1,Or.inr ⟨_,z,o1,w2,rfl,by omega⟩⟩
   ·cases h
    exact⟨hb,r,w1,Or.inl ⟨rfl,s1⟩⟩
 ·cases h
theorem EF {a b t1 g1:Bool} {l l1:List aj} {x:aH} (h:item a b l= .inr ((x,t1,g1),l1)):(t1=true→a=true∧iC x)∧(g1=true→b=true∧iW x)∧(a=false→b=true→g1=true)∧zY x+l1.length≤l.length:=by
 unfold item at h
 cases hq:term 8 l with
 | inl e=>rw[hq]at h;cases h
 | inr q=>
  obtain⟨t,l2⟩:=q
  rw[hq]at h
  dsimp only at h
  have wt:=wfK_term 8 l t l2 hq
  have st:=rR hq
  split at h
  ·rename_i hs
   obtain⟨s1,s2⟩:=Ag hs
   cases h2:sides t a l2 with
   | inl e=>rw[h2]at h;cases h
   | inr q2=>
    obtain⟨y,l3⟩:=q2
    rw[h2]at h
    obtain⟨ha,r,rfl,wr,sr⟩:=C7 h2
    cases h
    refine⟨fun _=>⟨ha,⟨wt,(fun r' q=>by cases q;exact wr),(fun q=>by cases q),(fun r' q=>by cases q;exact s1),rfl⟩⟩,(fun q=>by cases q),(fun q=>by rw[ha]at q;cases q),?_⟩
    show jx t+jx r+0+l1.length≤l.length
    omega
  ·split at h
   ·rename_i hs
    have s1:=gI hs
    have s2:=dJ hs
    cases h2:sides t b l2 with
    | inl e=>rw[h2]at h;cases h
    | inr q2=>
     obtain⟨y,l3⟩:=q2
     rw[h2]at h
     obtain⟨hb,r,rfl,wr,sr⟩:=C7 h2
     cases h
     refine⟨(fun q=>by cases q),fun _=>⟨hb,⟨⟨wt,fun q=> ?_,fun _=>⟨r,rfl,wr⟩,fun _=>rfl,fun q=>absurd rfl q,fun q=>absurd rfl q⟩,Or.inr (Or.inl s1),fun q=> ?_,fun q=>absurd rfl q,by simp⟩⟩,fun _ q=>q,?_⟩
     ·change (hd l2).text.toList=[]at q;rw[s1]at q;cases q
     ·change (hd l2).text.toList=[]at q;rw[s1]at q;cases q
     ·show jx t+jx r+0+l1.length≤l.length
      omega
   ·split at h
    ·rename_i hs
     have s1:=gI hs.2
     have s2:=dJ hs.2
     cases h2:assignment t b l2 with
     | inl e=>rw[h2]at h;cases h
     | inr q2=>
      obtain⟨y,l3⟩:=q2
      rw[h2]at h
      obtain⟨hb,r,wr,hx⟩:=Ju h2
      cases h
      rcases hx with⟨rfl,sr⟩ | ⟨o,z,ho,wz,rfl,sr⟩
      ·refine⟨(fun q=>by cases q),fun _=>⟨hb,⟨⟨wt,fun q=> ?_,fun _=>⟨r,rfl,wr⟩,fun _=>rfl,fun q=>absurd rfl q,fun q=>absurd rfl q⟩,Or.inr (Or.inr s1),fun q=> ?_,fun q=>absurd rfl q,by simp⟩⟩,fun _ q=>q,?_⟩
       ·change (hd l2).text.toList=[]at q;rw[s1]at q;cases q
       ·change (hd l2).text.toList=[]at q;rw[s1]at q;cases q
       ·show jx t+jx r+0+l1.length≤l.length
        omega
      ·refine⟨(fun q=>by cases q),fun _=>⟨hb,⟨⟨wt,fun q=> ?_,fun _=>⟨r,rfl,wr⟩,fun q=> ?_,fun _=>⟨z,rfl,wz⟩,fun _ q=> ?_⟩,Or.inr (Or.inr s1),fun q=> ?_,fun _=>s1,by show o.length≤2;omega⟩⟩,fun _ q=>q,?_⟩
       ·change (hd l2).text.toList=[]at q;rw[s1]at q;cases q
       ·change o=[]at q;rw[q]at ho;cases ho
       ·change (hd l2).text.toList=[]at q;rw[s1]at q;cases q
       ·change (hd l2).text.toList=[]at q;rw[s1]at q;cases q
       ·show jx t+jx r+jx z+l1.length≤l.length
        omega
    ·split at h
     ·rename_i hk
      cases h
      refine⟨fun q=> ?_,fun q=>⟨q,⟨⟨wt,fun _=>rfl,fun q=>absurd rfl q,fun _=>rfl,fun q=>absurd rfl q,fun q=>absurd rfl q⟩,Or.inl rfl,fun _=>hk.1,fun q=>absurd rfl q,by simp⟩⟩,fun _ q=>q,?_⟩
      ·simp only[Bool.and_eq_true]at q
       refine⟨q.1,⟨wt,(fun r q=>by cases q),fun _=>⟨rfl,hk.1,?_⟩,(fun r q=>by cases q),rfl⟩⟩
       have:=q.2
       unfold isInt at this
       simp only[Bool.and_eq_true,beq_iff_eq]at this
       exact this.2
      ·show jx t+0+0+l1.length≤l.length
       omega
     ·cases h
def ou (xs:List aH):Nat:=(xs.map zY).sum
theorem items_is:∀(k:Nat) (a b t1 g1:Bool) (l l1:List aj) (xs:List aH),items k a b l= .inr ((xs,t1,g1),l1)→(t1=true→a=true∧∀x∈xs,iC x)∧(g1=true→b=true∧∀x∈xs,iW x)∧(a=false→b=true→g1=true)∧ou xs+l1.length≤l.length∧xs.length≤k+1:=by
 intro k
 induction k with
 | zero=>
  intro a b t1 g1 l l1 xs h
  unfold items at h
  cases hq:item a b l with
  | inl e=>rw[hq]at h;cases h
  | inr q=>
   obtain⟨⟨x,t2,g2⟩,l2⟩:=q
   rw[hq]at h
   dsimp only at h
   obtain⟨h1,h2,h3,h4⟩:=EF hq
   split at h
   ·cases h
   ·cases h
    refine⟨fun q=>⟨(h1 q).1,fun y hy=> ?_⟩,fun q=>⟨(h2 q).1,fun y hy=> ?_⟩,h3,by simpa [ou] using h4,by simp⟩
    ·rw[List.mem_singleton.1 hy];exact(h1 q).2
    ·rw[List.mem_singleton.1 hy];exact(h2 q).2
 | succ k ih=>
  intro a b t1 g1 l l1 xs h
  unfold items at h
  cases hq:item a b l with
  | inl e=>rw[hq]at h;cases h
  | inr q=>
   obtain⟨⟨x,t2,g2⟩,l2⟩:=q
   rw[hq]at h
   dsimp only at h
   obtain⟨h1,h2,h3,h4⟩:=EF hq
   split at h
   ·rename_i hs
    have s2:=dJ hs
    cases jw:items k t2 g2 l2.tail with
    | inl e=>rw[jw]at h;cases h
    | inr q2=>
     obtain⟨⟨ys,t3,g3⟩,l3⟩:=q2
     rw[jw]at h
     cases h
     obtain⟨k1,k2,k3,k4,k5⟩:=ih _ _ _ _ _ _ _ jw
     refine⟨fun q=>⟨(h1 (k1 q).1).1,fun y hy=> ?_⟩,fun q=>⟨(h2 (k2 q).1).1,fun y hy=> ?_⟩,fun qa qb=> ?_,?_,by simp;omega⟩
     ·rcases List.mem_cons.1 hy with rfl | hy
      ·exact(h1 (k1 q).1).2
      ·exact(k1 q).2 y hy
     ·rcases List.mem_cons.1 hy with rfl | hy
      ·exact(h2 (k2 q).1).2
      ·exact(k2 q).2 y hy
     ·refine k3 ?_ (h3 qa qb)
      cases ht:t2 with
      | false=>rfl
      | true=>have:=(h1 ht).1;rw[qa]at this;cases this
     ·have:ou (x :: ys)=zY x+ou ys:=by simp[ou]
      omega
   ·cases h
    refine⟨fun q=>⟨(h1 q).1,fun y hy=> ?_⟩,fun q=>⟨(h2 q).1,fun y hy=> ?_⟩,h3,by simpa [ou] using h4,by simp⟩
    ·rw[List.mem_singleton.1 hy];exact(h1 q).2
    ·rw[List.mem_singleton.1 hy];exact(h2 q).2
end Za
namespace Za
open Go
def prS:List aL→List UInt8
 | []=>[]
 | [c]=>rW idS false c
 | c :: d :: cs=>rW idS false c++32 :: prS (d :: cs)
theorem par_progS:∀(cs:List aL) (k:Nat),cs.length≤k→(∀c∈cs,xZ idS c)→∀(s:ByteArray) (p:Nat) (l:List aj),Tk s p l→At s p (prS cs)→∃l',prog k l= .inr (cs.map (A8 idS),l')
 | [],k,_,_,s,p,l,hl,ha=>by
  refine⟨l,?_⟩
  unfold prog
  rw[if_pos (hl.done ha)]
  rfl
 | c :: cs,k,hk,hc,s,p,l,hl,ha=>by
  cases k with
  | zero=>simp at hk
  | succ k=>
   obtain⟨tl,qI⟩:∃tl,prS (c :: cs)=rW idS false c++tl∧((cs=[]∧tl=[])∨(cs≠[]∧tl=32 :: prS cs)):=by
    cases cs with
    | nil=>exact⟨[],by simp[prS],Or.inl ⟨rfl,rfl⟩⟩
    | cons d ds=>exact⟨_,by rw[prS],Or.inr ⟨by simp,rfl⟩⟩
   rw[qI.1]at ha
   obtain⟨h2,l1,e1,k1,a1⟩:=EZ (b:=false) (hc c (by simp)) hl ha
   have key:∃l2,prog k l1= .inr (cs.map (A8 idS),l2):=by
    rcases qI.2 with⟨rfl,rfl⟩ | ⟨_,rfl⟩
    ·exact par_progS [] k (by simp) (fun d hd=>by cases hd) s _ l1 k1 a1
    ·obtain⟨k2,a2⟩:=k1.blank a1 (by decide)
     exact par_progS cs k (by simpa using hk) (fun d hd=>hc d (by simp[hd])) s _ l1 k2 a2
   obtain⟨l2,e2⟩:=key
   refine⟨l2,?_⟩
   unfold prog
   rw[if_neg (by omega)]
   dsimp only
   rw[e1]
   dsimp only
   rw[e2]
   rfl
theorem M4 {x:List UInt8} {s:ByteArray} (h:s=⟨x.toArray⟩):At s 0 x:=by
 have:=At.start s
 rw[h]at this⊢
 simpa using this
theorem RU {cs:List aL} {s:ByteArray} (hs:s=⟨(prS cs).toArray⟩) (hl:cs.length≤12) (hc:∀c∈cs,xZ idS c) {L:List aj} (hL:dY s L) (hh:hd L=next s 0):∃l',prog 12 L= .inr (cs.map (A8 idS),l'):=
 par_progS cs 12 hl hc s 0 L ⟨hL,hh⟩ (M4 hs)
theorem Ow {x:aH} {xs:List aH} {s:ByteArray} (hs:s=⟨(jn idS false (x :: xs)).toArray⟩) (hl:xs.length≤5) (hx:iT idS x) (hy:∀y∈xs,iT idS y) {L:List aj} (hL:dY s L) (hh:hd L=next s 0):∃l',query L= .inr ((x :: xs).map (sR idS),l'):=by
 obtain⟨l',e,k,a⟩:=rk (σ:=idS) (b:=false) (tl:=[]) (Or.inl rfl) xs x 5 false hl hx hy s 0 L ⟨hL,hh⟩ (by rw[List.append_nil];exact M4 hs)
 exact⟨l',EC e (k.done a)⟩
def tV (c:UInt8):Tm:=⟨3,⟨#[c]⟩,[]⟩
def tD (n:Nat):Tm:=⟨4,⟨(iP n).toArray⟩,[]⟩
def tNil:Tm:=⟨2,⟨#[110]⟩,[]⟩
def tC (a b:Tm):Tm:=⟨2,⟨#[99]⟩,[a,b]⟩
def tF (x:List UInt8) (a b c:Tm):Tm:=⟨2,⟨x.toArray⟩,[a,b,c]⟩
def tL:List Nat→Tm
 | []=>tNil
 | d :: l=>tC (tD d) (tL l)
theorem Ox {n k:Nat} (h:n<10 ^ (k+1)):(iP n).length≤k+1:=by
 induction k generalizing n with
 | zero=>rw[mP (by omega)];simp
 | succ k ih=>
  by_cases q:n<10
  ·rw[mP q];simp
  ·rw[rI q,List.length_append]
   have:=ih (n:=n / 10) (by rw[Nat.pow_succ]at h;omega)
   simp
   omega
theorem RX (n:Nat):iP n≠[]:=by
 by_cases q:n<10
 ·rw[mP q];simp
 ·rw[rI q];simp
theorem LZ (n:Nat):jK 4 (iP n):=by
 have hw:∀d∈iP n,iE d.toNat=true:=Km n
 cases h:iP n with
 | nil=>exact absurd h (RX n)
 | cons c r=>
  rw[h]at hw
  exact⟨c,r,rfl,Or.inr (Or.inr ⟨rfl,hw c (by simp)⟩),fun d hd=>by have:=hw d hd;unfold di;simp[this]⟩
theorem V1 {f n:Nat} (h:n<1000000):gp idS (f+1) (tD n):=by
 refine Or.inr (Or.inl ⟨rfl,?_,?_⟩)
 ·show jK 4 (⟨(iP n).toArray⟩:ByteArray).toList
  rw[fM];exact LZ n
 ·show (iP n).toArray.size≤6
  have:=Ox (n:=n) (k:=5) (by omega)
  simpa using this
theorem V2 (f n:Nat):bD idS (f+1) (tD n)=iP n:=by
 show (⟨(iP n).toArray⟩:ByteArray).toList=_
 rw[fM]
theorem V3 (η:List UInt8→U) (f n:Nat):bJ η (f+1) (tD n)=lG n:=by
 show U.n 3 [] (numOf (⟨(iP n).toArray⟩:ByteArray):Int) []=_
 unfold numOf
 rw[fM]
 unfold iP
 rw[Kl]
 rfl
theorem lh {f:Nat} {c:UInt8} (h:iO c.toNat=true):gp idS (f+1) (tV c):=by
 refine Or.inl ⟨rfl,?_⟩
 show jK 3 (⟨#[c]⟩:ByteArray).toList
 rw[show (⟨#[c]⟩:ByteArray)=⟨[c].toArray⟩from rfl,fM]
 exact⟨c,[],rfl,Or.inr (Or.inl ⟨rfl,h⟩),fun d hd=>by rw[List.mem_singleton.1 hd];unfold di;simp[h]⟩
theorem RY (f:Nat) (c:UInt8):bD idS (f+1) (tV c)=[c]:=by
 show (⟨[c].toArray⟩:ByteArray).toList=_
 rw[fM]
theorem L0 (η:List UInt8→U) (f:Nat) (c:UInt8):bJ η (f+1) (tV c)=η [c]:=by
 show η (⟨[c].toArray⟩:ByteArray).toList=_
 rw[fM]
theorem C8 {f:Nat} {x:List UInt8} {as':List Tm} (hx:jK 2 x) (h3:as'.length≤3) (h:∀a∈as',gp idS f a):gp idS (f+1) ⟨2,⟨x.toArray⟩,as'⟩:=by
 refine Or.inr (Or.inr ⟨rfl,?_,h3,h⟩)
 show jK 2 (⟨x.toArray⟩:ByteArray).toList
 rw[fM];exact hx
theorem yI (f:Nat) (x:List UInt8) (as':List Tm):bD idS (f+1) ⟨2,⟨x.toArray⟩,as'⟩=x++arS (as'.map (bD idS f)):=by
 show (⟨x.toArray⟩:ByteArray).toList++_=_
 rw[fM]
theorem Gh (η:List UInt8→U) (f:Nat) (x:List UInt8) (as':List Tm):bJ η (f+1) ⟨2,⟨x.toArray⟩,as'⟩= .n 1 x 0 (as'.map (bJ η f)):=by
 show U.n 1 (⟨x.toArray⟩:ByteArray).toList 0 _=_
 rw[fM]
theorem V4 (f:Nat) (x:List UInt8) (as':List Tm):gm idS (f+1) ⟨2,⟨x.toArray⟩,as'⟩=⟨2,⟨x.toArray⟩,as'.map (gm idS f)⟩:=rfl
theorem rS {x:List UInt8} (h:x≠[]) (hl:∀c∈x,low c.toNat=true):jK 2 x:=by
 cases x with
 | nil=>exact absurd rfl h
 | cons c r=>exact⟨c,r,rfl,Or.inl ⟨rfl,hl c (by simp)⟩,fun d hd=>by have:=hl d hd;unfold di;simp[this]⟩
theorem ok_L:∀(l:List Nat) (f:Nat),(∀d∈l,d<10)→l.length<f→gp idS f (tL l)
 | [],f+1,_,_=>C8 (x:=[110]) (rS (by simp) (by decide)) (by simp) (fun a ha=>by cases ha)
 | d :: l,f+1,h,hl=>by
  have hl':l.length<f:=by simpa using hl
  refine C8 (x:=[99]) (rS (by simp) (by decide)) (by simp) (fun a ha=> ?_)
  simp only[List.mem_cons,List.not_mem_nil,or_false]at ha
  obtain⟨g,rfl⟩:∃g,f=g+1:=⟨f - 1,by omega⟩
  rcases ha with rfl | rfl
  ·exact V1 (by have:=h d (by simp);omega)
  ·exact ok_L l (g+1) (fun e he=>h e (by simp[he])) hl'
theorem pr_L:∀(l:List Nat) (f:Nat),l.length<f→bD idS f (tL l)=txL l
 | [],f+1,_=>yI f [110] []
 | d :: l,f+1,hl=>by
  have hl':l.length<f:=by simpa using hl
  obtain⟨g,rfl⟩:∃g,f=g+1:=⟨f - 1,by omega⟩
  refine(yI (g+1) [99] [tD d,tL l]).trans ?_
  rw[List.map_cons,List.map_cons,List.map_nil,V2,pr_L l (g+1) hl',txL]
  simp[arS]
theorem mp_L:∀(l:List Nat) (f:Nat),l.length<f→gm idS f (tL l)=tL l
 | [],f+1,_=>rfl
 | d :: l,f+1,hl=>by
  have hl':l.length<f:=by simpa using hl
  obtain⟨g,rfl⟩:∃g,f=g+1:=⟨f - 1,by omega⟩
  show (⟨2,_,[gm idS (g+1) (tD d),gm idS (g+1) (tL l)]⟩:Tm)=_
  rw[mp_L l (g+1) hl']
  rfl
theorem L3 (η:List UInt8→U):∀(l:List Nat) (f:Nat),l.length<f→bJ η f (tL l)=lsU l
 | [],f+1,_=>Gh η f [110] []
 | d :: l,f+1,hl=>by
  have hl':l.length<f:=by simpa using hl
  obtain⟨g,rfl⟩:∃g,f=g+1:=⟨f - 1,by omega⟩
  refine(Gh η (g+1) [99] [tD d,tL l]).trans ?_
  rw[List.map_cons,List.map_cons,List.map_nil,V3,L3 η l (g+1) hl']
  rfl
def qC (x:List UInt8) (a b:Tm) (v:UInt8):aH:=⟨tF x a b (tV v),[],none,[],none⟩
theorem XP {x:List UInt8} {a b:Tm} {v:UInt8} (hx:jK 2 x) (_hi:x≠[105,110,116]) (ha:gp idS 7 a) (hb:gp idS 7 b) (hv:iO v.toNat=true):iT idS (qC x a b v):=by
 refine .call _ (C8 hx (by simp) (fun t ht=> ?_)) rfl ?_
 ·simp only[List.mem_cons,List.not_mem_nil,or_false]at ht
  rcases ht with rfl | rfl | rfl
  ·exact ha
  ·exact hb
  ·exact lh hv
 ·unfold isInt tF
  simp
theorem V5 (x:List UInt8) (a b:Tm) (v:UInt8):jn idS false [qC x a b v]=x++[40]++bD idS 7 a++[44]++bD idS 7 b++[44,v,41]:=by
 show jS idS (qC x a b v)++[]=_
 rw[List.append_nil]
 show bD idS 8 (tF x a b (tV v))++[]=_
 rw[List.append_nil]
 refine(yI 7 x [a,b,tV v]).trans ?_
 rw[List.map_cons,List.map_cons,List.map_cons,List.map_nil,RY]
 simp[arS]
end Za
namespace Za
open Go.Proofs.YthfjnfcekeknlaaGreatDoor (dA)
structure gW where
 hs:List Nat
 fin:Option U
 D:Nat→Bool
 its:List (Option Nat)
 call:U
def gW.sB (s:gW):Option Nat→MG
 | some i=>MG.rd (vn (1+i)) [61] (rhs s.D s.fin s.hs i) [] zU
 | none=>MG.rd s.call [] zU [] zU
def gW.st (s:gW) (lim:Nat):MS:=⟨[dU s.D s.fin s.hs 0],s.its.map s.sB,lim⟩
structure gW.ok (s:gW) (c0:Nat):Prop where
 nd:s.its.Nodup
 eq:∀i,some i∈s.its↔isEq s.fin s.hs i∧s.D i=false
 cl:none∈s.its↔s.fin=none
 dn:∀i,s.D i=true→isEq s.fin s.hs i
 gr:∀u,s.fin=some u→vL u∧(∀y,u≠ .v y)∧2*s.hs.length+size u≤21
 hl:s.hs.length≤10
 cg:s.fin=none→∀i,i<s.hs.length→¬has ([],1+i) s.call
 cb:s.fin=none→mh (MG.rd s.call [] zU [] zU)=false
 ln:s.its.length+c0=s.hs.length+1
theorem L4 {gs:List MG} (h:∀g∈gs,g.wt=false):jk gs=List.range gs.length:=by
 unfold jk
 rw[List.filter_eq_self]
 intro i hi
 have hi':=List.mem_range.1 hi
 rw[List.getElem?_eq_getElem hi']
 show (!(gs[i]).wt)=true
 rw[h _ (List.getElem_mem _)]
 rfl
theorem tX (p:Int) {n:Nat} (h:0<n):dA p n<n:=by
 unfold dA
 rw[if_neg (by omega)]
 have h1:=Int.emod_nonneg p (b:=(n:Int)) (by omega)
 have h2:=Int.emod_lt_of_pos p (b:=(n:Int)) (by omega)
 omega
theorem gW.fK (s:gW) (lim:Nat):jk (s.st lim).gs=List.range s.its.length:=by
 rw[L4,show (s.st lim).gs.length=s.its.length from List.length_map ..]
 intro g hg
 obtain⟨o,_,rfl⟩:=List.mem_map.1 hg
 cases o<;>rfl
theorem gW.pick (s:gW) (lim:Nat) (pg:Int) (h:s.its≠[]):dA pg s.its.length<s.its.length∧(jk (s.st lim).gs)[dA pg (jk (s.st lim).gs).length]?=some (dA pg s.its.length):=by
 have h0:0<s.its.length:=List.length_pos_iff.2 h
 have h1:=tX pg h0
 rw[s.fK lim,List.length_range]
 exact⟨h1,by rw[List.getElem?_range h1]⟩
theorem pG {u:U} (h:size u≤40):big u=false:=by unfold big;exact decide_eq_false (by omega)
theorem size_z:size zU=1:=by unfold zU;simp[size,sizeL]
theorem gW.ok.small {s:gW} {c0:Nat} (h:s.ok c0) (lim:Nat):qE (s.st lim)=false:=by
 have hB:∃B,1≤B∧(∀u,s.fin=some u→size u≤B)∧2*s.hs.length+B≤21:=by
  cases hf:s.fin with
  | none=>exact⟨1,Nat.le_refl _,(fun u q=>by cases q),by have:=h.hl;omega⟩
  | some u=>exact⟨size u,size_pos u,(fun v q=>by cases q;exact Nat.le_refl _),(h.gr u hf).2.2⟩
 obtain⟨B,h1,h2,h3⟩:=hB
 have hl:=h.hl
 have hn:=h.ln
 unfold qE
 rw[Bool.or_eq_false_iff,Bool.or_eq_false_iff]
 refine⟨decide_eq_false ?_,?_,?_⟩
 ·show¬24<(s.its.map s.sB).length
  rw[List.length_map];omega
 ·show [dU s.D s.fin s.hs 0].any big=false
  simp only[List.any_cons,List.any_nil,Bool.or_false]
  exact pG (by have:=wK (D:=s.D) h1 h2 s.hs 0;omega)
 ·refine List.any_eq_false.2 fun g hg=> ?_
  obtain⟨o,ho,rfl⟩:=List.mem_map.1 hg
  cases o with
  | none=>rw[show s.sB none=MG.rd s.call [] zU [] zU from rfl,h.cb (h.cl.1 ho)];decide
  | some i=>
   have hi:=((h.eq i).1 ho).1
   have:mh (s.sB (some i))=(big (vn (1+i))||big (rhs s.D s.fin s.hs i)||big zU):=by
    unfold mh
    rw[if_neg (show¬(s.sB (some i)).sg=[]from fun q=>by cases q)]
    rfl
   rw[this,pG (u:=vn (1+i)) (by unfold vn;rw[size];omega),pG (u:=zU) (by rw[size_z];omega),pG]
   ·decide
   ·rcases hi with q | ⟨q,q'⟩
    ·rw[fP q,yE]
     have:=wK (D:=s.D) h1 h2 (s.hs.drop (i+1)) (i+1)
     rw[List.length_drop]at this
     omega
    ·cases hf:s.fin with
     | none=>exact absurd hf q'
     | some u=>rw[jR (by omega)];have:=h2 u hf;omega
theorem xW {α β:Type} (f:α→β):∀(l:List α) (p:Nat),(l.map f).eraseIdx p=(l.eraseIdx p).map f
 | [],p=>by simp
 | a :: l,0=>rfl
 | a :: l,p+1=>by
  rw[List.map_cons,List.eraseIdx_cons_succ,List.eraseIdx_cons_succ,List.map_cons,xW f l p]
theorem qF {α:Type} {l:List α} {p:Nat} {x:α} (h:l.Nodup) (hp:l[p]?=some x):(l.eraseIdx p).Nodup∧∀y,y∈l.eraseIdx p↔y∈l∧y≠x:=by
 obtain⟨hl,rfl⟩:=List.getElem?_eq_some_iff.1 hp
 refine⟨h.sublist (List.eraseIdx_sublist _ _),fun y=>⟨fun q=>⟨List.mem_of_mem_eraseIdx q,?_⟩,fun⟨q1,q2⟩=> ?_⟩⟩
 ·rintro rfl
  obtain⟨j,hj,hne,e⟩:=List.mem_eraseIdx_iff_getElem.1 q
  exact hne ((List.getElem_inj h).1 e)
 ·obtain⟨j,hj,rfl⟩:=List.mem_iff_getElem.1 q1
  exact List.mem_eraseIdx_iff_getElem.2 ⟨j,hj,fun e=>q2 (by subst e;rfl),rfl⟩
theorem gW.ok.solve {s:gW} {c0:Nat} (h:s.ok c0) {p k:Nat} (hp:s.its[p]?=some (some k)) (cls:List aL) (lim:Nat) (pc:Int):
 ∃s':gW,nj cls (s.st lim) (s'.st lim) p pc 0∧s'.ok (c0+1)∧s'.hs=s.hs∧s'.fin=s.fin∧s'.call=s.call:=by
 obtain⟨hk,hd⟩:=(h.eq k).1 (List.mem_of_getElem? hp)
 have hf:∀u,s.fin=some u→vL u:=fun u q=>(h.gr u q).1
 obtain⟨n1,n2⟩:=qF h.nd hp
 have hlen:s.its.length=(s.its.eraseIdx p).length+1:=by
  have:=(List.getElem?_eq_some_iff.1 hp).1
  rw[List.length_eraseIdx_of_lt this];omega
 refine⟨⟨s.hs,s.fin,kO s.D k,s.its.eraseIdx p,s.call⟩,⟨Nat.le_refl _,s.sB (some k),?_,Or.inl ⟨rfl,rfl,_,LW (Oj (D:=s.D) hf hk) (Ry (fun u q=>(h.gr u q).2.1) hk),?_,?_⟩⟩,?_,rfl,rfl,rfl⟩
 ·show (s.its.map s.sB)[p]?=_
  rw[List.getElem?_map,hp];rfl
 ·show [dU (kO s.D k) s.fin s.hs 0]=[dU s.D s.fin s.hs 0].map (sub (one ([],1+k) (rhs s.D s.fin s.hs k)))
  rw[List.map_cons,List.map_nil]
  have:=Ez hf hk hd _ 0 rfl (Nat.zero_le _)
  rw[List.drop_zero]at this
  rw[this]
 ·show (s.its.eraseIdx p).map _=((s.its.map s.sB).eraseIdx p).map (MG.put (one ([],1+k) (rhs s.D s.fin s.hs k)))
  rw[xW,List.map_map]
  refine List.map_congr_left fun o ho=> ?_
  obtain⟨o1,o2⟩:=(n2 o).1 ho
  cases o with
  | none=>
   show MG.rd s.call [] zU [] zU=(MG.rd s.call [] zU [] zU).put _
   rw[Jn,Jo]
   have hfn:=h.cl.1 o1
   congr 1
   have:¬has ([],1+k) s.call:=h.cg hfn k (by
    rcases hk with q | ⟨_,q⟩
    ·exact q
    ·exact absurd hfn q)
   exact(Gq this).symm
  | some i=>
   have hik:i≠k:=fun q=>o2 (by rw[q])
   obtain⟨hi,UE⟩:=(h.eq i).1 o1
   show MG.rd (vn (1+i)) [61] (rhs (kO s.D k) s.fin s.hs i) [] zU=(MG.rd (vn (1+i)) [61] (rhs s.D s.fin s.hs i) [] zU).put _
   rw[Jn,Jo,Ok hf hk hd hi,pE,qZ _ (Ay (by omega))]
   rfl
 ·refine⟨n1,fun i=> ?_,?_,fun i hi=> ?_,h.gr,h.hl,h.cg,h.cb,?_⟩
  ·show some i∈s.its.eraseIdx p↔isEq s.fin s.hs i∧kO s.D k i=false
   rw[n2,h.eq]
   by_cases q:i=k
   ·subst q
    rw[wL]
    simp
   ·rw[mY q]
    simp[q]
  ·show none∈s.its.eraseIdx p↔s.fin=none
   rw[n2,h.cl]
   simp
  ·by_cases q:i=k
   ·subst q;exact hk
   ·exact h.dn i (by rw[←mY (D:=s.D) q];exact hi)
  ·show (s.its.eraseIdx p).length+(c0+1)=s.hs.length+1
   have:=h.ln
   omega
theorem gW.ok.last {s:gW} {c0:Nat} (h:s.ok c0) (hf:s.fin=none):s.D s.hs.length=false:=by
 cases q:s.D s.hs.length with
 | false=>rfl
 | true=>
  rcases h.dn _ q with r | ⟨_,r⟩
  ·omega
  ·exact absurd hf r
theorem gW.ok.more {s:gW} {c0:Nat} (h:s.ok c0) {p:Nat} (hp:s.its[p]?=some none) (d:Nat) (call':U) (h9:s.hs.length≤9) (hg:∀i,i≤s.hs.length→¬has ([],1+i) call') (hb:mh (MG.rd call' [] zU [] zU)=false):
 ∃s':gW,s'.ok c0∧s'.hs=s.hs++[d]∧s'.fin=none∧s'.call=call'∧∀lim,(s'.st lim).vs=(s.st lim).vs∧(s'.st lim).gs=(s.st lim).gs.eraseIdx p++[MG.rd (vn (1+s.hs.length)) [61] (mj (lG d) (vn (2+s.hs.length))) [] zU,MG.rd call' [] zU [] zU]:=by
 have hfn:=h.cl.1 (List.mem_of_getElem? hp)
 obtain⟨n1,n2⟩:=qF h.nd hp
 have hlen:s.its.length=(s.its.eraseIdx p).length+1:=by
  have:=(List.getElem?_eq_some_iff.1 hp).1
  rw[List.length_eraseIdx_of_lt this];omega
 have hD:=h.last hfn
 have isE:∀i,isEq none (s.hs++[d]) i↔i<s.hs.length+1:=fun i=>by
  unfold isEq;simp
 have isE0:∀i,isEq s.fin s.hs i↔i<s.hs.length:=fun i=>by
  unfold isEq;rw[hfn];simp
 have hm:some s.hs.length∉s.its:=fun q=>by
  have:=((h.eq _).1 q).1
  rw[isE0]at this
  omega
 have hD1:s.D (s.hs.length+1)=false:=by
  cases q:s.D (s.hs.length+1)with
  | false=>rfl
  | true=>have:=h.dn _ q;rw[isE0]at this;omega
 refine⟨⟨s.hs++[d],none,s.D,s.its.eraseIdx p++[some s.hs.length,none],call'⟩,⟨?_,fun i=> ?_,?_,fun i hi=> ?_,(fun u q=>by cases q),?_,fun _ i hi=> ?_,fun _=>hb,?_⟩,rfl,rfl,rfl,fun lim=>⟨?_,?_⟩⟩
 ·show (s.its.eraseIdx p++[some s.hs.length,none]).Nodup
  rw[List.nodup_append]
  refine⟨n1,by simp,fun a ha b hb=> ?_⟩
  simp only[List.mem_cons,List.not_mem_nil,or_false]at hb
  rcases hb with rfl | rfl
  ·rintro rfl;exact hm ((n2 _).1 ha).1
  ·exact((n2 _).1 ha).2
 ·show some i∈s.its.eraseIdx p++[some s.hs.length,none]↔isEq none (s.hs++[d]) i∧s.D i=false
  rw[List.mem_append,n2,h.eq,isE,isE0]
  simp only[List.mem_cons,List.not_mem_nil,or_false,Option.some.injEq,reduceCtorEq,ne_eq,not_false_eq_true,and_true]
  constructor
  ·rintro(⟨q1,q2⟩ | q)
   ·exact⟨by omega,q2⟩
   ·rw[q];exact⟨by omega,hD⟩
  ·rintro⟨q1,q2⟩
   by_cases q:i=s.hs.length
   ·exact Or.inr q
   ·exact Or.inl ⟨by omega,q2⟩
 ·show none∈s.its.eraseIdx p++[some s.hs.length,none]↔none=none
  simp
 ·have:=h.dn i hi
  rw[isE0]at this
  exact(isE i).2 (by omega)
 ·show (s.hs++[d]).length≤10
  simp;omega
 ·have hi':i<(s.hs++[d]).length:=hi
  exact hg i (by simp at hi';omega)
 ·show (s.its.eraseIdx p++[some s.hs.length,none]).length+c0=(s.hs++[d]).length+1
  have:=h.ln
  simp
  omega
 ·show [dU s.D none (s.hs++[d]) 0]=[dU s.D s.fin s.hs 0]
  rw[hfn,wJ d s.hs 0 (by rw[Nat.zero_add];exact hD)]
 ·show (s.its.eraseIdx p++[some s.hs.length,none]).map _=(s.its.map s.sB).eraseIdx p++_
  rw[List.map_append,xW]
  congr 1
  ·refine List.map_congr_left fun o ho=> ?_
   obtain⟨o1,o2⟩:=(n2 o).1 ho
   cases o with
   | none=>exact absurd rfl o2
   | some i=>
    obtain⟨hi,UE⟩:=(h.eq i).1 o1
    rw[isE0]at hi
    show MG.rd (vn (1+i)) [61] (rhs s.D none (s.hs++[d]) i) [] zU=MG.rd (vn (1+i)) [61] (rhs s.D s.fin s.hs i) [] zU
    congr 1
    rw[fP (by simp;omega),fP hi,hfn,List.getElem_append_left hi,List.drop_append_of_le_length (by omega),wJ d _ _ (by rw[List.length_drop,show i+1+(s.hs.length - (i+1))=s.hs.length by omega];exact hD)]
  ·show [MG.rd (vn (1+s.hs.length)) [61] (rhs s.D none (s.hs++[d]) s.hs.length) [] zU,MG.rd call' [] zU [] zU]=_
   have e:rhs s.D none (s.hs++[d]) s.hs.length=mj (lG d) (vn (2+s.hs.length)):=by
    rw[fP (by simp),List.drop_eq_nil_of_le (by simp),pF hD1,List.getElem_append_right (Nat.le_refl _)]
    rw[show 1+(s.hs.length+1)=2+s.hs.length by omega]
    simp
   rw[e]
theorem gW.ok.close {s:gW} {c0:Nat} (h:s.ok c0) {p:Nat} (hp:s.its[p]?=some none) {u:U} (hu:vL u∧(∀y,u≠ .v y)∧2*s.hs.length+size u≤21):
 ∃s':gW,s'.ok c0∧s'.hs=s.hs∧s'.fin=some u∧∀lim,(s'.st lim).vs=(s.st lim).vs∧(s'.st lim).gs=(s.st lim).gs.eraseIdx p++[MG.rd (vn (1+s.hs.length)) [61] u [] zU]:=by
 have hfn:=h.cl.1 (List.mem_of_getElem? hp)
 obtain⟨n1,n2⟩:=qF h.nd hp
 have hlen:s.its.length=(s.its.eraseIdx p).length+1:=by
  have:=(List.getElem?_eq_some_iff.1 hp).1
  rw[List.length_eraseIdx_of_lt this];omega
 have hD:=h.last hfn
 have isE:∀i,isEq (some u) s.hs i↔i<s.hs.length+1:=fun i=>by
  unfold isEq;simp;omega
 have isE0:∀i,isEq s.fin s.hs i↔i<s.hs.length:=fun i=>by
  unfold isEq;rw[hfn];simp
 have hm:some s.hs.length∉s.its:=fun q=>by
  have:=((h.eq _).1 q).1
  rw[isE0]at this
  omega
 refine⟨⟨s.hs,some u,s.D,s.its.eraseIdx p++[some s.hs.length],s.call⟩,⟨?_,fun i=> ?_,?_,fun i hi=> ?_,(fun v q=>by cases q;exact hu),h.hl,(fun q=>by cases q),(fun q=>by cases q),?_⟩,rfl,rfl,fun lim=>⟨?_,?_⟩⟩
 ·show (s.its.eraseIdx p++[some s.hs.length]).Nodup
  rw[List.nodup_append]
  refine⟨n1,by simp,fun a ha b hb=> ?_⟩
  rw[List.mem_singleton.1 hb]
  rintro rfl;exact hm ((n2 _).1 ha).1
 ·show some i∈s.its.eraseIdx p++[some s.hs.length]↔isEq (some u) s.hs i∧s.D i=false
  rw[List.mem_append,n2,h.eq,isE,isE0]
  simp only[List.mem_cons,List.not_mem_nil,or_false,Option.some.injEq,reduceCtorEq,ne_eq,not_false_eq_true,and_true]
  constructor
  ·rintro(⟨q1,q2⟩ | q)
   ·exact⟨by omega,q2⟩
   ·rw[q];exact⟨by omega,hD⟩
  ·rintro⟨q1,q2⟩
   by_cases q:i=s.hs.length
   ·exact Or.inr q
   ·exact Or.inl ⟨by omega,q2⟩
 ·show none∈s.its.eraseIdx p++[some s.hs.length]↔some u=none
  rw[List.mem_append,n2]
  simp
 ·have:=h.dn i hi
  rw[isE0]at this
  exact(isE i).2 (by omega)
 ·show (s.its.eraseIdx p++[some s.hs.length]).length+c0=s.hs.length+1
  have:=h.ln
  simp
  omega
 ·show [dU s.D (some u) s.hs 0]=[dU s.D s.fin s.hs 0]
  rw[hfn,yF u s.hs 0 (by rw[Nat.zero_add];exact hD)]
 ·show (s.its.eraseIdx p++[some s.hs.length]).map _=(s.its.map s.sB).eraseIdx p++_
  rw[List.map_append,xW]
  congr 1
  ·refine List.map_congr_left fun o ho=> ?_
   obtain⟨o1,o2⟩:=(n2 o).1 ho
   cases o with
   | none=>exact absurd rfl o2
   | some i=>
    obtain⟨hi,UE⟩:=(h.eq i).1 o1
    rw[isE0]at hi
    show MG.rd (vn (1+i)) [61] (rhs s.D (some u) s.hs i) [] zU=MG.rd (vn (1+i)) [61] (rhs s.D s.fin s.hs i) [] zU
    congr 1
    rw[fP hi,fP hi,hfn,yF u _ _ (by rw[List.length_drop,show i+1+(s.hs.length - (i+1))=s.hs.length by omega];exact hD)]
  ·show [MG.rd (vn (1+s.hs.length)) [61] (rhs s.D (some u) s.hs s.hs.length) [] zU]=_
   rw[jR (Nat.le_refl _)]
end Za
