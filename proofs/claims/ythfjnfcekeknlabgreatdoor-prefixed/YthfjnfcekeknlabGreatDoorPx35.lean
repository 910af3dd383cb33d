import Derived.Test.YthfjnfcekeknlabGreatDoorPx32
import Derived.Test.YthfjnfcekeknlabGreatDoorPx34
set_option maxHeartbeats 8000000
set_option maxRecDepth 100000
set_option linter.unusedSimpArgs false
set_option linter.unusedVariables false
namespace af
open Go.Proofs.YthfjnfcekeknlabGreatDoor (iA jX jp)
variable {t2 t1:Tm} {σ:Vr->U} {u:U} {N N':List Vr} {l1 L1 L2 l2:List bX} {s2 s1:ByteArray} {out:List (Vr×U)} {c:dE} {S' S A:MS} {cls:List dE} {i:Nat} {p z:Int} {ys:List dq} {P:Nat->Prop} {r:Nat->Nat}
open Classical in
theorem GK (hn:oM u) (hs:oM (sub σ u)) (hN:∀x,has x u->x∈N) (h1:s1=⟨(d7 Go.Lib.itoa N u).toArray⟩) (h2:s2=⟨(d7 Go.Lib.itoa N' (sub σ u)).toArray⟩) (c1:eM s1 L1) (d1:hd L1=next s1 0) (c2:eM s2 L2) (d2:hd L2=next s2 0) (e1:whole L1= .inr (t1,l1)) (e2:whole L2= .inr (t2,l2)) (η:List UInt8->U):(dB 8 t1 (fb η 8 t2) ⟨[],Wn.none⟩).w.says=1:=by
 have gv:∀(M:List Vr) (x:U),N8 (sub (ren (ue M)) x):=fun M x v hv=>by obtain⟨z,_,rfl⟩:=Kv x hv;exact⟨F6 M z,rfl⟩
 obtain⟨rfl,w1⟩:=Dk (rT (ue N) hn) (gv N u) (by rw[h1,F0 N u hn]) c1 d1 e1;obtain⟨rfl,w2⟩:=Dk (rT (ue N') hs) (gv N' (sub σ u)) (by rw[h2,F0 N' _ hs]) c2 d2 e2;let ζ:Vr->U:=fun v=>η (ue N' v).1;have k2:fb η 8 (rB (sub (ren (ue N')) (sub σ u)))=sub ζ (sub σ u):=by rw[wu η 8 _ (rT (ue N') hs) w2,sub_sub];rfl
 let σ1:List UInt8->U:=fun nm=>if hm:∃v,v∈N/\(ue N v).1=nm then sub ζ (σ hm.choose)else zU
 have hσ:∀v,v∈N->σ1 (ue N v).1=sub ζ (σ v):=fun v hv=>by have hm:∃v',v'∈N/\(ue N v').1=(ue N v).1:=⟨v,hv,rfl⟩;show (if hm:∃v',v'∈N/\(ue N v').1=(ue N v).1 then sub ζ (σ hm.choose)else zU)=_;rw[kX hm];have:ue N hm.choose=ue N v:=B1 hm.choose_spec.2 rfl;rw[Kc _ _ hm.choose_spec.1 hv this]
 have k1:fb σ1 8 (rB (sub (ren (ue N)) u))=sub ζ (sub σ u):=by rw[wu σ1 8 _ (rT (ue N) hn) w1,sub_sub,sub_sub];exact sub_congr u fun v hv=>hσ v (hN v hv)
 rw[k2,<-k1];have:=(vt σ1 Wn.none 8 (rB (sub (ren (ue N)) u)) ⟨[],Wn.none⟩ w1 ⟨rfl,fun q hq=>by cases hq⟩).1;rw[this];rfl
theorem Ae:∀(us:List U) (a:List (List UInt8)×List Vr),(us.foldl lG a).1.length=a.1.length+us.length/\(∃M,(us.foldl lG a).1=a.1++M)/\∀i (h:i<us.length),∃N,(us.foldl lG a).1[a.1.length+i]?=some (d7 Go.Lib.itoa N us[i])/\∀x,has x us[i]->x∈N
 | [],a=>⟨rfl,⟨[],by simp⟩,fun i h=>by cases h⟩
 | u :: us,a=>by
  obtain⟨h1,⟨M,hM⟩,h2⟩:=Ae us (lG a u);have hl:(lG a u).1.length=a.1.length+1:=by show (a.1++[_]).length=_;simp
  rw[bF];refine⟨by rw[h1,hl,aT];omega,⟨_,by rw[hM];show a.1++[_]++M=_;rw[aK]⟩,fun i h=> ?_⟩;cases i with
  | zero=>refine⟨cJ a.2 u,?_,fun x hx=>(jq u a.2).2 (aw hx)⟩;rw[hM];show (a.1++[d7 Go.Lib.itoa (cJ a.2 u) u]++M)[a.1.length+0]?=_;rw[aK,dJ,cZ Qw];simp
  | succ i=>obtain⟨N,e,hN⟩:=h2 i (by simpa using h);refine⟨N,?_,hN⟩;rw[hl]at e;rw[show a.1.length+(i+1)=a.1.length+1+i by omega];exact e
theorem D0 (us:List U):(jj us).1.length=us.length/\∀i (h:i<us.length),∃N,(jj us).1[i]?=some (d7 Go.Lib.itoa N us[i])/\∀x,has x us[i]->x∈N:=by obtain⟨h1,_,h2⟩:=Ae us ([],[]);refine⟨by unfold jj;rw[h1];simp,fun i h=> ?_⟩;obtain⟨N,e,hN⟩:=h2 i h;exact⟨N,by unfold jj;rw[<-e];simp,hN⟩
def mM (u:U):Prop:=oM u/\fz (PQ fun _=>True) u
theorem Iq (n:Nat):mM (.v ([],n)):=⟨Bg _,.v ⟨rfl,trivial⟩⟩
theorem mM.arg {k:Nat} {tx:List UInt8} {num:Int} {ss:List U} (h:mM (.n k tx num ss)) {a:U} (ha:a∈ss):mM a:=⟨h.1.arg ha,h.2.args a ha⟩
theorem ES (h:∀e∈out,oM e.2) (x:Vr):oM (sig out x):=sB (Q:=oM) (fun x b hb u hu=>Ed x b hb u hu) out (.v x) (Bg x) h
theorem iw.gd {a b:U} (h:iw a b σ) (ha:mM a) (hb:mM b) (x:Vr):oM (σ x):=by
 obtain⟨θ,r,m,hs,_⟩:=EO (fun x y=>x.2<y.2) a b;cases r with
 | none=>exact absurd h.one (hs.PD.none σ)
 | some out=>
  have hl:iw a b (sig out):=hs.PD.Ln (Q:=fun v=>v.1=[]) (fun x y hx hy hne=>⟨fun q=>⟨hx.trans hy.symm,q⟩,fun q=>⟨hy.trans hx.symm,by
   have:x.2≠y.2:=fun e=>hne (B1 (hx.trans hy.symm) e);have q':¬x.2<y.2:=q;omega⟩⟩) (fun v hv=>((eG a).1 ha.2 v hv).1) (fun v hv=>((eG b).1 hb.2 v hv).1)
  rw[h.uniq hl x];refine ES (fun e he=> ?_) x;refine hs.every (Q:=oM) (fun k tx num ss hq c hc=>hq.arg hc) (fun x b hb u hu=>Ed x b hb u hu) (fun e he=> ?_) out rfl e he;rw[a8.1 he];exact⟨ha.1,hb.1⟩
theorem iw.mM {a b:U} {σ:Vr->U} (h:iw a b σ) (ha:af.mM a) (hb:af.mM b) {u:U} (hu:af.mM u):af.mM (sub σ u):=⟨rS (h.gd ha hb) u hu.1,h.FU ha.2 hb.2 hu.2⟩
structure Qv (g:MG):Prop where
 sg:g.sg=[]\/g.sg=[61]
 a:mM g.a
 b:g.sg=[61]->mM g.b
structure MF (S:MS):Prop where
 vs:∀u∈S.vs,mM u
 gs:∀g∈S.gs,Qv g
theorem DZ {Q:U->Prop} (hQ:∀k tx num ss,Q (.n k tx num ss)->∀a∈ss,Q a):∀(f:Nat) (p:Tm) (u:U) (l:fO),Q u->(∀q∈l.st,Q q.2)->∀q∈(dB f p u l).st,Q q.2
 | 0,_,_,l,_,h=>by unfold dB;exact h
 | f+1,p,u,l,hu,h=>by
  by_cases k:p.kind=3
  ·rw[jJ u l k];unfold fO.meet;cases hq:l.st.find? (fun q=>q.1 == p.text.toList)with
   | some q=>exact h
   | none=>
    intro q hm;rcases bA.1 hm with hm | hm
    ·exact h q hm
    ·rw[a8.1 hm];exact hu
  ·cases u with
   | v x=>rw[jr x l k];exact h
   | n kk tx num ss=>
    by_cases hr:jl p=(kk,tx,num)/\p.args.length=ss.length
    ·rw[gf l k hr]
     have two:∀(ps:List Tm) (us:List U) (l:fO),(∀u∈us,Q u)->(∀q∈l.st,Q q.2)->∀q∈(fN (dB f) ps us l).st,Q q.2:=by
      intro ps;induction ps with
      | nil=>intro us l _ hl;cases us<;>exact hl
      | cons p ps ih=>
       intro us l hu hl;cases us with
       | nil=>exact hl
       | cons u us=>rw[fN];exact ih us _ (fun v hv=>hu v (by simp[hv])) (DZ hQ f p u l (hu u (by simp)) hl)
     exact two p.args ss l (hQ kk tx num ss hu) h
    ·rw[kM l k hr];exact h
def PA (x:dq):Prop:=(x.sign=[]\/x.sign=[61])/\∀η:List UInt8->U,(∀y,mM (η y))->mM (fb η 8 x.left)/\(x.sign=[61]->mM (x.right.elim zU (fb η 8)))
def PB (c:dE):Prop:=∀x∈c.goals,PA x
theorem NF (hw:iE 8 c.head) (hu:mM u) (hy:(dB 8 c.head u ⟨[],Wn.none⟩).w.says=1) (o:Nat->Nat):∀y,mM (iN u c o y):=fun y=>by
 unfold iN;by_cases hm:y∈NH c
 ·rw[aH hm];have hk:=(wP 8 c.head u ⟨[],Wn.none⟩ hw ((Wn.rX _).1 hy)).2.2 [] y hm;cases hq:(dB 8 c.head u ⟨[],Wn.none⟩).st.find? (fun q=>q.1 == y)with
  | none=>
   exfalso;rcases hk with hk | hk
   ·cases hk
   ·obtain⟨q,hq1,hq2⟩:=bu.1 hk;have:=List.find?_eq_none.1 hq q hq1;simp[hq2]at this
  | some q=>exact DZ (Q:=mM) (fun k tx num ss h a ha=>h.arg ha) 8 c.head u ⟨[],Wn.none⟩ hu (fun q hq=>by cases hq) q (cR hq)
 ·rw[aG hm];exact Iq _
theorem kW.gd (hk:∀c∈cls,pV c) (hc:∀c∈cls,PB c) (h:kW cls S S' i p z) (hS:MF S):MF S':=by
 obtain⟨_,g,hg,⟨h1,_,σ,hl,e1,e2⟩ | ⟨h1,_⟩ | ⟨h1,_⟩ | ⟨_,_,_,e1,e2⟩ | ⟨n,ui,⟨hsg,tx,us,ha,_⟩,t,c,F,_,_,hct,hans,_,_,_,_,e1,e2⟩ | ⟨n,ui,_,_,_,_,e1,e2⟩⟩:=h
 ·have hG:=hS.gs g (bK hg);have hb:=hG.b h1;refine⟨fun u hu=> ?_,fun q hq=> ?_⟩
  ·rw[e1]at hu;obtain⟨v,hv,rfl⟩:=bu.1 hu;exact hl.mM hG.a hb (hS.vs v hv)
  ·rw[e2]at hq;obtain⟨v,hv,rfl⟩:=bu.1 hq;have hv':=hS.gs v (cX hv);exact⟨hv'.sg,hl.mM hG.a hb hv'.a,fun q=>hl.mM hG.a hb (hv'.b q)⟩
 ·have:=(hS.gs g (bK hg)).sg;rw[h1]at this;rcases this with q | q<;>cases q
 ·have:=(hS.gs g (bK hg)).sg;rw[h1]at this;rcases this with q | q<;>cases q
 ·exact⟨by rw[e1];exact hS.vs,fun q hq=>hS.gs q (by rw[e2]at hq;exact cX hq)⟩
 ·have hG:=hS.gs g (bK hg);have hcm:=bK hct;have hs1:(dB 8 c.head g.a ⟨[],Wn.none⟩).w.says=1:=by apply eo;intro q;unfold eK at hans;rw[aH q]at hans;exact q hans
  refine⟨by rw[e1];exact hS.vs,fun q hq=> ?_⟩;rw[e2]at hq;rcases bA.1 hq with hq | hq
  ·exact hS.gs q (cX hq)
  ·obtain⟨x,hx,rfl⟩:=bu.1 hq;obtain⟨k1,k2⟩:=hc c hcm x hx;obtain⟨k3,k4⟩:=k2 _ (fun y=>NF (hk c hcm).wl hG.a hs1 (fun k=>(F[k]?).getD 0) y);exact⟨k1,k3,k4⟩
 ·refine⟨by rw[e1];exact hS.vs,fun q hq=> ?_⟩;rw[e2]at hq;have hG:=hS.gs g (bK hg);rcases cQ hq with hq | hq
  ·exact hS.gs q hq
  ·rw[hq];exact⟨hG.sg,hG.a,hG.b⟩
theorem jk.gd {cls:List dE} (hk:∀c∈cls,pV c) (hc:∀c∈cls,PB c) {script:List (Int×Int)} {S0:MS} (h0:MF S0) {j:Nat} {S:MS} {L:List Int} (h:jk cls script S0 j S L):MF S:=by
 induction h with
 | start=>exact h0
 | step h hs hi hg hl ih=>exact hg.gd hk hc ih
theorem Gy (h:∀x∈ys,PA x) (s:Nat) (N:List (List UInt8)):MF ⟨(List.range N.length).map fun k=> .v ([],s+k),ys.map (MG.of fun y=> .v ([],s+N.idxOf y)),s+N.length⟩:=by
 refine⟨fun u hu=> ?_,fun g hg=> ?_⟩
 ·obtain⟨k,_,rfl⟩:=bu.1 hu;exact Iq _
 ·obtain⟨x,hx,rfl⟩:=bu.1 hg;obtain⟨k1,k2⟩:=h x hx;obtain⟨k3,k4⟩:=k2 (fun y=> .v ([],s+N.idxOf y)) (fun y=>Iq _);exact⟨k1,k3,k4⟩
theorem CQ (r:Nat->Nat) (h:mM u):mM (fm r u):=⟨rS (fun _=>Bg _) u h.1,(sA h.2).mono fun x hx=>⟨hx.1,trivial⟩⟩
theorem fH.gd (h:fH r P S A) (hS:MF S):MF A:=by
 refine⟨fun u hu=> ?_,fun g hg=> ?_⟩
 ·rw[h.vs]at hu;obtain⟨v,hv,rfl⟩:=bu.1 hu;exact CQ r (hS.vs v hv)
 ·rw[h.gs]at hg;obtain⟨v,hv,rfl⟩:=bu.1 hg;obtain⟨k1,k2,k3⟩:=hS.gs v hv;exact⟨k1,CQ r k2,fun q=>CQ r (k3 q)⟩
end af
namespace af
variable {σ:Vr->U} {vs' us ss:List U} {B S0 A:MS} {cls cs:List dE} {r' r:Nat->Nat} {k:Nat} {en en' n:Int} {v' g' g v:List (List UInt8)} {log' log:List Int} {P' P:Nat->Prop} {w' w:List Bool} {script:List (Int×Int)} {c:UInt8} {tx:List UInt8} {η:List UInt8->U} {t:Tm} {x:dq}
def JT (v v':List (List UInt8)):Prop:=v.length=v'.length/\∀i (h:i<v.length) (h':i<v'.length) (s1 s2:ByteArray) (L1 L2:List bX),s1=⟨v[i].toArray⟩->s2=⟨v'[i].toArray⟩->eM s1 L1->hd L1=next s1 0->eM s2 L2->hd L2=next s2 0->∀(t1 t2:Tm) (l1 l2:List bX),whole L1= .inr (t1,l1)->whole L2= .inr (t2,l2)->∀η:List UInt8->U,(dB 8 t1 (fb η 8 t2) ⟨[],Wn.none⟩).w.says=1
theorem Lh (hu:∀u∈us,mM u) (hv:∀u∈vs',mM u) (e:vs'=us.map (sub σ)):JT (jj us).1 (jj vs').1:=by
 obtain⟨a1,a2⟩:=D0 us;obtain⟨b1,b2⟩:=D0 vs';have hl:vs'.length=us.length:=by rw[e,bj]
 refine⟨by rw[a1,b1,hl],fun i h h' s1 s2 L1 L2 e1 e2 c1 d1 c2 d2 t1 t2 l1 l2 w1 w2 η=> ?_⟩;have hi:i<us.length:=by rw[<-a1];exact h
 obtain⟨N,k1,k2⟩:=a2 i hi;obtain⟨N',k3,_⟩:=b2 i (by omega);have f1:(jj us).1[i]=d7 Go.Lib.itoa N us[i]:=by rw[aj h]at k1;exact cF k1
 have f2:(jj vs').1[i]=d7 Go.Lib.itoa N' (sub σ us[i]):=by rw[aj h']at k3;rw[cF k3];congr 1;simp only[e,fy]
 have hs:oM (sub σ us[i]):=by
  have:sub σ us[i]∈vs':=by rw[e];exact bu.2 ⟨_,aL hi,rfl⟩
  exact(hv _ this).1
 exact GK (hu _ (aL hi)).1 hs k2 (by rw[e1,f1]) (by rw[e2,f2]) c1 d1 c2 d2 w1 w2 η
theorem KM (hok:∀c∈cls,pV c) (hgc:∀c∈cls,PB c) (h0:MF S0) (hA:fH r P S0 A) (hB:fH r' P' S0 B) (hk:k<=script.length) (h1:oR cls (script.take k) A en log v g w) (h2:oR cls script B en' log' v' g' w'):
 (1<=en/\en<=6)/\((en≠3/\en'=en/\log'=log/\v'=v/\g'=g/\w'=w/\log.length<=k)\/(en=3/\(∃M,log'=log++M)/\log.length=k/\g.length=w.length/\0<g.length/\((3<en'/\v'=[]/\g'=[]/\w'=[]/\k<log'.length)\/(en'<=3/\JT v v')))):=by
 obtain⟨q,Q,hR⟩:=hA.both hB;obtain⟨e0,e1 | ⟨e1,e2,e3,e4,e5,e6 | ⟨e6,T,S,K,L,j,σ,hT,hS,hv,rfl,rfl⟩⟩⟩:=KL hok hR hk h1 h2
 ·exact⟨e0,ay e1⟩
 ·exact⟨e0,aw ⟨e1,e2,e3,e4,e5,ay e6⟩⟩
 ·have hg:=hB.gd h0;exact⟨e0,aw ⟨e1,e2,e3,e4,e5,aw ⟨e6,Lh (hT.gd hok hgc hg).vs (hS.gd hok hgc hg).vs hv⟩⟩⟩
theorem Mf (h:low c.toNat=true):jC 2 [c]:=⟨c,[],rfl,ay ⟨rfl,h⟩,fun d hd=>by rw[a8.1 hd];unfold e9;simp[h]⟩
theorem Oh (c:UInt8):(⟨#[c]⟩:ByteArray).toList=[c]:=fx [c]
theorem Pa (c:UInt8):numOf ⟨#[c]⟩=oG [c]:=by unfold numOf;rw[Oh]
theorem mp (hw:jC 2 tx) (hl:ss.length<=3) (hs:∀a∈ss,mM a):mM (.n 1 tx 0 ss):=⟨.mk (ay ⟨rfl,hw,hl,rfl⟩) fun a ha=>(hs a ha).1,.n fun a ha=>(hs a ha).2⟩
theorem Nz (h0:0<=n) (h9:n<=9):mM (.n 3 [] n []):=⟨.mk (aw ⟨rfl,rfl,rfl,h0,h9⟩) (fun a ha=>by cases ha),.n (fun a ha=>by cases ha)⟩
theorem Eb (hη:∀y,mM (η y)) (h:jd t) (f:Nat):mM (fb η (f+1) t):=by
 obtain⟨ha,⟨hk,_⟩ | ⟨hk,ht⟩ | ⟨hk,ht⟩⟩:=h
 ·rw[wn η f hk];exact hη _
 ·rw[me,aG (by omega),aH hk];have:numOf t.text<=9:=by simp only[Bj,bh,cC,gq]at ht;rcases ht with e | e | e<;>rw[e,Pa]<;>decide
  exact Nz (by omega) (by omega)
 ·rw[me,aG (by omega),aG (by omega),ha];refine mp ?_ (by simp) (fun a ha=>by cases ha);simp only[vF,bh,cC,gq]at ht;rcases ht with e | e | e<;>rw[e,Oh]
  ·exact Mf (c:=97) (by decide)
  ·exact Mf (c:=98) (by decide)
  ·exact Mf (c:=110) (by decide)
theorem Bf {η:List UInt8->U} (hη:∀y,mM (η y)):∀(d:Nat) (t:Tm) (f:Nat),gT d t->d<f->mM (fb η f t)
 | 0,t,f+1,h,_=>Eb hη h f
 | d+1,t,f+1,h,hf=>by
  rcases h with h | ⟨hk,ht,a,ha,h⟩ | ⟨hk,ht,a,b,ha,h,h'⟩
  ·exact Eb hη h f
  ·rw[me,aG (by omega),aG (by omega),ha,ht,Oh];refine mp (Mf (c:=102) (by decide)) (by simp) fun x hx=> ?_;rw[a8.1 hx];exact Bf hη d a f h (by omega)
  ·rw[me,aG (by omega),aG (by omega),ha,ht,Oh];refine mp (Mf (c:=103) (by decide)) (by simp) fun x hx=> ?_;simp only[aY,bV,bh,cC,gq]at hx;rcases hx with rfl | rfl
   ·exact Bf hη d a f h (by omega)
   ·exact Bf hη d b f h' (by omega)
theorem LD (hη:∀y,mM (η y)) (h:pC t):mM (fb η 8 t):=by
 obtain⟨hk,h⟩:=h;rw[me,aG (by omega),aG (by omega)];rcases h with⟨ht,ha⟩ | ⟨ht,h⟩
 ·rw[ha,ht,show (⟨#[116,114,117,101]⟩:ByteArray).toList=[116,114,117,101]from fx _]
  exact mp ⟨116,[114,117,101],rfl,ay ⟨rfl,by decide⟩,by decide⟩ (by simp) (fun a ha=>by cases ha)
 ·have hw:jC 2 t.text.toList:=by
   simp only[py,bh,cC,gq]at ht;rcases ht with e | e | e<;>rw[e,Oh]
   ·exact Mf (c:=112) (by decide)
   ·exact Mf (c:=113) (by decide)
   ·exact Mf (c:=114) (by decide)
  rcases h with ha | ⟨a,ha,h⟩ | ⟨a,b,ha,h,h'⟩
  ·rw[ha];exact mp hw (by simp) (fun a ha=>by cases ha)
  ·rw[ha];refine mp hw (by simp) fun x hx=> ?_;rw[a8.1 hx];exact Bf hη 1 a 7 h (by omega)
  ·rw[ha];refine mp hw (by simp) fun x hx=> ?_;simp only[aY,bV,bh,cC,gq]at hx;rcases hx with rfl | rfl
   ·exact Bf hη 1 a 7 h (by omega)
   ·exact Bf hη 1 b 7 h' (by omega)
theorem Ec (h:FV x):PA x:=by
 cases h with
 | call t h=>exact⟨ay rfl,fun η hη=>⟨LD hη h,fun q=>by cases q⟩⟩
 | eq a b ha hb=>exact⟨aw rfl,fun η hη=>⟨Bf hη 1 a 8 ha (by omega),fun _=>Bf hη 1 b 8 hb (by omega)⟩⟩
theorem G5:∀{xs:List dq},(∀x∈xs,FV x)->xs.length<=3->(jF fX false xs).length<=50
 | [],_,_=>by simp[jF]
 | [x],h,_=>by have h1:=(ju gV (h x (by simp))).2;rw[rH];omega
 | [x,y],h,_=>by have h1:=(ju gV (h x (by simp))).2;have h2:=(ju gV (h y (by simp))).2;rw[show [x,y]=[x]++[y]from rfl,o5 _ _ (by simp),rH,au,aT];omega
 | [x,y,z],h,_=>by have h1:=(ju gV (h x (by simp))).2;have h2:=(ju gV (h y (by simp))).2;have h3:=(ju gV (h z (by simp))).2;rw[show [x,y,z]=[x]++[y]++[z]from rfl,o5 _ _ (by simp),o5 _ _ (by simp),rH,au,au,aT,aT];omega
 | x :: y :: z :: u :: xs,_,h=>by simp at h
theorem H9 {c:dE} (h:gC c):(pT fX false c).length<=80:=by
 have h1:(fC fX 8 c.head).length<=16:=by have:=(ju gV (.call c.head h.head)).2;rw[show jG fX ⟨c.head,[],none,[],none⟩=fC fX 8 c.head by simp[jG]]at this;omega
 unfold pT;cases hg:c.goals with
 | nil=>simp[nl];omega
 | cons g gs=>
  have h2:=G5 (xs:=c.goals) h.goals h.few;rw[hg]at h2;rcases h.tests with ht | ⟨x,ht,hx⟩
  ·rw[ht];simp[nl,sp];omega
  ·have h3:=(xg gV hx).2;rw[ht];simp[nl,sp];omega
def Oa (cs:List dE):Prop:=cs.length<=3/\∀c∈cs,gC c
theorem Fh (h:Oa cs):(iW cs).length<=240:=by have h1:=DK (σ:=fun _=>fX) (b:=false) (k:=80) (cs:=cs) (fun c hc=>H9 (h.2 c hc));have h2:cs.length*80<=3*80:=bY _ h.1;unfold iW;omega
end af
namespace Go.Proofs.YthfjnfcekeknlabGreatDoor
open Go.RowKit af
theorem sC {cs:List af.dE} (h:Oa cs):(⟨(iW cs).toArray⟩:ByteArray).size<=240:=by have:=Fh h;show (iW cs).toArray.size<=240;simpa using this
def P6 (w:World) (xb:Nat) (k:Nat) (sv iv:Value) (wr:World):Prop:=
 ∃cs:List af.dE,cs.length+k<=3/\(∀c∈cs,gC c)/\sv= .string ⟨(iW cs).toArray⟩/\iv= .int .i64 (k:Int)/\ip wr xb/\bZ (FY xb) (FY xb) w wr
theorem wI (w:World) (xb:Nat) (h:ip w xb):
 Calls Tryz.prog 14 #[.pointer (some ⟨xb,0,none⟩),.int .i64 3] w fun e w'=>Made Oa iW xb w e w':=by
 have HN:=ah (gS w xb 4 h (by omega) (by omega));have HC:=ah (fun W (q:ip W xb)=>By W xb q);clear h;go_enter Tryz.func14,Tryz.ntmps14;go_wp2_with fail;refine(ae HN).mono ?_;rintro e w3 ⟨⟨m,hm,rfl⟩,hs,fr⟩;have HST:=ah (show P6 w xb m (.string ⟨#[]⟩) (.int .i64 (m:Int)) w3 from ⟨[],by simp;omega,(fun c hc=>by cases hc),rfl,rfl,hs,fr⟩)
 clear hs fr;go_wp2_with fail;go_loopg [5,6] m (fun k sv iv wr=>P6 w xb k sv iv wr)
 case atStart=>exact ae HST
 case round=>
  clear HST;obtain⟨cs,h2,hg,rfl,rfl,hs,fr⟩:=hrel;have HG:=ah hg;have HS:=ah hs;have HF:=ah fr;have zz:=sC (cs:=cs) ⟨by omega,hg⟩;clear hs fr hg;have HTX0:=ah (EY cs);generalize hta:(⟨(iW cs).toArray⟩:ByteArray)=tb at*;have HTB:=ah hta;clear hta;rcases(show gk=0\/0<gk by omega)with rfl | hk0
  ·go_wp2_with fail;go_ret;exact⟨⟨cs,⟨by omega,ae HG⟩,by rw[ae HTB];rfl⟩,ae HS,ae HF⟩
  ·have t1:decide (0<gk)=true:=by simp;omega
   go_wp2_with fail;refine(ae HC _ (ae HS)).mono ?_;rintro e w5 ⟨⟨y,hy,rfl⟩,hs,fr⟩;have HY:=ah hy;have HS5:=ah hs;have HF5:=ah ((ae HF).trans fr);have zy:=xt hy;have HTX:=ah (ae HTX0 y);clear hy hs fr HTX0;generalize (⟨(pT fX false y).toArray⟩:ByteArray)=ty at*;go_wp2_with fail;go_roundg (gk - 1)
   case measure=>omega
   case rel=>exact⟨cs++[y],by simp;omega,fun z hz=>by
    rcases bA.1 hz with q | q
    ·exact ae HG z q
    ·rw[a8.1 q];exact ae HY,by rw[<-ae HTX],by go_num,ae HS5,ae HF5⟩
