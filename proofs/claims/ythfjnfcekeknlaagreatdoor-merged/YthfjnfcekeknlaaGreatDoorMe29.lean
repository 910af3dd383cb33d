import Derived.Test.YthfjnfcekeknlaaGreatDoorMe22
import Derived.Test.YthfjnfcekeknlaaGreatDoorMe27
import Derived.Deep.LoopGhost
set_option maxHeartbeats 8000000
set_option maxRecDepth 100000
namespace Zc
def uZ (TT:Nat→U) (u:U) (c:aJ) (V:List Nat):Prop:=V.length=(namesF 8 [] c.head).length∧∀(i:Nat) (x:List UInt8) (m:Nat),(namesF 8 [] c.head)[i]?=some x→V[i]?=some m→∃q,(matU 8 c.head u ⟨[],Wn.none⟩).st.find? (fun q=>q.1 == x)=some q∧TT m=q.2
end Zc
namespace Go.Proofs.YthfjnfcekeknlaaGreatDoor
open Go.RowKit
def qJ (u:Zc.U) (b:Nat) (c:Zc.aJ) (V F:List Nat) (T':Nat→Zc.U) (says:Nat) (ws:List Nat):Prop:=
 ((Zc.matU 8 c.head u ⟨[],Zc.Wn.none⟩).w.says≠1∧says=(Zc.matU 8 c.head u ⟨[],Zc.Wn.none⟩).w.says∧ws=(Zc.matU 8 c.head u ⟨[],Zc.Wn.none⟩).w.wt)∨
 ((Zc.matU 8 c.head u ⟨[],Zc.Wn.none⟩).w.says=1∧Zc.uZ T' u c V∧(V++F).length=(Zc.NT c).length∧(∀f∈F,b≤f∧T' f= .v ([],f))∧F.Pairwise (·<·)∧says=(Zc.iU (cR T' (V++F) (Zc.NG c)) c.tests).says∧ws=Zc.ko (V++F) V.length (Zc.iU (cR T' (V++F) (Zc.NG c)) c.tests).wt)
def Ny (PP:Nat→Prop) (mb:Nat) (cs:Array Value) (D:List Ng) (nO:Option Addr) (fr:Nat→Nat) (TT:Nat→Zc.U) (n:Nat) (c:Zc.aJ) (w:World) (e:Ending) (w':World):Prop:=
 ∃(says:Nat) (ws:List Nat) (oo:Option Addr) (oc:Nat) (vo':Option Addr) (vl vc':Nat) (E:List Ng) (V F:List Nat) (no':Option Addr) (nc':Nat) (T':Nat→Zc.U),e= .returned (.agg #[.int .i64 (says:Int),.slice oo ws.length oc,.slice vo' vl vc'])∧w'.ownsRow w.heap.size 3 1 (.slice oo ws.length oc) ws.length (ws.map aK)∧qJ (TT n) D.length c V F T' says ws∧ws.length≤12000000∧(∀v∈ws,v<(D++E).length)∧
  bG w' mb 1 (cs.setIfInBounds 1 (.slice no' (D++E).length nc')) 91 (D++E) no' nc'∧bV (D++E) fr∧Zc.dH (aZ (D++E)) fr T'∧(∀m,m<D.length→T' m=TT m)∧dL D.length E∧E.length≤78732∧a8 w' (D++E) (fun g=>PP g∧¬rowOf vo' g)∧au (cF mb nO) (cF mb no') w w'∧
  (says=1→(∀m∈V,m<D.length)∧vl=(V++F).length∧w'.ownsRow 0 3 1 (.slice vo' (V++F).length vc') (V++F).length ((V++F).map aK)∧(∀k,rowOf vo' k→cF mb nO k∨w.heap.size≤k)∧(∀n∈V++F,n<(D++E).length)∧(V++F).length=(Zc.NT c).length∧fH D.length E F)
theorem AY (l:Zc.Wn):l.says=1∨l.says=2∨l.says=3:=by
 unfold Zc.Wn.says
 split
 ·exact Or.inr (Or.inl rfl)
 ·split
  ·exact Or.inl rfl
  ·exact Or.inr (Or.inr rfl)
theorem bV.kV {D:List Ng} {fr:Nat→Nat} {T:Nat→Zc.U} (ok:bV D fr) (hS:Zc.dH (aZ D) fr T):∀n,n<D.length→Zc.bA (fun x=>x.1=[]∧x.2<D.length∧fr x.2=x.2) (T n):=
 hS.kV (fun n hn=>ok.lt hn) (fun n hn a ha=>by rw[jT hn]at ha;exact(ok.nd n hn).inn a ha)
theorem pF {D E:List Ng} {F:List Nat} {fr:Nat→Nat} {T':Nat→Zc.U} (ok:bV (D++E) fr) (hS:Zc.dH (aZ (D++E)) fr T') (nd:dL D.length E) (nv:fH D.length E F):∀f∈F,D.length≤f∧f<(D++E).length∧T' f= .v ([],f):=fun f hf=>by
 obtain⟨h1,d,h2,h3⟩:=nv.var f hf
 have hl:f<(D++E).length:=by
  have:=(List.getElem?_eq_some_iff.1 h2).1
  rw[List.length_append];omega
 have hd:(D++E)[f]=d:=by rw[List.getElem_append_right h1];exact(List.getElem?_eq_some_iff.1 h2).2
 have cW:fr f=f:=(ok.self hl).2 (nd.at h1 hl).1
 have hv:=hS.var (n:=f) (by rw[cW,lY hl,hd];exact(ok.nd f hl |> fun q=>by rw[hd]at q;exact q.gh.2 h3))
 rw[cW]at hv
 exact⟨h1,hl,hv⟩
theorem LM (w:World) (mb:Nat) (cs:Array Value) (D:List Ng) (nO:Option Addr) (nC:Nat) (fr:Nat→Nat) (TT:Nat→Zc.U) (PP:Nat→Prop) (a:AV) (o1 o2:Option Addr) (n1 c1 n2 c2 n:Nat) (c:Zc.aJ) (hG:gB w w.heap.size mb 1 cs 91 D nO nC fr TT PP) (hPP:∀g,w.heap.size≤g→PP g) (hc:eJ w a o1 n1 o2 n2 c) (ok:Zc.jN c) (hn:n<D.length) (hsz:Zc.size (TT n)≤300) (hD:D.length+100000≤1000000000):
 Calls Tryz.prog 182 #[.pointer (some ⟨mb,1,none⟩),.agg #[.int .i64 a.k,.int .i64 a.val,.string a.tx,.slice a.ao a.n a.cap,.slice o1 n1 c1,.slice o2 n2 c2],.int .i64 (n:Int)] w fun e w'=>Ny PP mb cs D nO fr TT n c w e w':=by
 have hsm:=Zc.uN (B:=300) 8 c.head (TT n) ⟨[],Zc.Wn.none⟩ ok.wl hsz (by omega) (fun q hq=>by cases hq)
 have q3:3 ^ 8=6561:=by decide
 rw[q3]at hsm
 have XR:=Zc.mY 8 c.head (TT n) ⟨[],Zc.Wn.none⟩ (hG.ok.kV hG.to n hn) ⟨(fun q hq=>by cases hq),Zc.dG _⟩
 obtain⟨KT,hKT⟩:=Zc.jW c.tests (Zc.namesF 8 [] c.head)
 obtain⟨KG,hKG⟩:=Zc.jW c.goals (Zc.NT c)
 have hNT:Zc.NT c=Zc.namesF 8 [] c.head++KT:=hKT
 have hNG:Zc.NG c=Zc.NT c++KG:=hKG
 by_cases hy:(Zc.matU 8 c.head (TT n) ⟨[],Zc.Wn.none⟩).w.says=1
 ·refine(F9 w mb 1 cs 91 D nO nC fr TT PP a o1 o2 n1 c1 n2 c2 n (Zc.NG c) KG c.head c.tests hG hPP (by decide) (by decide) (by decide) (by decide) (by decide) (by decide) hc.head hc.tests hNG ok.wl ok.ts ok.tl hn hsz hD hy ok.t0).mono ?_
  rintro e w' ⟨V,hVl,hVD,hVq,l,E,F,no',nc',vo',vc',T',oo,oc,rfl,rfl,Q9,Np,hro,hs,aF,fE,bt,hlt,hold,dC,gR,lO,fD,kW⟩
  have o9:=pF aF fE dC gR
  have Gh:∀y∈Zc.NT c,∃m∈V++F,cR T' (V++F) (Zc.NG c) y=T' m:=fun y hy=>Jc hy hNG lO
  have hsize:∀m∈V++F,Zc.size (T' m)≤300:=fun m hm=>by
   rcases List.mem_append.1 hm with q | q
   ·rw[hold m (hVD m q)]
    obtain⟨i,hi,rfl⟩:=List.getElem_of_mem q
    obtain⟨r,h1,h2⟩:=hVq i (Zc.namesF 8 [] c.head)[i] V[i] (List.getElem?_eq_getElem (by omega)) (List.getElem?_eq_getElem hi)
    rw[h2]
    exact hsm.1 r (List.mem_of_find?_eq_some h1)
   ·rw[(o9 m q).2.2]
    simp[Zc.size]
  have hlen:(Zc.iU (cR T' (V++F) (Zc.NG c)) c.tests).wt.length≤c.tests.length*2000000:=Zc.OJ c.tests (Zc.namesF 8 [] c.head) ok.ts fun y hy=>by
   obtain⟨m,hm,he⟩:=Gh y hy
   rw[he]
   exact hsize m hm
  have V7:=Zc.yE (η:=cR T' (V++F) (Zc.NG c)) c.tests (Zc.namesF 8 [] c.head) ok.ts fun y hy=>by
   obtain⟨m,hm,he⟩:=Gh y hy
   rw[he]
   exact aF.kV fE m (hlt m hm)
  refine⟨_,_,oo,oc,vo',_,vc',E,V,F,no',nc',T',rfl,Q9,Or.inr ⟨hy,⟨hVl,fun i x m h1 h2=>by rw[hold m (hVD m (List.mem_of_getElem? h2))];exact hVq i x m h1 h2⟩,lO,fun f hf=>⟨(o9 f hf).1,(o9 f hf).2.2⟩,gR.ord,rfl,rfl⟩,?_,?_,hs,aF,fE,hold,dC,fD,bt,kW,fun _=>⟨hVD,rfl,Np,hro,hlt,lO,gR⟩⟩
  ·have h1:(Zc.ko (V++F) V.length (Zc.iU (cR T' (V++F) (Zc.NG c)) c.tests).wt).length≤(Zc.iU (cR T' (V++F) (Zc.NG c)) c.tests).wt.length:=List.length_filter_le _ _
   have h2:=ok.tl
   omega
  ·intro v hv
   obtain⟨x,hx,rfl⟩:=V7 v (List.mem_filter.1 hv).1
   exact hx.2.1
 ·refine(Jd w mb 1 cs 91 D nO nC fr TT PP a o1 o2 n1 c1 n2 c2 n (Zc.NG c) (KT++KG) c.head hG hc.head (by rw[hNG,hNT,List.append_assoc]) ok.wl hn hsz hy).mono ?_
  rintro e w' ⟨wo,wc,rfl,ho,hb⟩
  refine⟨_,_,wo,wc,none,0,0,[],[],[],nO,nC,TT,rfl,ho,Or.inl ⟨hy,rfl,rfl⟩,?_,?_,?_,by simpa using hG.ok,by simpa using hG.to,fun _ _=>rfl,(fun i d hd=>by simp at hd),by simp,?_,au.aw hb,fun q=>absurd q hy⟩
  ·have:=hsm.2
   simp only[Zc.Wn.none,List.length_nil]at this⊢
   omega
  ·intro v hv
   obtain⟨x,hx,rfl⟩:=XR.2 v hv
   simpa using hx.2.1
  ·rw[List.append_nil,mi hG.st.cel]
   exact hG.st.below hb
  ·rw[List.append_nil]
   exact(hG.ar.below hb).keep fun g _ hp hg=>⟨hg,hp,fun⟨_,q,_⟩=>by cases q⟩
end Go.Proofs.YthfjnfcekeknlaaGreatDoor
namespace Zc
def cE (rs:List (Nat×List Nat)):List Nat:=rs.flatMap fun r=>if r.1=3 then r.2 else []
def my (rs:List (Nat×List Nat)):Bool:=rs.any fun r=>r.1 == 3
theorem qm (rs:List (Nat×List Nat)) (r:Nat×List Nat):cE (rs++[r])=cE rs++(if r.1=3 then r.2 else []):=by simp[cE]
theorem Af (rs:List (Nat×List Nat)) (r:Nat×List Nat):my (rs++[r])=(my rs||(r.1 == 3)):=by simp[my]
end Zc
namespace Go.Proofs.YthfjnfcekeknlaaGreatDoor
open Go.RowKit
theorem cQ.asked {w w':World} {mb:Nat} {cs:Array Value} {D D':List Ng} {nO no':Option Addr} {nC nc':Nat} {fr:Nat→Nat} {G:List Gl} {po:Option Addr} {pc:Nat} (h:cQ w mb cs D nO nC fr G po pc) (hs:bG w' mb 1 (cs.setIfInBounds 1 (.slice no' D'.length nc')) 91 D' no' nc') (ok:bV D' fr) (hl:D.length≤D'.length) {R':Nat→Prop} (hf:au (cF mb nO) R' w w'):cQ w' mb (cs.setIfInBounds 1 (.slice no' D'.length nc')) D' no' nc' fr G po pc:=by
 have keep:∀(k:Nat) (ys:Array Value) (S:TypeId),w.heap[k]?=some (.cells ys S (0,0))→S≠91→S≠180→w'.heap[k]?=w.heap[k]?:=fun k ys S hk h1 h2=>(h.st.rL hf hk h1 h2).trans hk.symm
 refine⟨hs,ok,by rw[Array.getElem?_setIfInBounds_ne (by omega)];exact h.c3,ai h.pool fun g q=> ?_,fun g hg=>ai (h.nds g hg) fun k q=> ?_,fun g hg v hv=>Nat.lt_of_lt_of_le (h.nlt g hg v hv) hl,h.nl⟩
 ·obtain⟨cur,hc⟩:=aM h.pool (aI q)
  exact keep g _ _ hc (by decide) (by decide)
 ·obtain⟨cur,hc⟩:=aM (h.nds g hg) (aI q)
  exact keep k _ _ hc (by decide) (by decide)
def iW (own:List Nat) (bg t:Nat):Nat:=(own[(bg+t) % own.length]?).getD 0
def nR (cls:List Zc.aJ) (own:List Nat) (bg:Nat) (u:Zc.U) (b:Nat) (rs:List (Nat×List Nat)):Prop:=∀(t:Nat) (r:Nat×List Nat),rs[t]?=some r→r.1≠1∧∃(c:Zc.aJ) (V F:List Nat) (T':Nat→Zc.U),cls[iW own bg t]?=some c∧qJ u b c V F T' r.1 r.2
structure CG (P:Nat→Prop) (w:World) (mb:Nat) (cs:Array Value) (D:List Ng) (nO:Option Addr) (fr:Nat→Nat) (TT:Nat→Zc.U) (G:List Gl) (po:Option Addr) (pc:Nat) (cls:List Zc.aJ) (own:List Nat) (bg n:Nat) (E:List Ng) (no1:Option Addr) (nc1:Nat) (T1:Nat→Zc.U) (rs:List (Nat×List Nat)) (oo:Option Addr) (oc:Nat) (wr:World):Prop where
 ow:wr.ownsRow w.heap.size 3 1 (.slice oo (Zc.cE rs).length oc) (Zc.cE rs).length ((Zc.cE rs).map aK)
 tr:nR cls own bg (TT n) D.length rs
 mc:cQ wr mb (cs.setIfInBounds 1 (.slice no1 (D++E).length nc1)) (D++E) no1 nc1 fr G po pc
 ar:a8 wr (D++E) (fun g=>P g∧¬rowOf oo g)
 to:Zc.dH (aZ (D++E)) fr T1
 old:∀m,m<D.length→T1 m=TT m
 nd:dL D.length E
 el:E.length≤rs.length*78732
 lt:∀v∈Zc.cE rs,v<(D++E).length
 ln:(Zc.cE rs).length≤rs.length*12000000
 fg:au (cF mb nO) (fun k=>cF mb no1 k∨rowOf oo k) w wr
def UW (P:Nat→Prop) (w:World) (mb:Nat) (cs:Array Value) (D:List Ng) (nO:Option Addr) (fr:Nat→Nat) (TT:Nat→Zc.U) (G:List Gl) (po:Option Addr) (pc:Nat) (cls:List Zc.aJ) (own:List Nat) (bg n:Nat) (k:Nat) (wv av iv:Value) (wr:World):Prop:=
 ∃(rs:List (Nat×List Nat)) (E:List Ng) (no1:Option Addr) (nc1:Nat) (T1:Nat→Zc.U) (oo:Option Addr) (oc:Nat),k+rs.length=own.length∧iv= .int .i64 (rs.length:Int)∧wv= .bool (Zc.my rs)∧av= .slice oo (Zc.cE rs).length oc∧CG P w mb cs D nO fr TT G po pc cls own bg n E no1 nc1 T1 rs oo oc wr
def nZ (P:Nat→Prop) (mb:Nat) (cs:Array Value) (D:List Ng) (nO:Option Addr) (fr:Nat→Nat) (TT:Nat→Zc.U) (G:List Gl) (po:Option Addr) (pc:Nat) (cls:List Zc.aJ) (own:List Nat) (bg n i:Nat) (gi:Gl) (w:World) (e:Ending) (w':World):Prop:=
 (∃(rs:List (Nat×List Nat)) (c:Zc.aJ) (V F:List Nat) (T2:Nat→Zc.U) (ws:List Nat) (E:List Ng) (F':List Nat) (no':Option Addr) (nc':Nat) (T':Nat→Zc.U) (Gn:List Gl) (po':Option Addr) (pc':Nat),rs.length<own.length∧nR cls own bg (TT n) D.length rs∧cls[iW own bg rs.length]?=some c∧qJ (TT n) D.length c V F T2 1 ws∧e= .returned (.int .i64 ((iW own bg rs.length+1:Nat):Int))∧
  cQ w' mb ((cs.setIfInBounds 1 (.slice no' (D++E).length nc')).setIfInBounds 3 (.slice po' (G.eraseIdx i++Gn).length pc')) (D++E) no' nc' fr (G.eraseIdx i++Gn) po' pc'∧a8 w' (D++E) P∧Zc.dH (aZ (D++E)) fr T'∧(∀m,m<D.length→T' m=TT m)∧(∀m∈V++F,T' m=T2 m)∧dL D.length E∧(V++F++F').length=(Zc.NG c).length∧(∀f∈F++F',D.length≤f∧T' f= .v ([],f))∧(F++F').Pairwise (·<·)∧(∀m∈V++F++F',m<(D++E).length)∧bO (mN T' (D++E).length (cR T' (V++F++F') (Zc.NG c))) c.goals Gn∧E.length≤1100000∧au (cF mb nO) (fun k=>cF mb no' k∨rowOf po' k) w w')∨
 (∃(rs:List (Nat×List Nat)),rs.length=own.length∧nR cls own bg (TT n) D.length rs∧Zc.my rs=false∧e= .returned (.int .i64 (-2))∧(∃cs2:Array Value,w'.heap[mb]?=some (.cells (cs2.setIfInBounds 5 (.int .i64 4)) 91 (0,0))∧∃no1 n1 nc1,cs2=cs.setIfInBounds 1 (.slice no1 n1 nc1))∧au (cF mb nO) (fun k=>k=mb) w w')∨
 (∃(rs:List (Nat×List Nat)) (E:List Ng) (no1:Option Addr) (nc1:Nat) (T1:Nat→Zc.U) (oo:Option Addr) (oc:Nat),rs.length=own.length∧nR cls own bg (TT n) D.length rs∧Zc.my rs=true∧e= .returned (.int .i64 (-1))∧cQ w' mb (cs.setIfInBounds 1 (.slice no1 (D++E).length nc1)) (D++E) no1 nc1 fr (G.set i {gi with wt:=true,no:=oo,nc:=oc,nd:=Zc.cE rs}) po pc∧a8 w' (D++E) P∧Zc.dH (aZ (D++E)) fr T1∧(∀m,m<D.length→T1 m=TT m)∧dL D.length E∧E.length≤1100000∧(∀k,rowOf oo k→w.heap.size≤k)∧au (fun k=>cF mb nO k∨rowOf po k) (fun k=>cF mb no1 k∨rowOf po k) w w')
theorem qJ.low {u:Zc.U} {b b':Nat} (hb:b'≤b) {c:Zc.aJ} {V F:List Nat} {T':Nat→Zc.U} {says:Nat} {ws:List Nat} (h:qJ u b c V F T' says ws):qJ u b' c V F T' says ws:=by
 rcases h with h | ⟨h1,h2,h3,h4,h5⟩
 ·exact Or.inl h
 ·exact Or.inr ⟨h1,h2,h3,fun f hf=>⟨Nat.le_trans hb (h4 f hf).1,(h4 f hf).2⟩,h5⟩
theorem b9 {w:World} {b:Nat} {S:TypeId} {sz:Nat} {o:Option Addr} {n cap:Nat} {xs:List Value} (h:w.ownsRow b S sz (.slice o n cap) n xs) {k:Nat} (hk:rowOf o k):b≤k∧k<w.heap.size:=by
 obtain⟨p,hp,hq⟩:=hk
 exact h.lt k (by rw[hp,hq];rfl)
theorem cQ.grown {w w':World} {mb:Nat} {cs:Array Value} {D:List Ng} {nO:Option Addr} {nC:Nat} {fr:Nat→Nat} {G:List Gl} {po:Option Addr} {pc:Nat} (h:cQ w mb cs D nO nC fr G po pc) {b n oc:Nat} {oo:Option Addr} {xs:List Value} (ho:w.ownsRow b 3 1 (.slice oo n oc) n xs) (hg:w.grownBy w' (Value.slice oo n oc).ownBlock) (ue:∀g∈G,∀k,rowOf g.no k→¬rowOf oo k):cQ w' mb cs D nO nC fr G po pc:=by
 have keep:∀(k:Nat) (ys:Array Value) (S:TypeId),w.heap[k]?=some (.cells ys S (0,0))→S≠3→w'.heap[k]?=w.heap[k]?:=fun k ys S hk hS=>hg.block k (ag hk) (bS (aQ ho hk hS))
 refine⟨⟨(keep mb _ _ h.st.blk (by decide)).trans h.st.blk,h.st.cel,ai h.st.own fun g q=> ?_,h.st.ty⟩,h.ok,h.c3,ai h.pool fun g q=> ?_,fun g oZ=>ai (h.nds g oZ) fun k q=> ?_,h.nlt,h.nl⟩
 ·obtain⟨cur,hc⟩:=aM h.st.own (aI q)
  exact keep g _ _ hc (by decide)
 ·obtain⟨cur,hc⟩:=aM h.pool (aI q)
  exact keep g _ _ hc (by decide)
 ·obtain⟨cur,hc⟩:=aM (h.nds g oZ) (aI q)
  exact hg.block k (ag hc) (bS (ue g oZ k (aI q)))
theorem CG.next {P:Nat→Prop} {w:World} {mb:Nat} {cs:Array Value} {D:List Ng} {nO:Option Addr} {fr:Nat→Nat} {TT:Nat→Zc.U} {G:List Gl} {po:Option Addr} {pc:Nat} {cls:List Zc.aJ} {own:List Nat} {bg n:Nat} {E:List Ng} {no1:Option Addr} {nc1:Nat} {T1:Nat→Zc.U} {rs:List (Nat×List Nat)} {oo:Option Addr} {oc:Nat} {wr:World} (h:CG P w mb cs D nO fr TT G po pc cls own bg n E no1 nc1 T1 rs oo oc wr)
 (ue:∀g∈G,∀k,rowOf g.no k→k<w.heap.size) {says:Nat} {ws:List Nat} {c:Zc.aJ} {V F:List Nat} {E2:List Ng} {no2:Option Addr} {nc2:Nat} {T2:Nat→Zc.U} {vo':Option Addr} (hc:cls[iW own bg rs.length]?=some c) (ha:qJ (T1 n) (D++E).length c V F T2 says ws) (hn:n<D.length) (hs1:says≠1) (hlen:ws.length≤12000000) (hlt:∀v∈ws,v<((D++E)++E2).length) {w2:World} (hst:bG w2 mb 1 ((cs.setIfInBounds 1 (.slice no1 (D++E).length nc1)).setIfInBounds 1 (.slice no2 ((D++E)++E2).length nc2)) 91 ((D++E)++E2) no2 nc2) (aF:bV ((D++E)++E2) fr) (fE:Zc.dH (aZ ((D++E)++E2)) fr T2) (hold:∀m,m<(D++E).length→T2 m=T1 m) (dC:dL (D++E).length E2) (fD:E2.length≤78732) (bt:a8 w2 ((D++E)++E2) (fun g=>(P g∧¬rowOf oo g)∧¬rowOf vo' g)) (kW:au (cF mb no1) (cF mb no2) wr w2)
 {w9:World} (hb:Below w2.heap.size w2 w9) {oo':Option Addr} {oc':Nat} {w':World} (hrow:w'.ownsRow w.heap.size 3 1 (.slice oo' (Zc.cE (rs++[(says,ws)])).length oc') (Zc.cE (rs++[(says,ws)])).length ((Zc.cE (rs++[(says,ws)])).map aK)) (hgr:w9.grownBy w' (Value.slice oo (Zc.cE rs).length oc).ownBlock) (hat:∀k,rowOf oo' k→rowOf oo k∨w9.heap.size≤k):
 CG P w mb cs D nO fr TT G po pc cls own bg n (E++E2) no2 nc2 T2 (rs++[(says,ws)]) oo' oc' w':=by
 have hz1:=h.fg.size
 have hz2:=kW.size
 have Y5:=hb.size
 have hz':=hgr.size
 have ow2:w9.ownsRow w.heap.size 3 1 (.slice oo (Zc.cE rs).length oc) (Zc.cE rs).length ((Zc.cE rs).map aK):=ai h.ow fun g q=>by
  obtain⟨cur,qo⟩:=aM h.ow (aI q)
  have h1:=h.mc.st.rL kW qo (by decide) (by decide)
  rw[hb.block g (ag h1),h1,qo]
 have fF:=(((h.mc.asked hst aF (dV _ _) kW).below hb).grown ow2 hgr (fun g hg k hk hk2=>by
  have h1:=ue g hg k hk
  have h2:=(b9 h.ow hk2).1
  omega))
 have hu:T1 n=TT n:=h.old n hn
 rw[hu]at ha
 refine⟨hrow,fun t r hr=> ?_,by rw[←List.append_assoc];rw[set_set]at fF;exact fF,?_,by rw[←List.append_assoc];exact fE,fun m hm=> ?_,h.nd.app (by have:=dC;rwa [List.length_append]at this),?_,?_,?_,?_⟩
 ·by_cases q:t<rs.length
  ·rw[List.getElem?_append_left q]at hr
   exact h.tr t r hr
  ·rw[List.getElem?_append_right (by omega)]at hr
   obtain rfl:t=rs.length:=by
    have:=(List.getElem?_eq_some_iff.1 hr).1
    simp at this
    omega
   simp at hr
   subst hr
   exact⟨hs1,c,V,F,T2,hc,ha.low (by rw[List.length_append];omega)⟩
 ·rw[←List.append_assoc]
  refine bt.keep fun g ys hp hg=> ?_
  have Rk:=(hb.block g (ag hg)).trans hg
  refine⟨(hgr.block g (ag Rk) (bS hp.1.2)).trans Rk,hp.1.1,fun q=> ?_⟩
  rcases hat g q with e | e
  ·exact hp.1.2 e
  ·have:=ag Rk;omega
 ·rw[hold m (by rw[List.length_append];omega),h.old m hm]
 ·have:=h.el
  rw[List.length_append,List.length_append,Nat.add_mul]
  simp only[List.length_cons,List.length_nil]
  omega
 ·intro v hv
  rw[←List.append_assoc]
  rw[Zc.qm]at hv
  rcases List.mem_append.1 hv with q | q
  ·exact Nat.lt_of_lt_of_le (h.lt v q) (dV _ _)
  ·split at q
   ·exact hlt v q
   ·cases q
 ·have h1:=h.ln
  have h2:(if(says,ws).1=3 then(says,ws).2 else []).length≤ws.length:=by
   split
   ·exact Nat.le_refl _
   ·exact Nat.zero_le _
  have h3:(rs++[(says,ws)]).length=rs.length+1:=by simp
  rw[Zc.qm,List.length_append,h3]
  generalize (if(says,ws).1=3 then(says,ws).2 else []).length=z at*
  omega
 ·have Cm:∀k,cF mb no1 k→cF mb nO k∨w.heap.size≤k:=fun k q=>h.fg.row k (Or.inl q)
  have UX:∀k,rowOf oo k→w.heap.size≤k:=fun k q=>(b9 h.ow q).1
  refine⟨hgr.os.trans (hb.os.trans (kW.os.trans h.fg.os)),hgr.tape.trans (hb.tape.trans (kW.tape.trans h.fg.tape)),hgr.output.trans (hb.output.trans (kW.output.trans h.fg.output)),by omega,fun k hk hr=> ?_,fun k q=> ?_⟩
  ·rw[hgr.block k (by omega) (bS fun q=>by have:=UX k q;omega),hb.block k (by omega),kW.block k (by omega) ?_,h.fg.block k hk hr]
   intro q
   rcases Cm k q with e | e
   ·exact hr e
   ·omega
  ·rcases q with q | q
   ·rcases kW.row k q with e | e
    ·exact Cm k e
    ·right;omega
   ·rcases hat k q with e | e
    ·exact Or.inr (UX k e)
    ·right;omega
def sK (w w':World):Prop:=∀(g:Nat) (ys:Array Value) (S:TypeId),w.heap[g]?=some (.cells ys S (0,0))→S≠245→w'.heap[g]?=w.heap[g]?
theorem sK.row {w w':World} (h:sK w w') {b:Nat} {S:TypeId} {sz:Nat} {o:Option Addr} {n cap:Nat} {xs:List Value} (ho:w.ownsRow b S sz (.slice o n cap) n xs) (hS:S≠245):w'.ownsRow b S sz (.slice o n cap) n xs:=ai ho fun g q=>by
 obtain⟨cur,hc⟩:=aM ho (aI q)
 exact h g _ _ hc hS
theorem sK.st {w w':World} (h:sK w w') {mb:Nat} {cs:Array Value} {D:List Ng} {no:Option Addr} {nc:Nat} (hs:bG w mb 1 cs 91 D no nc):bG w' mb 1 cs 91 D no nc:=⟨(h mb _ _ hs.blk (by decide)).trans hs.blk,hs.cel,h.row hs.own (by decide),hs.ty⟩
theorem sK.args {w w':World} (h:sK w w') {D:List Ng} {P:Nat→Prop} (ha:a8 w D P):a8 w' D P:=ha.keep fun g _ hp hg=>⟨(h g _ _ hg (by decide)).trans hg,hp⟩
theorem sK.alloc (w:World) (o:Obj):sK w (w.alloc o):=fun _ _ _ hg _=>Below.heap_alloc _ _ _ (ag hg)
theorem sK.Lu {w:World} {ab:Nat} {C:Array Value} (hb:w.heap[ab]?=some (.cells C 245 (0,0))) (v0 v1 v2:Value):sK w (((w.setCell ⟨ab,0,none⟩ v0).setCell ⟨ab,1,none⟩ v1).setCell ⟨ab,2,none⟩ v2):=fun g ys S hg hS=>mq w v0 v1 v2 (fun e=>by
 rw[e,hb]at hg
 simp only[Option.some.injEq,Obj.cells.injEq]at hg
 exact hS hg.2.1.symm)
theorem Ny.base {PP:Nat→Prop} {mb:Nat} {cs:Array Value} {D:List Ng} {nO:Option Addr} {fr:Nat→Nat} {TT:Nat→Zc.U} {n:Nat} {c:Zc.aJ} {w W:World} {e:Ending} {w':World} (hb:Below w.heap.size w W) (h:Ny PP mb cs D nO fr TT n c W e w'):Ny PP mb cs D nO fr TT n c w e w'∧∃R',au (cF mb nO) R' W w':=by
 obtain⟨says,ws,oo,oc,vo',vl,vc',E,V,F,no',nc',T',h1,h2,h3,h4,h5,h6,h7,h8,h9,h10,h11,h12,h13,h14⟩:=h
 exact⟨⟨says,ws,oo,oc,vo',vl,vc',E,V,F,no',nc',T',h1,cf h2 hb.size,h3,h4,h5,h6,h7,h8,h9,h10,h11,h12,(au.aw hb).trans h13,fun q=>by
  obtain⟨k1,k2,k3,k4,k5⟩:=h14 q
  exact⟨k1,k2,k3,fun k r=>(k4 k r).imp id fun s=>Nat.le_trans hb.size s,k5⟩⟩,_,h13⟩
theorem CG.fin {P:Nat→Prop} {w:World} {mb:Nat} {cs:Array Value} {D:List Ng} {nO:Option Addr} {fr:Nat→Nat} {TT:Nat→Zc.U} {G:List Gl} {po:Option Addr} {pc:Nat} {cls:List Zc.aJ} {own:List Nat} {bg n:Nat} {E:List Ng} {no1:Option Addr} {nc1:Nat} {T1:Nat→Zc.U} {rs:List (Nat×List Nat)} {oo:Option Addr} {oc:Nat} {wr:World} (h:CG P w mb cs D nO fr TT G po pc cls own bg n E no1 nc1 T1 rs oo oc wr)
 (eO:rs.length<own.length) (ho:own.length≤12) {ws:List Nat} {c:Zc.aJ} {V F:List Nat} {E2:List Ng} {no2:Option Addr} {nc2:Nat} {T2:Nat→Zc.U} {vo2:Option Addr} (hc:cls[iW own bg rs.length]?=some c) (ha:qJ (T1 n) (D++E).length c V F T2 1 ws) (hn:n<D.length) (aF:bV ((D++E)++E2) fr) (fE:Zc.dH (aZ ((D++E)++E2)) fr T2) (hold:∀m,m<(D++E).length→T2 m=T1 m) (dC:dL (D++E).length E2) (fD:E2.length≤78732) {w9:World} (kW:au (cF mb no1) (cF mb no2) wr w9)
 (Q6:∀k,rowOf vo2 k→cF mb no1 k∨wr.heap.size≤k) (hlt:∀m∈V++F,m<((D++E)++E2).length) (gR:fH (D++E).length E2 F) {i:Nat} {gi:Gl} {e:Ending} {w':World} (hp:Ri P mb ((cs.setIfInBounds 1 (.slice no1 (D++E).length nc1)).setIfInBounds 1 (.slice no2 ((D++E)++E2).length nc2)) ((D++E)++E2) (V++F) no2 vo2 fr T2 G i (iW own bg rs.length) c w9 e w'):
 nZ P mb cs D nO fr TT G po pc cls own bg n i gi w e w':=by
 obtain⟨E3,F3,no3,nc3,T3,Gn,po3,pc3,rfl,Rl,V8,Rm,Gi,Rn,Ro,V9,Wa,Wb,YM,yJ⟩:=hp
 rw[set_set,set_set]at Rl
 have hu:T1 n=TT n:=h.old n hn
 rw[hu]at ha
 have hz1:=h.fg.size
 have hz2:=kW.size
 have eA:(D++E++E2++E3)=D++(E++E2++E3):=by simp
 have Wc:bV (D++E++E2++E3) fr:=Rl.ok
 have hnewF:∀f∈F,(D++E).length≤f∧f<(D++E++E2).length∧T2 f= .v ([],f):=pF aF fE dC gR
 have hnewF3:=pF Wc Rm Rn Ro
 have nd1:dL (D.length+E.length) E2:=by have:=dC;rwa [List.length_append]at this
 have nd2:dL (D.length+(E++E2).length) E3:=by
  have:=Rn
  rwa [List.length_append,List.length_append,Nat.add_assoc,←List.length_append]at this
 refine Or.inl ⟨rs,c,V,F,T2,ws,E++E2++E3,F3,no3,nc3,T3,Gn,po3,pc3,eO,h.tr,hc,ha.low (dV _ _),rfl,by rw[←eA];exact Rl,by rw[←eA];exact V8,by rw[←eA];exact Rm,fun m hm=> ?_,fun m hm=>Gi m (hlt m hm),(h.nd.app nd1).app nd2,V9,fun f hf=> ?_,?_,by rw[←eA];exact Wa,by rw[←eA];exact Wb,?_,?_⟩
 ·rw[Gi m (by rw[List.length_append,List.length_append];omega),hold m (by rw[List.length_append];omega),h.old m hm]
 ·rcases List.mem_append.1 hf with q | q
  ·obtain⟨q1,q2,q3⟩:=hnewF f q
   refine⟨by rw[List.length_append]at q1;omega,?_⟩
   rw[Gi f q2,q3]
  ·obtain⟨q1,q2,q3⟩:=hnewF3 f q
   exact⟨by rw[List.length_append,List.length_append]at q1;omega,q3⟩
 ·rw[List.pairwise_append]
  refine⟨gR.ord,Ro.ord,fun x hx y hy=> ?_⟩
  have:=(hnewF x hx).2.1
  have:=(hnewF3 y hy).1
  omega
 ·have h1:=h.el
  have h2:rs.length*78732≤11*78732:=Nat.mul_le_mul_right _ (by omega)
  rw[List.length_append,List.length_append]
  omega
 ·have Cm:∀k,cF mb no1 k→cF mb nO k∨w.heap.size≤k:=fun k q=>h.fg.row k (Or.inl q)
  have hs2:∀k,cF mb no2 k→cF mb nO k∨w.heap.size≤k:=fun k q=>by
   rcases kW.row k q with e | e
   ·exact Cm k e
   ·right;omega
  have hv2:∀k,rowOf vo2 k→cF mb nO k∨w.heap.size≤k:=fun k q=>by
   rcases Q6 k q with e | e
   ·exact Cm k e
   ·right;omega
  have hz3:=yJ.size
  refine⟨yJ.os.trans (kW.os.trans h.fg.os),yJ.tape.trans (kW.tape.trans h.fg.tape),yJ.output.trans (kW.output.trans h.fg.output),by omega,fun k hk hr=> ?_,fun k q=> ?_⟩
  ·rw[yJ.block k (by omega) ?_,kW.block k (by omega) ?_,h.fg.block k hk hr]
   ·intro q
    rcases Cm k q with e | e
    ·exact hr e
    ·omega
   ·rintro(q | q)
    ·rcases hs2 k q with e | e
     ·exact hr e
     ·omega
    ·rcases hv2 k q with e | e
     ·exact hr e
     ·omega
  ·rcases yJ.row k q with(e | e) | e
   ·exact hs2 k e
   ·exact hv2 k e
   ·right;omega
theorem DU (w:World) (p:Int):
 Calls Tryz.prog 44 #[.int .i64 p,.int .i64 0] w fun e w'=>e= .returned (.int .i64 0)∧w'=w:=by
 go_enter Tryz.func44,Tryz.ntmps44
 go_wp2_with fail
 go_ret
 exact⟨rfl,rfl⟩
def dE (p:Int) (n:Nat):Nat:=if n=0 then 0 else(p % (n:Int)).toNat
theorem Ag (w:World) (p:Int) (n:Nat) (hl:n≤1000000000) (h1: -9223372036854775808≤p) (h2:p≤9223372036854775807):
 Calls Tryz.prog 44 #[.int .i64 p,.int .i64 (n:Int)] w fun e w'=>e= .returned (.int .i64 (dE p n:Int))∧w'=w:=by
 by_cases q:n=0
 ·subst q
  refine(DU w p).mono ?_
  rintro e w' ⟨rfl,rfl⟩
  exact⟨rfl,rfl⟩
 ·refine(xP w p n (by omega) hl h1 h2).mono ?_
  rintro e w' ⟨rfl,rfl⟩
  unfold dE
  rw[if_neg q,Int.toNat_of_nonneg (Int.emod_nonneg p (show (n:Int)≠0 by omega))]
  exact⟨rfl,rfl⟩
theorem uh (p:Int) (n:Nat) (h:0<n):dE p n<n:=by
 unfold dE
 rw[if_neg (by omega)]
 have b1:=Int.emod_nonneg p (show (n:Int)≠0 by omega)
 have b2:=Int.emod_lt_of_pos p (show (0:Int)<(n:Int)by omega)
 omega
theorem nZ.from {P:Nat→Prop} {mb:Nat} {cs:Array Value} {D:List Ng} {nO:Option Addr} {fr:Nat→Nat} {TT:Nat→Zc.U} {G:List Gl} {po:Option Addr} {pc:Nat} {cls:List Zc.aJ} {own:List Nat} {bg n i:Nat} {gi:Gl} {w w1:World} {e:Ending} {w':World} (hb:Below w.heap.size w w1) (h:nZ P mb cs D nO fr TT G po pc cls own bg n i gi w1 e w'):nZ P mb cs D nO fr TT G po pc cls own bg n i gi w e w':=by
 rcases h with⟨rs,c,V,F,T2,ws,E,F',no',nc',T',Gn,po',pc',h1,h2,h3,h4,h5,h6,h7,h8,h9,h10,h11,h12,h13,h14,h15,h16,h17,h18⟩ | ⟨rs,h1,h2,h3,h4,h5,h6⟩ | ⟨rs,E,no1,nc1,T1,oo,oc,h1,h2,h3,h4,h5,h6,h7,h8,h9,h10,h11,h12⟩
 ·exact Or.inl ⟨rs,c,V,F,T2,ws,E,F',no',nc',T',Gn,po',pc',h1,h2,h3,h4,h5,h6,h7,h8,h9,h10,h11,h12,h13,h14,h15,h16,h17,(au.aw hb).trans h18⟩
 ·exact Or.inr (Or.inl ⟨rs,h1,h2,h3,h4,h5,(au.aw hb).trans h6⟩)
 ·exact Or.inr (Or.inr ⟨rs,E,no1,nc1,T1,oo,oc,h1,h2,h3,h4,h5,h6,h7,h8,h9,h10,fun k q=>Nat.le_trans hb.size (h11 k q),(au.aw hb).trans h12⟩)
theorem OS {cls:List Zc.aJ} {tx:List UInt8} {m j:Nat}:∀x∈Zc.cr cls tx m j,x<cls.length:=fun x hx=>by
 have:=(List.mem_filter.1 hx).2
 cases q:cls[x]? with
 | none=>rw[q]at this;cases this
 | some c=>exact(List.getElem?_eq_some_iff.1 q).1
theorem nZ.int {P:Nat→Prop} {mb:Nat} {cs:Array Value} {D:List Ng} {nO:Option Addr} {fr:Nat→Nat} {TT:Nat→Zc.U} {G:List Gl} {po:Option Addr} {pc:Nat} {cls:List Zc.aJ} {own:List Nat} {bg n i:Nat} {gi:Gl} {w:World} {e:Ending} {w':World} (h:nZ P mb cs D nO fr TT G po pc cls own bg n i gi w e w'):∃z:Int,e= .returned (.int .i64 z):=by
 rcases h with⟨_,_,_,_,_,_,_,_,_,_,_,_,_,_,_,_,_,_,rfl,_⟩ | ⟨_,_,_,_,rfl,_⟩ | ⟨_,_,_,_,_,_,_,_,_,_,rfl,_⟩
 ·exact⟨_,rfl⟩
 ·exact⟨_,rfl⟩
 ·exact⟨_,rfl⟩
theorem LO (w:World) (mb:Nat) (cs:Array Value) (D:List Ng) (nO:Option Addr) (nC:Nat) (fr:Nat→Nat) (TT:Nat→Zc.U) (P:Nat→Prop) (G:List Gl) (po:Option Addr) (pc:Nat) (cls:List Zc.aJ) (clo:Option Addr) (clc n:Nat) (d:Ng) (i:Nat) (gi:Gl) (p:Int) (hm:cQ w mb cs D nO nC fr G po pc) (bt:a8 w D P) (fE:Zc.dH (aZ D) fr TT) (hP:∀g,w.heap.size≤g→P g) (h0:cs[0]?=some (.slice clo cls.length clc)) (gu:df w clo cls.length cls) (mZ:∀c∈cls,Zc.jN c) (hcc:cls.length≤12) (hi:i<G.length) (iE:G[i]=gi) (hn:n<D.length) (hd:D[fr n]?=some d) (hk:d.k=3) (hsz:Zc.size (TT n)≤300) (oC: -9223372036854775808≤p) (vU:p≤9223372036854775807) (hD:D.length+6000000≤1000000000) (hGl:G.length≤1000000) (xL:5<cs.size):
 Calls Tryz.prog 140 #[.pointer (some ⟨mb,0,none⟩),.int .i64 (i:Int),.int .i64 (n:Int),.int .i64 p] w fun e w'=>nZ P mb cs D nO fr TT G po pc cls (Zc.cr cls d.tx.toList d.args.length cls.length) (dE p (Zc.cr cls d.tx.toList d.args.length cls.length).length) n i gi w e w':=by
 have IQ:=af (AE w mb cs D nO nC fr n d cls clo clc hm.st hm.ok hn hd hk h0 gu (fun c hc=>(mZ c hc).hk) hcc)
 have UY:=Zc.CD cls d.tx.toList d.args.length cls.length
 have hlt:=OS (cls:=cls) (tx:=d.tx.toList) (m:=d.args.length) (j:=cls.length)
 generalize Zc.cr cls d.tx.toList d.args.length cls.length=own at*
 have Wd:own.length≤12:=by omega
 have hbg:=uh p own.length
 have IB:=af (fun W=>Ag W p own.length (by omega) oC vU)
 generalize dE p own.length=bg at*
 clear hd hk d
 have We:=af hlt
 have H0:=af h0
 have HM:=af hm
 have oq:=af bt
 have Rp:=af fE
 have HP:=af hP
 have vR:=af gu
 have Rq:=af mZ
 have XS:=af iE
 have HN:=af hn
 have km:=af hsz
 have HD:=af hD
 have mz:=ag hm.st.blk
 have UZ:=af (show∀g∈G,∀k,rowOf g.no k→k<w.heap.size from fun g hg k hk=>(b9 (hm.nds g hg) hk).2)
 clear hlt hm bt fE hP gu mZ iE hn hsz oC vU hD UY h0
 go_enter Tryz.func140,Tryz.ntmps140
 go_wp2_with fail
 refine(ae IQ).mono ?_
 rintro e w1 ⟨yo,yc,rfl,ow1,hb1⟩
 have z1:=hb1.size
 have LR:=af ow1
 have ba:=af hb1
 have HST:=af (show UW P w1 mb cs D nO fr TT G po pc cls own bg n own.length (.bool false) (.slice none 0 0) (.int .i64 0) w1 from by
  have P5:=(ae HM).below hb1
  refine⟨[],[],nO,nC,TT,none,0,by simp,rfl,rfl,rfl,⟨by simpa [Zc.cE] using World.ownsRow_nil _ _ _ _,(fun t r hr=>by simp at hr),?_,?_,by simpa using ae Rp,fun _ _=>rfl,(fun i d hd=>by simp at hd),by simp,(fun v hv=>by simp[Zc.cE]at hv),by simp[Zc.cE],⟨rfl,rfl,rfl,Nat.le_refl _,fun _ _ _=>rfl,fun k q=> ?_⟩⟩⟩
  ·rw[List.append_nil,mi P5.st.cel];exact P5
  ·rw[List.append_nil]
   exact((ae oq).below hb1).keep fun g _ hp hg=>⟨hg,hp,fun⟨_,q,_⟩=>by cases q⟩
  ·rcases q with q | ⟨_,q,_⟩
   ·exact Or.inl q
   ·cases q)
 clear ow1 hb1 IQ
 go_wp2_with fail
 refine(ae IB _).mono ?_
 rintro e w1 ⟨rfl,rfl⟩
 go_wp2_with fail
 go_loopg [11,12,25] own.length (fun k wv av iv wr=>UW P w1 mb cs D nO fr TT G po pc cls own bg n k wv av iv wr)
 case atStart=>exact ae HST
 case round=>
  clear HST IB
  obtain⟨rs,E,no1,nc1,T1,oo,oc,hkj,rfl,rfl,rfl,eE⟩:=hrel
  by_cases hlt:rs.length<own.length
  ·have hbl:bg<own.length:=hbg (by omega)
   have t0:decide (rs.length<own.length)=true:=by simpa using hlt
   have Gj:(bg+rs.length) % own.length<own.length:=Nat.mod_lt _ (by omega)
   have vS:own[(bg+rs.length) % own.length]<cls.length:=ae We _ (List.getElem_mem Gj)
   have Rs:iW own bg rs.length=own[(bg+rs.length) % own.length]:=by unfold iW;rw[List.getElem?_eq_getElem Gj];rfl
   have Nw:eG w1 wr:=fun g ys S hg hS=>((ae HM).below (ae ba)).st.rL eE.fg hg (by rcases hS with q | q | q<;>(rw[q];decide)) (by rcases hS with q | q | q<;>(rw[q];decide))
   have LU:df wr clo cls.length cls:=Nw.cls ((eG.below (ae ba)).cls (ae vR))
   obtain⟨g,hg⟩:∃g,yo=some ⟨g,0,none⟩:=by
    rcases(ae LR).2 with⟨q,q2⟩ | ⟨g,cp,cur,q,_⟩
    ·omega
    ·simp only[Value.slice.injEq]at q
     exact⟨g,q.1⟩
   subst hg
   have Gk:wr.ownsRow w.heap.size 3 1 (.slice (some ⟨g,0,none⟩) own.length yc) own.length (own.map aK):=ai (ae LR) fun k q=>by
    obtain⟨cur,qo⟩:=aM (ae LR) (aI q)
    exact(((ae HM).below (ae ba)).st.rL eE.fg qo (by decide) (by decide)).trans qo.symm
   have YN:=af Gk
   have gz:=(Gk.lt g rfl).2
   have fq:wr.cell? ⟨g,(bg+rs.length) % own.length,none⟩=some (.int .i64 (own[(bg+rs.length) % own.length]:Int)):=by
    rw[Gk.cellAt _ (by omega),List.getElem?_map,List.getElem?_eq_getElem Gj]
    rfl
   have IC:=af (fun W=>xP W ((bg:Int)+(rs.length:Int)) own.length (by omega) (by omega) (by omega) (by omega))
   have e0:((bg:Int)+(rs.length:Int)) % (own.length:Int)=(((bg+rs.length) % own.length:Nat):Int):=by rw[Int.natCast_emod,Int.natCast_add]
   rw[e0]at IC
   generalize hq:(bg+rs.length) % own.length=q at*
   generalize EA:own[q]=which at*
   obtain⟨gc,vs,ca,Rt,hcb,EC,Gm⟩:=LU.2 (fun e=>by rw[e]at vS;simp at vS)
   have kQ:which<vs.length:=by have:=Gm.length;omega
   have fc:∀i,i<6→wr.cell? ⟨gc,which*6+i,none⟩=(oA vs[which])[i]?:=fun i hi=>by
    rw[ah hcb,←Array.getElem?_toList,←Ck kQ i hi,←EC,List.getElem?_take_of_lt (by omega)]
   have f0:=fc 0 (by omega)
   have f1:=fc 1 (by omega)
   have f2:=fc 2 (by omega)
   have f3:=fc 3 (by omega)
   have f4:=fc 4 (by omega)
   have f5:=fc 5 (by omega)
   simp only[oA,List.getElem?_cons_zero,List.getElem?_cons_succ,Nat.add_zero]at f0 f1 f2 f3 f4 f5
   have gcz:=ag hcb
   have Ad:eJ wr vs[which].a vs[which].o1 vs[which].n1 vs[which].o2 vs[which].n2 cls[which]:=Gm.at which kQ vS
   have hDE:(D++E).length+5000000≤1000000000:=by
    have h1:=eE.el
    have h2:=ae HD
    have h3:rs.length*78732≤12*78732:=Nat.mul_le_mul_right _ (by omega)
    rw[List.length_append]
    omega
   have hT1:T1 n=TT n:=eE.old n (ae HN)
   have hnDE:n<(D++E).length:=Nat.lt_of_lt_of_le (ae HN) (dV _ _)
   have IA:=af (fun W (hu:Below wr.heap.size wr W)=>(LM W mb (cs.setIfInBounds 1 (.slice no1 (D++E).length nc1)) (D++E) no1 nc1 fr T1 (fun g=>P g∧¬rowOf oo g) vs[which].a vs[which].o1 vs[which].o2 vs[which].n1 vs[which].c1 vs[which].n2 vs[which].c2 n cls[which] ⟨eE.mc.st.below hu,eE.mc.ok,eE.to,eE.ar.below hu,Nat.le_refl _⟩ (fun g hg=>⟨ae HP g (by have:=hu.size;have:=eE.fg.size;omega),fun q=>by have:=(b9 eE.ow q).2;have:=hu.size;omega⟩) (Ad.keep (aS.below hu)) (ae Rq _ (List.getElem_mem vS)) hnDE (by rw[hT1];exact ae km) (by omega)).mono (fun e w' q=>q.base hu))
   have m0:wr.cell? ⟨mb,0,none⟩=some (.slice clo cls.length clc):=(ah eE.mc.st.blk 0).trans (by rw[Array.getElem?_setIfInBounds_ne (by omega)];exact ae H0)
   have mzr:=ag eE.mc.st.blk
   rw[Rt]at m0
   generalize vs[which]=v at*
   obtain⟨⟨ak0,av0,ax0,ao0,an0,ac0⟩,o1,n1,c1,o2,n2,c2⟩:=v
   dsimp only at f0 f1 f2 f3 f4 f5 IA
   have i0:(0:Int)≤(q:Int):=by omega
   have i1:(q:Int)<(own.length:Int):=by omega
   have k0:(0:Int)≤(which:Int):=by omega
   have k1:(which:Int)<(cls.length:Int):=by omega
   have iX:=af eE
   have Wf:=af LU
   have CH:=af vS
   have Ru:=af Rs
   have XT:=af hDE
   have bh:=af hlt
   have aW:=af hkj
   have Qf:=af hT1
   have Ed:=af Rt
   have eO:rs.length≤12:=by omega
   clear eE LU Nw Gk hcb EC Gm kQ fc Ad hDE hT1 hnDE Rs hlt hkj Rt e0 hq EA Gj
   go_wp2_with fail
   refine(ae IC _).mono ?_
   rintro e wr ⟨rfl,rfl⟩
   go_wp2_with fail
   go_region_with (go_at_call 182;refine(ae IA _ (by first | exact Below.refl _ _ | exact(Below.refl _ _).drew | exact((Below.refl _ _).alloc (Nat.le_refl _) _).drew | exact(Below.refl _ _).alloc (Nat.le_refl _) _ | exact(Below.refl _ _).drew.alloc (Nat.le_refl _) _)).mono ?_;rintro y w2 ⟨⟨says,ws,xo,xc,vo2,vl,vc2,E2,V,F,no2,nc2,T2,rfl,U0,qK,LV,Rv,Rw,Gp,Gq,Gr,LW,LX,Rx,LY,wJ⟩,R9,hfgW⟩;first | (have ab:=((ae iX).mc.st.below (by first | exact((Below.refl _ _).alloc (Nat.le_refl _) _).drew | exact(Below.refl _ _).alloc (Nat.le_refl _) _)).rL hfgW (heap_alloc_new wr _) (by decide) (by decide);have b0:=ah ab 0;have b1:=ah ab 1;have b2:=ah ab 2;have y0:=ay ab 0;have y1:=ay ab 1;have y2:=ay ab 2;have abz:=ag ab;simp only[List.getElem?_toArray,List.getElem?_cons_zero,List.getElem?_cons_succ]at b0 b1 b2) | skip)
   all_goals
    first
     | (have tk:=sK.Lu ab (.int .i64 (says:Int)) (.slice xo ws.length xc) (.slice vo2 vl vc2)
        have hab:=aA (aA (aA ab 0 (.int .i64 (says:Int))) 1 (.slice xo ws.length xc)) 2 (.slice vo2 vl vc2)
        have Ah:=((LY.eN (Nat.le_refl _) 0 (.int .i64 (says:Int))).eN (Nat.le_refl _) 1 (.slice xo ws.length xc)).eN (Nat.le_refl _) 2 (.slice vo2 vl vc2)
        clear ab b0 b1 b2 y0 y1 y2 abz
        generalize (((w2.setCell ⟨wr.heap.size,0,none⟩ (.int .i64 (says:Int))).setCell ⟨wr.heap.size,1,none⟩ (.slice xo ws.length xc)).setCell ⟨wr.heap.size,2,none⟩ (.slice vo2 vl vc2))=w9 at*)
     | (have tk:=sK.alloc w2 (.cells #[.int .i64 (says:Int),.slice xo ws.length xc,.slice vo2 vl vc2] 245)
        have hab:=heap_alloc_new w2 (.cells #[.int .i64 (says:Int),.slice xo ws.length xc,.slice vo2 vl vc2] 245)
        have Ah:=LY.trans (au.aw ((Below.refl _ _).alloc (Nat.le_refl _) (.cells #[.int .i64 (says:Int),.slice xo ws.length xc,.slice vo2 vl vc2] 245)))
        generalize w2.alloc (.cells #[.int .i64 (says:Int),.slice xo ws.length xc,.slice vo2 vl vc2] 245)=w9 at*)
    have c0:=ah hab 0
    have c1:=ah hab 1
    have c2:=ah hab 2
    have abz:=ag hab
    simp only[List.getElem?_toArray,List.getElem?_cons_zero,List.getElem?_cons_succ,List.setIfInBounds_toArray,List.set_cons_zero,List.set_cons_succ]at c0 c1 c2
    have st9:=tk.st Rw
    have ar9:=tk.args Rx
    have xo9:=tk.row U0 (by decide)
    have XU:=af LV
    have kx:=af (show says≠1→∀(oo':Option Addr) (oc':Nat) (w':World),w'.ownsRow w1.heap.size 3 1 (.slice oo' (Zc.cE (rs++[(says,ws)])).length oc') (Zc.cE (rs++[(says,ws)])).length ((Zc.cE (rs++[(says,ws)])).map aK)→w9.grownBy w' (Value.slice oo (Zc.cE rs).length oc).ownBlock→(∀k,rowOf oo' k→rowOf oo k∨w9.heap.size≤k)→CG P w1 mb cs D nO fr TT G po pc cls own bg n (E++E2) no2 nc2 T2 (rs++[(says,ws)]) oo' oc' w' from fun hs1 oo' oc' w' k1 k2 k3=>(ae iX).next (fun g hg k hk=>Nat.lt_of_lt_of_le (ae UZ g hg k hk) z1) (by rw[ae Ru];exact List.getElem?_eq_getElem (ae CH)) qK (ae HN) hs1 LV Rv st9 Gp Gq Gr LW LX ar9 Ah (Below.refl _ _) k1 k2 k3)
    have Ai:=af (show w9.ownsRow w1.heap.size 3 1 (.slice oo (Zc.cE rs).length oc) (Zc.cE rs).length ((Zc.cE rs).map aK)from ai (ae iX).ow fun k q=>by
     obtain⟨cur,qo⟩:=aM (ae iX).ow (aI q)
     exact((ae iX).mc.st.rL Ah qo (by decide) (by decide)).trans qo.symm)
    have Ry:=af xo9
    have U1:=af (show w1.heap.size≤w9.heap.size from Nat.le_trans (ae iX).fg.size Ah.size)
    have Nz:=af (show says=1→vl=(V++F).length∧Calls Tryz.prog 183 #[.pointer (some ⟨mb,0,none⟩),.int .i64 (i:Int),.int .i64 (which:Int),.agg #[.slice vo2 vl vc2]] w9 fun e w'=>nZ P mb cs D nO fr TT G po pc cls own bg n i gi w e w' from fun hs1=>by
     subst hs1
     obtain⟨j1,rfl,j3,j4,j5,j6,j7⟩:=wJ rfl
     refine⟨rfl,?_⟩
     have XV:=(ae iX).mc.asked st9 Gp (dV _ _) Ah
     have Wh:eG wr w9:=fun g ys S hg hS=>(ae iX).mc.st.rL Ah hg (by rcases hS with q | q | q<;>(rw[q];decide)) (by rcases hS with q | q | q<;>(rw[q];decide))
     have Wi:=Gg w9 mb _ ((D++E)++E2) (V++F) no2 nc2 vo2 vc2 fr T2 P G po pc i which cls clo clc XV (ar9.keep fun g _ hp hg=>⟨hg,hp.1.1,hp.2⟩) Gq (tk.row j3 (by decide)) j5 (fun x hx k hk hk2=>by
      have q1:=ae UZ x hx k hk
      rcases j4 k hk2 with(e | e) | e
      ·obtain⟨cur,qo⟩:=aM ((ae iX).mc.nds x hx) hk
       rw[e,(ae iX).mc.st.blk]at qo
       simp only[Option.some.injEq,Obj.cells.injEq]at qo
       exact absurd qo.2.1 (by decide)
      ·obtain⟨cur,qo⟩:=aM ((ae iX).mc.nds x hx) hk
       exact aQ (ae iX).mc.st.own qo (by decide) e
      ·have:=(ae iX).fg.size;omega) (fun g hg=>ae HP g (by have:=ae U1;omega)) (by rw[set_set,Array.getElem?_setIfInBounds_ne (by omega)];exact ae H0) (Wh.cls (ae Wf)) (ae CH) hcc (ae Rq _ (List.getElem_mem (ae CH))) j6 (by have:=ae XT;have hq:(D++E++E2).length=(D++E).length+E2.length:=List.length_append;omega) hGl
     refine Wi.mono fun e w' hp=> ?_
     have ho:=ae Ru
     exact((ae iX).fin (ae bh) Wd (by rw[ho];exact List.getElem?_eq_getElem (ae CH)) qK (ae HN) Gp Gq Gr LW LX Ah j4 j5 j7 (by rw[ho];exact hp)).from (ae ba))
    have hs3:says=1∨says=2∨says=3:=by
     rcases qK with⟨_,q,_⟩ | ⟨_,_,_,_,_,q,_⟩
     ·rw[q];exact AY _
     ·rw[q];exact AY _
    clear st9 ar9 xo9 tk Rw Rx U0 Ah LY hfgW qK LV Rv Gp Gq Gr LW LX wJ hab
    rcases hs3 with rfl | rfl | rfl
    ·have hcm:=(ae Nz rfl).2
     have IM:=af hcm
     clear hcm Nz kx Ai Ry
     go_wp2_with fail
     refine(ae IM).mono ?_
     intro y w10 h10
     obtain⟨z10,rfl⟩:=h10.int
     have xZ:=af h10
     clear h10 IM
     go_wp2_with fail
     go_ret
     exact ae xZ
    ·have dC:Zc.cE (rs++[(2,ws)])=Zc.cE rs:=by rw[Zc.qm];simp
     have Jy:Zc.my (rs++[(2,ws)])=Zc.my rs:=by rw[Zc.Af];simp
     have Jz:=ae kx (by omega) oo oc w9 (by rw[dC];exact ae Ai) (World.grownBy.refl _ _) (fun k q=>Or.inl q)
     have Rz:=af Jz
     have Eo:=af dC
     have RD:=af Jy
     clear Jz dC Jy Nz kx Ai Ry
     go_wp2_with fail
     go_roundg (gk - 1)
     case measure=>have:=ae aW;have:=ae bh;omega
     case rel=>exact⟨rs++[(2,ws)],_,_,_,_,_,_,by have:=ae aW;have:=ae bh;simp;omega,by rw[List.length_append];go_num,by rw[ae RD],by rw[ae Eo],ae Rz⟩
    ·have dC:Zc.cE (rs++[(3,ws)])=Zc.cE rs++ws:=by rw[Zc.qm];simp
     have Jy:Zc.my (rs++[(3,ws)])=true:=by rw[Zc.Af];simp
     have o9:(Zc.cE rs).length+ws.length≤1000000000:=by
      have h1:=(ae iX).ln
      have h2:rs.length*12000000≤12*12000000:=Nat.mul_le_mul_right _ eO
      have h3:=ae XU
      omega
     have Eo:=af dC
     have RD:=af Jy
     have jG:=af o9
     clear dC Jy o9 Nz
     go_wp2_with (at_builtin;go_must (refine DT rfl (.tmp 61) (.tmp 63) rfl w1.heap.size wr.heap.size (.slice oo (Zc.cE rs).length oc) (Zc.cE rs).length (Zc.cE rs) rfl (ae Ai) xo ws.length xc ws rfl (ae Ry) (ae jG) (ae U1) ?_);go_must (intro v' w12 hown' hgrow hat;obtain⟨oo',oc',hv'⟩:=fu hown';subst hv';have Wj:=af (show w12.ownsRow w1.heap.size 3 1 (.slice oo' (Zc.cE (rs++[(3,ws)])).length oc') (Zc.cE (rs++[(3,ws)])).length ((Zc.cE (rs++[(3,ws)])).map aK)from by rw[ae Eo,List.length_append];exact hown');have Rz:=af (ae kx (by omega) oo' oc' w12 (ae Wj) hgrow (fun k q=>by rcases hat with e | e;exact Or.inl (aI (by rw[←e];obtain⟨pp,hp,hk⟩:=q;rw[hp,hk];rfl));(right;obtain⟨pp,hp,hk⟩:=q;rw[hp]at e;have e2:pp.block=w9.heap.size:=(by simpa [Value.ownBlock] using e);omega)));clear hown' hgrow hat))
     go_roundg (gk - 1)
     case measure=>have:=ae aW;have:=ae bh;omega
     case rel=>exact⟨rs++[(3,ws)],_,_,_,_,_,_,by have:=ae aW;have:=ae bh;simp;omega,by rw[List.length_append];go_num,by rw[ae RD],by rw[ae Eo,List.length_append],ae Rz⟩
  ·have eO:rs.length=own.length:=by omega
   have t0:decide (rs.length<own.length)=false:=by simp;omega
   have iX:=af eE
   have x9:=af eO
   cases Gs:Zc.my rs with
   | false=>
    have IFL:=af (wK wr mb _ 4 eE.mc.st.blk (by simpa using xL))
    have RF:=af (aA eE.mc.st.blk 5 (.int .i64 4))
    have LZ:=af Gs
    clear eE hkj hlt eO Gs
    go_wp2_with fail
    refine(ae IFL).mono ?_
    rintro y w3 ⟨rfl,rfl⟩
    go_wp2_with fail
    go_ret
    refine(Or.inr (Or.inl ⟨rs,ae x9,(ae iX).tr,ae LZ,rfl,⟨_,ae RF,no1,_,nc1,rfl⟩,?_⟩):nZ P mb cs D nO fr TT G po pc cls own bg n i gi w _ _)
    have hf:=(ae iX).fg
    have hz:=(ae ba).size
    refine(au.aw (ae ba)).trans ⟨hf.os,hf.tape,hf.output,by rw[cN];exact hf.size,fun k hk hr=> ?_,fun k q=>Or.inl (Or.inl q)⟩
    rw[aL _ _ _ _ (fun e=>hr (Or.inl e)),hf.block k hk hr]
   | true=>
    have hD2:(Zc.cE rs).length≤1000000000:=by
     have h1:=eE.ln
     have h2:rs.length*12000000≤12*12000000:=Nat.mul_le_mul_right _ (by omega)
     omega
    have IW:=af (Cq wr mb _ (D++E) no1 nc1 fr G po pc i gi (Zc.cE rs) oo oc eE.mc hi (ae XS) (cf eE.ow (Nat.zero_le _)) eE.lt hD2)
    have LZ:=af Gs
    clear eE hkj hlt eO Gs hD2
    go_wp2_with fail
    refine(ae IW).mono ?_
    rintro y w3 ⟨rfl,mc3,fr3⟩
    have Q5:=af mc3
    have vL:=af fr3
    clear mc3 fr3 IW
    go_wp2_with fail
    go_ret
    have hf:=(ae iX).fg
    have XW:=(ae iX).mc
    have fD:=(ae iX).el
    have h12:rs.length*78732≤12*78732:=Nat.mul_le_mul_right _ (by have:=ae x9;omega)
    refine(Or.inr (Or.inr ⟨rs,E,no1,nc1,T1,oo,oc,ae x9,(ae iX).tr,ae LZ,rfl,ae Q5,?_,(ae iX).to,(ae iX).old,(ae iX).nd,by omega,fun k q=>Nat.le_trans (ae ba).size (b9 (ae iX).ow q).1,?_⟩):nZ P mb cs D nO fr TT G po pc cls own bg n i gi w _ _)
    ·exact(ae iX).ar.keep fun g _ hp hg=>⟨((ae vL).block g (ag hg) (aQ XW.pool hg (by decide))).trans hg,hp.1⟩
    ·refine(au.aw (ae ba)).trans ⟨(ae vL).os.trans hf.os,(ae vL).tape.trans hf.tape,(ae vL).output.trans hf.output,Nat.le_trans hf.size (ae vL).size,fun k hk hr=> ?_,fun k q=> ?_⟩
     ·rw[(ae vL).block k (Nat.lt_of_lt_of_le hk hf.size) (fun e=>hr (Or.inr e)),hf.block k hk (fun e=>hr (Or.inl e))]
     ·rcases q with q | q
      ·rcases hf.row k (Or.inl q)with e | e
       ·exact Or.inl (Or.inl e)
       ·exact Or.inr e
      ·exact Or.inl (Or.inr q)
end Go.Proofs.YthfjnfcekeknlaaGreatDoor
