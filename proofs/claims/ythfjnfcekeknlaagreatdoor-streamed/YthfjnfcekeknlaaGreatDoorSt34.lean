import Derived.Test.YthfjnfcekeknlaaGreatDoorSt29
import Derived.Test.YthfjnfcekeknlaaGreatDoorSt31
set_option maxHeartbeats 8000000
set_option maxRecDepth 100000
namespace Za
open Go.Proofs.YthfjnfcekeknlaaGreatDoor (eI dh fV)
def zU:U:= .n 0 [] 0 []
structure MG where
 a:U
 sg:List UInt8
 b:U
 op:List UInt8
 c:U
 wt:Bool
 on:Nat→Prop
structure MS where
 vs:List U
 gs:List MG
 lim:Nat
def MG.stays (σ:Vr→U) (g:MG):Prop:=g.wt=true∧∀v,g.on v→σ ([],v)= .v ([],v)
open Classical in
noncomputable def MG.put (σ:Vr→U) (g:MG):MG:=⟨sub σ g.a,g.sg,sub σ g.b,g.op,sub σ g.c,decide (g.stays σ),fun v=>g.stays σ∧g.on v⟩
def MG.of (η:List UInt8→U) (x:aC):MG:=⟨bA η 8 x.left,x.sign,x.right.elim zU (bA η 8),x.op,x.last.elim zU (bA η 8),false,fun _=>False⟩
def ct (u:U) (c:aG) (o:Nat→Nat) (y:List UInt8):U:=if y∈NH c then((matU 8 c.head u ⟨[],Wn.none⟩).st.find? (fun q=>q.1 == y)).elim zU (·.2)else .v ([],o ((NG c).idxOf y - (NH c).length))
def bD (lim:Nat) (u:U) (c:aG):Nat×List Nat:=if(matU 8 c.head u ⟨[],Wn.none⟩).w.says≠1 then((matU 8 c.head u ⟨[],Wn.none⟩).w.says,(matU 8 c.head u ⟨[],Wn.none⟩).w.wt)else((iB (ct u c (lim+·)) c.tests).says,(iB (ct u c (lim+·)) c.tests).wt.filter fun n=>decide (n<lim))
def jf (gs:List MG):List Nat:=(List.range gs.length).filter fun i=>match gs[i]? with
 | some g=> !g.wt
 | none=>false
def XS (S S':MS) (i:Nat) (g:MG) (z:Int):Prop:=g.sg=[61]∧z=0∧∃σ,eO g.a g.b σ∧S'.vs=S.vs.map (sub σ)∧S'.gs=(S.gs.eraseIdx i).map (MG.put σ)
def XT (S S':MS) (i:Nat) (g:MG) (z:Int):Prop:=g.sg=[58,61]∧z= -1∧(eN g.op g.b g.c).wt≠[]∧S'.vs=S.vs∧S'.gs=S.gs.set i ⟨g.a,g.sg,g.b,g.op,g.c,true,fun v=>v∈(eN g.op g.b g.c).wt⟩
def XU (S S':MS) (i:Nat) (g:MG) (z:Int):Prop:=g.sg=[58,61]∧z=0∧(eN g.op g.b g.c).wt=[]∧∃x σ,eI g.op g.b g.c=some x∧eO g.a (.n 3 [] x []) σ∧S'.vs=S.vs.map (sub σ)∧S'.gs=(S.gs.eraseIdx i).map (MG.put σ)
def XV (S S':MS) (i:Nat) (g:MG) (z:Int):Prop:=g.sg=[]∧z=0∧g.a= .n 1 [116,114,117,101] 0 []∧S'.vs=S.vs∧S'.gs=S.gs.eraseIdx i
def n7 (cls:List aG) (g:MG) (p:Int) (n:Nat) (jm:Nat→Nat):Prop:=g.sg=[]∧∃tx us,g.a= .n 1 tx 0 us∧¬(tx=[116,114,117,101]∧us=[])∧n=(bL cls tx us.length cls.length).length∧jm=fV (bL cls tx us.length cls.length) (dh p n)
def XW (cls:List aG) (S S':MS) (i:Nat) (g:MG) (p z:Int):Prop:=∃n jm,n7 cls g p n jm∧∃(t:Nat) (c:aG) (F:List Nat),t<n∧(∀t' c',t'<t→cls[jm t']?=some c'→(bD S.lim g.a c').1≠1)∧cls[jm t]?=some c∧(bD S.lim g.a c).1=1∧z=((jm t+1:Nat):Int)∧F.length+(NH c).length=(NG c).length∧F.Pairwise (·<·)∧(∀f∈F,S.lim≤f∧f<S'.lim)∧S'.vs=S.vs∧S'.gs=S.gs.eraseIdx i++c.goals.map (MG.of (ct g.a c fun k=>(F[k]?).getD 0))
def XX (cls:List aG) (S S':MS) (i:Nat) (g:MG) (p z:Int):Prop:=∃n jm,n7 cls g p n jm∧z= -1∧(∀t c,t<n→cls[jm t]?=some c→(bD S.lim g.a c).1≠1)∧(∃t c,t<n∧cls[jm t]?=some c∧(bD S.lim g.a c).1=3)∧S'.vs=S.vs∧S'.gs=S.gs.set i ⟨g.a,g.sg,g.b,g.op,g.c,true,fun v=>∃t c,t<n∧cls[jm t]?=some c∧(bD S.lim g.a c).1=3∧v∈(bD S.lim g.a c).2⟩
def jG (cls:List aG) (S S':MS) (i:Nat) (p z:Int):Prop:=S.lim≤S'.lim∧∃g,S.gs[i]?=some g∧(XS S S' i g z∨XT S S' i g z∨XU S S' i g z∨XV S S' i g z∨XW cls S S' i g p z∨XX cls S S' i g p z)
def Eu (cls:List aG) (S:MS) (i:Nat) (p en:Int):Prop:=∃g,S.gs[i]?=some g∧
 ((g.sg=[61]∧en=4∧∀θ,sub θ g.a≠sub θ g.b)∨
  (g.sg=[58,61]∧(eN g.op g.b g.c).wt=[]∧((en=5∧eI g.op g.b g.c=none)∨(en=4∧∃x,eI g.op g.b g.c=some x∧∀θ,sub θ g.a≠ .n 3 [] x [])))∨
  (en=4∧∃n jm,n7 cls g p n jm∧∀t c,t<n→cls[jm t]?=some c→(bD S.lim g.a c).1=2))
def big (u:U):Bool:=decide (40<size u)
def nL (g:MG):Bool:=if g.sg=[]then(match g.a with
 | .v _=>false
 | .n _ _ _ us=>us.any big)else(big g.a||big g.b||big g.c)
def ql (S:MS):Bool:=decide (24<S.gs.length)||(S.vs.any big||S.gs.any nL)
def mW (a:List (List UInt8)×List Vr) (u:U):List (List UInt8)×List Vr:=(a.1++[bM Go.Lib.itoa (aS a.2 u) u],aS a.2 u)
def jX (vs:List U):List (List UInt8)×List Vr:=vs.foldl mW ([],[])
def jy (N:List Vr) (g:MG):List Vr:=aS (aS (aS N g.a) g.b) g.c
def uw (N:List Vr) (g:MG):List UInt8:=mM (bM Go.Lib.itoa N g.a) g.sg (bM Go.Lib.itoa N g.b) g.op (bM Go.Lib.itoa N g.c)
def mX (a:List (List UInt8)×List Vr) (g:MG):List (List UInt8)×List Vr:=(a.1++[uw (jy a.2 g) g],jy a.2 g)
def vZ (N:List Vr) (gs:List MG):List (List UInt8)×List Vr:=gs.foldl mX ([],N)
def yA (gs:List MG):Int:=if gs=[]then 1 else if jf gs=[]then 2 else 3
inductive nM (cls:List aG) (script:List (Int×Int)) (S0:MS):Nat→MS→List Int→Prop
 | start:nM cls script S0 0 S0 []
 | step {j:Nat} {S S':MS} {L:List Int} {pg pc z:Int} {i:Nat} (h:nM cls script S0 j S L) (hs:script[j]?=some (pg,pc)) (hi:(jf S.gs)[dh pg (jf S.gs).length]?=some i) (hg:jG cls S S' i pc z) (hl:ql S'=false):nM cls script S0 (j+1) S' (L++[z])
def pq (cls:List aG) (script:List (Int×Int)) (S0:MS) (en:Int) (log:List Int) (vals gols:List (List UInt8)) (wts:List Bool):Prop:=∃(j:Nat) (S:MS) (L:List Int),nM cls script S0 j S L∧
 (((j=script.length∨jf S.gs=[])∧en=yA S.gs∧log=L∧vals=(jX S.vs).1∧gols=(vZ (jX S.vs).2 S.gs).1∧wts=S.gs.map (·.wt))∨
  (∃(pg pc:Int) (i:Nat) (z:Int),script[j]?=some (pg,pc)∧(jf S.gs)[dh pg (jf S.gs).length]?=some i∧((Eu cls S i pc en∧z= -2)∨(en=6∧∃S',jG cls S S' i pc z∧ql S'=true))∧log=L++[z]∧vals=[]∧gols=[]∧wts=[]))
theorem Js (c:aG):∃K,NG c=NH c++K:=by
 have hO:∀(t:Option Tm) (ns:List (List UInt8)),∃M,cg ns t=ns++M:=fun t ns=>by
  cases t with
  | none=>exact⟨[],by simp[cg]⟩
  | some r=>exact namesV_ext 8 r ns
 have hI:∀(x:aC) (ns:List (List UInt8)),∃M,aK ns x=ns++M:=fun x ns=>by
  obtain⟨M1,h1⟩:=namesV_ext 8 x.left ns
  obtain⟨M2,h2⟩:=hO x.right (namesF 8 ns x.left)
  obtain⟨M3,h3⟩:=hO x.last (cg (namesF 8 ns x.left) x.right)
  exact⟨M1++(M2++M3),by unfold aK;rw[h3,h2,h1];simp⟩
 have hL:∀(xs:List aC) (ns:List (List UInt8)),∃M,ay ns xs=ns++M:=fun xs=>by
  induction xs with
  | nil=>exact fun ns=>⟨[],by simp[ay]⟩
  | cons x xs ih=>
   intro ns
   obtain⟨M1,h1⟩:=hI x ns
   obtain⟨M2,h2⟩:=ih (aK ns x)
   exact⟨M1++M2,by show ay (aK ns x) xs=_;rw[h2,h1];simp⟩
 obtain⟨M1,h1⟩:=hL c.tests (NH c)
 obtain⟨M2,h2⟩:=hL c.goals (NT c)
 exact⟨M1++M2,by unfold NG;rw[h2];unfold NT;rw[h1];simp⟩
theorem Nt (c:aG):∀y∈NT c,y∈NG c:=fun y hy=>by
 have hO:∀(t:Option Tm) (ns:List (List UInt8)),∀y∈ns,y∈cg ns t:=fun t ns y hy=>by
  cases t with
  | none=>exact hy
  | some r=>
   obtain⟨K,hK⟩:=namesV_ext 8 r ns
   show y∈namesF 8 ns r
   rw[hK];exact List.mem_append_left _ hy
 have hI:∀(x:aC) (ns:List (List UInt8)),∀y∈ns,y∈aK ns x:=fun x ns y hy=>by
  refine hO _ _ y (hO _ _ y ?_)
  obtain⟨K,hK⟩:=namesV_ext 8 x.left ns
  rw[hK];exact List.mem_append_left _ hy
 have hL:∀(xs:List aC) (ns:List (List UInt8)),∀y∈ns,y∈ay ns xs:=fun xs=>by
  induction xs with
  | nil=>exact fun ns y hy=>hy
  | cons x xs ih=>exact fun ns y hy=>ih _ y (hI x ns y hy)
 exact hL c.goals (NT c) y hy
theorem Gd {c:aG} {y:List UInt8} (hy:y∈NG c) (hn:y∉NH c):(NH c).length≤(NG c).idxOf y∧(NG c).idxOf y<(NG c).length:=by
 refine⟨?_,List.idxOf_lt_length_of_mem hy⟩
 obtain⟨K,hK⟩:=Js c
 rw[hK,List.idxOf_append,if_neg hn]
 omega
theorem ly {r r':Nat→Nat} {P:Nat→Prop} (h:∀k,P k→r' k=r k) {u:U} (hu:bj (PQ P) u):ba r' u=ba r u:=sub_congr u fun x hx=>by
 unfold ren rn
 rw[h x.2 ((ez u).1 hu x hx).2]
theorem Ge (r:Nat→Nat):ba r zU=zU:=by unfold zU;rw[fN];rfl
theorem Gf (Q:Vr→Prop):bj Q zU:= .n fun a ha=>by cases ha
theorem tI (Q:Vr→Prop):(bF.mk [] Wn.none).kx Q:=⟨fun _ hq=>absurd hq List.not_mem_nil,dt Q⟩
theorem wh {r r':Nat→Nat} {P:Nat→Prop} (hi:gN r P) (h:∀k,P k→r' k=r k) {u:U} (hu:bj (PQ P) u) {c:aG} {o1 o2:Nat→Nat} {y:List UInt8} (ho:y∉NH c→r' (o1 ((NG c).idxOf y - (NH c).length))=o2 ((NG c).idxOf y - (NH c).length)):ct (ba r u) c o2 y=ba r' (ct u c o1 y):=by
 unfold ct
 by_cases hy:y∈NH c
 ·rw[if_pos hy,if_pos hy]
  have:=vS hi 8 c.head u ⟨[],Wn.none⟩ hu (tI _)
  have e:(bF.mk [] Wn.none).map r=⟨[],Wn.none⟩:=rfl
  rw[e]at this
  rw[this]
  show (((matU 8 c.head u ⟨[],Wn.none⟩).st.map fun q=>(q.1,ba r q.2)).find? (fun q=>q.1 == y)).elim zU (·.2)=_
  rw[Cr]
  cases hq:(matU 8 c.head u ⟨[],Wn.none⟩).st.find? (fun q=>q.1 == y)with
  | none=>exact(Ge r').symm
  | some q=>exact(ly h ((mH 8 c.head u _ hu (tI _)).1 q (List.mem_of_find?_eq_some hq))).symm
 ·rw[if_neg hy,if_neg hy,pY,ho hy]
theorem yB {P P':Nat→Prop} (h:∀k,P k→P' k) {u:U} (hu:bj (PQ P) u) {c:aG} {o:Nat→Nat} {y:List UInt8} (ho:y∉NH c→P' (o ((NG c).idxOf y - (NH c).length))):bj (PQ P') (ct u c o y):=by
 unfold ct
 by_cases hy:y∈NH c
 ·rw[if_pos hy]
  cases hq:(matU 8 c.head u ⟨[],Wn.none⟩).st.find? (fun q=>q.1 == y)with
  | none=>exact Gf _
  | some q=>exact((mH 8 c.head u _ hu (tI _)).1 q (List.mem_of_find?_eq_some hq)).mono fun x hx=>⟨hx.1,h _ hx.2⟩
 ·rw[if_neg hy]
  exact .v ⟨rfl,ho hy⟩
theorem CP {r:Nat→Nat} {P:Nat→Prop} (hi:gN r P) {l1 l2:Nat} (h1:∀k,P k→k<l1) (h2:∀k,P k→r k<l2) {u:U} (hu:bj (PQ P) u) {c:aG} (hc:∀x∈c.tests,gZ x):(bD l2 (ba r u) c).1=(bD l1 u c).1∧(bD l2 (ba r u) c).2=(bD l1 u c).2.map r∧∀v∈(bD l1 u c).2,P v:=by
 have hm:=vS hi 8 c.head u ⟨[],Wn.none⟩ hu (tI _)
 have e:(bF.mk [] Wn.none).map r=⟨[],Wn.none⟩:=rfl
 rw[e]at hm
 have hw:(matU 8 c.head (ba r u) ⟨[],Wn.none⟩).w=(matU 8 c.head u ⟨[],Wn.none⟩).w.map r:=by rw[hm];rfl
 have hin:=(mH 8 c.head u ⟨[],Wn.none⟩ hu (tI _)).2
 unfold bD
 rw[hw,Wn.q8]
 by_cases hs:(matU 8 c.head u ⟨[],Wn.none⟩).w.says≠1
 ·rw[if_pos hs,if_pos hs]
  exact⟨rfl,rfl,hin.at⟩
 ·rw[if_neg hs,if_neg hs]
  let r':Nat→Nat:=fun k=>if k<l1 then r k else l2+(k - l1)
  let P':Nat→Prop:=fun k=>P k∨l1≤k
  have hr:∀k,P k→r' k=r k:=fun k hk=>if_pos (h1 k hk)
  have hr2:∀k,l1≤k→r' k=l2+(k - l1):=fun k hk=>if_neg (by omega)
  have hi':gN r' P':=fun i j hPi hPj q=>by
   rcases hPi with a | a<;>rcases hPj with b | b
   ·rw[hr i a,hr j b]at q;exact hi i j a b q
   ·rw[hr i a,hr2 j b]at q;have:=h2 i a;omega
   ·rw[hr2 i a,hr j b]at q;have:=h2 j b;omega
   ·rw[hr2 i a,hr2 j b]at q;omega
  have hY:∀y,bj (PQ P') (ct u c (l1+·) y):=fun y=>yB (fun k hk=>Or.inl hk) hu fun _=>Or.inr (Nat.le_add_right _ _)
  have hE:ct (ba r u) c (l2+·)=fun y=>ba r' (ct u c (l1+·) y):=funext fun y=>wh hi hr hu fun _=>by
   rw[hr2 _ (Nat.le_add_right _ _)]
   congr 1
   omega
  rw[hE,Ej hi' c.tests [] hc (fun y _=>hY y)]
  have hwt:=ye (η:=ct u c (l1+·)) c.tests [] hc (fun y _=>hY y)
  refine⟨Wn.q8 _ _,?_,fun v hv=> ?_⟩
  ·show ((iB (ct u c (l1+·)) c.tests).wt.map r').filter _=_
   rw[List.filter_map]
   have:(iB (ct u c (l1+·)) c.tests).wt.filter ((fun n=>decide (n<l2))∘r')=(iB (ct u c (l1+·)) c.tests).wt.filter fun n=>decide (n<l1):=List.filter_congr fun w hw=>by
    show decide (r' w<l2)=decide (w<l1)
    rcases hwt.at w hw with q | q
    ·rw[hr w q,decide_eq_true (h2 w q),decide_eq_true (h1 w q)]
    ·rw[hr2 w q,decide_eq_false (by omega),decide_eq_false (by omega)]
   rw[this]
   refine List.map_congr_left fun w hw=> ?_
   obtain⟨hw1,hw2⟩:=List.mem_filter.1 hw
   exact if_pos (of_decide_eq_true hw2)
  ·obtain⟨hw1,hw2⟩:=List.mem_filter.1 hv
   have:=of_decide_eq_true hw2
   rcases hwt.at v hw1 with q | q
   ·exact q
   ·omega
def MG.ren (r:Nat→Nat) (g:MG):MG:=⟨ba r g.a,g.sg,ba r g.b,g.op,ba r g.c,g.wt,fun w=>∃v,g.on v∧r v=w⟩
structure qH (P:Nat→Prop) (g:MG):Prop where
 a:bj (PQ P) g.a
 b:bj (PQ P) g.b
 c:bj (PQ P) g.c
 on:∀v,g.on v→P v
structure dY (r:Nat→Nat) (P:Nat→Prop) (S S':MS):Prop where
 mono:∀i j,P i→P j→i<j→r i<r j
 l1:∀k,P k→k<S.lim
 l2:∀k,P k→r k<S'.lim
 wv:∀u∈S.vs,bj (PQ P) u
 wg:∀g∈S.gs,qH P g
 vs:S'.vs=S.vs.map (ba r)
 gs:S'.gs=S.gs.map (MG.ren r)
def px (r:Nat→Nat) (P:Nat→Prop):Prop:=∀i j,P i→P j→i<j→r i<r j
theorem px.inj {r:Nat→Nat} {P:Nat→Prop} (h:px r P):gN r P:=fun i j hi hj e=>by
 rcases Nat.lt_trichotomy i j with q | q | q
 ·have:=h i j hi hj q;omega
 ·exact q
 ·have:=h j i hj hi q;omega
theorem eO.rn {r:Nat→Nat} {P:Nat→Prop} (hm:px r P) {a b:U} {σ τ:Vr→U} (h:eO a b σ) (k:eO (ba r a) (ba r b) τ) (ha:bj (PQ P) a) (hb:bj (PQ P) b) {u:U} (hu:bj (PQ P) u):sub τ (ba r u)=ba r (sub σ u):=
 h.ren (ρ:=Za.rn r) (Q:=PQ P) (fun x y hx hy e=>hm.inj.on x y hx hy e) (fun x y hx hy _ hl=>⟨rfl,by
  show r y.2≤r x.2
  rcases Nat.lt_or_eq_of_le hl with q | q
  ·exact Nat.le_of_lt (hm _ _ hy.2 hx.2 q)
  ·rw[q];exact Nat.le_refl _⟩) ((ez a).1 ha) ((ez b).1 hb) k u ((ez u).1 hu)
theorem eO.tJ {Q:Vr→Prop} {a b:U} {σ:Vr→U} (h:eO a b σ) (ha:bj Q a) (hb:bj Q b) {u:U} (hu:bj Q u):bj Q (sub σ u):=by
 induction hu with
 | @v x hx=>
  refine(ez _).2 fun z hz=> ?_
  rcases h.vars hz with q | q | q
  ·rw[q];exact hx
  ·exact(ez a).1 ha z q
  ·exact(ez b).1 hb z q
 | @n k tx num ss hs ih=>
  rw[dI]
  refine .n fun u hu=> ?_
  obtain⟨s,hs',rfl⟩:=List.mem_map.1 hu
  exact ih s hs'
theorem Ev {r:Nat→Nat} {P:Nat→Prop} (hm:px r P) {a b:U} {σ τ:Vr→U} (h:eO a b σ) (k:eO (ba r a) (ba r b) τ) (ha:bj (PQ P) a) (hb:bj (PQ P) b) {g:MG} (hg:qH P g):MG.put τ (MG.ren r g)=MG.ren r (MG.put σ g)∧qH P (MG.put σ g):=by
 have hs:(MG.ren r g).stays τ↔g.stays σ:=by
  refine⟨fun q=>⟨q.1,fun v hv=> ?_⟩,fun q=>⟨q.1,fun w hw=> ?_⟩⟩
  ·have e:τ ([],r v)= .v ([],r v):=q.2 (r v) ⟨v,hv,rfl⟩
   have e2:τ ([],r v)=ba r (σ ([],v)):=h.rn hm k ha hb (u:= .v ([],v)) (.v ⟨rfl,hg.on v hv⟩)
   rw[e]at e2
   have hin:bj (PQ P) (σ ([],v)):=h.tJ ha hb (u:= .v ([],v)) (.v ⟨rfl,hg.on v hv⟩)
   generalize σ ([],v)=s at e2 hin
   cases s with
   | n kk tx num ss=>rw[fN]at e2;cases e2
   | v z=>
    rw[pY]at e2
    injection e2 with e2
    injection e2 with _ e2
    have:=hm.inj _ _ (hg.on v hv) hin.var.2 e2
    congr 1
    exact Prod.ext hin.var.1 this.symm
  ·obtain⟨v,hv,rfl⟩:=hw
   have e2:τ ([],r v)=ba r (σ ([],v)):=h.rn hm k ha hb (u:= .v ([],v)) (.v ⟨rfl,hg.on v hv⟩)
   rw[e2,q.2 v hv]
   rfl
 refine⟨?_,⟨h.tJ ha hb hg.a,h.tJ ha hb hg.b,h.tJ ha hb hg.c,fun v hv=>hg.on v hv.2⟩⟩
 unfold MG.put
 have e1:(MG.ren r g).a=ba r g.a:=rfl
 have e2:(MG.ren r g).b=ba r g.b:=rfl
 have e3:(MG.ren r g).c=ba r g.c:=rfl
 rw[e1,e2,e3,h.rn hm k ha hb hg.a,h.rn hm k ha hb hg.b,h.rn hm k ha hb hg.c]
 unfold MG.ren at hs⊢
 dsimp only at hs⊢
 congr 1
 ·exact decide_eq_decide.2 hs
 ·funext w
  apply propext
  constructor
  ·rintro⟨q1,v,q2,q3⟩
   exact⟨v,⟨hs.1 q1,q2⟩,q3⟩
  ·rintro⟨v,⟨q1,q2⟩,q3⟩
   exact⟨hs.2 q1,v,q2,q3⟩
theorem Ew {r:Nat→Nat} {P:Nat→Prop} (hi:gN r P) {a b:U} (ha:bj (PQ P) a) (hb:bj (PQ P) b) (h:∀θ,sub θ (ba r a)≠sub θ (ba r b)):∀θ,sub θ a≠sub θ b:=by
 classical
 refine Pf (ρ:=Za.rn r) (ρ':=fun w=>if q:∃v,PQ P v∧Za.rn r v=w then Classical.choose q else w) (fun v hv=> ?_) h
 have hp:PQ P v:=by
  rcases hv with q | q
  ·exact(ez a).1 ha v q
  ·exact(ez b).1 hb v q
 have q:∃z,PQ P z∧Za.rn r z=Za.rn r v:=⟨v,hp,rfl⟩
 rw[dif_pos q]
 exact hi.on _ _ (Classical.choose_spec q).1 hp (Classical.choose_spec q).2
theorem L9 {r:Nat→Nat} {a b:U} (h:∀θ,sub θ a≠sub θ b):∀θ,sub θ (ba r a)≠sub θ (ba r b):=fun θ e=>by
 unfold ba at e
 rw[sub_sub,sub_sub]at e
 exact h _ e
theorem td.parts {x:aC} (h:td x) (ns:List (List UInt8)):∀t,(t=x.left∨x.right=some t∨x.last=some t)→wfK 8 t∧∃ns',∀y∈namesF 8 ns' t,y∈aK ns x:=fun t ht=>by
 have hO:∀(t:Option Tm) (ns:List (List UInt8)),∀y∈ns,y∈cg ns t:=fun t ns y hy=>by
  cases t with
  | none=>exact hy
  | some r=>
   obtain⟨K,hK⟩:=namesV_ext 8 r ns
   show y∈namesF 8 ns r
   rw[hK];exact List.mem_append_left _ hy
 rcases ht with q | q | q
 ·subst q;exact⟨h.wl,ns,fun y hy=>hO _ _ y (hO _ _ y hy)⟩
 ·refine⟨?_,namesF 8 ns x.left,fun y hy=>hO _ _ y (by rw[q];exact hy)⟩
  by_cases e:x.sign=[]
  ·rw[h.r0 e]at q;cases q
  ·obtain⟨r,h1,h2⟩:=h.r1 e
   rw[h1]at q;cases q;exact h2
 ·refine⟨?_,cg (namesF 8 ns x.left) x.right,fun y hy=>by unfold aK;rw[q];exact hy⟩
  by_cases e:x.op=[]
  ·rw[h.z0 e]at q;cases q
  ·obtain⟨r,h1,h2⟩:=h.z1 e
   rw[h1]at q;cases q;exact h2
theorem Jt {r:Nat→Nat} {η θ:List UInt8→U} {x:aC} (h:td x) (ns:List (List UInt8)) (hy:∀y∈aK ns x,θ y=ba r (η y)):MG.of θ x=MG.ren r (MG.of η x):=by
 have hp:∀t,(t=x.left∨x.right=some t∨x.last=some t)→bA θ 8 t=ba r (bA η 8 t):=fun t ht=>by
  obtain⟨h1,ns',h2⟩:=h.parts ns t ht
  rw[gQ (θ:=fun y=>ba r (η y)) 8 t ns' h1 (fun y q=>hy y (h2 y q)),uq r η 8 t h1]
 unfold MG.of MG.ren
 dsimp only
 rw[hp x.left (Or.inl rfl)]
 congr 1
 ·cases e:x.right with
  | none=>exact(Ge r).symm
  | some t=>exact hp t (Or.inr (Or.inl e))
 ·cases e:x.last with
  | none=>exact(Ge r).symm
  | some t=>exact hp t (Or.inr (Or.inr e))
 ·funext w
  apply propext
  constructor
  ·intro q;exact q.elim
  ·rintro⟨_,q,_⟩;exact q.elim
theorem Nu {P:Nat→Prop} {η:List UInt8→U} {x:aC} (h:td x) (ns:List (List UInt8)) (hy:∀y∈aK ns x,bj (PQ P) (η y)):qH P (MG.of η x):=by
 have hp:∀t,(t=x.left∨x.right=some t∨x.last=some t)→bj (PQ P) (bA η 8 t):=fun t ht=>by
  obtain⟨h1,ns',h2⟩:=h.parts ns t ht
  exact oZ 8 t ns' h1 fun y q=>hy y (h2 y q)
 refine⟨hp x.left (Or.inl rfl),?_,?_,fun v q=>q.elim⟩
 ·show bj (PQ P) (x.right.elim zU (bA η 8))
  cases e:x.right with
  | none=>exact Gf _
  | some t=>exact hp t (Or.inr (Or.inl e))
 ·show bj (PQ P) (x.last.elim zU (bA η 8))
  cases e:x.last with
  | none=>exact Gf _
  | some t=>exact hp t (Or.inr (Or.inr e))
theorem Ma {r:Nat→Nat} {P:Nat→Prop} (hm:px r P) {l1 l2:Nat} (h1:∀k,P k→k<l1) (h2:∀k,P k→r k<l2) {F F':List Nat} (hl:F.length=F'.length) (hF:F.Pairwise (·<·)) (hF':F'.Pairwise (·<·)) (hf:∀f∈F,l1≤f) (hf':∀f∈F',l2≤f):∃r':Nat→Nat,px r' (fun k=>P k∨k∈F)∧(∀k,P k→r' k=r k)∧(∀k,k<F.length→r' ((F[k]?).getD 0)=(F'[k]?).getD 0)∧(∀f∈F,r' f∈F'):=by
 have hnd:∀i (hi:i<F.length),F.idxOf F[i]=i:=fun i hi=>by
  have hk:F.idxOf F[i]<F.length:=List.idxOf_lt_length_of_mem (List.getElem_mem hi)
  have he:F[F.idxOf F[i]]=F[i]:=List.getElem_idxOf hk
  rcases Nat.lt_trichotomy (F.idxOf F[i]) i with q | q | q
  ·have:=List.pairwise_iff_getElem.1 hF _ _ hk hi q;omega
  ·exact q
  ·have:=List.pairwise_iff_getElem.1 hF _ _ hi hk q;omega
 refine⟨fun k=>if k<l1 then r k else(F'[F.idxOf k]?).getD 0,?_,fun k hk=>if_pos (h1 k hk),fun k hk=> ?_,fun f XY=> ?_⟩
 ·have hat:∀i (hi:i<F.length),(if F[i]<l1 then r F[i]else(F'[F.idxOf F[i]]?).getD 0)=F'[i]'(by omega):=fun i hi=>by
   have:=hf _ (List.getElem_mem hi)
   rw[if_neg (by omega),hnd i hi,List.getElem?_eq_getElem (by omega)]
   rfl
  intro i j hi hj hij
  dsimp only
  rcases hi with hi | hi<;>rcases hj with hj | hj
  ·rw[if_pos (h1 i hi),if_pos (h1 j hj)];exact hm i j hi hj hij
  ·obtain⟨b,hb,rfl⟩:=List.getElem_of_mem hj
   rw[hat b hb,if_pos (h1 i hi)]
   have:=h2 i hi
   have:=hf' _ (List.getElem_mem (show b<F'.length by omega))
   omega
  ·have:=hf i hi
   have:=h1 j hj
   omega
  ·obtain⟨a,ha,rfl⟩:=List.getElem_of_mem hi
   obtain⟨b,hb,rfl⟩:=List.getElem_of_mem hj
   rw[hat a ha,hat b hb]
   have:a<b:=by
    rcases Nat.lt_trichotomy a b with q | q | q
    ·exact q
    ·subst q;omega
    ·have:=List.pairwise_iff_getElem.1 hF _ _ hb ha q;omega
   exact List.pairwise_iff_getElem.1 hF' _ _ _ _ this
 ·have hm':=hf _ (List.getElem_mem hk)
  rw[List.getElem?_eq_getElem hk]
  dsimp only[Option.getD_some]
  rw[if_neg (by omega),hnd k hk]
 ·obtain⟨a,ha,rfl⟩:=List.getElem_of_mem XY
  have:=hf _ (List.getElem_mem ha)
  dsimp only
  rw[if_neg (by omega),hnd a ha,List.getElem?_eq_getElem (by omega)]
  exact List.getElem_mem _
theorem MG.Ju {r r':Nat→Nat} {P:Nat→Prop} (h:∀k,P k→r' k=r k) {g:MG} (hg:qH P g):MG.ren r' g=MG.ren r g:=by
 unfold MG.ren
 rw[ly h hg.a,ly h hg.b,ly h hg.c]
 congr 1
 funext w
 apply propext
 constructor
 ·rintro⟨v,q1,q2⟩;exact⟨v,q1,by rw[←h v (hg.on v q1)];exact q2⟩
 ·rintro⟨v,q1,q2⟩;exact⟨v,q1,by rw[h v (hg.on v q1)];exact q2⟩
theorem qH.mono {P P':Nat→Prop} (h:∀k,P k→P' k) {g:MG} (hg:qH P g):qH P' g:=⟨hg.a.mono fun _ hx=>⟨hx.1,h _ hx.2⟩,hg.b.mono fun _ hx=>⟨hx.1,h _ hx.2⟩,hg.c.mono fun _ hx=>⟨hx.1,h _ hx.2⟩,fun v hv=>h v (hg.on v hv)⟩
theorem iJ {α β:Type} (f:α→β):∀(l:List α) (i:Nat),(l.map f).eraseIdx i=(l.eraseIdx i).map f
 | [],_=>by simp
 | a :: l,0=>by simp
 | a :: l,i+1=>by simp[iJ f l i]
section
variable {cls:List aG} {r:Nat→Nat} {P:Nat→Prop} {S S':MS}
theorem dY.at {i:Nat} {g g':MG} (h:dY r P S S') (hg:S.gs[i]?=some g) (hg':S'.gs[i]?=some g'):g'=MG.ren r g∧qH P g:=by
 rw[h.gs,List.getElem?_map,hg]at hg'
 exact⟨(Option.some.inj hg').symm,h.wg g (List.mem_of_getElem? hg)⟩
theorem n7.same {g:MG} {p:Int} {n n':Nat} {a a':Nat→Nat} (h:n7 cls g p n a) (k:n7 cls (MG.ren r g) p n' a'):n'=n∧a'=a:=by
 obtain⟨_,tx,us,h1,_,h2,h3⟩:=h
 obtain⟨_,tx',us',k1,_,k2,k3⟩:=k
 have:ba r g.a= .n 1 tx' 0 us':=k1
 rw[h1,fN]at this
 injection this with _ e1 _ e2
 subst e1 e2
 rw[List.length_map]at k2 k3
 have en:n'=n:=k2.trans h2.symm
 subst en
 exact⟨rfl,k3.trans h3.symm⟩
theorem n7.back {g:MG} {p:Int} {n':Nat} {a':Nat→Nat} (k:n7 cls (MG.ren r g) p n' a'):n7 cls g p n' a':=by
 obtain⟨k0,tx,us,k1,k2,k3,k4⟩:=k
 have k1':ba r g.a= .n 1 tx 0 us:=k1
 refine⟨k0,?_⟩
 cases hg:g.a with
 | v x=>rw[hg,pY]at k1';cases k1'
 | n kk tx' num ss=>
  rw[hg,fN]at k1'
  injection k1' with e1 e2 e3 e4
  subst e1 e2 e3 e4
  rw[List.length_map]at k3 k4
  exact⟨tx',ss,rfl,fun q=>k2 ⟨q.1,by rw[q.2];rfl⟩,k3,k4⟩
theorem dY.tK (h:dY r P S S') (hok:∀c∈cls,jx c) {g:MG} (hg:qH P g) {i:Nat} {c:aG} (hc:cls[i]?=some c):(bD S'.lim (ba r g.a) c).1=(bD S.lim g.a c).1∧(bD S'.lim (ba r g.a) c).2=(bD S.lim g.a c).2.map r∧∀v∈(bD S.lim g.a c).2,P v:=CP (px.inj h.mono) h.l1 h.l2 hg.a (hok c (List.mem_of_getElem? hc)).ts
theorem dY.Sm {S1 S1':MS} (h:dY r P S S') (hl:S.lim≤S1.lim) (hl':S'.lim≤S1'.lim) {a b:U} {σ τ:Vr→U} (hs:eO a b σ) (ht:eO (ba r a) (ba r b) τ) (ha:bj (PQ P) a) (hb:bj (PQ P) b) {i:Nat} (v1:S1.vs=S.vs.map (sub σ)) (g1:S1.gs=(S.gs.eraseIdx i).map (MG.put σ)) (v2:S1'.vs=S'.vs.map (sub τ)) (g2:S1'.gs=(S'.gs.eraseIdx i).map (MG.put τ)):dY r P S1 S1':=by
 refine⟨h.mono,fun k hk=>Nat.lt_of_lt_of_le (h.l1 k hk) hl,fun k hk=>Nat.lt_of_lt_of_le (h.l2 k hk) hl',fun u hu=> ?_,fun g hg=> ?_,?_,?_⟩
 ·rw[v1]at hu
  obtain⟨w,hw,rfl⟩:=List.mem_map.1 hu
  exact hs.tJ ha hb (h.wv w hw)
 ·rw[g1]at hg
  obtain⟨w,hw,rfl⟩:=List.mem_map.1 hg
  exact(Ev h.mono hs ht ha hb (h.wg w (List.mem_of_mem_eraseIdx hw))).2
 ·rw[v2,v1,h.vs,List.map_map,List.map_map]
  exact List.map_congr_left fun u hu=>hs.rn h.mono ht ha hb (h.wv u hu)
 ·rw[g2,g1,h.gs,iJ,List.map_map,List.map_map]
  exact List.map_congr_left fun u hu=>(Ev h.mono hs ht ha hb (h.wg u (List.mem_of_mem_eraseIdx hu))).1
theorem dY.sets {S1 S1':MS} (h:dY r P S S') (hl:S.lim≤S1.lim) (hl':S'.lim≤S1'.lim) {i:Nat} {g g':MG} (hw:qH P g) (he:g'=MG.ren r g) (v1:S1.vs=S.vs) (g1:S1.gs=S.gs.set i g) (v2:S1'.vs=S'.vs) (g2:S1'.gs=S'.gs.set i g'):dY r P S1 S1':=by
 refine⟨h.mono,fun k hk=>Nat.lt_of_lt_of_le (h.l1 k hk) hl,fun k hk=>Nat.lt_of_lt_of_le (h.l2 k hk) hl',by rw[v1];exact h.wv,fun x hx=> ?_,by rw[v2,v1];exact h.vs,by rw[g2,g1,h.gs,he,List.map_set]⟩
 rw[g1]at hx
 rcases List.mem_or_eq_of_mem_set hx with q | q
 ·exact h.wg x q
 ·rw[q];exact hw
theorem oC {g:MG} (hm:gN r P) (hg:qH P g):(eN (MG.ren r g).op (MG.ren r g).b (MG.ren r g).c).wt=(eN g.op g.b g.c).wt.map r∧∀v∈(eN g.op g.b g.c).wt,P v:=by
 have:=OC hm g.op hg.b (fun _=>hg.c)
 refine⟨by show (eN g.op (ba r g.b) (ba r g.c)).wt=_;rw[this];rfl,?_⟩
 have hin:(eN g.op g.b g.c).eK (PQ P):=by
  unfold eN
  split
  ·exact(dt _).bI hg.b
  ·exact((dt _).bI hg.b).bI hg.c
 exact hin.at
theorem dY.step (h:dY r P S S') (hok:∀c∈cls,jx c) {S1 S1':MS} {i:Nat} {p z z':Int} (hs:jG cls S S1 i p z) (ht:jG cls S' S1' i p z'):z'=z∧∃r' P',dY r' P' S1 S1':=by
 obtain⟨hl,g,hg,hs⟩:=hs
 obtain⟨hl',g',hg',ht⟩:=ht
 obtain⟨rfl,hw⟩:=h.at hg hg'
 have e0:(MG.ren r g).sg=g.sg:=rfl
 have hi:=px.inj h.mono
 rcases hs with⟨s1,rfl,σ,s2,s3,s4⟩ | ⟨s1,rfl,s2,s3,s4⟩ | ⟨s1,rfl,s2,x,σ,s3,s4,s5,s6⟩ | ⟨s1,rfl,s2,s3,s4⟩ | ⟨n,a,s1,t,c,F,s2,s3,s4,s5,rfl,s6,s7,s8,s9,s10⟩ | ⟨n,a,s1,rfl,s2,s3,s4,s5⟩
 ·rcases ht with⟨t1,rfl,τ,t2,t3,t4⟩ | ⟨t1,_⟩ | ⟨t1,_⟩ | ⟨t1,_⟩ | ⟨n',a',⟨t1,_⟩,_⟩ | ⟨n',a',⟨t1,_⟩,_⟩
  ·exact⟨rfl,r,P,h.Sm hl hl' s2 t2 hw.a hw.b s3 s4 t3 t4⟩
  all_goals (rw[e0,s1]at t1;cases t1)
 ·rcases ht with⟨t1,_⟩ | ⟨t1,rfl,t2,t3,t4⟩ | ⟨t1,_,t2,_⟩ | ⟨t1,_⟩ | ⟨n',a',⟨t1,_⟩,_⟩ | ⟨n',a',⟨t1,_⟩,_⟩
  ·rw[e0,s1]at t1;cases t1
  ·refine⟨rfl,r,P,h.sets hl hl' ?_ ?_ s3 s4 t3 t4⟩
   ·exact⟨hw.a,hw.b,hw.c,(oC hi hw).2⟩
   ·unfold MG.ren
    dsimp only
    congr 1
    funext w
    apply propext
    have:=(oC hi hw).1
    unfold MG.ren at this
    dsimp only at this
    rw[this,List.mem_map]
  ·exfalso
   rw[(oC hi hw).1]at t2
   exact s2 (List.map_eq_nil_iff.1 t2)
  all_goals (rw[e0,s1]at t1;cases t1)
 ·rcases ht with⟨t1,_⟩ | ⟨t1,rfl,t2,_⟩ | ⟨t1,rfl,t2,x',τ,t3,t4,t5,t6⟩ | ⟨t1,_⟩ | ⟨n',a',⟨t1,_⟩,_⟩ | ⟨n',a',⟨t1,_⟩,_⟩
  ·rw[e0,s1]at t1;cases t1
  ·exfalso
   rw[(oC hi hw).1,s2]at t2
   exact t2 rfl
  ·have ev:eI g.op (ba r g.b) (ba r g.c)=some x':=t3
   rw[q9,s3]at ev
   cases ev
   exact⟨rfl,r,P,h.Sm hl hl' s4 (by rw[fN];exact t4) hw.a (.n fun a ha=>by cases ha) s5 s6 t5 t6⟩
  all_goals (rw[e0,s1]at t1;cases t1)
 ·rcases ht with⟨t1,_⟩ | ⟨t1,_⟩ | ⟨t1,_⟩ | ⟨t1,rfl,t2,t3,t4⟩ | ⟨n',a',t1,_⟩ | ⟨n',a',t1,_⟩
  ·rw[e0,s1]at t1;cases t1
  ·rw[e0,s1]at t1;cases t1
  ·rw[e0,s1]at t1;cases t1
  ·refine⟨rfl,r,P,⟨h.mono,fun k hk=>Nat.lt_of_lt_of_le (h.l1 k hk) hl,fun k hk=>Nat.lt_of_lt_of_le (h.l2 k hk) hl',by rw[s3];exact h.wv,fun x hx=> ?_,by rw[t3,s3];exact h.vs,by rw[t4,s4,h.gs,iJ]⟩⟩
   rw[s4]at hx
   exact h.wg x (List.mem_of_mem_eraseIdx hx)
  all_goals
   obtain⟨_,tx,us,t2,t3,_⟩:=t1.back
   rw[s2]at t2
   injection t2 with _ e1 _ e2
   exact absurd ⟨e1.symm,e2.symm⟩ t3
 ·rcases ht with⟨t1,_⟩ | ⟨t1,_⟩ | ⟨t1,_⟩ | ⟨t1,_,t2,_⟩ | ⟨n',a',t1,t',c',F',t2,t3,t4,t5,rfl,t6,t7,t8,t9,t10⟩ | ⟨n',a',t1,_,t2,_⟩
  ·rw[e0,s1.1]at t1;cases t1
  ·rw[e0,s1.1]at t1;cases t1
  ·rw[e0,s1.1]at t1;cases t1
  ·exfalso
   obtain⟨_,tx,us,q2,q3,_⟩:=s1
   have t2':ba r g.a= .n 1 [116,114,117,101] 0 []:=t2
   rw[q2,fN]at t2'
   injection t2' with _ e1 _ e2
   exact q3 ⟨e1,List.map_eq_nil_iff.1 e2⟩
  ·obtain⟨rfl,rfl⟩:=s1.same t1
   have et:t'=t:=by
    rcases Nat.lt_trichotomy t' t with q | q | q
    ·have:=s3 t' c' q t4
     rw[←(h.tK hok hw t4).1]at this
     exact absurd t5 this
    ·exact q
    ·have:=t3 t c q s4
     have e1:(bD S'.lim (MG.ren r g).a c).1=_:=(h.tK hok hw s4).1
     rw[e1]at this
     exact absurd s5 this
   subst et
   rw[s4]at t4
   cases t4
   have hcm:=hok c (List.mem_of_getElem? s4)
   obtain⟨r',m',o1,o2,o3⟩:=Ma h.mono h.l1 h.l2 (F:=F) (F':=F') (by omega) s7 t7 (fun f hf=>(s8 f hf).1) (fun f hf=>(t8 f hf).1)
   have qf:∀y∈NG c,y∉NH c→(NG c).idxOf y - (NH c).length<F.length:=fun y hy hn=>by
    have:=Gd hy hn
    omega
   have FJ:∀y∈NG c,ct (ba r g.a) c (fun k=>(F'[k]?).getD 0) y=ba r' (ct g.a c (fun k=>(F[k]?).getD 0) y):=fun y hy=>wh hi o1 hw.a fun hn=>o2 _ (qf y hy hn)
   have hin:∀y∈NG c,bj (PQ fun k=>P k∨k∈F) (ct g.a c (fun k=>(F[k]?).getD 0) y):=fun y hy=>yB (fun k hk=>Or.inl hk) hw.a fun hn=>Or.inr (by
    have:=qf y hy hn
    rw[List.getElem?_eq_getElem this]
    exact List.getElem_mem _)
   refine⟨rfl,r',fun k=>P k∨k∈F,⟨m',fun k hk=> ?_,fun k hk=> ?_,fun u hu=> ?_,fun x hx=> ?_,?_,?_⟩⟩
   ·rcases hk with q | q
    ·exact Nat.lt_of_lt_of_le (h.l1 k q) hl
    ·exact(s8 k q).2
   ·rcases hk with q | q
    ·rw[o1 k q];exact Nat.lt_of_lt_of_le (h.l2 k q) hl'
    ·exact(t8 _ (o3 k q)).2
   ·rw[s9]at hu
    exact(h.wv u hu).mono fun x hx=>⟨hx.1,Or.inl hx.2⟩
   ·rw[s10]at hx
    rcases List.mem_append.1 hx with q | q
    ·exact(h.wg x (List.mem_of_mem_eraseIdx q)).mono fun k hk=>Or.inl hk
    ·obtain⟨y,hy,rfl⟩:=List.mem_map.1 q
     obtain⟨ns,hn⟩:=fk c.goals (NT c) y hy
     exact Nu (hcm.gs y hy) ns fun z hz=>hin z (hn z hz)
   ·rw[t9,s9,h.vs]
    exact List.map_congr_left fun u hu=>(ly o1 (h.wv u hu)).symm
   ·rw[t10,s10,h.gs,iJ,List.map_append,List.map_map]
    congr 1
    ·exact List.map_congr_left fun u hu=>(MG.Ju o1 (h.wg u (List.mem_of_mem_eraseIdx hu))).symm
    ·refine List.map_congr_left fun y hy=> ?_
     obtain⟨ns,hn⟩:=fk c.goals (NT c) y hy
     exact Jt (hcm.gs y hy) ns fun z hz=>FJ z (hn z hz)
  ·exfalso
   obtain⟨rfl,rfl⟩:=s1.same t1
   have:=t2 t c s2 s4
   have e1:(bD S'.lim (MG.ren r g).a c).1=_:=(h.tK hok hw s4).1
   rw[e1]at this
   exact this s5
 ·rcases ht with⟨t1,_⟩ | ⟨t1,_⟩ | ⟨t1,_⟩ | ⟨t1,_,t2,_⟩ | ⟨n',a',t1,t',c',F',t2,t3,t4,t5,_⟩ | ⟨n',a',t1,rfl,t2,t3,t4,t5⟩
  ·rw[e0,s1.1]at t1;cases t1
  ·rw[e0,s1.1]at t1;cases t1
  ·rw[e0,s1.1]at t1;cases t1
  ·exfalso
   obtain⟨_,tx,us,q2,q3,_⟩:=s1
   have t2':ba r g.a= .n 1 [116,114,117,101] 0 []:=t2
   rw[q2,fN]at t2'
   injection t2' with _ e1 _ e2
   exact q3 ⟨e1,List.map_eq_nil_iff.1 e2⟩
  ·exfalso
   obtain⟨rfl,rfl⟩:=s1.same t1
   have:=s2 t' c' t2 t4
   rw[←(h.tK hok hw t4).1]at this
   exact this t5
  ·obtain⟨rfl,rfl⟩:=s1.same t1
   refine⟨rfl,r,P,h.sets hl hl' ?_ ?_ s4 s5 t4 t5⟩
   ·refine⟨hw.a,hw.b,hw.c,fun v hv=> ?_⟩
    obtain⟨t,c,_,q2,_,q4⟩:=hv
    exact(h.tK hok hw q2).2.2 v q4
   ·unfold MG.ren
    dsimp only
    congr 1
    funext w
    apply propext
    constructor
    ·rintro⟨t,c,q1,q2,q3,q4⟩
     have ha:=h.tK hok hw q2
     rw[ha.1]at q3
     rw[ha.2.1]at q4
     obtain⟨v,hv,e⟩:=List.mem_map.1 q4
     exact⟨v,⟨t,c,q1,q2,q3,hv⟩,e⟩
    ·rintro⟨v,⟨t,c,q1,q2,q3,q4⟩,rfl⟩
     have ha:=h.tK hok hw q2
     exact⟨t,c,q1,q2,ha.1.trans q3,by rw[ha.2.1];exact List.mem_map_of_mem q4⟩
end
end Za
namespace Za
open Go.Proofs.YthfjnfcekeknlaaGreatDoor (eI dh fV)
section
variable {cls:List aG} {r:Nat→Nat} {P:Nat→Prop} {S S':MS}
theorem dY.Nv (h:dY r P S S') (hok:∀c∈cls,jx c) {S1:MS} {i:Nat} {p z en:Int} (hs:jG cls S S1 i p z) (ht:Eu cls S' i p en):False:=by
 obtain⟨_,g,hg,hs⟩:=hs
 obtain⟨g',hg',ht⟩:=ht
 obtain⟨rfl,hw⟩:=h.at hg hg'
 have e0:(MG.ren r g).sg=g.sg:=rfl
 have hi:=px.inj h.mono
 rcases ht with⟨t1,_,t2⟩ | ⟨t1,t2,t3⟩ | ⟨_,n',a',t1,t2⟩
 ·rcases hs with⟨s1,_,σ,s2,_⟩ | ⟨s1,_⟩ | ⟨s1,_⟩ | ⟨s1,_⟩ | ⟨_,_,⟨s1,_⟩,_⟩ | ⟨_,_,⟨s1,_⟩,_⟩
  ·exact Ew hi hw.a hw.b t2 σ s2.one
  all_goals (rw[e0,s1]at t1;cases t1)
 ·rw[(oC hi hw).1]at t2
  have t2':=List.map_eq_nil_iff.1 t2
  have ev:eI (MG.ren r g).op (MG.ren r g).b (MG.ren r g).c=eI g.op g.b g.c:=q9 r g.op g.b g.c
  rw[ev]at t3
  rcases hs with⟨s1,_⟩ | ⟨s1,_,s2,_⟩ | ⟨s1,_,s2,x,σ,s3,s4,_⟩ | ⟨s1,_⟩ | ⟨_,_,⟨s1,_⟩,_⟩ | ⟨_,_,⟨s1,_⟩,_⟩
  ·rw[e0,s1]at t1;cases t1
  ·exact s2 t2'
  ·rcases t3 with⟨_,q⟩ | ⟨_,x',q1,q2⟩
   ·rw[s3]at q;cases q
   ·rw[s3]at q1
    cases q1
    refine Ew hi hw.a (b:= .n 3 [] x []) (.n fun a ha=>by cases ha) (fun θ q=> ?_) σ s4.one
    rw[fN,List.map_nil,dI,List.map_nil]at q
    exact q2 θ q
  all_goals (rw[e0,s1]at t1;cases t1)
 ·rcases hs with⟨s1,_⟩ | ⟨s1,_⟩ | ⟨s1,_⟩ | ⟨s1,_,s2,_⟩ | ⟨n,a,s1,t,c,F,s2,s3,s4,s5,_⟩ | ⟨n,a,s1,_,s2,⟨t,c,s3,s4,s5⟩,_⟩
  ·have:=t1.1;rw[e0,s1]at this;cases this
  ·have:=t1.1;rw[e0,s1]at this;cases this
  ·have:=t1.1;rw[e0,s1]at this;cases this
  ·obtain⟨_,tx,us,q2,q3,_⟩:=t1.back
   rw[s2]at q2
   injection q2 with _ e1 _ e2
   exact q3 ⟨e1.symm,e2.symm⟩
  ·obtain⟨rfl,rfl⟩:=s1.same t1
   have:=t2 t c s2 s4
   have e1:(bD S'.lim (MG.ren r g).a c).1=_:=(h.tK hok hw s4).1
   rw[e1,s5]at this
   cases this
  ·obtain⟨rfl,rfl⟩:=s1.same t1
   have:=t2 t c s3 s4
   have e1:(bD S'.lim (MG.ren r g).a c).1=_:=(h.tK hok hw s4).1
   rw[e1,s5]at this
   cases this
theorem dY.Nw (h:dY r P S S') (hok:∀c∈cls,jx c) {S1:MS} {i:Nat} {p z en:Int} (ht:Eu cls S i p en) (hs:jG cls S' S1 i p z):False:=by
 obtain⟨_,g',hg',hs⟩:=hs
 obtain⟨g,hg,ht⟩:=ht
 obtain⟨rfl,hw⟩:=h.at hg hg'
 have e0:(MG.ren r g).sg=g.sg:=rfl
 have hi:=px.inj h.mono
 rcases ht with⟨t1,_,t2⟩ | ⟨t1,t2,t3⟩ | ⟨_,n',a',t1,t2⟩
 ·rcases hs with⟨s1,_,σ,s2,_⟩ | ⟨s1,_⟩ | ⟨s1,_⟩ | ⟨s1,_⟩ | ⟨_,_,⟨s1,_⟩,_⟩ | ⟨_,_,⟨s1,_⟩,_⟩
  ·exact L9 t2 σ s2.one
  all_goals (rw[e0,t1]at s1;cases s1)
 ·have ew:=(oC hi hw).1
  rw[t2]at ew
  have ev:eI (MG.ren r g).op (MG.ren r g).b (MG.ren r g).c=eI g.op g.b g.c:=q9 r g.op g.b g.c
  rcases hs with⟨s1,_⟩ | ⟨s1,_,s2,_⟩ | ⟨s1,_,s2,x,σ,s3,s4,_⟩ | ⟨s1,_⟩ | ⟨_,_,⟨s1,_⟩,_⟩ | ⟨_,_,⟨s1,_⟩,_⟩
  ·rw[e0,t1]at s1;cases s1
  ·exact s2 ew
  ·rw[ev]at s3
   rcases t3 with⟨_,q⟩ | ⟨_,x',q1,q2⟩
   ·rw[s3]at q;cases q
   ·rw[s3]at q1
    cases q1
    have:=s4.one
    rw[dI,List.map_nil]at this
    have e2:sub σ (ba r g.a)=sub (fun y=>sub σ (Za.ren (Za.rn r) y)) g.a:=sub_sub _ _ _
    exact q2 _ (e2.symm.trans this)
  all_goals (rw[e0,t1]at s1;cases s1)
 ·rcases hs with⟨s1,_⟩ | ⟨s1,_⟩ | ⟨s1,_⟩ | ⟨s1,_,s2,_⟩ | ⟨n,a,s1,t,c,F,s2,s3,s4,s5,_⟩ | ⟨n,a,s1,_,s2,⟨t,c,s3,s4,s5⟩,_⟩
  ·have:=t1.1;rw[e0,this]at s1;cases s1
  ·have:=t1.1;rw[e0,this]at s1;cases s1
  ·have:=t1.1;rw[e0,this]at s1;cases s1
  ·obtain⟨_,tx,us,q2,q3,_⟩:=t1
   have s2':ba r g.a= .n 1 [116,114,117,101] 0 []:=s2
   rw[q2,fN]at s2'
   injection s2' with _ e1 _ e2
   exact q3 ⟨e1,List.map_eq_nil_iff.1 e2⟩
  ·obtain⟨rfl,rfl⟩:=t1.same s1
   have:=t2 t c s2 s4
   have e1:(bD S'.lim (MG.ren r g).a c).1=_:=(h.tK hok hw s4).1
   rw[e1,this]at s5
   cases s5
  ·obtain⟨rfl,rfl⟩:=t1.same s1
   have:=t2 t c s3 s4
   have e1:(bD S'.lim (MG.ren r g).a c).1=_:=(h.tK hok hw s4).1
   rw[e1,this]at s5
   cases s5
theorem dY.fl (h:dY r P S S') {i:Nat} {p en en':Int} (hs:Eu cls S i p en) (ht:Eu cls S' i p en'):en'=en:=by
 obtain⟨g,hg,hs⟩:=hs
 obtain⟨g',hg',ht⟩:=ht
 obtain⟨rfl,hw⟩:=h.at hg hg'
 have e0:(MG.ren r g).sg=g.sg:=rfl
 have ev:eI (MG.ren r g).op (MG.ren r g).b (MG.ren r g).c=eI g.op g.b g.c:=q9 r g.op g.b g.c
 rcases hs with⟨s1,rfl,s2⟩ | ⟨s1,s2,s3⟩ | ⟨rfl,n,a,s1,s2⟩
 ·rcases ht with⟨_,rfl,_⟩ | ⟨t1,_⟩ | ⟨rfl,_⟩
  ·rfl
  ·rw[e0,s1]at t1;cases t1
  ·rfl
 ·rcases ht with⟨t1,_⟩ | ⟨t1,t2,t3⟩ | ⟨_,_,_,⟨t1,_⟩,_⟩
  ·rw[e0,s1]at t1;cases t1
  ·rw[ev]at t3
   rcases s3 with⟨rfl,q⟩ | ⟨rfl,x,q,_⟩<;>rcases t3 with⟨rfl,q'⟩ | ⟨rfl,x',q',_⟩
   ·rfl
   ·rw[q]at q';cases q'
   ·rw[q]at q';cases q'
   ·rfl
  ·rw[e0,s1]at t1;cases t1
 ·rcases ht with⟨t1,rfl,_⟩ | ⟨t1,_⟩ | ⟨rfl,_⟩
  ·rfl
  ·have:=s1.1;rw[e0,this]at t1;cases t1
  ·rfl
theorem ux (r:Nat→Nat) (u:U):big (ba r u)=big u:=by unfold big ba;rw[J6]
theorem Ex (r:Nat→Nat) (us:List U):(us.map (ba r)).any big=us.any big:=by
 rw[List.any_map]
 congr 1
 funext u
 exact ux r u
theorem dY.big (h:dY r P S S'):ql S'=ql S:=by
 unfold ql
 rw[h.gs,h.vs,List.length_map,Ex,List.any_map]
 congr 3
 funext g
 show nL (MG.ren r g)=nL g
 unfold nL MG.ren
 dsimp only
 rw[ux,ux,ux]
 cases g.a with
 | v x=>rfl
 | n k tx num us=>rw[fN];dsimp only;rw[Ex]
theorem dY.fT (h:dY r P S S'):jf S'.gs=jf S.gs:=by
 unfold jf
 rw[h.gs,List.length_map]
 refine List.filter_congr fun i _=> ?_
 rw[List.getElem?_map]
 cases S.gs[i]?<;>rfl
theorem dY.fin (h:dY r P S S'):yA S'.gs=yA S.gs:=by
 unfold yA
 rw[h.fT]
 have:S'.gs=[]↔S.gs=[]:=by rw[h.gs,List.map_eq_nil_iff]
 by_cases q:S.gs=[]
 ·rw[if_pos q,if_pos (this.2 q)]
 ·rw[if_neg q,if_neg (fun e=>q (this.1 e))]
theorem CQ (hi:gN r P):∀(vs:List U) (ts:List (List UInt8)) (N:List Vr),(∀u∈vs,bj (PQ P) u)→(∀x∈N,PQ P x)→(vs.map (ba r)).foldl mW (ts,N.map (rn r))=((vs.foldl mW (ts,N)).1,(vs.foldl mW (ts,N)).2.map (rn r))∧∀x∈(vs.foldl mW (ts,N)).2,PQ P x
 | [],ts,N,_,hN=>⟨rfl,hN⟩
 | u :: vs,ts,N,hu,hN=>by
  have h1:=(ez u).1 (hu u (by simp))
  have hn:=yP hi.on u N h1 hN
  have hN':∀x∈aS N u,PQ P x:=fun x hx=>by
   rcases(qO u N).1 hx with q | q
   ·exact hN x q
   ·exact h1 x q
  have hs:=tT (D:=Go.Lib.itoa) hi.on hN' u h1
  rw[List.map_cons,List.foldl_cons,List.foldl_cons]
  have e:mW (ts,N.map (rn r)) (ba r u)=((mW (ts,N) u).1,(aS N u).map (rn r)):=by
   unfold mW
   dsimp only
   unfold ba
   rw[hn,hs]
  rw[e]
  exact CQ hi vs _ _ (fun w hw=>hu w (by simp[hw])) hN'
theorem CR (hi:gN r P):∀(gs:List MG) (ts:List (List UInt8)) (N:List Vr),(∀g∈gs,qH P g)→(∀x∈N,PQ P x)→(gs.map (MG.ren r)).foldl mX (ts,N.map (rn r))=((gs.foldl mX (ts,N)).1,(gs.foldl mX (ts,N)).2.map (rn r))
 | [],ts,N,_,_=>rfl
 | g :: gs,ts,N,hg,hN=>by
  have hw:=hg g (by simp)
  have step:∀(u:U) (N:List Vr),bj (PQ P) u→(∀x∈N,PQ P x)→aS (N.map (rn r)) (ba r u)=(aS N u).map (rn r)∧∀x∈aS N u,PQ P x:=fun u N hu hN=>by
   have h1:=(ez u).1 hu
   refine⟨yP hi.on u N h1 hN,fun x hx=> ?_⟩
   rcases(qO u N).1 hx with q | q
   ·exact hN x q
   ·exact h1 x q
  obtain⟨a1,a2⟩:=step g.a N hw.a hN
  obtain⟨b1,b2⟩:=step g.b _ hw.b a2
  obtain⟨c1,c2⟩:=step g.c _ hw.c b2
  have en:jy (N.map (rn r)) (MG.ren r g)=(jy N g).map (rn r):=by
   unfold jy MG.ren
   dsimp only
   rw[a1,b1,c1]
  have ht:uw ((jy N g).map (rn r)) (MG.ren r g)=uw (jy N g) g:=by
   unfold uw MG.ren
   dsimp only
   unfold ba
   have c3:∀x∈jy N g,PQ P x:=c2
   rw[tT hi.on c3 g.a ((ez _).1 hw.a),tT hi.on c3 g.b ((ez _).1 hw.b),tT hi.on c3 g.c ((ez _).1 hw.c)]
  rw[List.map_cons,List.foldl_cons,List.foldl_cons]
  have e:mX (ts,N.map (rn r)) (MG.ren r g)=((mX (ts,N) g).1,(jy N g).map (rn r)):=by
   unfold mX
   dsimp only
   rw[en,ht]
  rw[e]
  exact CR hi gs _ _ (fun w hw=>hg w (by simp[hw])) c2
theorem dY.told (h:dY r P S S'):(jX S'.vs).1=(jX S.vs).1∧(vZ (jX S'.vs).2 S'.gs).1=(vZ (jX S.vs).2 S.gs).1∧S'.gs.map (·.wt)=S.gs.map (·.wt):=by
 have hi:=px.inj h.mono
 obtain⟨v1,v2⟩:=CQ hi S.vs [] [] h.wv (fun x hx=>by cases hx)
 have ev:jX S'.vs=((jX S.vs).1,(jX S.vs).2.map (rn r)):=by
  unfold jX
  rw[h.vs]
  exact v1
 refine⟨by rw[ev],?_,?_⟩
 ·rw[ev,h.gs]
  unfold vZ
  dsimp only
  rw[CR hi S.gs [] (jX S.vs).2 h.wg v2]
 ·rw[h.gs,List.map_map]
  rfl
end
section
variable {cls:List aG} {script:List (Int×Int)} {S0 S0':MS}
theorem nM.rel (hok:∀c∈cls,jx c) {r:Nat→Nat} {P:Nat→Prop} (h0:dY r P S0 S0') {j:Nat} {S:MS} {L:List Int} (h:nM cls script S0 j S L):∀{S':MS} {L':List Int},nM cls script S0' j S' L'→L'=L∧∃r P,dY r P S S':=by
 induction h with
 | start=>
  intro S' L' k
  cases k with
  | start=>exact⟨rfl,r,P,h0⟩
 | @step j S S1 L pg pc z i h hs hi hg hl ih=>
  intro S' L' k
  cases k with
  | @step _ T S1' L1 pg' pc' z' i' k ks ki kg kl=>
   obtain⟨rfl,r1,P1,hr⟩:=ih k
   rw[hs]at ks
   cases ks
   rw[hr.fT,hi]at ki
   cases ki
   obtain⟨rfl,r2,P2,hr2⟩:=hr.step hok hg kg
   exact⟨rfl,r2,P2,hr2⟩
theorem nM.before {j:Nat} {S:MS} {L:List Int} (h:nM cls script S0 j S L):∀{i:Nat},i<j→∃(T T':MS) (K:List Int) (pg pc z:Int) (k:Nat),nM cls script S0 i T K∧script[i]?=some (pg,pc)∧(jf T.gs)[dh pg (jf T.gs).length]?=some k∧jG cls T T' k pc z∧ql T'=false:=by
 induction h with
 | start=>intro i hi;omega
 | @step j S S1 L pg pc z k h hs hi hg hl ih=>
  intro i hij
  by_cases e:i=j
  ·subst e;exact⟨S,S1,L,pg,pc,z,k,h,hs,hi,hg,hl⟩
  ·exact ih (by omega)
theorem pq.same (hok:∀c∈cls,jx c) {r:Nat→Nat} {P:Nat→Prop} (h0:dY r P S0 S0') {en en':Int} {log log':List Int} {v v' g g':List (List UInt8)} {w w':List Bool} (h:pq cls script S0 en log v g w) (k:pq cls script S0' en' log' v' g' w'):en'=en∧log'=log∧v'=v∧g'=g∧w'=w:=by
 obtain⟨j,S,L,hr,he⟩:=h
 obtain⟨j',S',L',kr,ke⟩:=k
 rcases Nat.lt_trichotomy j j' with q | q | q
 ·exfalso
  obtain⟨T,T',K,pg,pc,z,i,b1,b2,b3,b4,b5⟩:=kr.before q
  obtain⟨_,r1,P1,hR⟩:=hr.rel hok h0 b1
  rw[hR.fT]at b3
  rcases he with⟨e1,_⟩ | ⟨pg',pc',i',z',e1,e2,e3,_⟩
  ·rcases e1 with e1 | e1
   ·rw[e1]at b2
    rw[List.getElem?_eq_none (Nat.le_refl _)]at b2
    cases b2
   ·rw[e1]at b3;cases b3
  ·rw[b2]at e1
   cases e1
   rw[b3]at e2
   cases e2
   rcases e3 with⟨e3,_⟩ | ⟨_,S1,e3,e4⟩
   ·exact hR.Nw hok e3 b4
   ·obtain⟨_,r2,P2,hR2⟩:=hR.step hok e3 b4
    rw[hR2.big,e4]at b5
    cases b5
 ·subst q
  obtain⟨rfl,r1,P1,hR⟩:=hr.rel hok h0 kr
  obtain⟨t1,t2,t3⟩:=hR.told
  rw[hR.fT]at ke
  rcases he with⟨e1,rfl,rfl,rfl,rfl,rfl⟩ | ⟨pg,pc,i,z,e1,e2,e3,rfl,rfl,rfl,rfl⟩<;>rcases ke with⟨k1,rfl,rfl,rfl,rfl,rfl⟩ | ⟨pg',pc',i',z',k1,k2,k3,rfl,rfl,rfl,rfl⟩
  ·exact⟨hR.fin,rfl,t1,t2,t3⟩
  ·exfalso
   rcases e1 with e1 | e1
   ·rw[e1]at k1
    rw[List.getElem?_eq_none (Nat.le_refl _)]at k1
    cases k1
   ·rw[e1]at k2;cases k2
  ·exfalso
   rcases k1 with k1 | k1
   ·rw[k1]at e1
    rw[List.getElem?_eq_none (Nat.le_refl _)]at e1
    cases e1
   ·rw[k1]at e2;cases e2
  ·rw[e1]at k1
   cases k1
   rw[e2]at k2
   cases k2
   rcases e3 with⟨e3,rfl⟩ | ⟨rfl,S1,e3,e4⟩<;>rcases k3 with⟨k3,rfl⟩ | ⟨rfl,S1',k3,k4⟩
   ·exact⟨hR.fl e3 k3,rfl,rfl,rfl,rfl⟩
   ·exact(hR.Nw hok e3 k3).elim
   ·exact(hR.Nv hok e3 k3).elim
   ·obtain⟨rfl,_⟩:=hR.step hok e3 k3
    exact⟨rfl,rfl,rfl,rfl,rfl⟩
 ·exfalso
  obtain⟨T,T',K,pg,pc,z,i,b1,b2,b3,b4,b5⟩:=hr.before q
  obtain⟨_,r1,P1,hR⟩:=b1.rel hok h0 kr
  rw[hR.fT]at ke
  rcases ke with⟨e1,_⟩ | ⟨pg',pc',i',z',e1,e2,e3,_⟩
  ·rcases e1 with e1 | e1
   ·rw[e1]at b2
    rw[List.getElem?_eq_none (Nat.le_refl _)]at b2
    cases b2
   ·rw[e1]at b3;cases b3
  ·rw[b2]at e1
   cases e1
   rw[b3]at e2
   cases e2
   rcases e3 with⟨e3,_⟩ | ⟨_,S1,e3,e4⟩
   ·exact hR.Nv hok b4 e3
   ·obtain⟨_,r2,P2,hR2⟩:=hR.step hok b4 e3
    rw[hR2.big,b5]at e4
    cases e4
end
end Za
namespace Go.Proofs.YthfjnfcekeknlaaGreatDoor
open Go.RowKit
open Za (U Vr aG)
theorem Jv {T:Nat→U} {u:U} {c:aG} {V F:List Nat} (hV:Za.uo T u c V) (hF:∀f∈F,T f= .v ([],f)) {y:List UInt8} (hy:y∈Za.NG c) (hl:(Za.NG c).idxOf y<(V++F).length):cH T (V++F) (Za.NG c) y=Za.ct u c (fun k=>(F[k]?).getD 0) y:=by
 have hvl:V.length=(Za.NH c).length:=hV.1
 unfold cH Za.ct
 by_cases hn:y∈Za.NH c
 ·rw[if_pos hn]
  obtain⟨K,hK⟩:=Za.Js c
  have ei:(Za.NG c).idxOf y=(Za.NH c).idxOf y:=by rw[hK,List.idxOf_append,if_pos hn]
  have hi:(Za.NH c).idxOf y<(Za.NH c).length:=List.idxOf_lt_length_of_mem hn
  have h1:(Za.namesF 8 [] c.head)[(Za.NH c).idxOf y]?=some y:=by
   show (Za.NH c)[(Za.NH c).idxOf y]?=some y
   rw[List.getElem?_eq_getElem hi,List.getElem_idxOf]
  have h2:V[(Za.NH c).idxOf y]?=some (V[(Za.NH c).idxOf y]'(by omega)):=List.getElem?_eq_getElem (by omega)
  obtain⟨q,q1,q2⟩:=hV.2 _ y _ h1 h2
  rw[ei,List.getElem?_append_left (by omega),h2,q1]
  exact q2
 ·rw[if_neg hn]
  have:=(Za.Gd hy hn).1
  rw[List.getElem?_append_right (by omega),hvl]
  rw[List.length_append]at hl
  have hk:(Za.NG c).idxOf y - (Za.NH c).length<F.length:=by omega
  dsimp only
  rw[List.getElem?_eq_getElem hk]
  exact hF _ (List.getElem_mem hk)
theorem CS {u:U} {b:Nat} {c:aG} {V F:List Nat} {T:Nat→U} {says:Nat} {ws:List Nat} (h:qi u b c V F T says ws) (hu:Za.bj (Za.PQ (·<b)) u) (hok:Za.jx c):(Za.bD b u c).1=says∧∀v,v∈ws↔v∈(Za.bD b u c).2:=by
 rcases h with⟨h1,rfl,rfl⟩ | ⟨h1,hV,hl,hF,hp,rfl,rfl⟩
 ·unfold Za.bD
  rw[if_pos h1]
  exact⟨rfl,fun v=>Iff.rfl⟩
 ·unfold Za.bD
  rw[if_neg (by rw[h1];simp)]
  have hvl:V.length=(Za.NH c).length:=hV.1
  have hNT:∀y∈Za.NT c,(Za.NG c).idxOf y<(V++F).length:=fun y hy=>by
   have Wc:∃K,Za.NG c=Za.NT c++K:=by
    have hO:∀(t:Option Za.Tm) (ns:List (List UInt8)),∃M,Za.cg ns t=ns++M:=fun t ns=>by
     cases t with
     | none=>exact⟨[],by simp[Za.cg]⟩
     | some r=>exact Za.namesV_ext 8 r ns
    have hI:∀(x:Za.aC) (ns:List (List UInt8)),∃M,Za.aK ns x=ns++M:=fun x ns=>by
     obtain⟨M1,h1⟩:=Za.namesV_ext 8 x.left ns
     obtain⟨M2,h2⟩:=hO x.right (Za.namesF 8 ns x.left)
     obtain⟨M3,h3⟩:=hO x.last (Za.cg (Za.namesF 8 ns x.left) x.right)
     exact⟨M1++(M2++M3),by unfold Za.aK;rw[h3,h2,h1];simp⟩
    have hL:∀(xs:List Za.aC) (ns:List (List UInt8)),∃M,Za.ay ns xs=ns++M:=fun xs=>by
     induction xs with
     | nil=>exact fun ns=>⟨[],by simp[Za.ay]⟩
     | cons x xs ih=>
      intro ns
      obtain⟨M1,h1⟩:=hI x ns
      obtain⟨M2,h2⟩:=ih (Za.aK ns x)
      exact⟨M1++M2,by show Za.ay (Za.aK ns x) xs=_;rw[h2,h1];simp⟩
    exact hL c.goals (Za.NT c)
   obtain⟨K,hK⟩:=Wc
   rw[hK,List.idxOf_append,if_pos hy,hl]
   exact List.idxOf_lt_length_of_mem hy
  have he:Za.iB (cH T (V++F) (Za.NG c)) c.tests=Za.iB (Za.ct u c fun k=>(F[k]?).getD 0) c.tests:=Za.zq c.tests (Za.NH c) hok.ts fun y hy=>Jv hV (fun f hf=>(hF f hf).2) (Za.Nt c y hy) (hNT y hy)
  let r:Nat→Nat:=fun k=>if k<b then k else(F[k - b]?).getD 0
  let P:Nat→Prop:=fun k=>k<b∨(b≤k∧k - b<F.length)
  have r1:∀k,k<b→r k=k:=fun k hk=>if_pos hk
  have r2:∀k,b≤k→∀hk:k - b<F.length,r k=F[k - b]:=fun k hk hk'=>by
   show (if k<b then k else(F[k - b]?).getD 0)=_
   rw[if_neg (by omega),List.getElem?_eq_getElem hk']
   rfl
  have hi:Za.gN r P:=fun i j hPi hPj q=>by
   rcases hPi with a | ⟨a1,a2⟩<;>rcases hPj with d | ⟨d1,d2⟩
   ·rw[r1 i a,r1 j d]at q;exact q
   ·rw[r1 i a,r2 j d1 d2]at q;have:=(hF _ (List.getElem_mem d2)).1;omega
   ·rw[r2 i a1 a2,r1 j d]at q;have:=(hF _ (List.getElem_mem a2)).1;omega
   ·rw[r2 i a1 a2,r2 j d1 d2]at q
    rcases Nat.lt_trichotomy (i - b) (j - b)with s | s | s
    ·have:=List.pairwise_iff_getElem.1 hp _ _ a2 d2 s;omega
    ·omega
    ·have:=List.pairwise_iff_getElem.1 hp _ _ d2 a2 s;omega
  have MN:∀y∈Za.NT c,y∉Za.NH c→(Za.NG c).idxOf y - (Za.NH c).length<F.length:=fun y hy hn=>by
   have h2:=(Za.Gd (Za.Nt c y hy) hn).1
   have h3:=hNT y hy
   rw[List.length_append]at h3
   omega
  have hY:∀y∈Za.NT c,Za.bj (Za.PQ P) (Za.ct u c (b+·) y):=fun y hy=>Za.yB (fun k hk=>Or.inl hk) hu fun hn=>Or.inr ⟨Nat.le_add_right _ _,by have:=MN y hy hn;omega⟩
  have hid:Za.ba (fun k=>k) u=u:=by
   have:=Za.ly (r:=fun k=>k) (r':=fun k=>k) (P:=(·<b)) (fun _ _=>rfl) hu
   unfold Za.ba
   rw[Za.sub_congr (τ:= .v) u (fun x hx=> ?_),Za.sub_self]
   have hx1:=((Za.ez u).1 hu x hx).1
   show U.v ([],x.2)= .v x
   congr 1
   exact Prod.ext hx1.symm rfl
  have hE:∀y∈Za.NT c,Za.ct u c (fun k=>(F[k]?).getD 0) y=Za.ba r (Za.ct u c (b+·) y):=fun y hy=>by
   have:=Za.wh (r:=fun k=>k) (r':=r) (P:=(·<b)) (fun i j _ _ q=>q) (fun k hk=>r1 k hk) hu (c:=c) (o1:=(b+·)) (o2:=fun k=>(F[k]?).getD 0) (y:=y) (fun hn=>by
    have:=MN y hy hn
    rw[r2 _ (Nat.le_add_right _ _) (by omega),List.getElem?_eq_getElem this]
    simp)
   rw[hid]at this
   exact this
  rw[he,Za.zq (θ:=fun y=>Za.ba r (Za.ct u c (b+·) y)) c.tests (Za.NH c) hok.ts hE,Za.Ej hi c.tests (Za.NH c) hok.ts hY]
  have hwt:=Za.ye (η:=Za.ct u c (b+·)) c.tests (Za.NH c) hok.ts hY
  refine⟨(Za.Wn.q8 _ _).symm,fun v=> ?_⟩
  unfold Za.jK
  rw[List.mem_filter,List.mem_filter,List.drop_left]
  show (v∈(Za.iB (Za.ct u c (b+·)) c.tests).wt.map r∧_)↔_
  rw[List.mem_map]
  constructor
  ·rintro⟨⟨w,hw,rfl⟩,h2⟩
   rcases hwt.at w hw with q | ⟨q1,q2⟩
   ·rw[r1 w q];exact⟨hw,decide_eq_true q⟩
   ·exfalso
    rw[r2 w q1 q2]at h2
    simp at h2
  ·rintro⟨h1,h2⟩
   have hv:=of_decide_eq_true h2
   refine⟨⟨v,h1,r1 v hv⟩,?_⟩
   simp only[Bool.not_eq_true',decide_eq_false_iff_not]
   intro q
   have:=(hF v q).1
   omega
def b6 (T:Nat→U) (x:Int):U:=if x= -1 then Za.zU else T x.toNat
def ej (fr:Nat→Nat) (T:Nat→U) (g:Gl):Za.MG:=⟨T g.l,g.sg.toList,b6 T g.r,g.op.toList,b6 T g.z,!fT fr g,fun v=>fT fr g=false∧v∈g.nd⟩
def jg (V:List Nat) (S:bX):Za.MS:=⟨V.map S.T,S.G.map (ej S.fr S.T),S.D.length⟩
structure xN (V:List Nat) (S:bX):Prop where
 wf:Nf S
 nd:∀g∈S.G,∀v∈g.nd,Za.gl (aV S.D) v=none
 vl:∀v∈V,v<S.D.length
theorem uy (fr:Nat→Nat) (g:Gl):fT fr g=false↔g.wt=true∧∀v∈g.nd,fr v=v:=by
 unfold fT
 simp
theorem fU (T:Nat→U) (n:Nat):b6 T (n:Int)=T n:=by
 unfold b6
 rw[if_neg (by omega)]
 rfl
theorem lX.rc {T:Nat→U} {len:Nat} {g:Gl} (h:lX T len g):g.r= -1∨∃n:Nat,g.r=(n:Int)∧n<len:=by
 by_cases q:g.sg.toList=[]
 ·exact Or.inl (h.r0 q)
 ·exact Or.inr (h.rr q)
theorem lX.zc {T:Nat→U} {len:Nat} {g:Gl} (h:lX T len g):g.z= -1∨∃n:Nat,g.z=(n:Int)∧n<len:=by
 by_cases q:g.op.toList=[]
 ·exact Or.inl (h.z0 q)
 ·exact Or.inr (h.zz q)
theorem mO {T T':Nat→U} {len:Nat} {f:U→U} (hf:f Za.zU=Za.zU) (h:∀m,m<len→T' m=f (T m)) {x:Int} (hx:x= -1∨∃n:Nat,x=(n:Int)∧n<len):b6 T' x=f (b6 T x):=by
 rcases hx with q | ⟨n,q,hn⟩
 ·unfold b6;rw[if_pos q,if_pos q,hf]
 ·rw[q,fU,fU,h n hn]
theorem Ey {fr:Nat→Nat} {T T':Nat→U} {len:Nat} (h:∀m,m<len→T' m=T m) {g:Gl} (hg:lX T len g):ej fr T' g=ej fr T g:=by
 unfold ej
 rw[h g.l hg.ll,mO (f:=id) rfl h hg.rc,mO (f:=id) rfl h hg.zc]
 rfl
section
variable {G:List Za.Gn} {fr fr':Nat→Nat} {T T':Nat→U} {a b:U} {σ:Vr→U}
theorem CT (hm:Za.Made G fr fr' T T' a b σ) (hs:Za.dw G fr T) {g:Gl} (hnd:∀v∈g.nd,Za.gl G v=none):fT fr' g=false↔fT fr g=false∧∀v∈g.nd,σ ([],v)= .v ([],v):=by
 rw[uy,uy]
 constructor
 ·rintro⟨h1,h2⟩
  have key:∀v∈g.nd,fr v=v∧σ ([],v)= .v ([],v):=fun v hv=>by
   have e1:=h2 v hv
   have g0:=hnd v hv
   have t1:T' v= .v ([],v):=by
    have:=hm.sto.var (n:=v) (by rw[e1];exact g0)
    rwa [e1]at this
   have hu:fr v=v:=by
    by_cases q:Za.gl G (fr v)=none
    ·have v1:=hs.rQ v q
     have v2:fr' (fr v)=v:=(hm.left.mono _ _ (hs.fronts.idem v)).trans e1
     have v3:=hm.sto.rQ (fr v) (by rw[v2];exact g0)
     omega
    ·exfalso
     have ht:=hs.tr v
     have e2:=hm.is v
     rw[t1]at e2
     generalize T v=x at ht e2
     cases ht with
     | var h _=>exact q h
     | node _ _ _=>rw[Za.dI]at e2;cases e2
   exact⟨hu,(hm.jm v hu g0).trans t1⟩
  exact⟨⟨h1,fun v hv=>(key v hv).1⟩,fun v hv=>(key v hv).2⟩
 ·rintro⟨⟨h1,h2⟩,h3⟩
  refine⟨h1,fun v hv=> ?_⟩
  have e1:T' v= .v ([],v):=(hm.jm v (h2 v hv) (hnd v hv)).symm.trans (h3 v hv)
  have ht:=hm.sto.tr v
  generalize T' v=x at ht e1
  cases ht with
  | var h _=>
   injection e1 with e1
   injection e1
  | node _ _ _=>cases e1
theorem Ez {T0:Nat→U} {len:Nat} (hm:Za.Made G fr fr' T T' a b σ) (hs:Za.dw G fr T) (h0:∀m,m<len→T m=T0 m) {g:Gl} (hg:lX T0 len g) (hnd:∀v∈g.nd,Za.gl G v=none):ej fr' T' g=Za.MG.put σ (ej fr T0 g):=by
 have hT:∀m,m<len→T' m=Za.sub σ (T0 m):=fun m q=>by rw[hm.is,h0 m q]
 have hz:Za.sub σ Za.zU=Za.zU:=by unfold Za.zU;rw[Za.dI];rfl
 have hst:(ej fr T0 g).stays σ↔fT fr' g=false:=by
  rw[CT hm hs hnd]
  unfold Za.MG.stays ej
  dsimp only
  constructor
  ·rintro⟨h1,h2⟩
   have h1':fT fr g=false:=by simpa using h1
   exact⟨h1',fun v hv=>h2 v ⟨h1',hv⟩⟩
  ·rintro⟨h1,h2⟩
   exact⟨by rw[h1];rfl,fun v hv=>h2 v hv.2⟩
 unfold Za.MG.put
 have e1:(ej fr T0 g).a=T0 g.l:=rfl
 have e2:(ej fr T0 g).b=b6 T0 g.r:=rfl
 have e3:(ej fr T0 g).c=b6 T0 g.z:=rfl
 rw[e1,e2,e3,←hT g.l hg.ll,←mO hz hT hg.rc,←mO hz hT hg.zc]
 unfold ej at hst⊢
 dsimp only at hst⊢
 congr 1
 ·cases hq:fT fr' g with
  | false=>exact(@decide_eq_true _ (_) (hst.2 hq)).symm
  | true=>exact(@decide_eq_false _ (_) (fun e=>by rw[hst.1 e]at hq;cases hq)).symm
 ·funext v
  apply propext
  constructor
  ·rintro⟨q1,q2⟩
   exact⟨hst.2 q1,((CT hm hs hnd).1 q1).1,q2⟩
  ·rintro⟨q1,q2⟩
   exact⟨hst.1 q1,q2.2⟩
end
def isVar (S:bX) (k:Nat):Prop:=k<S.D.length∧S.fr k=k∧Za.gl (aV S.D) k=none
theorem Nf.tJ {S:bX} (h:Nf S) {n:Nat} (hn:n<S.D.length):Za.bj (Za.PQ (isVar S)) (S.T n):=(Za.ez _).2 fun x hx=>by
 have h1:=(Za.ez _).1 (h.ok.kx h.sto n hn) x hx
 have h2:=(h.sto.tr n).vars x hx
 exact⟨h1.1,h1.2.1,h1.2.2,h2.2.1⟩
theorem CU {T:Nat→U} {op:List UInt8} {r z:Int} {rn zn:Nat} (hr:r=(rn:Int)) (hz:op≠[]→z=(zn:Int)):Za.eN op (b6 T r) (b6 T z)=Za.eN op (T rn) (T zn)∧eI op (b6 T r) (b6 T z)=eI op (T rn) (T zn):=by
 rw[hr,fU]
 by_cases q:op=[]
 ·subst q
  unfold Za.eN eI
  simp
 ·rw[hz q,fU]
  exact⟨rfl,rfl⟩
end Go.Proofs.YthfjnfcekeknlaaGreatDoor
namespace Go.Proofs.YthfjnfcekeknlaaGreatDoor
open Go.RowKit
open Za (U Vr aG)
theorem qI {D E:List Ng} {v:Nat} (h:v<D.length):Za.gl (aV (D++E)) v=Za.gl (aV D) v:=by
 rw[lH (show v<(D++E).length by rw[List.length_append];omega),lH h,List.getElem_append_left h]
theorem Mb {η θ:List UInt8→U} {x:Za.aC} (h:Za.td x) (ns:List (List UInt8)) (hy:∀y∈Za.aK ns x,η y=θ y):Za.MG.of η x=Za.MG.of θ x:=by
 have hp:∀t,(t=x.left∨x.right=some t∨x.last=some t)→Za.bA η 8 t=Za.bA θ 8 t:=fun t ht=>by
  obtain⟨h1,ns',h2⟩:=h.parts ns t ht
  exact Za.gQ 8 t ns' h1 fun y q=>hy y (h2 y q)
 unfold Za.MG.of
 rw[hp x.left (Or.inl rfl)]
 congr 1
 ·cases e:x.right with
  | none=>rfl
  | some t=>exact hp t (Or.inr (Or.inl e))
 ·cases e:x.last with
  | none=>rfl
  | some t=>exact hp t (Or.inr (Or.inr e))
theorem EA {fr:Nat→Nat} {T:Nat→U} {len:Nat} {η:List UInt8→U} {x:Za.aC} {g:Gl} (h:mq T len η x g) (hx:Za.td x):ej fr T g=Za.MG.of η x:=by
 have hr:fT fr g=true:=by unfold fT;rw[h.nw];rfl
 unfold ej Za.MG.of
 rw[h.tl,h.sg,h.op,hr]
 congr 1
 ·by_cases q:x.sign=[]
  ·rw[hx.r0 q,h.r0 q];rfl
  ·obtain⟨r,h1,_⟩:=hx.r1 q
   obtain⟨n,h2,_,h3⟩:=h.r1 r h1
   rw[h1,h2,fU,h3];rfl
 ·by_cases q:x.op=[]
  ·rw[hx.z0 q,h.z0 q];rfl
  ·obtain⟨r,h1,_⟩:=hx.z1 q
   obtain⟨n,h2,_,h3⟩:=h.z1 r h1
   rw[h1,h2,fU,h3];rfl
 ·funext v
  simp
theorem wj {α β γ:Type} {R:α→β→Prop} {f:β→γ} {g:α→γ}:∀{xs:List α} {ys:List β},bK R xs ys→(∀x∈xs,∀y,R x y→f y=g x)→ys.map f=xs.map g
 | [],[],_,_=>rfl
 | x :: xs,y :: ys,h,hf=>by
  rw[List.map_cons,List.map_cons,hf x (by simp) y h.1,wj h.2 fun a ha b hb=>hf a (by simp[ha]) b hb]
theorem EB {T:Nat→U} {len:Nat} {η:List UInt8→U}:∀{xs:List Za.aC} {gs:List Gl},bK (mq T len η) xs gs→∀g∈gs,g.nd=[]
 | [],[],_,g,hg=>by cases hg
 | x :: xs,y :: ys,h,g,hg=>by
  rcases List.mem_cons.1 hg with q | q
  ·rw[q];exact h.1.nd
  ·exact EB h.2 g q
theorem Dz {T T':Nat→U} {u:U} {c:aG} {V:List Nat} (h:Za.uo T u c V) (he:∀m∈V,T' m=T m):Za.uo T' u c V:=⟨h.1,fun i x m h1 h2=>by
 obtain⟨q,q1,q2⟩:=h.2 i x m h1 h2
 exact⟨q,q1,(he m (List.mem_of_getElem? h2)).trans q2⟩⟩
theorem Sn {Q:Vr→Prop} {op:List UInt8} {u v:U} (hu:Za.bj Q u) (hv:op≠[]→Za.bj Q v):(Za.eN op u v).eK Q:=by
 unfold Za.eN
 split
 ·exact(Za.dt Q).bI hu
 ·rename_i q;exact((Za.dt Q).bI hu).bI (hv q)
theorem tM {cls:List aG} {own:List Nat} {bg:Nat} {u:U} {b:Nat} {rs:List (Nat×List Nat)} (h:nu cls own bg u b rs) (hu:Za.bj (Za.PQ (·<b)) u) (hok:∀c∈cls,Za.jx c) {t:Nat} (ht:t<rs.length) {c:aG} (hc:cls[fV own bg t]?=some c):(Za.bD b u c).1=rs[t].1∧rs[t].1≠1∧∀v,v∈rs[t].2↔v∈(Za.bD b u c).2:=by
 obtain⟨h1,c',V,F,T',h2,h3⟩:=h t rs[t] (List.getElem?_eq_getElem ht)
 rw[hc]at h2
 cases h2
 obtain⟨k1,k2⟩:=CS h3 hu (hok c (List.mem_of_getElem? hc))
 exact⟨k1,h1,k2⟩
theorem wk {rs:List (Nat×List Nat)} {v:Nat}:v∈Za.cf rs↔∃t,∃h:t<rs.length,rs[t].1=3∧v∈rs[t].2:=by
 unfold Za.cf
 rw[List.mem_flatMap]
 constructor
 ·rintro⟨r,h1,h2⟩
  obtain⟨t,ht,rfl⟩:=List.getElem_of_mem h1
  split at h2
  ·rename_i q;exact⟨t,ht,q,h2⟩
  ·cases h2
 ·rintro⟨t,ht,q,hv⟩
  exact⟨rs[t],List.getElem_mem ht,by rw[if_pos q];exact hv⟩
theorem yC {cls:List aG} {tx:List UInt8} {m bg t:Nat} (h:t<(Za.bL cls tx m cls.length).length):∃c,cls[fV (Za.bL cls tx m cls.length) bg t]?=some c:=by
 unfold fV
 have hk:(bg+t) % (Za.bL cls tx m cls.length).length<(Za.bL cls tx m cls.length).length:=Nat.mod_lt _ (by omega)
 rw[List.getElem?_eq_getElem hk]
 have:=List.getElem_mem hk
 unfold Za.bL at this
 rw[List.mem_filter,List.mem_range]at this
 exact⟨_,List.getElem?_eq_getElem this.1⟩
theorem CV {cls:List aG} {V:List Nat} {S S':bX} {i:Nat} {p z:Int} (hok:∀c∈cls,Za.jx c) (h:xN V S) (hg:Cl cls S S' i p z):Za.jG cls (jg V S) (jg V S') i p z∧xN V S':=by
 obtain⟨⟨g,fQ,hc⟩,yD⟩:=hg
 have jN:g∈S.G:=List.mem_of_getElem? fQ
 have gw:=h.wf.gw g jN
 have hai:(jg V S).gs[i]?=some (ej S.fr S.T g):=by show (S.G.map _)[i]?=_;rw[List.getElem?_map,fQ];rfl
 have lN:Za.bj (Za.PQ (·<S.D.length)) (S.T g.l):=(h.wf.tJ gw.ll).mono fun x hx=>⟨hx.1,hx.2.1⟩
 rcases hc with⟨hs,rfl,rn,σ,hr,hrl,hsm,o9,hG⟩ | ⟨hs,rfl,rn,zn,wo,wc,hr,hrl,hz,hw,eD,eF,eT,hG⟩ | ⟨hs,rfl,rn,zn,x,T2,σ,hr,hrl,hz,hw,hv,st2,old2,tn2,hsm,o9,hG⟩ | ⟨hs,rfl,ht,eD,eF,eT,hG⟩ | ⟨hs,tx,us,htx,hnt,rs,c,VV,F,T2,ws,E,F',Gn,r1,r2,r3,r4,rfl,eD,eF,r6,r7,r8,r9,r10,r11,r12,r13,hG⟩ | ⟨hs,rfl,tx,us,htx,hnt,rs,E,oo,oc,r1,r2,r3,eD,eF,r6,r7,hG⟩
 ·have hl:=hsm.len
  refine⟨⟨Nat.le_of_eq hl.symm,_,hai,Or.inl ⟨hs,rfl,σ,?_,?_,?_⟩⟩,yD,fun x hx v hv=> ?_,fun v hv=>by rw[hl];exact h.vl v hv⟩
  ·show Za.eO (S.T g.l) (b6 S.T g.r) σ
   rw[hr,fU]
   exact o9.Ph
  ·show V.map S'.T=(V.map S.T).map _
   rw[List.map_map]
   exact List.map_congr_left fun v _=>o9.is v
  ·show S'.G.map _=((S.G.map _).eraseIdx i).map _
   rw[hG,Za.iJ,List.map_map]
   exact List.map_congr_left fun x hx=>Ez o9 h.wf.sto (fun _ _=>rfl) (h.wf.gw x (mem_erase hx)) (h.nd x (mem_erase hx))
  ·rw[hsm.g]
   rw[hG]at hx
   exact h.nd x (mem_erase hx) v hv
 ·have hin:=Sn (Q:=Za.PQ (isVar S)) (op:=g.op.toList) (h.wf.tJ hrl) (fun q=>h.wf.tJ (hz q).2)
  obtain⟨ew,_⟩:=CU (T:=S.T) (op:=g.op.toList) hr (fun q=>(hz q).1)
  have hwt:∀v∈(Za.eN g.op.toList (S.T rn) (S.T zn)).wt,isVar S v:=hin.at
  refine⟨⟨by show S.D.length≤S'.D.length;rw[eD];exact Nat.le_refl _,_,hai,Or.inr (Or.inl ⟨hs,rfl,?_,?_,?_⟩)⟩,yD,fun x hx v hv=> ?_,fun v hv=>by rw[eD];exact h.vl v hv⟩
  ·show (Za.eN g.op.toList (b6 S.T g.r) (b6 S.T g.z)).wt≠[]
   rw[ew];exact hw
  ·show V.map S'.T=V.map S.T
   rw[eT]
  ·show S'.G.map _=(S.G.map _).set i _
   rw[hG,List.map_set,eF,eT]
   congr 1
   unfold ej
   dsimp only
   have xp:=(uy S.fr {g with wt:=true,no:=wo,nc:=wc,nd:=(Za.eN g.op.toList (S.T rn) (S.T zn)).wt}).2 ⟨rfl,fun v hv=>(hwt v hv).2.1⟩
   rw[xp,ew]
   congr 1
   funext v
   simp
  ·rw[eD]
   rw[hG]at hx
   rcases List.mem_or_eq_of_mem_set hx with q | q
   ·exact h.nd x q v hv
   ·rw[q]at hv
    exact(hwt v hv).2.2
 ·have hl:=hsm.len
  rw[List.length_append]at hl
  have hl2:S'.D.length=S.D.length+1:=hl
  obtain⟨ew,ev⟩:=CU (T:=S.T) (op:=g.op.toList) hr (fun q=>(hz q).1)
  refine⟨⟨by show S.D.length≤S'.D.length;omega,_,hai,Or.inr (Or.inr (Or.inl ⟨hs,rfl,?_,x,σ,?_,?_,?_,?_⟩))⟩,yD,fun y hy v hv=> ?_,fun v hv=>by have:=h.vl v hv;omega⟩
  ·show (Za.eN g.op.toList (b6 S.T g.r) (b6 S.T g.z)).wt=[]
   rw[ew];exact hw
  ·show eI g.op.toList (b6 S.T g.r) (b6 S.T g.z)=some x
   rw[ev];exact hv
  ·show Za.eO (S.T g.l) (.n 3 [] x []) σ
   have:=o9.Ph
   rw[old2 g.l gw.ll,tn2]at this
   exact this
  ·show V.map S'.T=(V.map S.T).map _
   rw[List.map_map]
   refine List.map_congr_left fun v hv=> ?_
   rw[o9.is v,old2 v (h.vl v hv)]
   rfl
  ·show S'.G.map _=((S.G.map _).eraseIdx i).map _
   rw[hG,Za.iJ,List.map_map]
   exact List.map_congr_left fun y hy=>Ez o9 st2 old2 (h.wf.gw y (mem_erase hy)) fun v hv=>by
    rw[qI (h.wf.nl y (mem_erase hy) v hv)]
    exact h.nd y (mem_erase hy) v hv
  ·rw[hsm.g]
   rw[hG]at hy
   rw[qI (h.wf.nl y (mem_erase hy) v hv)]
   exact h.nd y (mem_erase hy) v hv
 ·refine⟨⟨by show S.D.length≤S'.D.length;rw[eD];exact Nat.le_refl _,_,hai,Or.inr (Or.inr (Or.inr (Or.inl ⟨hs,rfl,ht,?_,?_⟩)))⟩,yD,fun x hx v hv=> ?_,fun v hv=>by rw[eD];exact h.vl v hv⟩
  ·show V.map S'.T=V.map S.T
   rw[eT]
  ·show S'.G.map _=(S.G.map _).eraseIdx i
   rw[hG,Za.iJ,eF,eT]
  ·rw[eD]
   rw[hG]at hx
   exact h.nd x (mem_erase hx) v hv
 ·have hlen:S'.D.length=S.D.length+E.length:=by rw[eD,List.length_append]
  rw[htx]at r2 r4 lN
  have hcm:c∈cls:=List.mem_of_getElem? r3
  have hkc:=hok c hcm
  have hHV:Za.uo T2 (.n 1 tx 0 us) c VV:=by
   rcases r4 with⟨q1,q2,_⟩ | ⟨_,q,_⟩
   ·exact absurd q2.symm q1
   ·exact q
  have hHV':Za.uo S'.T (.n 1 tx 0 us) c VV:=Dz hHV fun m hm=>r7 m (List.mem_append_left _ hm)
  have hvl:VV.length=(Za.NH c).length:=hHV.1
  have hlF:(F++F').length+(Za.NH c).length=(Za.NG c).length:=by
   rw[←r9,←hvl]
   simp only[List.length_append]
   omega
  refine⟨⟨by show S.D.length≤S'.D.length;omega,_,hai,Or.inr (Or.inr (Or.inr (Or.inr (Or.inl ⟨_,_,⟨hs,tx,us,htx,hnt,rfl,rfl⟩,rs.length,c,F++F',r1,fun t' c' ht' hc'=> ?_,r3,?_,rfl,hlF,r11,fun f hf=>⟨(r10 f hf).1,r12 f ?_⟩,?_,?_⟩))))⟩,yD,fun x hx v hv=> ?_,fun v hv=>by have:=h.vl v hv;omega⟩
  ·show (Za.bD S.D.length (S.T g.l) c').1≠1
   rw[htx]
   obtain⟨q1,q2,_⟩:=tM r2 lN hok ht' hc'
   rw[q1];exact q2
  ·show (Za.bD S.D.length (S.T g.l) c).1=1
   rw[htx]
   exact(CS r4 lN hkc).1
  ·rw[List.append_assoc]
   exact List.mem_append_right _ hf
  ·show V.map S'.T=V.map S.T
   exact List.map_congr_left fun v hv=>r6 v (h.vl v hv)
  ·show S'.G.map _=(S.G.map _).eraseIdx i++_
   rw[hG,List.map_append,Za.iJ]
   congr 1
   ·rw[eF]
    exact List.map_congr_left fun x hx=>Ey r6 (h.wf.gw x (mem_erase hx))
   ·refine wj r13 fun x hx y hy=> ?_
    rw[EA hy (hkc.gs x hx)]
    obtain⟨ns,hn⟩:=Za.fk c.goals (Za.NT c) x hx
    refine Mb (hkc.gs x hx) ns fun w hw=> ?_
    have hwn:w∈Za.NG c:=hn w hw
    show cH S'.T (VV++F++F') (Za.NG c) w=Za.ct (S.T g.l) c _ w
    rw[htx,List.append_assoc]
    refine Jv hHV' (fun f hf=>(r10 f hf).2) hwn ?_
    have:=List.idxOf_lt_length_of_mem hwn
    rw[←r9,List.append_assoc]at this
    exact this
  ·rw[hG]at hx
   rcases List.mem_append.1 hx with q | q
   ·rw[eD,qI (h.wf.nl x (mem_erase q) v hv)]
    exact h.nd x (mem_erase q) v hv
   ·rw[EB r13 x q]at hv
    cases hv
 ·have hlen:S'.D.length=S.D.length+E.length:=by rw[eD,List.length_append]
  have hvs:Za.bj (Za.PQ (isVar S)) (S.T g.l):=h.wf.tJ gw.ll
  rw[htx]at r2 lN hvs
  have qj:∀{t:Nat} (ht:t<rs.length) {c:aG},cls[fV (Za.bL cls tx us.length cls.length) (dh p (Za.bL cls tx us.length cls.length).length) t]?=some c→((Za.bD S.D.length (.n 1 tx 0 us) c).1=rs[t].1∧rs[t].1≠1∧∀v,v∈rs[t].2↔v∈(Za.bD S.D.length (.n 1 tx 0 us) c).2)∧∀v∈rs[t].2,isVar S v:=fun {t} ht {c} hc=>by
   have q:=tM r2 lN hok ht hc
   refine⟨q,fun v hv=> ?_⟩
   exact(Za.CP (r:=fun k=>k) (P:=isVar S) (l1:=S.D.length) (l2:=S.D.length) (fun i j _ _ e=>e) (fun k hk=>hk.1) (fun k hk=>hk.1) hvs (hok c (List.mem_of_getElem? hc)).ts).2.2 v ((q.2.2 v).1 hv)
  have hnd:∀v∈Za.cf rs,isVar S v:=fun v hv=>by
   obtain⟨t,ht,_,h2⟩:=wk.1 hv
   obtain⟨c,hc⟩:=yC (cls:=cls) (tx:=tx) (m:=us.length) (bg:=dh p (Za.bL cls tx us.length cls.length).length) (t:=t) (by omega)
   exact(qj ht hc).2 v h2
  refine⟨⟨by show S.D.length≤S'.D.length;omega,_,hai,Or.inr (Or.inr (Or.inr (Or.inr (Or.inr ⟨_,_,⟨hs,tx,us,htx,hnt,rfl,rfl⟩,rfl,fun t c ht hc=> ?_,?_,?_,?_⟩))))⟩,yD,fun x hx v hv=> ?_,fun v hv=>by have:=h.vl v hv;omega⟩
  ·show (Za.bD S.D.length (S.T g.l) c).1≠1
   rw[htx]
   obtain⟨⟨q1,q2,_⟩,_⟩:=qj (by omega) hc
   rw[q1];exact q2
  ·have r3':=r3
   unfold Za.lW at r3'
   rw[List.any_eq_true]at r3'
   obtain⟨r,q1,q2⟩:=r3'
   obtain⟨t,ht,rfl⟩:=List.getElem_of_mem q1
   obtain⟨c,hc⟩:=yC (cls:=cls) (tx:=tx) (m:=us.length) (bg:=dh p (Za.bL cls tx us.length cls.length).length) (t:=t) (by omega)
   refine⟨t,c,by omega,hc,?_⟩
   show (Za.bD S.D.length (S.T g.l) c).1=3
   rw[htx,(qj ht hc).1.1]
   simpa using q2
  ·show V.map S'.T=V.map S.T
   exact List.map_congr_left fun v hv=>r6 v (h.vl v hv)
  ·show S'.G.map _=(S.G.map _).set i _
   rw[hG,List.map_set,eF]
   have e1:S.G.map (ej S.fr S'.T)=S.G.map (ej S.fr S.T):=List.map_congr_left fun x hx=>Ey r6 (h.wf.gw x hx)
   rw[e1]
   congr 1
   have xp:=(uy S.fr {g with wt:=true,no:=oo,nc:=oc,nd:=Za.cf rs}).2 ⟨rfl,fun v hv=>(hnd v hv).2.1⟩
   unfold ej
   dsimp only
   rw[xp,r6 g.l gw.ll,mO (f:=id) rfl r6 gw.rc,mO (f:=id) rfl r6 gw.zc]
   dsimp only[id]
   congr 1
   funext v
   apply propext
   constructor
   ·rintro⟨_,q⟩
    obtain⟨t,ht,q1,q2⟩:=wk.1 q
    obtain⟨c,hc⟩:=yC (cls:=cls) (tx:=tx) (m:=us.length) (bg:=dh p (Za.bL cls tx us.length cls.length).length) (t:=t) (by omega)
    have k:=(qj ht hc).1
    refine⟨t,c,by omega,hc,?_,?_⟩
    ·show (Za.bD S.D.length (S.T g.l) c).1=3
     rw[htx,k.1];exact q1
    ·show v∈(Za.bD S.D.length (S.T g.l) c).2
     rw[htx];exact(k.2.2 v).1 q2
   ·rintro⟨t,c,ht,hc,q1,q2⟩
    have ht':t<rs.length:=by omega
    have k:=(qj ht' hc).1
    have q1':(Za.bD S.D.length (S.T g.l) c).1=3:=q1
    have q2':v∈(Za.bD S.D.length (S.T g.l) c).2:=q2
    rw[htx]at q1' q2'
    rw[k.1]at q1'
    exact⟨rfl,wk.2 ⟨t,ht',q1',(k.2.2 v).2 q2'⟩⟩
  ·rw[hG]at hx
   rcases List.mem_or_eq_of_mem_set hx with q | q
   ·rw[eD,qI (h.wf.nl x q v hv)]
    exact h.nd x q v hv
   ·rw[q]at hv
    have:=hnd v hv
    rw[eD,qI this.1]
    exact this.2.2
end Go.Proofs.YthfjnfcekeknlaaGreatDoor
namespace Za
open Go.Proofs.YthfjnfcekeknlaaGreatDoor (dh)
def vn (k:Nat):U:= .v ([],k)
def iF (d:Nat):U:= .n 3 [] (d:Int) []
def nlU:U:= .n 1 [110] 0 []
def iK (h t:U):U:= .n 1 [99] 0 [h,t]
def lsU:List Nat→U
 | []=>nlU
 | d :: l=>iK (iF d) (lsU l)
def Sp (u:U):Prop:=∀x,¬has x u
theorem Sp.sub {u:U} (h:Sp u) (σ:Vr→U):sub σ u=u:=by
 rw[sub_congr (τ:= .v) u (fun x hx=>absurd hx (h x)),sub_self]
theorem CW {x:Vr} {d:Nat} {t:U}:has x (iK (iF d) t)↔has x t:=by
 unfold iK iF
 simp[has,vk]
theorem gnd_ls:∀l,Sp (lsU l)
 | []=>fun x h=>by unfold lsU nlU at h;simp[has,vk]at h
 | d :: l=>fun x h=>gnd_ls l x (CW.1 h)
theorem Sq (σ:Vr→U) (d:Nat) (t:U):sub σ (iK (iF d) t)=iK (iF d) (sub σ t):=by
 unfold iK iF
 simp[sub,Aq]
theorem yE (d:Nat) (t:U):size (iK (iF d) t)=size t+2:=by
 unfold iK iF
 simp[size,sizeL]
 omega
theorem size_ls:∀l,size (lsU l)=2*l.length+1
 | []=>by unfold lsU nlU;simp[size,sizeL]
 | d :: l=>by rw[lsU,yE,size_ls l,List.length_cons];omega
theorem tN (σ:Vr→U) (k:Nat):sub σ (vn k)=σ ([],k):=rfl
theorem xO (x:Vr) (b:U):one x b x=b:=by unfold one;rw[if_pos rfl]
theorem CX {x y:Vr} (b:U) (h:y≠x):one x b y= .v y:=by unfold one;rw[if_neg h]
theorem Tj {i j:Nat} (h:i≠j):(([],i):Vr)≠([],j):=fun q=>h (congrArg Prod.snd q)
theorem Mc {k:Nat} {t:U} (hn:¬has ([],k) t) (ht:∀y,t≠ .v y):eO (vn k) t (one ([],k) t):=by
 refine⟨?_,fun θ h x=> ?_,fun x y h=> ?_⟩
 ·rw[tN,xO];exact(Gt hn).symm
 ·by_cases q:x=([],k)
  ·rw[q,xO];exact h.symm
  ·rw[CX _ q];rfl
 ·by_cases q:x=([],k)
  ·rw[q,xO]at h;exact absurd h (ht y)
  ·rw[CX _ q]at h
   injection h with h
   rw[h];exact⟨rfl,Nat.le_refl _⟩
def MG.rd (a:U) (sg:List UInt8) (b:U) (op:List UInt8) (c:U):MG:=⟨a,sg,b,op,c,false,fun _=>False⟩
theorem Sr (σ:Vr→U) (a:U) (sg:List UInt8) (b:U) (op:List UInt8) (c:U):(MG.rd a sg b op c).put σ=MG.rd (sub σ a) sg (sub σ b) op (sub σ c):=by
 have h:¬(MG.rd a sg b op c).stays σ:=fun q=>by cases q.1
 unfold MG.put
 have e1:@decide ((MG.rd a sg b op c).stays σ) (Classical.propDecidable _)=false:=@decide_eq_false _ (_) h
 have e2:(fun v=>(MG.rd a sg b op c).stays σ∧(MG.rd a sg b op c).on v)=fun _=>False:=funext fun v=>propext ⟨fun q=>h q.1,fun q=>q.elim⟩
 rw[e1,e2]
 rfl
theorem Jw (σ:Vr→U):sub σ zU=zU:=rfl
theorem tq (p:Int) {n:Nat} (h:0<n):dh p n<n:=by
 unfold dh
 rw[if_neg (by omega)]
 have h1:=Int.emod_nonneg p (b:=(n:Int)) (by omega)
 have h2:=Int.emod_lt_of_pos p (b:=(n:Int)) (by omega)
 omega
theorem py {u:U} (h:size u≤40):big u=false:=by unfold big;exact decide_eq_false (by omega)
theorem size_z:size zU=1:=by unfold zU;simp[size,sizeL]
theorem xP {α β:Type} (f:α→β):∀(l:List α) (p:Nat),(l.map f).eraseIdx p=(l.eraseIdx p).map f
 | [],p=>by simp
 | a :: l,0=>rfl
 | a :: l,p+1=>by
  rw[List.map_cons,List.eraseIdx_cons_succ,List.eraseIdx_cons_succ,List.map_cons,xP f l p]
theorem qm {α:Type} {l:List α} {p:Nat} {x:α} (h:l.Nodup) (hp:l[p]?=some x):(l.eraseIdx p).Nodup∧∀y,y∈l.eraseIdx p↔y∈l∧y≠x:=by
 obtain⟨hl,rfl⟩:=List.getElem?_eq_some_iff.1 hp
 refine⟨h.sublist (List.eraseIdx_sublist _ _),fun y=>⟨fun q=>⟨List.mem_of_mem_eraseIdx q,?_⟩,fun⟨q1,q2⟩=> ?_⟩⟩
 ·rintro rfl
  obtain⟨j,hj,hne,e⟩:=List.mem_eraseIdx_iff_getElem.1 q
  exact hne ((List.getElem_inj h).1 e)
 ·obtain⟨j,hj,rfl⟩:=List.mem_iff_getElem.1 q1
  exact List.mem_eraseIdx_iff_getElem.2 ⟨j,hj,fun e=>q2 (by subst e;rfl),rfl⟩
end Za
