import Derived.Test.YthfjnfcekeknlabGreatDoorGu26
import Derived.Test.YthfjnfcekeknlabGreatDoorGu34
import Derived.Test.YthfjnfcekeknlabGreatDoorGu35
set_option maxHeartbeats 8000000
set_option maxRecDepth 100000
namespace Zf
open Go
def tV (c:UInt8):Tm:=⟨3,⟨#[c]⟩,[]⟩
def tD (n:Nat):Tm:=⟨4,⟨(dY n).toArray⟩,[]⟩
def tNil:Tm:=⟨2,⟨#[110]⟩,[]⟩
def tC (a b:Tm):Tm:=⟨2,⟨#[99]⟩,[a,b]⟩
def tF (x:List UInt8) (a b c:Tm):Tm:=⟨2,⟨x.toArray⟩,[a,b,c]⟩
def tL:List Nat→Tm
 | []=>tNil
 | d :: l=>tC (tD d) (tL l)
theorem E4 {n k:Nat} (h:n<10 ^ (k+1)):(dY n).length≤k+1:=by
 induction k generalizing n with
 | zero=>rw[jo (by omega)];simp
 | succ k ih=>
  by_cases q:n<10
  ·rw[jo q];simp
  ·rw[rA q,List.length_append]
   have:=ih (n:=n / 10) (by rw[Nat.pow_succ]at h;omega)
   simp
   omega
theorem S9 (n:Nat):dY n≠[]:=by
 by_cases q:n<10
 ·rw[jo q];simp
 ·rw[rA q];simp
theorem ML (n:Nat):jQ 4 (dY n):=by
 have hw:∀d∈dY n,iF d.toNat=true:=Ll n
 cases h:dY n with
 | nil=>exact absurd h (S9 n)
 | cons c r=>
  rw[h]at hw
  exact⟨c,r,rfl,Or.inr (Or.inr ⟨rfl,hw c (by simp)⟩),fun d hd=>by have:=hw d hd;unfold dC;simp[this]⟩
theorem Dl {f n:Nat} (h:n<1000000):gA idS (f+1) (tD n):=by
 refine Or.inr (Or.inl ⟨rfl,?_,?_⟩)
 ·show jQ 4 (⟨(dY n).toArray⟩:ByteArray).toList
  rw[eU];exact ML n
 ·show (dY n).toArray.size≤6
  have:=E4 (n:=n) (k:=5) (by omega)
  simpa using this
theorem uh (f n:Nat):bE idS (f+1) (tD n)=dY n:=by
 show (⟨(dY n).toArray⟩:ByteArray).toList=_
 rw[eU]
theorem Dm (η:List UInt8→U) (f n:Nat):bJ η (f+1) (tD n)=bA n:=by
 show U.n 3 [] (numOf (⟨(dY n).toArray⟩:ByteArray):Int) []=_
 unfold numOf
 rw[eU]
 unfold dY
 rw[Lj]
 rfl
theorem kG {f:Nat} {c:UInt8} (h:jc c.toNat=true):gA idS (f+1) (tV c):=by
 refine Or.inl ⟨rfl,?_⟩
 show jQ 3 (⟨#[c]⟩:ByteArray).toList
 rw[show (⟨#[c]⟩:ByteArray)=⟨[c].toArray⟩from rfl,eU]
 exact⟨c,[],rfl,Or.inr (Or.inl ⟨rfl,h⟩),fun d hd=>by rw[List.mem_singleton.1 hd];unfold dC;simp[h]⟩
theorem wK (f:Nat) (c:UInt8):bE idS (f+1) (tV c)=[c]:=by
 show (⟨[c].toArray⟩:ByteArray).toList=_
 rw[eU]
theorem wL (η:List UInt8→U) (f:Nat) (c:UInt8):bJ η (f+1) (tV c)=η [c]:=by
 show η (⟨[c].toArray⟩:ByteArray).toList=_
 rw[eU]
theorem MM {f:Nat} {x:List UInt8} {as':List Tm} (hx:jQ 2 x) (h3:as'.length≤3) (h:∀a∈as',gA idS f a):gA idS (f+1) ⟨2,⟨x.toArray⟩,as'⟩:=by
 refine Or.inr (Or.inr ⟨rfl,?_,h3,h⟩)
 show jQ 2 (⟨x.toArray⟩:ByteArray).toList
 rw[eU];exact hx
theorem Ta (f:Nat) (x:List UInt8) (as':List Tm):bE idS (f+1) ⟨2,⟨x.toArray⟩,as'⟩=x++arS (as'.map (bE idS f)):=by
 show (⟨x.toArray⟩:ByteArray).toList++_=_
 rw[eU]
theorem MN (η:List UInt8→U) (f:Nat) (x:List UInt8) (as':List Tm):bJ η (f+1) ⟨2,⟨x.toArray⟩,as'⟩= .n 1 x 0 (as'.map (bJ η f)):=by
 show U.n 1 (⟨x.toArray⟩:ByteArray).toList 0 _=_
 rw[eU]
theorem W8 (f:Nat) (x:List UInt8) (as':List Tm):gM idS (f+1) ⟨2,⟨x.toArray⟩,as'⟩=⟨2,⟨x.toArray⟩,as'.map (gM idS f)⟩:=rfl
theorem wM {x:List UInt8} (h:x≠[]) (hl:∀c∈x,low c.toNat=true):jQ 2 x:=by
 cases x with
 | nil=>exact absurd rfl h
 | cons c r=>exact⟨c,r,rfl,Or.inl ⟨rfl,hl c (by simp)⟩,fun d hd=>by have:=hl d hd;unfold dC;simp[this]⟩
theorem ok_L:∀(l:List Nat) (f:Nat),(∀d∈l,d<10)→l.length<f→gA idS f (tL l)
 | [],f+1,_,_=>MM (x:=[110]) (wM (by simp) (by decide)) (by simp) (fun a ha=>by cases ha)
 | d :: l,f+1,h,hl=>by
  have hl':l.length<f:=by simpa using hl
  refine MM (x:=[99]) (wM (by simp) (by decide)) (by simp) (fun a ha=> ?_)
  simp only[List.mem_cons,List.not_mem_nil,or_false]at ha
  obtain⟨g,rfl⟩:∃g,f=g+1:=⟨f - 1,by omega⟩
  rcases ha with rfl | rfl
  ·exact Dl (by have:=h d (by simp);omega)
  ·exact ok_L l (g+1) (fun e he=>h e (by simp[he])) hl'
theorem Tb (η:List UInt8→U):∀(l:List Nat) (f:Nat),l.length<f→bJ η f (tL l)=lsU l
 | [],f+1,_=>MN η f [110] []
 | d :: l,f+1,hl=>by
  have hl':l.length<f:=by simpa using hl
  obtain⟨g,rfl⟩:∃g,f=g+1:=⟨f - 1,by omega⟩
  refine(MN η (g+1) [99] [tD d,tL l]).trans ?_
  rw[List.map_cons,List.map_cons,List.map_nil,Dm,Tb η l (g+1) hl']
  rfl
end Zf
namespace Zf
open Go.Proofs.YthfjnfcekeknlabGreatDoor (dB gu)
theorem Aj {f:Nat→Nat}:∀n:Nat,(∃t,t<n∧f t=1)→∃t,t<n∧f t=1∧∀t',t'<t→f t'≠1
 | 0,⟨t,h,_⟩=>absurd h (Nat.not_lt_zero _)
 | n+1,⟨t,h,e⟩=>by
  by_cases q:∃t,t<n∧f t=1
  ·obtain⟨t,h1,h2,h3⟩:=Aj n q
   exact⟨t,by omega,h2,h3⟩
  ·refine⟨t,h,e,fun t' ht' e'=>q ⟨t',by omega,e'⟩⟩
theorem qh {n bg t:Nat} (hn:0<n):gu (List.range n) bg t=(bg+t) % n:=by
 unfold gu
 rw[List.length_range,List.getElem?_range (Nat.mod_lt _ hn)]
 rfl
theorem PI {n bg k:Nat} (hb:bg<n) (hk:k<n):∃t,t<n∧(bg+t) % n=k:=by
 by_cases q:bg≤k
 ·exact⟨k - bg,by omega,by rw[show bg+(k - bg)=k by omega,Nat.mod_eq_of_lt hk]⟩
 ·refine⟨k+n - bg,by omega,?_⟩
  rw[show bg+(k+n - bg)=k+n by omega,Nat.add_mod_right,Nat.mod_eq_of_lt hk]
theorem MO {cls:List aI} {tx:List UInt8} {us:List U} (hown:bM cls tx us.length cls.length=List.range cls.length) {S:MS} {i:Nat} {g:MG} (hg:S.gs[i]?=some g) (aV:g.sg=[]) (ha:g.a= .n 1 tx 0 us) (hnt:tx≠[116,114,117,101]) (p:Int) (hy:∃(k:Nat) (c:aI),cls[k]?=some c∧(bI S.lim g.a c).1=1):
 ∃(k:Nat) (c:aI),cls[k]?=some c∧(bI S.lim g.a c).1=1∧∀(F:List Nat) (S':MS),F.length+(NH c).length=(NG c).length→F.Pairwise (·<·)→(∀f∈F,S.lim≤f∧f<S'.lim)→S.lim≤S'.lim→S'.vs=S.vs→S'.gs=S.gs.eraseIdx i++c.goals.map (MG.of (di g.a c fun k=>(F[k]?).getD 0))→nr cls S S' i p ((k+1:Nat):Int):=by
 obtain⟨k0,c0,hc0,gh⟩:=hy
 have hkl:k0<cls.length:=(List.getElem?_eq_some_iff.1 hc0).1
 have hn:0<cls.length:=by omega
 let f:Nat→Nat:=fun t=>match cls[(dB p cls.length+t) % cls.length]? with
  | some c=>(bI S.lim g.a c).1
  | none=>0
 obtain⟨t0,h1,h2⟩:=PI (Go.Proofs.YthfjnfcekeknlabGreatDoor.tQ p cls.length hn) hkl
 obtain⟨t,h3,h4,h5⟩:=Aj (f:=f) cls.length ⟨t0,h1,by show (match cls[(dB p cls.length+t0) % cls.length]? with | some c=>(bI S.lim g.a c).1 | none=>0)=1;rw[h2,hc0];exact gh⟩
 have N7:(dB p cls.length+t) % cls.length<cls.length:=Nat.mod_lt _ hn
 have hcl:=List.getElem?_eq_getElem N7
 have h4':(bI S.lim g.a cls[(dB p cls.length+t) % cls.length]).1=1:=by
  have h4':(match cls[(dB p cls.length+t) % cls.length]? with | some c=>(bI S.lim g.a c).1 | none=>0)=1:=h4
  rw[hcl]at h4'
  exact h4'
 refine⟨(dB p cls.length+t) % cls.length,_,hcl,h4',fun F S' q1 q2 q3 q4 q5 q6=>⟨q4,g,hg,Or.inr (Or.inr (Or.inr (Or.inr (Or.inl ⟨cls.length,_,⟨aV,tx,us,ha,fun q=>hnt q.1,by rw[hown,List.length_range],rfl⟩,t,_,F,h3,fun t' c' ht' hc'=> ?_,?_,h4',?_,q1,q2,q3,q5,q6⟩))))⟩⟩
 ·rw[hown,qh hn]at hc'
  have:=h5 t' ht'
  have e:f t'=(bI S.lim g.a c').1:=by
   show (match cls[(dB p cls.length+t') % cls.length]? with | some c=>(bI S.lim g.a c).1 | none=>0)=_
   rw[hc']
  rw[←e];exact this
 ·rw[hown,qh hn];exact hcl
 ·rw[hown,qh hn]
theorem names_tL:∀(l:List Nat) (f:Nat) (ns:List (List UInt8)),namesF f ns (tL l)=ns
 | _,0,ns=>by unfold namesF;rfl
 | [],f+1,ns=>by unfold namesF;rfl
 | d :: l,f+1,ns=>by
  unfold namesF
  show namesF f (namesF f ns (tD d)) (tL l)=ns
  have:namesF f ns (tD d)=ns:=by
   cases f with
   | zero=>unfold namesF;rfl
   | succ f=>unfold namesF;rfl
  rw[this]
  exact names_tL l f ns
theorem Tc (f:Nat):gA idS (f+1) tNil:=ok_L [] (f+1) (fun d hd=>by cases hd) (by simp)
theorem MP {x:List UInt8} {f:Nat} {a b c:Tm} (hx:jQ 2 x) (ha:gA idS f a) (hb:gA idS f b) (hc:gA idS f c):gA idS (f+1) (tF x a b c):=MM hx (by simp) (fun t ht=>by
 simp only[List.mem_cons,List.not_mem_nil,or_false]at ht
 rcases ht with rfl | rfl | rfl
 ·exact ha
 ·exact hb
 ·exact hc)
theorem J4 (f:Nat):bE idS (f+1) tNil=[110]:=Ta f [110] []
theorem Td (f:Nat) (x:List UInt8) (a b c:Tm):bE idS (f+1) (tF x a b c)=x++([40]++(bE idS f a++([44]++(bE idS f b++([44]++(bE idS f c++[41])))))):=by
 refine(Ta f x [a,b,c]).trans ?_
 simp[arS]
theorem none_says:Wn.none.says=1:=rfl
theorem of_eq (η:List UInt8→U) (a b:Tm):MG.of η ⟨a,[61],some b,[],none⟩=MG.rd (bJ η 8 a) [61] (bJ η 8 b) [] zU:=rfl
theorem E5 (η:List UInt8→U) (a:Tm):MG.of η ⟨a,[],none,[],none⟩=MG.rd (bJ η 8 a) [] zU [] zU:=rfl
theorem Te (η:List UInt8→U) (f:Nat) (x:List UInt8) (a b c:Tm):bJ η (f+1) (tF x a b c)= .n 1 x 0 [bJ η f a,bJ η f b,bJ η f c]:=MN η f x [a,b,c]
def nMax:List UInt8:=[109,97,120]
def mx1:aI:=⟨tF nMax (tV 88) (tV 89) (tV 90),[⟨tV 88,[60],some (tV 89),[],none⟩],[⟨tV 90,[61],some (tV 89),[],none⟩]⟩
def mx2:aI:=⟨tF nMax (tV 88) (tV 89) (tV 90),[⟨tV 89,[61,60],some (tV 88),[],none⟩],[⟨tV 90,[61],some (tV 88),[],none⟩]⟩
def mxs:List aI:=[mx1,mx2]
theorem nMax_word:jQ 2 nMax:=wM (by decide) (by decide)
theorem mx_ok:∀c∈mxs,yg idS c:=by
 intro c hc
 simp only[mxs,List.mem_cons,List.not_mem_nil,or_false]at hc
 rcases hc with rfl | rfl
 ·refine⟨MP nMax_word (kG (by decide)) (kG (by decide)) (kG (by decide)),rfl,Or.inr ⟨_,rfl,.rel _ _ [60] (kG (by decide)) (kG (by decide)) (by simp)⟩,fun x hx=> ?_,by simp[mx1],fun q=>by cases q⟩
  obtain rfl:=List.mem_singleton.1 hx
  exact .eq _ _ (kG (by decide)) (kG (by decide))
 ·refine⟨MP nMax_word (kG (by decide)) (kG (by decide)) (kG (by decide)),rfl,Or.inr ⟨_,rfl,.rel _ _ [61,60] (kG (by decide)) (kG (by decide)) (by simp)⟩,fun x hx=> ?_,by simp[mx2],fun q=>by cases q⟩
  obtain rfl:=List.mem_singleton.1 hx
  exact .eq _ _ (kG (by decide)) (kG (by decide))
theorem mx_mp:mxs.map (Bi idS)=mxs:=rfl
theorem mx_pr:prS mxs=[109,97,120,40,88,44,89,44,90,41,58,45,88,60,89,124,90,61,89,46,32,109,97,120,40,88,44,89,44,90,41,58,45,89,61,60,88,124,90,61,88,46]:=by
 simp only[mxs,prS,rN,mx1,mx2,iG,jW,Td,wK,sp,nl,List.flatMap_nil]
 rfl
def cT (x y z:U):U:= .n 1 nMax 0 [x,y,z]
theorem mx_own:bM mxs nMax 3 2=List.range 2:=by
 simp[bM,mxs,mx1,mx2,yE,tF,nMax,List.range,List.range.loop]
theorem E6 (x y z:U):matU 8 mx1.head (cT x y z) ⟨[],Wn.none⟩=⟨[([88],x),([89],y),([90],z)],Wn.none⟩:=by
 simp[matU,dw,jt,bQ.meet,mx1,cT,tF,tV,nMax]
theorem E7 (x y z:U):matU 8 mx2.head (cT x y z) ⟨[],Wn.none⟩=⟨[([88],x),([89],y),([90],z)],Wn.none⟩:=by
 simp[matU,dw,jt,bQ.meet,mx2,cT,tF,tV,nMax]
theorem NHx1:NH mx1=[[88],[89],[90]]:=by simp[NH,mx1,tF,tV,namesF,dQ]
theorem NGx1:NG mx1=[[88],[89],[90]]:=by
 unfold NG NT
 rw[NHx1]
 simp[mx1,ay,aL,cL,tV,namesF,dQ]
theorem NHx2:NH mx2=[[88],[89],[90]]:=by simp[NH,mx2,tF,tV,namesF,dQ]
theorem NGx2:NG mx2=[[88],[89],[90]]:=by
 unfold NG NT
 rw[NHx2]
 simp[mx2,ay,aL,cL,tV,namesF,dQ]
theorem E8 (x y z:U) (o:Nat→Nat):di (cT x y z) mx1 o [88]=x∧di (cT x y z) mx1 o [89]=y∧di (cT x y z) mx1 o [90]=z:=by
 refine⟨?_,?_,?_⟩<;>unfold di<;>rw[NHx1,E6]<;>simp
theorem E9 (x y z:U) (o:Nat→Nat):di (cT x y z) mx2 o [88]=x∧di (cT x y z) mx2 o [89]=y∧di (cT x y z) mx2 o [90]=z:=by
 refine⟨?_,?_,?_⟩<;>unfold di<;>rw[NHx2,E7]<;>simp
theorem uO (lim:Nat) (x y z:U):bI lim (cT x y z) mx1=((Wn.none.also (bh false x y)).says,(Wn.none.also (bh false x y)).wt.filter fun n=>decide (n<lim)):=by
 obtain⟨e1,e2,_⟩:=E8 x y z (lim+·)
 have e:fP (di (cT x y z) mx1 (lim+·)) mx1.tests=Wn.none.also (bh false x y):=by
  show Wn.none.also (cr _ ⟨tV 88,[60],some (tV 89),[],none⟩)=_
  unfold cr
  simp only[wL,e1,e2]
  rfl
 unfold bI
 rw[E6,if_neg (by rw[none_says];simp),e]
theorem uP (lim:Nat) (x y z:U):bI lim (cT x y z) mx2=((Wn.none.also (bh true y x)).says,(Wn.none.also (bh true y x)).wt.filter fun n=>decide (n<lim)):=by
 obtain⟨e1,e2,_⟩:=E9 x y z (lim+·)
 have e:fP (di (cT x y z) mx2 (lim+·)) mx2.tests=Wn.none.also (bh true y x):=by
  show Wn.none.also (cr _ ⟨tV 89,[61,60],some (tV 88),[],none⟩)=_
  unfold cr
  simp only[wL,e1,e2]
  rfl
 unfold bI
 rw[E7,if_neg (by rw[none_says];simp),e]
theorem J5 (x y z:U) (o:Nat→Nat):mx1.goals.map (MG.of (di (cT x y z) mx1 o))=[MG.rd z [61] y [] zU]:=by
 obtain⟨_,e2,e3⟩:=E8 x y z o
 rw[show mx1.goals=[⟨tV 90,[61],some (tV 89),[],none⟩]from rfl]
 simp only[List.map_cons,List.map_nil,of_eq,wL,e2,e3]
theorem J6 (x y z:U) (o:Nat→Nat):mx2.goals.map (MG.of (di (cT x y z) mx2 o))=[MG.rd z [61] x [] zU]:=by
 obtain⟨e1,_,e3⟩:=E9 x y z o
 rw[show mx2.goals=[⟨tV 90,[61],some (tV 88),[],none⟩]from rfl]
 simp only[List.map_cons,List.map_nil,of_eq,wL,e1,e3]
theorem Fa (a b:Nat):(Wn.none.also (bh false (bA a) (bA b))).says=if a<b then 1 else 2:=by
 by_cases h:a<b
 ·rw[if_pos h]
  simp[bh,Wn.also,Wn.none,Wn.aU,bA,kx,isNum,Wn.says,h]
 ·rw[if_neg h]
  simp[bh,Wn.also,Wn.none,Wn.aU,bA,kx,isNum,Wn.says,h]
theorem Fb (a b:Nat):(Wn.none.also (bh true (bA b) (bA a))).says=if a<b then 2 else 1:=by
 by_cases h:a<b
 ·rw[if_pos h]
  simp[bh,Wn.also,Wn.none,Wn.aU,bA,kx,isNum,Wn.says]
  omega
 ·rw[if_neg h]
  simp[bh,Wn.also,Wn.none,Wn.aU,bA,kx,isNum,Wn.says]
  omega
theorem MQ (a k:Nat):Wn.none.also (bh false (bA a) (vn k))=⟨[k],false⟩:=by
 simp[bh,Wn.also,Wn.none,Wn.aU,bA,vn,Wn.wait,cZ]
theorem MR (a k:Nat):Wn.none.also (bh true (vn k) (bA a))=⟨[k],false⟩:=by
 simp[bh,Wn.also,Wn.none,Wn.aU,bA,vn,Wn.wait,cZ]
theorem J7 (a:Nat):(Wn.none.also (bh false (bA a) nlU)).says=2:=by
 simp[bh,Wn.also,Wn.none,Wn.aU,bA,nlU,kx,isNum,Wn.says]
theorem J9 (a:Nat):(Wn.none.also (bh true nlU (bA a))).says=2:=by
 simp[bh,Wn.also,Wn.none,Wn.aU,bA,nlU,kx,isNum,Wn.says]
def qT (x:List UInt8) (a b c:Tm):aD:=⟨tF x a b c,[],none,[],none⟩
theorem Tf (p:Int):dB p 1=0:=by
 have:=tQ p (n:=1) (by omega)
 omega
theorem uQ (a:U) (sg:List UInt8) (b:U) (op:List UInt8) (c:U) (p:Int):(jO [MG.rd a sg b op c])[dB p (jO [MG.rd a sg b op c]).length]?=some 0:=by
 rw[MK (fun g hg=>by rw[List.mem_singleton.1 hg];rfl)]
 show (List.range 1)[dB p 1]?=some 0
 rw[Tf]
 rfl
theorem Ka (N:List Vr) (n:Nat):bP Go.Lib.itoa N (bA n)=dY n:=by
 rw[bA,nD,if_pos rfl]
 unfold Go.Lib.itoa dY
 simp
theorem MT (N:List Vr) (n:Nat):aZ N (bA n)=N:=by rw[bA,gS];rfl
theorem Fe (n:Nat):size (bA n)=1:=by unfold bA;simp[size,sizeL]
theorem Ff (n:Nat):size (vn n)=1:=by unfold vn;rw[size]
theorem Ak {a b:Tm} {u v:U} (ha:∀η:List UInt8→U,bJ η 7 a=u) (hb:∀η:List UInt8→U,bJ η 7 b=v) (na:∀ns,namesF 7 ns a=ns) (nb:∀ns,namesF 7 ns b=ns):jk 1 (ay [] [qT nMax a b (tV 90)]) [qT nMax a b (tV 90)]=⟨[vn 1],[MG.rd (cT u v (vn 1)) [] zU [] zU],2⟩:=by
 have hn:ay [] [qT nMax a b (tV 90)]=[[90]]:=by
  show namesF 8 [] (tF nMax a b (tV 90))=_
  unfold namesF
  show namesF 7 (namesF 7 (namesF 7 [] a) b) (tV 90)=_
  rw[na,nb]
  unfold namesF
  show dQ [] (⟨[90].toArray⟩:ByteArray).toList=_
  rw[eU]
  rfl
 rw[hn]
 unfold jk
 rw[List.map_cons,List.map_nil,show qT nMax a b (tV 90)=⟨tF nMax a b (tV 90),[],none,[],none⟩from rfl,E5,Te,ha,hb,wL]
 rfl
theorem MU (a b:Nat) (script:List (Int×Int)) (hs:script.length=2):pI mxs script (jk 1 (ay [] [qT nMax (tD a) (tD b) (tV 90)]) [qT nMax (tD a) (tD b) (tV 90)]) 1 [if a<b then 1 else 2,0] [dY (if a<b then b else a)] [] []:=by
 have hD:∀n ns,namesF 7 ns (tD n)=ns:=fun n ns=>by unfold namesF;rfl
 rw[Ak (fun η=>Dm η 6 a) (fun η=>Dm η 6 b) (hD a) (hD b)]
 obtain⟨⟨pg,pc⟩,h0⟩:∃q:Int×Int,script[0]?=some q:=⟨_,List.getElem?_eq_getElem (by omega)⟩
 obtain⟨⟨qg,qc⟩,h1⟩:∃q:Int×Int,script[1]?=some q:=⟨_,List.getElem?_eq_getElem (by omega)⟩
 obtain⟨k,c,hk,hy,hst⟩:=MO (cls:=mxs) (tx:=nMax) (us:=[bA a,bA b,vn 1]) mx_own (S:=⟨[vn 1],[MG.rd (cT (bA a) (bA b) (vn 1)) [] zU [] zU],2⟩) (i:=0) (g:=MG.rd (cT (bA a) (bA b) (vn 1)) [] zU [] zU) rfl rfl rfl (by decide) pc (by
  by_cases h:a<b
  ·refine⟨0,mx1,rfl,?_⟩
   show (bI 2 (cT (bA a) (bA b) (vn 1)) mx1).1=1
   rw[uO]
   show (Wn.none.also (bh false (bA a) (bA b))).says=1
   rw[Fa,if_pos h]
  ·refine⟨1,mx2,rfl,?_⟩
   show (bI 2 (cT (bA a) (bA b) (vn 1)) mx2).1=1
   rw[uP]
   show (Wn.none.also (bh true (bA b) (bA a))).says=1
   rw[Fb,if_neg h])
 have key:nr mxs ⟨[vn 1],[MG.rd (cT (bA a) (bA b) (vn 1)) [] zU [] zU],2⟩ ⟨[vn 1],[MG.rd (vn 1) [61] (bA (if a<b then b else a)) [] zU],2⟩ 0 pc (if a<b then 1 else 2):=by
  match k,hk with
  | 0,hk=>
   injection hk with hk
   subst hk
   have hy':(bI 2 (cT (bA a) (bA b) (vn 1)) mx1).1=1:=hy
   rw[uO]at hy'
   have hy':(Wn.none.also (bh false (bA a) (bA b))).says=1:=hy'
   rw[Fa]at hy'
   have h:a<b:=Classical.byContradiction fun q=>by rw[if_neg q]at hy';omega
   rw[if_pos h,if_pos h]
   refine hst [] _ (by rw[NHx1,NGx1];rfl) List.Pairwise.nil (fun f hf=>by cases hf) (Nat.le_refl _) rfl ?_
   exact(J5 _ _ _ _).symm
  | 1,hk=>
   injection hk with hk
   subst hk
   have hy':(bI 2 (cT (bA a) (bA b) (vn 1)) mx2).1=1:=hy
   rw[uP]at hy'
   have hy':(Wn.none.also (bh true (bA b) (bA a))).says=1:=hy'
   rw[Fb]at hy'
   have h:¬a<b:=fun q=>by rw[if_pos q]at hy';omega
   rw[if_neg h,if_neg h]
   refine hst [] _ (by rw[NHx2,NGx2];rfl) List.Pairwise.nil (fun f hf=>by cases hf) (Nat.le_refl _) rfl ?_
   exact(J6 _ _ _ _).symm
 generalize (if a<b then b else a)=m at*
 have bv:∀n,big (vn n)=false:=fun n=>ug (by rw[Ff];omega)
 have bn:∀n,big (bA n)=false:=fun n=>ug (by rw[Fe];omega)
 have bz:big zU=false:=ug (by rw[size_z];omega)
 have r1:mC mxs script ⟨[vn 1],[MG.rd (cT (bA a) (bA b) (vn 1)) [] zU [] zU],2⟩ 1 ⟨[vn 1],[MG.rd (vn 1) [61] (bA m) [] zU],2⟩ ([]++[if a<b then 1 else 2]):= .step .start h0 (uQ _ _ _ _ _ pg) key (by
  unfold pH
  simp only[List.length_cons,List.length_nil,List.any_cons,List.any_nil,bv,pG,MG.rd,bn,bz]
  rfl)
 have r2:mC mxs script ⟨[vn 1],[MG.rd (cT (bA a) (bA b) (vn 1)) [] zU [] zU],2⟩ 2 ⟨[bA m],[],2⟩ ([]++[if a<b then 1 else 2]++[0]):= .step r1 h1 (uQ _ _ _ _ _ qg) ⟨Nat.le_refl _,MG.rd (vn 1) [61] (bA m) [] zU,rfl,Or.inl ⟨rfl,rfl,_,MJ (k:=1) (t:=bA m) (fun q=>by unfold bA at q;simp[has,ye]at q) (fun y q=>by cases q),by
  show [bA m]=[vn 1].map _
  rw[List.map_cons,List.map_nil,J2,ya],rfl⟩⟩ (by
  unfold pH
  simp only[List.length_nil,List.any_cons,List.any_nil,bn]
  rfl)
 refine⟨2,_,_,r2,Or.inl ⟨Or.inr rfl,rfl,rfl,?_,rfl,rfl⟩⟩
 show [dY m]=[bP Go.Lib.itoa (aZ [] (bA m)) (bA m)]
 rw[MT,Ka]
theorem MV (a:Nat) (script:List (Int×Int)) (hs:script.length=1):pI mxs script (jk 1 (ay [] [qT nMax (tD a) tNil (tV 90)]) [qT nMax (tD a) tNil (tV 90)]) 4 [-2] [] [] []:=by
 have hD:∀n ns,namesF 7 ns (tD n)=ns:=fun n ns=>by unfold namesF;rfl
 rw[show tNil=tL []from rfl,Ak (fun η=>Dm η 6 a) (fun η=>Tb η [] 7 (by simp)) (hD a) (fun ns=>names_tL [] 7 ns)]
 obtain⟨⟨pg,pc⟩,h0⟩:∃q:Int×Int,script[0]?=some q:=⟨_,List.getElem?_eq_getElem (by omega)⟩
 refine⟨0,_,[],.start,Or.inr ⟨pg,pc,0,-2,h0,uQ _ _ _ _ _ pg,Or.inl ⟨⟨_,rfl,Or.inr (Or.inr ⟨rfl,_,_,⟨rfl,nMax,[bA a,lsU [],vn 1],rfl,fun q=>by have:=q.1;revert this;decide,rfl,rfl⟩,fun t c ht hc=> ?_⟩)⟩,rfl⟩,rfl,rfl,rfl,rfl⟩⟩
 generalize gu (bM mxs nMax [bA a,lsU [],vn 1].length mxs.length) (dB pc (bM mxs nMax [bA a,lsU [],vn 1].length mxs.length).length) t=i at hc
 match i,hc with
 | 0,hc=>
  injection hc with hc
  subst hc
  show (bI 2 (cT (bA a) nlU (vn 1)) mx1).1=2
  rw[uO]
  exact J7 a
 | 1,hc=>
  injection hc with hc
  subst hc
  show (bI 2 (cT (bA a) nlU (vn 1)) mx2).1=2
  rw[uP]
  exact J9 a
theorem rK (n:Nat):Go.Lib.itoa (n:Int)=dY n:=by
 unfold Go.Lib.itoa dY
 simp
theorem val_vv:iW [vn 1,vn 2]=([[86,48],[86,49]],[([],1),([],2)]):=by
 rw[show iW [vn 1,vn 2]=([86 :: Go.Lib.itoa ((0:Nat):Int),86 :: Go.Lib.itoa ((1:Nat):Int)],[([],1),([],2)])from rfl,rK,rK,jo (show 0<10 by omega),jo (show 1<10 by omega)]
 rfl
theorem MW (a:Nat) (script:List (Int×Int)) (hs:script.length=1):pI mxs script (jk 1 (ay [] [qT nMax (tD a) (tV 89) (tV 90)]) [qT nMax (tD a) (tV 89) (tV 90)]) 2 [-1] [[86,48],[86,49]] [[109,97,120,40]++dY a++[44,86,48,44,86,49,41]] [true]:=by
 have hn:ay [] [qT nMax (tD a) (tV 89) (tV 90)]=[[89],[90]]:=by
  show namesF 8 [] (tF nMax (tD a) (tV 89) (tV 90))=_
  unfold namesF
  show namesF 7 (namesF 7 (namesF 7 [] (tD a)) (tV 89)) (tV 90)=_
  rw[show namesF 7 [] (tD a)=[]by unfold namesF;rfl]
  unfold namesF
  show dQ (dQ [] (⟨[89].toArray⟩:ByteArray).toList) (⟨[90].toArray⟩:ByteArray).toList=_
  rw[eU,eU]
  rfl
 have hst:jk 1 (ay [] [qT nMax (tD a) (tV 89) (tV 90)]) [qT nMax (tD a) (tV 89) (tV 90)]=⟨[vn 1,vn 2],[MG.rd (cT (bA a) (vn 1) (vn 2)) [] zU [] zU],3⟩:=by
  rw[hn]
  unfold jk
  rw[List.map_cons,List.map_nil,show qT nMax (tD a) (tV 89) (tV 90)=⟨tF nMax (tD a) (tV 89) (tV 90),[],none,[],none⟩from rfl,E5,Te,Dm,wL,wL]
  rfl
 rw[hst]
 obtain⟨⟨pg,pc⟩,h0⟩:∃q:Int×Int,script[0]?=some q:=⟨_,List.getElem?_eq_getElem (by omega)⟩
 have an:∀(i:Nat) (c:aI),mxs[i]?=some c→bI 3 (cT (bA a) (vn 1) (vn 2)) c=(3,[1]):=fun i c hc=>by
  match i,hc with
  | 0,hc=>
   injection hc with hc
   subst hc
   rw[uO,MQ]
   rfl
  | 1,hc=>
   injection hc with hc
   subst hc
   rw[uP,MR]
   rfl
 have hb:∀n,big (vn n)=false:=fun n=>ug (by rw[Ff];omega)
 have hnb:big (bA a)=false:=ug (by rw[Fe];omega)
 obtain⟨c0,hc0⟩:∃c,mxs[gu (bM mxs nMax [bA a,vn 1,vn 2].length mxs.length) (dB pc (bM mxs nMax [bA a,vn 1,vn 2].length mxs.length).length) 0]?=some c:=by
  rw[show bM mxs nMax [bA a,vn 1,vn 2].length mxs.length=List.range 2 from mx_own,qh (by omega)]
  exact⟨_,List.getElem?_eq_getElem (show _<mxs.length from Nat.mod_lt _ (show 0<2 by omega))⟩
 have r1:=mC.step (cls:=mxs) (script:=script) (S0:=⟨[vn 1,vn 2],[MG.rd (cT (bA a) (vn 1) (vn 2)) [] zU [] zU],3⟩) (S':=⟨[vn 1,vn 2],[⟨cT (bA a) (vn 1) (vn 2),[],zU,[],zU,true,fun v=>∃(t:Nat) (c:aI),t<(bM mxs nMax [bA a,vn 1,vn 2].length mxs.length).length∧mxs[gu (bM mxs nMax [bA a,vn 1,vn 2].length mxs.length) (dB pc (bM mxs nMax [bA a,vn 1,vn 2].length mxs.length).length) t]?=some c∧(bI 3 (cT (bA a) (vn 1) (vn 2)) c).1=3∧v∈(bI 3 (cT (bA a) (vn 1) (vn 2)) c).2⟩],3⟩) (z:= -1) .start h0 (uQ _ _ _ _ _ pg) ⟨Nat.le_refl _,_,rfl,Or.inr (Or.inr (Or.inr (Or.inr (Or.inr ⟨_,_,⟨rfl,nMax,[bA a,vn 1,vn 2],rfl,(fun q=>by have:=q.1;revert this;decide),rfl,rfl⟩,rfl,(fun t c ht hc q=>by
  have e:=an _ c hc
  have q':(bI 3 (cT (bA a) (vn 1) (vn 2)) c).1=1:=q
  rw[e]at q'
  cases q'),⟨0,c0,by rw[show bM mxs nMax [bA a,vn 1,vn 2].length mxs.length=List.range 2 from mx_own];decide,hc0,congrArg Prod.fst (an _ _ hc0)⟩,rfl,rfl⟩))))⟩ (by
  unfold pH
  simp only[List.length_cons,List.length_nil,List.any_cons,List.any_nil,hb,pG,cT,hnb]
  rfl)
 refine⟨1,_,_,r1,Or.inl ⟨Or.inl hs.symm,rfl,rfl,?_,?_,rfl⟩⟩
 ·show _=(iW [vn 1,vn 2]).1
  rw[val_vv]
 ·show _=[rI (iN (iW [vn 1,vn 2]).2 ⟨cT (bA a) (vn 1) (vn 2),[],zU,[],zU,true,_⟩) ⟨cT (bA a) (vn 1) (vn 2),[],zU,[],zU,true,_⟩]
  rw[val_vv]
  have e:iN [([],1),([],2)] ⟨cT (bA a) (vn 1) (vn 2),[],zU,[],zU,true,fun v=>∃(t:Nat) (c:aI),t<(bM mxs nMax [bA a,vn 1,vn 2].length mxs.length).length∧mxs[gu (bM mxs nMax [bA a,vn 1,vn 2].length mxs.length) (dB pc (bM mxs nMax [bA a,vn 1,vn 2].length mxs.length).length) t]?=some c∧(bI 3 (cT (bA a) (vn 1) (vn 2)) c).1=3∧v∈(bI 3 (cT (bA a) (vn 1) (vn 2)) c).2⟩=[([],1),([],2)]:=rfl
  rw[e]
  show _=[bP Go.Lib.itoa [([],1),([],2)] (cT (bA a) (vn 1) (vn 2))]
  unfold cT
  rw[nD,if_neg (by decide),List.map_cons,List.map_cons,List.map_cons,List.map_nil,Ka,show bP Go.Lib.itoa [([],1),([],2)] (vn 1)=86 :: Go.Lib.itoa ((0:Nat):Int)from rfl,show bP Go.Lib.itoa [([],1),([],2)] (vn 2)=86 :: Go.Lib.itoa ((1:Nat):Int)from rfl,rK,rK,jo (show 0<10 by omega),jo (show 1<10 by omega)]
  simp[argS,nMax]
end Zf
