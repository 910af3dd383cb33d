import Derived.Test.YthfjnfcekeknlaaGreatDoorSt34
import Derived.Test.YthfjnfcekeknlaaGreatDoorSt35
import Derived.Test.YthfjnfcekeknlaaGreatDoorSt39
set_option maxHeartbeats 8000000
set_option maxRecDepth 100000
namespace Za
open Go.Proofs.YthfjnfcekeknlaaGreatDoor (dh fV)
theorem zW {f:Nat→Nat}:∀n:Nat,(∃t,t<n∧f t=1)→∃t,t<n∧f t=1∧∀t',t'<t→f t'≠1
 | 0,⟨t,h,_⟩=>absurd h (Nat.not_lt_zero _)
 | n+1,⟨t,h,e⟩=>by
  by_cases q:∃t,t<n∧f t=1
  ·obtain⟨t,h1,h2,h3⟩:=zW n q
   exact⟨t,by omega,h2,h3⟩
  ·refine⟨t,h,e,fun t' ht' e'=>q ⟨t',by omega,e'⟩⟩
theorem p7 {n bg t:Nat} (hn:0<n):fV (List.range n) bg t=(bg+t) % n:=by
 unfold fV
 rw[List.length_range,List.getElem?_range (Nat.mod_lt _ hn)]
 rfl
theorem O6 {n bg k:Nat} (hb:bg<n) (hk:k<n):∃t,t<n∧(bg+t) % n=k:=by
 by_cases q:bg≤k
 ·exact⟨k - bg,by omega,by rw[show bg+(k - bg)=k by omega,Nat.mod_eq_of_lt hk]⟩
 ·refine⟨k+n - bg,by omega,?_⟩
  rw[show bg+(k+n - bg)=k+n by omega,Nat.add_mod_right,Nat.mod_eq_of_lt hk]
theorem C8 {cls:List aG} {tx:List UInt8} {us:List U} (hown:bL cls tx us.length cls.length=List.range cls.length) {S:MS} {i:Nat} {g:MG} (hg:S.gs[i]?=some g) (aU:g.sg=[]) (ha:g.a= .n 1 tx 0 us) (hnt:tx≠[116,114,117,101]) (p:Int) (hy:∃(k:Nat) (c:aG),cls[k]?=some c∧(bD S.lim g.a c).1=1):
 ∃(k:Nat) (c:aG),cls[k]?=some c∧(bD S.lim g.a c).1=1∧∀(F:List Nat) (S':MS),F.length+(NH c).length=(NG c).length→F.Pairwise (·<·)→(∀f∈F,S.lim≤f∧f<S'.lim)→S.lim≤S'.lim→S'.vs=S.vs→S'.gs=S.gs.eraseIdx i++c.goals.map (MG.of (ct g.a c fun k=>(F[k]?).getD 0))→jG cls S S' i p ((k+1:Nat):Int):=by
 obtain⟨k0,c0,hc0,fp⟩:=hy
 have hkl:k0<cls.length:=(List.getElem?_eq_some_iff.1 hc0).1
 have hn:0<cls.length:=by omega
 let f:Nat→Nat:=fun t=>match cls[(dh p cls.length+t) % cls.length]? with
  | some c=>(bD S.lim g.a c).1
  | none=>0
 obtain⟨t0,h1,h2⟩:=O6 (Go.Proofs.YthfjnfcekeknlaaGreatDoor.tq p cls.length hn) hkl
 obtain⟨t,h3,h4,h5⟩:=zW (f:=f) cls.length ⟨t0,h1,by show (match cls[(dh p cls.length+t0) % cls.length]? with | some c=>(bD S.lim g.a c).1 | none=>0)=1;rw[h2,hc0];exact fp⟩
 have Ns:(dh p cls.length+t) % cls.length<cls.length:=Nat.mod_lt _ hn
 have hcl:=List.getElem?_eq_getElem Ns
 have h4':(bD S.lim g.a cls[(dh p cls.length+t) % cls.length]).1=1:=by
  have h4':(match cls[(dh p cls.length+t) % cls.length]? with | some c=>(bD S.lim g.a c).1 | none=>0)=1:=h4
  rw[hcl]at h4'
  exact h4'
 refine⟨(dh p cls.length+t) % cls.length,_,hcl,h4',fun F S' q1 q2 q3 q4 q5 q6=>⟨q4,g,hg,Or.inr (Or.inr (Or.inr (Or.inr (Or.inl ⟨cls.length,_,⟨aU,tx,us,ha,fun q=>hnt q.1,by rw[hown,List.length_range],rfl⟩,t,_,F,h3,fun t' c' ht' hc'=> ?_,?_,h4',?_,q1,q2,q3,q5,q6⟩))))⟩⟩
 ·rw[hown,p7 hn]at hc'
  have:=h5 t' ht'
  have e:f t'=(bD S.lim g.a c').1:=by
   show (match cls[(dh p cls.length+t') % cls.length]? with | some c=>(bD S.lim g.a c).1 | none=>0)=_
   rw[hc']
  rw[←e];exact this
 ·rw[hown,p7 hn];exact hcl
 ·rw[hown,p7 hn]
theorem JB (N:List Vr):∀l,bM Go.Lib.itoa N (lsU l)=txL l
 | []=>by rw[lsU,nlU,lD];rfl
 | d :: l=>by
  rw[lsU,iK,lD,if_neg (by decide),List.map_cons,List.map_cons,List.map_nil,JB N l,iF,lD,if_pos rfl,txL]
  have:Go.Lib.itoa (d:Int)=fM d:=by
   unfold Go.Lib.itoa fM
   simp
  rw[this]
  simp[argS]
theorem C9 (N:List Vr):∀l,aS N (lsU l)=N
 | []=>by rw[lsU,nlU,fI];rfl
 | d :: l=>by
  rw[lsU,iK,fI]
  show aS (aS N (iF d)) (lsU l)=N
  rw[iF,fI]
  exact C9 N l
theorem names_tL:∀(l:List Nat) (f:Nat) (ns:List (List UInt8)),namesF f ns (tL l)=ns
 | _,0,ns=>by unfold namesF;rfl
 | [],f+1,ns=>by unfold namesF;rfl
 | d :: l,f+1,ns=>by
  unfold namesF
  show namesF f (namesF f ns (tD d)) (tL l)=ns
  have:namesF f ns (tD d)=ns:=by
   cases f with
   | zero=>unfold namesF;rfl
   | succ f=>unfold namesF;rfl
  rw[this]
  exact names_tL l f ns
def nApp:List UInt8:=[97,112,112]
def app1:aG:=⟨tF nApp tNil (tV 89) (tV 90),[],[⟨tV 90,[61],some (tV 89),[],none⟩]⟩
def app2:aG:=⟨tF nApp (tC (tV 72) (tV 88)) (tV 89) (tV 90),[],[⟨tV 90,[61],some (tC (tV 72) (tV 87)),[],none⟩,⟨tF nApp (tV 88) (tV 89) (tV 87),[],none,[],none⟩]⟩
theorem JC (f:Nat):gH idS (f+1) tNil:=ok_L [] (f+1) (fun d hd=>by cases hd) (by simp)
theorem Ml {f:Nat} {a b:Tm} (ha:gH idS f a) (hb:gH idS f b):gH idS (f+1) (tC a b):=Gi (x:=[99]) (rE (by simp) (by decide)) (by simp) (fun t ht=>by
 simp only[List.mem_cons,List.not_mem_nil,or_false]at ht
 rcases ht with rfl | rfl
 ·exact ha
 ·exact hb)
theorem Gm {x:List UInt8} {f:Nat} {a b c:Tm} (hx:kC 2 x) (ha:gH idS f a) (hb:gH idS f b) (hc:gH idS f c):gH idS (f+1) (tF x a b c):=Gi hx (by simp) (fun t ht=>by
 simp only[List.mem_cons,List.not_mem_nil,or_false]at ht
 rcases ht with rfl | rfl | rfl
 ·exact ha
 ·exact hb
 ·exact hc)
theorem ls_nv:∀(l:List Nat) (y:Vr),lsU l≠ .v y
 | [],y,q=>by cases q
 | d :: l,y,q=>by cases q
theorem nApp_word:kC 2 nApp:=rE (by decide) (by decide)
theorem app_ok:∀c∈[app1,app2],yF idS c:=by
 intro c hc
 simp only[List.mem_cons,List.not_mem_nil,or_false]at hc
 rcases hc with rfl | rfl
 ·refine⟨Gm nApp_word (JC 6) (iO (by decide)) (iO (by decide)),rfl,Or.inl rfl,fun x hx=> ?_,by simp[app1],fun q=>by cases q⟩
  obtain rfl:=List.mem_singleton.1 hx
  exact .eq _ _ (iO (by decide)) (iO (by decide))
 ·refine⟨Gm nApp_word (Ml (iO (by decide)) (iO (by decide))) (iO (by decide)) (iO (by decide)),rfl,Or.inl rfl,fun x hx=> ?_,by simp[app2],fun q=>by cases q⟩
  simp only[app2,List.mem_cons,List.not_mem_nil,or_false]at hx
  rcases hx with rfl | rfl
  ·exact .eq _ _ (iO (by decide)) (Ml (iO (by decide)) (iO (by decide)))
  ·exact .call _ (Gm nApp_word (iO (by decide)) (iO (by decide)) (iO (by decide))) rfl (by unfold isInt tF;simp)
theorem app_mp:[app1,app2].map (C5 idS)=[app1,app2]:=rfl
theorem JD (f:Nat):bB idS (f+1) tNil=[110]:=C6 f [110] []
theorem Nz (f:Nat) (a b:Tm):bB idS (f+1) (tC a b)=[99,40]++(bB idS f a++([44]++(bB idS f b++[41]))):=by
 refine(C6 f [99] [a,b]).trans ?_
 simp[arS]
theorem SF (f:Nat) (x:List UInt8) (a b c:Tm):bB idS (f+1) (tF x a b c)=x++([40]++(bB idS f a++([44]++(bB idS f b++([44]++(bB idS f c++[41])))))):=by
 refine(C6 f x [a,b,c]).trans ?_
 simp[arS]
theorem app_pr:prS [app1,app2]=[97,112,112,40,110,44,89,44,90,41,58,45,90,61,89,46,32,97,112,112,40,99,40,72,44,88,41,44,89,44,90,41,58,45,90,61,99,40,72,44,87,41,44,97,112,112,40,88,44,89,44,87,41,46]:=by
 simp only[prS,rP,app1,app2,jl,iY,SF,Nz,Gh,JD,sp,nl,List.flatMap_cons,List.flatMap_nil]
 rfl
def wu (a b:List Nat) (k:Nat):U:= .n 1 nApp 0 [lsU a,lsU b,vn k]
theorem app_own:bL [app1,app2] nApp 3 2=List.range 2:=by
 simp[bL,app1,app2,yh,tF,nApp,List.range,List.range.loop]
theorem wy (b:List Nat) (k:Nat):matU 8 app1.head (wu [] b k) ⟨[],Wn.none⟩=⟨[([89],lsU b),([90],vn k)],Wn.none⟩:=by
 simp[matU,cF,gJ,bF.meet,app1,wu,tF,tNil,tV,nApp,lsU,nlU]
theorem Mm (b:List Nat) (k:Nat):(matU 8 app2.head (wu [] b k) ⟨[],Wn.none⟩).w.says=2:=by
 simp[matU,cF,gJ,bF.meet,app2,wu,tF,tC,tV,nApp,lsU,nlU,Wn.bad,Wn.says]
theorem none_says:Wn.none.says=1:=rfl
theorem JE {lim:Nat} {u:U} {c:aG} (h:(matU 8 c.head u ⟨[],Wn.none⟩).w.says=2):(bD lim u c).1=2:=by
 unfold bD
 rw[if_pos (by omega)]
 exact h
theorem EF {lim:Nat} {u:U} {c:aG} {st:List (List UInt8×U)} (h:matU 8 c.head u ⟨[],Wn.none⟩=⟨st,Wn.none⟩) (ht:c.tests=[]):(bD lim u c).1=1:=by
 unfold bD
 rw[h,if_neg (by rw[none_says];simp),ht]
 rfl
theorem NH1:NH app1=[[89],[90]]:=by simp[NH,app1,tF,tNil,tV,namesF,cW]
theorem NG1:NG app1=[[89],[90]]:=by
 unfold NG NT
 rw[NH1]
 simp[app1,ay,aK,cg,tV,namesF,cW]
theorem NH2:NH app2=[[72],[88],[89],[90]]:=by simp[NH,app2,tF,tC,tV,namesF,cW]
theorem NG2:NG app2=[[72],[88],[89],[90],[87]]:=by
 unfold NG NT
 rw[NH2]
 simp[app2,ay,aK,cg,tF,tC,tV,namesF,cW]
theorem of_eq (η:List UInt8→U) (a b:Tm):MG.of η ⟨a,[61],some b,[],none⟩=MG.rd (bA η 8 a) [61] (bA η 8 b) [] zU:=rfl
theorem EG (η:List UInt8→U) (a:Tm):MG.of η ⟨a,[],none,[],none⟩=MG.rd (bA η 8 a) [] zU [] zU:=rfl
theorem NB (η:List UInt8→U) (f:Nat) (a b:Tm):bA η (f+1) (tC a b)=iK (bA η f a) (bA η f b):=Gj η f [99] [a,b]
theorem SG (η:List UInt8→U) (f:Nat) (x:List UInt8) (a b c:Tm):bA η (f+1) (tF x a b c)= .n 1 x 0 [bA η f a,bA η f b,bA η f c]:=Gj η f x [a,b,c]
theorem app1_g:app1.goals=[⟨tV 90,[61],some (tV 89),[],none⟩]:=rfl
theorem app2_g:app2.goals=[⟨tV 90,[61],some (tC (tV 72) (tV 87)),[],none⟩,⟨tF nApp (tV 88) (tV 89) (tV 87),[],none,[],none⟩]:=rfl
theorem SH (b:List Nat) (k:Nat) (o:Nat→Nat):app1.goals.map (MG.of (ct (wu [] b k) app1 o))=[MG.rd (vn k) [61] (lsU b) [] zU]:=by
 have e1:ct (wu [] b k) app1 o [90]=vn k:=by
  unfold ct
  rw[NH1,wy]
  simp
 have e2:ct (wu [] b k) app1 o [89]=lsU b:=by
  unfold ct
  rw[NH1,wy]
  simp
 rw[app1_g]
 simp only[List.map_cons,List.map_nil,of_eq,wm,e1,e2]
end Za
namespace Za
open Go
end Za
namespace Za
open Go.Proofs.YthfjnfcekeknlaaGreatDoor (dh fV eI arith)
theorem Mn {σ:Vr→U} {k:Nat} (hk:σ ([],k)= .v ([],k)) (a:U) (sg:List UInt8) (b:U) (op:List UInt8) (c:U) (wt:Bool):(⟨a,sg,b,op,c,wt,fun v=>wt=true∧v=k⟩:MG).put σ=⟨sub σ a,sg,sub σ b,op,sub σ c,wt,fun v=>wt=true∧v=k⟩:=by
 have hs:(⟨a,sg,b,op,c,wt,fun v=>wt=true∧v=k⟩:MG).stays σ↔wt=true:=⟨fun q=>q.1,fun q=>⟨q,fun v hv=>by
  have:v=k:=hv.2
  rw[this];exact hk⟩⟩
 unfold MG.put
 congr 1
 ·cases wt with
  | true=>exact @decide_eq_true _ (_) (hs.2 rfl)
  | false=>exact @decide_eq_false _ (_) (fun q=>by have:=hs.1 q;cases this)
 ·funext v
  exact propext ⟨fun q=>q.2,fun q=>⟨hs.2 q.1,q⟩⟩
theorem Mo {σ:Vr→U} {k:Nat} (hk:σ ([],k)≠ .v ([],k)) (a:U) (sg:List UInt8) (b:U) (op:List UInt8) (c:U) (wt:Bool):(⟨a,sg,b,op,c,wt,fun v=>wt=true∧v=k⟩:MG).put σ=⟨sub σ a,sg,sub σ b,op,sub σ c,false,fun v=>false=true∧v=k⟩:=by
 have hs:¬(⟨a,sg,b,op,c,wt,fun v=>wt=true∧v=k⟩:MG).stays σ:=fun q=>hk (q.2 k ⟨q.1,rfl⟩)
 unfold MG.put
 congr 1
 ·exact @decide_eq_false _ (_) hs
 ·funext v
  exact propext ⟨fun q=>absurd q.1 hs,fun q=>by have:=q.1;cases this⟩
theorem JF {gs:List MG} {p:Nat}:p∈jf gs↔∃g,gs[p]?=some g∧g.wt=false:=by
 unfold jf
 rw[List.mem_filter,List.mem_range]
 constructor
 ·rintro⟨h1,h2⟩
  rw[List.getElem?_eq_getElem h1]at h2
  exact⟨_,List.getElem?_eq_getElem h1,by simpa using h2⟩
 ·rintro⟨g,h1,h2⟩
  refine⟨(List.getElem?_eq_some_iff.1 h1).1,?_⟩
  rw[h1]
  simpa using h2
end Za
namespace Za
open Go.Proofs.YthfjnfcekeknlaaGreatDoor (dh fV)
def xv (n:Nat) (b:Bool) (i:Nat):Nat:=if i=0 then(if b=true then 2 else 1)else if b=true then n+2+i else i+2
theorem JG {n:Nat} {b c:Bool} {i j:Nat} (hi:i≤n) (hj:j≤n) (h:xv n b i=xv n c j):b=c∧i=j:=by
 unfold xv at h
 cases b<;>cases c<;>by_cases q:i=0<;>by_cases r:j=0<;>simp[q,r]at h⊢<;>omega
def tQ (y:Nat) (b:Bool):List Nat:=if b=true then [y]else []
def jP (a:List Nat) (y:Nat) (b:Bool) (i:Nat):U:=match a[i]? with
 | some d=>iK (iF d) (vn (xv a.length b (i+1)))
 | none=>lsU (tQ y b)
theorem oD {a:List Nat} {y:Nat} {b:Bool} {i:Nat} (h:i<a.length) (τ:Vr→U):sub τ (jP a y b i)=iK (iF a[i]) (τ ([],xv a.length b (i+1))):=by
 unfold jP
 rw[List.getElem?_eq_getElem h]
 exact Sq τ _ _
theorem oF (a:List Nat) (y:Nat) (b:Bool) (τ:Vr→U):sub τ (jP a y b a.length)=lsU (tQ y b):=by
 unfold jP
 rw[List.getElem?_eq_none (Nat.le_refl _)]
 exact(gnd_ls _).sub τ
def dZ (t:U) (y k:Nat):U:= .n 1 nApp 0 [t,lsU [y],vn k]
structure fx where
 τ:Vr→U
 D:Bool→Nat→Bool
 i:Nat
 fin:Bool
 wt:Bool
 its:List (Option (Bool×Nat))
 c0:Nat
def fx.gU (s:fx) (a:List Nat) (y:Nat):Option (Bool×Nat)→MG
 | some q=>MG.rd (vn (xv a.length q.1 q.2)) [61] (sub s.τ (jP a y q.1 q.2)) [] zU
 | none=>⟨dZ (s.τ ([],xv a.length false s.i)) y (xv a.length true s.i),[],zU,[],zU,s.wt,fun v=>s.wt=true∧v=xv a.length false s.i⟩
def fx.st (s:fx) (a:List Nat) (y:Nat):MS:=⟨(List.range (a.length+2)).map fun k=>s.τ ([],k+1),s.its.map (s.gU a y),a.length+3+s.i⟩
structure fx.ok (s:fx) (a:List Nat) (y:Nat):Prop where
 nd:s.its.Nodup
 ex:∀b j,some (b,j)∈s.its↔j≤a.length∧(b=true→j<s.i∨s.fin=true)∧s.D b j=false
 cl:none∈s.its↔s.fin=false
 il:s.i≤a.length
 fi:s.fin=true→s.i=a.length
 dn:∀j,s.D true j=true→j<s.i∨s.fin=true
 t0:∀b j,j≤a.length→s.D b j=false→s.τ ([],xv a.length b j)=vn (xv a.length b j)
 t1:∀b j,j≤a.length→s.D b j=true→s.τ ([],xv a.length b j)=sub s.τ (jP a y b j)
 wd:s.wt=true→s.D false s.i=false
 ln:s.its.length+s.c0=a.length+2+s.i
theorem fx.ok.of {s:fx} {a:List Nat} {y:Nat} (h:s.ok a y) (b:Bool):∀(m j:Nat),a.length - j=m→j≤a.length→(∀v,has v (s.τ ([],xv a.length b j))→∃k,j≤k∧k≤a.length∧v=([],xv a.length b k))∧size (s.τ ([],xv a.length b j))≤2*m+3:=by
 intro m
 induction m with
 | zero=>
  intro j hm hj
  obtain rfl:j=a.length:=by omega
  cases hd:s.D b a.length with
  | false=>
   rw[h.t0 b _ hj hd]
   exact⟨fun v hv=>⟨_,Nat.le_refl _,Nat.le_refl _,(show ([],xv a.length b a.length)=v from hv).symm⟩,by unfold vn;rw[size];omega⟩
  | true=>
   rw[h.t1 b _ hj hd,oF]
   refine⟨fun v hv=>absurd hv (gnd_ls _ v),?_⟩
   rw[size_ls]
   unfold tQ
   cases b<;>simp
 | succ m ih=>
  intro j hm hj
  obtain⟨i1,i2⟩:=ih (j+1) (by omega) (by omega)
  cases hd:s.D b j with
  | false=>
   rw[h.t0 b _ hj hd]
   exact⟨fun v hv=>⟨_,Nat.le_refl _,hj,(show ([],xv a.length b j)=v from hv).symm⟩,by unfold vn;rw[size];omega⟩
  | true=>
   rw[h.t1 b _ hj hd,oD (by omega)]
   refine⟨fun v hv=> ?_,by rw[yE];omega⟩
   obtain⟨k,k1,k2,k3⟩:=i1 v (CW.1 hv)
   exact⟨k,by omega,k2,k3⟩
theorem fx.ok.rhs {s:fx} {a:List Nat} {y:Nat} (h:s.ok a y) (b:Bool) {j:Nat} (hj:j≤a.length):¬has ([],xv a.length b j) (sub s.τ (jP a y b j))∧(∀v,sub s.τ (jP a y b j)≠ .v v)∧size (sub s.τ (jP a y b j))≤2*a.length+5:=by
 by_cases q:j<a.length
 ·rw[oD q]
  obtain⟨i1,i2⟩:=h.of b _ (j+1) rfl (by omega)
  refine⟨fun hv=> ?_,(fun v e=>by cases e),by rw[yE];omega⟩
  obtain⟨k,k1,k2,k3⟩:=i1 _ (CW.1 hv)
  have:=(JG hj k2 (congrArg Prod.snd k3)).2
  omega
 ·obtain rfl:j=a.length:=by omega
  rw[oF]
  refine⟨fun hv=>absurd hv (gnd_ls _ _),ls_nv _,?_⟩
  rw[size_ls]
  unfold tQ
  cases b<;>simp
theorem fx.ok.all {s:fx} {a:List Nat} {y:Nat} (h:s.ok a y) (b:Bool) (hd:∀j,j≤a.length→s.D b j=true):∀(m j:Nat),a.length - j=m→j≤a.length→s.τ ([],xv a.length b j)=lsU (a.drop j++tQ y b):=by
 intro m
 induction m with
 | zero=>
  intro j hm hj
  obtain rfl:j=a.length:=by omega
  rw[h.t1 b _ hj (hd _ hj),oF,List.drop_length]
  rfl
 | succ m ih=>
  intro j hm hj
  rw[h.t1 b _ hj (hd _ hj),oD (by omega),ih (j+1) (by omega) (by omega),List.drop_eq_getElem_cons (show j<a.length by omega)]
  rfl
theorem fx.ok.small {s:fx} {a:List Nat} {y:Nat} (h:s.ok a y) (ha:a.length≤4):ql (s.st a y)=false:=by
 have hl:=h.ln
 have hi:=h.il
 unfold ql
 rw[Bool.or_eq_false_iff,Bool.or_eq_false_iff]
 refine⟨decide_eq_false ?_,?_,?_⟩
 ·show¬24<(s.its.map (s.gU a y)).length
  rw[List.length_map];omega
 ·refine List.any_eq_false.2 fun u hu=> ?_
  have hu':u∈(List.range (a.length+2)).map fun k=>s.τ ([],k+1):=hu
  obtain⟨k,hk,rfl⟩:=List.mem_map.1 hu'
  have hk':=List.mem_range.1 hk
  have:∃b j,j≤a.length∧k+1=xv a.length b j:=by
   rcases(show k=0∨k=1∨2≤k by omega)with q | q | q
   ·exact⟨false,0,Nat.zero_le _,by rw[q];rfl⟩
   ·exact⟨true,0,Nat.zero_le _,by rw[q];rfl⟩
   ·refine⟨false,k - 1,by omega,?_⟩
    unfold xv
    rw[if_neg (by omega),if_neg (by decide)]
    omega
  obtain⟨b,j,hj,e⟩:=this
  rw[e,py (by have:=(h.of b _ j rfl hj).2;omega)]
  decide
 ·refine List.any_eq_false.2 fun g hg=> ?_
  obtain⟨o,ho,rfl⟩:=List.mem_map.1 (show g∈s.its.map (s.gU a y)from hg)
  cases o with
  | none=>
   have:nL (s.gU a y none)=[s.τ ([],xv a.length false s.i),lsU [y],vn (xv a.length true s.i)].any big:=rfl
   rw[this]
   simp only[List.any_cons,List.any_nil]
   rw[py (by have:=(h.of false _ s.i rfl hi).2;omega),py (by rw[size_ls];simp),py (by unfold vn;rw[size];omega)]
   decide
  | some q=>
   obtain⟨b,j⟩:=q
   have hj:=((h.ex b j).1 ho).1
   have:nL (s.gU a y (some (b,j)))=(big (vn (xv a.length b j))||big (sub s.τ (jP a y b j))||big zU):=by
    unfold nL
    rw[if_neg (show¬(s.gU a y (some (b,j))).sg=[]from fun q=>by cases q)]
    rfl
   rw[this,py (u:=vn _) (by unfold vn;rw[size];omega),py (u:=zU) (by rw[size_z];omega),py (by have:=(h.rhs b hj).2.2;omega)]
   decide
theorem Tp {n:Nat} {b c:Bool} {i j:Nat} (hi:i≤n) (hj:j≤n) (h:¬(b=c∧i=j)):(([],xv n b i):Vr)≠([],xv n c j):=Tj fun q=>h (JG hi hj q)
theorem fx.ok.solve {s:fx} {a:List Nat} {y:Nat} (h:s.ok a y) {p:Nat} {b:Bool} {k:Nat} (hp:s.its[p]?=some (some (b,k))) (cls:List aG) (pc:Int):
 ∃s':fx,jG cls (s.st a y) (s'.st a y) p pc 0∧s'.ok a y∧s'.i=s.i∧s'.fin=s.fin∧s'.c0=s.c0+1∧((s.wt||s.D false s.i)=true→(s'.wt||s'.D false s'.i)=true):=by
 obtain⟨hk,hz,hd⟩:=(h.ex b k).1 (List.mem_of_getElem? hp)
 obtain⟨r1,r2,-⟩:=h.rhs b hk
 obtain⟨n1,n2⟩:=qm h.nd hp
 have hlen:s.its.length=(s.its.eraseIdx p).length+1:=by
  have:=(List.getElem?_eq_some_iff.1 hp).1
  rw[List.length_eraseIdx_of_lt this];omega
 have hD:∀c j,(s.D c j||(c == b&&j == k))=false↔s.D c j=false∧¬(c=b∧j=k):=fun c j=>by
  rw[Bool.or_eq_false_iff]
  simp
 have hD1:∀c j,(s.D c j||(c == b&&j == k))=true↔s.D c j=true∨(c=b∧j=k):=fun c j=>by
  rw[Bool.or_eq_true]
  simp
 obtain⟨σ,yu,s1,s2,s3⟩:∃σ,eO (vn (xv a.length b k)) (sub s.τ (jP a y b k)) σ∧σ ([],xv a.length b k)=sub s.τ (jP a y b k)∧(∀c j,j≤a.length→¬(c=b∧j=k)→σ ([],xv a.length c j)=vn (xv a.length c j))∧sub σ (sub s.τ (jP a y b k))=sub s.τ (jP a y b k):=⟨_,Mc r1 r2,xO _ _,fun c j hj q=>CX _ (Tp hj hk q),Gt r1⟩
 have hT:∀u,sub σ (sub s.τ u)=sub (fun v=>sub σ (s.τ v)) u:=fun u=>sub_sub _ _ u
 refine⟨⟨fun v=>sub σ (s.τ v),fun c j=>s.D c j||(c == b&&j == k),s.i,s.fin,s.wt&& !(false == b&&s.i == k),s.its.eraseIdx p,s.c0+1⟩,⟨Nat.le_refl _,s.gU a y (some (b,k)),?_,Or.inl ⟨rfl,rfl,σ,yu,?_,?_⟩⟩,?_,rfl,rfl,rfl,?_⟩
 ·show (s.its.map (s.gU a y))[p]?=_
  rw[List.getElem?_map,hp];rfl
 ·show (List.range (a.length+2)).map _=((List.range (a.length+2)).map _).map _
  rw[List.map_map];rfl
 ·show (s.its.eraseIdx p).map _=((s.its.map (s.gU a y)).eraseIdx p).map _
  rw[xP,List.map_map]
  refine List.map_congr_left fun o ho=> ?_
  obtain⟨o1,o2⟩:=(n2 o).1 ho
  cases o with
  | none=>
   have hf:=h.cl.1 o1
   have X0:¬(true=b∧s.i=k):=fun q=>by
    have:=hz q.1.symm
    rw[hf]at this
    rcases this with r | r
    ·omega
    ·cases r
   have hap:∀t,sub σ (dZ t y (xv a.length true s.i))=dZ (sub σ t) y (xv a.length true s.i):=fun t=>by
    unfold dZ
    rw[dI,List.map_cons,List.map_cons,List.map_cons,List.map_nil,(gnd_ls [y]).sub,tN,s2 true s.i h.il X0]
   show (⟨dZ (sub σ (s.τ ([],xv a.length false s.i))) y (xv a.length true s.i),[],zU,[],zU,s.wt&& !(false == b&&s.i == k),fun v=>(s.wt&& !(false == b&&s.i == k))=true∧v=xv a.length false s.i⟩:MG)=MG.put σ ⟨dZ (s.τ ([],xv a.length false s.i)) y (xv a.length true s.i),[],zU,[],zU,s.wt,fun v=>s.wt=true∧v=xv a.length false s.i⟩
   by_cases q:false=b∧s.i=k
   ·obtain⟨rfl,rfl⟩:=q
    rw[Mo (by rw[s1];exact r2 _),hap]
    simp[Jw]
   ·have e:(s.wt&& !(false == b&&s.i == k))=s.wt:=by
     have:(false == b&&s.i == k)=false:=by
      cases hb:(false == b&&s.i == k)with
      | false=>rfl
      | true=>simp at hb;exact absurd ⟨hb.1.symm,hb.2⟩ q
     rw[this];simp
    rw[e,Mn (s2 false s.i h.il q),hap]
    rfl
  | some q=>
   obtain⟨c,j⟩:=q
   have hj:=((h.ex c j).1 o1).1
   have hne:¬(c=b∧j=k):=fun q=>o2 (by rw[q.1,q.2])
   show MG.rd (vn (xv a.length c j)) [61] (sub (fun v=>sub σ (s.τ v)) (jP a y c j)) [] zU=MG.put σ (MG.rd (vn (xv a.length c j)) [61] (sub s.τ (jP a y c j)) [] zU)
   rw[Sr,Jw,tN,s2 c j hj hne,hT]
 ·refine⟨n1,fun c j=> ?_,?_,h.il,h.fi,fun j hj=> ?_,fun c j hj SI=> ?_,fun c j hj SI=> ?_,fun hw=> ?_,?_⟩
  ·show some (c,j)∈s.its.eraseIdx p↔j≤a.length∧(c=true→j<s.i∨s.fin=true)∧(s.D c j||(c == b&&j == k))=false
   rw[n2,h.ex,hD]
   simp only[ne_eq,Option.some.injEq,Prod.mk.injEq]
   exact⟨fun⟨⟨q1,q2,q3⟩,q4⟩=>⟨q1,q2,q3,q4⟩,fun⟨q1,q2,q3,q4⟩=>⟨⟨q1,q2,q3⟩,q4⟩⟩
  ·show none∈s.its.eraseIdx p↔s.fin=false
   rw[n2,h.cl]
   simp
  ·rcases(hD1 true j).1 hj with q | ⟨q1,q2⟩
   ·exact h.dn j q
   ·rw[q2];exact hz q1.symm
  ·obtain⟨q1,q2⟩:=(hD c j).1 SI
   show sub σ (s.τ ([],xv a.length c j))=_
   rw[h.t0 c j hj q1,tN,s2 c j hj q2]
  ·show sub σ (s.τ ([],xv a.length c j))=sub (fun v=>sub σ (s.τ v)) (jP a y c j)
   rw[←hT]
   by_cases q:c=b∧j=k
   ·obtain⟨rfl,rfl⟩:=q
    rw[h.t0 c j hj hd,tN,s1,s3]
   ·rcases(hD1 c j).1 SI with r | r
    ·rw[h.t1 c j hj r]
    ·exact absurd r q
  ·have hw':(s.wt&& !(false == b&&s.i == k))=true:=hw
   rw[Bool.and_eq_true]at hw'
   refine(hD false s.i).2 ⟨h.wd hw'.1,fun q=> ?_⟩
   have:=hw'.2
   rw[q.1,q.2]at this
   simp at this
  ·show (s.its.eraseIdx p).length+(s.c0+1)=a.length+2+s.i
   have:=h.ln
   omega
 ·intro hq
  show ((s.wt&& !(false == b&&s.i == k))||(s.D false s.i||(false == b&&s.i == k)))=true
  cases hb:(false == b&&s.i == k)with
  | true=>simp
  | false=>simpa using hq
theorem Mq (y k:Nat):matU 8 app1.head (dZ (lsU []) y k) ⟨[],Wn.none⟩=⟨[([89],lsU [y]),([90],vn k)],Wn.none⟩:=wy [y] k
theorem Mr (y k:Nat):(matU 8 app2.head (dZ (lsU []) y k) ⟨[],Wn.none⟩).w.says=2:=Mm [y] k
theorem JH (d:Nat) (t:U) (y k:Nat):(matU 8 app1.head (dZ (iK (iF d) t) y k) ⟨[],Wn.none⟩).w.says=2:=by
 simp[matU,cF,gJ,bF.meet,app1,dZ,tF,tNil,tV,nApp,iK,Wn.bad,Wn.says]
theorem nD (d:Nat) (t:U) (y k:Nat):matU 8 app2.head (dZ (iK (iF d) t) y k) ⟨[],Wn.none⟩=⟨[([72],iF d),([88],t),([89],lsU [y]),([90],vn k)],Wn.none⟩:=by
 simp[matU,cF,gJ,bF.meet,app2,dZ,tF,tC,tV,nApp,iK]
theorem wA (x y k:Nat):(matU 8 app1.head (dZ (vn x) y k) ⟨[],Wn.none⟩).w.says=3∧(matU 8 app1.head (dZ (vn x) y k) ⟨[],Wn.none⟩).w.wt=[x]:=by
 constructor<;>simp[matU,cF,gJ,bF.meet,app1,dZ,tF,tNil,tV,nApp,vn,Wn.says,Wn.wait,Wn.none,fy]
theorem wD (x y k:Nat):(matU 8 app2.head (dZ (vn x) y k) ⟨[],Wn.none⟩).w.says=3∧(matU 8 app2.head (dZ (vn x) y k) ⟨[],Wn.none⟩).w.wt=[x]:=by
 constructor<;>simp[matU,cF,gJ,bF.meet,app2,dZ,tF,tC,tV,nApp,vn,Wn.says,Wn.wait,Wn.none,fy]
theorem O7 (lim x y k:Nat):∀(i:Nat) (c:aG),[app1,app2][i]?=some c→bD lim (dZ (vn x) y k) c=(3,[x]):=fun i c hc=>by
 match i,hc with
 | 0,hc=>
  injection hc with hc
  subst hc
  unfold bD
  rw[if_pos (by rw[(wA x y k).1];decide),(wA x y k).1,(wA x y k).2]
 | 1,hc=>
  injection hc with hc
  subst hc
  unfold bD
  rw[if_pos (by rw[(wD x y k).1];decide),(wD x y k).1,(wD x y k).2]
theorem O9 {α:Type} {l:List (Option α)} {p q:Nat} (hn:l.Nodup) (hp:l[p]?=some none) (hq:l[q]?=some none):q=p:=by
 obtain⟨h1,e1⟩:=List.getElem?_eq_some_iff.1 hp
 obtain⟨h2,e2⟩:=List.getElem?_eq_some_iff.1 hq
 exact(List.getElem_inj hn).1 (e2.trans e1.symm)
theorem fx.ok.wait {s:fx} {a:List Nat} {y:Nat} (h:s.ok a y) {p:Nat} (hp:s.its[p]?=some none) (hd:s.D false s.i=false) (pc:Int):
 jG [app1,app2] (s.st a y) (({s with wt:=true}:fx).st a y) p pc (-1)∧({s with wt:=true}:fx).ok a y:=by
 have ht:=h.t0 false s.i h.il hd
 generalize hx:xv a.length false s.i=x at ht
 generalize hz:xv a.length true s.i=z
 have fQ:(s.st a y).gs[p]?=some ⟨dZ (vn x) y z,[],zU,[],zU,s.wt,fun v=>s.wt=true∧v=x⟩:=by
  show (s.its.map (s.gU a y))[p]?=_
  rw[List.getElem?_map,hp]
  show some (⟨dZ (s.τ ([],xv a.length false s.i)) y (xv a.length true s.i),[],zU,[],zU,s.wt,fun v=>s.wt=true∧v=xv a.length false s.i⟩:MG)=_
  rw[hx,hz,ht]
 have an:=O7 (a.length+3+s.i) x y z
 have hown:bL [app1,app2] nApp [vn x,lsU [y],vn z].length [app1,app2].length=List.range 2:=app_own
 obtain⟨c0,hc0⟩:∃c,[app1,app2][fV (bL [app1,app2] nApp [vn x,lsU [y],vn z].length [app1,app2].length) (dh pc (bL [app1,app2] nApp [vn x,lsU [y],vn z].length [app1,app2].length).length) 0]?=some c:=by
  rw[hown,p7 (by omega)]
  exact⟨_,List.getElem?_eq_getElem (show _<[app1,app2].length from Nat.mod_lt _ (show 0<2 by omega))⟩
 refine⟨⟨Nat.le_refl _,_,fQ,Or.inr (Or.inr (Or.inr (Or.inr (Or.inr ⟨_,_,⟨rfl,nApp,[vn x,lsU [y],vn z],rfl,(fun q=>by have:=q.1;revert this;decide),rfl,rfl⟩,rfl,(fun t c _ hc q=> ?_),⟨0,c0,by rw[hown];decide,hc0,congrArg Prod.fst (an _ _ hc0)⟩,rfl,?_⟩))))⟩,⟨h.nd,h.ex,h.cl,h.il,h.fi,h.dn,h.t0,h.t1,fun _=>hd,h.ln⟩⟩
 ·have q':(bD (a.length+3+s.i) (dZ (vn x) y z) c).1=1:=q
  rw[an _ c hc]at q'
  cases q'
 ·have X3:(fun v=>∃(t:Nat) (c:aG),t<(bL [app1,app2] nApp [vn x,lsU [y],vn z].length [app1,app2].length).length∧[app1,app2][fV (bL [app1,app2] nApp [vn x,lsU [y],vn z].length [app1,app2].length) (dh pc (bL [app1,app2] nApp [vn x,lsU [y],vn z].length [app1,app2].length).length) t]?=some c∧(bD (a.length+3+s.i) (dZ (vn x) y z) c).1=3∧v∈(bD (a.length+3+s.i) (dZ (vn x) y z) c).2)=fun v=>true=true∧v=x:=by
   funext v
   refine propext ⟨fun⟨t,c,_,hc,_,hv⟩=> ?_,fun⟨_,hv⟩=>⟨0,c0,by rw[hown];decide,hc0,congrArg Prod.fst (an _ _ hc0),?_⟩⟩
   ·rw[an _ c hc]at hv
    exact⟨rfl,List.mem_singleton.1 hv⟩
   ·rw[an _ _ hc0,hv]
    exact List.mem_singleton.2 rfl
  show s.its.map (({s with wt:=true}:fx).gU a y)=(s.its.map (s.gU a y)).set p ⟨dZ (vn x) y z,[],zU,[],zU,true,fun v=>∃(t:Nat) (c:aG),t<(bL [app1,app2] nApp [vn x,lsU [y],vn z].length [app1,app2].length).length∧[app1,app2][fV (bL [app1,app2] nApp [vn x,lsU [y],vn z].length [app1,app2].length) (dh pc (bL [app1,app2] nApp [vn x,lsU [y],vn z].length [app1,app2].length).length) t]?=some c∧(bD (a.length+3+s.i) (dZ (vn x) y z) c).1=3∧v∈(bD (a.length+3+s.i) (dZ (vn x) y z) c).2⟩
  rw[X3]
  refine List.ext_getElem? fun q=> ?_
  rw[List.getElem?_set,List.getElem?_map,List.getElem?_map,List.length_map]
  by_cases e:p=q
  ·subst e
   rw[if_pos rfl,if_pos (List.getElem?_eq_some_iff.1 hp).1,hp]
   show some (⟨dZ (s.τ ([],xv a.length false s.i)) y (xv a.length true s.i),[],zU,[],zU,true,fun v=>true=true∧v=xv a.length false s.i⟩:MG)=_
   rw[hx,hz,ht]
  ·rw[if_neg e]
   cases hq:s.its[q]? with
   | none=>rfl
   | some o=>
    cases o with
    | none=>exact absurd (O9 h.nd hp hq).symm e
    | some r=>rfl
theorem We (y k:Nat) (o:Nat→Nat):app1.goals.map (MG.of (ct (dZ (lsU []) y k) app1 o))=[MG.rd (vn k) [61] (lsU [y]) [] zU]:=SH [y] k o
theorem Wf (d:Nat) (t:U) (y k f:Nat):app2.goals.map (MG.of (ct (dZ (iK (iF d) t) y k) app2 fun i=>([f][i]?).getD 0))=[MG.rd (vn k) [61] (iK (iF d) (vn f)) [] zU,MG.rd (dZ t y f) [] zU [] zU]:=by
 have eZ:ct (dZ (iK (iF d) t) y k) app2 (fun i=>([f][i]?).getD 0) [90]=vn k:=by
  unfold ct
  rw[NH2,nD]
  simp
 have eH:ct (dZ (iK (iF d) t) y k) app2 (fun i=>([f][i]?).getD 0) [72]=iF d:=by
  unfold ct
  rw[NH2,nD]
  simp
 have eX:ct (dZ (iK (iF d) t) y k) app2 (fun i=>([f][i]?).getD 0) [88]=t:=by
  unfold ct
  rw[NH2,nD]
  simp
 have eY:ct (dZ (iK (iF d) t) y k) app2 (fun i=>([f][i]?).getD 0) [89]=lsU [y]:=by
  unfold ct
  rw[NH2,nD]
  simp
 have eW:ct (dZ (iK (iF d) t) y k) app2 (fun i=>([f][i]?).getD 0) [87]=vn f:=by
  unfold ct
  rw[NH2,NG2,if_neg (by decide)]
  rfl
 rw[app2_g]
 simp only[List.map_cons,List.map_nil,of_eq,EG,NB,SG,wm,eZ,eH,eX,eY,eW]
 rfl
theorem Gp (u:U) (x:Nat):(⟨u,[],zU,[],zU,false,fun v=>false=true∧v=x⟩:MG)=MG.rd u [] zU [] zU:=by
 unfold MG.rd
 congr 1
 funext v
 simp
theorem fx.ok.jm {s:fx} {a:List Nat} {y:Nat} (h:s.ok a y) {p:Nat} (hp:s.its[p]?=some none) (hd:s.D false s.i=true):(s.st a y).gs[p]?=some (MG.rd (dZ (sub s.τ (jP a y false s.i)) y (xv a.length true s.i)) [] zU [] zU):=by
 have hw:s.wt=false:=by
  cases hw:s.wt with
  | false=>rfl
  | true=>rw[h.wd hw]at hd;cases hd
 show (s.its.map (s.gU a y))[p]?=_
 rw[List.getElem?_map,hp]
 show some (⟨dZ (s.τ ([],xv a.length false s.i)) y (xv a.length true s.i),[],zU,[],zU,s.wt,fun v=>s.wt=true∧v=xv a.length false s.i⟩:MG)=_
 rw[hw,Gp,h.t1 false s.i h.il hd]
theorem Da {s:fx} {a:List Nat} {y:Nat} {i:Nat} {f w:Bool} {l l':List (Option (Bool×Nat))} {c:Nat} (hl:∀o∈l,o≠none):l.map ((⟨s.τ,s.D,i,f,w,l',c⟩:fx).gU a y)=l.map (s.gU a y):=List.map_congr_left fun o ho=>by
 cases o with
 | none=>exact absurd rfl (hl _ ho)
 | some q=>rfl
theorem fx.ok.more {s:fx} {a:List Nat} {y:Nat} (h:s.ok a y) {p:Nat} (hp:s.its[p]?=some none) (hd:s.D false s.i=true) (hi:s.i<a.length) (pc:Int):
 ∃s':fx,jG [app1,app2] (s.st a y) (s'.st a y) p pc 2∧s'.ok a y∧s'.i=s.i+1∧s'.fin=false∧s'.c0=s.c0:=by
 have hf:=h.cl.1 (List.mem_of_getElem? hp)
 have fQ:=h.jm hp hd
 rw[oD hi]at fQ
 obtain⟨n1,n2⟩:=qm h.nd hp
 have hlen:s.its.length=(s.its.eraseIdx p).length+1:=by
  have:=(List.getElem?_eq_some_iff.1 hp).1
  rw[List.length_eraseIdx_of_lt this];omega
 obtain⟨k,c,hk,hy,hst⟩:=C8 (cls:=[app1,app2]) (tx:=nApp) (us:=[iK (iF a[s.i]) (s.τ ([],xv a.length false (s.i+1))),lsU [y],vn (xv a.length true s.i)]) app_own fQ rfl rfl (by decide) pc ⟨1,app2,rfl,EF (nD _ _ y _) rfl⟩
 have fp:k=1∧c=app2:=by
  match k,hk with
  | 1,hk=>exact⟨rfl,by injection hk with hk;exact hk.symm⟩
  | 0,hk=>
   injection hk with hk
   subst hk
   have:(bD (s.st a y).lim (dZ (iK (iF a[s.i]) (s.τ ([],xv a.length false (s.i+1)))) y (xv a.length true s.i)) app1).1=1:=hy
   rw[JE (JH _ _ y _)]at this
   omega
 obtain⟨rfl,rfl⟩:=fp
 have hno:∀j,s.i≤j→s.D true j=false:=fun j hj=>by
  cases q:s.D true j with
  | false=>rfl
  | true=>
   rcases h.dn j q with r | r
   ·omega
   ·rw[hf]at r;cases r
 have hm:some (true,s.i)∉s.its:=fun q=>by
  rcases((h.ex _ _).1 q).2.1 rfl with r | r
  ·omega
  ·rw[hf]at r;cases r
 have hxv:xv a.length true (s.i+1)=a.length+3+s.i:=by unfold xv;rw[if_neg (by omega),if_pos rfl];omega
 refine⟨⟨s.τ,s.D,s.i+1,false,false,s.its.eraseIdx p++[some (true,s.i),none],s.c0⟩,hst [a.length+3+s.i] _ (by rw[NH2,NG2];rfl) (by simp) (fun f hf=> ?_) (Nat.le_succ _) rfl ?_,⟨?_,fun b j=> ?_,?_,by show s.i+1≤a.length;omega,(fun q=>by cases q),fun j hj=> ?_,h.t0,h.t1,(fun q=>by cases q),?_⟩,rfl,rfl,rfl⟩
 ·rw[List.mem_singleton.1 hf]
  exact⟨Nat.le_refl _,Nat.lt_succ_self _⟩
 ·show (s.its.eraseIdx p++[some (true,s.i),none]).map _=(s.its.map (s.gU a y)).eraseIdx p++_
  rw[List.map_append,xP,Da (fun o ho=>((n2 o).1 ho).2)]
  congr 1
  have e:=Wf a[s.i] (s.τ ([],xv a.length false (s.i+1))) y (xv a.length true s.i) (a.length+3+s.i)
  refine Eq.trans ?_ e.symm
  show [MG.rd (vn (xv a.length true s.i)) [61] (sub s.τ (jP a y true s.i)) [] zU,(⟨dZ (s.τ ([],xv a.length false (s.i+1))) y (xv a.length true (s.i+1)),[],zU,[],zU,false,fun v=>false=true∧v=xv a.length false (s.i+1)⟩:MG)]=_
  rw[Gp,oD hi,h.t0 true (s.i+1) (by omega) (hno _ (by omega)),hxv]
 ·show (s.its.eraseIdx p++[some (true,s.i),none]).Nodup
  rw[List.nodup_append]
  refine⟨n1,by simp,fun u hu v hv=> ?_⟩
  simp only[List.mem_cons,List.not_mem_nil,or_false]at hv
  rcases hv with rfl | rfl
  ·rintro rfl;exact hm ((n2 _).1 hu).1
  ·exact((n2 _).1 hu).2
 ·show some (b,j)∈s.its.eraseIdx p++[some (true,s.i),none]↔j≤a.length∧(b=true→j<s.i+1∨false=true)∧s.D b j=false
  rw[List.mem_append,n2,h.ex,hf]
  simp only[List.mem_cons,List.not_mem_nil,or_false,Option.some.injEq,Prod.mk.injEq,reduceCtorEq,ne_eq,not_false_eq_true,and_true,Bool.false_eq_true]
  constructor
  ·rintro(⟨q1,q2,q3⟩ | ⟨rfl,rfl⟩)
   ·exact⟨q1,fun q=>by have:=q2 q;omega,q3⟩
   ·exact⟨by omega,fun _=>by omega,hno _ (Nat.le_refl _)⟩
  ·rintro⟨q1,q2,q3⟩
   by_cases q:b=true∧j=s.i
   ·exact Or.inr q
   ·refine Or.inl ⟨q1,fun r=> ?_,q3⟩
    have:=q2 r
    have:j≠s.i:=fun e=>q ⟨r,e⟩
    omega
 ·show none∈s.its.eraseIdx p++[some (true,s.i),none]↔false=false
  simp
 ·rcases h.dn j hj with r | r
  ·exact Or.inl (by show j<s.i+1;omega)
  ·rw[hf]at r;cases r
 ·show (s.its.eraseIdx p++[some (true,s.i),none]).length+s.c0=a.length+2+(s.i+1)
  have:=h.ln
  simp
  omega
theorem fx.ok.close {s:fx} {a:List Nat} {y:Nat} (h:s.ok a y) {p:Nat} (hp:s.its[p]?=some none) (hd:s.D false s.i=true) (hi:s.i=a.length) (pc:Int):
 ∃s':fx,jG [app1,app2] (s.st a y) (s'.st a y) p pc 1∧s'.ok a y∧s'.i=s.i∧s'.fin=true∧s'.c0=s.c0∧s'.D=s.D:=by
 have hf:=h.cl.1 (List.mem_of_getElem? hp)
 have fQ:=h.jm hp hd
 rw[hi,oF,show tQ y false=[]from rfl]at fQ
 obtain⟨n1,n2⟩:=qm h.nd hp
 have hlen:s.its.length=(s.its.eraseIdx p).length+1:=by
  have:=(List.getElem?_eq_some_iff.1 hp).1
  rw[List.length_eraseIdx_of_lt this];omega
 obtain⟨k,c,hk,hy,hst⟩:=C8 (cls:=[app1,app2]) (tx:=nApp) (us:=[lsU [],lsU [y],vn (xv a.length true a.length)]) app_own fQ rfl rfl (by decide) pc ⟨0,app1,rfl,EF (Mq y _) rfl⟩
 have fp:k=0∧c=app1:=by
  match k,hk with
  | 0,hk=>exact⟨rfl,by injection hk with hk;exact hk.symm⟩
  | 1,hk=>
   injection hk with hk
   subst hk
   have:(bD (s.st a y).lim (dZ (lsU []) y (xv a.length true a.length)) app2).1=1:=hy
   rw[JE (Mr y _)]at this
   omega
 obtain⟨rfl,rfl⟩:=fp
 have hno:∀j,s.i≤j→s.D true j=false:=fun j hj=>by
  cases q:s.D true j with
  | false=>rfl
  | true=>
   rcases h.dn j q with r | r
   ·omega
   ·rw[hf]at r;cases r
 have hm:some (true,a.length)∉s.its:=fun q=>by
  rcases((h.ex _ _).1 q).2.1 rfl with r | r
  ·omega
  ·rw[hf]at r;cases r
 refine⟨⟨s.τ,s.D,s.i,true,false,s.its.eraseIdx p++[some (true,a.length)],s.c0⟩,hst [] _ (by rw[NH1,NG1];rfl) List.Pairwise.nil (fun f hf=>by cases hf) (Nat.le_refl _) rfl ?_,⟨?_,fun b j=> ?_,?_,h.il,fun _=>hi,fun _ _=>Or.inr rfl,h.t0,h.t1,(fun q=>by cases q),?_⟩,rfl,rfl,rfl,rfl⟩
 ·show (s.its.eraseIdx p++[some (true,a.length)]).map _=(s.its.map (s.gU a y)).eraseIdx p++_
  rw[List.map_append,xP,Da (fun o ho=>((n2 o).1 ho).2)]
  congr 1
  refine Eq.trans ?_ (We y (xv a.length true a.length) _).symm
  show [MG.rd (vn (xv a.length true a.length)) [61] (sub s.τ (jP a y true a.length)) [] zU]=_
  rw[oF]
  rfl
 ·show (s.its.eraseIdx p++[some (true,a.length)]).Nodup
  rw[List.nodup_append]
  refine⟨n1,by simp,fun u hu v hv=> ?_⟩
  rw[List.mem_singleton.1 hv]
  rintro rfl;exact hm ((n2 _).1 hu).1
 ·show some (b,j)∈s.its.eraseIdx p++[some (true,a.length)]↔j≤a.length∧(b=true→j<s.i∨true=true)∧s.D b j=false
  rw[List.mem_append,n2,h.ex,hf]
  simp only[List.mem_cons,List.not_mem_nil,or_false,Option.some.injEq,Prod.mk.injEq,reduceCtorEq,ne_eq,not_false_eq_true,and_true,Bool.false_eq_true,or_true,implies_true,true_and]
  constructor
  ·rintro(⟨q1,q2,q3⟩ | ⟨rfl,rfl⟩)
   ·exact⟨q1,q3⟩
   ·exact⟨Nat.le_refl _,hno _ (by omega)⟩
  ·rintro⟨q1,q3⟩
   by_cases q:b=true∧j=a.length
   ·exact Or.inr q
   ·refine Or.inl ⟨q1,fun r=> ?_,q3⟩
    have:j≠a.length:=fun e=>q ⟨r,e⟩
    omega
 ·show none∈s.its.eraseIdx p++[some (true,a.length)]↔true=false
  rw[List.mem_append,n2]
  simp
 ·show (s.its.eraseIdx p++[some (true,a.length)]).length+s.c0=a.length+2+s.i
  have:=h.ln
  simp
  omega
structure oh (a:List Nat) (y:Nat) (script:List (Int×Int)) (S0:MS) (j:Nat) (s:fx) (L:List Int) (w:Nat):Prop where
 run:nM [app1,app2] script S0 j (s.st a y) L
 ok:s.ok a y
 n0:L.count 0=s.c0
 n1:L.count 1=if s.fin=true then 1 else 0
 n2:L.count 2=s.i
 len:L.length=j
 js:j=s.c0+s.i+(if s.fin=true then 1 else 0)+w
 ws:w≤s.i+(if(s.wt||s.D false s.i)=true then 1 else 0)
theorem NC (b:Bool):(if b=true then 1 else 0)≤1:=by split<;>omega
theorem oh.end {a:List Nat} {y:Nat} {script:List (Int×Int)} {S0:MS} {j:Nat} {s:fx} {L:List Int} {w:Nat} (h:oh a y script S0 j s L w):(s.its≠[]→j<4*(a.length+1))∧(s.its=[]→s.fin=true∧s.i=a.length∧s.c0=2*(a.length+1)∧∀b k,k≤a.length→s.D b k=true):=by
 have hl:=h.ok.ln
 have hi:=h.ok.il
 have hj:=h.js
 have hw:=h.ws
 have e1:=NC s.fin
 have e2:=NC (s.wt||s.D false s.i)
 refine⟨fun q=> ?_,fun q=> ?_⟩
 ·have:0<s.its.length:=List.length_pos_iff.2 q
  omega
 ·have hf:s.fin=true:=by
   cases hf:s.fin with
   | true=>rfl
   | false=>
    have:=h.ok.cl.2 hf
    rw[q]at this
    cases this
  have Gu:=h.ok.fi hf
  rw[q]at hl
  simp at hl
  refine⟨hf,Gu,by omega,fun b k hk=> ?_⟩
  cases hd:s.D b k with
  | true=>rfl
  | false=>
   have:=(h.ok.ex b k).2 ⟨hk,fun _=>Or.inr hf,hd⟩
   rw[q]at this
   cases this
theorem oh.step {a:List Nat} {y:Nat} {script:List (Int×Int)} {S0:MS} {j:Nat} {s:fx} {L:List Int} {w:Nat} (ha:a.length≤4) (h:oh a y script S0 j s L w) (hs:j<script.length) (hne:s.its≠[]):∃s' L' w',oh a y script S0 (j+1) s' L' w':=by
 obtain⟨⟨pg,pc⟩,hsj⟩:∃q:Int×Int,script[j]?=some q:=⟨_,List.getElem?_eq_getElem hs⟩
 have ready:∃o∈s.its,(s.gU a y o).wt=false:=by
  obtain⟨o,ho⟩:=List.exists_mem_of_ne_nil _ hne
  cases o with
  | some q=>exact⟨some q,ho,rfl⟩
  | none=>
   cases hw:s.wt with
   | false=>exact⟨none,ho,hw⟩
   | true=>exact⟨some (false,s.i),(h.ok.ex _ _).2 ⟨h.ok.il,(fun q=>by cases q),h.ok.wd hw⟩,rfl⟩
 have hr:0<(jf (s.st a y).gs).length:=by
  obtain⟨o,ho,hw⟩:=ready
  obtain⟨p,hp,rfl⟩:=List.mem_iff_getElem.1 ho
  refine List.length_pos_of_mem (a:=p) (JF.2 ⟨s.gU a y s.its[p],?_,hw⟩)
  show (s.its.map (s.gU a y))[p]?=_
  rw[List.getElem?_map,List.getElem?_eq_getElem hp];rfl
 obtain⟨p,hpi⟩:∃p,(jf (s.st a y).gs)[dh pg (jf (s.st a y).gs).length]?=some p:=⟨_,List.getElem?_eq_getElem (tq pg hr)⟩
 obtain⟨g,X4,uS⟩:=JF.1 (List.mem_of_getElem? hpi)
 obtain⟨o,ho,X5⟩:∃o,s.its[p]?=some o∧s.gU a y o=g:=by
  have:(s.its.map (s.gU a y))[p]?=some g:=X4
  rw[List.getElem?_map]at this
  cases hx:s.its[p]? with
  | none=>rw[hx]at this;cases this
  | some o=>rw[hx]at this;exact⟨o,rfl,by injection this⟩
 have hn0:=h.n0
 have nj:=h.n1
 have Bo:=h.n2
 have hlen:=h.len
 have hjs:=h.js
 have hws:=h.ws
 cases o with
 | some q=>
  obtain⟨b,k⟩:=q
  obtain⟨s',k1,k2,k3,k4,k5,k6⟩:=h.ok.solve ho [app1,app2] pc
  refine⟨s',L++[0],w,⟨.step h.run hsj hpi k1 (k2.small ha),k2,?_,?_,?_,by rw[List.length_append,hlen];rfl,?_,?_⟩⟩
  ·rw[List.count_append,hn0,k5];rfl
  ·rw[List.count_append,nj,k4];rfl
  ·rw[List.count_append,Bo,k3];rfl
  ·rw[k3,k4,k5];omega
  ·cases hq:(s.wt||s.D false s.i)with
   | true=>rw[k6 hq,k3];rw[hq]at hws;exact hws
   | false=>
    rw[hq,if_neg (by decide)]at hws
    rw[k3]
    omega
 | none=>
  have hf:=h.ok.cl.1 (List.mem_of_getElem? ho)
  have hw:s.wt=false:=by
   have:(s.gU a y none).wt=false:=by rw[X5];exact uS
   exact this
  rw[hf]at nj hjs
  rw[hw,Bool.false_or]at hws
  cases hd:s.D false s.i with
  | false=>
   obtain⟨k1,k2⟩:=h.ok.wait ho hd pc
   rw[hd,if_neg (by decide)]at hws
   refine⟨{s with wt:=true},L++[-1],w+1,⟨.step h.run hsj hpi k1 (k2.small ha),k2,?_,?_,?_,by rw[List.length_append,hlen];rfl,?_,?_⟩⟩
   ·rw[List.count_append,hn0];rfl
   ·show _=if s.fin=true then 1 else 0
    rw[List.count_append,nj,hf];rfl
   ·rw[List.count_append,Bo];rfl
   ·show j+1=s.c0+s.i+(if s.fin=true then 1 else 0)+(w+1)
    rw[hf];omega
   ·show w+1≤s.i+(if(true||s.D false s.i)=true then 1 else 0)
    rw[Bool.true_or,if_pos rfl];omega
  | true=>
   rw[hd,if_pos rfl]at hws
   by_cases hi:s.i<a.length
   ·obtain⟨s',k1,k2,k3,k4,k5⟩:=h.ok.more ho hd hi pc
    refine⟨s',L++[2],w,⟨.step h.run hsj hpi k1 (k2.small ha),k2,?_,?_,?_,by rw[List.length_append,hlen];rfl,?_,?_⟩⟩
    ·rw[List.count_append,hn0,k5];rfl
    ·rw[List.count_append,nj,k4];rfl
    ·rw[List.count_append,Bo,k3];rfl
    ·rw[k3,k4,k5]
     simp at hjs⊢
     omega
    ·rw[k3];omega
   ·obtain⟨s',k1,k2,k3,k4,k5,k6⟩:=h.ok.close ho hd (by have:=h.ok.il;omega) pc
    refine⟨s',L++[1],w,⟨.step h.run hsj hpi k1 (k2.small ha),k2,?_,?_,?_,by rw[List.length_append,hlen];rfl,?_,?_⟩⟩
    ·rw[List.count_append,hn0,k5];rfl
    ·rw[List.count_append,nj,k4];rfl
    ·rw[List.count_append,Bo,k3];rfl
    ·rw[k3,k4,k5]
     simp at hjs⊢
     omega
    ·rw[k3,k6,hd,Bool.or_true,if_pos rfl];exact hws
theorem zX {a:List Nat} {y:Nat} {script:List (Int×Int)} {S0:MS} {s0:fx} (ha:a.length≤4) (h0:oh a y script S0 0 s0 [] 0):∀j,j≤script.length→∃i s L w,oh a y script S0 i s L w∧i≤j∧(i=j∨s.its=[])
 | 0,_=>⟨0,_,_,_,h0,Nat.le_refl _,Or.inl rfl⟩
 | j+1,h1=>by
  obtain⟨i,s,L,w,h,hle,hi⟩:=zX ha h0 j (by omega)
  by_cases q:s.its=[]
  ·exact⟨i,s,L,w,h,by omega,Or.inr q⟩
  ·rcases hi with rfl | hi
   ·obtain⟨s',L',w',h'⟩:=h.step ha (by omega) q
    exact⟨i+1,s',L',w',h',by omega,Or.inl rfl⟩
   ·exact absurd hi q
theorem tell_ls:∀(ls:List (List Nat)) (t:List (List UInt8)),(ls.map lsU).foldl mW (t,[])=(t++ls.map txL,[])
 | [],t=>by simp
 | l :: ls,t=>by
  rw[List.map_cons,List.foldl_cons]
  have:mW (t,[]) (lsU l)=(t++[txL l],[]):=by
   show (t++[bM Go.Lib.itoa (aS [] (lsU l)) (lsU l)],aS [] (lsU l))=_
   rw[C9,JB]
  rw[this,tell_ls ls]
  simp
def wE (a:List Nat) (y:Nat):List (List Nat):=a :: (a++[y]) :: (List.range a.length).map fun i=>a.drop (i+1)
theorem Ms {a:List Nat} {y:Nat} {script:List (Int×Int)} {S0:MS} {s0:fx} (ha:a.length≤4) (h0:oh a y script S0 0 s0 [] 0) (hs:script.length=4*(a.length+1)):∃log,pq [app1,app2] script S0 1 log ((wE a y).map txL) [] []∧log.count 1=1∧log.count 2=a.length∧log.count 0=2*(a.length+1)∧log.length≤script.length:=by
 obtain⟨i,s,L,w,h,hle,hij⟩:=zX ha h0 script.length (Nat.le_refl _)
 have hi:s.its=[]:=by
  rcases hij with rfl | q
  ·cases hq:s.its with
   | nil=>rfl
   | cons o l=>
    have:=h.end.1 (by rw[hq];simp)
    omega
  ·exact q
 obtain⟨hf,Gu,hc,hd⟩:=h.end.2 hi
 have hg:(s.st a y).gs=[]:=by
  show s.its.map (s.gU a y)=[]
  rw[hi];rfl
 have hv:(s.st a y).vs=(wE a y).map lsU:=by
  have hF:=h.ok.all false (hd false)
  have hT:=h.ok.all true (hd true)
  show (List.range (a.length+2)).map _=_
  rw[List.range_succ_eq_map,List.map_cons,List.range_succ_eq_map,List.map_cons,List.map_cons,List.map_map,List.map_map]
  unfold wE
  rw[List.map_cons,List.map_cons,List.map_map]
  have e0:=hF _ 0 rfl (Nat.zero_le _)
  have e1:=hT _ 0 rfl (Nat.zero_le _)
  rw[List.drop_zero]at e0 e1
  refine List.cons_eq_cons.2 ⟨?_,List.cons_eq_cons.2 ⟨?_,List.map_congr_left fun k hk=> ?_⟩⟩
  ·exact e0.trans (by rw[show tQ y false=[]from rfl,List.append_nil])
  ·exact e1
  ·have hk':=List.mem_range.1 hk
   have e2:=hF _ (k+1) rfl (by omega)
   rw[show tQ y false=[]from rfl,List.append_nil]at e2
   exact e2
 refine⟨L,⟨_,_,L,h.run,Or.inl ⟨Or.inr (by rw[hg];rfl),by rw[hg];rfl,rfl,?_,by rw[hg];rfl,by rw[hg];rfl⟩⟩,?_,?_,?_,by rw[h.len];exact hle⟩
 ·rw[hv]
  unfold jX
  rw[tell_ls]
  rfl
 ·rw[h.n1,if_pos hf]
 ·rw[h.n2,Gu]
 ·rw[h.n0,hc]
def sx (i:Nat):UInt8:=UInt8.ofNat (65+i)
def qA (y:Nat):aC:=⟨tF nApp (tV 65) (tL [y]) (tV 90),[],none,[],none⟩
def ND (i d:Nat):aC:=⟨tV (sx i),[61],some (tC (tD d) (tV (sx (i+1)))),[],none⟩
def eqs:Nat→List Nat→List aC
 | i,[]=>[⟨tV (sx i),[61],some tNil,[],none⟩]
 | i,d :: l=>ND i d :: eqs (i+1) l
theorem sx_up:∀i,i<6→iH (sx i).toNat=true:=by decide
theorem eqs_len:∀(l:List Nat) (i:Nat),(eqs i l).length=l.length+1
 | [],_=>rfl
 | d :: l,i=>by rw[eqs,List.length_cons,eqs_len l,List.length_cons]
theorem eqs_ok:∀(l:List Nat) (i:Nat),i+l.length≤4→(∀d∈l,d<10)→∀x∈eqs i l,ij idS x
 | [],i,h,_,x,hx=>by
  obtain rfl:=List.mem_singleton.1 hx
  exact .eq _ _ (iO (sx_up i (by omega))) (JC 7)
 | d :: l,i,h,hd,x,hx=>by
  rw[List.length_cons]at h
  rcases List.mem_cons.1 hx with rfl | hx
  ·exact .eq _ _ (iO (sx_up i (by omega))) (Ml (Sw (by have:=hd d (by simp);omega)) (iO (sx_up (i+1) (by omega))))
  ·exact eqs_ok l (i+1) (by omega) (fun e he=>hd e (by simp[he])) x hx
theorem eqs_mp:∀(l:List Nat) (i:Nat),(eqs i l).map (qJ idS)=eqs i l
 | [],_=>rfl
 | d :: l,i=>by
  rw[eqs,List.map_cons,eqs_mp l]
  rfl
theorem Tq {y:Nat} (hy:y<10):ij idS (qA y):= .call _ (Gm nApp_word (iO (by decide)) (ok_L [y] 7 (fun d hd=>by rw[List.mem_singleton.1 hd];exact hy) (by simp)) (iO (by decide))) rfl (by unfold isInt tF;simp)
theorem Tt (y:Nat):qJ idS (qA y)=qA y:=rfl
def qtE:Nat→List Nat→List UInt8
 | _,[]=>[]
 | i,d :: l=>[44,sx i,61,99,40]++fM d++[44,sx (i+1),41]++qtE (i+1) l
theorem Db (d:Nat):∀(l:List Nat) (i:Nat),qtE i (l++[d])=qtE i l++[44,sx (i+l.length),61,99,40]++fM d++[44,sx (i+l.length+1),41]
 | [],i=>by simp[qtE]
 | e :: l,i=>by
  rw[List.cons_append,qtE,qtE,Db d l (i+1),List.length_cons,show i+1+l.length=i+(l.length+1)by omega]
  simp only[List.append_assoc]
theorem eqs_pr:∀(l:List Nat) (i:Nat),(eqs i l).flatMap (fun y=>44 :: sp false++iY idS y)=qtE i l++[44,sx (i+l.length),61,110]
 | [],i=>by
  simp only[eqs,iY,Gh,JD,List.flatMap_cons,List.flatMap_nil,qtE]
  rfl
 | d :: l,i=>by
  rw[eqs,List.flatMap_cons,eqs_pr l (i+1),List.length_cons,show i+1+l.length=i+(l.length+1)by omega]
  simp only[ND,iY,Gh,Nz,Sy,qtE,sp]
  simp
def l7 (y:Nat):List UInt8:=[97,112,112,40,65,44,99,40]++fM y++[44,110,41,44,90,41]
theorem Wh (a:List Nat) (y:Nat):jl idS false (qA y :: eqs 0 a)=l7 y++qtE 0 a++[44,sx a.length,61,110]:=by
 rw[jl,eqs_pr,Nat.zero_add]
 simp only[qA,iY,SF,Gh,pr_L [y] 7 (by simp),txL,l7,nApp]
 simp
theorem qtE_len:∀(l:List Nat) (i:Nat),(∀d∈l,d<10)→(qtE i l).length=9*l.length
 | [],_,_=>rfl
 | d :: l,i,h=>by
  have h1:=qK (n:=d) (k:=0) (by have:=h d (by simp);omega)
  have h2:0<(fM d).length:=List.length_pos_iff.2 (Jz d)
  rw[qtE,List.length_append,qtE_len l (i+1) (fun e he=>h e (by simp[he]))]
  simp
  omega
theorem Dc (f:Nat) (ns:List (List UInt8)) (c:UInt8):namesF (f+1) ns (tV c)=cW ns [c]:=by
 unfold namesF
 show cW ns (⟨[c].toArray⟩:ByteArray).toList=_
 rw[fK]
theorem Wi (f:Nat) (ns:List (List UInt8)) (d:Nat):namesF (f+1) ns (tD d)=ns:=by unfold namesF;rfl
theorem Wj (f:Nat) (ns:List (List UInt8)) (a b:Tm):namesF (f+1) ns (tC a b)=namesF f (namesF f ns a) b:=by
 conv=>lhs;unfold namesF
 rfl
theorem Wk (f:Nat) (ns:List (List UInt8)) (x:List UInt8) (a b c:Tm):namesF (f+1) ns (tF x a b c)=namesF f (namesF f (namesF f ns a) b) c:=by
 conv=>lhs;unfold namesF
 rfl
theorem Wl (f:Nat) (ns:List (List UInt8)):namesF (f+1) ns tNil=ns:=by unfold namesF;rfl
theorem Dd (ns:List (List UInt8)) (y:Nat):aK ns (qA y)=cW (cW ns [65]) [90]:=by
 show namesF 8 ns (tF nApp (tV 65) (tL [y]) (tV 90))=_
 rw[Wk,Dc,names_tL,Dc]
theorem Gq (ns:List (List UInt8)) (i d:Nat):aK ns (ND i d)=cW (cW ns [sx i]) [sx (i+1)]:=by
 show namesF 8 (namesF 8 ns (tV (sx i))) (tC (tD d) (tV (sx (i+1))))=_
 rw[Dc,Wj,Wi,Dc]
theorem De (ns:List (List UInt8)) (i:Nat):aK ns ⟨tV (sx i),[61],some tNil,[],none⟩=cW ns [sx i]:=by
 show namesF 8 (namesF 8 ns (tV (sx i))) tNil=_
 rw[Dc,Wl]
def EH (n:Nat):List (List UInt8):=[65] :: [90] :: (List.range n).map fun i=>[sx (i+1)]
theorem q_nm:∀(a:List Nat) (y:Nat),a.length≤4→ay [] (qA y :: eqs 0 a)=EH a.length
 | [],y,_=>by simp only[ay,eqs,List.foldl_cons,List.foldl_nil,Dd,De,List.length_nil];decide
 | [a],y,_=>by simp only[ay,eqs,List.foldl_cons,List.foldl_nil,Dd,Gq,De,List.length_cons,List.length_nil];decide
 | [a,b],y,_=>by simp only[ay,eqs,List.foldl_cons,List.foldl_nil,Dd,Gq,De,List.length_cons,List.length_nil];decide
 | [a,b,c],y,_=>by simp only[ay,eqs,List.foldl_cons,List.foldl_nil,Dd,Gq,De,List.length_cons,List.length_nil];decide
 | [a,b,c,d],y,_=>by simp only[ay,eqs,List.foldl_cons,List.foldl_nil,Dd,Gq,De,List.length_cons,List.length_nil];decide
 | a :: b :: c :: d :: e :: l,y,h=>by simp at h
def wF (n:Nat):fx:=⟨.v,fun _ _=>false,0,false,false,none :: (List.range (n+1)).map fun i=>some (false,i),0⟩
def mP (n:Nat) (x:List UInt8):U:= .v ([],1+(EH n).idxOf x)
theorem Tu (n:Nat):mP n [65]=vn 1:=rfl
theorem Tv (n:Nat):mP n [90]=vn 2:=by
 unfold mP EH
 rw[show List.idxOf [90] ([65] :: [90] :: (List.range n).map fun i=>[sx (i+1)])=1 by simp[List.idxOf_cons]]
 rfl
theorem env_x:∀n,n≤4→∀i,i≤n→1+(EH n).idxOf [sx i]=xv n false i:=by decide
theorem JI (n:Nat) (hn:n≤4) (a:List Nat) (y:Nat) (ha:a.length=n):∀(l:List Nat) (i:Nat),i+l.length=n→l=a.drop i→(eqs i l).map (MG.of (mP n))=(List.range (l.length+1)).map fun k=>(wF n).gU a y (some (false,i+k))
 | [],i,h,hl=>by
  have hi:i=a.length:=by simp at h;omega
  have e:mP n [sx i]=vn (xv n false i):=by unfold mP vn;rw[env_x n hn i (by simp at h;omega)]
  rw[eqs,List.map_cons,List.map_nil,of_eq,wm,e,show bA (mP n) 8 tNil=lsU []from Mj _ [] 8 (by simp)]
  show _=[MG.rd (vn (xv a.length false (i+0))) [61] (sub .v (jP a y false (i+0))) [] zU]
  rw[Nat.add_zero,hi,oF,←ha]
  rw[hi]at*
  rfl
 | d :: l,i,h,hl=>by
  rw[List.length_cons]at h
  have hi:i<a.length:=by omega
  have hd:a.drop i=a[i] :: a.drop (i+1):=List.drop_eq_getElem_cons hi
  rw[hd]at hl
  injection hl with h1 h2
  have e:mP n [sx i]=vn (xv n false i):=by unfold mP vn;rw[env_x n hn i (by omega)]
  have e':mP n [sx (i+1)]=vn (xv n false (i+1)):=by unfold mP vn;rw[env_x n hn (i+1) (by omega)]
  rw[eqs,List.map_cons,JI n hn a y ha l (i+1) (by omega) h2,List.length_cons,List.range_succ_eq_map (n:=l.length+1),List.map_cons,List.map_map]
  refine List.cons_eq_cons.2 ⟨?_,List.map_congr_left fun k _=> ?_⟩
  ·unfold ND
   rw[of_eq,wm,e,NB,Sz,wm,e']
   show _=MG.rd (vn (xv a.length false i)) [61] (sub .v (jP a y false i)) [] zU
   rw[oD hi,h1,ha]
   rfl
  ·show (wF n).gU a y (some (false,i+1+k))=(wF n).gU a y (some (false,i+(k+1)))
   rw[show i+1+k=i+(k+1)by omega]
theorem JJ (a:List Nat) (y:Nat) (ha:a.length≤4) (script:List (Int×Int)):oh a y script (kB 1 (ay [] (qA y :: eqs 0 a)) (qA y :: eqs 0 a)) 0 (wF a.length) [] 0:=by
 have e:(wF a.length).st a y=kB 1 (ay [] (qA y :: eqs 0 a)) (qA y :: eqs 0 a):=by
  rw[q_nm a y ha]
  unfold kB
  have hl:(EH a.length).length=a.length+2:=by simp[EH]
  rw[hl,List.map_cons]
  have hg:=JI a.length ha a y rfl a 0 (by omega) rfl
  show (⟨_,_,_⟩:MS)=⟨_,MG.of (mP a.length) (qA y) :: (eqs 0 a).map (MG.of (mP a.length)),_⟩
  rw[hg]
  show (⟨(List.range (a.length+2)).map fun k=>U.v ([],k+1),(wF a.length).gU a y none :: ((List.range (a.length+1)).map fun i=>some (false,i)).map ((wF a.length).gU a y),a.length+3+0⟩:MS)=_
  congr 1
  ·refine List.map_congr_left fun k _=> ?_
   rw[Nat.add_comm 1 k]
  ·refine List.cons_eq_cons.2 ⟨?_,?_⟩
   ·show (⟨dZ (vn (xv a.length false 0)) y (xv a.length true 0),[],zU,[],zU,false,fun v=>false=true∧v=xv a.length false 0⟩:MG)=_
    rw[Gp,show qA y=⟨tF nApp (tV 65) (tL [y]) (tV 90),[],none,[],none⟩from rfl,EG,SG,wm,wm,Mj _ [y] 7 (by simp),Tu,Tv]
    rfl
   ·rw[List.map_map]
    refine List.map_congr_left fun k _=> ?_
    rw[Nat.zero_add]
    rfl
  ·omega
 refine⟨by rw[e];exact .start,⟨?_,fun b j=> ?_,?_,Nat.zero_le _,(fun q=>by cases q),(fun j q=>by cases q),fun _ _ _ _=>rfl,(fun _ _ _ q=>by cases q),(fun q=>by cases q),?_⟩,rfl,rfl,rfl,rfl,rfl,Nat.zero_le _⟩
 ·show (none :: (List.range (a.length+1)).map fun i=>some (false,i)).Nodup
  rw[List.nodup_cons]
  refine⟨by simp,?_⟩
  exact List.Pairwise.map _ (fun i j h q=>h (by injection q with q;injection q)) List.nodup_range
 ·show some (b,j)∈none :: (List.range (a.length+1)).map (fun i=>some (false,i))↔j≤a.length∧(b=true→j<0∨false=true)∧false=false
  simp only[List.mem_cons,List.mem_map,List.mem_range,reduceCtorEq,false_or,Option.some.injEq,Prod.mk.injEq]
  constructor
  ·rintro⟨i,hi,rfl,rfl⟩
   exact⟨by omega,(fun q=>by cases q),trivial⟩
  ·rintro⟨h1,h2,_⟩
   refine⟨j,by omega,?_,rfl⟩
   cases b with
   | false=>rfl
   | true=>
    have:=h2 rfl
    simp at this
 ·show none∈none :: _↔false=false
  simp
 ·show (none :: (List.range (a.length+1)).map fun i=>some (false,i)).length+0=a.length+2+0
  simp
theorem Pb (a:List Nat) (y:Nat) (ha:a.length≤4) (script:List (Int×Int)) (hs:script.length=4*(a.length+1)):∃log,pq [app1,app2] script (kB 1 (ay [] (qA y :: eqs 0 a)) (qA y :: eqs 0 a)) 1 log ((wE a y).map txL) [] []∧log.count 1=1∧log.count 2=a.length∧log.count 0=2*(a.length+1)∧log.length≤script.length:=Ms ha (JJ a y ha script) hs
end Za
