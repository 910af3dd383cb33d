import Derived.Test.YthfjnfcekeknlabGreatDoorPx33
import Derived.Test.YthfjnfcekeknlabGreatDoorPx35
set_option maxHeartbeats 8000000
set_option maxRecDepth 100000
set_option linter.unusedSimpArgs false
set_option linter.unusedVariables false
namespace af
variable {t:Tm} {x:dq} {c:dE} {s:ByteArray} {L:List bX} {cs:List dE}
theorem pj (h:jd t) (f:Nat):mi fX (f+1) t=t:=by
 obtain⟨ha,⟨hk,_⟩ | ⟨hk,_⟩ | ⟨hk,_⟩⟩:=h
 ·unfold mi;rw[aH hk];cases t;simp_all [fX]
 ·unfold mi;rw[aG (by omega),aH hk];cases t;simp_all [fX]
 ·unfold mi;rw[aG (by omega),aG (by omega)];cases t;simp_all
theorem AS:∀(d:Nat) (t:Tm) (f:Nat),gT d t->d<f->mi fX f t=t
 | 0,t,f+1,h,_=>pj h f
 | d+1,t,f+1,h,hf=>by
  rcases h with h | ⟨hk,ht,a,ha,h⟩ | ⟨hk,ht,a,b,ha,h,h'⟩
  ·exact pj h f
  ·unfold mi;rw[aG (by omega),aG (by omega),ha,aY,bV,AS d a f h (by omega),<-ha,<-hk];cases t;rfl
  ·unfold mi;rw[aG (by omega),aG (by omega),ha,aY,aY,bV,AS d a f h (by omega),AS d b f h' (by omega),<-ha,<-hk];cases t;rfl
theorem DV (h:pC t):mi fX 8 t=t:=by
 obtain⟨hk,h⟩:=h;unfold mi;rw[aG (by omega),aG (by omega)];rcases h with⟨_,ha⟩ | ⟨_,ha | ⟨a,ha,h⟩ | ⟨a,b,ha,h,h'⟩⟩
 ·rw[ha,bV,<-ha,<-hk];cases t;rfl
 ·rw[ha,bV,<-ha,<-hk];cases t;rfl
 ·rw[ha,aY,bV,AS 1 a 7 h (by omega),<-ha,<-hk];cases t;rfl
 ·rw[ha,aY,aY,bV,AS 1 a 7 h (by omega),AS 1 b 7 h' (by omega),<-ha,<-hk];cases t;rfl
theorem DU (h:FV x):B6 fX x=x:=by
 cases h with
 | call t h=>unfold B6;rw[DV h];rfl
 | eq a b ha hb=>unfold B6;rw[AS 1 a 8 ha (by omega)];show (⟨a,[61],some (mi fX 8 b),[],none⟩:dq)=_;rw[AS 1 b 8 hb (by omega)]
theorem Lf (h:NC x):B6 fX x=x:=by
 cases h with
 | int a h=>
  unfold B6;have:mi fX 8 ⟨2,⟨#[105,110,116]⟩,[a]⟩=⟨2,⟨#[105,110,116]⟩,[a]⟩:=by show (⟨2,⟨#[105,110,116]⟩,[mi fX 7 a]⟩:Tm)=_;rw[pj h 6]
  rw[this];rfl
 | rel a b g ha hb hg=>unfold B6;rw[pj ha 7];show (⟨a,g,some (mi fX 8 b),[],none⟩:dq)=_;rw[pj hb 7]
theorem mZ {α:Type} {f:α->α}:∀{l:List α},(∀x∈l,f x=x)->l.map f=l
 | [],_=>rfl
 | x :: l,h=>by rw[aY,h x (by simp),mZ fun y hy=>h y (by simp[hy])]
theorem Nk (h:gC c):Ow fX c=c:=by
 unfold Ow;rw[DV h.head,mZ fun x hx=>DU (h.goals x hx),mZ fun x hx=>Lf (by
  rcases h.tests with q | ⟨y,q,hy⟩
  ·rw[q]at hx;cases hx
  ·rw[q]at hx;rw[a8.1 hx];exact hy)]
theorem Fg (h:Oa cs) (hs:s=⟨(iW cs).toArray⟩) (hL:eM s L) (hh:hd L=next s 0):∃l',prog 12 L= .inr (cs,l'):=by obtain⟨l',e⟩:=AF (σ:=fun _=>fX) (b:=false) cs 12 (by have:=h.1;omega) (fun c hc=>(Mv (b:=false) gV (h.2 c hc)).1) s 0 L ⟨hL,hh⟩ (Mz hs);exact⟨l',by rw[e,mZ fun c hc=>Nk (h.2 c hc)]⟩
end af
namespace Go.Proofs.YthfjnfcekeknlabGreatDoor
open Go.RowKit af
theorem M0 (W:World) (he:B0 W) {cs:List af.dE} {ys:List dq} (hc:Oa cs) (hg:O2 ys) {script:List (Int×Int)} {so:Option Addr} {sc:Nat} (hsc:tU W so script) (hsr:∀p∈script,(-9223372036854775808<=p.1/\p.1<=9223372036854775807)/\(-9223372036854775808<=p.2/\p.2<=9223372036854775807)) (hsl:script.length<=100):
 Calls Tryz.prog 8 #[.string ⟨(iW cs).toArray⟩,.string ⟨(jF fX false ys).toArray⟩,.slice so script.length sc] W fun e w'=>(∀c∈cs,pV c)/\∃(R:Value) (r:Nat->Nat) (P:Nat->Prop) (S0:MS) (en:Int) (log:List Int) (vals gols:List (List UInt8)) (wts:List Bool),e= .returned (.tuple #[R,.int .i64 0])/\fH r P (mQ 1 (bE [] ys) ys) S0/\oR cs script S0 en log vals gols wts/\NQ w' W.heap.size R en log vals gols wts/\Below W.heap.size W w':=by
 obtain⟨LP,hP,hPh,hPl⟩:=rt (⟨(iW cs).toArray⟩:ByteArray);obtain⟨LQ,hQ,hQh,hQl⟩:=rt (⟨(jF fX false ys).toArray⟩:ByteArray);have hps:(⟨(iW cs).toArray⟩:ByteArray).size<=240:=sC hc;have hqs:(⟨(jF fX false ys).toArray⟩:ByteArray).size<=96:=by have:=G5 hg.2.2 hg.2.1;show (jF fX false ys).toArray.size<=96;rw[List.size_toArray];omega
 have hok:=Ol (sp:=(⟨(iW cs).toArray⟩:ByteArray)) (LP:=LP) hPl hQ hQh;obtain⟨l1,e1⟩:=Fg hc rfl hP hPh;have e2:∃l2,query LQ= .inr (ys,l2):=by
  cases ys with
  | nil=>exact absurd rfl hg.1
  | cons x xs=>obtain⟨l2,e2⟩:=Kz (x:=x) (xs:=xs) rfl (by have:=hg.2.1;simp at this;omega) (ju gV (hg.2.2 x (by simp))).1 (fun y hy=>(ju gV (hg.2.2 y (by simp[hy]))).1) hQ hQh;exact⟨l2,by rw[e2,mZ fun y hy=>DU (hg.2.2 y hy)]⟩
 obtain⟨l2,e2⟩:=e2;refine(Ks W _ LP _ LQ script so sc hP hPh hPl hQ hQh (fun h=>hQl (by omega)) he.sg he.pos he.pow hok hsc hsr).mono fun e w' h=> ?_;rcases KI hok h with⟨er,h1,h2,_⟩ | ⟨h1,h2,h3,cls',l1',ys',l2',R,h4,h5,hk,_,h7,h9,r,P,S0,en,log,vals,gols,wts,q1,q2,q3⟩
 ·exfalso;have z1:uh (⟨(iW cs).toArray⟩:ByteArray) LP=0:=by unfold uh;rw[aG (by omega),e1];rfl
  have z2:xk (⟨(jF fX false ys).toArray⟩:ByteArray) LQ=0:=by unfold xk;rw[aG (by omega),e2]
  rw[z1,z2,aG (by simp),aG (by omega)]at h2;exact h1 h2
 ·rw[e1]at h4;rw[e2]at h5;injection h4 with h4;injection h4 with h4 _;injection h5 with h5;injection h5 with h5 _;subst h4 h5;exact⟨hk,R,r,P,S0,en,log,vals,gols,wts,h7,q1,q2,q3,h9⟩
end Go.Proofs.YthfjnfcekeknlabGreatDoor
namespace af
open Go.Proofs.YthfjnfcekeknlabGreatDoor (jX jp)
def tA:Tm:=⟨2,⟨#[97]⟩,[]⟩
def N7:Tm:=⟨2,⟨#[116,114,117,101]⟩,[]⟩
def cW:dE:=⟨⟨2,⟨#[112]⟩,[tA]⟩,[],[⟨N7,[],none,[],none⟩]⟩
def KF:dq:=⟨⟨2,⟨#[112]⟩,[tV 88]⟩,[],none,[],none⟩
def KD:dq:=⟨tV 88,[61],some tA,[],none⟩
theorem Mt:jd tA:=⟨rfl,aw (aw ⟨rfl,by simp[tA,vF]⟩)⟩
theorem Ms:jd (tV 88):=⟨rfl,ay ⟨rfl,by simp[tV,Bh]⟩⟩
theorem NJ:pC N7:=⟨rfl,ay ⟨rfl,rfl⟩⟩
theorem Mx {t:Tm} (h:jd t):pC ⟨2,⟨#[112]⟩,[t]⟩:=⟨rfl,aw ⟨by simp[py],aw (ay ⟨t,rfl,ay h⟩)⟩⟩
theorem OL:Oa [cW]:=⟨by simp,fun c hc=>by rw[a8.1 hc];exact⟨Mx Mt,ay rfl,fun x hx=>by rw[a8.1 hx];exact .call _ NJ,by simp[cW],fun q=>by cases q⟩⟩
theorem Om:O2 [KF,KD]:=⟨by simp,by simp,fun x hx=>by
 simp only[bh,cC,gq]at hx;rcases hx with rfl | rfl
 ·exact .call _ (Mx Ms)
 ·exact .eq _ _ (ay Ms) (ay Mt)⟩
def aU:U:= .n 1 [97] 0 []
def pU (u:U):U:= .n 1 [112] 0 [u]
def N6:U:= .n 1 [116,114,117,101] 0 []
theorem O6 (η:List UInt8->U) (f:Nat):fb η (f+1) tA=aU:=MN η f [97] []
theorem Og (η:List UInt8->U) (f:Nat):fb η (f+1) N7=N6:=MN η f [116,114,117,101] []
theorem xO:bE [] [KF,KD]=[[88]]:=by
 show aP 8 (aP 8 (aP 8 [] ⟨2,⟨#[112]⟩,[tV 88]⟩) (tV 88)) tA=_;have e1:∀(f:Nat) (ns:List (List UInt8)),aP (f+1) ns (tV 88)=jf ns [88]:=fun f ns=>by unfold aP;show jf ns (⟨[88].toArray⟩:ByteArray).toList=_;rw[fx]
 have e2:aP 8 [] ⟨2,⟨#[112]⟩,[tV 88]⟩=[[88]]:=by
  conv=>lhs;unfold aP
  show aP 7 [] (tV 88)=_;rw[e1];rfl
 rw[e2,e1];unfold aP;rfl
theorem xN:mQ 1 (bE [] [KF,KD]) [KF,KD]=⟨[vn 1],[MG.rd (pU (vn 1)) [] zU [] zU,MG.rd (vn 1) [61] aU [] zU],2⟩:=by
 rw[xO];unfold mQ;rw[aY,aY,bV];have h1:MG.of (fun y=> .v ([],1+[[88]].idxOf y)) KF=MG.rd (pU (vn 1)) [] zU [] zU:=by show MG.rd (fb _ 8 ⟨2,⟨#[112]⟩,[tV 88]⟩) [] zU [] zU=_;rw[show (fb (fun y=> .v ([],1+[[88]].idxOf y)) 8 ⟨2,⟨#[112]⟩,[tV 88]⟩:U)= .n 1 [112] 0 [fb (fun y=> .v ([],1+[[88]].idxOf y)) 7 (tV 88)]from MN _ 7 [112] [tV 88],Of];rfl
 have h2:MG.of (fun y=> .v ([],1+[[88]].idxOf y)) KD=MG.rd (vn 1) [61] aU [] zU:=by show MG.rd (fb _ 8 (tV 88)) [61] (fb _ 8 tA) [] zU=_;rw[Of,O6];rfl
 rw[h1,h2];rfl
theorem NL (lim x:Nat):eK lim (pU (vn x)) cW=(3,[x]):=by
 have h:(dB 8 cW.head (pU (vn x)) ⟨[],Wn.none⟩).w=⟨[x],false⟩:=by simp[dB,fN,jl,cW,pU,tA,vn,Wn.wait,Wn.none,gA,fx]
 unfold eK;rw[h];rfl
theorem Gb (g:Tm->U->fO->fO) (p:Tm) (u:U) (l:fO):fN g [p] [u] l=g p u l:=rfl
theorem Gc (g:Tm->U->fO->fO) (us:List U) (l:fO):fN g [] us l=l:=by cases us<;>rfl
theorem NK (lim:Nat):(eK lim (pU aU) cW).1=1:=by
 have e1:cW.head.text.toList=[112]:=fx [112];have e2:tA.text.toList=[97]:=fx [97];have e3:cW.head.args=[tA]:=rfl;have e4:tA.args=[]:=rfl;have h:dB 8 cW.head (pU aU) ⟨[],Wn.none⟩=⟨[],Wn.none⟩:=by unfold pU;rw[gf _ (by decide) ⟨by unfold jl;rw[aG (by decide),e1],rfl⟩,e3,Gb];unfold aU;rw[gf _ (by decide) ⟨by unfold jl;rw[aG (by decide),e2],rfl⟩,e4,Gc]
 exact L6 h rfl
theorem Jj:eW [cW] [112] 1 1=List.range 1:=by simp[eW,cW,Fq,List.range,List.range.loop,fx]
theorem My:NH cW=[]:=by simp[NH,cW,tA,aP]
theorem OM:NG cW=[]:=by unfold NG NT;rw[My];simp[cW,N7,bE,bU,e7,aP]
theorem Eu:oR [cW] [(0,0),(0,0),(0,0)] (mQ 1 (bE [] [KF,KD]) [KF,KD]) 3 [-1,0,1] [[97]] [[116,114,117,101]] [false]:=by
 rw[xN];have hown:eW [cW] [112] [vn 1].length [cW].length=List.range 1:=Jj;have c0:[cW][jp (eW [cW] [112] [vn 1].length [cW].length) (jX 0 (eW [cW] [112] [vn 1].length [cW].length).length) 0]?=some cW:=by rw[hown];rfl
 have an:∀(i:Nat) (c:dE),[cW][i]?=some c->eK 2 (pU (vn 1)) c=(3,[1]):=fun i c hc=>by
  match i,hc with
  | 0,hc=>injection hc with hc;subst hc;exact NL 2 1
 have hon:(fun v=>∃(t:Nat) (c:dE),t<(eW [cW] [112] [vn 1].length [cW].length).length/\[cW][jp (eW [cW] [112] [vn 1].length [cW].length) (jX 0 (eW [cW] [112] [vn 1].length [cW].length).length) t]?=some c/\(eK 2 (pU (vn 1)) c).1=3/\v∈(eK 2 (pU (vn 1)) c).2)=fun v=>true=true/\v=1:=by
  funext v;refine mI ⟨fun⟨t,c,_,hc,_,hv⟩=> ?_,fun⟨_,hv⟩=>⟨0,cW,by rw[hown];decide,c0,cL Prod.fst (an _ _ c0),?_⟩⟩
  ·rw[an _ c hc]at hv;exact⟨rfl,a8.1 hv⟩
  ·rw[an _ _ c0,hv];exact a8.2 rfl
 have bv:∀n,big (vn n)=false:=fun n=>C2 (by unfold vn;rw[size];omega);have ba:big aU=false:=C2 (by unfold aU;simp[size,b8]);have bz:big zU=false:=C2 (by rw[MV];omega);have s1:kW [cW] ⟨[vn 1],[MG.rd (pU (vn 1)) [] zU [] zU,MG.rd (vn 1) [61] aU [] zU],2⟩ ⟨[vn 1],[⟨pU (vn 1),[],zU,[],zU,true,fun v=>true=true/\v=1⟩,MG.rd (vn 1) [61] aU [] zU],2⟩ 0 0 (-1):=by
  refine⟨Qw,MG.rd (pU (vn 1)) [] zU [] zU,rfl,aw (aw (aw (aw (aw ⟨_,_,⟨rfl,[112],[vn 1],rfl,(fun q=>by have:=q.1;revert this;decide),rfl,rfl⟩,rfl,(fun t c _ hc q=> ?_),⟨0,cW,by rw[hown];decide,c0,cL Prod.fst (an _ _ c0)⟩,rfl,?_⟩))))⟩
  ·have q':(eK 2 (pU (vn 1)) c).1=1:=q;rw[an _ c hc]at q';cases q'
  ·rw[<-hon];rfl
 have r1:jk [cW] [(0,0),(0,0),(0,0)] ⟨[vn 1],[MG.rd (pU (vn 1)) [] zU [] zU,MG.rd (vn 1) [61] aU [] zU],2⟩ 1 ⟨[vn 1],[⟨pU (vn 1),[],zU,[],zU,true,fun v=>true=true/\v=1⟩,MG.rd (vn 1) [61] aU [] zU],2⟩ ([]++[-1]):= .step .start rfl rfl s1 (by simp[sV,rj,pU,bv,ba,bz,MG.rd]);have s2:kW [cW] ⟨[vn 1],[⟨pU (vn 1),[],zU,[],zU,true,fun v=>true=true/\v=1⟩,MG.rd (vn 1) [61] aU [] zU],2⟩ ⟨[aU],[MG.rd (pU aU) [] zU [] zU],2⟩ 1 0 0:=by
  refine⟨Qw,MG.rd (vn 1) [61] aU [] zU,rfl,ay ⟨rfl,rfl,_,JU (k:=1) (t:=aU) (fun q=>by unfold aU at q;simp[has,Fr]at q) (fun y q=>by cases q),?_,?_⟩⟩
  ·show [aU]=[sub (one ([],1) aU) (vn 1)];rw[Cg,qk]
  ·show [MG.rd (pU aU) [] zU [] zU]=[MG.put (one ([],1) aU) ⟨pU (vn 1),[],zU,[],zU,true,fun v=>true=true/\v=1⟩];rw[GY (by rw[qk];intro q;cases q)];have:sub (one ([],1) aU) (pU (vn 1))=pU aU:=by unfold pU;rw[dS,aY,bV,Cg,qk]
   rw[this,MH];unfold MG.rd;congr 2;funext v;simp
 have r2:jk [cW] [(0,0),(0,0),(0,0)] ⟨[vn 1],[MG.rd (pU (vn 1)) [] zU [] zU,MG.rd (vn 1) [61] aU [] zU],2⟩ 2 ⟨[aU],[MG.rd (pU aU) [] zU [] zU],2⟩ ([]++[-1]++[0]):= .step r1 rfl rfl s2 (by simp[sV,rj,pU,ba,bz,MG.rd]);obtain⟨k,c,hk,_,hst⟩:=Jg (cls:=[cW]) (tx:=[112]) (us:=[aU]) Jj (S:=⟨[aU],[MG.rd (pU aU) [] zU [] zU],2⟩) (i:=0) (g:=MG.rd (pU aU) [] zU [] zU) rfl rfl rfl (by decide) 0 ⟨0,cW,rfl,NK 2⟩;have hk0:k=0/\c=cW:=by
  match k,hk with
  | 0,hk=>exact⟨rfl,by injection hk with hk;exact hk.symm⟩
 obtain⟨rfl,rfl⟩:=hk0;have s3:=hst [] ⟨[aU],[MG.rd N6 [] zU [] zU],2⟩ (by rw[My,OM];rfl) List.Pairwise.nil (fun f hf=>by cases hf) Qw rfl (by show _=[]++[MG.rd (fb _ 8 N7) [] zU [] zU];rw[Og];rfl);have r3:jk [cW] [(0,0),(0,0),(0,0)] ⟨[vn 1],[MG.rd (pU (vn 1)) [] zU [] zU,MG.rd (vn 1) [61] aU [] zU],2⟩ 3 ⟨[aU],[MG.rd N6 [] zU [] zU],2⟩ ([]++[-1]++[0]++[1]):= .step r2 rfl rfl s3 (by simp[sV,rj,N6,ba,MG.rd]);refine⟨3,_,_,r3,ay ⟨ay rfl,rfl,rfl,?_,?_,rfl⟩⟩
 ·show _=[d7 Go.Lib.itoa (cJ [] aU) aU];unfold aU;rw[mf];rfl
 ·show _=[d7 Go.Lib.itoa _ N6];unfold N6;rw[mf];rfl
end af
namespace af
theorem J6:iW [cW]=[112,40,97,41,58,45,116,114,117,101,46]:=by simp[iW,KN,pT,jF,jG,fC,cW,tA,N7,tR,sp,nl,fx]
theorem J5:jF fX false [KF,KD]=[112,40,88,41,44,88,61,97]:=by simp[jF,jG,fC,KF,KD,tA,tV,tR,sp,fx,fX]
end af
namespace Go.Proofs.YthfjnfcekeknlabGreatDoor
open Go.RowKit af
variable {b n:Nat} {w:World} {T:TypeId} {x:ByteArray} {z y:Int}
theorem Et (W:World) (T:TypeId):tU (W.alloc (.cells #[.int .i64 0,.int .i64 0,.int .i64 0,.int .i64 0,.int .i64 0,.int .i64 0] T)) (some ⟨W.heap.size,0,none⟩) [(0,0),(0,0),(0,0)]:=fun _=>⟨W.heap.size,0,rfl,by simp,fun i hi=>by
 have b:=aN (aB W (.cells #[.int .i64 0,.int .i64 0,.int .i64 0,.int .i64 0,.int .i64 0,.int .i64 0] T))
 match i,hi with
 | 0,_=>exact⟨b 0,b 1⟩
 | 1,_=>exact⟨b 2,b 3⟩
 | 2,_=>exact⟨b 4,b 5⟩⟩
theorem GO {x:Int} (h:w.heap[b]?=some (.cells #[.int .i64 x,.int .i64 y,.int .i64 z] T (0,0))):mG w (some ⟨b,0,none⟩) [x,y,z]:=fun _=>⟨b,rfl,aD h,fun i hi=>by
 match i,hi with
 | 0,_=>exact aN h 0
 | 1,_=>exact aN h 1
 | 2,_=>exact aN h 2⟩
theorem Ar (h:w.heap[b]?=some (.cells #[.string x] T (0,0))):lT w (some ⟨b,0,none⟩) [x]:=fun _=>⟨b,rfl,aD h,fun i hi=>by
 match i,hi with
 | 0,_=>exact aN h 0⟩
theorem GP {x:Bool} (h:w.heap[b]?=some (.cells #[.bool x] T (0,0))):qJ w (some ⟨b,0,none⟩) [x]:=fun _=>⟨b,rfl,aD h,fun i hi=>by
 match i,hi with
 | 0,_=>exact aN h 0⟩
theorem qr (w:World) (X:Obj) (h:w.heap.size=n):(w.alloc X).heap[n]?=some X:=by rw[<-h];exact aB w X
theorem MJ (W:World) (he:B0 W):
 Calls Tryz.prog 13 #[] W fun e w'=>e= .returned (.bool true)/\Below W.heap.size W w':=by
 have hb1:=(al W.heap.size W).alloc Qw (.cells #[.int .i64 0,.int .i64 0,.int .i64 0,.int .i64 0,.int .i64 0,.int .i64 0] 49);have IR:=ah (M0 (W.alloc (.cells #[.int .i64 0,.int .i64 0,.int .i64 0,.int .i64 0,.int .i64 0,.int .i64 0] 49)) (he.below hb1) OL Om (script:=[(0,0),(0,0),(0,0)]) (so:=some ⟨W.heap.size,0,none⟩) (sc:=3) (Et W _) (by simp) (by simp));rw[J6,J5]at IR;have HB1:=ah hb1;clear hb1 he;go_enter Tryz.func13,Tryz.ntmps13;go_wp2_with fail;refine(ae IR).mono ?_;rintro e w2 ⟨hok,R,r,P,S0,en,log,vals,gols,wts,rfl,hrel,hend,⟨lo,lc,xo,xc,go,gc,yo,yc,rfl,r1,r2,r3,r4,_⟩,hb2⟩;obtain⟨rfl,rfl,rfl,rfl,rfl⟩:=oR.same hok hrel Eu hend;have HB2:=ah ((ae HB1).trans (hb2.mono (by simp)));have HR1:=ah (mG.iB r1);have HR2:=ah (lT.iB (ys:=[[97]]) r2);have HR3:=ah (lT.iB (ys:=[[116,114,117,101]]) r3);have HR4:=ah (qJ.iB r4);clear hrel hend hok r1 r2 r3 r4 hb2 IR;go_upto_region 3 with fail;have k0:=aQ (aQ (aQ (aQ (aQ (qr w2 (.cells #[.int .i64 3,.slice lo 3 lc,.slice xo 1 xc,.slice go 1 gc,.slice yo 1 yc] 29) (n:=w2.heap.size) (by simp)) (.cells #[.int .i64 (-1),.int .i64 0,.int .i64 1] 3)) (.cells #[.string ⟨#[97]⟩] 9)) (.cells #[.string ⟨#[116,114,117,101]⟩] 9)) (.cells #[.bool false] 4)) (.cells #[.int .i64 3,.slice (some ⟨w2.heap.size+1,0,none⟩) 3 3,.slice (some ⟨w2.heap.size+1+1,0,none⟩) 1 1,.slice (some ⟨w2.heap.size+1+1+1,0,none⟩) 1 1,.slice (some ⟨w2.heap.size+1+1+1+1,0,none⟩) 1 1] 29);have k1:=aQ (aQ (aQ (aQ (qr (w2.alloc (.cells #[.int .i64 3,.slice lo 3 lc,.slice xo 1 xc,.slice go 1 gc,.slice yo 1 yc] 29)) (.cells #[.int .i64 (-1),.int .i64 0,.int .i64 1] 3) (n:=w2.heap.size+1) (by simp)) (.cells #[.string ⟨#[97]⟩] 9)) (.cells #[.string ⟨#[116,114,117,101]⟩] 9)) (.cells #[.bool false] 4)) (.cells #[.int .i64 3,.slice (some ⟨w2.heap.size+1,0,none⟩) 3 3,.slice (some ⟨w2.heap.size+1+1,0,none⟩) 1 1,.slice (some ⟨w2.heap.size+1+1+1,0,none⟩) 1 1,.slice (some ⟨w2.heap.size+1+1+1+1,0,none⟩) 1 1] 29);have k2:=aQ (aQ (aQ (qr ((w2.alloc (.cells #[.int .i64 3,.slice lo 3 lc,.slice xo 1 xc,.slice go 1 gc,.slice yo 1 yc] 29)).alloc (.cells #[.int .i64 (-1),.int .i64 0,.int .i64 1] 3)) (.cells #[.string ⟨#[97]⟩] 9) (n:=w2.heap.size+1+1) (by simp)) (.cells #[.string ⟨#[116,114,117,101]⟩] 9)) (.cells #[.bool false] 4)) (.cells #[.int .i64 3,.slice (some ⟨w2.heap.size+1,0,none⟩) 3 3,.slice (some ⟨w2.heap.size+1+1,0,none⟩) 1 1,.slice (some ⟨w2.heap.size+1+1+1,0,none⟩) 1 1,.slice (some ⟨w2.heap.size+1+1+1+1,0,none⟩) 1 1] 29);have k3:=aQ (aQ (qr (((w2.alloc (.cells #[.int .i64 3,.slice lo 3 lc,.slice xo 1 xc,.slice go 1 gc,.slice yo 1 yc] 29)).alloc (.cells #[.int .i64 (-1),.int .i64 0,.int .i64 1] 3)).alloc (.cells #[.string ⟨#[97]⟩] 9)) (.cells #[.string ⟨#[116,114,117,101]⟩] 9) (n:=w2.heap.size+1+1+1) (by simp)) (.cells #[.bool false] 4)) (.cells #[.int .i64 3,.slice (some ⟨w2.heap.size+1,0,none⟩) 3 3,.slice (some ⟨w2.heap.size+1+1,0,none⟩) 1 1,.slice (some ⟨w2.heap.size+1+1+1,0,none⟩) 1 1,.slice (some ⟨w2.heap.size+1+1+1+1,0,none⟩) 1 1] 29);have k4:=aQ (qr ((((w2.alloc (.cells #[.int .i64 3,.slice lo 3 lc,.slice xo 1 xc,.slice go 1 gc,.slice yo 1 yc] 29)).alloc (.cells #[.int .i64 (-1),.int .i64 0,.int .i64 1] 3)).alloc (.cells #[.string ⟨#[97]⟩] 9)).alloc (.cells #[.string ⟨#[116,114,117,101]⟩] 9)) (.cells #[.bool false] 4) (n:=w2.heap.size+1+1+1+1) (by simp)) (.cells #[.int .i64 3,.slice (some ⟨w2.heap.size+1,0,none⟩) 3 3,.slice (some ⟨w2.heap.size+1+1,0,none⟩) 1 1,.slice (some ⟨w2.heap.size+1+1+1,0,none⟩) 1 1,.slice (some ⟨w2.heap.size+1+1+1+1,0,none⟩) 1 1] 29);have k5:=qr (((((w2.alloc (.cells #[.int .i64 3,.slice lo 3 lc,.slice xo 1 xc,.slice go 1 gc,.slice yo 1 yc] 29)).alloc (.cells #[.int .i64 (-1),.int .i64 0,.int .i64 1] 3)).alloc (.cells #[.string ⟨#[97]⟩] 9)).alloc (.cells #[.string ⟨#[116,114,117,101]⟩] 9)).alloc (.cells #[.bool false] 4)) (.cells #[.int .i64 3,.slice (some ⟨w2.heap.size+1,0,none⟩) 3 3,.slice (some ⟨w2.heap.size+1+1,0,none⟩) 1 1,.slice (some ⟨w2.heap.size+1+1+1,0,none⟩) 1 1,.slice (some ⟨w2.heap.size+1+1+1+1,0,none⟩) 1 1] 29) (n:=w2.heap.size+1+1+1+1+1) (by simp);have hb6:Below w2.heap.size w2 ((((((w2.alloc (.cells #[.int .i64 3,.slice lo 3 lc,.slice xo 1 xc,.slice go 1 gc,.slice yo 1 yc] 29)).alloc (.cells #[.int .i64 (-1),.int .i64 0,.int .i64 1] 3)).alloc (.cells #[.string ⟨#[97]⟩] 9)).alloc (.cells #[.string ⟨#[116,114,117,101]⟩] 9)).alloc (.cells #[.bool false] 4)).alloc (.cells #[.int .i64 3,.slice (some ⟨w2.heap.size+1,0,none⟩) 3 3,.slice (some ⟨w2.heap.size+1+1,0,none⟩) 1 1,.slice (some ⟨w2.heap.size+1+1+1,0,none⟩) 1 1,.slice (some ⟨w2.heap.size+1+1+1+1,0,none⟩) 1 1] 29)):=((((((al w2.heap.size w2).alloc (by exact Qw) (.cells #[.int .i64 3,.slice lo 3 lc,.slice xo 1 xc,.slice go 1 gc,.slice yo 1 yc] 29)).alloc (by simp) (.cells #[.int .i64 (-1),.int .i64 0,.int .i64 1] 3)).alloc (by simp;omega) (.cells #[.string ⟨#[97]⟩] 9)).alloc (by simp;omega) (.cells #[.string ⟨#[116,114,117,101]⟩] 9)).alloc (by simp;omega) (.cells #[.bool false] 4)).alloc (by simp;omega) (.cells #[.int .i64 3,.slice (some ⟨w2.heap.size+1,0,none⟩) 3 3,.slice (some ⟨w2.heap.size+1+1,0,none⟩) 1 1,.slice (some ⟨w2.heap.size+1+1+1,0,none⟩) 1 1,.slice (some ⟨w2.heap.size+1+1+1+1,0,none⟩) 1 1] 29);generalize ((((((w2.alloc (.cells #[.int .i64 3,.slice lo 3 lc,.slice xo 1 xc,.slice go 1 gc,.slice yo 1 yc] 29)).alloc (.cells #[.int .i64 (-1),.int .i64 0,.int .i64 1] 3)).alloc (.cells #[.string ⟨#[97]⟩] 9)).alloc (.cells #[.string ⟨#[116,114,117,101]⟩] 9)).alloc (.cells #[.bool false] 4)).alloc (.cells #[.int .i64 3,.slice (some ⟨w2.heap.size+1,0,none⟩) 3 3,.slice (some ⟨w2.heap.size+1+1,0,none⟩) 1 1,.slice (some ⟨w2.heap.size+1+1+1,0,none⟩) 1 1,.slice (some ⟨w2.heap.size+1+1+1+1,0,none⟩) 1 1] 29))=w6 at*;have f0:=aN k0;have g0:=aN k5;have z0:=aD k0;have z5:=aD k5;have f00:=f0 0;have f01:=f0 1;have f02:=f0 2;have f03:=f0 3;have f04:=f0 4;have g00:=g0 0;have g01:=g0 1;have g02:=g0 2;have g03:=g0 3;have g04:=g0 4;simp only[aE,aq,aA]at f00 f01 f02 f03 f04 g00 g01 g02 g03 g04;have IS:=ah (GM w6 3 [-1,0,1] [⟨#[97]⟩] [⟨#[116,114,117,101]⟩] [false] lo lc xo xc go gc yo yc (some ⟨w2.heap.size+1,0,none⟩) 3 (some ⟨w2.heap.size+1+1,0,none⟩) 1 (some ⟨w2.heap.size+1+1+1,0,none⟩) 1 (some ⟨w2.heap.size+1+1+1+1,0,none⟩) 1 ((ae HR1).below hb6) (GO k1) ((ae HR2).below hb6) (Ar k2) ((ae HR3).below hb6) (Ar k3) ((ae HR4).below hb6) (GP k4) (by simp) (by simp) (by simp) (by simp));have HB6:=ah ((ae HB2).trans (hb6.mono (ae HB2).size));clear k0 k1 k2 k3 k4 k5 f0 g0 hb6 HR1 HR2 HR3 HR4 HB2;go_wp2_with fail;refine(ae IS).mono ?_;rintro e w7 ⟨rfl,hb7⟩;have HB7:=ah ((ae HB6).trans (hb7.mono (ae HB6).size));clear hb7;go_wp2_with fail;go_ret;exact⟨rfl,ae HB7⟩
