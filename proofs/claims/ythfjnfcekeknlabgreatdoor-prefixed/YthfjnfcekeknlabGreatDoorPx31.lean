import Derived.Test.YthfjnfcekeknlabGreatDoorPx07
import Derived.Deep.LoopGhost
set_option maxHeartbeats 8000000
set_option maxRecDepth 100000
set_option linter.unusedSimpArgs false
namespace af
open Go
variable {x:ByteArray} {σ:nr} {t:Tm} {f a k d e:Nat} {xs:List dq} {b:Bool} {c:dE}
def Bh:List ByteArray:=[⟨#[88]⟩,⟨#[89]⟩,⟨#[90]⟩,⟨#[87]⟩]
def Bj:List ByteArray:=[⟨#[48]⟩,⟨#[49]⟩,⟨#[55]⟩]
def vF:List ByteArray:=[⟨#[97]⟩,⟨#[98]⟩,⟨#[110]⟩]
def jd (t:Tm):Prop:=t.args=[]/\((t.kind=3/\t.text∈Bh)\/(t.kind=4/\t.text∈Bj)\/(t.kind=2/\t.text∈vF))
def gT:Nat->Tm->Prop
 | 0,t=>jd t
 | d+1,t=>jd t\/(t.kind=2/\t.text=⟨#[102]⟩/\∃a,t.args=[a]/\gT d a)\/(t.kind=2/\t.text=⟨#[103]⟩/\∃a b,t.args=[a,b]/\gT d a/\gT d b)
def py:List ByteArray:=[⟨#[112]⟩,⟨#[113]⟩,⟨#[114]⟩]
def pC (t:Tm):Prop:=t.kind=2/\((t.text=⟨#[116,114,117,101]⟩/\t.args=[])\/(t.text∈py/\(t.args=[]\/(∃a,t.args=[a]/\gT 1 a)\/∃a b,t.args=[a,b]/\gT 1 a/\gT 1 b)))
inductive FV:dq->Prop
 | call (t:Tm) (h:pC t):FV ⟨t,[],none,[],none⟩
 | eq (a b:Tm) (ha:gT 1 a) (hb:gT 1 b):FV ⟨a,[61],some b,[],none⟩
inductive NC:dq->Prop
 | int (a:Tm) (h:jd a):NC ⟨⟨2,⟨#[105,110,116]⟩,[a]⟩,[],none,[],none⟩
 | rel (a b:Tm) (g:List UInt8) (ha:jd a) (hb:jd b) (hg:g=[61,61]\/g=[92,61]\/g=[60]\/g=[61,60]):NC ⟨a,g,some b,[],none⟩
structure gC (c:dE):Prop where
 head:pC c.head
 tests:c.tests=[]\/∃x,c.tests=[x]/\NC x
 goals:∀x∈c.goals,FV x
 few:c.goals.length<=3
 fact:c.goals=[]->c.tests=[]
structure Nh (σ:nr) (a:Nat):Prop where
 one:1<=a
 v:∀x∈Bh,jC 3 (σ.v x).toList/\(σ.v x).toList.length<=a
 n:∀x∈Bj,jC 4 (σ.n x).toList/\(σ.n x).size<=6/\(σ.n x).toList.length<=a
def sY (a:Nat):Nat->Nat
 | 0=>a
 | d+1=>4+2*sY a d
theorem D3 (a:Nat):∀d,a<=sY a d
 | 0=>Qw
 | d+1=>by have:=D3 a d;simp only[sY];omega
theorem jt (b:ByteArray) (k:Nat) (c:UInt8) (r:List UInt8) (hb:b.data.toList=c :: r) (hc:k=2/\low c.toNat=true\/k=3/\re c.toNat=true\/k=4/\pX c.toNat=true) (hr:∀d∈c :: r,e9 k d.toNat=true):jC k b.toList:=by rw[bN];exact⟨c,r,hb,hc,by rw[hb];exact hr⟩
theorem AR (h:x∈vF):jC 2 x.toList/\x.toList.length=1:=by simp only[vF,bh,cC,gq]at h;rcases h with rfl | rfl | rfl<;>exact⟨jt _ 2 _ [] rfl (ay ⟨rfl,by decide⟩) (by decide),by rw[bN];rfl⟩
theorem CS (h:x∈py):jC 2 x.toList/\x.toList.length=1:=by simp only[py,bh,cC,gq]at h;rcases h with rfl | rfl | rfl<;>exact⟨jt _ 2 _ [] rfl (ay ⟨rfl,by decide⟩) (by decide),by rw[bN];rfl⟩
theorem Bn (h:x=⟨#[102]⟩\/x=⟨#[103]⟩):jC 2 x.toList/\x.toList.length=1:=by rcases h with rfl | rfl<;>exact⟨jt _ 2 _ [] rfl (ay ⟨rfl,by decide⟩) (by decide),by rw[bN];rfl⟩
theorem gX (h:t.kind=2):fC σ (f+1) t=t.text.toList++tR (t.args.map (fC σ f)):=by unfold fC;rw[aG (by omega),aG (by omega)]
theorem m9 (hS:Nh σ a) (h:jd t) (f:Nat):uf σ (f+1) t/\(fC σ (f+1) t).length<=a:=by
 obtain⟨hA,⟨hk,hx⟩ | ⟨hk,hx⟩ | ⟨hk,hx⟩⟩:=h
 ·refine⟨ay ⟨hk,(hS.v _ hx).1⟩,?_⟩;unfold fC;rw[aH hk];exact(hS.v _ hx).2
 ·refine⟨aw (ay ⟨hk,(hS.n _ hx).1,(hS.n _ hx).2.1⟩),?_⟩;unfold fC;rw[aG (by omega),aH hk];exact(hS.n _ hx).2.2
 ·obtain⟨h1,h2⟩:=AR hx;refine⟨aw (aw ⟨hk,h1,by simp[hA],by simp[hA]⟩),?_⟩;rw[gX hk,hA];simp only[bV,tR,br,h2];exact hS.one
theorem oi {σ:nr} {a:Nat} (hS:Nh σ a):∀(d:Nat) (t:Tm) (f:Nat),gT d t->d<f->uf σ f t/\(fC σ f t).length<=sY a d
 | 0,t,f+1,h,_=>m9 hS h f
 | d+1,t,f+1,h,hf=>by
  rcases h with h | ⟨hk,hx,u,hA,hu⟩ | ⟨hk,hx,u,v,hA,hu,hv⟩
  ·obtain⟨h1,h2⟩:=m9 hS h f;exact⟨h1,aW h2 (D3 a (d+1))⟩
  ·obtain⟨h1,h2⟩:=oi hS d u f hu (by omega);obtain⟨w1,w2⟩:=Bn (ay hx);refine⟨aw (aw ⟨hk,w1,by simp[hA],fun z hz=>by rw[hA]at hz;obtain rfl:=a8.1 hz;exact h1⟩),?_⟩;rw[gX hk,hA];simp only[aY,bV,tR,eR,au,w2,sY,aT,ct,br];omega
  ·obtain⟨h1,h2⟩:=oi hS d u f hu (by omega)
   obtain⟨h3,h4⟩:=oi hS d v f hv (by omega);obtain⟨w1,w2⟩:=Bn (aw hx);refine⟨aw (aw ⟨hk,w1,by simp[hA],fun z hz=>by
    rw[hA]at hz;simp only[bh,cC,gq]at hz;rcases hz with rfl | rfl
    ·exact h1
    ·exact h3⟩),?_⟩
   rw[gX hk,hA];simp only[aY,bV,tR,bM,eR,au,w2,sY,aT,ct,br];omega
theorem tC (hS:Nh σ a) (h:pC t):uf σ 8 t/\(fC σ 8 t).length<=12+4*a/\isInt t=false:=by
 obtain⟨hk,⟨hx,hA⟩ | ⟨hx,hA⟩⟩:=h
 ·refine⟨aw (aw ⟨hk,by rw[hx];exact jt _ 2 116 [114,117,101] rfl (ay ⟨rfl,by decide⟩) (by decide),by simp[hA],by simp[hA]⟩),?_,?_⟩
  ·rw[gX hk,hA,hx,bN];simp[tR];omega
  ·unfold isInt;rw[hA];simp
 ·obtain⟨w1,w2⟩:=CS hx
  have hi:isInt t=false:=by
   unfold isInt;have:(t.text.toList == [105,110,116])=false:=by simp only[mB,ne_eq];intro q;rw[q]at w2;simp at w2
   rw[this];simp
  rcases hA with hA | ⟨u,hA,hu⟩ | ⟨u,v,hA,hu,hv⟩
  ·refine⟨aw (aw ⟨hk,w1,by simp[hA],by simp[hA]⟩),?_,hi⟩;rw[gX hk,hA];simp[tR,w2];omega
  ·obtain⟨h1,h2⟩:=oi hS 1 u 7 hu (by omega);refine⟨aw (aw ⟨hk,w1,by simp[hA],fun z hz=>by rw[hA]at hz;obtain rfl:=a8.1 hz;exact h1⟩),?_,hi⟩;rw[gX hk,hA];simp only[aY,bV,tR,eR,au,w2,sY,aT,ct,br]at h2⊢;omega
  ·obtain⟨h1,h2⟩:=oi hS 1 u 7 hu (by omega)
   obtain⟨h3,h4⟩:=oi hS 1 v 7 hv (by omega);refine⟨aw (aw ⟨hk,w1,by simp[hA],fun z hz=>by
    rw[hA]at hz;simp only[bh,cC,gq]at hz;rcases hz with rfl | rfl
    ·exact h1
    ·exact h3⟩),?_,hi⟩
   rw[gX hk,hA];simp only[aY,bV,tR,bM,eR,au,w2,sY,aT,ct,br]at h2 h4⊢;omega
theorem ju (hS:Nh σ a) {x:dq} (h:FV x):lP σ x/\(jG σ x).length<=12+4*a:=by
 cases h with
 | call t h=>obtain⟨h1,h2,h3⟩:=tC hS h;exact⟨.call t h1 h.1 h3,by simpa [jG] using h2⟩
 | eq u v hu hv=>obtain⟨h1,h2⟩:=oi hS 1 u 8 hu (by omega);obtain⟨h3,h4⟩:=oi hS 1 v 8 hv (by omega);refine⟨.eq u v h1 h3,?_⟩;simp only[jG,au,aT,ct,sY]at h2 h4⊢;omega
theorem xg (hS:Nh σ a) {x:dq} (h:NC x):Bi σ x/\(jG σ x).length<=5+2*a:=by
 cases h with
 | int u hu=>
  obtain⟨h1,h2⟩:=m9 hS hu 6;simp only[Nat.reduceAdd]at h2;have hw:jC 2 (⟨#[105,110,116]⟩:ByteArray).toList:=jt _ 2 105 [110,116] rfl (ay ⟨rfl,by decide⟩) (by decide);have hl:(⟨#[105,110,116]⟩:ByteArray).toList=[105,110,116]:=by rw[bN]
  refine⟨.int _ (aw (aw ⟨rfl,hw,by simp,fun z hz=>by obtain rfl:=a8.1 hz;exact h1⟩)) rfl (by unfold isInt;rw[hl];rfl),?_⟩;simp only[jG,br];rw[gX rfl];simp only[hl,aY,bV,tR,eR,au,aT,ct,br];omega
 | rel u v g hu hv hg=>
  obtain⟨h1,h2⟩:=m9 hS hu 7;obtain⟨h3,h4⟩:=m9 hS hv 7;simp only[Nat.reduceAdd]at h2 h4;refine⟨.rel u v g h1 h3 hg,?_⟩;have:g.length<=2:=by rcases hg with rfl | rfl | rfl | rfl<;>simp
  simp only[jG,au];omega
theorem DL (h:∀x∈xs,(jG σ x).length<=12+4*a):(jF σ b xs).length<=xs.length*(14+4*a):=by
 have hsp:(sp b).length<=1:=by cases b<;>simp[sp]
 cases xs with
 | nil=>simp[jF]
 | cons x xs=>
  have hx:=h x (by simp);have hf:(xs.flatMap (fun y=>44 :: sp b++jG σ y)).length<=xs.length*(14+4*a):=by
   have h':∀y∈xs,(jG σ y).length<=12+4*a:=fun y hy=>h y (by simp[hy]);clear h hx;induction xs with
   | nil=>simp
   | cons y ys ih=>have h1:=h' y (by simp);have h2:=ih (fun z hz=>h' z (by simp[hz]));simp only[bM,au,aT,d9,j9]at h2⊢;omega
  simp only[jF,au,aT,d9,j9];omega
theorem Mv (hS:Nh σ a) (h:gC c):LG σ c/\(pT σ b c).length<=69+18*a+6*(sp b).length:=by
 obtain⟨h1,h2,h3⟩:=tC hS h.head;have hsp:(sp b).length<=1:=by cases b<;>simp[sp]
 have hnl:(nl b).length=(sp b).length:=by cases b<;>simp[sp,nl]
 have hL:(jF σ b c.goals).length<=3*(14+4*a):=aW (DL fun x hx=>(ju hS (h.goals x hx)).2) (bY _ h.few);refine⟨⟨h1,h.head.1,h.tests.imp id fun⟨x,q,hx⟩=>⟨x,q,(xg hS hx).1⟩,fun x hx=>(ju hS (h.goals x hx)).1,by have:=h.few;omega,h.fact⟩,?_⟩;unfold pT;cases hg:c.goals with
 | nil=>simp only[au,aT,ct];omega
 | cons g gs=>
  rw[hg]at hL;rcases h.tests with ht | ⟨x,ht,hx⟩
  ·rw[ht];simp only[au,aT,ct];omega
  ·have:=(xg hS hx).2;rw[ht];simp only[au,aT,ct];omega
theorem DK {σ:dE->nr} {b:Bool} {k:Nat}:∀{cs:List dE},(∀c∈cs,(pT (σ c) b c).length<=k)->(KN σ b cs).length<=cs.length*k
 | [],_=>by simp[KN]
 | c :: cs,h=>by have h1:=h c (by simp);have h2:=DK (σ:=σ) (b:=b) (k:=k) (cs:=cs) (fun d hd=>h d (by simp[hd]));unfold KN at h2⊢;simp only[bM,au,aT,d9,j9];omega
def fX:nr:=⟨id,id⟩
theorem gV:Nh fX 1:=by
 refine⟨Qw,fun x h=> ?_,fun x h=> ?_⟩
 ·simp only[Bh,bh,cC,gq]at h;rcases h with rfl | rfl | rfl | rfl<;>exact⟨jt _ 3 _ [] rfl (aw (ay ⟨rfl,by decide⟩)) (by decide),by simp only[fX,id,bN];decide⟩
 ·simp only[Bj,bh,cC,gq]at h;rcases h with rfl | rfl | rfl<;>exact⟨jt _ 4 _ [] rfl (aw (aw ⟨rfl,by decide⟩)) (by decide),by decide,by simp only[fX,id,bN];decide⟩
theorem Bo (n:Nat):∀d∈Lib.decDigits n,pX d.toNat=true:=by
 induction n using Nat.strongRecOn with
 | ind n ih=>
  have one:∀d,d<10->pX (UInt8.ofNat (48+d)).toNat=true:=fun d h=>by
   have e:(UInt8.ofNat (48+d)).toNat=48+d:=by rw[UInt8.toNat_ofNat'];omega
   rw[e];unfold pX;simp;omega
  by_cases h:n<10
  ·rw[Lib.decDigits,kX h];intro d hd;rw[a8.1 hd];exact one n h
  ·rw[Lib.decDigits,ul h];intro d hd;rcases bA.1 hd with q | q
   ·exact ih (n / 10) (by omega) d q
   ·rw[a8.1 q];exact one (n % 10) (by omega)
theorem ID {c:Nat} (h:pX c=true) (hk:k=3\/k=4):e9 k c=true:=by unfold e9;rcases hk with rfl | rfl<;>simp[h]
theorem G4 {σ:nr}:∀(f:Nat) (t:Tm),uf σ f t->fC σ (f+1) t=fC σ f t
 | 0,_,h=>h.elim
 | f+1,t,h=>by
  rcases h with⟨hk,_⟩ | ⟨hk,_⟩ | ⟨hk,_,_,ha⟩
  ·unfold fC;rw[aH hk,aH hk]
  ·unfold fC;rw[aG (by omega),aH hk,aG (by omega),aH hk]
  ·rw[gX hk,gX hk,bt fun a h=>G4 f a (ha a h)]
def tx (t:Tm):List UInt8:=fC fX 8 t
theorem Kf (h:jd t):tx t=t.text.toList:=by
 obtain⟨hA,⟨hk,_⟩ | ⟨hk,_⟩ | ⟨hk,_⟩⟩:=h
 ·unfold tx fC;rw[aH hk];rfl
 ·unfold tx fC;rw[aG (by omega),aH hk];rfl
 ·unfold tx;rw[gX hk,hA];simp[tR]
theorem Ga (h:gT d t) (hd:d<7):fC fX 7 t=tx t:=(G4 7 t (oi gV d t 7 h hd).1).symm
theorem Cd {a:Tm} (x:ByteArray) (h:gT d a) (hd:d<7):tx ⟨2,x,[a]⟩=x.toList++40 :: tx a++[41]:=by show fC fX (7+1) _=_;rw[gX rfl];simp only[aY,bV,tR,eR,br,Ga h hd];simp
theorem F9 {a b:Tm} (x:ByteArray) (h:gT d a) (hd:d<7) (h':gT e b) (he:e<7):tx ⟨2,x,[a,b]⟩=x.toList++40 :: tx a++44 :: tx b++[41]:=by show fC fX (7+1) _=_;rw[gX rfl];simp only[aY,bV,tR,bM,eR,br,Ga h hd,Ga h' he];simp
theorem Ke (x:ByteArray):tx ⟨2,x,[]⟩=x.toList:=by show fC fX (7+1) _=_;rw[gX rfl];simp[tR]
def qS:List Tm:=[⟨3,⟨#[88]⟩,[]⟩,⟨3,⟨#[89]⟩,[]⟩,⟨3,⟨#[90]⟩,[]⟩,⟨3,⟨#[87]⟩,[]⟩,⟨4,⟨#[48]⟩,[]⟩,⟨4,⟨#[49]⟩,[]⟩,⟨4,⟨#[55]⟩,[]⟩,⟨2,⟨#[97]⟩,[]⟩,⟨2,⟨#[98]⟩,[]⟩,⟨2,⟨#[110]⟩,[]⟩]
theorem AY:∀t∈qS,jd t:=by
 intro t h;simp only[qS,bh,cC,gq]at h;rcases h with rfl | rfl | rfl | rfl | rfl | rfl | rfl | rfl | rfl | rfl
 all_goals refine⟨rfl,?_⟩
 all_goals simp[Bh,Bj,vF]
theorem ML (h:gT d t) (hd:d<8):(tx t).length<=sY 1 d:=(oi gV d t 8 h hd).2
end af
namespace Go.Proofs.YthfjnfcekeknlabGreatDoor
open Go.RowKit
variable {w' w:World} {xb n k c:Nat} {o:Option Addr}
def uG (w:World) (xb:Nat) (o:Option Addr) (n:Nat):Prop:=n<=maxLen/\(n=0\/∃b off,o=some ⟨b,off,none⟩/\b<xb/\∀i,i<n->∃v:Int,w.cell? ⟨b,off+i,none⟩=some (.int .i64 v)/\-9223372036854775808<=v/\v<=9223372036854775807)
structure Dc (w:World) (xb:Nat) (o:Option Addr) (n c k:Nat):Prop where
 blk:w.heap[xb]?=some (.cells #[.slice o n c,.int .i64 (k:Int)] 41 (0,0))
 raw:uG w xb o n
 few:k<=n
def ip (w:World) (xb:Nat):Prop:=∃o n c k,Dc w xb o n c k
abbrev FY (xb:Nat):Nat->Prop:=fun k=>k=xb
theorem uG.keep (h:uG w xb o n) (hk:∀b,b<xb->w'.heap[b]?=w.heap[b]?):uG w' xb o n:=by refine⟨h.1,h.2.imp id fun⟨b,off,h1,h2,h3⟩=>⟨b,off,h1,h2,fun i hi=> ?_⟩⟩;obtain⟨v,h4,h5⟩:=h3 i hi;exact⟨v,(dC (w:=w) (a:=⟨b,off+i,none⟩) (hk b h2)).trans h4,h5⟩
theorem Dc.below (h:Dc w xb o n c k) (hb:Below w.heap.size w w'):Dc w' xb o n c k:=by have hz:=aD h.blk;exact⟨(hb.block xb hz).trans h.blk,h.raw.keep fun b q=>hb.block b (by omega),h.few⟩
theorem ip.below (h:ip w xb) (hb:Below w.heap.size w w'):ip w' xb:=by obtain⟨o,n,c,k,h⟩:=h;have hz:=aD h.blk;exact⟨o,n,c,k,(hb.block xb hz).trans h.blk,h.raw.keep fun b q=>hb.block b (by omega),h.few⟩
theorem ip.lt (h:ip w xb):xb<w.heap.size:=by obtain⟨o,n,c,k,h⟩:=h;exact aD h.blk
theorem G8 (w:World) (c:Int) (n:Nat) (hn:0<n) (hn':n<=1000) (h1: -9223372036854775808<=c) (h2:c<=9223372036854775807):
 Calls Tryz.prog 6 #[.int .i64 c,.int .i64 (n:Int)] w fun e w'=>(∃m:Nat,m<n/\e= .returned (.int .i64 (m:Int)))/\w'=w:=by
 by_cases hc:c<0
 ·have t1:decide (c<0)=true:=by simpa using hc
  go_enter Tryz.func6,Tryz.ntmps6;go_wp2_with fail;go_ret;have q1:=gN (-(c+1)) (b:=(n:Int)) (by omega);have q2:=jV (-(c+1)) (b:=(n:Int)) (by omega);refine⟨⟨((-(c+1)) % (n:Int)).toNat,by omega,?_⟩,rfl⟩;show Ending.returned (.int .i64 (-(c+1).tmod (n:Int)))=_;rw[<-Int.neg_tmod,Int.tmod_eq_emod_of_nonneg (by omega),jz q1]
 ·have t1:decide (c<0)=false:=by simpa using hc
  go_enter Tryz.func6,Tryz.ntmps6;go_wp2_with fail;go_ret;have q1:=gN c (b:=(n:Int)) (by omega);have q2:=jV c (b:=(n:Int)) (by omega);refine⟨⟨(c % (n:Int)).toNat,by omega,?_⟩,rfl⟩;show Ending.returned (.int .i64 (c % (n:Int)))=_;rw[jz q1]
theorem Dc.step {w:World} {xb:Nat} {o:Option Addr} {n c k:Nat} (h:Dc w xb o n c k) (hk:k<n):Dc (w.setCell ⟨xb,1,none⟩ (.int .i64 ((k+1:Nat):Int))) xb o n c (k+1)/\bZ (FY xb) (FY xb) w (w.setCell ⟨xb,1,none⟩ (.int .i64 ((k+1:Nat):Int))):=by refine⟨⟨?_,h.raw.keep fun b q=>b6 _ _ _ _ (by omega),by omega⟩,rfl,rfl,rfl,by rw[fj];exact Qw,fun b _ hr=>b6 _ _ _ _ hr,fun _ q=>ay q⟩;have:=bB h.blk 1 (.int .i64 ((k+1:Nat):Int));simpa using this
theorem gS (w:World) (xb n:Nat) (h:ip w xb) (hn:0<n) (hn':n<=1000):
 Calls Tryz.prog 25 #[.pointer (some ⟨xb,0,none⟩),.int .i64 (n:Int)] w fun e w'=>(∃m:Nat,m<n/\e= .returned (.int .i64 (m:Int)))/\ip w' xb/\bZ (FY xb) (FY xb) w w':=by
 have HA:=ah h;obtain⟨o,l,c,k,h⟩:=h;have s0:=aN h.blk 0;have s1:=aN h.blk 1;have sf:=bI h.blk 1;have sz:=aD h.blk;simp only[aE,aq,aA]at s0 s1;by_cases hk:k<l
 ·obtain⟨hl,h0 | ⟨b,off,rfl,hb,hc⟩⟩:=h.raw
  ·omega
  ·obtain⟨v,f0,v1,v2⟩:=hc k hk;unfold maxLen at hl;have t1:decide ((l:Int)<=(k:Int))=false:=by simp;omega
   have i0:(0:Int)<=(k:Int):=by omega
   have i1:(k:Int)<(l:Int):=by omega
   have gz:b<w.heap.size:=by omega
   have HS:=ah (fun W (hb:Below w.heap.size w W)=>(h.below hb).step hk);have HP:=ah (fun W=>G8 W v n hn hn' v1 v2);clear h hc hk v1 v2;go_enter Tryz.func25,Tryz.ntmps25;go_wp2_with fail;go_big_region;go_wp2_with fail;go_big_region;go_wp2_with fail;refine(ae HP _).mono ?_;rintro e w2 ⟨⟨m,hm,rfl⟩,rfl⟩;have HM:=ah hm;clear hm;go_wp2_with fail;go_ret;exact⟨⟨m,ae HM,rfl⟩,⟨_,_,_,_,(ae HS _ Qx.drew.drew).1⟩,(bZ.aX Qx.drew.drew).trans (ae HS _ Qx.drew.drew).2⟩
 ·have t1:decide (l<=k)=true:=by simp;omega
  have t2:l<=k:=by omega
  clear h hk;go_enter Tryz.func25,Tryz.ntmps25;go_wp2_with fail;go_big_region;go_wp2_with fail;go_ret;exact⟨⟨0,hn,rfl⟩,(ae HA).below Qx.drew,bZ.aX Qx.drew⟩
end Go.Proofs.YthfjnfcekeknlabGreatDoor
namespace af
theorem H' {m:Nat} (h:m<10):jd (qS[m]'h)/\tx (qS[m]'h)=(qS[m]'h).text.toList:=⟨AY _ (aL _),Kf (AY _ (aL _))⟩
end af
namespace Go.Proofs.YthfjnfcekeknlabGreatDoor
open Go.RowKit af
variable {b t a:Tm} {T:TypeId} {cs:Array Value} {xb d:Nat} {W w2:World}
def Made {α:Type} (P:α->Prop) (T:α->List UInt8) (xb:Nat) (w:World) (e:Ending) (w':World):Prop:=
 (∃t,P t/\e= .returned (.string ⟨(T t).toArray⟩))/\ip w' xb/\bZ (FY xb) (FY xb) w w'
theorem ww {b:Nat} (h:W.heap[b]?=some (.cells cs T (0,0))) (hb:b≠xb) (fr:bZ (FY xb) (FY xb) W w2):∀i,w2.cell? ⟨b,i,none⟩=cs[i]?:=fun i=>(fr.cell (p:=⟨b,i,none⟩) (aD h) hb).trans (aN h i)
theorem tc (w:World) (xb:Nat) (h:ip w xb):
 Calls Tryz.prog 76 #[.pointer (some ⟨xb,0,none⟩)] w fun e w'=>Made jd af.tx xb w e w':=by
 have hx:=h.lt;have HB:=ah ((al w.heap.size w).alloc Qw (.cells #[.string ⟨#[88]⟩,.string ⟨#[89]⟩,.string ⟨#[90]⟩,.string ⟨#[87]⟩,.string ⟨#[48]⟩,.string ⟨#[49]⟩,.string ⟨#[55]⟩,.string ⟨#[97]⟩,.string ⟨#[98]⟩,.string ⟨#[110]⟩] 9));have HN:=ah (gS (w.alloc (.cells #[.string ⟨#[88]⟩,.string ⟨#[89]⟩,.string ⟨#[90]⟩,.string ⟨#[87]⟩,.string ⟨#[48]⟩,.string ⟨#[49]⟩,.string ⟨#[55]⟩,.string ⟨#[97]⟩,.string ⟨#[98]⟩,.string ⟨#[110]⟩] 9)) xb 10 (h.below (ae HB)) (by omega) (by omega));clear h;go_enter Tryz.func76,Tryz.ntmps76;go_wp2_with fail;refine(ae HN).mono ?_;rintro e w2 ⟨⟨m,hm,rfl⟩,hs,fr⟩;have f0:w2.cell? ⟨w.heap.size,m,none⟩=some (.string (qS[m]'hm).text):=by rw[ww (aB w _) (by omega) fr m];rcases(show m=0\/m=1\/m=2\/m=3\/m=4\/m=5\/m=6\/m=7\/m=8\/m=9 by omega)with rfl | rfl | rfl | rfl | rfl | rfl | rfl | rfl | rfl | rfl<;>rfl
 obtain⟨q1,q2⟩:=H' hm;have HT:=ah (show∃t,jd t/\(qS[m]'hm).text=⟨(af.tx t).toArray⟩from ⟨_,q1,by rw[q2,nX]⟩)
 have gz:w.heap.size<w2.heap.size:=by have:=fr.size;rw[aF]at this;omega
 have i0:(0:Int)<=(m:Int):=by omega
 have i1:(m:Int)<10:=by omega
 generalize (qS[m]'hm).text=tt at*;have HS:=ah hs;have HF:=ah ((bZ.aX (ae HB)).trans fr);clear hs fr q1 q2 hm;go_wp2_with fail;go_ret;obtain⟨t,h1,h2⟩:=ae HT;exact⟨⟨t,h1,by rw[<-h2];rfl⟩,ae HS,ae HF⟩
def xC (d:Nat):Prop:=∀(w:World) (xb:Nat),ip w xb->Calls Tryz.prog 42 #[.pointer (some ⟨xb,0,none⟩),.int .i64 (d:Int)] w fun e w'=>Made (gT d) af.tx xb w e w'
theorem LF (h:jd t):∀d,gT d t
 | 0=>h
 | _+1=>ay h
theorem MP:xC 0:=by intro w xb h;have HN:=ah (gS w xb 4 h (by omega) (by omega));have HL:=ah (fun W (q:ip W xb)=>tc W xb q);clear h;go_enter Tryz.func42,Tryz.ntmps42;go_wp2_with fail;refine(ae HN).mono ?_;rintro e w2 ⟨⟨m,hm,rfl⟩,hs,fr⟩;have HS:=ah hs;have HF:=ah fr;clear hs fr hm;go_wp2_with fail;refine(ae HL _ (ae HS)).mono ?_;rintro e w3 ⟨⟨t,ht,rfl⟩,hs,fr⟩;have HT:=ah ht;have HS3:=ah hs;have HF3:=ah ((ae HF).trans fr);clear ht hs fr;generalize hta:(⟨(af.tx t).toArray⟩:ByteArray)=tt at*;have HTT:=ah hta;clear hta;go_wp2_with fail;go_ret;exact⟨⟨t,ae HT,by rw[ae HTT];rfl⟩,ae HS3,ae HF3⟩
theorem ND (h:gT d a) (hd:d<7):(⟨#[102,40]⟩:ByteArray)++⟨(af.tx a).toArray⟩++⟨#[41]⟩=⟨(af.tx ⟨2,⟨#[102]⟩,[a]⟩).toArray⟩:=by
 rw[Cd _ h hd,show (⟨#[102,40]⟩:ByteArray)=⟨[102,40].toArray⟩from rfl,gK 41,dt,dt,show (⟨#[102]⟩:ByteArray).toList=[102]by rw[bN]]
 simp
theorem NB (h:gT d a) (hd:d<7) (h':gT d b):(⟨#[103,40]⟩:ByteArray)++⟨(af.tx a).toArray⟩++⟨#[44]⟩++⟨(af.tx b).toArray⟩++⟨#[41]⟩=⟨(af.tx ⟨2,⟨#[103]⟩,[a,b]⟩).toArray⟩:=by
 rw[F9 _ h hd h' hd,show (⟨#[103,40]⟩:ByteArray)=⟨[103,40].toArray⟩from rfl,gK 41,gK 44,dt,dt,dt,dt,show (⟨#[103]⟩:ByteArray).toList=[103]by rw[bN]]
 simp
theorem kj (h:gT d t) (hd:d<=2):(⟨(af.tx t).toArray⟩:ByteArray).size<=100:=by
 have h1:=ML h (by omega);have h2:sY 1 d<=16:=by rcases(show d=0\/d=1\/d=2 by omega)with rfl | rfl | rfl<;>decide
 show (af.tx t).toArray.size<=100;simp;omega
theorem MO (hd:d<=1) (IH:xC d):xC (d+1):=by
 intro w xb h;have HN:=ah (gS w xb 4 h (by omega) (by omega));have HL:=ah (fun W (q:ip W xb)=>tc W xb q);have HI:=ah (fun W (q:ip W xb)=>IH W xb q);have t0:(((d+1:Nat):Int) == 0)=false:=by simp;omega
 have t1:((d:Int)+1 == 0)=false:=by simp;omega
 have e1:(d:Int)+1 - 1=(d:Int):=by omega
 clear h IH;go_enter Tryz.func42,Tryz.ntmps42;go_wp2_with fail;refine(ae HN).mono ?_;rintro e w2 ⟨⟨m,hm,rfl⟩,hs,fr⟩;have HS:=ah hs;have HF:=ah fr;clear hs fr;rcases(show m<2\/m=2\/m=3 by omega)with hq | rfl | rfl
 ·have t2:decide ((m:Int)<2)=true:=by simp;omega
  clear hm hq;go_wp2_with fail;refine(ae HL _ (ae HS)).mono ?_;rintro e w3 ⟨⟨t,ht,rfl⟩,hs,fr⟩;have HT:=ah ht;have HS3:=ah hs;have HF3:=ah ((ae HF).trans fr);clear ht hs fr;generalize hta:(⟨(af.tx t).toArray⟩:ByteArray)=tt at*;have HTT:=ah hta;clear hta;go_wp2_with fail;go_ret;exact⟨⟨t,LF (ae HT) _,by rw[ae HTT];rfl⟩,ae HS3,ae HF3⟩
 ·clear hm;go_wp2_with fail
  try simp only[e1]
  refine(ae HI _ (ae HS)).mono ?_;rintro e w3 ⟨⟨a,ha,rfl⟩,hs,fr⟩;have HA:=ah ha;have HS3:=ah hs;have HF3:=ah ((ae HF).trans fr);have za:=kj ha (by omega);have HTX:=ah (ND ha (by omega));clear ha hs fr;generalize (⟨(af.tx a).toArray⟩:ByteArray)=ta at*;go_wp2_with fail;go_ret;exact⟨⟨⟨2,⟨#[102]⟩,[a]⟩,aw (ay ⟨rfl,rfl,a,rfl,ae HA⟩),by rw[<-ae HTX];rfl⟩,ae HS3,ae HF3⟩
 ·clear hm;go_wp2_with fail
  try simp only[e1]
  refine(ae HI _ (ae HS)).mono ?_;rintro e w3 ⟨⟨a,ha,rfl⟩,hs,fr⟩;have HA:=ah ha;have HS3:=ah hs;have HF3:=ah ((ae HF).trans fr);have za:=kj ha (by omega);clear ha hs fr;generalize hta:(⟨(af.tx a).toArray⟩:ByteArray)=ta at*;have HTA:=ah hta;clear hta;go_wp2_with fail
  try simp only[e1]
  refine(ae HI _ (ae HS3)).mono ?_;rintro e w4 ⟨⟨b,hb,rfl⟩,hs,fr⟩;have HB:=ah hb;have HS4:=ah hs;have HF4:=ah ((ae HF3).trans fr);have zb:=kj hb (by omega);have HTX:=ah (NB (ae HA) (by omega) hb);rw[ae HTA]at HTX;clear hb hs fr;generalize (⟨(af.tx b).toArray⟩:ByteArray)=tb at*;go_wp2_with fail;go_ret;exact⟨⟨⟨2,⟨#[103]⟩,[a,b]⟩,aw (aw ⟨rfl,rfl,a,b,rfl,ae HA,ae HB⟩),by rw[<-ae HTX];rfl⟩,ae HS4,ae HF4⟩
theorem Gs:xC 1:=MO (by omega) MP
theorem Fu (x:UInt8) (h:gT 1 a):(⟨#[x]⟩:ByteArray)++⟨#[40]⟩++⟨(af.tx a).toArray⟩++⟨#[41]⟩=⟨(af.tx ⟨2,⟨#[x]⟩,[a]⟩).toArray⟩:=by
 rw[Cd _ h (by omega),gK 41,gK 40,gK x,dt,dt,dt,show (⟨[x].toArray⟩:ByteArray).toList=[x]by rw[bN]]
 simp
theorem Ft (x:UInt8) (h:gT 1 a) (h':gT 1 b):(⟨#[x]⟩:ByteArray)++⟨#[40]⟩++⟨(af.tx a).toArray⟩++⟨#[44]⟩++⟨(af.tx b).toArray⟩++⟨#[41]⟩=⟨(af.tx ⟨2,⟨#[x]⟩,[a,b]⟩).toArray⟩:=by
 rw[F9 _ h (by omega) h' (by omega),gK 41,gK 40,gK 44,gK x,dt,dt,dt,dt,dt,show (⟨[x].toArray⟩:ByteArray).toList=[x]by rw[bN]]
 simp
theorem AW (b:ByteArray):b=⟨(af.tx ⟨2,b,[]⟩).toArray⟩:=by rw[Ke,nX]
theorem vO (w:World) (xb:Nat) (h:ip w xb):
 Calls Tryz.prog 40 #[.pointer (some ⟨xb,0,none⟩)] w fun e w'=>Made pC af.tx xb w e w':=by
 have hx:=h.lt;have HB:=ah ((al w.heap.size w).alloc Qw (.cells #[.string ⟨#[112]⟩,.string ⟨#[113]⟩,.string ⟨#[114]⟩,.string ⟨#[116,114,117,101]⟩] 9));have HN:=ah (gS (w.alloc (.cells #[.string ⟨#[112]⟩,.string ⟨#[113]⟩,.string ⟨#[114]⟩,.string ⟨#[116,114,117,101]⟩] 9)) xb 4 (h.below (ae HB)) (by omega) (by omega));have HN3:=ah (fun W (q:ip W xb)=>gS W xb 3 q (by omega) (by omega));have HI:=ah (fun W (q:ip W xb)=>Gs W xb q);clear h;go_enter Tryz.func40,Tryz.ntmps40;go_wp2_with fail;refine(ae HN).mono ?_;rintro e w2 ⟨⟨m,hm,rfl⟩,hs,fr⟩;have gz:w.heap.size<w2.heap.size:=by have:=fr.size;rw[aF]at this;omega
 have HS:=ah hs;have fc:=ww (aB w (.cells #[.string ⟨#[112]⟩,.string ⟨#[113]⟩,.string ⟨#[114]⟩,.string ⟨#[116,114,117,101]⟩] 9)) (by omega) fr;have HF:=ah ((bZ.aX (ae HB)).trans fr);clear hs fr;rcases(show m=3\/m<3 by omega)with rfl | hm3
 ·have f0:=fc 3;simp only[aE,aq,aA]at f0;clear fc hm;go_wp2_with fail;refine(ae HN3 _ (ae HS)).mono ?_;rintro e w3 ⟨⟨k,hk,rfl⟩,hs,fr⟩;have HS3:=ah hs;have HF3:=ah ((ae HF).trans fr);clear hs fr hk;go_wp2_with fail;go_ret;exact⟨⟨⟨2,⟨#[116,114,117,101]⟩,[]⟩,⟨rfl,ay ⟨rfl,rfl⟩⟩,by rw[<-AW];rfl⟩,ae HS3,ae HF3⟩
 ·obtain⟨x,hx,f0,tq⟩:∃x:UInt8,(⟨#[x]⟩:ByteArray)∈py/\w2.cell? ⟨w.heap.size,m,none⟩=some (.string ⟨#[x]⟩)/\((⟨#[x]⟩:ByteArray).toList == (⟨#[116,114,117,101]⟩:ByteArray).toList)=false:=by
   have hl:∀x:UInt8,((⟨#[x]⟩:ByteArray).toList == (⟨#[116,114,117,101]⟩:ByteArray).toList)=false:=fun x=>by rw[bN,bN];simp
   rcases(show m=0\/m=1\/m=2 by omega)with rfl | rfl | rfl
   ·exact⟨112,by simp[py],fc 0,hl _⟩
   ·exact⟨113,by simp[py],fc 1,hl _⟩
   ·exact⟨114,by simp[py],fc 2,hl _⟩
  have HX:=ah hx;have i0:(0:Int)<=(m:Int):=by omega
  have i1:(m:Int)<4:=by omega
  clear fc hm hm3 hx;have zx:(⟨#[x]⟩:ByteArray).size=1:=rfl;go_wp2_with fail;refine(ae HN3 _ (ae HS)).mono ?_;rintro e w3 ⟨⟨k,hk,rfl⟩,hs,fr⟩;have HS3:=ah hs;have HF3:=ah ((ae HF).trans fr);clear hs fr;rcases(show k=0\/k=1\/k=2 by omega)with rfl | rfl | rfl
  ·clear hk;go_wp2_with fail;go_ret;exact⟨⟨⟨2,⟨#[x]⟩,[]⟩,⟨rfl,aw ⟨ae HX,ay rfl⟩⟩,by rw[<-AW];rfl⟩,ae HS3,ae HF3⟩
  ·clear hk;go_wp2_with fail;refine(ae HI _ (ae HS3)).mono ?_;rintro e w4 ⟨⟨a,ha,rfl⟩,hs,fr⟩;have HA:=ah ha;have HS4:=ah hs;have HF4:=ah ((ae HF3).trans fr);have za:=kj ha (by omega);have HTX:=ah (Fu x ha);clear ha hs fr;generalize (⟨(af.tx a).toArray⟩:ByteArray)=ta at*;go_wp2_with fail;go_ret;exact⟨⟨⟨2,⟨#[x]⟩,[a]⟩,⟨rfl,aw ⟨ae HX,aw (ay ⟨a,rfl,ae HA⟩)⟩⟩,by rw[<-ae HTX];rfl⟩,ae HS4,ae HF4⟩
  ·clear hk;go_wp2_with fail;refine(ae HI _ (ae HS3)).mono ?_;rintro e w4 ⟨⟨a,ha,rfl⟩,hs,fr⟩;have HA:=ah ha;have HS4:=ah hs;have HF4:=ah ((ae HF3).trans fr);have za:=kj ha (by omega);clear ha hs fr;generalize hta:(⟨(af.tx a).toArray⟩:ByteArray)=ta at*;have HTA:=ah hta;clear hta;go_wp2_with fail;refine(ae HI _ (ae HS4)).mono ?_;rintro e w5 ⟨⟨b,hb,rfl⟩,hs,fr⟩;have HB2:=ah hb;have HS5:=ah hs;have HF5:=ah ((ae HF4).trans fr);have zb:=kj hb (by omega);have HTX:=ah (Ft x (ae HA) hb);rw[ae HTA]at HTX;clear hb hs fr;generalize (⟨(af.tx b).toArray⟩:ByteArray)=tb at*;go_wp2_with fail;go_ret;exact⟨⟨⟨2,⟨#[x]⟩,[a,b]⟩,⟨rfl,aw ⟨ae HX,aw (aw ⟨a,b,rfl,ae HA,ae HB2⟩)⟩⟩,by rw[<-ae HTX];rfl⟩,ae HS5,ae HF5⟩
theorem FD (h:pC t):(⟨(af.tx t).toArray⟩:ByteArray).size<=16:=by have:=(tC gV h).2.1;show (af.tx t).toArray.size<=16;simpa [af.tx] using this
theorem AD (t:Tm):jG fX ⟨t,[],none,[],none⟩=af.tx t:=by simp[jG,af.tx]
theorem LM (a b:Tm):(⟨(af.tx a).toArray⟩:ByteArray)++⟨#[61]⟩++⟨(af.tx b).toArray⟩=⟨(jG fX ⟨a,[61],some b,[],none⟩).toArray⟩:=by rw[gK 61,dt,dt];simp[jG,af.tx]
theorem Io (w:World) (xb:Nat) (h:ip w xb):
 Calls Tryz.prog 27 #[.pointer (some ⟨xb,0,none⟩)] w fun e w'=>Made FV (jG fX) xb w e w':=by
 have HN:=ah (gS w xb 3 h (by omega) (by omega));have HC:=ah (fun W (q:ip W xb)=>vO W xb q);have HI:=ah (fun W (q:ip W xb)=>Gs W xb q);clear h;go_enter Tryz.func27,Tryz.ntmps27;go_wp2_with fail;refine(ae HN).mono ?_;rintro e w2 ⟨⟨m,hm,rfl⟩,hs,fr⟩;have HS:=ah hs;have HF:=ah fr;clear hs fr;rcases(show m=0\/0<m by omega)with rfl | hm0
 ·clear hm;go_wp2_with fail;refine(ae HI _ (ae HS)).mono ?_;rintro e w4 ⟨⟨a,ha,rfl⟩,hs,fr⟩;have HA:=ah ha;have HS4:=ah hs;have HF4:=ah ((ae HF).trans fr);have za:=kj ha (by omega);clear ha hs fr;generalize hta:(⟨(af.tx a).toArray⟩:ByteArray)=ta at*;have HTA:=ah hta;clear hta;go_wp2_with fail;refine(ae HI _ (ae HS4)).mono ?_;rintro e w5 ⟨⟨b,hb,rfl⟩,hs,fr⟩;have HB2:=ah hb;have HS5:=ah hs;have HF5:=ah ((ae HF4).trans fr);have zb:=kj hb (by omega);have HTX:=ah (LM a b);rw[ae HTA]at HTX;clear hb hs fr;generalize (⟨(af.tx b).toArray⟩:ByteArray)=tb at*;go_wp2_with fail;go_ret;exact⟨⟨⟨a,[61],some b,[],none⟩,.eq a b (ae HA) (ae HB2),by rw[<-ae HTX];rfl⟩,ae HS5,ae HF5⟩
 ·have t1:decide (0<m)=true:=by simp;omega
  clear hm;go_wp2_with fail;refine(ae HC _ (ae HS)).mono ?_;rintro e w4 ⟨⟨t,ht,rfl⟩,hs,fr⟩;have HT:=ah ht;have HS4:=ah hs;have HF4:=ah ((ae HF).trans fr);clear ht hs fr;generalize hta:(⟨(af.tx t).toArray⟩:ByteArray)=ta at*;have HTA:=ah hta;clear hta;go_wp2_with fail;go_ret;exact⟨⟨⟨t,[],none,[],none⟩,.call t (ae HT),by rw[AD,ae HTA];rfl⟩,ae HS4,ae HF4⟩
end Go.Proofs.YthfjnfcekeknlabGreatDoor
namespace af
def O2 (xs:List dq):Prop:=xs≠[]/\xs.length<=3/\∀x∈xs,FV x
theorem o5 (xs:List dq) (x:dq) (h:xs≠[]):jF fX false (xs++[x])=jF fX false xs++44 :: jG fX x:=by
 cases xs with
 | nil=>exact absurd rfl h
 | cons y ys=>simp[jF,sp]
theorem rH (x:dq):jF fX false [x]=jG fX x:=by simp[jF]
theorem DM {xs:List dq} (h:∀x∈xs,FV x) (h3:xs.length<=3):(jF fX false xs).length<=54:=by have h1:=DL (σ:=fX) (b:=false) (a:=1) (xs:=xs) (fun x hx=>(ju gV (h x hx)).2);have h2:xs.length*(14+4*1)<=3*(14+4*1):=bY _ h3;omega
end af
namespace Go.Proofs.YthfjnfcekeknlabGreatDoor
open Go.RowKit af
variable {x:dq} {xs:List dq} {t a:Tm}
theorem Fs (h:FV x):(⟨(jG fX x).toArray⟩:ByteArray).size<=16:=by have:=(ju gV h).2;show (jG fX x).toArray.size<=16;simpa using this
theorem CW (xs:List dq) (x:dq) (h:xs≠[]):(⟨(jF fX false xs).toArray⟩:ByteArray)++⟨#[44]⟩++⟨(jG fX x).toArray⟩=⟨(jF fX false (xs++[x])).toArray⟩:=by rw[o5 xs x h,gK 44,dt,dt];simp
def PZ (w:World) (xb:Nat) (k:Nat) (sv iv:Value) (wr:World):Prop:=
 ∃xs:List dq,xs≠[]/\xs.length+k<=3/\(∀x∈xs,FV x)/\sv= .string ⟨(jF fX false xs).toArray⟩/\iv= .int .i64 (k:Int)/\ip wr xb/\bZ (FY xb) (FY xb) w wr
theorem vD (w:World) (xb:Nat) (h:ip w xb):
 Calls Tryz.prog 15 #[.pointer (some ⟨xb,0,none⟩)] w fun e w'=>Made O2 (jF fX false) xb w e w':=by
 have HN:=ah (fun W (q:ip W xb)=>gS W xb 3 q (by omega) (by omega));have HC:=ah (fun W (q:ip W xb)=>Io W xb q);have H:=ah h;clear h;go_enter Tryz.func15,Tryz.ntmps15;go_wp2_with fail;refine(ae HC _ (ae H)).mono ?_;rintro e w2 ⟨⟨x,hx,rfl⟩,hs,fr⟩;have HX:=ah hx;have HS:=ah hs;have HF:=ah fr;clear hx hs fr;generalize hta:(⟨(jG fX x).toArray⟩:ByteArray)=ta at*;have HTA:=ah hta;clear hta;go_wp2_with fail;refine(ae HN _ (ae HS)).mono ?_;rintro e w3 ⟨⟨m,hm,rfl⟩,hs,fr⟩;have HST:=ah (show PZ w xb m (.string ta) (.int .i64 (m:Int)) w3 from ⟨[x],by simp,by simp;omega,fun y hy=>by rw[a8.1 hy];exact ae HX,by rw[rH,ae HTA],rfl,hs,(ae HF).trans fr⟩)
 clear hs fr;go_wp2_with fail;go_loopg [3,4] m (fun k sv iv wr=>PZ w xb k sv iv wr)
 case atStart=>exact ae HST
 case round=>
  clear HST HTA HX;obtain⟨xs,hne,h3,hg,rfl,rfl,hs,fr⟩:=hrel;have HNE:=ah hne;have HG:=ah hg;have HS:=ah hs;have HF:=ah fr;have zz:(⟨(jF fX false xs).toArray⟩:ByteArray).size<=54:=by have:=DM hg (by omega);show (jF fX false xs).toArray.size<=54;simpa using this
  clear hs fr hg hne;generalize hta:(⟨(jF fX false xs).toArray⟩:ByteArray)=tb at*;have HTB:=ah hta;clear hta;rcases(show gk=0\/0<gk by omega)with rfl | hk0
  ·go_wp2_with fail;go_ret;exact⟨⟨xs,⟨ae HNE,by omega,ae HG⟩,by rw[ae HTB];rfl⟩,ae HS,ae HF⟩
  ·have t1:decide (0<gk)=true:=by simp;omega
   go_wp2_with fail;refine(ae HC _ (ae HS)).mono ?_;rintro e w5 ⟨⟨y,hy,rfl⟩,hs,fr⟩;have HY:=ah hy;have HS5:=ah hs;have HF5:=ah ((ae HF).trans fr);have zy:=Fs hy;have HTX:=ah (CW xs y (ae HNE));rw[ae HTB]at HTX;clear hy hs fr;generalize (⟨(jG fX y).toArray⟩:ByteArray)=ty at*;go_wp2_with fail;go_roundg (gk - 1)
   case measure=>omega
   case rel=>exact⟨xs++[y],by simp,by simp;omega,fun z hz=>by
    rcases bA.1 hz with q | q
    ·exact ae HG z q
    ·rw[a8.1 q];exact ae HY,by rw[<-ae HTX],by go_num,ae HS5,ae HF5⟩
theorem tB (h:O2 xs):(⟨(jF fX false xs).toArray⟩:ByteArray).size<=54:=by have:=DM h.2.2 h.2.1;show (jF fX false xs).toArray.size<=54;simpa using this
theorem vu (h:jd t):(⟨(af.tx t).toArray⟩:ByteArray).size<=100:=kj (d:=0) h (by omega)
theorem Ij (h:jd a):(⟨#[105,110,116,40]⟩:ByteArray)++⟨(af.tx a).toArray⟩++⟨#[41]⟩=⟨(jG fX ⟨⟨2,⟨#[105,110,116]⟩,[a]⟩,[],none,[],none⟩).toArray⟩:=by
 rw[AD,Cd (d:=0) _ h (by omega),show (⟨#[105,110,116,40]⟩:ByteArray)=⟨[105,110,116,40].toArray⟩from rfl,gK 41,dt,dt,show (⟨#[105,110,116]⟩:ByteArray).toList=[105,110,116]by rw[bN]]
 simp
theorem GW (a b:Tm) (g:List UInt8):(⟨(af.tx a).toArray⟩:ByteArray)++⟨g.toArray⟩++⟨(af.tx b).toArray⟩=⟨(jG fX ⟨a,g,some b,[],none⟩).toArray⟩:=by rw[dt,dt];simp[jG,af.tx]
theorem Gj (w:World) (xb:Nat) (h:ip w xb):
 Calls Tryz.prog 41 #[.pointer (some ⟨xb,0,none⟩)] w fun e w'=>Made NC (jG fX) xb w e w':=by
 have hx:=h.lt;have HB:=ah ((al w.heap.size w).alloc Qw (.cells #[.string ⟨#[61,61]⟩,.string ⟨#[92,61]⟩,.string ⟨#[60]⟩,.string ⟨#[61,60]⟩] 9));have HS0:=ah (h.below (ae HB));have HN:=ah (fun W (q:ip W xb)=>gS W xb 5 q (by omega) (by omega));have HL:=ah (fun W (q:ip W xb)=>tc W xb q);clear h;go_enter Tryz.func41,Tryz.ntmps41;go_wp2_with fail;refine(ae HL _ (ae HS0)).mono ?_;rintro e w2 ⟨⟨a,ha,rfl⟩,hs,fr⟩;have fc:=ww (aB w (.cells #[.string ⟨#[61,61]⟩,.string ⟨#[92,61]⟩,.string ⟨#[60]⟩,.string ⟨#[61,60]⟩] 9)) (by omega) fr;have gz:w.heap.size<w2.heap.size:=by have:=fr.size;rw[aF]at this;omega
 have HA:=ah ha;have HS:=ah hs;have HF:=ah ((bZ.aX (ae HB)).trans fr);have za:=vu ha;clear ha hs fr;generalize hta:(⟨(af.tx a).toArray⟩:ByteArray)=ta at*;have HTA:=ah hta;clear hta;go_wp2_with fail;refine(ae HN _ (ae HS)).mono ?_;rintro e w3 ⟨⟨m,hm,rfl⟩,hs,fr⟩;have fc3:=fun i=>(fr.cell (p:=⟨w.heap.size,i,none⟩) gz (by show¬w.heap.size=xb;omega)).trans (fc i);have gz3:w.heap.size<w3.heap.size:=by have:=fr.size;omega
 have HS3:=ah hs;have HF3:=ah ((ae HF).trans fr);clear hs fr fc;rcases(show m=4\/m<4 by omega)with rfl | hm4
 ·have HTX:=ah (Ij (ae HA));rw[ae HTA]at HTX;clear fc3 hm;go_wp2_with fail;go_ret;exact⟨⟨_,.int a (ae HA),by rw[<-ae HTX];rfl⟩,ae HS3,ae HF3⟩
 ·obtain⟨g,hg,zg,f0⟩:∃g:List UInt8,(g=[61,61]\/g=[92,61]\/g=[60]\/g=[61,60])/\(⟨g.toArray⟩:ByteArray).size<=2/\w3.cell? ⟨w.heap.size,m,none⟩=some (.string ⟨g.toArray⟩):=by
   rcases(show m=0\/m=1\/m=2\/m=3 by omega)with rfl | rfl | rfl | rfl
   ·exact⟨[61,61],ay rfl,by decide,fc3 0⟩
   ·exact⟨[92,61],aw (ay rfl),by decide,fc3 1⟩
   ·exact⟨[60],aw (aw (ay rfl)),by decide,fc3 2⟩
   ·exact⟨[61,60],aw (aw (aw rfl)),by decide,fc3 3⟩
  have HGG:=ah hg;have t4:((m:Int) == 4)=false:=by simp;omega
  have i0:(0:Int)<=(m:Int):=by omega
  have i1:(m:Int)<4:=by omega
  have HTX0:=ah (fun b=>GW a b g);rw[ae HTA]at HTX0;generalize (⟨g.toArray⟩:ByteArray)=gt at*;clear fc3 hm hg;go_wp2_with fail;refine(ae HL _ (ae HS3)).mono ?_;rintro e w5 ⟨⟨b,hb,rfl⟩,hs,fr⟩;have f0:=(fr.cell (p:=⟨w.heap.size,m,none⟩) gz3 (by show¬w.heap.size=xb;omega)).trans f0;have gz5:w.heap.size<w5.heap.size:=by have:=fr.size;omega
  have HB2:=ah hb;have HS5:=ah hs;have HF5:=ah ((ae HF3).trans fr);have zb:=vu hb;have HTX:=ah (ae HTX0 b);clear hb hs fr HTX0;generalize (⟨(af.tx b).toArray⟩:ByteArray)=tb at*;go_wp2_with fail;go_ret;exact⟨⟨_,.rel a b g (ae HA) (ae HB2) (ae HGG),by rw[<-ae HTX];rfl⟩,ae HS5,ae HF5⟩
end Go.Proofs.YthfjnfcekeknlabGreatDoor
namespace af
def iW (cs:List dE):List UInt8:=KN (fun _=>fX) false cs
theorem CG (cs:List dE) (c:dE):iW (cs++[c])=iW cs++pT fX false c:=by simp[iW,KN]
theorem Fi {c:dE} (h:gC c):(pT fX false c).length<=87:=by have:=(Mv (b:=false) gV h).2;simpa [sp] using this
end af
namespace Go.Proofs.YthfjnfcekeknlabGreatDoor
open Go.RowKit af
theorem Jb (t:Tm):(⟨(af.tx t).toArray⟩:ByteArray)++⟨#[46]⟩=⟨(pT fX false ⟨t,[],[]⟩).toArray⟩:=by rw[gK 46,dt];simp[pT,af.tx,af.nl]
theorem Ja (t:Tm) (xs:List dq) (h:xs≠[]):(⟨(af.tx t).toArray⟩:ByteArray)++⟨#[58,45]⟩++⟨(jF fX false xs).toArray⟩++⟨#[46]⟩=⟨(pT fX false ⟨t,[],xs⟩).toArray⟩:=by
 cases xs with
 | nil=>exact absurd rfl h
 | cons g gs=>
  rw[gK 46,show (⟨#[58,45]⟩:ByteArray)=⟨[58,45].toArray⟩from rfl,dt,dt,dt]
  simp[pT,af.tx,af.nl,af.sp]
theorem I' (t:Tm) (x:dq) (xs:List dq) (h:xs≠[]):(⟨(af.tx t).toArray⟩:ByteArray)++⟨#[58,45]⟩++⟨(jG fX x).toArray⟩++⟨#[124]⟩++⟨(jF fX false xs).toArray⟩++⟨#[46]⟩=⟨(pT fX false ⟨t,[x],xs⟩).toArray⟩:=by
 cases xs with
 | nil=>exact absurd rfl h
 | cons g gs=>
  rw[gK 46,gK 124,show (⟨#[58,45]⟩:ByteArray)=⟨[58,45].toArray⟩from rfl,dt,dt,dt,dt,dt]
  simp[pT,af.tx,af.nl,af.sp]
theorem ED {x:dq} (h:NC x):(⟨(jG fX x).toArray⟩:ByteArray).size<=7:=by have:=(xg gV h).2;show (jG fX x).toArray.size<=7;simpa using this
theorem By (w:World) (xb:Nat) (h:ip w xb):
 Calls Tryz.prog 26 #[.pointer (some ⟨xb,0,none⟩)] w fun e w'=>Made gC (pT fX false) xb w e w':=by
 have HN:=ah (fun W (q:ip W xb)=>gS W xb 3 q (by omega) (by omega));have HC:=ah (fun W (q:ip W xb)=>vO W xb q);have HT:=ah (fun W (q:ip W xb)=>Gj W xb q);have HGS:=ah (fun W (q:ip W xb)=>vD W xb q);have H:=ah h;clear h;go_enter Tryz.func26,Tryz.ntmps26;go_wp2_with fail;refine(ae HC _ (ae H)).mono ?_;rintro e w2 ⟨⟨t,ht,rfl⟩,hs,fr⟩;have HH:=ah ht;have HS:=ah hs;have HF:=ah fr;have zt:=FD ht;have HT0:=ah (Jb t);have HT1:=ah (Ja t);have HT2:=ah (I' t);clear ht hs fr;generalize (⟨(af.tx t).toArray⟩:ByteArray)=ta at*;go_wp2_with fail;refine(ae HN _ (ae HS)).mono ?_;rintro e w3 ⟨⟨m,hm,rfl⟩,hs,fr⟩;have HS3:=ah hs;have HF3:=ah ((ae HF).trans fr);clear hs fr;rcases(show m=0\/m=1\/m=2 by omega)with rfl | rfl | rfl
 ·clear hm;go_wp2_with fail;go_ret;exact⟨⟨⟨t,[],[]⟩,⟨ae HH,ay rfl,by simp,by simp,fun _=>rfl⟩,by rw[<-ae HT0];rfl⟩,ae HS3,ae HF3⟩
 ·clear hm;go_wp2_with fail;refine(ae HT _ (ae HS3)).mono ?_;rintro e w4 ⟨⟨x,hx,rfl⟩,hs,fr⟩;have HX:=ah hx;have HS4:=ah hs;have HF4:=ah ((ae HF3).trans fr);have zx:=ED hx;have HT3:=ah (ae HT2 x);clear hx hs fr;generalize (⟨(jG fX x).toArray⟩:ByteArray)=tx at*;go_wp2_with fail;refine(ae HGS _ (ae HS4)).mono ?_;rintro e w5 ⟨⟨xs,hxs,rfl⟩,hs,fr⟩;have HXS:=ah hxs;have HS5:=ah hs;have HF5:=ah ((ae HF4).trans fr);have zg:=tB hxs;have HTX:=ah (ae HT3 xs hxs.1);clear hxs hs fr;generalize (⟨(jF fX false xs).toArray⟩:ByteArray)=tg at*;go_wp2_with fail;go_ret;exact⟨⟨⟨t,[x],xs⟩,⟨ae HH,aw ⟨x,rfl,ae HX⟩,(ae HXS).2.2,(ae HXS).2.1,fun q=>absurd q (ae HXS).1⟩,by rw[<-ae HTX];rfl⟩,ae HS5,ae HF5⟩
 ·clear hm;go_wp2_with fail;refine(ae HGS _ (ae HS3)).mono ?_;rintro e w5 ⟨⟨xs,hxs,rfl⟩,hs,fr⟩;have HXS:=ah hxs;have HS5:=ah hs;have HF5:=ah ((ae HF3).trans fr);have zg:=tB hxs;have HTX:=ah (ae HT1 xs hxs.1);clear hxs hs fr;generalize (⟨(jF fX false xs).toArray⟩:ByteArray)=tg at*;go_wp2_with fail;go_ret;exact⟨⟨⟨t,[],xs⟩,⟨ae HH,ay rfl,(ae HXS).2.2,(ae HXS).2.1,fun q=>absurd q (ae HXS).1⟩,by rw[<-ae HTX];rfl⟩,ae HS5,ae HF5⟩
theorem xt {c:af.dE} (h:gC c):(⟨(pT fX false c).toArray⟩:ByteArray).size<=87:=by have:=Fi h;show (pT fX false c).toArray.size<=87;simpa using this
theorem EY (cs:List af.dE) (c:af.dE):(⟨(iW cs).toArray⟩:ByteArray)++⟨(pT fX false c).toArray⟩=⟨(iW (cs++[c])).toArray⟩:=by rw[CG,dt]
