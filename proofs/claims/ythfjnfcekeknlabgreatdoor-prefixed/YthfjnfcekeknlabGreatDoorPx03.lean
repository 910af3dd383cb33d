import Derived.Test.YthfjnfcekeknlabGreatDoorPx01
import Derived.Test.YthfjnfcekeknlabGreatDoorPx02
import Derived.Lib.ItoaLen
set_option maxHeartbeats 8000000
set_option maxRecDepth 100000
set_option linter.unusedSimpArgs false
namespace af
variable {N:List Vr} {S Q:Vr->Prop} {ρ ρ':Vr->Vr} {D:Int->List UInt8} {θ τ:Vr->U} {s s' u:U} {lt:Vr->Vr->Prop} {v z:Vr} {e:U×U} {l' L:List (U×U)} {bs M:List U} {g:List UInt8} {p t:Tm} {f B n:Nat} {η:List UInt8->U} {fr fr':Nat->Nat} {G:List Gn} {T T':Nat->U} {out:List (Vr×U)}
mutual
def d7 (D:Int->List UInt8) (N:List Vr):U->List UInt8
 | .v x=>86 :: D (N.idxOf x:Int)
 | .n k tx num ss=>if k=3 then D num else tx++nj (Dz D N ss)
def Dz (D:Int->List UInt8) (N:List Vr):List U->List (List UInt8)
 | []=>[]
 | a :: ss=>d7 D N a :: Dz D N ss
end
theorem uQ (D:Int->List UInt8) (N:List Vr):∀ss,Dz D N ss=ss.map (d7 D N)
 | []=>rfl
 | a :: ss=>by rw[Dz,uQ D N ss];rfl
theorem mf (D:Int->List UInt8) (N:List Vr) (k:Nat) (tx:List UInt8) (num:Int) (ss:List U):d7 D N (.n k tx num ss)=if k=3 then D num else tx++nj (ss.map (d7 D N)):=by rw[d7,uQ]
def nk (N:List Vr) (x:Vr):List Vr:=if x∈N then N else N++[x]
mutual
def cJ (N:List Vr):U->List Vr
 | .v x=>nk N x
 | .n _ _ _ ss=>rL N ss
def rL (N:List Vr):List U->List Vr
 | []=>N
 | a :: ss=>rL (cJ N a) ss
end
theorem pi:∀(ss:List U) (N:List Vr),rL N ss=ss.foldl cJ N
 | [],_=>rfl
 | a :: ss,N=>by rw[rL,pi ss];rfl
theorem ij (N:List Vr) (k:Nat) (tx:List UInt8) (num:Int) (ss:List U):cJ N (.n k tx num ss)=ss.foldl cJ N:=by rw[cJ,pi]
theorem AT {x y:Vr}:y∈nk N x↔y∈N\/y=x:=by
 unfold nk;split
 ·rename_i h;exact⟨ay,fun q=>q.elim id (fun e=>e ▸ h)⟩
 ·simp
theorem jq {y:Vr}:∀(u:U) (N:List Vr),y∈cJ N u↔y∈N\/has y u:=by
 refine U.ind (fun x N=> ?_) (fun k tx num ss ih N=> ?_)
 ·rw[cJ,AT,has];exact⟨fun q=>q.imp id Eq.symm,fun q=>q.imp id Eq.symm⟩
 ·rw[ij,gB];induction ss generalizing N with
  | nil=>simp
  | cons a ss ihl=>rw[bF,ihl (fun b hb=>ih b (by simp[hb])),ih a (by simp)];simp[or_assoc]
def ren (ρ:Vr->Vr):Vr->U:=fun x=> .v (ρ x)
def BZ (ρ:Vr->Vr) (S:Vr->Prop):Prop:=∀x y,S x->S y->ρ x=ρ y->x=y
theorem vp (hi:BZ ρ S):∀(u:U) (N:List Vr),(∀x,has x u->S x)->(∀x∈N,S x)->cJ (N.map ρ) (sub (ren ρ) u)=(cJ N u).map ρ:=by
 refine U.ind (fun x N hu hN=> ?_) (fun k tx num ss ih N hu hN=> ?_)
 ·show nk (N.map ρ) (ρ x)=(nk N x).map ρ
  unfold nk;have hx:S x:=hu x rfl;have e:ρ x∈N.map ρ↔x∈N:=by
   constructor
   ·intro q;obtain⟨y,hy,he⟩:=bu.1 q;rwa [hi y x (hN y hy) hx he]at hy
   ·exact fun q=>du q
  by_cases q:x∈N
  ·rw[aH q,aH (e.2 q)]
  ·rw[aG q,aG (fun r=>q (e.1 r)),dL];rfl
 ·rw[dS,ij,ij];have hu':∀a∈ss,∀x,has x a->S x:=fun a ha x hx=>hu x ((gB x k tx num ss).2 ⟨a,ha,hx⟩);clear hu;induction ss generalizing N with
  | nil=>rfl
  | cons a ss ihl=>rw[aY,bF,bF,ih a (by simp) N (hu' a (by simp)) hN];exact ihl (fun b hb=>ih b (by simp[hb])) _ (fun x hx=>((jq a N).1 hx).elim (hN x) (hu' a (by simp) x)) (fun b hb=>hu' b (by simp[hb]))
theorem D6 {ρ:Vr->Vr} {S:Vr->Prop} (hi:BZ ρ S) {x:Vr} (hx:S x):∀(N:List Vr),(∀y∈N,S y)->(N.map ρ).idxOf (ρ x)=N.idxOf x
 | [],_=>rfl
 | y :: N,h=>by
  rw[aY,gM,gM,D6 hi hx N (fun z hz=>h z (by simp[hz]))];by_cases q:y=x
  ·subst q;simp
  ·have:ρ y≠ρ x:=fun e=>q (hi y x (h y (by simp)) hx e);rw[mu q,mu this]
theorem rC (hi:BZ ρ S) (hN:∀x∈N,S x):∀(u:U),(∀x,has x u->S x)->d7 D (N.map ρ) (sub (ren ρ) u)=d7 D N u:=by
 refine U.ind (fun x hu=> ?_) (fun k tx num ss ih hu=> ?_)
 ·show 86 :: D (((N.map ρ).idxOf (ρ x):Nat):Int)=86 :: D ((N.idxOf x:Nat):Int);rw[D6 hi (hu x rfl) N hN]
 ·rw[dS,mf,mf,bQ];congr 3;exact bt fun a ha=>ih a ha fun x hx=>hu x ((gB x k tx num ss).2 ⟨a,ha,hx⟩)
theorem GF (ρ:Vr->Vr):∀u,size (sub (ren ρ) u)=size u:=by
 refine U.ind (fun x=>rfl) (fun k tx num ss ih=> ?_);rw[dS,size,size];congr 1;induction ss with
 | nil=>rfl
 | cons a ss ihl=>rw[aY,b8,b8,ih a (by simp),ihl (fun b hb=>ih b (by simp[hb]))]
theorem Dy:∀u,sub θ u=u->∀x,has x u->θ x= .v x:=by
 refine U.ind (fun y h x hx=> ?_) (fun k tx num ss ih h x hx=> ?_)
 ·rw[has]at hx;subst hx;exact h
 ·obtain⟨a,ha,hx⟩:=(gB x k tx num ss).1 hx;rw[dS]at h;injection h with _ _ _ h;obtain⟨i,hi,rfl⟩:=bG ha;have:=cL (·[i]?) h;simp only[bC,aj hi,FQ,aM]at this;exact ih _ (aL hi) this x hx
theorem Ni {x y:U} (hx:∀v,has v x\/has v y->ρ' (ρ v)=v) (h:∀θ,sub θ (sub (ren ρ) x)≠sub θ (sub (ren ρ) y)):∀θ,sub θ x≠sub θ y:=by
 intro τ e;refine h (fun v=>τ (ρ' v)) ?_;have back:∀w,(∀v,has v w->ρ' (ρ v)=v)->sub (fun v=>τ (ρ' v)) (sub (ren ρ) w)=sub τ w:=fun w hw=>by rw[sub_sub];exact sub_congr w fun v hv=>by show τ (ρ' (ρ v))=τ v;rw[hw v hv]
 rw[back x (fun v q=>hx v (ay q)),back y (fun v q=>hx v (aw q)),e]
noncomputable def sig (l:List (Vr×U)):Vr->U:=fun x=>lJ (.v x) l
theorem Av (l:List (Vr×U)):∀u,lJ u l=sub (sig l) u:=by refine U.ind (fun x=>rfl) (fun k tx num ss ih=> ?_);rw[wG,dS];congr 1;exact bt ih
theorem uF.none {lt:Vr->Vr->Prop} {x y:U} {m:Nat} (h:uF lt [(x,y)] none m):∀θ,sub θ x≠sub θ y:=fun θ q=>h.good.2 rfl θ (fun e he=>by
 obtain rfl:e=(x,y):=by simpa using he
 exact q)
mutual
def leaves:U->Nat
 | .v _=>1
 | .n _ _ _ ss=>nP ss+(if ss=[]then 1 else 0)
def nP:List U->Nat
 | []=>0
 | a :: ss=>leaves a+nP ss
end
mutual
def high:U->Nat
 | .v _=>0
 | .n _ _ _ ss=>A' ss+1
def A':List U->Nat
 | []=>0
 | a :: ss=>max (high a) (A' ss)
end
theorem A9 {c:Nat}:∀{ss:List U},(∀a∈ss,high a<=c)->A' ss<=c
 | [],_=>by rw[A'];omega
 | a :: ss,h=>by rw[A'];exact Nat.max_le.2 ⟨h a (by simp),A9 fun b hb=>h b (by simp[hb])⟩
theorem sZ {c:Nat}:∀{ss:List U},(∀a∈ss,leaves a<=c)->nP ss<=ss.length*c
 | [],_=>by simp[nP]
 | a :: ss,h=>by have h1:=h a (by simp);have h2:=sZ fun b hb=>h b (cO a hb);rw[nP,aT,d9];omega
mutual
def subs:U->List U
 | .v x=>[.v x]
 | .n k tx num ss=> .n k tx num ss :: i6 ss
def i6:List U->List U
 | []=>[]
 | a :: ss=>subs a++i6 ss
end
theorem iT (u:U):u∈subs u:=by cases u<;>simp[subs]
theorem fA {s:U}:∀{ss:List U},s∈i6 ss↔∃a∈ss,s∈subs a
 | []=>by simp[i6]
 | a :: ss=>by rw[i6,bA,fA];simp
theorem Af {k:Nat} {tx:List UInt8} {num:Int} {ss:List U} {a:U} (ha:a∈ss):∀u,U.n k tx num ss∈subs u->a∈subs u:=by
 refine U.ind (fun x h=> ?_) (fun k' tx' num' bs ih h=> ?_)
 ·rw[subs]at h;simp at h
 ·rw[subs]at h⊢;rcases bh.1 h with e | e
  ·injection e with _ _ _ e;subst e;exact cO _ (fA.2 ⟨a,ha,iT a⟩)
  ·obtain⟨b,hb,hm⟩:=fA.1 e;exact cO _ (fA.2 ⟨b,hb,ih b hb hm⟩)
def ar:U->Nat
 | .v _=>0
 | .n _ _ _ ss=>ss.length
def OC:U->Bool
 | .v _=>false
 | .n ..=>true
def xF (N:List U):Prop:=∀k tx num ss,U.n k tx num ss∈N->∀a∈ss,a∈N
theorem Bs (x y:U):xF (subs x++subs y):=fun k tx num ss h a ha=>by
 rcases bA.1 h with h | h
 ·exact bO _ (Af ha x h)
 ·exact iS _ (Af ha y h)
def JW (θ:Vr->U) (N:List U):Prop:=∀v,(∃w,θ v= .v w)\/∃s∈N,OC s=true/\θ v=sub θ s
def vi (θ:Vr->U) (k:Nat):List U->Nat
 | []=>1
 | m :: N=>(if size (sub θ m)<=k then max 1 (ar m)else 1)*vi θ k N
def cnt (θ:Vr->U) (k:Nat):List U->Nat
 | []=>0
 | m :: N=>(if size (sub θ m)<=k then 1 else 0)+cnt θ k N
def prod:List U->Nat
 | []=>1
 | m :: N=>max 1 (ar m)*prod N
theorem rG (θ:Vr->U) (k:Nat):∀N,1<=vi θ k N
 | []=>by simp[vi]
 | m :: N=>by rw[vi];refine Nat.mul_pos ?_ (rG θ k N);split<;>omega
theorem sF (θ:Vr->U) {k l:Nat} (h:k<=l):∀N,vi θ k N<=vi θ l N
 | []=>Qw
 | m :: N=>by rw[vi,vi];refine kZ ?_ (sF θ h N);split<;>split<;>omega
theorem Cp (θ:Vr->U) (k:Nat):∀N,vi θ k N<=prod N
 | []=>Qw
 | m :: N=>by rw[vi,prod];refine kZ ?_ (Cp θ k N);split<;>omega
theorem Az (θ:Vr->U) {k l:Nat} (h:k<l):∀{N:List U} {s:U},s∈N->size (sub θ s)=l->max 1 (ar s)*vi θ k N<=vi θ l N
 | m :: N,s,hs,he=>by
  rcases bh.1 hs with rfl | hs
  ·rw[vi,vi,aG (by omega),aH (by omega),j9];exact uI _ (sF θ (mJ h) N)
  ·have ih:=Az θ h hs he;rw[vi,vi,<-fB,gQ (max 1 (ar s)),fB];refine kZ ?_ ih;split<;>split<;>omega
theorem tK (θ:Vr->U) {k l:Nat} (h:k<=l):∀N,cnt θ k N<=cnt θ l N
 | []=>Qw
 | m :: N=>by have:=tK θ h N;rw[cnt,cnt];split<;>split<;>omega
theorem IX (θ:Vr->U) (k:Nat):∀N,cnt θ k N<=N.length
 | []=>Qw
 | m :: N=>by have:=IX θ k N;rw[cnt,aT];split<;>omega
theorem Bq (θ:Vr->U) {k l:Nat} (h:k<l):∀{N:List U} {s:U},s∈N->size (sub θ s)=l->1+cnt θ k N<=cnt θ l N
 | m :: N,s,hs,he=>by
  rcases bh.1 hs with rfl | hs
  ·have:=tK θ (mJ h) N;rw[cnt,cnt,aG (by omega),aH (by omega)];omega
  ·have ih:=Bq θ h hs he;rw[cnt,cnt];split<;>split<;>omega
theorem GH {k:Nat} {tx:List UInt8} {num:Int} {ss:List U} {a:U} (ha:a∈ss):size (sub θ a)<size (sub θ (.n k tx num ss)):=by rw[dS,size];have:=fP (du (f:=sub θ) ha);omega
theorem Fx {N:List U} (hN:xF N) (hF:JW θ N):∀(k:Nat) (s:U),s∈N->size (sub θ s)=k->leaves (sub θ s)<=vi θ k N/\high (sub θ s)<=cnt θ k N:=by
 intro k;induction k using Nat.strongRecOn with
 | _ k ih=>
  have nodes:∀s,s∈N->OC s=true->size (sub θ s)=k->leaves (sub θ s)<=vi θ k N/\high (sub θ s)<=cnt θ k N:=fun s hs hn he=>by
   cases s with
   | v x=>cases hn
   | n kk tx num ss=>
    have harg:∀a∈ss,leaves (sub θ a)<=vi θ (k - 1) N/\high (sub θ a)<=cnt θ (k - 1) N:=fun a ha=>by have h1:=GH (θ:=θ) (k:=kk) (tx:=tx) (num:=num) ha;obtain⟨i1,i2⟩:=ih (size (sub θ a)) (by omega) a (hN _ _ _ _ hs a ha) rfl;exact⟨aW i1 (sF θ (by omega) N),aW i2 (tK θ (by omega) N)⟩
    have hk:0<k:=by rw[<-he];exact size_pos _
    have hp:=Az θ (show k - 1<k by omega) hs he
    have hc:=Bq θ (show k - 1<k by omega) hs he
    rw[dS,leaves,high];constructor
    ·refine aW ?_ hp;by_cases h0:ss=[]
     ·subst h0;simp only[bV,nP,ar,ct];have:=rG θ (k - 1) N;simp;omega
     ·rw[aG (by simpa using h0),dJ];have:=sZ (c:=vi θ (k - 1) N) (ss:=ss.map (sub θ)) (fun b hb=>by obtain⟨a,ha,rfl⟩:=bu.1 hb;exact(harg a ha).1);rw[bj]at this;refine aW this (bY _ ?_);show ss.length<=max 1 ss.length;omega
    ·have:=A9 (c:=cnt θ (k - 1) N) (ss:=ss.map (sub θ)) (fun b hb=>by
      obtain⟨a,ha,rfl⟩:=bu.1 hb;exact(harg a ha).2)
     omega
  intro s hs he;cases s with
  | n kk tx num ss=>exact nodes _ hs rfl he
  | v x=>
   rcases hF x with⟨w,hw⟩ | ⟨s',hs',hn',e'⟩
   ·rw[show sub θ (.v x)=θ x from rfl,hw];exact⟨rG θ k N,cI _⟩
   ·have e2:sub θ (.v x)=sub θ s':=e';rw[e2]at he⊢;exact nodes s' hs' hn' he
theorem xi {N:List U} (hN:xF N) (hF:JW θ N) (hs:s∈N):leaves (sub θ s)<=prod N/\high (sub θ s)<=N.length:=by obtain⟨h1,h2⟩:=Fx hN hF _ s hs rfl;exact⟨aW h1 (Cp _ _ _),aW h2 (IX _ _ _)⟩
theorem LJ {N:List U} (hN:xF N) (hF:JW θ N) (v:Vr):leaves (θ v)<=prod N/\high (θ v)<=N.length:=by
 rcases hF v with⟨w,hw⟩ | ⟨s,hs,_,e⟩
 ·rw[hw];have:1<=prod N:=aW (rG θ 0 N) (Cp θ 0 N);exact⟨this,cI _⟩
 ·rw[e];exact xi hN hF hs
inductive li (lt:Vr->Vr->Prop) (θ:Vr->U):List (U×U)->Option (List (Vr×U))->Nat->Prop
 | nil:li lt θ [] (some []) 0
 | args {k tx num ss k' tx' num' ss' l r m} (h:Ap k tx num ss k' tx' num' ss') (hs:li lt θ ((ss'.zip ss)++l) r m):li lt θ ((.n k tx num ss,.n k' tx' num' ss') :: l) r (m+1)
 | nh {k tx num ss k' tx' num' ss' l} (h:¬Ap k tx num ss k' tx' num' ss'):li lt θ ((.n k tx num ss,.n k' tx' num' ss') :: l) none 1
 | same {x l r m} (hs:li lt θ l r m):li lt θ ((.v x,.v x) :: l) r (m+1)
 | left {x b l r m} (hθ:θ x=sub θ b) (hv:∀y,b= .v y->y≠x/\¬lt x y) (ho:¬has x b) (hs:li lt θ (l.map fun e=>(put e.1 x b,put e.2 x b)) r m):li lt θ ((.v x,b) :: l) (r.map ((x,b) :: ·)) (m+1)
 | right {a y l r m} (hθ:θ y=sub θ a) (hv:∀x,a= .v x->x≠y/\lt x y) (ho:¬has y a) (hs:li lt θ (l.map fun e=>(put e.1 y a,put e.2 y a)) r m):li lt θ ((a,.v y) :: l) (r.map ((y,a) :: ·)) (m+1)
 | wM {x b l} (hv:∀y,b≠ .v y) (ho:has x b):li lt θ ((.v x,b) :: l) none 1
 | wL {a y l} (hv:∀x,a≠ .v x) (ho:has y a):li lt θ ((a,.v y) :: l) none 1
theorem li.PD {l:List (U×U)} {r:Option (List (Vr×U))} {m:Nat} (h:li lt θ l r m):uF lt l r m:=by
 induction h with
 | nil=>exact .nil
 | args h _ ih=>exact .args h ih
 | nh h=>exact .nh h
 | same _ ih=>exact .same ih
 | left _ hv ho _ ih=>exact .left hv ho ih
 | right _ hv ho _ ih=>exact .right hv ho ih
 | wM hv ho=>exact .wM hv ho
 | wL hv ho=>exact .wL hv ho
def mn (v:Vr) (l:List (U×U)):Prop:=∃e∈l,has v e.1\/has v e.2
theorem cU {l:List (U×U)}:mn v (e :: l)↔(has v e.1\/has v e.2)\/mn v l:=by unfold mn;simp
theorem tw {l:List (U×U)}:mn v (l++l')↔mn v l\/mn v l':=by unfold mn;simp[or_and_right,exists_or]
theorem D7 {x:Vr} {b:U}:∀u,has v (put u x b)↔(has v u/\v≠x)\/(has x u/\has v b):=by
 unfold put;refine U.ind (fun y=> ?_) (fun k tx num ss ih=> ?_)
 ·show has v (one x b y)↔_;unfold one;simp only[has];split
  ·rename_i e;subst e;constructor
   ·exact fun q=>aw ⟨rfl,q⟩
   ·rintro(⟨rfl,q⟩ | ⟨_,q⟩)
    ·exact absurd rfl q
    ·exact q
  ·rename_i e;simp only[has];constructor
   ·rintro rfl;exact ay ⟨rfl,e⟩
   ·rintro(⟨q,_⟩ | ⟨q,_⟩)
    ·exact q
    ·exact absurd q e
 ·rw[dS,gB,gB,gB];simp only[bu];constructor
  ·rintro⟨_,⟨a,ha,rfl⟩,hv⟩;rcases(ih a ha).1 hv with⟨h1,h2⟩ | ⟨h1,h2⟩
   ·exact ay ⟨⟨a,ha,h1⟩,h2⟩
   ·exact aw ⟨⟨a,ha,h1⟩,h2⟩
  ·rintro(⟨⟨a,ha,h1⟩,h2⟩ | ⟨⟨a,ha,h1⟩,h2⟩)
   ·exact⟨_,⟨a,ha,rfl⟩,(ih a ha).2 (ay ⟨h1,h2⟩)⟩
   ·exact⟨_,⟨a,ha,rfl⟩,(ih a ha).2 (aw ⟨h1,h2⟩)⟩
theorem kP {x:Vr} {b:U} {l:List (U×U)} (ho:¬has x b) (h:mn v (l.map fun e=>(put e.1 x b,put e.2 x b))):v≠x/\(has v b\/mn v l):=by
 obtain⟨e,he,hv⟩:=h;obtain⟨e',he',rfl⟩:=bu.1 he;dsimp only at hv;rcases hv with hv | hv
 ·rcases(D7 _).1 hv with⟨h1,h2⟩ | ⟨_,h2⟩
  ·exact⟨h2,aw ⟨e',he',ay h1⟩⟩
  ·exact⟨fun e=>ho (e ▸ h2),ay h2⟩
 ·rcases(D7 _).1 hv with⟨h1,h2⟩ | ⟨_,h2⟩
  ·exact⟨h2,aw ⟨e',he',aw h1⟩⟩
  ·exact⟨fun e=>ho (e ▸ h2),ay h2⟩
theorem tm {ss:List U} (h:mn v (ss.zip bs)):(∃a∈ss,has v a)\/∃b∈bs,has v b:=by
 obtain⟨e,he,hv⟩:=h;have:=FR he;rcases hv with hv | hv
 ·exact ay ⟨_,this.1,hv⟩
 ·exact aw ⟨_,this.2,hv⟩
theorem li.congr {l:List (U×U)} {r:Option (List (Vr×U))} {m:Nat} (h:li lt θ l r m):(∀v,mn v l->θ v=τ v)->li lt τ l r m:=by
 induction h with
 | nil=>exact fun _=> .nil
 | args h _ ih=>
  refine fun q=> .args h (ih fun v hv=>q v ?_);rcases tw.1 hv with hv | hv
  ·refine cU.2 (ay ?_);rw[gB,gB];exact(tm hv).symm
  ·exact cU.2 (aw hv)
 | nh h=>exact fun _=> .nh h
 | same _ ih=>exact fun q=> .same (ih fun v hv=>q v (cU.2 (aw hv)))
 | @left x b l r m hθ hv ho _ ih=>
  refine fun q=> .left ?_ hv ho (ih fun v hv=>q v ?_)
  ·rw[<-q x (cU.2 (ay (ay rfl))),hθ];exact sub_congr b fun v hv=>q v (cU.2 (ay (aw hv)))
  ·rcases(kP ho hv).2 with h1 | h1
   ·exact cU.2 (ay (aw h1))
   ·exact cU.2 (aw h1)
 | @right a y l r m hθ hv ho _ ih=>
  refine fun q=> .right ?_ hv ho (ih fun v hv=>q v ?_)
  ·rw[<-q y (cU.2 (ay (aw rfl))),hθ];exact sub_congr a fun v hv=>q v (cU.2 (ay (ay hv)))
  ·rcases(kP ho hv).2 with h1 | h1
   ·exact cU.2 (ay (ay h1))
   ·exact cU.2 (aw h1)
 | wM hv ho=>exact fun _=> .wM hv ho
 | wL hv ho=>exact fun _=> .wL hv ho
def vs:List (U×U)->List Vr
 | []=>[]
 | e :: l=>cJ (cJ (vs l) e.1) e.2
theorem oJ {v:Vr}:∀{l:List (U×U)},v∈vs l↔mn v l
 | []=>by simp[vs,mn]
 | e :: l=>by
  rw[vs,jq,jq,oJ,cU];constructor
  ·rintro((h | h) | h)
   ·exact aw h
   ·exact ay (ay h)
   ·exact ay (aw h)
  ·rintro((h | h) | h)
   ·exact ay (aw h)
   ·exact aw h
   ·exact ay (ay h)
theorem C' (h:N.Nodup) (x:Vr):(nk N x).Nodup:=by
 unfold nk;split
 ·exact h
 ·rename_i q;rw[List.nodup_append];exact⟨h,by simp,fun a ha b hb e=>by
   obtain rfl:b=x:=by simpa using hb
   subst e;exact q ha⟩
theorem ph:∀(u:U) (N:List Vr),N.Nodup->(cJ N u).Nodup:=by
 refine U.ind (fun x N h=>C' h x) (fun k tx num ss ih N h=> ?_);rw[ij];induction ss generalizing N with
 | nil=>exact h
 | cons a ss ihl=>exact ihl (fun b hb=>ih b (by simp[hb])) _ (ih a (by simp) N h)
theorem rY:∀l,(vs l).Nodup
 | []=>by simp[vs]
 | e :: l=>ph _ _ (ph _ _ (rY l))
theorem Mh {l:List (U×U)} (h:∀v,mn v l'->mn v l):(vs l').length<=(vs l).length:=
 (rY l').length_le_of_subset fun v hv=>oJ.2 (h v (oJ.1 hv))
theorem Mg {l:List (U×U)} {x:Vr} (h:∀v,mn v l'->v≠x/\mn v l) (hx:mn x l):(vs l').length+1<=(vs l).length:=by
 have h1:(x :: vs l').Nodup:=List.nodup_cons.2 ⟨fun q=>(h x (oJ.1 q)).1 rfl,rY l'⟩;have:=h1.length_le_of_subset (l₂:=vs l) fun v hv=>by
  rcases bh.1 hv with rfl | hv
  ·exact oJ.2 hx
  ·exact oJ.2 (h v (oJ.1 hv)).2
 simpa using this
theorem Dl {x:Vr} {b:U} {l:List (U×U)} (ho:¬has x b):(vs (l.map fun e=>(put e.1 x b,put e.2 x b))).length+1<=(vs ((.v x,b) :: l)).length:=
 Mg (x:=x) (fun v hv=>by obtain⟨h1,h2⟩:=kP ho hv;exact⟨h1,cU.2 (h2.imp aw id)⟩) (cU.2 (ay (ay rfl)))
theorem xT {y:Vr} {a:U} {l:List (U×U)} (ho:¬has y a):(vs (l.map fun e=>(put e.1 y a,put e.2 y a))).length+1<=(vs ((a,.v y) :: l)).length:=
 Mg (x:=y) (fun v hv=>by obtain⟨h1,h2⟩:=kP ho hv;exact⟨h1,cU.2 (h2.imp ay id)⟩) (cU.2 (ay (aw rfl)))
theorem Kb {k k':Nat} {tx tx':List UInt8} {num num':Int} {ss ss':List U} {l:List (U×U)}:(vs (ss'.zip ss++l)).length<=(vs ((.n k tx num ss,.n k' tx' num' ss') :: l)).length:=
 Mh fun v hv=>by
  rcases tw.1 hv with hv | hv
  ·refine cU.2 (ay ?_);rw[gB,gB];exact(tm hv).symm
  ·exact cU.2 (aw hv)
theorem Ka {l:List (U×U)}:(vs l).length<=(vs (e :: l)).length:=Mh fun _ hv=>cU.2 (aw hv)
def jW:List (U×U)->Nat
 | []=>0
 | e :: l=>size e.1+size e.2+jW l
theorem ER (l l':List (U×U)):jW (l++l')=jW l+jW l':=by
 induction l with
 | nil=>simp[jW]
 | cons e l ih=>rw[dN,jW,jW,ih];omega
theorem uV:∀(ss bs:List U),jW (ss.zip bs)<=b8 ss+b8 bs
 | [],_=>by simp[jW]
 | _ :: _,[]=>by simp[jW]
 | a :: ss,b :: bs=>by have:=uV ss bs;rw[List.zip_cons_cons,jW,b8,b8];dsimp only;omega
def nodes (l:List (U×U)):List U:=l.flatMap fun e=>subs e.1++subs e.2
theorem ge {l:List (U×U)}:s∈nodes l↔∃e∈l,s∈subs e.1\/s∈subs e.2:=by unfold nodes;simp
theorem Gu {x:Vr} {b:U}:∀u,s'∈subs (put u x b)->(∃s∈subs u,s'=put s x b)\/s'∈subs b:=by
 unfold put;refine U.ind (fun y h=> ?_) (fun k tx num ss ih h=> ?_)
 ·by_cases e:y=x
  ·right;have:sub (one x b) (.v y)=b:=by show one x b y=b;unfold one;rw[aH e]
   rwa [this]at h
  ·left;have:sub (one x b) (.v y)= .v y:=by show one x b y=_;unfold one;rw[aG e]
   rw[this,subs]at h;exact⟨.v y,by rw[subs];simp,by rw[this];simpa using h⟩
 ·rw[dS,subs]at h;rcases bh.1 h with rfl | h
  ·left;exact⟨_,iT _,(dS ..).symm⟩
  ·obtain⟨c,hc,hs⟩:=fA.1 h;obtain⟨a,ha,rfl⟩:=bu.1 hc;rcases ih a ha hs with⟨s,h1,h2⟩ | h1
   ·left;exact⟨s,by rw[subs];exact cO _ (fA.2 ⟨a,ha,h1⟩),h2⟩
   ·right;exact h1
theorem In:∀b,s∈subs b->has v s->has v b:=by
 refine U.ind (fun y h hv=> ?_) (fun k tx num ss ih h hv=> ?_)
 ·rw[subs]at h;obtain rfl:s= .v y:=by simpa using h
  exact hv
 ·rw[subs]at h;rcases bh.1 h with rfl | h
  ·exact hv
  ·obtain⟨a,ha,hs⟩:=fA.1 h;exact(gB ..).2 ⟨a,ha,ih a ha hs hv⟩
open Classical in
noncomputable def also (θ:Vr->U) (x:Vr) (b:U):Vr->U:=fun v=>if v=x then sub θ b else θ v
theorem pM {x:Vr} {b:U} (h:v≠x):also θ x b v=θ v:=by unfold also;rw[aG h]
theorem Em (θ:Vr->U) (x:Vr) (b:U):also θ x b x=sub θ b:=by unfold also;rw[aH rfl]
theorem xB {x:Vr} {b:U} (h:¬has x u):sub (also θ x b) u=sub θ u:=sub_congr u fun _ hv=>pM (fun e=>h (e ▸ hv))
theorem Jy (θ:Vr->U) (x:Vr) (b u:U):sub θ (put u x b)=sub (also θ x b) u:=by unfold put;rw[sub_sub];refine sub_congr u fun v _=> ?_;unfold one also;split<;>rfl
theorem Iw {x:Vr} {b:U} {l:List (U×U)} (ho:¬has x b) (hF:JW θ (nodes (l.map fun e=>(put e.1 x b,put e.2 x b)))) (hL:∀s,s∈subs b\/s∈nodes l->s∈nodes L):JW (also θ x b) (nodes L):=by
 have key:∀v,v≠x->(∃w,also θ x b v= .v w)\/∃s∈nodes L,OC s=true/\also θ x b v=sub (also θ x b) s:=fun v hv=>by
  rw[pM hv];rcases hF v with⟨w,hw⟩ | ⟨s',hs',hn',e'⟩
  ·exact ay ⟨w,hw⟩
  ·right
   obtain⟨e,he,hs⟩:=ge.1 hs';obtain⟨d,hd,rfl⟩:=bu.1 he;dsimp only at hs;have inb:s'∈subs b->∃s∈nodes L,OC s=true/\θ v=sub (also θ x b) s:=fun q=>⟨s',hL _ (ay q),hn',by rw[xB (fun r=>ho (In b q r)),e']⟩;have input:∀u,(u=d.1\/u=d.2)->s'∈subs (put u x b)->∃s∈nodes L,OC s=true/\θ v=sub (also θ x b) s:=fun u hu q=>by
    rcases Gu u q with⟨s,h1,h2⟩ | h1
    ·cases hs0:s with
     | v y=>
      subst hs0;by_cases e:y=x
      ·subst e;rw[DH]at h2;subst h2;exact inb (iT _)
      ·have:put (.v y) x b= .v y:=by show one x b y=_;unfold one;rw[aG e]
       rw[this]at h2;subst h2;cases hn'
     | n k tx num ss=>
      refine⟨s,hL _ (aw (ge.2 ⟨d,hd,?_⟩)),by rw[hs0];rfl,?_⟩
      ·rcases hu with rfl | rfl
       ·exact ay h1
       ·exact aw h1
      ·rw[e',h2,Jy]
    ·exact inb h1
   rcases hs with hs | hs
   ·exact input _ (ay rfl) hs
   ·exact input _ (aw rfl) hs
 intro v;by_cases e:v=x
 ·subst e;rw[Em];cases hb:b with
  | v y=>
   subst hb;have hne:y≠v:=fun e=>ho e;rcases key y hne with⟨w,hw⟩ | ⟨s,h1,h2,h3⟩
   ·left;exact⟨w,by rw[pM hne]at hw;exact hw⟩
   ·right;exact⟨s,h1,h2,by rw[pM hne]at h3;exact h3⟩
  | n k tx num ss=>right;subst hb;exact⟨_,hL _ (ay (iT _)),rfl,(xB ho).symm⟩
 ·exact key v e
theorem xh (N:List U):JW .v N:=fun v=>ay ⟨v,rfl⟩
theorem JW.more {N:List U} (h:JW θ N) (hs:∀s∈N,s∈M):JW θ M:=fun v=>(h v).imp id fun⟨s,h1,h2⟩=>⟨s,hs s h1,h2⟩
theorem MU (lt:Vr->Vr->Prop):∀(n z:Nat) (l:List (U×U)),(vs l).length<=n->jW l<=z->∃θ r m,li lt θ l r m/\JW θ (nodes l):=by
 intro n;induction n using Nat.strongRecOn with
 | _ n ihn=>
  intro z;induction z using Nat.strongRecOn with
  | _ z ihz=>
   intro l hn hz;have bind:∀(x:Vr) (b:U) (l':List (U×U)),¬has x b->(vs (l'.map fun e=>(put e.1 x b,put e.2 x b))).length+1<=(vs l).length->(∀s,s∈subs b\/s∈nodes l'->s∈nodes l)->∃θ r m,li lt θ (l'.map fun e=>(put e.1 x b,put e.2 x b)) r m/\θ x=sub θ b/\JW θ (nodes l):=fun x b l' ho hv hL=>by obtain⟨θ,r,m,h1,h2⟩:=ihn _ (by omega) _ (l'.map fun e=>(put e.1 x b,put e.2 x b)) Qw Qw;refine⟨also θ x b,r,m,h1.congr fun v hv=>(pM (kP ho hv).1).symm,?_,Iw ho h2 hL⟩;rw[Em,xB ho]
   cases l with
   | nil=>exact⟨.v,_,_,.nil,xh _⟩
   | cons e l=>
    obtain⟨a,b⟩:=e;have hb:∀s,s∈subs b\/s∈nodes l->s∈nodes ((a,b) :: l):=fun s h=>by
     rcases h with h | h
     ·exact ge.2 ⟨(a,b),by simp,aw h⟩
     ·obtain⟨d,hd,h⟩:=ge.1 h;exact ge.2 ⟨d,by simp[hd],h⟩
    have ha:∀s,s∈subs a\/s∈nodes l->s∈nodes ((a,b) :: l):=fun s h=>by
     rcases h with h | h
     ·exact ge.2 ⟨(a,b),by simp,ay h⟩
     ·obtain⟨d,hd,h⟩:=ge.1 h;exact ge.2 ⟨d,by simp[hd],h⟩
    cases a with
    | v x=>
     cases b with
     | v y=>
      by_cases e:y=x
      ·subst e;have hz':jW l<z:=by rw[jW]at hz;have:=size_pos (.v y);dsimp only at hz;omega
       obtain⟨θ,r,m,h1,h2⟩:=ihz _ hz' l (aW Ka hn) Qw;exact⟨θ,r,m+1,.same h1,h2.more fun s hs=>hb s (aw hs)⟩
      ·by_cases hl:lt x y
       ·have ho:¬has y (.v x):=fun q=>e (by rw[has]at q;exact q.symm);obtain⟨θ,r,m,h1,h2,h3⟩:=bind y (.v x) l ho (xT ho) ha;exact⟨θ,_,_,.right h2 (fun x' q=>by injection q with q;subst q;exact⟨fun r=>e r.symm,hl⟩) ho h1,h3⟩
       ·have ho:¬has x (.v y):=fun q=>e (by rw[has]at q;exact q);obtain⟨θ,r,m,h1,h2,h3⟩:=bind x (.v y) l ho (Dl ho) hb;exact⟨θ,_,_,.left h2 (fun y' q=>by injection q with q;subst q;exact⟨e,hl⟩) ho h1,h3⟩
     | n k tx num ss=>
      by_cases ho:has x (.n k tx num ss)
      ·exact⟨.v,_,_,.wM (fun y q=>by cases q) ho,xh _⟩
      ·obtain⟨θ,r,m,h1,h2,h3⟩:=bind x _ l ho (Dl ho) hb;exact⟨θ,_,_,.left h2 (fun y q=>by cases q) ho h1,h3⟩
    | n k tx num ss=>
     cases b with
     | v y=>
      by_cases ho:has y (.n k tx num ss)
      ·exact⟨.v,_,_,.wL (fun y q=>by cases q) ho,xh _⟩
      ·obtain⟨θ,r,m,h1,h2,h3⟩:=bind y _ l ho (xT ho) ha;exact⟨θ,_,_,.right h2 (fun y q=>by cases q) ho h1,h3⟩
     | n k' tx' num' ss'=>
      by_cases hs:Ap k tx num ss k' tx' num' ss'
      ·have hz':jW (ss'.zip ss++l)<z:=by
        rw[ER];have:=uV ss' ss;rw[jW,size,size]at hz;omega
       obtain⟨θ,r,m,h1,h2⟩:=ihz _ hz' (ss'.zip ss++l) (aW Kb hn) Qw;refine⟨θ,r,m+1,.args hs h1,h2.more fun s q=> ?_⟩;obtain⟨d,hd,q⟩:=ge.1 q;rcases bA.1 hd with hd | hd
       ·have:=FR hd;refine ge.2 ⟨_,dD ..,?_⟩;dsimp only;rw[subs,subs];rcases q with q | q
        ·exact aw (cO _ (fA.2 ⟨_,this.1,q⟩))
        ·exact ay (cO _ (fA.2 ⟨_,this.2,q⟩))
       ·exact ge.2 ⟨d,by simp[hd],q⟩
      ·exact⟨.v,_,_,.nh hs,xh _⟩
def PH (θ:Vr->U) (B:Nat):List (U×U)->Prop
 | []=>True
 | e :: l=>2*max (high (sub θ e.1)) (high (sub θ e.2))+(l.length+1)<=B/\PH θ B l
theorem EO (lt:Vr->Vr->Prop) (x y:U):∃θ r m,li lt θ [(x,y)] r m/\PH θ (2*(subs x++subs y).length+1) [(x,y)]/\(∀v,leaves (θ v)<=prod (subs x++subs y)/\high (θ v)<=(subs x++subs y).length):=by
 obtain⟨θ,r,m,h1,h2⟩:=MU lt _ _ [(x,y)] Qw Qw;have e:nodes [(x,y)]=subs x++subs y:=by simp[nodes]
 rw[e]at h2;have hc:=Bs x y;refine⟨θ,r,m,h1,⟨?_,trivial⟩,fun v=>LJ hc h2 v⟩;have a1:=(xi hc h2 (bO _ (iT x))).2;have a2:=(xi hc h2 (iS _ (iT y))).2;simp only[ct];omega
def Ch (u:U):Prop:=∀k tx num ss,U.n k tx num ss∈subs u->tx.length<=240/\-1000000000<=num/\num<=1000000000/\ss.length<=3
theorem Ch.arg {k:Nat} {tx:List UInt8} {num:Int} {ss:List U} (h:Ch (.n k tx num ss)) {a:U} (ha:a∈ss):Ch a:=fun k' tx' num' ss' hm=>h k' tx' num' ss' (by rw[subs];exact cO _ (fA.2 ⟨a,ha,hm⟩))
theorem Ch.own {k:Nat} {tx:List UInt8} {num:Int} {ss:List U} (h:Ch (.n k tx num ss)):tx.length<=240/\-1000000000<=num/\num<=1000000000/\ss.length<=3:=h k tx num ss (iT _)
theorem Ch.mk {k:Nat} {tx:List UInt8} {num:Int} {ss:List U} (h:tx.length<=240/\-1000000000<=num/\num<=1000000000/\ss.length<=3) (hs:∀a∈ss,Ch a):Ch (.n k tx num ss):=fun k' tx' num' ss' hm=>by
 rw[subs]at hm;rcases bh.1 hm with e | e
 ·injection e with e1 e2 e3 e4;subst e2 e3 e4;exact h
 ·obtain⟨a,ha,hm⟩:=fA.1 e;exact hs a ha k' tx' num' ss' hm
theorem Jt:∀(l:List (List UInt8)),(nj l).length<=2+(l.map fun x=>x.length+1).sum
 | []=>by simp[nj]
 | x :: xs=>by
  have:∀(ys:List (List UInt8)),(ys.flatMap (fun y=>44 :: y)).length<=(ys.map fun x=>x.length+1).sum:=by
   intro ys;induction ys with
   | nil=>simp
   | cons y ys ih=>rw[bM,au,aY,vY,aT];omega
  have:=this xs;simp only[nj,dN,aT,au,ct,aY,vY];omega
theorem mP (hN:N.length<=100000000):∀u,Ch u->(d7 Go.Lib.itoa N u).length<=300*size u:=by
 refine U.ind (fun x _=> ?_) (fun k tx num ss ih h=> ?_)
 ·rw[d7,size];have:=List.idxOf_le_length (l:=N) (a:=x);have:=Go.Lib.itoa_length_le (N.idxOf x:Int) (by omega) (by omega);rw[aT];omega
 ·obtain⟨h1,h2,h3,h4⟩:=h.own;rw[mf,size];split
  ·have:=Go.Lib.itoa_length_le num (by omega) (by omega);omega
  ·rw[au]
   have:=Jt (ss.map (d7 Go.Lib.itoa N));have h5:((ss.map (d7 Go.Lib.itoa N)).map fun x=>x.length+1).sum<=300*b8 ss+ss.length:=by
    have hh:∀a∈ss,(d7 Go.Lib.itoa N a).length<=300*size a:=fun a ha=>ih a ha (h.arg ha);clear this h h4 ih;induction ss with
    | nil=>simp
    | cons a ss ihl=>have e1:=ihl (fun b hb=>hh b (by simp[hb]));have e2:=hh a (by simp);rw[aY,aY,vY,b8,aT];omega
   omega
def fb (η:List UInt8->U):Nat->Tm->U
 | 0,_=> .v ([],0)
 | f+1,t=>if t.kind=3 then η t.text.toList else if t.kind=4 then .n 3 [] (numOf t.text:Int) []else .n 1 t.text.toList 0 (t.args.map (fb η f))
def Dv (f sd:Nat) (t:Tm):U:=fb (fun x=> .v (x,sd)) f t
theorem ry (η:List UInt8->U) (sd:Nat):∀(f:Nat) (t:Tm),iE f t->fb η f t=sub (fun v=>η v.1) (Dv f sd t)
 | f+1,t,h=>by
  unfold Dv fb;by_cases k:t.kind=3
  ·rw[aH k,aH k];rfl
  ·rw[aG k,aG k];by_cases k4:t.kind=4
   ·rw[aH k4,aH k4,dS];rfl
   ·rw[aG k4,aG k4,dS,bQ];congr 1;exact bt fun a ha=>ry η sd f a (h.2.2.2 a ha)
theorem Du (sd:Nat) {v:Vr}:∀(f:Nat) (t:Tm),iE f t->has v (Dv f sd t)->v.2=sd/\∀ns,v.1∈aP f ns t
 | f+1,t,h,hv=>by
  unfold Dv fb at hv;unfold aP;by_cases k:t.kind=3
  ·rw[aH k]at hv;rw[has]at hv;subst hv;refine⟨rfl,fun ns=> ?_⟩;rw[aH k];unfold jf;split
   ·assumption
   ·simp
  ·rw[aG k]at hv;by_cases k4:t.kind=4
   ·rw[aH k4,gB]at hv;obtain⟨a,ha,_⟩:=hv;cases ha
   ·rw[aG k4,gB]at hv;obtain⟨a,ha,hv⟩:=hv;obtain⟨c,hc,rfl⟩:=bu.1 ha;obtain⟨i1,i2⟩:=Du sd f c (h.2.2.2 c hc) hv;refine⟨i1,fun ns=> ?_⟩;rw[aG k,aG k4];obtain⟨l1,l2,he⟩:=List.append_of_mem hc;rw[he,cT,bF];obtain⟨K,hK⟩:=oH f l2 (aP f (l1.foldl (aP f) ns) c);rw[hK];exact bO _ (i2 _)
theorem Ax:∀(a b:List U),prod (a++b)=prod a*prod b
 | [],b=>by rw[cG,prod,j9]
 | m :: a,b=>by rw[dN,prod,prod,Ax a b,fB]
theorem eU {l:List bX} (h:sees l g=true):l.length=l.tail.length+1:=by
 cases l with
 | nil=>simp[sees,hd]at h
 | cons a l=>simp
theorem BF {l:List bX} (h:ez (hd l)=true):l.length=l.tail.length+1:=by
 cases l with
 | nil=>simp[ez,hd]at h
 | cons a l=>simp
def FO (N:List U) (z c:Nat):Prop:=prod N ^ 4*z<=2 ^ c/\N.length<=c
theorem FG {g:Tm->U} {p:List bX->jM Tm} (hp:∀l t l1,p l= .inr (t,l1)->∃c,c+l1.length<=l.length/\FO (subs (g t)) 2 c):∀(k:Nat) (l:List bX) (ts:List Tm) (l2:List bX),cE p k l= .inr (ts,l2)->∃c,c+l2.length<=l.length/\FO (i6 (ts.map g)) (4 ^ ts.length) c:=by
 have last:∀(l l1:List bX) (t:Tm),p l= .inr (t,l1)->sees l1 [41]=true->∃c,c+l1.tail.length<=l.length/\FO (i6 ([t].map g)) (4 ^ [t].length) c:=fun l l1 t hq h2=>by
  obtain⟨c,h3,h4,h5⟩:=hp _ _ _ hq;have h6:=eU h2;have e:i6 ([t].map g)=subs (g t):=by simp[i6]
  rw[e];refine⟨c+1,by omega,?_,by omega⟩;rw[show 2 ^ (c+1)=2 ^ c*2 from fU ..,show 4 ^ [t].length=4 from rfl]
  generalize prod (subs (g t)) ^ 4=A at*;omega
 intro k;induction k with
 | zero=>
  intro l ts l2 h;unfold cE at h;rcases hq:p l with e | ⟨t,l1⟩
  ·rw[hq]at h;cases h
  ·rw[hq]at h;dsimp only at h;by_cases h1:sees l1 [44]=true
   ·rw[aH h1]at h;cases h
   ·rw[aG h1]at h;by_cases h2:sees l1 [41]=true
    ·rw[aH h2]at h;cases h;exact last l l1 t hq h2
    ·rw[aG h2]at h;cases h
 | succ k ih=>
  intro l ts l2 h;rw[cE]at h;rcases hq:p l with e | ⟨t,l1⟩
  ·rw[hq]at h;cases h
  ·rw[hq]at h;dsimp only at h;by_cases h1:sees l1 [44]=true
   ·rw[aH h1]at h;rcases hr:cE p k l1.tail with e | ⟨us,l3⟩
    ·rw[hr]at h;cases h
    ·rw[hr]at h;cases h;obtain⟨c1,i1,i2,i3⟩:=hp _ _ _ hq;obtain⟨c2,j1,j2,j3⟩:=ih _ _ _ hr;have h6:=eU h1;refine⟨c1+1+c2,by omega,?_,?_⟩
     ·rw[aY,i6,Ax,Nat.mul_pow,aT,show 4 ^ (us.length+1)=4 ^ us.length*4 from fU ..,Nat.pow_add,show 2 ^ (c1+1)=2 ^ c1*2 from fU ..]
      have:=kZ (kZ i2 (ai 2)) j2;refine aW (mK ?_) this;generalize prod (subs (g t)) ^ 4=A;generalize prod (i6 (us.map g)) ^ 4=B;generalize 4 ^ us.length=C;rw[show A*2*2=A*4 by omega,fB,fB,Nat.mul_left_comm 4,gQ 4 C]
     ·rw[aY,i6,au];omega
   ·rw[aG h1]at h;by_cases h2:sees l1 [41]=true
    ·rw[aH h2]at h;cases h;exact last l l1 t hq h2
    ·rw[aG h2]at h;cases h
theorem nD (h:subs u=[u]) (ha:ar u=0):FO (subs u) 2 1:=by rw[h];unfold FO;rw[prod,prod,ha];exact⟨by decide,by simp⟩
theorem EF (sd:Nat):∀(f:Nat) (l:List bX) (t:Tm) (l1:List bX),term f l= .inr (t,l1)->∃c,c+l1.length<=l.length/\FO (subs (Dv f sd t)) 2 c:=by
 intro f;induction f with
 | zero=>intro l t l1 h;rw[term]at h;split at h<;>cases h
 | succ f ih=>
  intro l t l1 h;have hU:Dv (f+1) sd t=if t.kind=3 then .v (t.text.toList,sd)else if t.kind=4 then .n 3 [] (numOf t.text:Int) []else .n 1 t.text.toList 0 (t.args.map (Dv f sd)):=rfl;rw[term]at h;by_cases hb:ez (hd l)=true
  ·rw[aH hb]at h;have hbl:=BF hb;by_cases hc:(hd l).kind=4/\6<(hd l).text.size
   ·rw[aH hc]at h;cases h
   ·rw[aG hc]at h;by_cases h2:(hd l).kind=2
    ·rw[aH h2]at h;by_cases hs:sees l.tail [40]=true
     ·rw[aH hs]at h;have hsl:=eU hs;rcases hq:cE (term f) 2 l.tail.tail with x | ⟨us,l2⟩
      ·rw[hq]at h;cases h
      ·rw[hq]at h;cases h;obtain⟨c,i1,i2,i3⟩:=FG ih _ _ _ _ hq;have i4:=(BL (Q:=fun _=>True) (fun _ _ _ _=>trivial) _ _ _ _ hq).2;rw[hU,aG (show¬(2:Nat)=3 by decide),aG (show¬(2:Nat)=4 by decide)]
       dsimp only;refine⟨c+2,by omega,?_,?_⟩
       ·rw[subs,prod,ar,bj,Nat.mul_pow,Nat.pow_add];have hn:max 1 us.length ^ 4*2<=4 ^ us.length*4:=by rcases(show us.length=0\/us.length=1\/us.length=2\/us.length=3 by omega)with q | q | q | q<;>rw[q]<;>decide
        have h5:=uI (prod (i6 (us.map (Dv f sd))) ^ 4) hn;have h6:=bY 4 i2;generalize prod (i6 (us.map (Dv f sd))) ^ 4=A at*;generalize max 1 us.length ^ 4=B at*;generalize 4 ^ us.length=C at*;rw[gQ B A,fB];rw[fB]at h6;exact aW h5 h6
       ·rw[subs,aT];omega
     ·rw[aG hs]at h;cases h;rw[hU,aG (show¬(2:Nat)=3 by decide),aG (show¬(2:Nat)=4 by decide)]
      exact⟨1,by omega,nD (by simp[subs,i6]) (by simp[ar])⟩
    ·rw[aG h2]at h;cases h;refine⟨1,by omega,?_⟩;rw[hU];split
     ·exact nD (by simp[subs]) rfl
     ·split
      ·exact nD (by simp[subs,i6]) rfl
      ·exact nD (by simp[subs,i6]) (by simp[ar])
  ·rw[aG hb]at h;cases h
theorem Gv:∀u,(subs u).length=size u:=by
 refine U.ind (fun x=>by simp[subs,size]) (fun k tx num ss ih=> ?_);rw[subs,size,aT];have:∀bs:List U,(∀a∈bs,(subs a).length=size a)->(i6 bs).length=b8 bs:=by
  intro bs;induction bs with
  | nil=>intro _;rfl
  | cons b bs ihb=>intro hb;rw[i6,b8,au,hb b (by simp),ihb fun a ha=>hb a (by simp[ha])]
 rw[this ss ih];omega
def gA (T:List Nat) (n:Nat):List Nat:=if n∈T then T else T++[n]
theorem kV (T:List Nat) (n:Nat):(gA T n).length<=T.length+1:=by unfold gA;split<;>simp
structure Wn where
 wt:List Nat
 no:Bool
def Wn.wait (l:Wn) (n:Nat):Wn:=⟨gA l.wt n,l.no⟩
def Wn.bad (l:Wn):Wn:=⟨l.wt,true⟩
def Wn.fh (l:Wn):U->Wn
 | .v x=>l.wait x.2
 | .n ..=>l
theorem Wn.jB (l:Wn) (u:U):(l.fh u).wt.length<=l.wt.length+1:=by
 cases u with
 | v x=>exact kV _ _
 | n k tx num ss=>exact bS _
theorem Wn.iO (l:Wn) (u:U):(l.fh u).no=l.no:=by cases u<;>rfl
mutual
def gh:U->U->Wn->Wn
 | .v x,b,l=>match b with
  | .v y=>if x=y then l else(l.wait x.2).wait y.2
  | .n ..=>l.wait x.2
 | .n k tx num ss,b,l=>match b with
  | .v y=>l.wait y.2
  | .n k' tx' num' ss'=>if k=k'/\tx=tx'/\num=num'/\ss.length=ss'.length then gD ss ss' l else l.bad
def gD:List U->List U->Wn->Wn
 | [],_,l=>l
 | a :: ss,bs,l=>match bs with
  | []=>l
  | b :: bs=>gD ss bs (gh a b l)
end
theorem mr (x y:Vr) (l:Wn):gh (.v x) (.v y) l=if x=y then l else(l.wait x.2).wait y.2:=by rw[gh]
theorem nU (x:Vr) (k:Nat) (tx:List UInt8) (num:Int) (ss:List U) (l:Wn):gh (.v x) (.n k tx num ss) l=l.wait x.2:=by rw[gh]
theorem nV (y:Vr) (k:Nat) (tx:List UInt8) (num:Int) (ss:List U) (l:Wn):gh (.n k tx num ss) (.v y) l=l.wait y.2:=by rw[gh]
theorem lr (k k':Nat) (tx tx':List UInt8) (num num':Int) (ss ss':List U) (l:Wn):gh (.n k tx num ss) (.n k' tx' num' ss') l=if k=k'/\tx=tx'/\num=num'/\ss.length=ss'.length then gD ss ss' l else l.bad:=by rw[gh]
theorem jv (bs:List U) (l:Wn):gD [] bs l=l:=by rw[gD]
theorem kC (ss:List U) (l:Wn):gD ss [] l=l:=by cases ss<;>rw[gD]
theorem gJ (a b:U) (ss bs:List U) (l:Wn):gD (a :: ss) (b :: bs) l=gD ss bs (gh a b l):=by rw[gD]
theorem tN:∀(ss bs:List U) (l:Wn) {j:Nat} (h:j<ss.length) (h':j<bs.length),gD (ss.take (j+1)) (bs.take (j+1)) l=gh ss[j] bs[j] (gD (ss.take j) (bs.take j) l)
 | a :: ss,b :: bs,l,0,_,_=>by simp[gD]
 | a :: ss,b :: bs,l,j+1,h,h'=>by rw[cu,cu,gJ,tN ss bs (gh a b l) (by simpa using h) (by simpa using h'),cu,cu,gJ];rfl
theorem vK:∀(u:U) (l:Wn),gh u u l=l:=by
 refine U.ind (fun x l=> ?_) (fun k tx num ss ih l=> ?_)
 ·rw[mr,aH rfl]
 ·rw[lr,aH ⟨rfl,rfl,rfl,rfl⟩]
  have:∀(bs:List U) (l:Wn),(∀a∈bs,∀l,gh a a l=l)->gD bs bs l=l:=by
   intro bs;induction bs with
   | nil=>intro l _;exact jv _ _
   | cons b bs ihb=>intro l hb;rw[gJ,hb b (by simp),ihb l fun a ha=>hb a (by simp[ha])]
  exact this ss l ih
theorem tM:∀(u v:U) (l:Wn),(gh u v l).wt.length<=l.wt.length+2*size u:=by
 refine U.ind (fun x v l=> ?_) (fun k tx num ss ih v l=> ?_)
 ·rw[size];cases v with
  | v y=>
   rw[mr];split
   ·omega
   ·have h1:=kV l.wt x.2;have h2:=kV (gA l.wt x.2) y.2;show (gA (gA l.wt x.2) y.2).length<=_;omega
  | n k tx num ss=>rw[nU];have:=kV l.wt x.2;show (gA l.wt x.2).length<=_;omega
 ·rw[size];cases v with
  | v y=>rw[nV];have:=kV l.wt y.2;show (gA l.wt y.2).length<=_;omega
  | n k' tx' num' ss'=>
   rw[lr];split
   ·have:∀(bs cs:List U) (l:Wn),(∀a∈bs,∀v l,(gh a v l).wt.length<=l.wt.length+2*size a)->(gD bs cs l).wt.length<=l.wt.length+2*b8 bs:=by
     intro bs;induction bs with
     | nil=>intro cs l _;rw[jv];omega
     | cons b bs ihb=>
      intro cs l hb;cases cs with
      | nil=>rw[kC];omega
      | cons c cs=>have h1:=hb b (by simp) c l;have h2:=ihb cs (gh b c l) fun a ha=>hb a (by simp[ha]);rw[gJ,b8];omega
    have:=this ss ss' l ih;omega
   ·show l.wt.length<=_;omega
theorem Fz (ss bs:List U) (l:Wn):(gD ss bs l).wt.length<=l.wt.length+2*b8 ss:=by
 induction ss generalizing bs l with
 | nil=>rw[jv];omega
 | cons a ss ih=>
  cases bs with
  | nil=>rw[kC];omega
  | cons b bs=>have h1:=tM a b l;have h2:=ih bs (gh a b l);rw[gJ,b8];omega
theorem qO:∀(ss:List U) {j:Nat} (h:j<ss.length),b8 (ss.take (j+1))=b8 (ss.take j)+size ss[j]
 | a :: ss,0,h=>by simp[b8]
 | a :: ss,j+1,h=>by rw[cu,cu,b8,b8,qO ss (by simpa using h)];simp;omega
theorem mS:∀(ss:List U) (j:Nat),b8 (ss.take j)<=b8 ss
 | [],j=>by simp
 | a :: ss,0=>by simp[b8]
 | a :: ss,j+1=>by rw[cu,b8,b8];have:=mS ss j;omega
theorem I5 {v:U} (l:Wn) (h:uz u=true\/uz v=true) (hn:∀x,u= .v x->v≠ .v x):gh u v l=(l.fh u).fh v:=by
 cases u with
 | v x=>
  cases v with
  | v y=>rw[mr,aG (fun e=>hn x rfl (by rw[e]))];rfl
  | n k tx num ss=>rw[nU];rfl
 | n k tx num ss=>
  cases v with
  | v y=>rw[nV];rfl
  | n k' tx' num' ss'=>rcases h with h | h<;>cases h
theorem I6 {k k':Nat} {tx tx':List UInt8} {num num':Int} {ss ss':List U} (l:Wn) (h:¬(k=k'/\tx=tx'/\num=num'/\ss.length=ss'.length)):gh (.n k tx num ss) (.n k' tx' num' ss') l=l.bad:=by rw[lr,aG h]
theorem Fy {k:Nat} {tx:List UInt8} {num:Int} {ss ss':List U} (l:Wn) (h:ss.length=ss'.length):gh (.n k tx num ss) (.n k tx num ss') l=gD ss ss' l:=by rw[lr,aH ⟨rfl,rfl,rfl,h⟩]
structure fO where
 st:List (List UInt8×U)
 w:Wn
def fO.meet (l:fO) (x:List UInt8) (u:U):fO:=match l.st.find? (fun q=>q.1 == x)with
 | some q=>⟨l.st,gh q.2 u l.w⟩
 | Option.none=>⟨l.st++[(x,u)],l.w⟩
def jl (p:Tm):Nat×List UInt8×Int:=if p.kind=4 then(3,[],(numOf p.text:Int))else(1,p.text.toList,0)
def fN (g:Tm->U->fO->fO):List Tm->List U->fO->fO
 | p :: ps,u :: us,l=>fN g ps us (g p u l)
 | _,_,l=>l
def dB:Nat->Tm->U->fO->fO
 | 0,_,_,l=>l
 | f+1,p,u,l=>if p.kind=3 then l.meet p.text.toList u else match u with
  | .v x=>⟨l.st,l.w.wait x.2⟩
  | .n k tx num ss=>if jl p=(k,tx,num)/\p.args.length=ss.length then fN (dB f) p.args ss l else⟨l.st,l.w.bad⟩
theorem uM (g:Tm->U->fO->fO):∀(ps:List Tm) (us:List U) (l:fO) {j:Nat} (h:j<ps.length) (h':j<us.length),fN g (ps.take (j+1)) (us.take (j+1)) l=g ps[j] us[j] (fN g (ps.take j) (us.take j) l)
 | p :: ps,u :: us,l,0,_,_=>by simp[fN]
 | p :: ps,u :: us,l,j+1,h,h'=>by rw[cu,cu,fN,uM g ps us (g p u l) (by simpa using h) (by simpa using h'),cu,cu,fN];rfl
theorem jJ (u:U) (l:fO) (h:p.kind=3):dB (f+1) p u l=l.meet p.text.toList u:=by unfold dB;rw[aH h]
theorem jr (x:Vr) (l:fO) (h:p.kind≠3):dB (f+1) p (.v x) l=⟨l.st,l.w.wait x.2⟩:=by unfold dB;rw[aG h]
theorem kM {k:Nat} {tx:List UInt8} {num:Int} {ss:List U} (l:fO) (h:p.kind≠3) (hr:¬(jl p=(k,tx,num)/\p.args.length=ss.length)):dB (f+1) p (.n k tx num ss) l=⟨l.st,l.w.bad⟩:=by unfold dB;rw[aG h];dsimp only;rw[aG hr]
theorem gf {k:Nat} {tx:List UInt8} {num:Int} {ss:List U} (l:fO) (h:p.kind≠3) (hr:jl p=(k,tx,num)/\p.args.length=ss.length):dB (f+1) p (.n k tx num ss) l=fN (dB f) p.args ss l:=by unfold dB;rw[aG h];dsimp only;rw[aH hr]
def fO.sm (B:Nat) (l:fO):Prop:=∀q∈l.st,size q.2<=B
theorem fO.Li {l:fO} (h:l.sm B) (x:List UInt8) (hu:size u<=B):(l.meet x u).sm B/\(l.meet x u).w.wt.length<=l.w.wt.length+2*B:=by
 unfold fO.meet;cases hq:l.st.find? (fun q=>q.1 == x)with
 | none=>
  refine⟨fun q hm=> ?_,?_⟩
  ·rcases bA.1 hm with hm | hm
   ·exact h q hm
   ·rw[a8.1 hm];exact hu
  ·dsimp only;omega
 | some q=>have hs:=h q (cR hq);have:=tM q.2 u l.w;exact⟨h,by dsimp only;omega⟩
theorem wj {g:Tm->U->fO->fO} {B c:Nat}:∀(ps:List Tm) (us:List U) (l:fO),(∀p∈ps,∀u∈us,∀l:fO,l.sm B->(g p u l).sm B/\(g p u l).w.wt.length<=l.w.wt.length+c)->l.sm B->(fN g ps us l).sm B/\(fN g ps us l).w.wt.length<=l.w.wt.length+ps.length*c
 | p :: ps,u :: us,l,hg,h=>by obtain⟨h1,h2⟩:=hg p (by simp) u (by simp) l h;obtain⟨h3,h4⟩:=wj ps us (g p u l) (fun q hq v hv=>hg q (by simp[hq]) v (by simp[hv])) h1;rw[fN];refine⟨h3,?_⟩;rw[aT,d9,j9];omega
 | [],[],l,_,h=>⟨h,by simp[fN]⟩
 | [],_ :: _,l,_,h=>⟨h,by simp[fN]⟩
 | _ :: _,[],l,_,h=>⟨h,by simp[fN]⟩
theorem rN {B:Nat}:∀(f:Nat) (p:Tm) (u:U) (l:fO),iE f p->size u<=B->1<=B->l.sm B->(dB f p u l).sm B/\(dB f p u l).w.wt.length<=l.w.wt.length+2*B*3 ^ f
 | f+1,p,u,l,hp,hu,hB,h=>by
  have h3:1<=3 ^ f:=kY _ _ (by omega);have e3:2*B*3 ^ (f+1)=3*(2*B*3 ^ f):=by rw[fU];rw[<-fB,gQ]
  have hm:2*B<=2*B*3 ^ f:=Nat.le_mul_of_pos_right _ h3;by_cases k:p.kind=3
  ·rw[jJ u l k];obtain⟨h1,h2⟩:=fO.Li h p.text.toList hu;exact⟨h1,by omega⟩
  ·cases u with
   | v x=>rw[jr x l k];refine⟨h,?_⟩;have:=kV l.w.wt x.2;show (gA l.w.wt x.2).length<=_;omega
   | n kk tx num ss=>
    by_cases hr:jl p=(kk,tx,num)/\p.args.length=ss.length
    ·rw[gf l k hr];obtain⟨h1,h2⟩:=wj (g:=dB f) (B:=B) (c:=2*B*3 ^ f) p.args ss l (fun q hq v hv l hl=>rN f q v l (hp.2.2.2 q hq) (by rw[size]at hu;have:=fP hv;omega) hB hl) h;refine⟨h1,aW h2 ?_⟩;have:=bY (2*B*3 ^ f) hp.2.2.1;omega
    ·rw[kM l k hr];exact⟨h,by show l.w.wt.length<=_;omega⟩
def Wn.none:Wn:=⟨[],false⟩
def Wn.says (l:Wn):Nat:=if l.no=true then 2 else if l.wt=[]then 1 else 3
def Wn.also (l m:Wn):Wn:=⟨m.wt.foldl gA l.wt,l.no||m.no⟩
def fZ (u v:U):Wn:=gh u v Wn.none
def jA (u v:U):Wn:=if(fZ u v).says=1 then⟨[],true⟩else if(fZ u v).says=2 then Wn.none else fZ u v
def jD:U->Wn
 | .v x=>⟨[x.2],false⟩
 | .n k _ _ _=>⟨[],decide (k≠3)⟩
def isNum:U->Option Int
 | .v _=>Option.none
 | .n k _ num _=>if k=3 then some num else Option.none
def ut (eq:Bool) (u v:U):Bool:=match isNum u,isNum v with
 | some a,some b=>decide (a<b)||(eq&&decide (a=b))
 | _,_=>false
def eZ (eq:Bool) (u v:U):Wn:=if((Wn.none.fh u).fh v).wt=[]then⟨[],!(ut eq u v)⟩else(Wn.none.fh u).fh v
theorem nT:∀(xs ws:List Nat),(xs.foldl gA ws).length<=ws.length+xs.length
 | [],ws=>by simp
 | x :: xs,ws=>by have h1:=nT xs (gA ws x);have h2:=kV ws x;rw[bF,aT];omega
theorem sh (u v:U):(fZ u v).wt.length<=2*size u:=by have:=tM u v Wn.none;unfold fZ;simpa [Wn.none] using this
theorem x9 (u v:U):(jA u v).wt.length<=2*size u:=by
 unfold jA;split
 ·simp
 ·split
  ·simp[Wn.none]
  ·exact sh u v
theorem Ey (eq:Bool) (u v:U):(eZ eq u v).wt.length<=2:=by
 unfold eZ;split
 ·simp
 ·have h1:=Wn.jB (Wn.none.fh u) v;have h2:=Wn.jB Wn.none u;simp only[Wn.none,ct]at h1 h2⊢;omega
theorem EA (u:U):(jD u).wt.length<=1:=by cases u<;>simp[jD]
theorem gR {θ:List UInt8->U} (f:Nat) (t:Tm) (ns:List (List UInt8)) (hw:iE f t) (h:∀y∈aP f ns t,η y=θ y):fb η f t=fb θ f t:=by rw[ry η 0 f t hw,ry θ 0 f t hw];exact sub_congr _ fun x hx=>h _ ((Du 0 f t hw hx).2 ns)
theorem Ak {B:Nat}:∀(us:List U),(∀u∈us,2*size u+1<=B)->2*b8 us+us.length<=us.length*B
 | [],_=>by simp[b8]
 | u :: us,h=>by have h1:=h u (by simp);have h2:=Ak us fun v hv=>h v (by simp[hv]);have h3:(us.length+1)*B=us.length*B+B:=Nat.succ_mul _ _;rw[b8,aT,h3];omega
theorem Ac {η:List UInt8->U} {B:Nat} (hB:1<=B) (hη:∀y,size (η y)<=B):∀(f:Nat) (t:Tm),iE f t->2*size (fb η f t)+1<=B*3 ^ f
 | 0,_,h=>h.elim
 | f+1,t,⟨h1,h2,h3,h4⟩=>by
  have hp:1<=3 ^ f:=kY _ _ (by omega);have hq:B<=B*3 ^ f:=Nat.le_mul_of_pos_right _ hp;have hs:B*3 ^ (f+1)=3*(B*3 ^ f):=by rw[fU,<-fB,gQ]
  rw[hs];unfold fb;split
  ·have:=hη t.text.toList;omega
  ·split
   ·simp only[size,b8];omega
   ·have q:=Ak (B:=B*3 ^ f) (t.args.map (fb η f)) (fun u hu=>by
     obtain⟨a,ha,rfl⟩:=bu.1 hu;exact Ac hB hη f a (h4 a ha))
    rw[bj]at q;simp only[size];have hl:t.args.length=0\/t.args.length=1\/t.args.length=2\/t.args.length=3:=by omega
    rcases hl with e | e | e | e<;>rw[e]at q<;>omega
def dR (η:List UInt8->U) (x:dq):Wn:=match x.right with
 | Option.none=>(match (fb η 8 x.left)with
  | .n _ _ _ [u]=>jD u
  | _=>Wn.none)
 | some r=>if x.sign=[61,61]then fZ (fb η 8 x.left) (fb η 8 r)else if x.sign=[92,61]then jA (fb η 8 x.left) (fb η 8 r)else eZ (decide (x.sign=[61,60])) (fb η 8 x.left) (fb η 8 r)
structure jc (x:dq):Prop where
 wl:iE 8 x.left
 wr:∀r,x.right=some r->iE 8 r
 no:x.right=none->x.sign=[]/\x.left.kind=2/\x.left.args.length=1
 yes:∀r,x.right=some r->x.sign=[61,61]\/x.sign=[92,61]\/x.sign=[61,60]\/x.sign=[60]
 la:x.last=none
def Wn.yes (l:Wn):Prop:=l.wt=[]/\l.no=false
theorem Wn.rX (l:Wn):l.says=1↔l.yes:=by obtain⟨wt,no⟩:=l;unfold Wn.says Wn.yes;cases no<;>by_cases h:wt=[]<;>simp[h]
theorem L9 (T:List Nat) (n:Nat):gA T n≠[]:=by
 unfold gA;split
 ·rename_i h;intro e;rw[e]at h;cases h
 ·simp
theorem Wn.oS {l:Wn} (h:(l.wait n).yes):False:=L9 _ _ h.1
theorem Wn.Ej {l:Wn} (h:l.bad.yes):False:=by cases h.2
theorem I0:∀(u v:U) (l:Wn),(gh u v l).yes->l.yes:=by
 refine U.ind (fun x v l=> ?_) (fun k tx num ss ih v l=> ?_)
 ·cases v with
  | v y=>
   rw[mr];split
   ·exact id
   ·exact fun h=>(Wn.oS h).elim
  | n k tx num ss=>rw[nU];exact fun h=>(Wn.oS h).elim
 ·cases v with
  | v y=>rw[nV];exact fun h=>(Wn.oS h).elim
  | n k' tx' num' ss'=>
   rw[lr];split
   ·have:∀(bs cs:List U) (l:Wn),(∀a∈bs,∀v l,(gh a v l).yes->l.yes)->(gD bs cs l).yes->l.yes:=by
     intro bs;induction bs with
     | nil=>intro cs l _;rw[jv];exact id
     | cons b bs ihb=>
      intro cs l hb;cases cs with
      | nil=>rw[kC];exact id
      | cons c cs=>rw[gJ];exact fun h=>hb b (by simp) c l (ihb cs _ (fun a ha=>hb a (by simp[ha])) h)
    exact this ss ss' l ih
   ·exact fun h=>(Wn.Ej h).elim
def fO.keys (l:fO):List (List UInt8):=l.st.map Prod.fst
theorem fO.Hu {l:fO} {x:List UInt8} (h:(l.meet x u).w.yes):l.w.yes/\(∀y∈l.keys,y∈(l.meet x u).keys)/\x∈(l.meet x u).keys:=by
 unfold fO.meet at h⊢;cases q:l.st.find? (fun q=>q.1 == x)with
 | some r=>rw[q]at h;refine⟨I0 _ _ _ h,fun y hy=>hy,?_⟩;have h1:=cR q;have h2:=List.find?_some q;exact bu.2 ⟨r,h1,by simpa using h2⟩
 | none=>
  rw[q]at h;refine⟨h,fun y hy=> ?_,?_⟩
  ·unfold fO.keys at hy⊢;dsimp only;rw[dL];exact bO _ hy
  ·unfold fO.keys;dsimp only;rw[dL];exact iS _ (by simp)
def OO (f:Nat):Prop:=∀(p:Tm) (u:U) (l:fO),iE f p->(dB f p u l).w.yes->l.w.yes/\(∀y∈l.keys,y∈(dB f p u l).keys)/\∀ns,∀x∈aP f ns p,x∈ns\/x∈(dB f p u l).keys
theorem Dr {f:Nat} (IH:OO f):∀(ps:List Tm) (us:List U) (l:fO),ps.length=us.length->(∀p∈ps,iE f p)->(fN (dB f) ps us l).w.yes->l.w.yes/\(∀y∈l.keys,y∈(fN (dB f) ps us l).keys)/\∀ns,∀x∈ps.foldl (aP f) ns,x∈ns\/x∈(fN (dB f) ps us l).keys
 | [],[],l,_,_,h=>⟨h,fun _ hy=>hy,fun ns x hx=>ay hx⟩
 | p :: ps,u :: us,l,hl,hw,h=>by
  rw[fN]at h⊢;obtain⟨h1,h2,h3⟩:=Dr IH ps us (dB f p u l) (by simpa using hl) (fun q hq=>hw q (by simp[hq])) h;obtain⟨k1,k2,k3⟩:=IH p u l (hw p (by simp)) h1;refine⟨k1,fun y hy=>h2 y (k2 y hy),fun ns x hx=> ?_⟩;rw[bF]at hx;rcases h3 _ x hx with q | q
  ·rcases k3 ns x q with r | r
   ·exact ay r
   ·exact aw (h2 x r)
  ·exact aw q
theorem wP:∀f,OO f
 | 0,_,_,_,h,_=>h.elim
 | f+1,p,u,l,hw,h=>by
  obtain⟨w1,w2,w3,w4⟩:=hw;by_cases kp:p.kind=3
  ·rw[jJ u l kp]at h⊢;obtain⟨h1,h2,h3⟩:=fO.Hu h;refine⟨h1,h2,fun ns x hx=> ?_⟩;rw[aP,aH kp]at hx;unfold jf at hx;split at hx
   ·exact ay hx
   ·rcases bA.1 hx with q | q
    ·exact ay q
    ·rw[a8.1 q];exact aw h3
  ·cases u with
   | v x=>rw[jr x l kp]at h;exact(Wn.oS h).elim
   | n k tx num ss=>
    by_cases hr:jl p=(k,tx,num)/\p.args.length=ss.length
    ·rw[gf l kp hr]at h⊢;obtain⟨h1,h2,h3⟩:=Dr (wP f) p.args ss l hr.2 w4 h;refine⟨h1,h2,fun ns x hx=> ?_⟩;rw[aP,aG kp]at hx;split at hx
     ·exact ay hx
     ·exact h3 ns x hx
    ·rw[kM l kp hr]at h;exact(Wn.Ej h).elim
def Nw (N:List (List UInt8)):Nat->Tm->Prop
 | 0,_=>True
 | f+1,t=>if t.kind=3 then t.text.toList∈N else if t.kind=4 then True else∀a∈t.args,Nw N f a
theorem qC {N:List (List UInt8)}:∀(f:Nat) (t:Tm) (ns:List (List UInt8)),(∀y∈aP f ns t,y∈N)->Nw N f t
 | 0,_,_,_=>trivial
 | f+1,t,ns,h=>by
  unfold Nw;unfold aP at h;by_cases h3:t.kind=3
  ·rw[aH h3]at h⊢;refine h _ ?_;unfold jf;split
   ·assumption
   ·simp
  ·rw[aG h3]at h⊢;by_cases h4:t.kind=4
   ·rw[aH h4];trivial
   ·rw[aG h4]at h⊢
    have fold:∀(ts:List Tm) (ns:List (List UInt8)),(∀y∈ts.foldl (aP f) ns,y∈N)->∀a∈ts,Nw N f a:=by
     intro ts;induction ts with
     | nil=>intro ns _ a ha;cases ha
     | cons u ts ih=>
      intro ns hn a ha;rw[bF]at hn;rcases bh.1 ha with rfl | ha
      ·refine qC f a ns fun y hy=>hn y ?_;obtain⟨K,hK⟩:=oH f ts (aP f ns a);rw[hK];exact bO _ hy
      ·exact ih _ hn a ha
    exact fold t.args ns h
structure iw (a b:U) (σ:Vr->U):Prop where
 one:sub σ a=sub σ b
 most:∀θ,sub θ a=sub θ b->∀x,sub θ (σ x)=θ x
 low:∀x y,σ x= .v y->y.1=x.1/\y.2<=x.2
theorem Made.Ln {a b:U} {σ:Vr->U} (h:Made G fr fr' T T' a b σ):iw a b σ:=⟨h.one,h.most,h.low⟩
theorem iw.idem {a b:U} {σ:Vr->U} (h:iw a b σ) (x:Vr):sub σ (σ x)=σ x:=h.most σ h.one x
theorem iw.fix {a b:U} {σ:Vr->U} (h:iw a b σ) {x y:Vr} (hy:has y (σ x)):σ y= .v y:=Dy _ (h.idem x) y hy
theorem iw.uniq {a b:U} {σ:Vr->U} (h:iw a b σ) (k:iw a b τ):∀x,σ x=τ x:=fun x=>by
 have h1:=k.idem x;have h2:=h.most τ k.one x;rw[<-h2];rw[sub_congr (τ:= .v) (σ x) (fun y hy=> ?_),sub_self];have e:=h.fix hy;have q:=k.most σ h.one y;cases hz:τ y with
 | n kk tx num ss=>rw[hz,dS,e]at q;cases q
 | v z=>rw[hz]at q;have q':σ z=σ y:=q;rw[e]at q';have l1:=h.low z y q';have l2:=k.low y z hz;congr 1;exact B1 l2.1 (by omega)
theorem iw.vars {a b:U} {σ:Vr->U} (h:iw a b σ) {x:Vr} (hz:has z (σ x)):z=x\/has z a\/has z b:=by apply eo;intro hn;have n1:z≠x:=fun q=>hn (ay q);have n2:¬has z a:=fun q=>hn (aw (ay q));have n3:¬has z b:=fun q=>hn (aw (aw q));let θ:Vr->U:=fun y=>if y=z then .n 9 [] 0 [σ z]else σ y;have ha:sub θ a=sub σ a:=sub_congr a fun y hy=>aG fun q=>n2 (by rwa [q]at hy);have hb:sub θ b=sub σ b:=sub_congr b fun y hy=>aG fun q=>n3 (by rwa [q]at hy);have q:=h.most θ (by rw[ha,hb,h.one]) x;have e:θ x=σ x:=aG (de n1);rw[e]at q;have:=Dy _ q z hz;have e2:θ z= .n 9 [] 0 [σ z]:=aH rfl;rw[e2]at this;cases this
theorem iw.ren {a b:U} {σ τ:Vr->U} {ρ:Vr->Vr} {Q:Vr->Prop} (h:iw a b σ) (hi:∀x y,Q x->Q y->ρ x=ρ y->x=y) (hm:∀x y,Q x->Q y->y.1=x.1->y.2<=x.2->(ρ y).1=(ρ x).1/\(ρ y).2<=(ρ x).2) (ha:∀x,has x a->Q x) (hb:∀x,has x b->Q x) (k:iw (sub (ren ρ) a) (sub (ren ρ) b) τ):∀u,(∀x,has x u->Q x)->sub τ (sub (af.ren ρ) u)=sub (af.ren ρ) (sub σ u):=by
 classical
 let σ':Vr->U:=fun y=>if q:∃x,Q x/\ρ x=y then sub (af.ren ρ) (σ (Classical.choose q))else .v y
 have hat:∀x,Q x->σ' (ρ x)=sub (af.ren ρ) (σ x):=fun x hx=>by have q:∃z,Q z/\ρ z=ρ x:=⟨x,hx,rfl⟩;have e:σ' (ρ x)=sub (af.ren ρ) (σ (Classical.choose q)):=kX q;rw[e,hi _ _ (dI q).1 hx (dI q).2]
 have hu:∀u,(∀x,has x u->Q x)->sub σ' (sub (af.ren ρ) u)=sub (af.ren ρ) (sub σ u):=fun u hu=>by rw[sub_sub,sub_sub];exact sub_congr u fun x hx=>hat x (hu x hx)
 have hl:iw (sub (af.ren ρ) a) (sub (af.ren ρ) b) σ':=by
  refine⟨by rw[hu a ha,hu b hb,h.one],fun θ e y=> ?_,fun y w e=> ?_⟩
  ·rw[sub_sub,sub_sub]at e;by_cases q:∃x,Q x/\ρ x=y
   ·obtain⟨x,hx,rfl⟩:=q;rw[hat x hx,sub_sub];exact h.most _ e x
   ·have:σ' y= .v y:=ul q;rw[this];rfl
  ·by_cases q:∃x,Q x/\ρ x=y
   ·obtain⟨x,hx,rfl⟩:=q;rw[hat x hx]at e;cases hs:σ x with
    | n kk tx num ss=>rw[hs,dS]at e;cases e
    | v z=>
     rw[hs]at e;have e':U.v (ρ z)= .v w:=e;injection e' with e';subst e';have hz:Q z:=by
      rcases h.vars (x:=x) (z:=z) (by rw[hs];exact rfl)with q | q | q
      ·rw[q];exact hx
      ·exact ha z q
      ·exact hb z q
     have:=h.low x z hs;exact hm x z hx hz this.1 this.2
   ·have:σ' y= .v y:=ul q;rw[this]at e;injection e with e;subst e;exact⟨rfl,Qw⟩
 intro u hq;rw[<-hu u hq];exact sub_congr _ fun x _=>k.uniq hl x
def NV (l:List (Vr×U)):Prop:=∀e∈l,∀y,e.2= .v y->y.1=e.1.1/\y.2<e.1.2
theorem NV.sig {l:List (Vr×U)} (h:NV l):∀x y,sig l x= .v y->y.1=x.1/\y.2<=x.2:=by
 unfold af.sig;induction l with
 | nil=>intro x y e;have e':U.v x= .v y:=e;injection e' with e';subst e';exact⟨rfl,Qw⟩
 | cons p l ih=>
  obtain⟨v,t⟩:=p;have ih:=ih (fun e he=>h e (cO _ he));intro x y e;have e':lJ (put (.v x) v t) l= .v y:=e;by_cases hx:x=v
  ·subst hx;rw[DH]at e';cases t with
   | n k tx num ss=>rw[wG]at e';cases e'
   | v z=>have h1:=h (x,.v z) (dD ..) z rfl;have h2:=ih z y e';exact⟨h2.1.trans h1.1,by have:=h1.2;have:=h2.2;dsimp only at*;omega⟩
  ·have:put (.v x) v t= .v x:=wH (fun q=>hx q);rw[this]at e';exact ih x y e'
theorem uF.Lm (hlt:∀x y,Q x->Q y->x≠y->(lt x y->x.1=y.1/\x.2<y.2)/\(¬lt x y->y.1=x.1/\y.2<x.2)) {l:List (U×U)} {r:Option (List (Vr×U))} {m:Nat} (h:uF lt l r m):(∀v,mn v l->Q v)->∀out,r=some out->NV out/\(∀e∈out,Q e.1/\∀v,has v e.2->Q v):=by
 induction h with
 | nil=>intro _ out q;cases q;exact⟨fun e he=>(by cases he),fun e he=>(by cases he)⟩
 | @args k tx num ss k' tx' num' ss' l r m h hs ih=>
  intro hq out e;refine ih (fun v hv=> ?_) out e;rcases tw.1 hv with q | q
  ·refine hq v (cU.2 (ay ?_));rw[gB,gB];rcases tm q with q | q
   ·exact aw q
   ·exact ay q
  ·exact hq v (cU.2 (aw q))
 | nh h=>intro _ out q;cases q
 | same hs ih=>intro hq out e;exact ih (fun v hv=>hq v (cU.2 (aw hv))) out e
 | @left x b l r m hv ho hs ih=>
  intro hq out e;obtain⟨o',rfl,rfl⟩:=fT.1 e;have hb:∀v,has v b->Q v:=fun v hv=>hq v (cU.2 (ay (aw hv)));have hx:Q x:=hq x (cU.2 (ay (ay rfl)));obtain⟨i1,i2⟩:=ih (fun v hv=>by
   rcases(kP ho hv).2 with q | q
   ·exact hb v q
   ·exact hq v (cU.2 (aw q))) o' rfl
  refine⟨fun e he y hy=> ?_,fun e he=> ?_⟩
  ·rcases bh.1 he with q | q
   ·subst q;dsimp only at hy⊢;obtain⟨q1,q2⟩:=hv y hy;exact(hlt x y hx (hb y (by rw[hy];exact rfl)) (de q1)).2 q2
   ·exact i1 e q y hy
  ·rcases bh.1 he with q | q
   ·subst q;exact⟨hx,hb⟩
   ·exact i2 e q
 | @right a y l r m hv ho hs ih=>
  intro hq out e;obtain⟨o',rfl,rfl⟩:=fT.1 e;have hb:∀v,has v a->Q v:=fun v hv=>hq v (cU.2 (ay (ay hv)));have hx:Q y:=hq y (cU.2 (ay (aw rfl)));obtain⟨i1,i2⟩:=ih (fun v hv=>by
   rcases(kP ho hv).2 with q | q
   ·exact hb v q
   ·exact hq v (cU.2 (aw q))) o' rfl
  refine⟨fun e he x he'=> ?_,fun e he=> ?_⟩
  ·rcases bh.1 he with q | q
   ·subst q;dsimp only at he'⊢;obtain⟨q1,q2⟩:=hv x he';exact(hlt x y (hb x (by rw[he'];exact rfl)) hx q1).1 q2
   ·exact i1 e q x he'
  ·rcases bh.1 he with q | q
   ·subst q;exact⟨hx,hb⟩
   ·exact i2 e q
 | wM hv ho=>intro _ out q;cases q
 | wL hv ho=>intro _ out q;cases q
theorem uF.Ln (hlt:∀x y,Q x->Q y->x≠y->(lt x y->x.1=y.1/\x.2<y.2)/\(¬lt x y->y.1=x.1/\y.2<x.2)) {a b:U} {m:Nat} (h:uF lt [(a,b)] (some out) m) (ha:∀v,has v a->Q v) (hb:∀v,has v b->Q v):iw a b (sig out):=by
 obtain⟨g1,g2⟩:=h.good.1 out rfl;have hl:=(h.Lm hlt (fun v hv=>by
  rcases cU.1 hv with(q | q) | ⟨e,he,_⟩
  ·exact ha v q
  ·exact hb v q
  ·cases he) out rfl).1
 refine⟨?_,fun θ e x=> ?_,hl.sig⟩
 ·have:=g1 (a,b) (dD ..);rwa [Av,Av]at this
 ·exact g2 θ (fun e' he=>by
   rcases bh.1 he with q | q
   ·rw[q];exact e
   ·cases q) (.v x)
theorem me (η:List UInt8->U) (f:Nat) (t:Tm):fb η (f+1) t=if t.kind=3 then η t.text.toList else if t.kind=4 then .n 3 [] (numOf t.text:Int) []else .n 1 t.text.toList 0 (t.args.map (fb η f)):=rfl
theorem wn (η:List UInt8->U) (f:Nat) (h:t.kind=3):fb η (f+1) t=η t.text.toList:=by rw[me,aH h]
