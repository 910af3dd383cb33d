import Derived.Test.YthfjnfcekeknlabGreatDoorPx00
set_option maxHeartbeats 8000000
set_option maxRecDepth 100000
set_option linter.unusedSimpArgs false
namespace af
abbrev Vr:=List UInt8×Nat
inductive U where
 | v (x:Vr)
 | n (k:Nat) (tx:List UInt8) (num:Int) (args:List U)
theorem U.ind {P:U->Prop} (hv:∀x,P (.v x)) (hn:∀k tx num ss,(∀a∈ss,P a)->P (.n k tx num ss)):∀u,P u
 | .v x=>hv x
 | .n k tx num ss=>hn k tx num ss fun a _=>U.ind hv hn a
termination_by u=>sizeOf u
decreasing_by
 simp_wf
 have:=List.sizeOf_lt_of_mem ‹a∈ss›;omega
mutual
def sub (θ:Vr->U):U->U
 | .v x=>θ x
 | .n k tx num ss=> .n k tx num (Kk θ ss)
def Kk (θ:Vr->U):List U->List U
 | []=>[]
 | a :: ss=>sub θ a :: Kk θ ss
end
theorem Ag (θ:Vr->U):∀ss,Kk θ ss=ss.map (sub θ)
 | []=>rfl
 | a :: ss=>by rw[Kk,aY,Ag θ ss]
theorem dS (θ:Vr->U) (k:Nat) (tx:List UInt8) (num:Int) (ss:List U):sub θ (.n k tx num ss)= .n k tx num (ss.map (sub θ)):=by rw[sub,Ag]
mutual
def size:U->Nat
 | .v _=>1
 | .n _ _ _ ss=>1+b8 ss
def b8:List U->Nat
 | []=>0
 | a :: ss=>size a+b8 ss
end
theorem fP {a:U}:∀{ss:List U},a∈ss->size a<=b8 ss
 | b :: ss,h=>by
  rw[b8];rcases bh.1 h with rfl | h
  ·omega
  ·have:=fP h;omega
theorem size_pos (u:U):0<size u:=by cases u<;>simp[size]<;>omega
mutual
def has (x:Vr):U->Prop
 | .v y=>y=x
 | .n _ _ _ ss=>Fr x ss
def Fr (x:Vr):List U->Prop
 | []=>False
 | a :: ss=>has x a\/Fr x ss
end
theorem Bb (x:Vr):∀ss,Fr x ss↔∃a∈ss,has x a
 | []=>by simp[Fr]
 | a :: ss=>by rw[Fr,Bb x ss];simp
theorem gB (x:Vr) (k:Nat) (tx:List UInt8) (num:Int) (ss:List U):has x (.n k tx num ss)↔∃a∈ss,has x a:=by rw[has,Bb]
theorem sub_congr {θ τ:Vr->U}:∀u,(∀x,has x u->θ x=τ x)->sub θ u=sub τ u:=by
 refine U.ind (fun x h=> ?_) (fun k tx num ss ih h=> ?_)
 ·exact h x rfl
 ·rw[dS,dS];congr 1;exact bt fun a ha=>ih a ha fun x hx=>h x ((gB x k tx num ss).2 ⟨a,ha,hx⟩)
theorem sub_sub (θ τ:Vr->U):∀u,sub τ (sub θ u)=sub (fun x=>sub τ (θ x)) u:=by refine U.ind (fun x=>rfl) (fun k tx num ss ih=> ?_);rw[dS,dS,dS,bQ];congr 1;exact bt ih
theorem sub_self:∀u,sub .v u=u:=by refine U.ind (fun x=>rfl) (fun k tx num ss ih=> ?_);rw[dS,bt ih,List.map_id']
open Classical in
noncomputable def one (a:Vr) (b:U):Vr->U:=fun x=>if x=a then b else .v x
noncomputable def put (u:U) (a:Vr) (b:U):U:=sub (one a b) u
theorem wH {u:U} {a:Vr} {b:U} (h:¬has a u):put u a b=u:=by unfold put;rw[sub_congr (τ:= .v) u (fun x hx=> ?_),sub_self];unfold one;rw[aG];rintro rfl;exact h hx
theorem DH (a:Vr) (b:U):put (.v a) a b=b:=by simp[put,sub,one]
theorem nE {θ:Vr->U} {a:Vr} {b:U} (h:θ a=sub θ b) (u:U):sub θ (put u a b)=sub θ u:=by
 unfold put;rw[sub_sub];refine sub_congr u fun x _=> ?_;unfold one;split
 ·rename_i e;subst e;exact h.symm
 ·rfl
theorem qN {x:Vr} {θ:Vr->U}:∀u,has x u->size (θ x)<=size (sub θ u):=by
 refine U.ind (fun y h=> ?_) (fun k tx num ss ih h=> ?_)
 ·rw[has]at h;subst h;exact Qw
 ·obtain⟨a,ha,hx⟩:=(gB x k tx num ss).1 h;have h1:=ih a ha hx;have h2:=fP (du (f:=sub θ) ha);rw[dS,size];omega
def Mi (θ:Vr->U) (l:List (U×U)):Prop:=∀e∈l,sub θ e.1=sub θ e.2
def uz:U->Bool
 | .v _=>true
 | _=>false
def Ap (k:Nat) (tx:List UInt8) (num:Int) (ss:List U) (k':Nat) (tx':List UInt8) (num':Int) (ss':List U):Prop:=k=k'/\tx=tx'/\num=num'/\ss.length=ss'.length
inductive uF (lt:Vr->Vr->Prop):List (U×U)->Option (List (Vr×U))->Nat->Prop
 | nil:uF lt [] (some []) 0
 | args {k tx num ss k' tx' num' ss' l r m} (h:Ap k tx num ss k' tx' num' ss') (hs:uF lt ((ss'.zip ss)++l) r m):uF lt ((.n k tx num ss,.n k' tx' num' ss') :: l) r (m+1)
 | nh {k tx num ss k' tx' num' ss' l} (h:¬Ap k tx num ss k' tx' num' ss'):uF lt ((.n k tx num ss,.n k' tx' num' ss') :: l) none 1
 | same {x l r m} (hs:uF lt l r m):uF lt ((.v x,.v x) :: l) r (m+1)
 | left {x b l r m} (hv:∀y,b= .v y->y≠x/\¬lt x y) (ho:¬has x b) (hs:uF lt (l.map fun e=>(put e.1 x b,put e.2 x b)) r m):uF lt ((.v x,b) :: l) (r.map ((x,b) :: ·)) (m+1)
 | right {a y l r m} (hv:∀x,a= .v x->x≠y/\lt x y) (ho:¬has y a) (hs:uF lt (l.map fun e=>(put e.1 y a,put e.2 y a)) r m):uF lt ((a,.v y) :: l) (r.map ((y,a) :: ·)) (m+1)
 | wM {x b l} (hv:∀y,b≠ .v y) (ho:has x b):uF lt ((.v x,b) :: l) none 1
 | wL {a y l} (hv:∀x,a≠ .v x) (ho:has y a):uF lt ((a,.v y) :: l) none 1
noncomputable def lJ (u:U) (l:List (Vr×U)):U:=l.foldl (fun u e=>put u e.1 e.2) u
theorem wG (k:Nat) (tx:List UInt8) (num:Int) (ss:List U) (l:List (Vr×U)):lJ (.n k tx num ss) l= .n k tx num (ss.map fun a=>lJ a l):=by
 unfold lJ;induction l generalizing ss with
 | nil=>simp
 | cons e l ih=>rw[bF,put,dS,ih,bQ];rfl
theorem Di {α:Type}:∀{ss bs:List α} {i:Nat} (h:i<ss.length) (h':i<bs.length),(ss[i],bs[i])∈ss.zip bs
 | a :: ss,b :: bs,0,_,_=>by simp
 | a :: ss,b :: bs,i+1,h,h'=>by have:=Di (ss:=ss) (bs:=bs) (i:=i) (by simpa using h) (by simpa using h');simp[this]
theorem L3 {f:U->U} {ss ss':List U} (hl:ss.length=ss'.length) (h:∀e∈ss'.zip ss,f e.1=f e.2):ss.map f=ss'.map f:=by
 apply fY (by simp[hl]);intro i h1 h2;have h1':i<ss.length:=by simpa using h1
 have h2':i<ss'.length:=by simpa using h2
 have:=h _ (Di h2' h1');simpa using this.symm
theorem uF.good {lt:Vr->Vr->Prop} {l:List (U×U)} {r:Option (List (Vr×U))} {m:Nat} (h:uF lt l r m):(∀out,r=some out->(∀e∈l,lJ e.1 out=lJ e.2 out)/\∀θ,Mi θ l->∀u,sub θ (lJ u out)=sub θ u)/\(r=none->∀θ,¬Mi θ l):=by
 induction h with
 | nil=>exact⟨fun out q=>⟨fun e he=>(by cases he),fun θ _ u=>by cases q;rfl⟩,fun q=>by cases q⟩
 | @args k tx num ss k' tx' num' ss' l r m h hs ih=>
  obtain⟨rfl,rfl,rfl,hl⟩:=h;have hu:∀θ,Mi θ ((U.n k tx num ss,U.n k tx num ss') :: l)->Mi θ (ss'.zip ss++l):=fun θ q e he=>by
   rcases bA.1 he with he | he
   ·have q0:=q _ (dD ..);dsimp only at q0;rw[dS,dS]at q0;injection q0 with _ _ _ q0;obtain⟨i,hi,rfl⟩:=bG he;rw[List.length_zip]at hi;rw[List.getElem_zip];have h1:i<ss.length:=by omega
    have:=cL (·[i]?) q0;simp only[bC,aj h1,aj (show i<ss'.length by omega),FQ,aM]at this
    exact this.symm
   ·exact q e (cO _ he)
  refine⟨fun out q=> ?_,fun q θ hθ=>ih.2 q θ (hu θ hθ)⟩;obtain⟨i1,i2⟩:=ih.1 out q;refine⟨fun e he=> ?_,fun θ hθ u=>i2 θ (hu θ hθ) u⟩;rcases bh.1 he with rfl | he
  ·dsimp only;rw[wG,wG];congr 1;exact L3 (f:=fun a=>lJ a out) hl fun e he=>i1 e (bO _ he)
  ·exact i1 e (iS _ he)
 | nh h=>refine⟨fun out q=>(by cases q),fun _ θ hθ=>h ?_⟩;have q0:=hθ _ (dD ..);dsimp only at q0;rw[dS,dS]at q0;injection q0 with q1 q2 q3 q4;exact⟨q1,q2,q3,by simpa using cL List.length q4⟩
 | same hs ih=>
  refine⟨fun out q=> ?_,fun q θ hθ=>ih.2 q θ fun e he=>hθ e (cO _ he)⟩;obtain⟨i1,i2⟩:=ih.1 out q;refine⟨fun e he=> ?_,fun θ hθ u=>i2 θ (fun e he=>hθ e (cO _ he)) u⟩;rcases bh.1 he with rfl | he
  ·rfl
  ·exact i1 e he
 | @left x b l r m hv ho hs ih=>
  have hu:∀θ,Mi θ ((U.v x,b) :: l)->θ x=sub θ b/\Mi θ (l.map fun e=>(put e.1 x b,put e.2 x b)):=fun θ q=>by have q0:θ x=sub θ b:=q _ (dD ..);refine⟨q0,fun e he=> ?_⟩;obtain⟨e',he',rfl⟩:=bu.1 he;dsimp only;rw[nE q0,nE q0];exact q e' (cO _ he')
  refine⟨fun out q=> ?_,fun q θ hθ=>ih.2 (by cases r with | none=>rfl | some o=>cases q) θ (hu θ hθ).2⟩;obtain⟨o',rfl,rfl⟩:=fT.1 q;obtain⟨i1,i2⟩:=ih.1 o' rfl;refine⟨fun e he=> ?_,fun θ hθ u=> ?_⟩
  ·rcases bh.1 he with rfl | he
   ·show lJ (put (.v x) x b) o'=lJ (put b x b) o';rw[DH,wH ho]
   ·exact i1 _ (du he)
  ·show sub θ (lJ (put u x b) o')=_;rw[i2 θ (hu θ hθ).2,nE (hu θ hθ).1]
 | @right a y l r m hv ho hs ih=>
  have hu:∀θ,Mi θ ((a,U.v y) :: l)->θ y=sub θ a/\Mi θ (l.map fun e=>(put e.1 y a,put e.2 y a)):=fun θ q=>by have q0:sub θ a=θ y:=q _ (dD ..);refine⟨q0.symm,fun e he=> ?_⟩;obtain⟨e',he',rfl⟩:=bu.1 he;dsimp only;rw[nE q0.symm,nE q0.symm];exact q e' (cO _ he')
  refine⟨fun out q=> ?_,fun q θ hθ=>ih.2 (by cases r with | none=>rfl | some o=>cases q) θ (hu θ hθ).2⟩;obtain⟨o',rfl,rfl⟩:=fT.1 q;obtain⟨i1,i2⟩:=ih.1 o' rfl;refine⟨fun e he=> ?_,fun θ hθ u=> ?_⟩
  ·rcases bh.1 he with rfl | he
   ·show lJ (put a y a) o'=lJ (put (.v y) y a) o';rw[DH,wH ho]
   ·exact i1 _ (du he)
  ·show sub θ (lJ (put u y a) o')=_;rw[i2 θ (hu θ hθ).2,nE (hu θ hθ).1]
 | @wM x b l hv ho=>
  refine⟨fun out q=>(by cases q),fun _ θ hθ=> ?_⟩;have q0:θ x=sub θ b:=hθ _ (dD ..);cases b with
  | v y=>exact hv y rfl
  | n k tx num ss=>obtain⟨a,ha,hx⟩:=(gB x k tx num ss).1 ho;have h1:=qN (θ:=θ) a hx;have h2:=fP (du (f:=sub θ) ha);have h3:=cL size q0;rw[dS,size]at h3;omega
 | @wL a y l hv ho=>
  refine⟨fun out q=>(by cases q),fun _ θ hθ=> ?_⟩;have q0:sub θ a=θ y:=hθ _ (dD ..);cases a with
  | v y=>exact hv y rfl
  | n k tx num ss=>obtain⟨a,ha,hx⟩:=(gB y k tx num ss).1 ho;have h1:=qN (θ:=θ) a hx;have h2:=fP (du (f:=sub θ) ha);have h3:=cL size q0;rw[dS,size]at h3;omega
structure Gn where
 nQ:Option (Nat×List UInt8×Int)
 args:List Nat
def gl (G:List Gn) (n:Nat):Option (Nat×List UInt8×Int):=(G[n]?).bind (·.nQ)
def ga (G:List Gn) (n:Nat):List Nat:=((G[n]?).map (·.args)).getD []
structure Reads (G:List Gn) (fr:Nat->Nat) (v:Nat->U):Prop where
 node:∀n k tx num,gl G n=some (k,tx,num)->v n= .n k tx num ((ga G n).map v)
 front:∀n,v n=v (fr n)
open Classical in
noncomputable def gu (fr:Nat->Nat) (a b:Nat):Nat->Nat:=fun n=>if fr n=a then b else fr n
def qR (G:List Gn) (a b:Nat):Prop:=gl G a=gl G b/\(ga G a).length=(ga G b).length
mutual
inductive fa (G:List Gn):(Nat->Nat)->Nat->Nat->Bool->(Nat->Nat)->Prop
 | same {fr a b} (h:fr a=fr b):fa G fr a b true fr
 | vars {fr a b lo hi} (h:fr a≠fr b) (ha:gl G (fr a)=none) (hb:gl G (fr b)=none) (hl:(lo=fr a/\hi=fr b)\/(lo=fr b/\hi=fr a)) (hlt:lo<hi):fa G fr a b true (gu fr hi lo)
 | left {fr a b} (h:fr a≠fr b) (ha:gl G (fr a)=none) (hb:gl G (fr b)≠none):fa G fr a b true (gu fr (fr a) (fr b))
 | right {fr a b} (h:fr a≠fr b) (ha:gl G (fr a)≠none) (hb:gl G (fr b)=none):fa G fr a b true (gu fr (fr b) (fr a))
 | nh {fr a b fr'} (h:fr a≠fr b) (ha:gl G (fr a)≠none) (hb:gl G (fr b)≠none) (hs:¬qR G (fr a) (fr b)):fa G fr a b false fr'
 | args {fr a b r fr'} (h:fr a≠fr b) (ha:gl G (fr a)≠none) (hb:gl G (fr b)≠none) (hs:qR G (fr a) (fr b)) (hj:jS G (gu fr (fr b) (fr a)) (ga G (fr a)) (ga G (fr b)) r fr'):fa G fr a b r fr'
inductive jS (G:List Gn):(Nat->Nat)->List Nat->List Nat->Bool->(Nat->Nat)->Prop
 | nil {fr}:jS G fr [] [] true fr
 | no {fr x y xs ys fr'} (h:fa G fr x y false fr'):jS G fr (x :: xs) (y :: ys) false fr'
 | cons {fr x y xs ys fr1 r fr'} (h:fa G fr x y true fr1) (hs:jS G fr1 xs ys r fr'):jS G fr (x :: xs) (y :: ys) r fr'
end
structure jT (G:List Gn) (fr:Nat->Nat):Prop where
 idem:∀n,fr (fr n)=fr n
 nQ:∀n,gl G n≠none->gl G (fr n)≠none
theorem kN {G:List Gn} {fr:Nat->Nat} (h:jT G fr) {a b:Nat} (ha:fr a=a) (hb:fr b=b) (hab:a≠b) (hl:gl G a≠none->gl G b≠none):jT G (gu fr a b)/\(∀x y,fr x=fr y->gu fr a b x=gu fr a b y)/\gu fr a b a=b/\gu fr a b b=b:=by
 refine⟨⟨fun n=> ?_,fun n hn=> ?_⟩,fun x y e=>by unfold gu;rw[e],by unfold gu;rw[ha,aH rfl],by unfold gu;rw[hb,aG (de hab)]⟩
 ·by_cases q:fr n=a
  ·have e:gu fr a b n=b:=by unfold gu;rw[aH q]
   rw[e];unfold gu;rw[hb,aG (de hab)]
  ·have e:gu fr a b n=fr n:=by unfold gu;rw[aG q]
   rw[e];unfold gu;rw[h.idem,aG q]
 ·unfold gu;split
  ·rename_i q;exact hl (q ▸ h.nQ n hn)
  ·exact h.nQ n hn
theorem Reads.gu {G:List Gn} {fr:Nat->Nat} {v:Nat->U} (h:Reads G fr v) {a b:Nat} (e:v a=v b):Reads G (gu fr a b) v:=by
 refine⟨h.node,fun n=> ?_⟩;unfold af.gu;split
 ·rename_i q;rw[h.front n,q,e]
 ·exact h.front n
theorem Ao {G:List Gn} {fr:Nat->Nat} {v:Nat->U} (h:Reads G fr v) {a b:Nat} (ha:gl G a≠none) (hb:gl G b≠none) (e:v a=v b):qR G a b/\(ga G a).map v=(ga G b).map v:=by obtain⟨⟨k,tx,num⟩,hx⟩:=nu.1 ha;obtain⟨⟨k',tx',num'⟩,hy⟩:=nu.1 hb;have h1:=h.node a k tx num hx;have h2:=h.node b k' tx' num' hy;rw[h1,h2]at e;injection e with e1 e2 e3 e4;refine⟨⟨?_,by simpa using cL List.length e4⟩,e4⟩;rw[hx,hy,e1,e2,e3]
theorem fa.reads {G:List Gn} {fr:Nat->Nat} {a b:Nat} {r:Bool} {fr':Nat->Nat} (h:fa G fr a b r fr'):∀v,Reads G fr v->v a=v b->r=true/\Reads G fr' v:=by
 refine fa.rec (motive_1:=fun fr a b r fr' _=>∀v,Reads G fr v->v a=v b->r=true/\Reads G fr' v) (motive_2:=fun fr xs ys r fr' _=>∀v,Reads G fr v->xs.map v=ys.map v->r=true/\Reads G fr' v) ?_ ?_ ?_ ?_ ?_ ?_ ?_ ?_ ?_ h
 ·intro fr a b h v hv _;exact⟨rfl,hv⟩
 ·intro fr a b lo hi h ha hb hl hlt v hv e;refine⟨rfl,hv.gu ?_⟩;rw[hv.front a,hv.front b]at e;rcases hl with⟨rfl,rfl⟩ | ⟨rfl,rfl⟩
  ·exact e.symm
  ·exact e
 ·intro fr a b h ha hb v hv e;refine⟨rfl,hv.gu ?_⟩;rwa [hv.front a,hv.front b]at e
 ·intro fr a b h ha hb v hv e;refine⟨rfl,hv.gu ?_⟩;rw[hv.front a,hv.front b]at e;exact e.symm
 ·intro fr a b fr' h ha hb hs v hv e;rw[hv.front a,hv.front b]at e;exact absurd (Ao hv ha hb e).1 hs
 ·intro fr a b r fr' h ha hb hs hj ih v hv e;rw[hv.front a,hv.front b]at e;exact ih v (hv.gu e.symm) (Ao hv ha hb e).2
 ·intro fr v hv _;exact⟨rfl,hv⟩
 ·intro fr x y xs ys fr' h ih v hv e;rw[aY,aY]at e;injection e with e1 e2;exact absurd (ih v hv e1).1 (by decide)
 ·intro fr x y xs ys fr1 r fr' h hs ih ihs v hv e;rw[aY,aY]at e;injection e with e1 e2;exact ihs v (ih v hv e1).2 e2
inductive xE (fr:Nat->Nat) (E:Nat->Nat->Prop):Nat->Nat->Prop
 | fr {x y} (h:fr x=fr y):xE fr E x y
 | todo {x y} (h:E x y):xE fr E x y
 | symm {x y} (h:xE fr E x y):xE fr E y x
 | trans {x y z} (h:xE fr E x y) (k:xE fr E y z):xE fr E x z
theorem xE.imp {fr fr':Nat->Nat} {E E':Nat->Nat->Prop} (h1:∀x y,fr x=fr y->xE fr' E' x y) (h2:∀x y,E x y->xE fr' E' x y) {x y:Nat} (h:xE fr E x y):xE fr' E' x y:=by
 induction h with
 | fr h=>exact h1 _ _ h
 | todo h=>exact h2 _ _ h
 | symm _ ih=>exact .symm ih
 | trans _ _ i1 i2=>exact .trans i1 i2
theorem xE.done {fr:Nat->Nat} {x y:Nat} (h:xE fr (fun _ _=>False) x y):fr x=fr y:=by
 induction h with
 | fr h=>exact h
 | todo h=>exact h.elim
 | symm _ ih=>exact ih.symm
 | trans _ _ i1 i2=>exact i1.trans i2
structure oh (G:List Gn) (fr:Nat->Nat) (E:Nat->Nat->Prop):Prop where
 nQ:∀n,gl G n≠none->qR G n (fr n)
 args:∀n,gl G n≠none->∀(i x y:Nat),(ga G n)[i]?=some x->(ga G (fr n))[i]?=some y->xE fr E x y
def plus (E:Nat->Nat->Prop) (a b:Nat):Nat->Nat->Prop:=fun x y=>E x y\/(x=a/\y=b)
def Mm (E:Nat->Nat->Prop) (ss bs:List Nat):Nat->Nat->Prop:=fun x y=>E x y\/∃i:Nat,ss[i]?=some x/\bs[i]?=some y
theorem oh.var {G:List Gn} {fr:Nat->Nat} {E E':Nat->Nat->Prop} (h:oh G fr E) (hf:jT G fr) {a b:Nat} (ha:gl G a=none) (hE:∀x y,E x y->xE (gu fr a b) E' x y):oh G (gu fr a b) E':=by
 have keep:∀n,gl G n≠none->gu fr a b n=fr n:=fun n hn=>by unfold gu;rw[aG];intro q;exact hf.nQ n hn (q ▸ ha)
 refine⟨fun n hn=>by rw[keep n hn];exact h.nQ n hn,fun n hn i x y hx hy=> ?_⟩;rw[keep n hn]at hy;exact(h.args n hn i x y hx hy).imp (fun x y e=> .fr (by unfold gu;rw[e])) hE
theorem oh.imp {G:List Gn} {fr:Nat->Nat} {E E':Nat->Nat->Prop} (h:oh G fr E) (hE:∀x y,E x y->xE fr E' x y):oh G fr E':=⟨h.nQ,fun n hn i x y hx hy=>(h.args n hn i x y hx hy).imp (fun _ _ e=> .fr e) hE⟩
structure Left (G:List Gn) (fr:Nat->Nat) (fr':Nat->Nat):Prop where
 fG:jT G fr'
 mono:∀x y,fr x=fr y->fr' x=fr' y
theorem Left.trans {G:List Gn} {f g h:Nat->Nat} (a:Left G f g) (b:Left G g h):Left G f h:=⟨b.fG,fun x y e=>b.mono x y (a.mono x y e)⟩
theorem fa.left' {G:List Gn} {fr:Nat->Nat} {a b:Nat} {r:Bool} {fr':Nat->Nat} (h:fa G fr a b r fr'):r=true->jT G fr->Left G fr fr'/\fr' a=fr' b/\∀E,oh G fr (plus E a b)->oh G fr' E:=by
 refine fa.rec (motive_1:=fun fr a b r fr' _=>r=true->jT G fr->Left G fr fr'/\fr' a=fr' b/\∀E,oh G fr (plus E a b)->oh G fr' E) (motive_2:=fun fr xs ys r fr' _=>r=true->jT G fr->Left G fr fr'/\∀E,oh G fr (Mm E xs ys)->oh G fr' E) ?_ ?_ ?_ ?_ ?_ ?_ ?_ ?_ ?_ h
 ·intro fr a b h _ hf;refine⟨⟨hf,fun _ _ e=>e⟩,h,fun E hc=>hc.imp fun x y q=> ?_⟩;rcases q with q | ⟨rfl,rfl⟩
  ·exact .todo q
  ·exact .fr h
 ·intro fr a b lo hi h ha hb hl hlt _ hf;have hlo:fr lo=lo:=by rcases hl with⟨rfl,_⟩ | ⟨rfl,_⟩<;>exact hf.idem _
  have hhi:fr hi=hi:=by rcases hl with⟨_,rfl⟩ | ⟨_,rfl⟩<;>exact hf.idem _
  have hnone:gl G hi=none:=by rcases hl with⟨_,rfl⟩ | ⟨_,rfl⟩<;>assumption
  obtain⟨h1,h2,h3,h4⟩:=kN hf hhi hlo (by omega) (fun q=>absurd hnone q);have hab:gu fr hi lo a=gu fr hi lo b:=by
   rw[h2 a (fr a) (hf.idem a).symm,h2 b (fr b) (hf.idem b).symm];rcases hl with⟨rfl,rfl⟩ | ⟨rfl,rfl⟩
   ·rw[h3,h4]
   ·rw[h3,h4]
  refine⟨⟨h1,h2⟩,hab,fun E hc=>hc.var hf hnone fun x y q=> ?_⟩;rcases q with q | ⟨rfl,rfl⟩
  ·exact .todo q
  ·exact .fr hab
 ·intro fr a b h ha hb _ hf;obtain⟨h1,h2,h3,h4⟩:=kN hf (hf.idem a) (hf.idem b) h (fun q=>absurd ha q);have hab:gu fr (fr a) (fr b) a=gu fr (fr a) (fr b) b:=by rw[h2 a (fr a) (hf.idem a).symm,h2 b (fr b) (hf.idem b).symm,h3,h4]
  refine⟨⟨h1,h2⟩,hab,fun E hc=>hc.var hf ha fun x y q=> ?_⟩;rcases q with q | ⟨rfl,rfl⟩
  ·exact .todo q
  ·exact .fr hab
 ·intro fr a b h ha hb _ hf;obtain⟨h1,h2,h3,h4⟩:=kN hf (hf.idem b) (hf.idem a) (de h) (fun q=>absurd hb q);have hab:gu fr (fr b) (fr a) a=gu fr (fr b) (fr a) b:=by rw[h2 a (fr a) (hf.idem a).symm,h2 b (fr b) (hf.idem b).symm,h3,h4]
  refine⟨⟨h1,h2⟩,hab,fun E hc=>hc.var hf hb fun x y q=> ?_⟩;rcases q with q | ⟨rfl,rfl⟩
  ·exact .todo q
  ·exact .fr hab
 ·intro fr a b fr' h ha hb hs q;cases q
 ·intro fr a b r fr' h ha hb hs hj ih hr hf;obtain⟨h1,h2,h3,h4⟩:=kN hf (hf.idem b) (hf.idem a) (de h) (fun _=>ha);have hab:gu fr (fr b) (fr a) a=gu fr (fr b) (fr a) b:=by rw[h2 a (fr a) (hf.idem a).symm,h2 b (fr b) (hf.idem b).symm,h3,h4]
  obtain⟨i1,i2⟩:=ih hr h1;refine⟨(Left.trans ⟨h1,h2⟩ i1),i1.mono a b hab,fun E hc=>i2 E ⟨fun n hn=> ?_,fun n hn i x y hx hy=> ?_⟩⟩
  ·have:=hc.nQ n hn;unfold gu;split
   ·rename_i q;rw[q]at this;exact⟨this.1.trans hs.1.symm,this.2.trans hs.2.symm⟩
   ·exact this
  ·have up:∀u v,xE fr (plus E a b) u v->xE (gu fr (fr b) (fr a)) (Mm E (ga G (fr a)) (ga G (fr b))) u v:=fun u v q=>q.imp (fun s t e=> .fr (h2 s t e)) (fun s t e=>by
    rcases e with e | ⟨rfl,rfl⟩
    ·exact .todo (ay e)
    ·exact .fr hab)
   by_cases q:fr n=fr b
   ·have e:gu fr (fr b) (fr a) n=fr a:=by unfold gu;rw[aH q]
    rw[e]at hy;have hlen:i<(ga G (fr b)).length:=by have:=(bl.1 hy).1;have:=hs.2;omega
    have hz:(ga G (fr b))[i]?=some (ga G (fr b))[i]:=aj hlen;have h5:=hc.args n hn i x (ga G (fr b))[i] hx (by rw[q];exact hz);exact .trans (up _ _ h5) (.symm (.todo (aw ⟨i,hy,hz⟩)))
   ·have e:gu fr (fr b) (fr a) n=fr n:=by unfold gu;rw[aG q]
    rw[e]at hy;exact up _ _ (hc.args n hn i x y hx hy)
 ·intro fr _ hf;refine⟨⟨hf,fun _ _ e=>e⟩,fun E hc=>hc.imp fun x y q=> ?_⟩;rcases q with q | ⟨i,hi,_⟩
  ·exact .todo q
  ·simp at hi
 ·intro fr x y xs ys fr' h ih q;cases q
 ·intro fr x y xs ys fr1 r fr' h hs ih ihs hr hf;obtain⟨i1,i2,i3⟩:=ih rfl hf;obtain⟨j1,j2⟩:=ihs hr i1.fG;refine⟨i1.trans j1,fun E hc=>j2 E (i3 _ (hc.imp fun u v q=> ?_))⟩;rcases q with q | ⟨i,hi,hj⟩
  ·exact .todo (ay (ay q))
  ·cases i with
   | zero=>simp at hi hj;exact .todo (aw ⟨hi.symm,hj.symm⟩)
   | succ i=>simp at hi hj;exact .todo (ay (aw ⟨i,hi,hj⟩))
theorem jS.Mr {G:List Gn} {fr:Nat->Nat} {xs ys:List Nat} {r:Bool} {fr':Nat->Nat} (h:jS G fr xs ys r fr') (hr:r=true) (hf:jT G fr):Left G fr fr':=by
 induction xs generalizing fr ys with
 | nil=>
  cases h with
  | nil=>exact⟨hf,fun _ _ e=>e⟩
 | cons x xs ih=>
  cases h with
  | no h=>cases hr
  | cons h hs=>obtain⟨i1,_,_⟩:=h.left' rfl hf;exact i1.trans (ih hs i1.fG)
open Classical in
noncomputable def upd (K:Nat->Nat) (n m:Nat):Nat->Nat:=fun k=>if k=n then m else K k
theorem wi (K:Nat->Nat) (n m:Nat):upd K n m n=m:=by simp[upd]
theorem upd_ne (K:Nat->Nat) {n k:Nat} (m:Nat) (h:k≠n):upd K n m k=K k:=by simp[upd,h]
mutual
inductive jg (G:List Gn) (fr:Nat->Nat):(Nat->Nat)->Nat->Bool->(Nat->Nat)->Prop
 | seen {K n} (h:K (fr n)≠0):jg G fr K n (decide (K (fr n)=2)) K
 | go {K n K'} (h:K (fr n)=0) (hs:np G fr (upd K (fr n) 1) (ga G (fr n)) true K'):jg G fr K n true (upd K' (fr n) 2)
 | no {K n K'} (h:K (fr n)=0) (hs:np G fr (upd K (fr n) 1) (ga G (fr n)) false K'):jg G fr K n false K'
inductive np (G:List Gn) (fr:Nat->Nat):(Nat->Nat)->List Nat->Bool->(Nat->Nat)->Prop
 | nil {K}:np G fr K [] true K
 | no {K x xs K'} (h:jg G fr K x false K'):np G fr K (x :: xs) false K'
 | cons {K x xs K1 r K'} (h:jg G fr K x true K1) (hs:np G fr K1 xs r K'):np G fr K (x :: xs) r K'
end
inductive Tr (G:List Gn) (fr:Nat->Nat):Nat->U->Prop
 | var {n} (h:gl G (fr n)=none) (ha:ga G (fr n)=[]):Tr G fr n (.v ([],fr n))
 | node {n k tx num us} (h:gl G (fr n)=some (k,tx,num)) (hl:(ga G (fr n)).length=us.length) (ht:∀(i a:Nat) (u:U),(ga G (fr n))[i]?=some a->us[i]?=some u->Tr G fr a u):Tr G fr n (.n k tx num us)
def Plain (G:List Gn):Prop:=∀n,gl G n=none->ga G n=[]
theorem Tr.front {G:List Gn} {fr:Nat->Nat} {a b:Nat} {u:U} (h:Tr G fr a u) (e:fr a=fr b):Tr G fr b u:=by
 cases h with
 | var h ha=>rw[e]at h ha⊢;exact .var h ha
 | node h hl ht=>exact .node (e ▸ h) (e ▸ hl) (fun i a u ha=>ht i a u (e ▸ ha))
theorem Tr.one {G:List Gn} {fr:Nat->Nat} {n:Nat} {u:U} (h:Tr G fr n u):∀{u'},Tr G fr n u'->u=u':=by
 induction h with
 | var h ha=>
  intro u' h';cases h' with
  | var _ _=>rfl
  | node h2 _ _=>rw[h]at h2;cases h2
 | @node n k tx num us h hl ht ih=>
  intro u' h';cases h' with
  | var h2 _=>rw[h]at h2;cases h2
  | @node _ k' tx' num' us' h2 hl' ht'=>rw[h]at h2;cases h2;congr 1;apply fY (by omega);intro i h1 h2;have ha:(ga G (fr n))[i]?=some (ga G (fr n))[i]:=aj (by omega);exact ih i _ _ ha (aj h1) (ht' i _ _ ha (aj h2))
def Done (G:List Gn) (fr:Nat->Nat) (K:Nat->Nat):Prop:=∀d,K d=2->∃u,Tr G fr d u
theorem oC {G:List Gn} {fr:Nat->Nat} (hP:Plain G) {n:Nat} (h:∀a∈ga G (fr n),∃u,Tr G fr a u):∃u,Tr G fr n u:=by
 cases hg:gl G (fr n)with
 | none=>exact⟨_,.var hg (hP _ hg)⟩
 | some p=>
  obtain⟨k,tx,num⟩:=p;have:∃us:List U,(ga G (fr n)).length=us.length/\∀(i a:Nat) (u:U),(ga G (fr n))[i]?=some a->us[i]?=some u->Tr G fr a u:=by
   generalize ga G (fr n)=ss at h;induction ss with
   | nil=>exact⟨[],rfl,fun i a u ha=>by simp at ha⟩
   | cons a ss ih=>
    obtain⟨us,h1,h2⟩:=ih (fun b hb=>h b (by simp[hb]));obtain⟨u,hu⟩:=h a (by simp);refine⟨u :: us,by simp[h1],fun i b w hb hw=> ?_⟩;cases i with
    | zero=>simp at hb hw;subst hb hw;exact hu
    | succ i=>simp at hb hw;exact h2 i b w hb hw
  obtain⟨us,h1,h2⟩:=this;exact⟨_,.node hg h1 h2⟩
def opn (K:Nat->Nat) (d:Nat):Prop:=K d≠0/\K d≠2
theorem jg.says {G:List Gn} {fr:Nat->Nat} (hP:Plain G) (hi:∀n,fr (fr n)=fr n) {K:Nat->Nat} {n:Nat} {r:Bool} {K':Nat->Nat} (h:jg G fr K n r K'):(r=true->Done G fr K->Done G fr K'/\(∃u,Tr G fr n u))/\(r=true->∀d,opn K' d->opn K d)/\(r=false->∀v,Reads G fr v->(∀d,opn K d->size (v n)<size (v d))->False):=by
 refine jg.rec (motive_1:=fun K n r K' _=>(r=true->Done G fr K->Done G fr K'/\(∃u,Tr G fr n u))/\(r=true->∀d,opn K' d->opn K d)/\(r=false->∀v,Reads G fr v->(∀d,opn K d->size (v n)<size (v d))->False)) (motive_2:=fun K xs r K' _=>(r=true->Done G fr K->Done G fr K'/\∀x∈xs,∃u,Tr G fr x u)/\(r=true->∀d,opn K' d->opn K d)/\(r=false->∀v,Reads G fr v->(∀x∈xs,∀d,opn K d->size (v x)<size (v d))->False)) ?_ ?_ ?_ ?_ ?_ ?_ h
 ·intro K n h;refine⟨fun q hd=> ?_,fun _ d q=>q,fun q v hv hs=> ?_⟩
  ·obtain⟨u,hu⟩:=hd (fr n) (fL q);exact⟨hd,u,hu.front (hi n)⟩
  ·have:=hs (fr n) ⟨h,of_decide_eq_false q⟩;rw[hv.front n]at this;omega
 ·intro K n K' h hs ih
  obtain⟨i1,i2,_⟩:=ih;have hdone:Done G fr K->Done G fr (upd K (fr n) 1):=fun hd d q=>by
   by_cases e:d=fr n
   ·rw[e,wi]at q;omega
   ·rw[upd_ne _ _ e]at q;exact hd d q
  refine⟨fun _ hd=> ?_,fun _ d q=> ?_,fun q=>by cases q⟩
  ·obtain⟨j1,j2⟩:=i1 rfl (hdone hd);obtain⟨u,hu⟩:=oC hP j2;refine⟨fun d q=> ?_,u,hu⟩;by_cases e:d=fr n
   ·exact⟨u,hu.front (by rw[e,hi])⟩
   ·rw[upd_ne _ _ e]at q;exact j1 d q
  ·by_cases e:d=fr n
   ·rw[e]at q;unfold opn at q;rw[wi]at q;exact absurd rfl q.2
   ·have q':opn K' d:=by unfold opn at q⊢;rwa [upd_ne _ _ e]at q
    have:=i2 rfl d q';unfold opn at this⊢;rwa [upd_ne _ _ e]at this
 ·intro K n K' h hs ih;obtain⟨_,_,i3⟩:=ih;refine⟨fun q=>(by cases q),fun q=>(by cases q),fun _ v hv hsz=>i3 rfl v hv fun x hx d hd=> ?_⟩;have hne:gl G (fr n)≠none:=fun q=>by rw[hP _ q]at hx;cases hx
  obtain⟨⟨k,tx,num⟩,hg⟩:=nu.1 hne;have h1:=hv.node (fr n) k tx num hg;have h2:=fP (du (f:=v) hx);have h3:size (v x)<size (v (fr n)):=by rw[h1,size];omega
  by_cases e:d=fr n
  ·rw[e];exact h3
  ·have:=hsz d (by unfold opn at hd⊢;rwa [upd_ne _ _ e]at hd);rw[hv.front n]at this;omega
 ·intro K;exact⟨fun _ hd=>⟨hd,fun x hx=>by cases hx⟩,fun _ d q=>q,fun q=>by cases q⟩
 ·intro K x xs K' h ih;exact⟨fun q=>(by cases q),fun q=>(by cases q),fun _ v hv hs=>ih.2.2 rfl v hv fun d hd=>hs x (by simp) d hd⟩
 ·intro K x xs K1 r K' h hs ih ihs;refine⟨fun q hd=> ?_,fun q d hd=>ih.2.1 rfl d (ihs.2.1 q d hd),fun q v hv hsz=>ihs.2.2 q v hv fun y hy d hd=>hsz y (by simp[hy]) d (ih.2.1 rfl d hd)⟩;obtain⟨j1,j2⟩:=ih.1 rfl hd;obtain⟨k1,k2⟩:=ihs.1 q j1;exact⟨k1,fun y hy=>by
   rcases bh.1 hy with rfl | hy
   ·exact j2
   ·exact k2 y hy⟩
theorem Tr.reads {G:List Gn} {fr:Nat->Nat} {n:Nat} {u:U} (h:Tr G fr n u) {v:Nat->U} (hv:Reads G fr v):v n=sub (fun x=>v x.2) u:=by
 induction h with
 | @var n h ha=>rw[hv.front n];rfl
 | @node n k tx num us h hl ht ih=>
  rw[hv.front n,hv.node (fr n) k tx num h,dS];congr 1;apply fY (by simp[hl]);intro i h1 h2;have ha:i<(ga G (fr n)).length:=by simpa using h1
  have hb:i<us.length:=by simpa using h2
  simpa using ih i _ _ (aj ha) (aj hb)
def uE (G:List Gn) (fr:Nat->Nat):Prop:=∀n,gl G (fr n)=none->fr n<=n
theorem uE.gu {G:List Gn} {fr:Nat->Nat} (h:uE G fr) {a b:Nat} (hab:gl G b=none->gl G a=none/\b<=a):uE G (gu fr a b):=by
 intro n;unfold af.gu;split
 ·rename_i q;intro hb;obtain⟨h1,h2⟩:=hab hb;have:=h n (by rw[q];exact h1);omega
 ·exact h n
theorem fa.xU {G:List Gn} {fr:Nat->Nat} {a b:Nat} {r:Bool} {fr':Nat->Nat} (h:fa G fr a b r fr'):r=true->uE G fr->uE G fr':=by
 refine fa.rec (motive_1:=fun fr _ _ r fr' _=>r=true->uE G fr->uE G fr') (motive_2:=fun fr _ _ r fr' _=>r=true->uE G fr->uE G fr') ?_ ?_ ?_ ?_ ?_ ?_ ?_ ?_ ?_ h
 ·intro fr a b h _ hv;exact hv
 ·intro fr a b lo hi h ha hb hl hlt _ hv;refine hv.gu fun _=>⟨?_,by omega⟩;rcases hl with⟨_,rfl⟩ | ⟨_,rfl⟩<;>assumption
 ·intro fr a b h ha hb _ hv;exact hv.gu fun q=>absurd q hb
 ·intro fr a b h ha hb _ hv;exact hv.gu fun q=>absurd q ha
 ·intro fr a b fr' h ha hb hs q;cases q
 ·intro fr a b r fr' h ha hb hs hj ih hr hv;exact ih hr (hv.gu fun q=>absurd q ha)
 ·intro fr _ hv;exact hv
 ·intro fr x y xs ys fr' h ih q;cases q
 ·intro fr x y xs ys fr1 r fr' h hs ih ihs hr hv;exact ihs hr (ih rfl hv)
inductive Dd (G:List Gn) (fr:Nat->Nat) (a:Nat):Nat->Prop
 | here {n} (h:fr n=fr a):Dd G fr a n
 | arg {m x n} (h:Dd G fr a m) (hx:x∈ga G (fr m)) (hn:fr n=fr x):Dd G fr a n
theorem Dd.tr {G:List Gn} {fr:Nat->Nat} {a n:Nat} (h:Dd G fr a n) {u:U} (hu:Tr G fr a u):∃u',Tr G fr n u':=by
 induction h with
 | here h=>exact⟨u,hu.front h.symm⟩
 | @arg m x n _ hx hn ih=>
  obtain⟨u',h'⟩:=ih;cases h' with
  | var _ h0=>rw[h0]at hx;cases hx
  | @node _ k tx num us _ hl ht=>
   obtain⟨i,hi,rfl⟩:=bG hx;have hi':i<us.length:=by omega
   exact⟨us[i],(ht i _ _ (aj hi) (aj hi')).front hn.symm⟩
theorem Dd.same {G:List Gn} {fr:Nat->Nat} {r0 a n:Nat} (h:Dd G fr r0 a) (e:fr a=fr n):Dd G fr r0 n:=by
 cases h with
 | here h=>exact .here (e.symm.trans h)
 | arg h hx hn=>exact .arg h hx (e.symm.trans hn)
theorem fa.reach {G:List Gn} {fr:Nat->Nat} {a b:Nat} {r:Bool} {fr':Nat->Nat} (h:fa G fr a b r fr'):r=true->jT G fr->∀f,(∀x y,fr' x=fr' y->f x=f y)->oh G f (fun _ _=>False)->∀r0,Dd G f r0 a->∀n,fr n=n->fr' n≠n->Dd G f r0 n:=by
 refine fa.rec (motive_1:=fun fr a b r fr' _=>r=true->jT G fr->∀f,(∀x y,fr' x=fr' y->f x=f y)->oh G f (fun _ _=>False)->∀r0,Dd G f r0 a->∀n,fr n=n->fr' n≠n->Dd G f r0 n) (motive_2:=fun fr xs ys r fr' _=>r=true->jT G fr->∀f,(∀x y,fr' x=fr' y->f x=f y)->oh G f (fun _ _=>False)->∀r0,(∀x∈xs,Dd G f r0 x)->∀n,fr n=n->fr' n≠n->Dd G f r0 n) ?_ ?_ ?_ ?_ ?_ ?_ ?_ ?_ ?_ h
 ·intro fr a b h _ _ f _ _ r0 _ n h1 h2;exact absurd h1 h2
 ·intro fr a b lo hi h ha hb hl hlt _ hf f hm _ r0 hr n h1 h2;have e:n=hi:=by apply eo;intro q;apply h2;unfold gu;rw[h1,aG q]
  have hab:gu fr hi lo a=gu fr hi lo n:=by
   subst e;unfold gu;rw[h1];rcases hl with⟨rfl,rfl⟩ | ⟨rfl,rfl⟩
   ·rw[aG (by omega),aH rfl]
   ·rw[aH rfl]
  exact hr.same (hm _ _ hab)
 ·intro fr a b h ha hb _ hf f hm _ r0 hr n h1 h2;have e:n=fr a:=by apply eo;intro q;apply h2;unfold gu;rw[h1,aG q]
  refine hr.same (hm _ _ ?_);subst e;unfold gu;rw[hf.idem]
 ·intro fr a b h ha hb _ hf f hm _ r0 hr n h1 h2;have e:n=fr b:=by apply eo;intro q;apply h2;unfold gu;rw[h1,aG q]
  refine hr.same (hm _ _ ?_);subst e;unfold gu;rw[hf.idem,aG h,aH rfl]
 ·intro fr a b fr' h ha hb hs q;cases q
 ·intro fr a b r fr' h ha hb hs hj ih hr hf f hm hc r0 hra n h1 h2
  obtain⟨l1,l2,l3,l4⟩:=kN hf (hf.idem b) (hf.idem a) (de h) (fun _=>ha);have hmono:∀x y,gu fr (fr b) (fr a) x=gu fr (fr b) (fr a) y->fr' x=fr' y:=(hj.Mr hr l1).mono;have hall:∀x∈ga G (fr a),Dd G f r0 x:=fun x hx=>by
   obtain⟨i,hi,rfl⟩:=bG hx;have hlen:=(hc.nQ (fr a) ha).2;have hi':i<(ga G (f (fr a))).length:=by omega
   have e1:=(hc.args (fr a) ha i _ _ (aj hi) (aj hi')).done;have e2:f (fr a)=f a:=hm _ _ (hmono _ _ (l2 _ _ (hf.idem a)));exact .arg hra (x:=(ga G (f (fr a)))[i]) (by rw[<-e2];exact aL hi') e1
  by_cases e:n=fr b
  ·refine hra.same (hm _ _ (hmono _ _ ?_));subst e;rw[l3];unfold gu;rw[aG h]
  ·refine ih hr l1 f hm hc r0 hall n ?_ h2;unfold gu;rw[h1,aG e]
 ·intro fr _ _ f _ _ r0 _ n h1 h2;exact absurd h1 h2
 ·intro fr x y xs ys fr' h ih q;cases q
 ·intro fr x y xs ys fr1 r fr' h hs ih ihs hr hf f hm hc r0 hra n h1 h2;obtain⟨i1,_,_⟩:=h.left' rfl hf;have hmono:=(hs.Mr hr i1.fG).mono;by_cases e:fr1 n=n
  ·exact ihs hr i1.fG f hm hc r0 (fun z hz=>hra z (by simp[hz])) n e h2
  ·exact ih rfl hf f (fun u v q=>hm _ _ (hmono _ _ q)) hc r0 (hra x (by simp)) n h1 e
structure kx (G:List Gn) (fr:Nat->Nat) (T:Nat->U):Prop where
 fG:jT G fr
 CU:oh G fr fun _ _=>False
 tr:∀n,Tr G fr n (T n)
 plain:Plain G
 xU:uE G fr
theorem kx.reads {G:List Gn} {fr:Nat->Nat} {T:Nat->U} (h:kx G fr T):Reads G fr T:=by
 refine⟨fun n k tx num hg=> ?_,fun n=>(h.tr n).one ((h.tr (fr n)).front (h.fG.idem n))⟩;have hl:=h.CU.nQ n (by rw[hg];simp);have ht:=h.tr n;generalize hu:T n=u at ht;cases ht with
 | var h1 _=>rw[<-hl.1,hg]at h1;cases h1
 | @node _ k' tx' num' us h1 hlen ht'=>
  rw[<-hl.1,hg]at h1;cases h1;congr 1;apply fY (by rw[bj,hl.2,hlen]);intro i h3 h4;have hia:i<(ga G n).length:=by simpa using h4
  have hif:i<(ga G (fr n)).length:=by have:=hl.2;omega
  have e:=(h.CU.args n (by rw[hg];simp) i _ _ (aj hia) (aj hif)).done;have:=(ht' i _ _ (aj hif) (aj h3)).front e.symm;rw[fy];exact this.one (h.tr _)
theorem kx.Cl {G:List Gn} {fr:Nat->Nat} {T:Nat->U} (h:kx G fr T) (θ:Vr->U):Reads G fr fun n=>sub θ (T n):=
 ⟨fun n k tx num hg=>by rw[h.reads.node n k tx num hg,dS,bQ];rfl,fun n=>by rw[h.reads.front n]⟩
theorem kx.var {G:List Gn} {fr:Nat->Nat} {T:Nat->U} (h:kx G fr T) {n:Nat} (hg:gl G (fr n)=none):T n= .v ([],fr n):=(h.tr n).one (.var hg (h.plain _ hg))
open Classical in
noncomputable def gets (G:List Gn) (fr0 fr:Nat->Nat):Vr->U:=fun x=>if h:x.1=[]/\(fr0 x.2=x.2/\gl G x.2=none)/\∃u,Tr G fr x.2 u then choose h.2.2 else .v x
theorem rR {G:List Gn} {fr0 fr:Nat->Nat} {n:Nat} {u:U} (h0:fr0 n=n) (hg:gl G n=none) (h:Tr G fr n u):gets G fr0 fr ([],n)=u:=by unfold gets;have hx:∃u,Tr G fr n u:=⟨u,h⟩;rw[kX ⟨rfl,⟨h0,hg⟩,hx⟩];exact(dI hx).one h
theorem Tr.vars {G:List Gn} {fr:Nat->Nat} {n:Nat} {u:U} (h:Tr G fr n u):∀x,af.has x u->x.1=[]/\gl G x.2=none/\∃m,fr m=x.2:=by
 induction h with
 | @var n hg ha=>intro x hx;rw[af.has]at hx;subst hx;exact⟨rfl,hg,n,rfl⟩
 | @node n k tx num us hg hl ht ih=>intro x hx;obtain⟨a,ha,hx⟩:=(gB x k tx num us).1 hx;obtain⟨i,hi,rfl⟩:=bG ha;exact ih i _ _ (aj (by omega)) (aj hi) x hx
structure Made (G:List Gn) (fr fr':Nat->Nat) (T T':Nat->U) (a b:U) (σ:Vr->U):Prop where
 DB:kx G fr' T'
 left:Left G fr fr'
 is:∀n,T' n=sub σ (T n)
 one:sub σ a=sub σ b
 most:∀θ,sub θ a=sub θ b->∀x,sub θ (σ x)=θ x
 low:∀x y,σ x= .v y->y.1=x.1/\y.2<=x.2
 ui:∀n,fr n=n->gl G n=none->σ ([],n)=T' n
theorem kx.join {G:List Gn} {fr:Nat->Nat} {T:Nat->U} (h:kx G fr T) {a b:Nat} {r:Bool} {fr':Nat->Nat} (hj:fa G fr a b r fr'):
 (r=false->∀θ,sub θ (T a)≠sub θ (T b))/\(r=true->∀K',jg G fr' (fun _=>0) a false K'->∀θ,sub θ (T a)≠sub θ (T b))/\
 (r=true->∀K',jg G fr' (fun _=>0) a true K'->∃σ T',Made G fr fr' T T' (T a) (T b) σ):=by
 refine⟨fun q θ e=> ?_,fun q K' hw θ e=> ?_,fun q K' hw=> ?_⟩
 ·have:=(hj.reads _ (h.Cl θ) e).1;rw[q]at this;cases this
 ·subst q;have hv:=(hj.reads _ (h.Cl θ) e).2;obtain⟨l1,_,_⟩:=hj.left' rfl h.fG;exact(hw.says h.plain l1.fG.idem).2.2 rfl _ hv fun d hd=>absurd rfl hd.1
 ·subst q
  obtain⟨l1,l2,l3⟩:=hj.left' rfl h.fG;obtain⟨_,u,hu⟩:=(hw.says h.plain l1.fG.idem).1 rfl (fun d q=>by cases q);have hc:=l3 (fun _ _=>False) (h.CU.imp fun _ _ q=>q.elim);have hvm:=hj.xU rfl h.xU;have hvar:∀m,fr m=m->gl G m=none->Tr G fr' m (gets G fr fr' ([],m)):=fun m hm hg=>by
   by_cases e:fr' m=m
   ·have ht:Tr G fr' m (.v ([],fr' m)):= .var (by rw[e];exact hg) (by rw[e];exact h.plain _ hg);rw[rR hm hg ht];exact ht
   ·obtain⟨u',hu'⟩:=(hj.reach rfl h.fG fr' (fun _ _ q=>q) hc a (.here rfl) m hm e).tr hu;rw[rR hm hg hu'];exact hu'
  have hT:∀n v,Tr G fr n v->Tr G fr' n (sub (gets G fr fr') v):=fun n v hv=>by
   induction hv with
   | @var n hg ha=>have:=hvar (fr n) (h.fG.idem n) hg;exact this.front (l1.mono _ _ (h.fG.idem n))
   | @node n k tx num us hg hl ht ih=>
    have hn:gl G (fr n)≠none:=by rw[hg];simp
    have hlab:=hc.nQ (fr n) hn;have hf:fr' (fr n)=fr' n:=l1.mono _ _ (h.fG.idem n);rw[dS];refine .node (by rw[<-hf,<-hlab.1,hg]) (by rw[<-hf,<-hlab.2,hl,bj]) fun i x w hx hw=> ?_;rw[<-hf]at hx;have hi':=(bl.1 hx).1;have hi:i<(ga G (fr n)).length:=by have:=hlab.2;omega
    have e:=(hc.args (fr n) hn i _ _ (aj hi) hx).done;have hiu:i<us.length:=by omega
    have:=ih i _ _ (aj hi) (aj hiu);rw[bC,aj hiu]at hw;obtain rfl:=cF hw;exact this.front e
  have hSto:kx G fr' fun n=>sub (gets G fr fr') (T n):=⟨l1.fG,hc,fun n=>hT n _ (h.tr n),h.plain,hvm⟩;refine⟨gets G fr fr',fun n=>sub (gets G fr fr') (T n),hSto,l1,fun _=>rfl,?_,fun θ e x=> ?_,fun x y e=> ?_,fun n hn hg=> ?_⟩
  ·exact(hT a _ (h.tr a)).one ((hT b _ (h.tr b)).front l2.symm)
  ·by_cases hx:x.1=[]/\(fr x.2=x.2/\gl G x.2=none)/\∃u,Tr G fr' x.2 u
   ·obtain⟨x1,x2⟩:=x;obtain⟨h1,⟨hfx,h2⟩,u',hu'⟩:=hx;dsimp only at h1 h2 hfx hu';subst h1;rw[rR hfx h2 hu'];have hv:=(hj.reads _ (h.Cl θ) e).2;have q:=hu'.reads hv;have e1:T x2= .v ([],x2):=by have:=h.var (n:=x2) (by rw[hfx];exact h2);rwa [hfx]at this
    rw[e1]at q;show sub θ u'=θ ([],x2);rw[show θ ([],x2)=sub θ (.v ([],x2))from rfl,q];refine sub_congr u' fun y hy=> ?_;obtain⟨y1,y2,m,hm⟩:=hu'.vars y hy;obtain⟨yn,yv⟩:=y;dsimp only at y1 y2 hm⊢;subst y1;have hfy:fr yv=yv:=by
     have h3:fr' (fr yv)=fr' yv:=l1.mono _ _ (h.fG.idem yv);have h4:fr' yv=yv:=by rw[<-hm];exact l1.fG.idem m
     apply eo;intro hne;have h5:gl G (fr yv)=none:=by
      cases hq:gl G (fr yv)with
      | none=>rfl
      | some p=>have:=l1.fG.nQ (fr yv) (by rw[hq];simp);rw[h3,h4]at this;exact absurd y2 this
     have h6:=h.xU yv h5;have h7:=hvm (fr yv) (by rw[h3,h4];exact y2);rw[h3,h4]at h7;omega
    have:=h.var (n:=yv) (by rw[hfy];exact y2);rw[hfy]at this;rw[this];rfl
   ·unfold gets;rw[ul hx];rfl
  ·unfold gets at e;split at e
   ·rename_i hx;obtain⟨x1,x2⟩:=x;obtain⟨h1,⟨hfx,h2⟩,hu'⟩:=hx;dsimp only at h1 h2 hfx hu';subst h1;have ht:=dI hu';dsimp only at e;rw[e]at ht;cases ht with
    | var h3 _=>exact⟨rfl,hvm x2 h3⟩
   ·cases e;exact⟨rfl,Qw⟩
  ·exact rR hn hg (by have:=hT n _ (h.tr n);exact this)
def F7:U->List U
 | .v _=>[]
 | .n _ _ _ ss=>ss
