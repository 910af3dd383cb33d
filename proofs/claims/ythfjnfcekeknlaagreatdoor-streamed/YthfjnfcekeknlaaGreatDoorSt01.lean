set_option maxHeartbeats 8000000
set_option maxRecDepth 100000
namespace Za
abbrev Vr:=List UInt8×Nat
inductive U where
 | v (x:Vr)
 | n (k:Nat) (tx:List UInt8) (num:Int) (args:List U)
theorem U.ind {P:U→Prop} (hv:∀x,P (.v x)) (hn:∀k tx num ss,(∀a∈ss,P a)→P (.n k tx num ss)):∀u,P u
 | .v x=>hv x
 | .n k tx num ss=>hn k tx num ss fun a _=>U.ind hv hn a
termination_by u=>sizeOf u
decreasing_by
 simp_wf
 have:=List.sizeOf_lt_of_mem ‹a∈ss›
 omega
mutual
def sub (θ:Vr→U):U→U
 | .v x=>θ x
 | .n k tx num ss=> .n k tx num (Aq θ ss)
def Aq (θ:Vr→U):List U→List U
 | []=>[]
 | a :: ss=>sub θ a :: Aq θ ss
end
theorem Ar (θ:Vr→U):∀ss,Aq θ ss=ss.map (sub θ)
 | []=>rfl
 | a :: ss=>by rw[Aq,List.map_cons,Ar θ ss]
theorem dI (θ:Vr→U) (k:Nat) (tx:List UInt8) (num:Int) (ss:List U):sub θ (.n k tx num ss)= .n k tx num (ss.map (sub θ)):=by rw[sub,Ar]
mutual
def size:U→Nat
 | .v _=>1
 | .n _ _ _ ss=>1+sizeL ss
def sizeL:List U→Nat
 | []=>0
 | a :: ss=>size a+sizeL ss
end
theorem iG {a:U}:∀{ss:List U},a∈ss→size a≤sizeL ss
 | b :: ss,h=>by
  rw[sizeL]
  rcases List.mem_cons.1 h with rfl | h
  ·omega
  ·have:=iG h;omega
theorem size_pos (u:U):0<size u:=by cases u<;>simp[size]<;>omega
mutual
def has (x:Vr):U→Prop
 | .v y=>y=x
 | .n _ _ _ ss=>vk x ss
def vk (x:Vr):List U→Prop
 | []=>False
 | a :: ss=>has x a∨vk x ss
end
theorem Au (x:Vr):∀ss,vk x ss↔∃a∈ss,has x a
 | []=>by simp[vk]
 | a :: ss=>by rw[vk,Au x ss];simp
theorem mR (x:Vr) (k:Nat) (tx:List UInt8) (num:Int) (ss:List U):has x (.n k tx num ss)↔∃a∈ss,has x a:=by rw[has,Au]
theorem sub_congr {θ τ:Vr→U}:∀u,(∀x,has x u→θ x=τ x)→sub θ u=sub τ u:=by
 refine U.ind (fun x h=> ?_) (fun k tx num ss ih h=> ?_)
 ·exact h x rfl
 ·rw[dI,dI]
  congr 1
  exact List.map_congr_left fun a ha=>ih a ha fun x hx=>h x ((mR x k tx num ss).2 ⟨a,ha,hx⟩)
theorem sub_sub (θ τ:Vr→U):∀u,sub τ (sub θ u)=sub (fun x=>sub τ (θ x)) u:=by
 refine U.ind (fun x=>rfl) (fun k tx num ss ih=> ?_)
 rw[dI,dI,dI,List.map_map]
 congr 1
 exact List.map_congr_left ih
theorem sub_self:∀u,sub .v u=u:=by
 refine U.ind (fun x=>rfl) (fun k tx num ss ih=> ?_)
 rw[dI,List.map_congr_left ih,List.map_id']
open Classical in
noncomputable def one (a:Vr) (b:U):Vr→U:=fun x=>if x=a then b else .v x
noncomputable def put (u:U) (a:Vr) (b:U):U:=sub (one a b) u
theorem Gt {u:U} {a:Vr} {b:U} (h:¬has a u):put u a b=u:=by
 unfold put
 rw[sub_congr (τ:= .v) u (fun x hx=> ?_),sub_self]
 unfold one
 rw[if_neg]
 rintro rfl
 exact h hx
def pC:U→Bool
 | .v _=>true
 | _=>false
structure Gn where
 lab:Option (Nat×List UInt8×Int)
 args:List Nat
def gl (G:List Gn) (n:Nat):Option (Nat×List UInt8×Int):=(G[n]?).bind (·.lab)
def ga (G:List Gn) (n:Nat):List Nat:=((G[n]?).map (·.args)).getD []
structure Reads (G:List Gn) (fr:Nat→Nat) (v:Nat→U):Prop where
 node:∀n k tx num,gl G n=some (k,tx,num)→v n= .n k tx num ((ga G n).map v)
 front:∀n,v n=v (fr n)
open Classical in
noncomputable def bE (fr:Nat→Nat) (a b:Nat):Nat→Nat:=fun n=>if fr n=a then b else fr n
def pD (G:List Gn) (a b:Nat):Prop:=gl G a=gl G b∧(ga G a).length=(ga G b).length
mutual
inductive cE (G:List Gn):(Nat→Nat)→Nat→Nat→Bool→(Nat→Nat)→Prop
 | same {fr a b} (h:fr a=fr b):cE G fr a b true fr
 | vars {fr a b lo hi} (h:fr a≠fr b) (ha:gl G (fr a)=none) (hb:gl G (fr b)=none) (hl:(lo=fr a∧hi=fr b)∨(lo=fr b∧hi=fr a)) (hlt:lo<hi):cE G fr a b true (bE fr hi lo)
 | left {fr a b} (h:fr a≠fr b) (ha:gl G (fr a)=none) (hb:gl G (fr b)≠none):cE G fr a b true (bE fr (fr a) (fr b))
 | right {fr a b} (h:fr a≠fr b) (ha:gl G (fr a)≠none) (hb:gl G (fr b)=none):cE G fr a b true (bE fr (fr b) (fr a))
 | clash {fr a b fr'} (h:fr a≠fr b) (ha:gl G (fr a)≠none) (hb:gl G (fr b)≠none) (hs:¬pD G (fr a) (fr b)):cE G fr a b false fr'
 | args {fr a b r fr'} (h:fr a≠fr b) (ha:gl G (fr a)≠none) (hb:gl G (fr b)≠none) (hs:pD G (fr a) (fr b)) (hj:iP G (bE fr (fr b) (fr a)) (ga G (fr a)) (ga G (fr b)) r fr'):cE G fr a b r fr'
inductive iP (G:List Gn):(Nat→Nat)→List Nat→List Nat→Bool→(Nat→Nat)→Prop
 | nil {fr}:iP G fr [] [] true fr
 | no {fr x y xs ys fr'} (h:cE G fr x y false fr'):iP G fr (x :: xs) (y :: ys) false fr'
 | cons {fr x y xs ys fr1 r fr'} (h:cE G fr x y true fr1) (hs:iP G fr1 xs ys r fr'):iP G fr (x :: xs) (y :: ys) r fr'
end
structure iQ (G:List Gn) (fr:Nat→Nat):Prop where
 idem:∀n,fr (fr n)=fr n
 lab:∀n,gl G n≠none→gl G (fr n)≠none
theorem lA {G:List Gn} {fr:Nat→Nat} (h:iQ G fr) {a b:Nat} (ha:fr a=a) (hb:fr b=b) (hab:a≠b) (hl:gl G a≠none→gl G b≠none):iQ G (bE fr a b)∧(∀x y,fr x=fr y→bE fr a b x=bE fr a b y)∧bE fr a b a=b∧bE fr a b b=b:=by
 refine⟨⟨fun n=> ?_,fun n hn=> ?_⟩,fun x y e=>by unfold bE;rw[e],by unfold bE;rw[ha,if_pos rfl],by unfold bE;rw[hb,if_neg (Ne.symm hab)]⟩
 ·by_cases q:fr n=a
  ·have e:bE fr a b n=b:=by unfold bE;rw[if_pos q]
   rw[e]
   unfold bE
   rw[hb,if_neg (Ne.symm hab)]
  ·have e:bE fr a b n=fr n:=by unfold bE;rw[if_neg q]
   rw[e]
   unfold bE
   rw[h.idem,if_neg q]
 ·unfold bE
  split
  ·rename_i q
   exact hl (q ▸ h.lab n hn)
  ·exact h.lab n hn
theorem Reads.bE {G:List Gn} {fr:Nat→Nat} {v:Nat→U} (h:Reads G fr v) {a b:Nat} (e:v a=v b):Reads G (bE fr a b) v:=by
 refine⟨h.node,fun n=> ?_⟩
 unfold Za.bE
 split
 ·rename_i q
  rw[h.front n,q,e]
 ·exact h.front n
theorem Av {G:List Gn} {fr:Nat→Nat} {v:Nat→U} (h:Reads G fr v) {a b:Nat} (ha:gl G a≠none) (hb:gl G b≠none) (e:v a=v b):pD G a b∧(ga G a).map v=(ga G b).map v:=by
 obtain⟨⟨k,tx,num⟩,hx⟩:=Option.ne_none_iff_exists'.1 ha
 obtain⟨⟨k',tx',num'⟩,hy⟩:=Option.ne_none_iff_exists'.1 hb
 have h1:=h.node a k tx num hx
 have h2:=h.node b k' tx' num' hy
 rw[h1,h2]at e
 injection e with e1 e2 e3 e4
 refine⟨⟨?_,by simpa using congrArg List.length e4⟩,e4⟩
 rw[hx,hy,e1,e2,e3]
theorem cE.reads {G:List Gn} {fr:Nat→Nat} {a b:Nat} {r:Bool} {fr':Nat→Nat} (h:cE G fr a b r fr'):∀v,Reads G fr v→v a=v b→r=true∧Reads G fr' v:=by
 refine cE.rec (motive_1:=fun fr a b r fr' _=>∀v,Reads G fr v→v a=v b→r=true∧Reads G fr' v) (motive_2:=fun fr xs ys r fr' _=>∀v,Reads G fr v→xs.map v=ys.map v→r=true∧Reads G fr' v) ?_ ?_ ?_ ?_ ?_ ?_ ?_ ?_ ?_ h
 ·intro fr a b h v hv _
  exact⟨rfl,hv⟩
 ·intro fr a b lo hi h ha hb hl hlt v hv e
  refine⟨rfl,hv.bE ?_⟩
  rw[hv.front a,hv.front b]at e
  rcases hl with⟨rfl,rfl⟩ | ⟨rfl,rfl⟩
  ·exact e.symm
  ·exact e
 ·intro fr a b h ha hb v hv e
  refine⟨rfl,hv.bE ?_⟩
  rwa [hv.front a,hv.front b]at e
 ·intro fr a b h ha hb v hv e
  refine⟨rfl,hv.bE ?_⟩
  rw[hv.front a,hv.front b]at e
  exact e.symm
 ·intro fr a b fr' h ha hb hs v hv e
  rw[hv.front a,hv.front b]at e
  exact absurd (Av hv ha hb e).1 hs
 ·intro fr a b r fr' h ha hb hs hj ih v hv e
  rw[hv.front a,hv.front b]at e
  exact ih v (hv.bE e.symm) (Av hv ha hb e).2
 ·intro fr v hv _
  exact⟨rfl,hv⟩
 ·intro fr x y xs ys fr' h ih v hv e
  rw[List.map_cons,List.map_cons]at e
  injection e with e1 e2
  exact absurd (ih v hv e1).1 (by decide)
 ·intro fr x y xs ys fr1 r fr' h hs ih ihs v hv e
  rw[List.map_cons,List.map_cons]at e
  injection e with e1 e2
  exact ihs v (ih v hv e1).2 e2
inductive lB (fr:Nat→Nat) (E:Nat→Nat→Prop):Nat→Nat→Prop
 | fr {x y} (h:fr x=fr y):lB fr E x y
 | todo {x y} (h:E x y):lB fr E x y
 | symm {x y} (h:lB fr E x y):lB fr E y x
 | trans {x y z} (h:lB fr E x y) (k:lB fr E y z):lB fr E x z
theorem lB.imp {fr fr':Nat→Nat} {E E':Nat→Nat→Prop} (h1:∀x y,fr x=fr y→lB fr' E' x y) (h2:∀x y,E x y→lB fr' E' x y) {x y:Nat} (h:lB fr E x y):lB fr' E' x y:=by
 induction h with
 | fr h=>exact h1 _ _ h
 | todo h=>exact h2 _ _ h
 | symm _ ih=>exact .symm ih
 | trans _ _ i1 i2=>exact .trans i1 i2
theorem lB.done {fr:Nat→Nat} {x y:Nat} (h:lB fr (fun _ _=>False) x y):fr x=fr y:=by
 induction h with
 | fr h=>exact h
 | todo h=>exact h.elim
 | symm _ ih=>exact ih.symm
 | trans _ _ i1 i2=>exact i1.trans i2
structure jQ (G:List Gn) (fr:Nat→Nat) (E:Nat→Nat→Prop):Prop where
 lab:∀n,gl G n≠none→pD G n (fr n)
 args:∀n,gl G n≠none→∀(i x y:Nat),(ga G n)[i]?=some x→(ga G (fr n))[i]?=some y→lB fr E x y
def plus (E:Nat→Nat→Prop) (a b:Nat):Nat→Nat→Prop:=fun x y=>E x y∨(x=a∧y=b)
def Mz (E:Nat→Nat→Prop) (ss bs:List Nat):Nat→Nat→Prop:=fun x y=>E x y∨∃i:Nat,ss[i]?=some x∧bs[i]?=some y
theorem jQ.var {G:List Gn} {fr:Nat→Nat} {E E':Nat→Nat→Prop} (h:jQ G fr E) (hf:iQ G fr) {a b:Nat} (ha:gl G a=none) (hE:∀x y,E x y→lB (bE fr a b) E' x y):jQ G (bE fr a b) E':=by
 have keep:∀n,gl G n≠none→bE fr a b n=fr n:=fun n hn=>by
  unfold bE
  rw[if_neg]
  intro q
  exact hf.lab n hn (q ▸ ha)
 refine⟨fun n hn=>by rw[keep n hn];exact h.lab n hn,fun n hn i x y hx hy=> ?_⟩
 rw[keep n hn]at hy
 exact(h.args n hn i x y hx hy).imp (fun x y e=> .fr (by unfold bE;rw[e])) hE
theorem jQ.imp {G:List Gn} {fr:Nat→Nat} {E E':Nat→Nat→Prop} (h:jQ G fr E) (hE:∀x y,E x y→lB fr E' x y):jQ G fr E':=⟨h.lab,fun n hn i x y hx hy=>(h.args n hn i x y hx hy).imp (fun _ _ e=> .fr e) hE⟩
structure Left (G:List Gn) (fr:Nat→Nat) (fr':Nat→Nat):Prop where
 fronts:iQ G fr'
 mono:∀x y,fr x=fr y→fr' x=fr' y
theorem Left.trans {G:List Gn} {f g h:Nat→Nat} (a:Left G f g) (b:Left G g h):Left G f h:=⟨b.fronts,fun x y e=>b.mono x y (a.mono x y e)⟩
theorem cE.left' {G:List Gn} {fr:Nat→Nat} {a b:Nat} {r:Bool} {fr':Nat→Nat} (h:cE G fr a b r fr'):r=true→iQ G fr→Left G fr fr'∧fr' a=fr' b∧∀E,jQ G fr (plus E a b)→jQ G fr' E:=by
 refine cE.rec (motive_1:=fun fr a b r fr' _=>r=true→iQ G fr→Left G fr fr'∧fr' a=fr' b∧∀E,jQ G fr (plus E a b)→jQ G fr' E) (motive_2:=fun fr xs ys r fr' _=>r=true→iQ G fr→Left G fr fr'∧∀E,jQ G fr (Mz E xs ys)→jQ G fr' E) ?_ ?_ ?_ ?_ ?_ ?_ ?_ ?_ ?_ h
 ·intro fr a b h _ hf
  refine⟨⟨hf,fun _ _ e=>e⟩,h,fun E hc=>hc.imp fun x y q=> ?_⟩
  rcases q with q | ⟨rfl,rfl⟩
  ·exact .todo q
  ·exact .fr h
 ·intro fr a b lo hi h ha hb hl hlt _ hf
  have hlo:fr lo=lo:=by rcases hl with⟨rfl,_⟩ | ⟨rfl,_⟩<;>exact hf.idem _
  have hhi:fr hi=hi:=by rcases hl with⟨_,rfl⟩ | ⟨_,rfl⟩<;>exact hf.idem _
  have hnone:gl G hi=none:=by rcases hl with⟨_,rfl⟩ | ⟨_,rfl⟩<;>assumption
  obtain⟨h1,h2,h3,h4⟩:=lA hf hhi hlo (by omega) (fun q=>absurd hnone q)
  have hab:bE fr hi lo a=bE fr hi lo b:=by
   rw[h2 a (fr a) (hf.idem a).symm,h2 b (fr b) (hf.idem b).symm]
   rcases hl with⟨rfl,rfl⟩ | ⟨rfl,rfl⟩
   ·rw[h3,h4]
   ·rw[h3,h4]
  refine⟨⟨h1,h2⟩,hab,fun E hc=>hc.var hf hnone fun x y q=> ?_⟩
  rcases q with q | ⟨rfl,rfl⟩
  ·exact .todo q
  ·exact .fr hab
 ·intro fr a b h ha hb _ hf
  obtain⟨h1,h2,h3,h4⟩:=lA hf (hf.idem a) (hf.idem b) h (fun q=>absurd ha q)
  have hab:bE fr (fr a) (fr b) a=bE fr (fr a) (fr b) b:=by
   rw[h2 a (fr a) (hf.idem a).symm,h2 b (fr b) (hf.idem b).symm,h3,h4]
  refine⟨⟨h1,h2⟩,hab,fun E hc=>hc.var hf ha fun x y q=> ?_⟩
  rcases q with q | ⟨rfl,rfl⟩
  ·exact .todo q
  ·exact .fr hab
 ·intro fr a b h ha hb _ hf
  obtain⟨h1,h2,h3,h4⟩:=lA hf (hf.idem b) (hf.idem a) (Ne.symm h) (fun q=>absurd hb q)
  have hab:bE fr (fr b) (fr a) a=bE fr (fr b) (fr a) b:=by
   rw[h2 a (fr a) (hf.idem a).symm,h2 b (fr b) (hf.idem b).symm,h3,h4]
  refine⟨⟨h1,h2⟩,hab,fun E hc=>hc.var hf hb fun x y q=> ?_⟩
  rcases q with q | ⟨rfl,rfl⟩
  ·exact .todo q
  ·exact .fr hab
 ·intro fr a b fr' h ha hb hs q
  cases q
 ·intro fr a b r fr' h ha hb hs hj ih hr hf
  obtain⟨h1,h2,h3,h4⟩:=lA hf (hf.idem b) (hf.idem a) (Ne.symm h) (fun _=>ha)
  have hab:bE fr (fr b) (fr a) a=bE fr (fr b) (fr a) b:=by
   rw[h2 a (fr a) (hf.idem a).symm,h2 b (fr b) (hf.idem b).symm,h3,h4]
  obtain⟨i1,i2⟩:=ih hr h1
  refine⟨(Left.trans ⟨h1,h2⟩ i1),i1.mono a b hab,fun E hc=>i2 E ⟨fun n hn=> ?_,fun n hn i x y hx hy=> ?_⟩⟩
  ·have:=hc.lab n hn
   unfold bE
   split
   ·rename_i q
    rw[q]at this
    exact⟨this.1.trans hs.1.symm,this.2.trans hs.2.symm⟩
   ·exact this
  ·have up:∀u v,lB fr (plus E a b) u v→lB (bE fr (fr b) (fr a)) (Mz E (ga G (fr a)) (ga G (fr b))) u v:=fun u v q=>q.imp (fun s t e=> .fr (h2 s t e)) (fun s t e=>by
    rcases e with e | ⟨rfl,rfl⟩
    ·exact .todo (Or.inl e)
    ·exact .fr hab)
   by_cases q:fr n=fr b
   ·have e:bE fr (fr b) (fr a) n=fr a:=by unfold bE;rw[if_pos q]
    rw[e]at hy
    have hlen:i<(ga G (fr b)).length:=by
     have:=(List.getElem?_eq_some_iff.1 hy).1
     have:=hs.2
     omega
    have hz:(ga G (fr b))[i]?=some (ga G (fr b))[i]:=List.getElem?_eq_getElem hlen
    have h5:=hc.args n hn i x (ga G (fr b))[i] hx (by rw[q];exact hz)
    exact .trans (up _ _ h5) (.symm (.todo (Or.inr ⟨i,hy,hz⟩)))
   ·have e:bE fr (fr b) (fr a) n=fr n:=by unfold bE;rw[if_neg q]
    rw[e]at hy
    exact up _ _ (hc.args n hn i x y hx hy)
 ·intro fr _ hf
  refine⟨⟨hf,fun _ _ e=>e⟩,fun E hc=>hc.imp fun x y q=> ?_⟩
  rcases q with q | ⟨i,hi,_⟩
  ·exact .todo q
  ·simp at hi
 ·intro fr x y xs ys fr' h ih q
  cases q
 ·intro fr x y xs ys fr1 r fr' h hs ih ihs hr hf
  obtain⟨i1,i2,i3⟩:=ih rfl hf
  obtain⟨j1,j2⟩:=ihs hr i1.fronts
  refine⟨i1.trans j1,fun E hc=>j2 E (i3 _ (hc.imp fun u v q=> ?_))⟩
  rcases q with q | ⟨i,hi,hj⟩
  ·exact .todo (Or.inl (Or.inl q))
  ·cases i with
   | zero=>
    simp at hi hj
    exact .todo (Or.inr ⟨hi.symm,hj.symm⟩)
   | succ i=>
    simp at hi hj
    exact .todo (Or.inl (Or.inr ⟨i,hi,hj⟩))
theorem iP.MA {G:List Gn} {fr:Nat→Nat} {xs ys:List Nat} {r:Bool} {fr':Nat→Nat} (h:iP G fr xs ys r fr') (hr:r=true) (hf:iQ G fr):Left G fr fr':=by
 induction xs generalizing fr ys with
 | nil=>
  cases h with
  | nil=>exact⟨hf,fun _ _ e=>e⟩
 | cons x xs ih=>
  cases h with
  | no h=>cases hr
  | cons h hs=>
   obtain⟨i1,_,_⟩:=h.left' rfl hf
   exact i1.trans (ih hs i1.fronts)
open Classical in
noncomputable def upd (K:Nat→Nat) (n m:Nat):Nat→Nat:=fun k=>if k=n then m else K k
theorem wH (K:Nat→Nat) (n m:Nat):upd K n m n=m:=by simp[upd]
theorem upd_ne (K:Nat→Nat) {n k:Nat} (m:Nat) (h:k≠n):upd K n m k=K k:=by simp[upd,h]
mutual
inductive fY (G:List Gn) (fr:Nat→Nat):(Nat→Nat)→Nat→Bool→(Nat→Nat)→Prop
 | seen {K n} (h:K (fr n)≠0):fY G fr K n (decide (K (fr n)=2)) K
 | go {K n K'} (h:K (fr n)=0) (hs:mY G fr (upd K (fr n) 1) (ga G (fr n)) true K'):fY G fr K n true (upd K' (fr n) 2)
 | no {K n K'} (h:K (fr n)=0) (hs:mY G fr (upd K (fr n) 1) (ga G (fr n)) false K'):fY G fr K n false K'
inductive mY (G:List Gn) (fr:Nat→Nat):(Nat→Nat)→List Nat→Bool→(Nat→Nat)→Prop
 | nil {K}:mY G fr K [] true K
 | no {K x xs K'} (h:fY G fr K x false K'):mY G fr K (x :: xs) false K'
 | cons {K x xs K1 r K'} (h:fY G fr K x true K1) (hs:mY G fr K1 xs r K'):mY G fr K (x :: xs) r K'
end
inductive Tr (G:List Gn) (fr:Nat→Nat):Nat→U→Prop
 | var {n} (h:gl G (fr n)=none) (ha:ga G (fr n)=[]):Tr G fr n (.v ([],fr n))
 | node {n k tx num us} (h:gl G (fr n)=some (k,tx,num)) (hl:(ga G (fr n)).length=us.length) (ht:∀(i a:Nat) (u:U),(ga G (fr n))[i]?=some a→us[i]?=some u→Tr G fr a u):Tr G fr n (.n k tx num us)
def Plain (G:List Gn):Prop:=∀n,gl G n=none→ga G n=[]
theorem Tr.front {G:List Gn} {fr:Nat→Nat} {a b:Nat} {u:U} (h:Tr G fr a u) (e:fr a=fr b):Tr G fr b u:=by
 cases h with
 | var h ha=>rw[e]at h ha⊢;exact .var h ha
 | node h hl ht=>exact .node (e ▸ h) (e ▸ hl) (fun i a u ha=>ht i a u (e ▸ ha))
theorem Tr.one {G:List Gn} {fr:Nat→Nat} {n:Nat} {u:U} (h:Tr G fr n u):∀{u'},Tr G fr n u'→u=u':=by
 induction h with
 | var h ha=>
  intro u' h'
  cases h' with
  | var _ _=>rfl
  | node h2 _ _=>rw[h]at h2;cases h2
 | @node n k tx num us h hl ht ih=>
  intro u' h'
  cases h' with
  | var h2 _=>rw[h]at h2;cases h2
  | @node _ k' tx' num' us' h2 hl' ht'=>
   rw[h]at h2
   cases h2
   congr 1
   apply List.ext_getElem (by omega)
   intro i h1 h2
   have ha:(ga G (fr n))[i]?=some (ga G (fr n))[i]:=List.getElem?_eq_getElem (by omega)
   exact ih i _ _ ha (List.getElem?_eq_getElem h1) (ht' i _ _ ha (List.getElem?_eq_getElem h2))
def Done (G:List Gn) (fr:Nat→Nat) (K:Nat→Nat):Prop:=∀d,K d=2→∃u,Tr G fr d u
theorem qL {G:List Gn} {fr:Nat→Nat} (hP:Plain G) {n:Nat} (h:∀a∈ga G (fr n),∃u,Tr G fr a u):∃u,Tr G fr n u:=by
 cases hg:gl G (fr n)with
 | none=>exact⟨_,.var hg (hP _ hg)⟩
 | some p=>
  obtain⟨k,tx,num⟩:=p
  have:∃us:List U,(ga G (fr n)).length=us.length∧∀(i a:Nat) (u:U),(ga G (fr n))[i]?=some a→us[i]?=some u→Tr G fr a u:=by
   generalize ga G (fr n)=ss at h
   induction ss with
   | nil=>exact⟨[],rfl,fun i a u ha=>by simp at ha⟩
   | cons a ss ih=>
    obtain⟨us,h1,h2⟩:=ih (fun b hb=>h b (by simp[hb]))
    obtain⟨u,hu⟩:=h a (by simp)
    refine⟨u :: us,by simp[h1],fun i b w hb hw=> ?_⟩
    cases i with
    | zero=>simp at hb hw;subst hb hw;exact hu
    | succ i=>simp at hb hw;exact h2 i b w hb hw
  obtain⟨us,h1,h2⟩:=this
  exact⟨_,.node hg h1 h2⟩
def opn (K:Nat→Nat) (d:Nat):Prop:=K d≠0∧K d≠2
theorem fY.says {G:List Gn} {fr:Nat→Nat} (hP:Plain G) (hi:∀n,fr (fr n)=fr n) {K:Nat→Nat} {n:Nat} {r:Bool} {K':Nat→Nat} (h:fY G fr K n r K'):(r=true→Done G fr K→Done G fr K'∧(∃u,Tr G fr n u))∧(r=true→∀d,opn K' d→opn K d)∧(r=false→∀v,Reads G fr v→(∀d,opn K d→size (v n)<size (v d))→False):=by
 refine fY.rec (motive_1:=fun K n r K' _=>(r=true→Done G fr K→Done G fr K'∧(∃u,Tr G fr n u))∧(r=true→∀d,opn K' d→opn K d)∧(r=false→∀v,Reads G fr v→(∀d,opn K d→size (v n)<size (v d))→False)) (motive_2:=fun K xs r K' _=>(r=true→Done G fr K→Done G fr K'∧∀x∈xs,∃u,Tr G fr x u)∧(r=true→∀d,opn K' d→opn K d)∧(r=false→∀v,Reads G fr v→(∀x∈xs,∀d,opn K d→size (v x)<size (v d))→False)) ?_ ?_ ?_ ?_ ?_ ?_ h
 ·intro K n h
  refine⟨fun q hd=> ?_,fun _ d q=>q,fun q v hv hs=> ?_⟩
  ·obtain⟨u,hu⟩:=hd (fr n) (of_decide_eq_true q)
   exact⟨hd,u,hu.front (hi n)⟩
  ·have:=hs (fr n) ⟨h,of_decide_eq_false q⟩
   rw[hv.front n]at this
   omega
 ·intro K n K' h hs ih
  obtain⟨i1,i2,_⟩:=ih
  have hdone:Done G fr K→Done G fr (upd K (fr n) 1):=fun hd d q=>by
   by_cases e:d=fr n
   ·rw[e,wH]at q;omega
   ·rw[upd_ne _ _ e]at q;exact hd d q
  refine⟨fun _ hd=> ?_,fun _ d q=> ?_,fun q=>by cases q⟩
  ·obtain⟨j1,j2⟩:=i1 rfl (hdone hd)
   obtain⟨u,hu⟩:=qL hP j2
   refine⟨fun d q=> ?_,u,hu⟩
   by_cases e:d=fr n
   ·exact⟨u,hu.front (by rw[e,hi])⟩
   ·rw[upd_ne _ _ e]at q;exact j1 d q
  ·by_cases e:d=fr n
   ·rw[e]at q;unfold opn at q;rw[wH]at q;exact absurd rfl q.2
   ·have q':opn K' d:=by unfold opn at q⊢;rwa [upd_ne _ _ e]at q
    have:=i2 rfl d q'
    unfold opn at this⊢
    rwa [upd_ne _ _ e]at this
 ·intro K n K' h hs ih
  obtain⟨_,_,i3⟩:=ih
  refine⟨fun q=>(by cases q),fun q=>(by cases q),fun _ v hv hsz=>i3 rfl v hv fun x hx d hd=> ?_⟩
  have hne:gl G (fr n)≠none:=fun q=>by rw[hP _ q]at hx;cases hx
  obtain⟨⟨k,tx,num⟩,hg⟩:=Option.ne_none_iff_exists'.1 hne
  have h1:=hv.node (fr n) k tx num hg
  have h2:=iG (List.mem_map_of_mem (f:=v) hx)
  have h3:size (v x)<size (v (fr n)):=by rw[h1,size];omega
  by_cases e:d=fr n
  ·rw[e];exact h3
  ·have:=hsz d (by unfold opn at hd⊢;rwa [upd_ne _ _ e]at hd)
   rw[hv.front n]at this
   omega
 ·intro K
  exact⟨fun _ hd=>⟨hd,fun x hx=>by cases hx⟩,fun _ d q=>q,fun q=>by cases q⟩
 ·intro K x xs K' h ih
  exact⟨fun q=>(by cases q),fun q=>(by cases q),fun _ v hv hs=>ih.2.2 rfl v hv fun d hd=>hs x (by simp) d hd⟩
 ·intro K x xs K1 r K' h hs ih ihs
  refine⟨fun q hd=> ?_,fun q d hd=>ih.2.1 rfl d (ihs.2.1 q d hd),fun q v hv hsz=>ihs.2.2 q v hv fun y hy d hd=>hsz y (by simp[hy]) d (ih.2.1 rfl d hd)⟩
  obtain⟨j1,j2⟩:=ih.1 rfl hd
  obtain⟨k1,k2⟩:=ihs.1 q j1
  exact⟨k1,fun y hy=>by
   rcases List.mem_cons.1 hy with rfl | hy
   ·exact j2
   ·exact k2 y hy⟩
theorem Tr.reads {G:List Gn} {fr:Nat→Nat} {n:Nat} {u:U} (h:Tr G fr n u) {v:Nat→U} (hv:Reads G fr v):v n=sub (fun x=>v x.2) u:=by
 induction h with
 | @var n h ha=>rw[hv.front n];rfl
 | @node n k tx num us h hl ht ih=>
  rw[hv.front n,hv.node (fr n) k tx num h,dI]
  congr 1
  apply List.ext_getElem (by simp[hl])
  intro i h1 h2
  have ha:i<(ga G (fr n)).length:=by simpa using h1
  have hb:i<us.length:=by simpa using h2
  simpa using ih i _ _ (List.getElem?_eq_getElem ha) (List.getElem?_eq_getElem hb)
def p8 (G:List Gn) (fr:Nat→Nat):Prop:=∀n,gl G (fr n)=none→fr n≤n
theorem p8.bE {G:List Gn} {fr:Nat→Nat} (h:p8 G fr) {a b:Nat} (hab:gl G b=none→gl G a=none∧b≤a):p8 G (bE fr a b):=by
 intro n
 unfold Za.bE
 split
 ·rename_i q
  intro hb
  obtain⟨h1,h2⟩:=hab hb
  have:=h n (by rw[q];exact h1)
  omega
 ·exact h n
theorem cE.rQ {G:List Gn} {fr:Nat→Nat} {a b:Nat} {r:Bool} {fr':Nat→Nat} (h:cE G fr a b r fr'):r=true→p8 G fr→p8 G fr':=by
 refine cE.rec (motive_1:=fun fr _ _ r fr' _=>r=true→p8 G fr→p8 G fr') (motive_2:=fun fr _ _ r fr' _=>r=true→p8 G fr→p8 G fr') ?_ ?_ ?_ ?_ ?_ ?_ ?_ ?_ ?_ h
 ·intro fr a b h _ hv;exact hv
 ·intro fr a b lo hi h ha hb hl hlt _ hv
  refine hv.bE fun _=>⟨?_,by omega⟩
  rcases hl with⟨_,rfl⟩ | ⟨_,rfl⟩<;>assumption
 ·intro fr a b h ha hb _ hv;exact hv.bE fun q=>absurd q hb
 ·intro fr a b h ha hb _ hv;exact hv.bE fun q=>absurd q ha
 ·intro fr a b fr' h ha hb hs q;cases q
 ·intro fr a b r fr' h ha hb hs hj ih hr hv;exact ih hr (hv.bE fun q=>absurd q ha)
 ·intro fr _ hv;exact hv
 ·intro fr x y xs ys fr' h ih q;cases q
 ·intro fr x y xs ys fr1 r fr' h hs ih ihs hr hv;exact ihs hr (ih rfl hv)
inductive oG (G:List Gn) (fr:Nat→Nat) (a:Nat):Nat→Prop
 | here {n} (h:fr n=fr a):oG G fr a n
 | arg {m x n} (h:oG G fr a m) (hx:x∈ga G (fr m)) (hn:fr n=fr x):oG G fr a n
theorem oG.tr {G:List Gn} {fr:Nat→Nat} {a n:Nat} (h:oG G fr a n) {u:U} (hu:Tr G fr a u):∃u',Tr G fr n u':=by
 induction h with
 | here h=>exact⟨u,hu.front h.symm⟩
 | @arg m x n _ hx hn ih=>
  obtain⟨u',h'⟩:=ih
  cases h' with
  | var _ h0=>rw[h0]at hx;cases hx
  | @node _ k tx num us _ hl ht=>
   obtain⟨i,hi,rfl⟩:=List.getElem_of_mem hx
   have hi':i<us.length:=by omega
   exact⟨us[i],(ht i _ _ (List.getElem?_eq_getElem hi) (List.getElem?_eq_getElem hi')).front hn.symm⟩
theorem oG.same {G:List Gn} {fr:Nat→Nat} {r0 a n:Nat} (h:oG G fr r0 a) (e:fr a=fr n):oG G fr r0 n:=by
 cases h with
 | here h=>exact .here (e.symm.trans h)
 | arg h hx hn=>exact .arg h hx (e.symm.trans hn)
theorem cE.reach {G:List Gn} {fr:Nat→Nat} {a b:Nat} {r:Bool} {fr':Nat→Nat} (h:cE G fr a b r fr'):r=true→iQ G fr→∀f,(∀x y,fr' x=fr' y→f x=f y)→jQ G f (fun _ _=>False)→∀r0,oG G f r0 a→∀n,fr n=n→fr' n≠n→oG G f r0 n:=by
 refine cE.rec (motive_1:=fun fr a b r fr' _=>r=true→iQ G fr→∀f,(∀x y,fr' x=fr' y→f x=f y)→jQ G f (fun _ _=>False)→∀r0,oG G f r0 a→∀n,fr n=n→fr' n≠n→oG G f r0 n) (motive_2:=fun fr xs ys r fr' _=>r=true→iQ G fr→∀f,(∀x y,fr' x=fr' y→f x=f y)→jQ G f (fun _ _=>False)→∀r0,(∀x∈xs,oG G f r0 x)→∀n,fr n=n→fr' n≠n→oG G f r0 n) ?_ ?_ ?_ ?_ ?_ ?_ ?_ ?_ ?_ h
 ·intro fr a b h _ _ f _ _ r0 _ n h1 h2;exact absurd h1 h2
 ·intro fr a b lo hi h ha hb hl hlt _ hf f hm _ r0 hr n h1 h2
  have e:n=hi:=by
   apply Classical.byContradiction
   intro q
   apply h2
   unfold bE
   rw[h1,if_neg q]
  have hab:bE fr hi lo a=bE fr hi lo n:=by
   subst e
   unfold bE
   rw[h1]
   rcases hl with⟨rfl,rfl⟩ | ⟨rfl,rfl⟩
   ·rw[if_neg (by omega),if_pos rfl]
   ·rw[if_pos rfl]
  exact hr.same (hm _ _ hab)
 ·intro fr a b h ha hb _ hf f hm _ r0 hr n h1 h2
  have e:n=fr a:=by
   apply Classical.byContradiction
   intro q
   apply h2
   unfold bE
   rw[h1,if_neg q]
  refine hr.same (hm _ _ ?_)
  subst e
  unfold bE
  rw[hf.idem]
 ·intro fr a b h ha hb _ hf f hm _ r0 hr n h1 h2
  have e:n=fr b:=by
   apply Classical.byContradiction
   intro q
   apply h2
   unfold bE
   rw[h1,if_neg q]
  refine hr.same (hm _ _ ?_)
  subst e
  unfold bE
  rw[hf.idem,if_neg h,if_pos rfl]
 ·intro fr a b fr' h ha hb hs q;cases q
 ·intro fr a b r fr' h ha hb hs hj ih hr hf f hm hc r0 yI n h1 h2
  obtain⟨l1,l2,l3,l4⟩:=lA hf (hf.idem b) (hf.idem a) (Ne.symm h) (fun _=>ha)
  have hmono:∀x y,bE fr (fr b) (fr a) x=bE fr (fr b) (fr a) y→fr' x=fr' y:=(hj.MA hr l1).mono
  have hall:∀x∈ga G (fr a),oG G f r0 x:=fun x hx=>by
   obtain⟨i,hi,rfl⟩:=List.getElem_of_mem hx
   have hlen:=(hc.lab (fr a) ha).2
   have hi':i<(ga G (f (fr a))).length:=by omega
   have e1:=(hc.args (fr a) ha i _ _ (List.getElem?_eq_getElem hi) (List.getElem?_eq_getElem hi')).done
   have e2:f (fr a)=f a:=hm _ _ (hmono _ _ (l2 _ _ (hf.idem a)))
   exact .arg yI (x:=(ga G (f (fr a)))[i]) (by rw[←e2];exact List.getElem_mem hi') e1
  by_cases e:n=fr b
  ·refine yI.same (hm _ _ (hmono _ _ ?_))
   subst e
   rw[l3]
   unfold bE
   rw[if_neg h]
  ·refine ih hr l1 f hm hc r0 hall n ?_ h2
   unfold bE
   rw[h1,if_neg e]
 ·intro fr _ _ f _ _ r0 _ n h1 h2;exact absurd h1 h2
 ·intro fr x y xs ys fr' h ih q;cases q
 ·intro fr x y xs ys fr1 r fr' h hs ih ihs hr hf f hm hc r0 yI n h1 h2
  obtain⟨i1,_,_⟩:=h.left' rfl hf
  have hmono:=(hs.MA hr i1.fronts).mono
  by_cases e:fr1 n=n
  ·exact ihs hr i1.fronts f hm hc r0 (fun z hz=>yI z (by simp[hz])) n e h2
  ·exact ih rfl hf f (fun u v q=>hm _ _ (hmono _ _ q)) hc r0 (yI x (by simp)) n h1 e
structure dw (G:List Gn) (fr:Nat→Nat) (T:Nat→U):Prop where
 fronts:iQ G fr
 cong:jQ G fr fun _ _=>False
 tr:∀n,Tr G fr n (T n)
 plain:Plain G
 rQ:p8 G fr
theorem dw.reads {G:List Gn} {fr:Nat→Nat} {T:Nat→U} (h:dw G fr T):Reads G fr T:=by
 refine⟨fun n k tx num hg=> ?_,fun n=>(h.tr n).one ((h.tr (fr n)).front (h.fronts.idem n))⟩
 have hl:=h.cong.lab n (by rw[hg];simp)
 have ht:=h.tr n
 generalize hu:T n=u at ht
 cases ht with
 | var h1 _=>rw[←hl.1,hg]at h1;cases h1
 | @node _ k' tx' num' us h1 hlen ht'=>
  rw[←hl.1,hg]at h1
  cases h1
  congr 1
  apply List.ext_getElem (by rw[List.length_map,hl.2,hlen])
  intro i h3 h4
  have Gu:i<(ga G n).length:=by simpa using h4
  have hif:i<(ga G (fr n)).length:=by have:=hl.2;omega
  have e:=(h.cong.args n (by rw[hg];simp) i _ _ (List.getElem?_eq_getElem Gu) (List.getElem?_eq_getElem hif)).done
  have:=(ht' i _ _ (List.getElem?_eq_getElem hif) (List.getElem?_eq_getElem h3)).front e.symm
  rw[List.getElem_map]
  exact this.one (h.tr _)
theorem dw.Aw {G:List Gn} {fr:Nat→Nat} {T:Nat→U} (h:dw G fr T) (θ:Vr→U):Reads G fr fun n=>sub θ (T n):=
 ⟨fun n k tx num hg=>by rw[h.reads.node n k tx num hg,dI,List.map_map];rfl,fun n=>by rw[h.reads.front n]⟩
theorem dw.var {G:List Gn} {fr:Nat→Nat} {T:Nat→U} (h:dw G fr T) {n:Nat} (hg:gl G (fr n)=none):T n= .v ([],fr n):=(h.tr n).one (.var hg (h.plain _ hg))
open Classical in
noncomputable def gets (G:List Gn) (fr0 fr:Nat→Nat):Vr→U:=fun x=>if h:x.1=[]∧(fr0 x.2=x.2∧gl G x.2=none)∧∃u,Tr G fr x.2 u then choose h.2.2 else .v x
theorem tR {G:List Gn} {fr0 fr:Nat→Nat} {n:Nat} {u:U} (h0:fr0 n=n) (hg:gl G n=none) (h:Tr G fr n u):gets G fr0 fr ([],n)=u:=by
 unfold gets
 have hx:∃u,Tr G fr n u:=⟨u,h⟩
 rw[dif_pos ⟨rfl,⟨h0,hg⟩,hx⟩]
 exact(Classical.choose_spec hx).one h
theorem Tr.vars {G:List Gn} {fr:Nat→Nat} {n:Nat} {u:U} (h:Tr G fr n u):∀x,Za.has x u→x.1=[]∧gl G x.2=none∧∃m,fr m=x.2:=by
 induction h with
 | @var n hg ha=>intro x hx;rw[Za.has]at hx;subst hx;exact⟨rfl,hg,n,rfl⟩
 | @node n k tx num us hg hl ht ih=>
  intro x hx
  obtain⟨a,ha,hx⟩:=(mR x k tx num us).1 hx
  obtain⟨i,hi,rfl⟩:=List.getElem_of_mem ha
  exact ih i _ _ (List.getElem?_eq_getElem (by omega)) (List.getElem?_eq_getElem hi) x hx
structure Made (G:List Gn) (fr fr':Nat→Nat) (T T':Nat→U) (a b:U) (σ:Vr→U):Prop where
 sto:dw G fr' T'
 left:Left G fr fr'
 is:∀n,T' n=sub σ (T n)
 one:sub σ a=sub σ b
 most:∀θ,sub θ a=sub θ b→∀x,sub θ (σ x)=θ x
 low:∀x y,σ x= .v y→y.1=x.1∧y.2≤x.2
 jm:∀n,fr n=n→gl G n=none→σ ([],n)=T' n
theorem dw.join {G:List Gn} {fr:Nat→Nat} {T:Nat→U} (h:dw G fr T) {a b:Nat} {r:Bool} {fr':Nat→Nat} (hj:cE G fr a b r fr'):
 (r=false→∀θ,sub θ (T a)≠sub θ (T b))∧(r=true→∀K',fY G fr' (fun _=>0) a false K'→∀θ,sub θ (T a)≠sub θ (T b))∧
 (r=true→∀K',fY G fr' (fun _=>0) a true K'→∃σ T',Made G fr fr' T T' (T a) (T b) σ):=by
 refine⟨fun q θ e=> ?_,fun q K' hw θ e=> ?_,fun q K' hw=> ?_⟩
 ·have:=(hj.reads _ (h.Aw θ) e).1
  rw[q]at this
  cases this
 ·subst q
  have hv:=(hj.reads _ (h.Aw θ) e).2
  obtain⟨l1,_,_⟩:=hj.left' rfl h.fronts
  exact(hw.says h.plain l1.fronts.idem).2.2 rfl _ hv fun d hd=>absurd rfl hd.1
 ·subst q
  obtain⟨l1,l2,l3⟩:=hj.left' rfl h.fronts
  obtain⟨_,u,hu⟩:=(hw.says h.plain l1.fronts.idem).1 rfl (fun d q=>by cases q)
  have hc:=l3 (fun _ _=>False) (h.cong.imp fun _ _ q=>q.elim)
  have Ax:=hj.rQ rfl h.rQ
  have hvar:∀m,fr m=m→gl G m=none→Tr G fr' m (gets G fr fr' ([],m)):=fun m hm hg=>by
   by_cases e:fr' m=m
   ·have ht:Tr G fr' m (.v ([],fr' m)):= .var (by rw[e];exact hg) (by rw[e];exact h.plain _ hg)
    rw[tR hm hg ht]
    exact ht
   ·obtain⟨u',hu'⟩:=(hj.reach rfl h.fronts fr' (fun _ _ q=>q) hc a (.here rfl) m hm e).tr hu
    rw[tR hm hg hu']
    exact hu'
  have hT:∀n v,Tr G fr n v→Tr G fr' n (sub (gets G fr fr') v):=fun n v hv=>by
   induction hv with
   | @var n hg ha=>
    have:=hvar (fr n) (h.fronts.idem n) hg
    exact this.front (l1.mono _ _ (h.fronts.idem n))
   | @node n k tx num us hg hl ht ih=>
    have hn:gl G (fr n)≠none:=by rw[hg];simp
    have hlab:=hc.lab (fr n) hn
    have hf:fr' (fr n)=fr' n:=l1.mono _ _ (h.fronts.idem n)
    rw[dI]
    refine .node (by rw[←hf,←hlab.1,hg]) (by rw[←hf,←hlab.2,hl,List.length_map]) fun i x w hx hw=> ?_
    rw[←hf]at hx
    have hi':=(List.getElem?_eq_some_iff.1 hx).1
    have hi:i<(ga G (fr n)).length:=by have:=hlab.2;omega
    have e:=(hc.args (fr n) hn i _ _ (List.getElem?_eq_getElem hi) hx).done
    have Tw:i<us.length:=by omega
    have:=ih i _ _ (List.getElem?_eq_getElem hi) (List.getElem?_eq_getElem Tw)
    rw[List.getElem?_map,List.getElem?_eq_getElem Tw]at hw
    obtain rfl:=Option.some.inj hw
    exact this.front e
  have hSto:dw G fr' fun n=>sub (gets G fr fr') (T n):=⟨l1.fronts,hc,fun n=>hT n _ (h.tr n),h.plain,Ax⟩
  refine⟨gets G fr fr',fun n=>sub (gets G fr fr') (T n),hSto,l1,fun _=>rfl,?_,fun θ e x=> ?_,fun x y e=> ?_,fun n hn hg=> ?_⟩
  ·exact(hT a _ (h.tr a)).one ((hT b _ (h.tr b)).front l2.symm)
  ·by_cases hx:x.1=[]∧(fr x.2=x.2∧gl G x.2=none)∧∃u,Tr G fr' x.2 u
   ·obtain⟨x1,x2⟩:=x
    obtain⟨h1,⟨DA,h2⟩,u',hu'⟩:=hx
    dsimp only at h1 h2 DA hu'
    subst h1
    rw[tR DA h2 hu']
    have hv:=(hj.reads _ (h.Aw θ) e).2
    have q:=hu'.reads hv
    have e1:T x2= .v ([],x2):=by have:=h.var (n:=x2) (by rw[DA];exact h2);rwa [DA]at this
    rw[e1]at q
    show sub θ u'=θ ([],x2)
    rw[show θ ([],x2)=sub θ (.v ([],x2))from rfl,q]
    refine sub_congr u' fun y hy=> ?_
    obtain⟨y1,y2,m,hm⟩:=hu'.vars y hy
    obtain⟨yn,yv⟩:=y
    dsimp only at y1 y2 hm⊢
    subst y1
    have Tx:fr yv=yv:=by
     have h3:fr' (fr yv)=fr' yv:=l1.mono _ _ (h.fronts.idem yv)
     have h4:fr' yv=yv:=by rw[←hm];exact l1.fronts.idem m
     apply Classical.byContradiction
     intro hne
     have h5:gl G (fr yv)=none:=by
      cases hq:gl G (fr yv)with
      | none=>rfl
      | some p=>
       have:=l1.fronts.lab (fr yv) (by rw[hq];simp)
       rw[h3,h4]at this
       exact absurd y2 this
     have h6:=h.rQ yv h5
     have h7:=Ax (fr yv) (by rw[h3,h4];exact y2)
     rw[h3,h4]at h7
     omega
    have:=h.var (n:=yv) (by rw[Tx];exact y2)
    rw[Tx]at this
    rw[this]
    rfl
   ·unfold gets
    rw[dif_neg hx]
    rfl
  ·unfold gets at e
   split at e
   ·rename_i hx
    obtain⟨x1,x2⟩:=x
    obtain⟨h1,⟨DA,h2⟩,hu'⟩:=hx
    dsimp only at h1 h2 DA hu'
    subst h1
    have ht:=Classical.choose_spec hu'
    dsimp only at e
    rw[e]at ht
    cases ht with
    | var h3 _=>exact⟨rfl,Ax x2 h3⟩
   ·cases e
    exact⟨rfl,Nat.le_refl _⟩
  ·exact tR hn hg (by have:=hT n _ (h.tr n);exact this)
def uargs:U→List U
 | .v _=>[]
 | .n _ _ _ ss=>ss
end Za
