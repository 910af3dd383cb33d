import Derived.Test.YthfjnfcekeknlaaGreatDoorSt01
import Derived.Test.YthfjnfcekeknlaaGreatDoorSt02
import Derived.Lib.ItoaLen
set_option maxHeartbeats 8000000
set_option maxRecDepth 100000
namespace Za
mutual
def bM (D:Int→List UInt8) (N:List Vr):U→List UInt8
 | .v x=>86 :: D (N.idxOf x:Int)
 | .n k tx num ss=>if k=3 then D num else tx++argS (Af D N ss)
def Af (D:Int→List UInt8) (N:List Vr):List U→List (List UInt8)
 | []=>[]
 | a :: ss=>bM D N a :: Af D N ss
end
theorem yO (D:Int→List UInt8) (N:List Vr):∀ss,Af D N ss=ss.map (bM D N)
 | []=>rfl
 | a :: ss=>by rw[Af,yO D N ss];rfl
theorem lD (D:Int→List UInt8) (N:List Vr) (k:Nat) (tx:List UInt8) (num:Int) (ss:List U):bM D N (.n k tx num ss)=if k=3 then D num else tx++argS (ss.map (bM D N)):=by rw[bM,yO]
def kE (N:List Vr) (x:Vr):List Vr:=if x∈N then N else N++[x]
mutual
def aS (N:List Vr):U→List Vr
 | .v x=>kE N x
 | .n _ _ _ ss=>tS N ss
def tS (N:List Vr):List U→List Vr
 | []=>N
 | a :: ss=>tS (aS N a) ss
end
theorem namesUL_fold:∀(ss:List U) (N:List Vr),tS N ss=ss.foldl aS N
 | [],_=>rfl
 | a :: ss,N=>by rw[tS,namesUL_fold ss];rfl
theorem fI (N:List Vr) (k:Nat) (tx:List UInt8) (num:Int) (ss:List U):aS N (.n k tx num ss)=ss.foldl aS N:=by rw[aS,namesUL_fold]
theorem AU {N:List Vr} {x y:Vr}:y∈kE N x↔y∈N∨y=x:=by
 unfold kE
 split
 ·rename_i h
  exact⟨Or.inl,fun q=>q.elim id (fun e=>e ▸ h)⟩
 ·simp
theorem qO {y:Vr}:∀(u:U) (N:List Vr),y∈aS N u↔y∈N∨has y u:=by
 refine U.ind (fun x N=> ?_) (fun k tx num ss ih N=> ?_)
 ·rw[aS,AU,has]
  exact⟨fun q=>q.imp id Eq.symm,fun q=>q.imp id Eq.symm⟩
 ·rw[fI,mR]
  induction ss generalizing N with
  | nil=>simp
  | cons a ss ihl=>
   rw[List.foldl_cons,ihl (fun b hb=>ih b (by simp[hb])),ih a (by simp)]
   simp[or_assoc]
def ren (ρ:Vr→Vr):Vr→U:=fun x=> .v (ρ x)
def Ag (ρ:Vr→Vr) (S:Vr→Prop):Prop:=∀x y,S x→S y→ρ x=ρ y→x=y
theorem yP {ρ:Vr→Vr} {S:Vr→Prop} (hi:Ag ρ S):∀(u:U) (N:List Vr),(∀x,has x u→S x)→(∀x∈N,S x)→aS (N.map ρ) (sub (ren ρ) u)=(aS N u).map ρ:=by
 refine U.ind (fun x N hu hN=> ?_) (fun k tx num ss ih N hu hN=> ?_)
 ·show kE (N.map ρ) (ρ x)=(kE N x).map ρ
  unfold kE
  have hx:S x:=hu x rfl
  have e:ρ x∈N.map ρ↔x∈N:=by
   constructor
   ·intro q
    obtain⟨y,hy,he⟩:=List.mem_map.1 q
    rwa [hi y x (hN y hy) hx he]at hy
   ·exact fun q=>List.mem_map_of_mem q
  by_cases q:x∈N
  ·rw[if_pos q,if_pos (e.2 q)]
  ·rw[if_neg q,if_neg (fun r=>q (e.1 r)),List.map_append]
   rfl
 ·rw[dI,fI,fI]
  have hu':∀a∈ss,∀x,has x a→S x:=fun a ha x hx=>hu x ((mR x k tx num ss).2 ⟨a,ha,hx⟩)
  clear hu
  induction ss generalizing N with
  | nil=>rfl
  | cons a ss ihl=>
   rw[List.map_cons,List.foldl_cons,List.foldl_cons,ih a (by simp) N (hu' a (by simp)) hN]
   exact ihl (fun b hb=>ih b (by simp[hb])) _ (fun x hx=>((qO a N).1 hx).elim (hN x) (hu' a (by simp) x)) (fun b hb=>hu' b (by simp[hb]))
theorem DF {ρ:Vr→Vr} {S:Vr→Prop} (hi:Ag ρ S) {x:Vr} (hx:S x):∀(N:List Vr),(∀y∈N,S y)→(N.map ρ).idxOf (ρ x)=N.idxOf x
 | [],_=>rfl
 | y :: N,h=>by
  rw[List.map_cons,List.idxOf_cons,List.idxOf_cons,DF hi hx N (fun z hz=>h z (by simp[hz]))]
  by_cases q:y=x
  ·subst q;simp
  ·have:ρ y≠ρ x:=fun e=>q (hi y x (h y (by simp)) hx e)
   rw[beq_false_of_ne q,beq_false_of_ne this]
theorem tT {D:Int→List UInt8} {ρ:Vr→Vr} {S:Vr→Prop} (hi:Ag ρ S) {N:List Vr} (hN:∀x∈N,S x):∀(u:U),(∀x,has x u→S x)→bM D (N.map ρ) (sub (ren ρ) u)=bM D N u:=by
 refine U.ind (fun x hu=> ?_) (fun k tx num ss ih hu=> ?_)
 ·show 86 :: D (((N.map ρ).idxOf (ρ x):Nat):Int)=86 :: D ((N.idxOf x:Nat):Int)
  rw[DF hi (hu x rfl) N hN]
 ·rw[dI,lD,lD,List.map_map]
  congr 3
  exact List.map_congr_left fun a ha=>ih a ha fun x hx=>hu x ((mR x k tx num ss).2 ⟨a,ha,hx⟩)
theorem J6 (ρ:Vr→Vr):∀u,size (sub (ren ρ) u)=size u:=by
 refine U.ind (fun x=>rfl) (fun k tx num ss ih=> ?_)
 rw[dI,size,size]
 congr 1
 induction ss with
 | nil=>rfl
 | cons a ss ihl=>rw[List.map_cons,sizeL,sizeL,ih a (by simp),ihl (fun b hb=>ih b (by simp[hb]))]
theorem DG {θ:Vr→U}:∀u,sub θ u=u→∀x,has x u→θ x= .v x:=by
 refine U.ind (fun y h x hx=> ?_) (fun k tx num ss ih h x hx=> ?_)
 ·rw[has]at hx;subst hx;exact h
 ·obtain⟨a,ha,hx⟩:=(mR x k tx num ss).1 hx
  rw[dI]at h
  injection h with _ _ _ h
  obtain⟨i,hi,rfl⟩:=List.getElem_of_mem ha
  have:=congrArg (·[i]?) h
  simp only[List.getElem?_map,List.getElem?_eq_getElem hi,Option.map_some,Option.some.injEq]at this
  exact ih _ (List.getElem_mem hi) this x hx
theorem Pf {x y:U} {ρ ρ':Vr→Vr} (hx:∀v,has v x∨has v y→ρ' (ρ v)=v) (h:∀θ,sub θ (sub (ren ρ) x)≠sub θ (sub (ren ρ) y)):∀θ,sub θ x≠sub θ y:=by
 intro τ e
 refine h (fun v=>τ (ρ' v)) ?_
 have back:∀w,(∀v,has v w→ρ' (ρ v)=v)→sub (fun v=>τ (ρ' v)) (sub (ren ρ) w)=sub τ w:=fun w hw=>by
  rw[sub_sub]
  exact sub_congr w fun v hv=>by show τ (ρ' (ρ v))=τ v;rw[hw v hv]
 rw[back x (fun v q=>hx v (Or.inl q)),back y (fun v q=>hx v (Or.inr q)),e]
mutual
def leaves:U→Nat
 | .v _=>1
 | .n _ _ _ ss=>leavesL ss+(if ss=[]then 1 else 0)
def leavesL:List U→Nat
 | []=>0
 | a :: ss=>leaves a+leavesL ss
end
mutual
def high:U→Nat
 | .v _=>0
 | .n _ _ _ ss=>highL ss+1
def highL:List U→Nat
 | []=>0
 | a :: ss=>max (high a) (highL ss)
end
mutual
def subs:U→List U
 | .v x=>[.v x]
 | .n k tx num ss=> .n k tx num ss :: subsL ss
def subsL:List U→List U
 | []=>[]
 | a :: ss=>subs a++subsL ss
end
theorem GA (u:U):u∈subs u:=by cases u<;>simp[subs]
theorem rZ {s:U}:∀{ss:List U},s∈subsL ss↔∃a∈ss,s∈subs a
 | []=>by simp[subsL]
 | a :: ss=>by rw[subsL,List.mem_append,rZ];simp
def ar:U→Nat
 | .v _=>0
 | .n _ _ _ ss=>ss.length
def prod:List U→Nat
 | []=>1
 | m :: N=>max 1 (ar m)*prod N
def oM (u:U):Prop:=∀k tx num ss,U.n k tx num ss∈subs u→tx.length≤240∧-1000000000≤num∧num≤1000000000∧ss.length≤3
theorem oM.arg {k:Nat} {tx:List UInt8} {num:Int} {ss:List U} (h:oM (.n k tx num ss)) {a:U} (ha:a∈ss):oM a:=fun k' tx' num' ss' hm=>h k' tx' num' ss' (by rw[subs];exact List.mem_cons_of_mem _ (rZ.2 ⟨a,ha,hm⟩))
theorem oM.own {k:Nat} {tx:List UInt8} {num:Int} {ss:List U} (h:oM (.n k tx num ss)):tx.length≤240∧-1000000000≤num∧num≤1000000000∧ss.length≤3:=h k tx num ss (GA _)
theorem oM.mk {k:Nat} {tx:List UInt8} {num:Int} {ss:List U} (h:tx.length≤240∧-1000000000≤num∧num≤1000000000∧ss.length≤3) (hs:∀a∈ss,oM a):oM (.n k tx num ss):=fun k' tx' num' ss' hm=>by
 rw[subs]at hm
 rcases List.mem_cons.1 hm with e | e
 ·injection e with e1 e2 e3 e4
  subst e2 e3 e4
  exact h
 ·obtain⟨a,ha,hm⟩:=rZ.1 e
  exact hs a ha k' tx' num' ss' hm
theorem argS_len:∀(l:List (List UInt8)),(argS l).length≤2+(l.map fun x=>x.length+1).sum
 | []=>by simp[argS]
 | x :: xs=>by
  have:∀(ys:List (List UInt8)),(ys.flatMap (fun y=>44 :: y)).length≤(ys.map fun x=>x.length+1).sum:=by
   intro ys
   induction ys with
   | nil=>simp
   | cons y ys ih=>rw[List.flatMap_cons,List.length_append,List.map_cons,List.sum_cons,List.length_cons];omega
  have:=this xs
  simp only[argS,List.cons_append,List.length_cons,List.length_append,List.length_nil,List.map_cons,List.sum_cons]
  omega
theorem oN {N:List Vr} (hN:N.length≤100000000):∀u,oM u→(bM Go.Lib.itoa N u).length≤300*size u:=by
 refine U.ind (fun x _=> ?_) (fun k tx num ss ih h=> ?_)
 ·rw[bM,size]
  have:=List.idxOf_le_length (l:=N) (a:=x)
  have:=Go.Lib.itoa_length_le (N.idxOf x:Int) (by omega) (by omega)
  rw[List.length_cons]
  omega
 ·obtain⟨h1,h2,h3,h4⟩:=h.own
  rw[lD,size]
  split
  ·have:=Go.Lib.itoa_length_le num (by omega) (by omega)
   omega
  ·rw[List.length_append]
   have:=argS_len (ss.map (bM Go.Lib.itoa N))
   have h5:((ss.map (bM Go.Lib.itoa N)).map fun x=>x.length+1).sum≤300*sizeL ss+ss.length:=by
    have hh:∀a∈ss,(bM Go.Lib.itoa N a).length≤300*size a:=fun a ha=>ih a ha (h.arg ha)
    clear this h h4 ih
    induction ss with
    | nil=>simp
    | cons a ss ihl=>
     have e1:=ihl (fun b hb=>hh b (by simp[hb]))
     have e2:=hh a (by simp)
     rw[List.map_cons,List.map_cons,List.sum_cons,sizeL,List.length_cons]
     omega
   omega
def bA (η:List UInt8→U):Nat→Tm→U
 | 0,_=> .v ([],0)
 | f+1,t=>if t.kind=3 then η t.text.toList else if t.kind=4 then .n 3 [] (numOf t.text:Int) []else .n 1 t.text.toList 0 (t.args.map (bA η f))
def pG (f sd:Nat) (t:Tm):U:=bA (fun x=> .v (x,sd)) f t
theorem tU (η:List UInt8→U) (sd:Nat):∀(f:Nat) (t:Tm),wfK f t→bA η f t=sub (fun v=>η v.1) (pG f sd t)
 | f+1,t,h=>by
  unfold pG bA
  by_cases k:t.kind=3
  ·rw[if_pos k,if_pos k];rfl
  ·rw[if_neg k,if_neg k]
   by_cases k4:t.kind=4
   ·rw[if_pos k4,if_pos k4,dI];rfl
   ·rw[if_neg k4,if_neg k4,dI,List.map_map]
    congr 1
    exact List.map_congr_left fun a ha=>tU η sd f a (h.2.2.2 a ha)
theorem DI (sd:Nat) {v:Vr}:∀(f:Nat) (t:Tm),wfK f t→has v (pG f sd t)→v.2=sd∧∀ns,v.1∈namesF f ns t
 | f+1,t,h,hv=>by
  unfold pG bA at hv
  unfold namesF
  by_cases k:t.kind=3
  ·rw[if_pos k]at hv
   rw[has]at hv
   subst hv
   refine⟨rfl,fun ns=> ?_⟩
   rw[if_pos k]
   unfold cW
   split
   ·assumption
   ·simp
  ·rw[if_neg k]at hv
   by_cases k4:t.kind=4
   ·rw[if_pos k4,mR]at hv
    obtain⟨a,ha,_⟩:=hv
    cases ha
   ·rw[if_neg k4,mR]at hv
    obtain⟨a,ha,hv⟩:=hv
    obtain⟨c,hc,rfl⟩:=List.mem_map.1 ha
    obtain⟨i1,i2⟩:=DI sd f c (h.2.2.2 c hc) hv
    refine⟨i1,fun ns=> ?_⟩
    rw[if_neg k,if_neg k4]
    obtain⟨l1,l2,he⟩:=List.append_of_mem hc
    rw[he,List.foldl_append,List.foldl_cons]
    obtain⟨K,hK⟩:=qM f l2 (namesF f (l1.foldl (namesF f) ns) c)
    rw[hK]
    exact List.mem_append_left _ (i2 _)
theorem prod_app:∀(a b:List U),prod (a++b)=prod a*prod b
 | [],b=>by rw[List.nil_append,prod,Nat.one_mul]
 | m :: a,b=>by rw[List.cons_append,prod,prod,prod_app a b,Nat.mul_assoc]
theorem dF {l:List Tok} {g:List UInt8} (h:sees l g=true):l.length=l.tail.length+1:=by
 cases l with
 | nil=>simp[sees,hd]at h
 | cons a l=>simp
theorem Dl {l:List Tok} (h:begins (hd l)=true):l.length=l.tail.length+1:=by
 cases l with
 | nil=>simp[begins,hd]at h
 | cons a l=>simp
def xU (N:List U) (z c:Nat):Prop:=prod N ^ 4*z≤2 ^ c∧N.length≤c
theorem GC {g:Tm→U} {p:List Tok→dH Tm} (hp:∀l t l1,p l= .inr (t,l1)→∃c,c+l1.length≤l.length∧xU (subs (g t)) 2 c):∀(k:Nat) (l:List Tok) (ts:List Tm) (l2:List Tok),bG p k l= .inr (ts,l2)→∃c,c+l2.length≤l.length∧xU (subsL (ts.map g)) (4 ^ ts.length) c:=by
 have last:∀(l l1:List Tok) (t:Tm),p l= .inr (t,l1)→sees l1 [41]=true→∃c,c+l1.tail.length≤l.length∧xU (subsL ([t].map g)) (4 ^ [t].length) c:=fun l l1 t hq h2=>by
  obtain⟨c,h3,h4,h5⟩:=hp _ _ _ hq
  have h6:=dF h2
  have e:subsL ([t].map g)=subs (g t):=by simp[subsL]
  rw[e]
  refine⟨c+1,by omega,?_,by omega⟩
  rw[show 2 ^ (c+1)=2 ^ c*2 from Nat.pow_succ ..,show 4 ^ [t].length=4 from rfl]
  generalize prod (subs (g t)) ^ 4=A at*
  omega
 intro k
 induction k with
 | zero=>
  intro l ts l2 h
  unfold bG at h
  rcases hq:p l with e | ⟨t,l1⟩
  ·rw[hq]at h;cases h
  ·rw[hq]at h
   dsimp only at h
   by_cases h1:sees l1 [44]=true
   ·rw[if_pos h1]at h;cases h
   ·rw[if_neg h1]at h
    by_cases h2:sees l1 [41]=true
    ·rw[if_pos h2]at h
     cases h
     exact last l l1 t hq h2
    ·rw[if_neg h2]at h;cases h
 | succ k ih=>
  intro l ts l2 h
  rw[bG]at h
  rcases hq:p l with e | ⟨t,l1⟩
  ·rw[hq]at h;cases h
  ·rw[hq]at h
   dsimp only at h
   by_cases h1:sees l1 [44]=true
   ·rw[if_pos h1]at h
    rcases hr:bG p k l1.tail with e | ⟨us,l3⟩
    ·rw[hr]at h;cases h
    ·rw[hr]at h
     cases h
     obtain⟨c1,i1,i2,i3⟩:=hp _ _ _ hq
     obtain⟨c2,j1,j2,j3⟩:=ih _ _ _ hr
     have h6:=dF h1
     refine⟨c1+1+c2,by omega,?_,?_⟩
     ·rw[List.map_cons,subsL,prod_app,Nat.mul_pow,List.length_cons,show 4 ^ (us.length+1)=4 ^ us.length*4 from Nat.pow_succ ..,Nat.pow_add,show 2 ^ (c1+1)=2 ^ c1*2 from Nat.pow_succ ..]
      have:=Nat.mul_le_mul (Nat.mul_le_mul i2 (Nat.le_refl 2)) j2
      refine Nat.le_trans (Nat.le_of_eq ?_) this
      generalize prod (subs (g t)) ^ 4=A
      generalize prod (subsL (us.map g)) ^ 4=B
      generalize 4 ^ us.length=C
      rw[show A*2*2=A*4 by omega,Nat.mul_assoc,Nat.mul_assoc,Nat.mul_left_comm 4,Nat.mul_comm 4 C]
     ·rw[List.map_cons,subsL,List.length_append]
      omega
   ·rw[if_neg h1]at h
    by_cases h2:sees l1 [41]=true
    ·rw[if_pos h2]at h
     cases h
     exact last l l1 t hq h2
    ·rw[if_neg h2]at h;cases h
theorem pH {u:U} (h:subs u=[u]) (ha:ar u=0):xU (subs u) 2 1:=by
 rw[h]
 unfold xU
 rw[prod,prod,ha]
 exact⟨by decide,by simp⟩
theorem GD (sd:Nat):∀(f:Nat) (l:List Tok) (t:Tm) (l1:List Tok),term f l= .inr (t,l1)→∃c,c+l1.length≤l.length∧xU (subs (pG f sd t)) 2 c:=by
 intro f
 induction f with
 | zero=>intro l t l1 h;rw[term]at h;split at h<;>cases h
 | succ f ih=>
  intro l t l1 h
  have hU:pG (f+1) sd t=if t.kind=3 then .v (t.text.toList,sd)else if t.kind=4 then .n 3 [] (numOf t.text:Int) []else .n 1 t.text.toList 0 (t.args.map (pG f sd)):=rfl
  rw[term]at h
  by_cases hb:begins (hd l)=true
  ·rw[if_pos hb]at h
   have hbl:=Dl hb
   by_cases hc:(hd l).kind=4∧6<(hd l).text.size
   ·rw[if_pos hc]at h;cases h
   ·rw[if_neg hc]at h
    by_cases h2:(hd l).kind=2
    ·rw[if_pos h2]at h
     by_cases hs:sees l.tail [40]=true
     ·rw[if_pos hs]at h
      have hsl:=dF hs
      rcases hq:bG (term f) 2 l.tail.tail with x | ⟨us,l2⟩
      ·rw[hq]at h;cases h
      ·rw[hq]at h;cases h
       obtain⟨c,i1,i2,i3⟩:=GC ih _ _ _ _ hq
       have i4:=(AL (Q:=fun _=>True) (fun _ _ _ _=>trivial) _ _ _ _ hq).2
       rw[hU,if_neg (show¬(2:Nat)=3 by decide),if_neg (show¬(2:Nat)=4 by decide)]
       dsimp only
       refine⟨c+2,by omega,?_,?_⟩
       ·rw[subs,prod,ar,List.length_map,Nat.mul_pow,Nat.pow_add]
        have hn:max 1 us.length ^ 4*2≤4 ^ us.length*4:=by
         rcases(show us.length=0∨us.length=1∨us.length=2∨us.length=3 by omega)with q | q | q | q<;>rw[q]<;>decide
        have h5:=Nat.mul_le_mul_left (prod (subsL (us.map (pG f sd))) ^ 4) hn
        have h6:=Nat.mul_le_mul_right 4 i2
        generalize prod (subsL (us.map (pG f sd))) ^ 4=A at*
        generalize max 1 us.length ^ 4=B at*
        generalize 4 ^ us.length=C at*
        rw[Nat.mul_comm B A,Nat.mul_assoc]
        rw[Nat.mul_assoc]at h6
        exact Nat.le_trans h5 h6
       ·rw[subs,List.length_cons]
        omega
     ·rw[if_neg hs]at h;cases h
      rw[hU,if_neg (show¬(2:Nat)=3 by decide),if_neg (show¬(2:Nat)=4 by decide)]
      exact⟨1,by omega,pH (by simp[subs,subsL]) (by simp[ar])⟩
    ·rw[if_neg h2]at h;cases h
     refine⟨1,by omega,?_⟩
     rw[hU]
     split
     ·exact pH (by simp[subs]) rfl
     ·split
      ·exact pH (by simp[subs,subsL]) rfl
      ·exact pH (by simp[subs,subsL]) (by simp[ar])
  ·rw[if_neg hb]at h;cases h
theorem subs_len:∀u,(subs u).length=size u:=by
 refine U.ind (fun x=>by simp[subs,size]) (fun k tx num ss ih=> ?_)
 rw[subs,size,List.length_cons]
 have:∀bs:List U,(∀a∈bs,(subs a).length=size a)→(subsL bs).length=sizeL bs:=by
  intro bs
  induction bs with
  | nil=>intro _;rfl
  | cons b bs ihb=>
   intro hb
   rw[subsL,sizeL,List.length_append,hb b (by simp),ihb fun a ha=>hb a (by simp[ha])]
 rw[this ss ih]
 omega
def fy (T:List Nat) (n:Nat):List Nat:=if n∈T then T else T++[n]
theorem kF (T:List Nat) (n:Nat):(fy T n).length≤T.length+1:=by
 unfold fy
 split<;>simp
structure Wn where
 wt:List Nat
 no:Bool
def Wn.wait (l:Wn) (n:Nat):Wn:=⟨fy l.wt n,l.no⟩
def Wn.bad (l:Wn):Wn:=⟨l.wt,true⟩
def Wn.bI (l:Wn):U→Wn
 | .v x=>l.wait x.2
 | .n ..=>l
theorem Wn.jA (l:Wn) (u:U):(l.bI u).wt.length≤l.wt.length+1:=by
 cases u with
 | v x=>exact kF _ _
 | n k tx num ss=>exact Nat.le_succ _
theorem Wn.iq (l:Wn) (u:U):(l.bI u).no=l.no:=by cases u<;>rfl
mutual
def cmpU:U→U→Wn→Wn
 | .v x,b,l=>match b with
  | .v y=>if x=y then l else(l.wait x.2).wait y.2
  | .n ..=>l.wait x.2
 | .n k tx num ss,b,l=>match b with
  | .v y=>l.wait y.2
  | .n k' tx' num' ss'=>if k=k'∧tx=tx'∧num=num'∧ss.length=ss'.length then cmpUL ss ss' l else l.bad
def cmpUL:List U→List U→Wn→Wn
 | [],_,l=>l
 | a :: ss,bs,l=>match bs with
  | []=>l
  | b :: bs=>cmpUL ss bs (cmpU a b l)
end
theorem mC (x y:Vr) (l:Wn):cmpU (.v x) (.v y) l=if x=y then l else(l.wait x.2).wait y.2:=by rw[cmpU]
theorem ot (x:Vr) (k:Nat) (tx:List UInt8) (num:Int) (ss:List U) (l:Wn):cmpU (.v x) (.n k tx num ss) l=l.wait x.2:=by rw[cmpU]
theorem ou (y:Vr) (k:Nat) (tx:List UInt8) (num:Int) (ss:List U) (l:Wn):cmpU (.n k tx num ss) (.v y) l=l.wait y.2:=by rw[cmpU]
theorem kU (k k':Nat) (tx tx':List UInt8) (num num':Int) (ss ss':List U) (l:Wn):cmpU (.n k tx num ss) (.n k' tx' num' ss') l=if k=k'∧tx=tx'∧num=num'∧ss.length=ss'.length then cmpUL ss ss' l else l.bad:=by rw[cmpU]
theorem jn (bs:List U) (l:Wn):cmpUL [] bs l=l:=by rw[cmpUL]
theorem kV (ss:List U) (l:Wn):cmpUL ss [] l=l:=by cases ss<;>rw[cmpUL]
theorem fZ (a b:U) (ss bs:List U) (l:Wn):cmpUL (a :: ss) (b :: bs) l=cmpUL ss bs (cmpU a b l):=by rw[cmpUL]
theorem cmpUL_take:∀(ss bs:List U) (l:Wn) {j:Nat} (h:j<ss.length) (h':j<bs.length),cmpUL (ss.take (j+1)) (bs.take (j+1)) l=cmpU ss[j] bs[j] (cmpUL (ss.take j) (bs.take j) l)
 | a :: ss,b :: bs,l,0,_,_=>by simp[cmpUL]
 | a :: ss,b :: bs,l,j+1,h,h'=>by
  rw[List.take_succ_cons,List.take_succ_cons,fZ,cmpUL_take ss bs (cmpU a b l) (by simpa using h) (by simpa using h'),List.take_succ_cons,List.take_succ_cons,fZ]
  rfl
theorem cmpU_self:∀(u:U) (l:Wn),cmpU u u l=l:=by
 refine U.ind (fun x l=> ?_) (fun k tx num ss ih l=> ?_)
 ·rw[mC,if_pos rfl]
 ·rw[kU,if_pos ⟨rfl,rfl,rfl,rfl⟩]
  have:∀(bs:List U) (l:Wn),(∀a∈bs,∀l,cmpU a a l=l)→cmpUL bs bs l=l:=by
   intro bs
   induction bs with
   | nil=>intro l _;exact jn _ _
   | cons b bs ihb=>
    intro l hb
    rw[fZ,hb b (by simp),ihb l fun a ha=>hb a (by simp[ha])]
  exact this ss l ih
theorem cmpU_len:∀(u v:U) (l:Wn),(cmpU u v l).wt.length≤l.wt.length+2*size u:=by
 refine U.ind (fun x v l=> ?_) (fun k tx num ss ih v l=> ?_)
 ·rw[size]
  cases v with
  | v y=>
   rw[mC]
   split
   ·omega
   ·have h1:=kF l.wt x.2
    have h2:=kF (fy l.wt x.2) y.2
    show (fy (fy l.wt x.2) y.2).length≤_
    omega
  | n k tx num ss=>
   rw[ot]
   have:=kF l.wt x.2
   show (fy l.wt x.2).length≤_
   omega
 ·rw[size]
  cases v with
  | v y=>
   rw[ou]
   have:=kF l.wt y.2
   show (fy l.wt y.2).length≤_
   omega
  | n k' tx' num' ss'=>
   rw[kU]
   split
   ·have:∀(bs cs:List U) (l:Wn),(∀a∈bs,∀v l,(cmpU a v l).wt.length≤l.wt.length+2*size a)→(cmpUL bs cs l).wt.length≤l.wt.length+2*sizeL bs:=by
     intro bs
     induction bs with
     | nil=>intro cs l _;rw[jn];omega
     | cons b bs ihb=>
      intro cs l hb
      cases cs with
      | nil=>rw[kV];omega
      | cons c cs=>
       have h1:=hb b (by simp) c l
       have h2:=ihb cs (cmpU b c l) fun a ha=>hb a (by simp[ha])
       rw[fZ,sizeL]
       omega
    have:=this ss ss' l ih
    omega
   ·show l.wt.length≤_
    omega
theorem GF (ss bs:List U) (l:Wn):(cmpUL ss bs l).wt.length≤l.wt.length+2*sizeL ss:=by
 induction ss generalizing bs l with
 | nil=>rw[jn];omega
 | cons a ss ih=>
  cases bs with
  | nil=>rw[kV];omega
  | cons b bs=>
   have h1:=cmpU_len a b l
   have h2:=ih bs (cmpU a b l)
   rw[fZ,sizeL]
   omega
theorem sizeL_takeR:∀(ss:List U) {j:Nat} (h:j<ss.length),sizeL (ss.take (j+1))=sizeL (ss.take j)+size ss[j]
 | a :: ss,0,h=>by simp[sizeL]
 | a :: ss,j+1,h=>by
  rw[List.take_succ_cons,List.take_succ_cons,sizeL,sizeL,sizeL_takeR ss (by simpa using h)]
  simp
  omega
theorem sizeL_take_leR:∀(ss:List U) (j:Nat),sizeL (ss.take j)≤sizeL ss
 | [],j=>by simp
 | a :: ss,0=>by simp[sizeL]
 | a :: ss,j+1=>by
  rw[List.take_succ_cons,sizeL,sizeL]
  have:=sizeL_take_leR ss j
  omega
theorem J7 {u v:U} (l:Wn) (h:pC u=true∨pC v=true) (hn:∀x,u= .v x→v≠ .v x):cmpU u v l=(l.bI u).bI v:=by
 cases u with
 | v x=>
  cases v with
  | v y=>
   rw[mC,if_neg (fun e=>hn x rfl (by rw[e]))]
   rfl
  | n k tx num ss=>rw[ot];rfl
 | n k tx num ss=>
  cases v with
  | v y=>rw[ou];rfl
  | n k' tx' num' ss'=>rcases h with h | h<;>cases h
theorem J9 {k k':Nat} {tx tx':List UInt8} {num num':Int} {ss ss':List U} (l:Wn) (h:¬(k=k'∧tx=tx'∧num=num'∧ss.length=ss'.length)):cmpU (.n k tx num ss) (.n k' tx' num' ss') l=l.bad:=by
 rw[kU,if_neg h]
theorem GH {k:Nat} {tx:List UInt8} {num:Int} {ss ss':List U} (l:Wn) (h:ss.length=ss'.length):cmpU (.n k tx num ss) (.n k tx num ss') l=cmpUL ss ss' l:=by
 rw[kU,if_pos ⟨rfl,rfl,rfl,h⟩]
structure bF where
 st:List (List UInt8×U)
 w:Wn
def bF.meet (l:bF) (x:List UInt8) (u:U):bF:=match l.st.find? (fun q=>q.1 == x)with
 | some q=>⟨l.st,cmpU q.2 u l.w⟩
 | Option.none=>⟨l.st++[(x,u)],l.w⟩
def gJ (p:Tm):Nat×List UInt8×Int:=if p.kind=4 then(3,[],(numOf p.text:Int))else(1,p.text.toList,0)
def cF (g:Tm→U→bF→bF):List Tm→List U→bF→bF
 | p :: ps,u :: us,l=>cF g ps us (g p u l)
 | _,_,l=>l
def matU:Nat→Tm→U→bF→bF
 | 0,_,_,l=>l
 | f+1,p,u,l=>if p.kind=3 then l.meet p.text.toList u else match u with
  | .v x=>⟨l.st,l.w.wait x.2⟩
  | .n k tx num ss=>if gJ p=(k,tx,num)∧p.args.length=ss.length then cF (matU f) p.args ss l else⟨l.st,l.w.bad⟩
theorem yQ (g:Tm→U→bF→bF):∀(ps:List Tm) (us:List U) (l:bF) {j:Nat} (h:j<ps.length) (h':j<us.length),cF g (ps.take (j+1)) (us.take (j+1)) l=g ps[j] us[j] (cF g (ps.take j) (us.take j) l)
 | p :: ps,u :: us,l,0,_,_=>by simp[cF]
 | p :: ps,u :: us,l,j+1,h,h'=>by
  rw[List.take_succ_cons,List.take_succ_cons,cF,yQ g ps us (g p u l) (by simpa using h) (by simpa using h'),List.take_succ_cons,List.take_succ_cons,cF]
  rfl
theorem mD {f:Nat} {p:Tm} (u:U) (l:bF) (h:p.kind=3):matU (f+1) p u l=l.meet p.text.toList u:=by unfold matU;rw[if_pos h]
theorem kW {f:Nat} {p:Tm} (x:Vr) (l:bF) (h:p.kind≠3):matU (f+1) p (.v x) l=⟨l.st,l.w.wait x.2⟩:=by unfold matU;rw[if_neg h]
theorem mE {f:Nat} {p:Tm} {k:Nat} {tx:List UInt8} {num:Int} {ss:List U} (l:bF) (h:p.kind≠3) (hr:¬(gJ p=(k,tx,num)∧p.args.length=ss.length)):matU (f+1) p (.n k tx num ss) l=⟨l.st,l.w.bad⟩:=by
 unfold matU
 rw[if_neg h]
 dsimp only
 rw[if_neg hr]
theorem kX {f:Nat} {p:Tm} {k:Nat} {tx:List UInt8} {num:Int} {ss:List U} (l:bF) (h:p.kind≠3) (hr:gJ p=(k,tx,num)∧p.args.length=ss.length):matU (f+1) p (.n k tx num ss) l=cF (matU f) p.args ss l:=by
 unfold matU
 rw[if_neg h]
 dsimp only
 rw[if_pos hr]
def bF.sm (B:Nat) (l:bF):Prop:=∀q∈l.st,size q.2≤B
theorem bF.NR {B:Nat} {l:bF} (h:l.sm B) (x:List UInt8) {u:U} (hu:size u≤B):(l.meet x u).sm B∧(l.meet x u).w.wt.length≤l.w.wt.length+2*B:=by
 unfold bF.meet
 cases hq:l.st.find? (fun q=>q.1 == x)with
 | none=>
  refine⟨fun q hm=> ?_,?_⟩
  ·rcases List.mem_append.1 hm with hm | hm
   ·exact h q hm
   ·rw[List.mem_singleton.1 hm];exact hu
  ·dsimp only;omega
 | some q=>
  have hs:=h q (List.mem_of_find?_eq_some hq)
  have:=cmpU_len q.2 u l.w
  exact⟨h,by dsimp only;omega⟩
theorem xV {g:Tm→U→bF→bF} {B c:Nat}:∀(ps:List Tm) (us:List U) (l:bF),(∀p∈ps,∀u∈us,∀l:bF,l.sm B→(g p u l).sm B∧(g p u l).w.wt.length≤l.w.wt.length+c)→l.sm B→(cF g ps us l).sm B∧(cF g ps us l).w.wt.length≤l.w.wt.length+ps.length*c
 | p :: ps,u :: us,l,hg,h=>by
  obtain⟨h1,h2⟩:=hg p (by simp) u (by simp) l h
  obtain⟨h3,h4⟩:=xV ps us (g p u l) (fun q hq v hv=>hg q (by simp[hq]) v (by simp[hv])) h1
  rw[cF]
  refine⟨h3,?_⟩
  rw[List.length_cons,Nat.add_mul,Nat.one_mul]
  omega
 | [],[],l,_,h=>⟨h,by simp[cF]⟩
 | [],_ :: _,l,_,h=>⟨h,by simp[cF]⟩
 | _ :: _,[],l,_,h=>⟨h,by simp[cF]⟩
theorem tW {B:Nat}:∀(f:Nat) (p:Tm) (u:U) (l:bF),wfK f p→size u≤B→1≤B→l.sm B→(matU f p u l).sm B∧(matU f p u l).w.wt.length≤l.w.wt.length+2*B*3 ^ f
 | f+1,p,u,l,hp,hu,hB,h=>by
  have h3:1≤3 ^ f:=Nat.one_le_pow _ _ (by omega)
  have e3:2*B*3 ^ (f+1)=3*(2*B*3 ^ f):=by rw[Nat.pow_succ];rw[←Nat.mul_assoc,Nat.mul_comm]
  have hm:2*B≤2*B*3 ^ f:=Nat.le_mul_of_pos_right _ h3
  by_cases k:p.kind=3
  ·rw[mD u l k]
   obtain⟨h1,h2⟩:=bF.NR h p.text.toList hu
   exact⟨h1,by omega⟩
  ·cases u with
   | v x=>
    rw[kW x l k]
    refine⟨h,?_⟩
    have:=kF l.w.wt x.2
    show (fy l.w.wt x.2).length≤_
    omega
   | n kk tx num ss=>
    by_cases hr:gJ p=(kk,tx,num)∧p.args.length=ss.length
    ·rw[kX l k hr]
     obtain⟨h1,h2⟩:=xV (g:=matU f) (B:=B) (c:=2*B*3 ^ f) p.args ss l (fun q hq v hv l hl=>tW f q v l (hp.2.2.2 q hq) (by rw[size]at hu;have:=iG hv;omega) hB hl) h
     refine⟨h1,Nat.le_trans h2 ?_⟩
     have:=Nat.mul_le_mul_right (2*B*3 ^ f) hp.2.2.1
     omega
    ·rw[mE l k hr]
     exact⟨h,by show l.w.wt.length≤_;omega⟩
def Wn.none:Wn:=⟨[],false⟩
def Wn.says (l:Wn):Nat:=if l.no=true then 2 else if l.wt=[]then 1 else 3
def Wn.also (l m:Wn):Wn:=⟨m.wt.foldl fy l.wt,l.no||m.no⟩
def lF (u v:U):Wn:=cmpU u v Wn.none
def qp (u v:U):Wn:=if(lF u v).says=1 then⟨[],true⟩else if(lF u v).says=2 then Wn.none else lF u v
def tsInt:U→Wn
 | .v x=>⟨[x.2],false⟩
 | .n k _ _ _=>⟨[],decide (k≠3)⟩
def isNum:U→Option Int
 | .v _=>Option.none
 | .n k _ num _=>if k=3 then some num else Option.none
def ES (eq:Bool) (u v:U):Bool:=match isNum u,isNum v with
 | some a,some b=>decide (a<b)||(eq&&decide (a=b))
 | _,_=>false
def wN (eq:Bool) (u v:U):Wn:=if((Wn.none.bI u).bI v).wt=[]then⟨[],!(ES eq u v)⟩else(Wn.none.bI u).bI v
theorem foldV_len:∀(xs ws:List Nat),(xs.foldl fy ws).length≤ws.length+xs.length
 | [],ws=>by simp
 | x :: xs,ws=>by
  have h1:=foldV_len xs (fy ws x)
  have h2:=kF ws x
  rw[List.foldl_cons,List.length_cons]
  omega
theorem wO (u v:U):(lF u v).wt.length≤2*size u:=by
 have:=cmpU_len u v Wn.none
 unfold lF
 simpa [Wn.none] using this
theorem Dm (u v:U):(qp u v).wt.length≤2*size u:=by
 unfold qp
 split
 ·simp
 ·split
  ·simp[Wn.none]
  ·exact wO u v
theorem GI (eq:Bool) (u v:U):(wN eq u v).wt.length≤2:=by
 unfold wN
 split
 ·simp
 ·have h1:=Wn.jA (Wn.none.bI u) v
  have h2:=Wn.jA Wn.none u
  simp only[Wn.none,List.length_nil]at h1 h2⊢
  omega
theorem GJ (u:U):(tsInt u).wt.length≤1:=by cases u<;>simp[tsInt]
theorem gQ {η θ:List UInt8→U} (f:Nat) (t:Tm) (ns:List (List UInt8)) (hw:wfK f t) (h:∀y∈namesF f ns t,η y=θ y):bA η f t=bA θ f t:=by
 rw[tU η 0 f t hw,tU θ 0 f t hw]
 exact sub_congr _ fun x hx=>h _ ((DI 0 f t hw hx).2 ns)
theorem AW {B:Nat}:∀(us:List U),(∀u∈us,2*size u+1≤B)→2*sizeL us+us.length≤us.length*B
 | [],_=>by simp[sizeL]
 | u :: us,h=>by
  have h1:=h u (by simp)
  have h2:=AW us fun v hv=>h v (by simp[hv])
  have h3:(us.length+1)*B=us.length*B+B:=Nat.succ_mul _ _
  rw[sizeL,List.length_cons,h3]
  omega
theorem AX {η:List UInt8→U} {B:Nat} (hB:1≤B) (hη:∀y,size (η y)≤B):∀(f:Nat) (t:Tm),wfK f t→2*size (bA η f t)+1≤B*3 ^ f
 | 0,_,h=>h.elim
 | f+1,t,⟨h1,h2,h3,h4⟩=>by
  have hp:1≤3 ^ f:=Nat.one_le_pow _ _ (by omega)
  have hq:B≤B*3 ^ f:=Nat.le_mul_of_pos_right _ hp
  have hs:B*3 ^ (f+1)=3*(B*3 ^ f):=by rw[Nat.pow_succ,←Nat.mul_assoc,Nat.mul_comm]
  rw[hs]
  unfold bA
  split
  ·have:=hη t.text.toList
   omega
  ·split
   ·simp only[size,sizeL]
    omega
   ·have q:=AW (B:=B*3 ^ f) (t.args.map (bA η f)) (fun u hu=>by
     obtain⟨a,ha,rfl⟩:=List.mem_map.1 hu
     exact AX hB hη f a (h4 a ha))
    rw[List.length_map]at q
    simp only[size]
    have hl:t.args.length=0∨t.args.length=1∨t.args.length=2∨t.args.length=3:=by omega
    rcases hl with e | e | e | e<;>rw[e]at q<;>omega
def dx (η:List UInt8→U) (x:aC):Wn:=match x.right with
 | Option.none=>(match (bA η 8 x.left)with
  | .n _ _ _ [u]=>tsInt u
  | _=>Wn.none)
 | some r=>if x.sign=[61,61]then lF (bA η 8 x.left) (bA η 8 r)else if x.sign=[92,61]then qp (bA η 8 x.left) (bA η 8 r)else wN (decide (x.sign=[61,60])) (bA η 8 x.left) (bA η 8 r)
structure gZ (x:aC):Prop where
 wl:wfK 8 x.left
 wr:∀r,x.right=some r→wfK 8 r
 no:x.right=none→x.sign=[]∧x.left.kind=2∧x.left.args.length=1
 yes:∀r,x.right=some r→x.sign=[61,61]∨x.sign=[92,61]∨x.sign=[61,60]∨x.sign=[60]
 la:x.last=none
def Wn.yes (l:Wn):Prop:=l.wt=[]∧l.no=false
theorem Wn.AY (l:Wn):l.says=1↔l.yes:=by
 obtain⟨wt,no⟩:=l
 unfold Wn.says Wn.yes
 cases no<;>by_cases h:wt=[]<;>simp[h]
theorem NS (T:List Nat) (n:Nat):fy T n≠[]:=by
 unfold fy
 split
 ·rename_i h;intro e;rw[e]at h;cases h
 ·simp
theorem Wn.qP {l:Wn} {n:Nat} (h:(l.wait n).yes):False:=NS _ _ h.1
theorem Wn.DJ {l:Wn} (h:l.bad.yes):False:=by cases h.2
theorem cmpU_yes:∀(u v:U) (l:Wn),(cmpU u v l).yes→l.yes:=by
 refine U.ind (fun x v l=> ?_) (fun k tx num ss ih v l=> ?_)
 ·cases v with
  | v y=>
   rw[mC]
   split
   ·exact id
   ·exact fun h=>(Wn.qP h).elim
  | n k tx num ss=>rw[ot];exact fun h=>(Wn.qP h).elim
 ·cases v with
  | v y=>rw[ou];exact fun h=>(Wn.qP h).elim
  | n k' tx' num' ss'=>
   rw[kU]
   split
   ·have:∀(bs cs:List U) (l:Wn),(∀a∈bs,∀v l,(cmpU a v l).yes→l.yes)→(cmpUL bs cs l).yes→l.yes:=by
     intro bs
     induction bs with
     | nil=>intro cs l _;rw[jn];exact id
     | cons b bs ihb=>
      intro cs l hb
      cases cs with
      | nil=>rw[kV];exact id
      | cons c cs=>
       rw[fZ]
       exact fun h=>hb b (by simp) c l (ihb cs _ (fun a ha=>hb a (by simp[ha])) h)
    exact this ss ss' l ih
   ·exact fun h=>(Wn.DJ h).elim
def bF.keys (l:bF):List (List UInt8):=l.st.map Prod.fst
theorem bF.Ka {l:bF} {x:List UInt8} {u:U} (h:(l.meet x u).w.yes):l.w.yes∧(∀y∈l.keys,y∈(l.meet x u).keys)∧x∈(l.meet x u).keys:=by
 unfold bF.meet at h⊢
 cases q:l.st.find? (fun q=>q.1 == x)with
 | some r=>
  rw[q]at h
  refine⟨cmpU_yes _ _ _ h,fun y hy=>hy,?_⟩
  have h1:=List.mem_of_find?_eq_some q
  have h2:=List.find?_some q
  exact List.mem_map.2 ⟨r,h1,by simpa using h2⟩
 | none=>
  rw[q]at h
  refine⟨h,fun y hy=> ?_,?_⟩
  ·unfold bF.keys at hy⊢
   dsimp only
   rw[List.map_append]
   exact List.mem_append_left _ hy
  ·unfold bF.keys
   dsimp only
   rw[List.map_append]
   exact List.mem_append_right _ (by simp)
def Pg (f:Nat):Prop:=∀(p:Tm) (u:U) (l:bF),wfK f p→(matU f p u l).w.yes→l.w.yes∧(∀y∈l.keys,y∈(matU f p u l).keys)∧∀ns,∀x∈namesF f ns p,x∈ns∨x∈(matU f p u l).keys
theorem DK {f:Nat} (IH:Pg f):∀(ps:List Tm) (us:List U) (l:bF),ps.length=us.length→(∀p∈ps,wfK f p)→(cF (matU f) ps us l).w.yes→l.w.yes∧(∀y∈l.keys,y∈(cF (matU f) ps us l).keys)∧∀ns,∀x∈ps.foldl (namesF f) ns,x∈ns∨x∈(cF (matU f) ps us l).keys
 | [],[],l,_,_,h=>⟨h,fun _ hy=>hy,fun ns x hx=>Or.inl hx⟩
 | p :: ps,u :: us,l,hl,hw,h=>by
  rw[cF]at h⊢
  obtain⟨h1,h2,h3⟩:=DK IH ps us (matU f p u l) (by simpa using hl) (fun q hq=>hw q (by simp[hq])) h
  obtain⟨k1,k2,k3⟩:=IH p u l (hw p (by simp)) h1
  refine⟨k1,fun y hy=>h2 y (k2 y hy),fun ns x hx=> ?_⟩
  rw[List.foldl_cons]at hx
  rcases h3 _ x hx with q | q
  ·rcases k3 ns x q with r | r
   ·exact Or.inl r
   ·exact Or.inr (h2 x r)
  ·exact Or.inr q
theorem mat_yes:∀f,Pg f
 | 0,_,_,_,h,_=>h.elim
 | f+1,p,u,l,hw,h=>by
  obtain⟨w1,w2,w3,w4⟩:=hw
  by_cases kp:p.kind=3
  ·rw[mD u l kp]at h⊢
   obtain⟨h1,h2,h3⟩:=bF.Ka h
   refine⟨h1,h2,fun ns x hx=> ?_⟩
   rw[namesF,if_pos kp]at hx
   unfold cW at hx
   split at hx
   ·exact Or.inl hx
   ·rcases List.mem_append.1 hx with q | q
    ·exact Or.inl q
    ·rw[List.mem_singleton.1 q];exact Or.inr h3
  ·cases u with
   | v x=>rw[kW x l kp]at h;exact(Wn.qP h).elim
   | n k tx num ss=>
    by_cases hr:gJ p=(k,tx,num)∧p.args.length=ss.length
    ·rw[kX l kp hr]at h⊢
     obtain⟨h1,h2,h3⟩:=DK (mat_yes f) p.args ss l hr.2 w4 h
     refine⟨h1,h2,fun ns x hx=> ?_⟩
     rw[namesF,if_neg kp]at hx
     split at hx
     ·exact Or.inl hx
     ·exact h3 ns x hx
    ·rw[mE l kp hr]at h;exact(Wn.DJ h).elim
def AZ (N:List (List UInt8)):Nat→Tm→Prop
 | 0,_=>True
 | f+1,t=>if t.kind=3 then t.text.toList∈N else if t.kind=4 then True else∀a∈t.args,AZ N f a
theorem si {N:List (List UInt8)}:∀(f:Nat) (t:Tm) (ns:List (List UInt8)),(∀y∈namesF f ns t,y∈N)→AZ N f t
 | 0,_,_,_=>trivial
 | f+1,t,ns,h=>by
  unfold AZ
  unfold namesF at h
  by_cases h3:t.kind=3
  ·rw[if_pos h3]at h⊢
   refine h _ ?_
   unfold cW
   split
   ·assumption
   ·simp
  ·rw[if_neg h3]at h⊢
   by_cases h4:t.kind=4
   ·rw[if_pos h4];trivial
   ·rw[if_neg h4]at h⊢
    have fold:∀(ts:List Tm) (ns:List (List UInt8)),(∀y∈ts.foldl (namesF f) ns,y∈N)→∀a∈ts,AZ N f a:=by
     intro ts
     induction ts with
     | nil=>intro ns _ a ha;cases ha
     | cons u ts ih=>
      intro ns hn a ha
      rw[List.foldl_cons]at hn
      rcases List.mem_cons.1 ha with rfl | ha
      ·refine si f a ns fun y hy=>hn y ?_
       obtain⟨K,hK⟩:=qM f ts (namesF f ns a)
       rw[hK]
       exact List.mem_append_left _ hy
      ·exact ih _ hn a ha
    exact fold t.args ns h
structure eO (a b:U) (σ:Vr→U):Prop where
 one:sub σ a=sub σ b
 most:∀θ,sub θ a=sub θ b→∀x,sub θ (σ x)=θ x
 low:∀x y,σ x= .v y→y.1=x.1∧y.2≤x.2
theorem Made.Ph {G:List Gn} {fr fr':Nat→Nat} {T T':Nat→U} {a b:U} {σ:Vr→U} (h:Made G fr fr' T T' a b σ):eO a b σ:=⟨h.one,h.most,h.low⟩
theorem eO.idem {a b:U} {σ:Vr→U} (h:eO a b σ) (x:Vr):sub σ (σ x)=σ x:=h.most σ h.one x
theorem eO.fix {a b:U} {σ:Vr→U} (h:eO a b σ) {x y:Vr} (hy:has y (σ x)):σ y= .v y:=DG _ (h.idem x) y hy
theorem eO.uniq {a b:U} {σ τ:Vr→U} (h:eO a b σ) (k:eO a b τ):∀x,σ x=τ x:=fun x=>by
 have h1:=k.idem x
 have h2:=h.most τ k.one x
 rw[←h2]
 rw[sub_congr (τ:= .v) (σ x) (fun y hy=> ?_),sub_self]
 have e:=h.fix hy
 have q:=k.most σ h.one y
 cases hz:τ y with
 | n kk tx num ss=>rw[hz,dI,e]at q;cases q
 | v z=>
  rw[hz]at q
  have q':σ z=σ y:=q
  rw[e]at q'
  have l1:=h.low z y q'
  have l2:=k.low y z hz
  congr 1
  exact Prod.ext l2.1 (by omega)
theorem eO.vars {a b:U} {σ:Vr→U} (h:eO a b σ) {x z:Vr} (hz:has z (σ x)):z=x∨has z a∨has z b:=by
 apply Classical.byContradiction
 intro hn
 have n1:z≠x:=fun q=>hn (Or.inl q)
 have n2:¬has z a:=fun q=>hn (Or.inr (Or.inl q))
 have n3:¬has z b:=fun q=>hn (Or.inr (Or.inr q))
 let θ:Vr→U:=fun y=>if y=z then .n 9 [] 0 [σ z]else σ y
 have ha:sub θ a=sub σ a:=sub_congr a fun y hy=>if_neg fun q=>n2 (by rwa [q]at hy)
 have hb:sub θ b=sub σ b:=sub_congr b fun y hy=>if_neg fun q=>n3 (by rwa [q]at hy)
 have q:=h.most θ (by rw[ha,hb,h.one]) x
 have e:θ x=σ x:=if_neg (Ne.symm n1)
 rw[e]at q
 have:=DG _ q z hz
 have e2:θ z= .n 9 [] 0 [σ z]:=if_pos rfl
 rw[e2]at this
 cases this
theorem eO.ren {a b:U} {σ τ:Vr→U} {ρ:Vr→Vr} {Q:Vr→Prop} (h:eO a b σ) (hi:∀x y,Q x→Q y→ρ x=ρ y→x=y) (hm:∀x y,Q x→Q y→y.1=x.1→y.2≤x.2→(ρ y).1=(ρ x).1∧(ρ y).2≤(ρ x).2) (ha:∀x,has x a→Q x) (hb:∀x,has x b→Q x) (k:eO (sub (ren ρ) a) (sub (ren ρ) b) τ):∀u,(∀x,has x u→Q x)→sub τ (sub (Za.ren ρ) u)=sub (Za.ren ρ) (sub σ u):=by
 classical
 let σ':Vr→U:=fun y=>if q:∃x,Q x∧ρ x=y then sub (Za.ren ρ) (σ (Classical.choose q))else .v y
 have hat:∀x,Q x→σ' (ρ x)=sub (Za.ren ρ) (σ x):=fun x hx=>by
  have q:∃z,Q z∧ρ z=ρ x:=⟨x,hx,rfl⟩
  have e:σ' (ρ x)=sub (Za.ren ρ) (σ (Classical.choose q)):=dif_pos q
  rw[e,hi _ _ (Classical.choose_spec q).1 hx (Classical.choose_spec q).2]
 have hu:∀u,(∀x,has x u→Q x)→sub σ' (sub (Za.ren ρ) u)=sub (Za.ren ρ) (sub σ u):=fun u hu=>by
  rw[sub_sub,sub_sub]
  exact sub_congr u fun x hx=>hat x (hu x hx)
 have hl:eO (sub (Za.ren ρ) a) (sub (Za.ren ρ) b) σ':=by
  refine⟨by rw[hu a ha,hu b hb,h.one],fun θ e y=> ?_,fun y w e=> ?_⟩
  ·rw[sub_sub,sub_sub]at e
   by_cases q:∃x,Q x∧ρ x=y
   ·obtain⟨x,hx,rfl⟩:=q
    rw[hat x hx,sub_sub]
    exact h.most _ e x
   ·have:σ' y= .v y:=dif_neg q
    rw[this]
    rfl
  ·by_cases q:∃x,Q x∧ρ x=y
   ·obtain⟨x,hx,rfl⟩:=q
    rw[hat x hx]at e
    cases hs:σ x with
    | n kk tx num ss=>rw[hs,dI]at e;cases e
    | v z=>
     rw[hs]at e
     have e':U.v (ρ z)= .v w:=e
     injection e' with e'
     subst e'
     have hz:Q z:=by
      rcases h.vars (x:=x) (z:=z) (by rw[hs];exact rfl)with q | q | q
      ·rw[q];exact hx
      ·exact ha z q
      ·exact hb z q
     have:=h.low x z hs
     exact hm x z hx hz this.1 this.2
   ·have:σ' y= .v y:=dif_neg q
    rw[this]at e
    injection e with e
    subst e
    exact⟨rfl,Nat.le_refl _⟩
 intro u hq
 rw[←hu u hq]
 exact sub_congr _ fun x _=>k.uniq hl x
end Za
