import Derived.Test.YthfjnfcekeknlaaGreatDoorSu40
import Derived.Test.YthfjnfcekeknlaaGreatDoorSu42
import Derived.Test.YthfjnfcekeknlaaGreatDoorSu43
set_option maxHeartbeats 8000000
set_option maxRecDepth 100000
namespace Za
open Go.Proofs.YthfjnfcekeknlaaGreatDoor (dL gY)
theorem zV {f:Nat→Nat}:∀n:Nat,(∃t,t<n∧f t=1)→∃t,t<n∧f t=1∧∀t',t'<t→f t'≠1
 | 0,⟨t,h,_⟩=>absurd h (Nat.not_lt_zero _)
 | n+1,⟨t,h,e⟩=>by
  by_cases q:∃t,t<n∧f t=1
  ·obtain⟨t,h1,h2,h3⟩:=zV n q
   exact⟨t,by omega,h2,h3⟩
  ·refine⟨t,h,e,fun t' nu e'=>q ⟨t',by omega,e'⟩⟩
theorem uv {n bg t:Nat} (hn:0<n):gY (List.range n) bg t=(bg+t) % n:=by
 unfold gY
 rw[List.length_range,List.getElem?_range (Nat.mod_lt _ hn)]
 rfl
theorem OG {n bg k:Nat} (hb:bg<n) (hk:k<n):∃t,t<n∧(bg+t) % n=k:=by
 by_cases q:bg≤k
 ·exact⟨k - bg,by omega,by rw[show bg+(k - bg)=k by omega,Nat.mod_eq_of_lt hk]⟩
 ·refine⟨k+n - bg,by omega,?_⟩
  rw[show bg+(k+n - bg)=k+n by omega,Nat.add_mod_right,Nat.mod_eq_of_lt hk]
theorem C3 {cls:List aL} {tx:List UInt8} {us:List U} (hown:cC cls tx us.length cls.length=List.range cls.length) {S:MS} {i:Nat} {g:MG} (hg:S.gs[i]?=some g) (aW:g.sg=[]) (ha:g.a= .n 1 tx 0 us) (tY:tx≠[116,114,117,101]) (p:Int) (hy:∃(k:Nat) (c:aL),cls[k]?=some c∧(bY S.lim g.a c).1=1):
 ∃(k:Nat) (c:aL),cls[k]?=some c∧(bY S.lim g.a c).1=1∧∀(F:List Nat) (S':MS),F.length+(NH c).length=(NG c).length→F.Pairwise (·<·)→(∀f∈F,S.lim≤f∧f<S'.lim)→S.lim≤S'.lim→S'.vs=S.vs→S'.gs=S.gs.eraseIdx i++c.goals.map (MG.of (cM g.a c fun k=>(F[k]?).getD 0))→kV cls S S' i p ((k+1:Nat):Int):=by
 obtain⟨k0,c0,hc0,fA⟩:=hy
 have XX:k0<cls.length:=(List.getElem?_eq_some_iff.1 hc0).1
 have hn:0<cls.length:=by omega
 let f:Nat→Nat:=fun t=>match cls[(dL p cls.length+t) % cls.length]? with
  | some c=>(bY S.lim g.a c).1
  | none=>0
 obtain⟨t0,h1,h2⟩:=OG (Go.Proofs.YthfjnfcekeknlaaGreatDoor.tX p cls.length hn) XX
 obtain⟨t,h3,h4,h5⟩:=zV (f:=f) cls.length ⟨t0,h1,by show (match cls[(dL p cls.length+t0) % cls.length]? with | some c=>(bY S.lim g.a c).1 | none=>0)=1;rw[h2,hc0];exact fA⟩
 have M5:(dL p cls.length+t) % cls.length<cls.length:=Nat.mod_lt _ hn
 have gf:=List.getElem?_eq_getElem M5
 have h4':(bY S.lim g.a cls[(dL p cls.length+t) % cls.length]).1=1:=by
  have h4':(match cls[(dL p cls.length+t) % cls.length]? with | some c=>(bY S.lim g.a c).1 | none=>0)=1:=h4
  rw[gf]at h4'
  exact h4'
 refine⟨(dL p cls.length+t) % cls.length,_,gf,h4',fun F S' q1 q2 q3 q4 q5 q6=>⟨q4,g,hg,Or.inr (Or.inr (Or.inr (Or.inr (Or.inl ⟨cls.length,_,⟨aW,tx,us,ha,fun q=>tY q.1,by rw[hown,List.length_range],rfl⟩,t,_,F,h3,fun t' c' nu hc'=> ?_,?_,h4',?_,q1,q2,q3,q5,q6⟩))))⟩⟩
 ·rw[hown,uv hn]at hc'
  have:=h5 t' nu
  have e:f t'=(bY S.lim g.a c').1:=by
   show (match cls[(dL p cls.length+t') % cls.length]? with | some c=>(bY S.lim g.a c).1 | none=>0)=_
   rw[hc']
  rw[←e];exact this
 ·rw[hown,uv hn];exact gf
 ·rw[hown,uv hn]
theorem names_tL:∀(l:List Nat) (f:Nat) (ns:List (List UInt8)),namesF f ns (tL l)=ns
 | _,0,ns=>by unfold namesF;rfl
 | [],f+1,ns=>by unfold namesF;rfl
 | d :: l,f+1,ns=>by
  unfold namesF
  show namesF f (namesF f ns (tD d)) (tL l)=ns
  have:namesF f ns (tD d)=ns:=by
   cases f with
   | zero=>unfold namesF;rfl
   | succ f=>unfold namesF;rfl
  rw[this]
  exact names_tL l f ns
theorem Su (f:Nat):gu idS (f+1) tNil:=ok_L [] (f+1) (fun d hd=>by cases hd) (by simp)
theorem Wb {f:Nat} {a b:Tm} (ha:gu idS f a) (hb:gu idS f b):gu idS (f+1) (tC a b):=Gq (x:=[99]) (rQ (by simp) (by decide)) (by simp) (fun t ht=>by
 simp only[List.mem_cons,List.not_mem_nil,or_false]at ht
 rcases ht with rfl | rfl
 ·exact ha
 ·exact hb)
theorem Gs {x:List UInt8} {f:Nat} {a b c:Tm} (hx:jP 2 x) (ha:gu idS f a) (hb:gu idS f b) (hc:gu idS f c):gu idS (f+1) (tF x a b c):=Gq hx (by simp) (fun t ht=>by
 simp only[List.mem_cons,List.not_mem_nil,or_false]at ht
 rcases ht with rfl | rfl | rfl
 ·exact ha
 ·exact hb
 ·exact hc)
theorem Sw (f:Nat):bp idS (f+1) tNil=[110]:=C0 f [110] []
theorem Ta (f:Nat) (a b:Tm):bp idS (f+1) (tC a b)=[99,40]++(bp idS f a++([44]++(bp idS f b++[41]))):=by
 refine(C0 f [99] [a,b]).trans ?_
 simp[arS]
theorem Gt (f:Nat) (x:List UInt8) (a b c:Tm):bp idS (f+1) (tF x a b c)=x++([40]++(bp idS f a++([44]++(bp idS f b++([44]++(bp idS f c++[41])))))):=by
 refine(C0 f x [a,b,c]).trans ?_
 simp[arS]
theorem none_says:Wn.none.says=1:=rfl
theorem JC {lim:Nat} {u:U} {c:aL} (h:(matU 8 c.head u ⟨[],Wn.none⟩).w.says=2):(bY lim u c).1=2:=by
 unfold bY
 rw[if_pos (by omega)]
 exact h
theorem EG {lim:Nat} {u:U} {c:aL} {st:List (List UInt8×U)} (h:matU 8 c.head u ⟨[],Wn.none⟩=⟨st,Wn.none⟩) (ht:c.tests=[]):(bY lim u c).1=1:=by
 unfold bY
 rw[h,if_neg (by rw[none_says];simp),ht]
 rfl
theorem of_eq (η:List UInt8→U) (a b:Tm):MG.of η ⟨a,[61],some b,[],none⟩=MG.rd (bJ η 8 a) [61] (bJ η 8 b) [] zU:=rfl
theorem EH (η:List UInt8→U) (a:Tm):MG.of η ⟨a,[],none,[],none⟩=MG.rd (bJ η 8 a) [] zU [] zU:=rfl
theorem Sx (η:List UInt8→U) (f:Nat) (x:List UInt8) (a b c:Tm):bJ η (f+1) (tF x a b c)= .n 1 x 0 [bJ η f a,bJ η f b,bJ η f c]:=Ma η f x [a,b,c]
end Za
namespace Za
open Go
theorem wS {s:ByteArray} {p:Nat} {l:List aj} {b:UInt8} {rest:List UInt8} (hl:Tk s p l) (ha:At s p (b :: rest)) (hb:ie b.toNat=true) (hr:∀c r,rest=c :: r→cY 3 c.toNat=false):term 8 l= .inr (tV b,l.tail)∧(hd l).kind=3∧Tk s (p+1) l.tail∧At s (p+1) rest:=by
 have hw:jP 3 [b]:=⟨b,[],rfl,Or.inr (Or.inl ⟨rfl,hb⟩),fun d hd=>by rw[List.mem_singleton.1 hd];unfold cY;simp[hb]⟩
 obtain⟨k1,k2,k3⟩:=hl.word (x:=[b]) (rest:=rest) hw ha hr
 refine⟨?_,?_,k2,k3⟩
 ·conv=>lhs;rw[k1]
  rfl
 ·rw[k1]
  rfl
def wT (a b c:UInt8):aH:=⟨tV a,[58,61],some (tV b),[43],some (tV c)⟩
theorem OH {a b c:UInt8} (ha:ie a.toNat=true) (hb:ie b.toNat=true) (hc:ie c.toNat=true) {tests:Bool} {s:ByteArray} {p:Nat} {l:List aj} {rest:List UInt8} (hl:Tk s p l) (hA:At s p ([a,58,61,b,43,c]++rest)) (hr:nh rest):
 ∃l',item tests true l= .inr ((wT a b c,false,true),l')∧Tk s (p+6) l'∧At s (p+6) rest:=by
 obtain⟨e1,_,k1,a1⟩:=wS hl hA ha (fun c r q=>by injection q with q _;subst q;decide)
 obtain⟨e2,k2,a2⟩:=k1.uz (a:=58) (b:=61) a1 (by decide) (by decide)
 obtain⟨e3,d3,k3,a3⟩:=wS k2 a2 hb (fun c r q=>by injection q with q _;subst q;decide)
 obtain⟨e4,k4,a4⟩:=k3.one 43 a3 (by decide)
 obtain⟨e5,d5,k5,a5⟩:=wS k4 a4 hc (hr.rest.word)
 have s0:∀g,sees l.tail g=([58,61] == g):=fun g=>by rw[e2];exact cV _ [58,61] g _
 have s4:∀g,sees l.tail.tail.tail g=([43] == g):=fun g=>by rw[e4];exact cV _ [43] g _
 have t2:(hd l.tail).text.toList=[58,61]:=by rw[e2];exact eX [58,61]
 have t4:(hd l.tail.tail.tail).text.toList=[43]:=by rw[e4];exact eX [43]
 refine⟨_,?_,k5,a5⟩
 unfold item
 rw[e1]
 dsimp only
 have n1:bu l.tail=false:=by unfold bu;rw[s0,s0,s0,s0];decide
 rw[if_neg (by rw[n1];simp),if_neg (by rw[s0];decide),if_pos ⟨rfl,by rw[s0];decide⟩]
 unfold assignment
 rw[if_pos rfl]
 unfold operand
 rw[if_neg (by omega),e3]
 dsimp only
 rw[if_pos (by unfold gp;rw[s4];rfl),if_neg (by omega),e5,t2,t4]
 rfl
def nSum:List UInt8:=[115,117,109]
def sum1:aL:=⟨tF nSum tNil (tV 65) (tV 83),[],[⟨tV 83,[61],some (tV 65),[],none⟩]⟩
def sum2:aL:=⟨tF nSum (tC (tV 72) (tV 84)) (tV 65) (tV 83),[],[wT 66 65 72,⟨tF nSum (tV 84) (tV 66) (tV 83),[],none,[],none⟩]⟩
theorem nSum_word:jP 2 nSum:=rQ (by decide) (by decide)
theorem sum1_ok:J2 idS sum1:=by
 refine⟨Gs nSum_word (Su 6) (nZ (by decide)) (nZ (by decide)),rfl,Or.inl rfl,fun x hx=> ?_,by simp[sum1],fun q=>by cases q⟩
 obtain rfl:=List.mem_singleton.1 hx
 exact .eq _ _ (nZ (by decide)) (nZ (by decide))
def txS1:List UInt8:=[115,117,109,40,110,44,65,44,83,41,58,45,83,61,65,46]
def txS2:List UInt8:=[115,117,109,40,99,40,72,44,84,41,44,65,44,83,41,58,45,66,58,61,65,43,72,44,115,117,109,40,84,44,66,44,83,41,46]
theorem sum1_pr:sT idS false sum1=txS1:=by
 simp only[sT,sum1,jf,jX,Gt,Gp,Sw,sp,nl,List.flatMap_nil]
 rfl
theorem Mc {s:ByteArray} (hs:s=⟨(txS1++32 :: txS2).toArray⟩) {L:List aj} (hL:dT s L) (hh:hd L=next s 0):∃l',prog 12 L= .inr ([sum1,sum2],l'):=by
 have h0:At s 0 (txS1++32 :: txS2):=M7 hs
 rw[←sum1_pr]at h0
 obtain⟨d1,l1,e1,k1,a1⟩:=E0 (b:=false) sum1_ok ⟨hL,hh⟩ h0
 obtain⟨k2,a2⟩:=k1.blank a1 (by decide)
 have UT:gu idS 8 (tF nSum (tC (tV 72) (tV 84)) (tV 65) (tV 83)):=Gs nSum_word (Wb (nZ (by decide)) (nZ (by decide))) (nZ (by decide)) (nZ (by decide))
 have gf:gu idS 8 (tF nSum (tV 84) (tV 66) (tV 83)):=Gs nSum_word (nZ (by decide)) (nZ (by decide)) (nZ (by decide))
 have eh:bp idS 8 (tF nSum (tC (tV 72) (tV 84)) (tV 65) (tV 83))=[115,117,109,40,99,40,72,44,84,41,44,65,44,83,41]:=by simp only[Gt,Ta,Gp];rfl
 have ec:bp idS 8 (tF nSum (tV 84) (tV 66) (tV 83))=[115,117,109,40,84,44,66,44,83,41]:=by simp only[Gt,Gp];rfl
 have a2':At s (0+(sT idS false sum1).length+1) (bp idS 8 (tF nSum (tC (tV 72) (tV 84)) (tV 65) (tV 83))++([58,45]++([66,58,61,65,43,72]++(44 :: (jf idS false [⟨tF nSum (tV 84) (tV 66) (tV 83),[],none,[],none⟩]++[46]))))):=by
  rw[eh]
  show At s _ (_++(_++(_++(44 :: ((bp idS 8 (tF nSum (tV 84) (tV 66) (tV 83))++[]++[])++[46])))))
  rw[ec]
  exact a2
 have hk:=Dz UT rfl k2 a2'
 obtain⟨l2,e2,k3,a3⟩:=jA idS 8 _ UT s _ _ _ k2 a2' ⟨58,_,Or.inl rfl,by decide⟩
 obtain⟨e3,k4,a4⟩:=k3.uz (a:=58) (b:=45) a3 (by decide) (by decide)
 obtain⟨l4,e4,k5,a5⟩:=OH (a:=66) (b:=65) (c:=72) (tests:=true) (by decide) (by decide) (by decide) k4 a4 ⟨44,_,Or.inl rfl,by decide⟩
 obtain⟨e5,k6,a6⟩:=k5.one 44 a5 (by decide)
 obtain⟨l6,e6,k7,a7⟩:=sS (σ:=idS) (b:=false) [] ⟨tF nSum (tV 84) (tV 66) (tV 83),[],none,[],none⟩ 4 false (by simp) (.call _ gf rfl (by unfold isInt tF;simp)) (fun y hy=>by cases hy) s _ _ [] k6 a6
 obtain⟨e7,k8,a8⟩:=k7.one 46 a7 (by decide)
 have hi:items 5 true true l2.tail= .inr (([wT 66 65 72,⟨tF nSum (tV 84) (tV 66) (tV 83),[],none,[],none⟩],false,true),l6):=by
  unfold items
  rw[e4]
  dsimp only
  rw[if_pos (by rw[e5];exact cV _ [44] [44] _),e6]
  rfl
 have hb:body l2.tail= .inr (([],[wT 66 65 72,⟨tF nSum (tV 84) (tV 66) (tV 83),[],none,[],none⟩]),l6):=by
  unfold body
  rw[hi]
  rfl
 have hc:clause true l1= .inr (sum2,l6.tail):=by
  unfold clause
  rw[if_pos hk,if_pos rfl,e2]
  dsimp only
  rw[if_pos (by rw[e3];exact cV _ [58,45] [58,45] _),hb]
  dsimp only
  unfold stop
  rw[if_pos (by rw[e7];exact cV _ [46] [46] _)]
  rfl
 refine⟨l6.tail,?_⟩
 unfold prog
 rw[if_neg (by omega)]
 dsimp only
 rw[e1]
 dsimp only
 unfold prog
 rw[if_neg (by omega)]
 dsimp only
 rw[hc]
 dsimp only
 unfold prog
 rw[if_pos (k8.done a8)]
 rfl
end Za
namespace Za
open Go.Proofs.YthfjnfcekeknlaaGreatDoor (dL gY dX arith)
inductive SI where
 | call
 | eq
 | asg (i:Nat)
deriving DecidableEq
structure gm where
 m:Nat
 d:Nat
 q:Nat
 ev:Nat→Bool
 its:List SI
def dw (a:List Nat) (i:Nat):Nat:=(a.take i).sum
def eW (a:List Nat) (x:U):U:= .n 1 nSum 0 [lsU a,x,vn 1]
def Av (a:List Nat) (d i:Nat):U:=if i≤d then cJ (dw a i)else vn (1+i)
def Bv (a:List Nat) (q i:Nat):U:=if q=2∧i+1=a.length then vn 1 else vn (2+i)
def Sv (a:List Nat) (d q:Nat):U:=if q=2∧d=a.length then cJ (dw a a.length)else vn 1
def gm.iE (s:gm) (a:List Nat):SI→MG
 | .call=>MG.rd (eW (a.drop s.m) (Av a s.d s.m)) [] zU [] zU
 | .eq=>MG.rd (vn 1) [61] (Av a s.d a.length) [] zU
 | .asg i=>⟨Bv a s.q i,[58,61],Av a s.d i,[43],cJ (a[i]?.getD 0),s.ev i&&decide (s.d<i),fun v=>(s.ev i&&decide (s.d<i))=true∧v=1+i⟩
def gm.st (s:gm) (a:List Nat):MS:=⟨[Sv a s.d s.q],s.its.map (s.iE a),2+s.m⟩
structure gm.ok (s:gm) (a:List Nat):Prop where
 nd:s.its.Nodup
 cl:SI.call∈s.its↔s.q=0
 eq:SI.eq∈s.its↔s.q=1
 as':∀i,SI.asg i∈s.its↔s.d≤i∧i<s.m
 dm:s.d≤s.m
 mn:s.m≤a.length
 fi:s.q≠0→s.m=a.length
 q2:s.q≤2
 ed:∀i,s.ev i=true→i<s.m
 ln:s.its.length+s.d=s.m+(if s.q=2 then 0 else 1)
theorem zW {a:List Nat} {i:Nat} (h:i<a.length):dw a (i+1)=dw a i+a[i]:=by
 unfold dw
 rw[List.take_succ_eq_append_getElem h,List.sum_append]
 simp
theorem EI {a:List Nat} (h:∀d∈a,d<10):∀i,dw a i≤9*a.length:=by
 intro i
 unfold dw
 have key:∀l:List Nat,(∀d∈l,d<10)→l.sum≤9*l.length:=fun l=>by
  induction l with
  | nil=>intro _;simp
  | cons x l ih=>
   intro h
   have:=ih (fun d hd=>h d (by simp[hd]))
   have:=h x (by simp)
   rw[List.sum_cons,List.length_cons]
   omega
 have h1:=key (a.take i) (fun d hd=>h d (List.mem_of_mem_take hd))
 rw[List.length_take]at h1
 have:min i a.length≤a.length:=Nat.min_le_right _ _
 omega
theorem OI {i j:Nat} (h:i<j):ek (vn i) (vn j) (one ([],j) (vn i)):=by
 refine⟨?_,fun θ e x=> ?_,fun x y e=> ?_⟩
 ·rw[iw,iw,jN,iy _ (np (by omega))];rfl
 ·by_cases k:x=([],j)
  ·rw[k,jN];exact e
  ·rw[iy _ k];rfl
 ·by_cases k:x=([],j)
  ·rw[k,jN]at e
   injection e with e
   subst e
   rw[k]
   exact⟨rfl,by show i≤j;omega⟩
  ·rw[iy _ k]at e
   injection e with e
   rw[e];exact⟨rfl,Nat.le_refl _⟩
theorem C4 {σ:Vr→U} {k:Nat} (hk:σ ([],k)= .v ([],k)) (a:U) (sg:List UInt8) (b:U) (op:List UInt8) (c:U) (wt:Bool):(⟨a,sg,b,op,c,wt,fun v=>wt=true∧v=k⟩:MG).put σ=⟨sub σ a,sg,sub σ b,op,sub σ c,wt,fun v=>wt=true∧v=k⟩:=by
 have hs:(⟨a,sg,b,op,c,wt,fun v=>wt=true∧v=k⟩:MG).stays σ↔wt=true:=⟨fun q=>q.1,fun q=>⟨q,fun v hv=>by
  have:v=k:=hv.2
  rw[this];exact hk⟩⟩
 unfold MG.put
 congr 1
 ·cases wt with
  | true=>exact @decide_eq_true _ (_) (hs.2 rfl)
  | false=>exact @decide_eq_false _ (_) (fun q=>by have:=hs.1 q;cases this)
 ·funext v
  exact propext ⟨fun q=>q.2,fun q=>⟨hs.2 q.1,q⟩⟩
theorem Md {σ:Vr→U} {k:Nat} (hk:σ ([],k)≠ .v ([],k)) (a:U) (sg:List UInt8) (b:U) (op:List UInt8) (c:U) (wt:Bool):(⟨a,sg,b,op,c,wt,fun v=>wt=true∧v=k⟩:MG).put σ=⟨sub σ a,sg,sub σ b,op,sub σ c,false,fun v=>false=true∧v=k⟩:=by
 have hs:¬(⟨a,sg,b,op,c,wt,fun v=>wt=true∧v=k⟩:MG).stays σ:=fun q=>hk (q.2 k ⟨q.1,rfl⟩)
 unfold MG.put
 congr 1
 ·exact @decide_eq_false _ (_) hs
 ·funext v
  exact propext ⟨fun q=>absurd q.1 hs,fun q=>by have:=q.1;cases this⟩
theorem pK (n:Nat):M4 (cJ n):=fun x h=>by unfold cJ at h;simp[has,sy]at h
theorem OJ (σ:Vr→U) (h1:σ ([],1)=vn 1) (a:List Nat) (x:U):sub σ (eW a x)=eW a (sub σ x):=by
 unfold eW
 rw[dR,List.map_cons,List.map_cons,List.map_cons,List.map_nil,(gnd_ls a).sub,iw,h1]
theorem gm.ok.small {s:gm} {a:List Nat} (h:s.ok a) (ha:a.length≤5):qD (s.st a)=false:=by
 have b1:∀k,big (vn k)=false:=fun k=>xW (by unfold vn;rw[size];omega)
 have b2:∀k,big (cJ k)=false:=fun k=>xW (by unfold cJ;simp[size,sizeL])
 have bA:∀d i,big (Av a d i)=false:=fun d i=>by unfold Av;split<;>first | exact b2 _ | exact b1 _
 have bB:∀q i,big (Bv a q i)=false:=fun q i=>by unfold Bv;split<;>exact b1 _
 have bS:∀d q,big (Sv a d q)=false:=fun d q=>by unfold Sv;split<;>first | exact b2 _ | exact b1 _
 have bz:big zU=false:=xW (by rw[size_z];omega)
 have hl:=h.ln
 have hm:=h.mn
 unfold qD
 rw[Bool.or_eq_false_iff,Bool.or_eq_false_iff]
 refine⟨decide_eq_false ?_,?_,?_⟩
 ·show¬24<(s.its.map (s.iE a)).length
  rw[List.length_map]
  split at hl<;>omega
 ·show [Sv a s.d s.q].any big=false
  simp only[List.any_cons,List.any_nil,Bool.or_false,bS]
 ·refine List.any_eq_false.2 fun g hg=> ?_
  obtain⟨o,_,rfl⟩:=List.mem_map.1 hg
  cases o with
  | call=>
   show¬lp (MG.rd (eW (a.drop s.m) (Av a s.d s.m)) [] zU [] zU)=true
   have:lp (MG.rd (eW (a.drop s.m) (Av a s.d s.m)) [] zU [] zU)=[lsU (a.drop s.m),Av a s.d s.m,vn 1].any big:=rfl
   rw[this]
   simp only[List.any_cons,List.any_nil,Bool.or_false,bA,b1]
   rw[xW (by rw[size_ls,List.length_drop];omega)]
   simp
  | eq=>
   have:lp (s.iE a .eq)=(big (vn 1)||big (Av a s.d a.length)||big zU):=by
    unfold lp
    rw[if_neg (show¬(s.iE a .eq).sg=[]from fun q=>by cases q)]
    rfl
   rw[this,b1,bA,bz]
   simp
  | asg i=>
   have:lp (s.iE a (.asg i))=(big (Bv a s.q i)||big (Av a s.d i)||big (cJ (a[i]?.getD 0))):=by
    unfold lp
    rw[if_neg (show¬(s.iE a (.asg i)).sg=[]from fun q=>by cases q)]
    rfl
   rw[this,bB,bA,b2]
   simp
theorem xX {a:List Nat} {d:Nat} (i:Nat):sub (one ([],2+d) (cJ (dw a (d+1)))) (Av a d i)=Av a (d+1) i:=by
 unfold Av
 by_cases h:i≤d
 ·rw[if_pos h,if_pos (by omega)];exact(pK _).sub _
 ·rw[if_neg h,iw]
  by_cases k:i=d+1
  ·subst k
   rw[if_pos (Nat.le_refl _),show 1+(d+1)=2+d by omega,jN]
  ·rw[if_neg (by omega),iy _ (np (by omega))];rfl
theorem EJ {a:List Nat} {d:Nat} (ha:∀x∈a,x<10) (hl:a.length≤5) (h:d<a.length):dX [43] (cJ (dw a d)) (cJ (a[d]?.getD 0))=some ((dw a (d+1):Nat):Int):=by
 have h1:=EI ha d
 have h2:=ha _ (List.getElem_mem h)
 rw[List.getElem?_eq_getElem h,zW h]
 show (match isNum (cJ (dw a d))with | some x=>if [43]=[]then some x else(match isNum (cJ a[d])with | some b=>if -1000000000≤arith [43] x b∧arith [43] x b≤1000000000 then some (arith [43] x b)else none | none=>none) | none=>none)=_
 have e1:isNum (cJ (dw a d))=some ((dw a d:Nat):Int):=rfl
 have e2:isNum (cJ a[d])=some ((a[d]:Nat):Int):=rfl
 rw[e1,e2]
 dsimp only
 rw[if_neg (by simp)]
 have e3:arith [43] ((dw a d:Nat):Int) ((a[d]:Nat):Int)=((dw a d:Nat):Int)+((a[d]:Nat):Int):=by unfold arith;rw[if_pos rfl]
 rw[e3,if_pos (by omega)]
 congr 1
theorem EK (k y:Nat):(dZ [43] (vn k) (cJ y)).wt=[k]:=rfl
theorem gm.ok.add {s:gm} {a:List Nat} (h:s.ok a) (ha:∀x∈a,x<10) (hl:a.length≤5) {p:Nat} (hp:s.its[p]?=some (.asg s.d)) (cls:List aL) (pc:Int):
 ∃s':gm,kV cls (s.st a) (s'.st a) p pc 0∧s'.ok a∧s'.m=s.m∧s'.d=s.d+1∧s'.q=s.q∧s'.ev=s.ev:=by
 obtain⟨Yj,Eg⟩:=(h.as' s.d).1 (List.mem_of_getElem? hp)
 have Sy:=h.mn
 have p6:s.d<a.length:=by omega
 obtain⟨n1,n2⟩:=nr h.nd hp
 have hlen:s.its.length=(s.its.eraseIdx p).length+1:=by
  have:=(List.getElem?_eq_some_iff.1 hp).1
  rw[List.length_eraseIdx_of_lt this];omega
 have aF:(⟨s.m,s.d+1,s.q,s.ev,s.its.eraseIdx p⟩:gm).ok a:=by
  refine⟨n1,?_,?_,fun i=> ?_,?_,Sy,h.fi,h.q2,h.ed,?_⟩
  ·show SI.call∈s.its.eraseIdx p↔_
   rw[n2,h.cl];simp
  ·show SI.eq∈s.its.eraseIdx p↔_
   rw[n2,h.eq];simp
  ·show SI.asg i∈s.its.eraseIdx p↔s.d+1≤i∧i<s.m
   rw[n2,h.as']
   simp only[ne_eq,SI.asg.injEq]
   omega
  ·show s.d+1≤s.m
   omega
  ·show (s.its.eraseIdx p).length+(s.d+1)=s.m+(if s.q=2 then 0 else 1)
   have:=h.ln
   omega
 have fj:(s.st a).gs[p]?=some (s.iE a (.asg s.d)):=by
  show (s.its.map (s.iE a))[p]?=_
  rw[List.getElem?_map,hp];rfl
 have hA:Av a s.d s.d=cJ (dw a s.d):=by unfold Av;rw[if_pos (Nat.le_refl _)]
 refine⟨⟨s.m,s.d+1,s.q,s.ev,s.its.eraseIdx p⟩,?_,aF,rfl,rfl,rfl,rfl⟩
 by_cases hq:s.q=2∧s.d+1=a.length
 ·have hB:Bv a s.q s.d=vn 1:=by unfold Bv;rw[if_pos hq]
  have hnil:s.its.eraseIdx p=[]:=by
   have:=h.ln
   rw[if_pos hq.1]at this
   exact List.length_eq_zero_iff.1 (by omega)
  refine⟨Nat.le_refl _,_,fj,Or.inr (Or.inr (Or.inl ⟨rfl,rfl,?_,((dw a (s.d+1):Nat):Int),one ([],1) (cJ (dw a (s.d+1))),?_,?_,?_,?_⟩))⟩
  ·show (dZ [43] (Av a s.d s.d) _).wt=[]
   rw[hA];rfl
  ·show dX [43] (Av a s.d s.d) _=_
   rw[hA];exact EJ ha hl p6
  ·show ek (Bv a s.q s.d) (cJ (dw a (s.d+1))) _
   rw[hB]
   exact wN (pK _ _) (fun y q=>by cases q)
  ·show [Sv a (s.d+1) s.q]=[Sv a s.d s.q].map _
   rw[List.map_cons,List.map_nil]
   unfold Sv
   rw[if_pos ⟨hq.1,hq.2⟩,if_neg (by omega),iw,jN,hq.2]
  ·show (s.its.eraseIdx p).map _=((s.its.map (s.iE a)).eraseIdx p).map _
   rw[pJ,hnil];rfl
 ·have hB:Bv a s.q s.d=vn (2+s.d):=by unfold Bv;rw[if_neg hq]
  refine⟨Nat.le_refl _,_,fj,Or.inr (Or.inr (Or.inl ⟨rfl,rfl,?_,((dw a (s.d+1):Nat):Int),one ([],2+s.d) (cJ (dw a (s.d+1))),?_,?_,?_,?_⟩))⟩
  ·show (dZ [43] (Av a s.d s.d) _).wt=[]
   rw[hA];rfl
  ·show dX [43] (Av a s.d s.d) _=_
   rw[hA];exact EJ ha hl p6
  ·show ek (Bv a s.q s.d) (cJ (dw a (s.d+1))) _
   rw[hB]
   exact wN (pK _ _) (fun y q=>by cases q)
  ·show [Sv a (s.d+1) s.q]=[Sv a s.d s.q].map _
   rw[List.map_cons,List.map_nil]
   unfold Sv
   rw[if_neg hq,if_neg (by omega),iw,iy _ (np (by omega))]
   rfl
  ·show (s.its.eraseIdx p).map _=((s.its.map (s.iE a)).eraseIdx p).map _
   rw[pJ,List.map_map]
   refine List.map_congr_left fun o ho=> ?_
   obtain⟨o1,o2⟩:=(n2 o).1 ho
   have f1:one ([],2+s.d) (cJ (dw a (s.d+1))) ([],1)=vn 1:=iy _ (np (by omega))
   cases o with
   | call=>
    show MG.rd (eW (a.drop s.m) (Av a (s.d+1) s.m)) [] zU [] zU=(MG.rd (eW (a.drop s.m) (Av a s.d s.m)) [] zU [] zU).put _
    rw[Js,Jt,OJ _ f1,xX]
   | eq=>
    show MG.rd (vn 1) [61] (Av a (s.d+1) a.length) [] zU=(MG.rd (vn 1) [61] (Av a s.d a.length) [] zU).put _
    rw[Js,Jt,xX,iw,f1]
   | asg i=>
    obtain⟨i1,i2⟩:=(h.as' i).1 o1
    have hne:i≠s.d:=fun q=>o2 (by rw[q])
    have sB:sub (one ([],2+s.d) (cJ (dw a (s.d+1)))) (Bv a s.q i)=Bv a s.q i:=by
     unfold Bv
     split
     ·rw[iw,f1]
     ·rw[iw,iy _ (np (by omega))];rfl
    have sN:sub (one ([],2+s.d) (cJ (dw a (s.d+1)))) (cJ (a[i]?.getD 0))=cJ (a[i]?.getD 0):=(pK _).sub _
    show (⟨Bv a s.q i,[58,61],Av a (s.d+1) i,[43],cJ (a[i]?.getD 0),s.ev i&&decide (s.d+1<i),fun v=>(s.ev i&&decide (s.d+1<i))=true∧v=1+i⟩:MG)=(⟨Bv a s.q i,[58,61],Av a s.d i,[43],cJ (a[i]?.getD 0),s.ev i&&decide (s.d<i),fun v=>(s.ev i&&decide (s.d<i))=true∧v=1+i⟩:MG).put _
    by_cases k:i=s.d+1
    ·subst k
     rw[Md (by rw[show 1+(s.d+1)=2+s.d by omega,jN];exact fun q=>by cases q),sB,xX,sN,decide_eq_false (Nat.lt_irrefl (s.d+1)),Bool.and_false]
    ·rw[C4 (iy _ (np (by omega))),sB,xX,sN,decide_eq_true (show s.d+1<i by omega),decide_eq_true (show s.d<i by omega)]
theorem gm.ok.wait {s:gm} {a:List Nat} (h:s.ok a) {p i:Nat} (hp:s.its[p]?=some (.asg i)) (hi:s.d<i) (he:s.ev i=false) (cls:List aL) (pc:Int):
 ∃s':gm,kV cls (s.st a) (s'.st a) p pc (-1)∧s'.ok a∧s'.m=s.m∧s'.d=s.d∧s'.q=s.q∧s'.ev=jW s.ev i:=by
 obtain⟨i1,i2⟩:=(h.as' i).1 (List.mem_of_getElem? hp)
 have fj:(s.st a).gs[p]?=some (s.iE a (.asg i)):=by
  show (s.its.map (s.iE a))[p]?=_
  rw[List.getElem?_map,hp];rfl
 have hA:Av a s.d i=vn (1+i):=by unfold Av;rw[if_neg (by omega)]
 refine⟨⟨s.m,s.d,s.q,jW s.ev i,s.its⟩,⟨Nat.le_refl _,_,fj,Or.inr (Or.inl ⟨rfl,rfl,?_,rfl,?_⟩)⟩,⟨h.nd,h.cl,h.eq,h.as',h.dm,h.mn,h.fi,h.q2,fun k hk=> ?_,h.ln⟩,rfl,rfl,rfl,rfl⟩
 ·show (dZ [43] (Av a s.d i) (cJ _)).wt≠[]
  rw[hA,EK];simp
 ·show s.its.map _=(s.its.map (s.iE a)).set p _
  apply List.ext_getElem?
  intro j
  by_cases hj:j=p
  ·subst hj
   have hl:=(List.getElem?_eq_some_iff.1 hp).1
   rw[List.getElem?_map,hp,List.getElem?_set_self (by rw[List.length_map];exact hl)]
   show some (⟨Bv a s.q i,[58,61],Av a s.d i,[43],cJ (a[i]?.getD 0),jW s.ev i i&&decide (s.d<i),fun v=>(jW s.ev i i&&decide (s.d<i))=true∧v=1+i⟩:MG)=some ⟨Bv a s.q i,[58,61],Av a s.d i,[43],cJ (a[i]?.getD 0),true,fun v=>v∈(dZ [43] (Av a s.d i) (cJ (a[i]?.getD 0))).wt⟩
   rw[CQ,decide_eq_true hi,hA,EK]
   congr 2
   funext v
   simp
  ·rw[List.getElem?_set_ne (Ne.symm hj),List.getElem?_map,List.getElem?_map]
   cases hx:s.its[j]? with
   | none=>rfl
   | some o=>
    cases o with
    | call=>rfl
    | eq=>rfl
    | asg k=>
     have XY:k≠i:=fun q=>by
      subst q
      obtain⟨l1,e1⟩:=List.getElem?_eq_some_iff.1 hx
      obtain⟨l2,e2⟩:=List.getElem?_eq_some_iff.1 hp
      exact hj ((List.getElem_inj h.nd).1 (e1.trans e2.symm))
     show some (⟨Bv a s.q k,[58,61],Av a s.d k,[43],cJ (a[k]?.getD 0),jW s.ev i k&&decide (s.d<k),fun v=>(jW s.ev i k&&decide (s.d<k))=true∧v=1+k⟩:MG)=some (s.iE a (.asg k))
     rw[rO XY]
     rfl
 ·by_cases q:k=i
  ·rw[q];exact i2
  ·have fI:jW s.ev i k=true:=hk
   rw[rO q]at fI
   exact h.ed k fI
theorem gm.ok.fin {s:gm} {a:List Nat} (h:s.ok a) {p:Nat} (hp:s.its[p]?=some .eq) (cls:List aL) (pc:Int):
 ∃s':gm,kV cls (s.st a) (s'.st a) p pc 0∧s'.ok a∧s'.m=s.m∧s'.d=s.d∧s'.q=2∧s.q=1∧s'.ev=s.ev:=by
 have hq:s.q=1:=h.eq.1 (List.mem_of_getElem? hp)
 have hm:s.m=a.length:=h.fi (by omega)
 have Eg:=h.dm
 obtain⟨n1,n2⟩:=nr h.nd hp
 have hlen:s.its.length=(s.its.eraseIdx p).length+1:=by
  have:=(List.getElem?_eq_some_iff.1 hp).1
  rw[List.length_eraseIdx_of_lt this];omega
 have jm:=h.ln
 rw[if_neg (by omega)]at jm
 have aF:(⟨s.m,s.d,2,s.ev,s.its.eraseIdx p⟩:gm).ok a:=by
  refine⟨n1,?_,?_,fun i=> ?_,Eg,h.mn,fun _=>hm,Nat.le_refl _,h.ed,?_⟩
  ·show SI.call∈s.its.eraseIdx p↔2=0
   rw[n2,h.cl,hq];simp
  ·show SI.eq∈s.its.eraseIdx p↔2=1
   rw[n2];simp
  ·show SI.asg i∈s.its.eraseIdx p↔_
   rw[n2,h.as'];simp
  ·show (s.its.eraseIdx p).length+s.d=s.m+(if 2=2 then 0 else 1)
   simp;omega
 have fj:(s.st a).gs[p]?=some (s.iE a .eq):=by
  show (s.its.map (s.iE a))[p]?=_
  rw[List.getElem?_map,hp];rfl
 refine⟨⟨s.m,s.d,2,s.ev,s.its.eraseIdx p⟩,?_,aF,rfl,rfl,rfl,hq,rfl⟩
 by_cases hd:s.d=a.length
 ·have hA:Av a s.d a.length=cJ (dw a a.length):=by unfold Av;rw[if_pos (by omega)]
  have hnil:s.its.eraseIdx p=[]:=List.length_eq_zero_iff.1 (by omega)
  refine⟨Nat.le_refl _,_,fj,Or.inl ⟨rfl,rfl,one ([],1) (cJ (dw a a.length)),?_,?_,?_⟩⟩
  ·show ek (vn 1) (Av a s.d a.length) _
   rw[hA]
   exact wN (pK _ _) (fun y q=>by cases q)
  ·show [Sv a s.d 2]=[Sv a s.d s.q].map _
   rw[List.map_cons,List.map_nil]
   unfold Sv
   rw[if_pos ⟨rfl,hd⟩,if_neg (by omega),iw,jN]
  ·show (s.its.eraseIdx p).map _=((s.its.map (s.iE a)).eraseIdx p).map _
   rw[pJ,hnil];rfl
 ·have hA:Av a s.d a.length=vn (1+a.length):=by unfold Av;rw[if_neg (by omega)]
  have hn:0<a.length:=by omega
  have f1:one ([],1+a.length) (vn 1) ([],1)=vn 1:=iy _ (np (by omega))
  refine⟨Nat.le_refl _,_,fj,Or.inl ⟨rfl,rfl,one ([],1+a.length) (vn 1),?_,?_,?_⟩⟩
  ·show ek (vn 1) (Av a s.d a.length) _
   rw[hA]
   exact OI (by omega)
  ·show [Sv a s.d 2]=[Sv a s.d s.q].map _
   rw[List.map_cons,List.map_nil]
   unfold Sv
   rw[if_neg (fun q=>hd q.2),if_neg (by omega),iw,f1]
  ·show (s.its.eraseIdx p).map _=((s.its.map (s.iE a)).eraseIdx p).map _
   rw[pJ,List.map_map]
   refine List.map_congr_left fun o ho=> ?_
   obtain⟨o1,o2⟩:=(n2 o).1 ho
   cases o with
   | call=>have:=h.cl.1 o1;omega
   | eq=>exact absurd rfl o2
   | asg i=>
    obtain⟨i1,i2⟩:=(h.as' i).1 o1
    have sB:sub (one ([],1+a.length) (vn 1)) (Bv a s.q i)=Bv a 2 i:=by
     unfold Bv
     rw[if_neg (fun q=>by have:=q.1;omega),iw]
     by_cases k:i+1=a.length
     ·rw[if_pos ⟨rfl,k⟩,show 2+i=1+a.length by omega,jN]
     ·rw[if_neg (fun q=>k q.2),iy _ (np (by omega))];rfl
    have sA:sub (one ([],1+a.length) (vn 1)) (Av a s.d i)=Av a s.d i:=by
     unfold Av
     split
     ·exact(pK _).sub _
     ·rw[iw,iy _ (np (by omega))];rfl
    have sN:sub (one ([],1+a.length) (vn 1)) (cJ (a[i]?.getD 0))=cJ (a[i]?.getD 0):=(pK _).sub _
    show (⟨Bv a 2 i,[58,61],Av a s.d i,[43],cJ (a[i]?.getD 0),s.ev i&&decide (s.d<i),fun v=>(s.ev i&&decide (s.d<i))=true∧v=1+i⟩:MG)=(⟨Bv a s.q i,[58,61],Av a s.d i,[43],cJ (a[i]?.getD 0),s.ev i&&decide (s.d<i),fun v=>(s.ev i&&decide (s.d<i))=true∧v=1+i⟩:MG).put _
    rw[C4 (iy _ (np (by omega))),sB,sA,sN]
theorem gm.ok.more {s:gm} {a:List Nat} (h:s.ok a) {p:Nat} (hp:s.its[p]?=some .call) (hm:s.m<a.length):
 (⟨s.m+1,s.d,0,s.ev,s.its.eraseIdx p++[.asg s.m,.call]⟩:gm).ok a∧s.q=0∧((⟨s.m+1,s.d,0,s.ev,s.its.eraseIdx p++[.asg s.m,.call]⟩:gm).st a).vs=(s.st a).vs∧((⟨s.m+1,s.d,0,s.ev,s.its.eraseIdx p++[.asg s.m,.call]⟩:gm).st a).gs=(s.st a).gs.eraseIdx p++[⟨vn (2+s.m),[58,61],Av a s.d s.m,[43],cJ (a[s.m]?.getD 0),false,fun _=>False⟩,MG.rd (eW (a.drop (s.m+1)) (vn (2+s.m))) [] zU [] zU]:=by
 have hq:s.q=0:=h.cl.1 (List.mem_of_getElem? hp)
 have Eg:=h.dm
 obtain⟨n1,n2⟩:=nr h.nd hp
 have hlen:s.its.length=(s.its.eraseIdx p).length+1:=by
  have:=(List.getElem?_eq_some_iff.1 hp).1
  rw[List.length_eraseIdx_of_lt this];omega
 have jm:=h.ln
 rw[if_neg (by omega)]at jm
 have Nb:s.ev s.m=false:=by
  cases e:s.ev s.m with
  | false=>rfl
  | true=>have:=h.ed _ e;omega
 refine⟨⟨?_,?_,?_,fun i=> ?_,by show s.d≤s.m+1;omega,by show s.m+1≤a.length;omega,fun q=>absurd rfl q,by show 0≤2;omega,fun i hi=>by have:=h.ed i hi;show i<s.m+1;omega,?_⟩,hq,?_,?_⟩
 ·show (s.its.eraseIdx p++[SI.asg s.m,SI.call]).Nodup
  rw[List.nodup_append]
  refine⟨n1,by simp,fun x hx y hy=> ?_⟩
  obtain⟨x1,x2⟩:=(n2 x).1 hx
  simp only[List.mem_cons,List.not_mem_nil,or_false]at hy
  rcases hy with rfl | rfl
  ·rintro rfl
   have:=(h.as' _).1 x1
   omega
  ·exact x2
 ·show SI.call∈s.its.eraseIdx p++[SI.asg s.m,SI.call]↔0=0
  simp
 ·show SI.eq∈s.its.eraseIdx p++[SI.asg s.m,SI.call]↔0=1
  rw[List.mem_append,n2,h.eq,hq]
  simp
 ·show SI.asg i∈s.its.eraseIdx p++[SI.asg s.m,SI.call]↔s.d≤i∧i<s.m+1
  rw[List.mem_append,n2,h.as']
  simp only[List.mem_cons,List.not_mem_nil,or_false,SI.asg.injEq,reduceCtorEq,ne_eq,not_false_eq_true,and_true]
  omega
 ·show (s.its.eraseIdx p++[SI.asg s.m,SI.call]).length+s.d=s.m+1+(if 0=2 then 0 else 1)
  simp
  omega
 ·show [Sv a s.d 0]=[Sv a s.d s.q]
  rw[hq]
 ·show (s.its.eraseIdx p++[SI.asg s.m,SI.call]).map _=(s.its.map (s.iE a)).eraseIdx p++_
  rw[List.map_append,pJ]
  congr 1
  ·refine List.map_congr_left fun o ho=> ?_
   obtain⟨o1,o2⟩:=(n2 o).1 ho
   cases o with
   | call=>exact absurd rfl o2
   | eq=>have:=h.eq.1 o1;omega
   | asg i=>
    show (⟨Bv a 0 i,[58,61],Av a s.d i,[43],cJ (a[i]?.getD 0),s.ev i&&decide (s.d<i),fun v=>(s.ev i&&decide (s.d<i))=true∧v=1+i⟩:MG)=⟨Bv a s.q i,[58,61],Av a s.d i,[43],cJ (a[i]?.getD 0),s.ev i&&decide (s.d<i),fun v=>(s.ev i&&decide (s.d<i))=true∧v=1+i⟩
    rw[hq]
  ·show [(⟨Bv a 0 s.m,[58,61],Av a s.d s.m,[43],cJ (a[s.m]?.getD 0),s.ev s.m&&decide (s.d<s.m),fun v=>(s.ev s.m&&decide (s.d<s.m))=true∧v=1+s.m⟩:MG),MG.rd (eW (a.drop (s.m+1)) (Av a s.d (s.m+1))) [] zU [] zU]=_
   have hB:Bv a 0 s.m=vn (2+s.m):=by unfold Bv;rw[if_neg (fun q=>by have:=q.1;omega)]
   have hA:Av a s.d (s.m+1)=vn (2+s.m):=by unfold Av;rw[if_neg (by omega)];congr 1;omega
   rw[hB,hA,Nb,Bool.false_and]
   congr 2
   funext v
   simp
theorem gm.ok.close {s:gm} {a:List Nat} (h:s.ok a) {p:Nat} (hp:s.its[p]?=some .call) (hm:s.m=a.length):
 (⟨s.m,s.d,1,s.ev,s.its.eraseIdx p++[.eq]⟩:gm).ok a∧s.q=0∧((⟨s.m,s.d,1,s.ev,s.its.eraseIdx p++[.eq]⟩:gm).st a).vs=(s.st a).vs∧((⟨s.m,s.d,1,s.ev,s.its.eraseIdx p++[.eq]⟩:gm).st a).gs=(s.st a).gs.eraseIdx p++[MG.rd (vn 1) [61] (Av a s.d a.length) [] zU]:=by
 have hq:s.q=0:=h.cl.1 (List.mem_of_getElem? hp)
 obtain⟨n1,n2⟩:=nr h.nd hp
 have hlen:s.its.length=(s.its.eraseIdx p).length+1:=by
  have:=(List.getElem?_eq_some_iff.1 hp).1
  rw[List.length_eraseIdx_of_lt this];omega
 have jm:=h.ln
 rw[if_neg (by omega)]at jm
 refine⟨⟨?_,?_,?_,fun i=> ?_,h.dm,h.mn,fun _=>hm,by show 1≤2;omega,h.ed,?_⟩,hq,?_,?_⟩
 ·show (s.its.eraseIdx p++[SI.eq]).Nodup
  rw[List.nodup_append]
  refine⟨n1,by simp,fun x hx y hy=> ?_⟩
  rw[List.mem_singleton.1 hy]
  rintro rfl
  have:=h.eq.1 ((n2 _).1 hx).1
  omega
 ·show SI.call∈s.its.eraseIdx p++[SI.eq]↔1=0
  rw[List.mem_append,n2]
  simp
 ·show SI.eq∈s.its.eraseIdx p++[SI.eq]↔1=1
  simp
 ·show SI.asg i∈s.its.eraseIdx p++[SI.eq]↔_
  rw[List.mem_append,n2,h.as']
  simp
 ·show (s.its.eraseIdx p++[SI.eq]).length+s.d=s.m+(if 1=2 then 0 else 1)
  simp
  omega
 ·show [Sv a s.d 1]=[Sv a s.d s.q]
  rw[hq]
  rfl
 ·show (s.its.eraseIdx p++[SI.eq]).map _=(s.its.map (s.iE a)).eraseIdx p++_
  rw[List.map_append,pJ]
  congr 1
  refine List.map_congr_left fun o ho=> ?_
  obtain⟨o1,o2⟩:=(n2 o).1 ho
  cases o with
  | call=>exact absurd rfl o2
  | eq=>have:=h.eq.1 o1;omega
  | asg i=>
   show (⟨Bv a 1 i,[58,61],Av a s.d i,[43],cJ (a[i]?.getD 0),s.ev i&&decide (s.d<i),fun v=>(s.ev i&&decide (s.d<i))=true∧v=1+i⟩:MG)=⟨Bv a s.q i,[58,61],Av a s.d i,[43],cJ (a[i]?.getD 0),s.ev i&&decide (s.d<i),fun v=>(s.ev i&&decide (s.d<i))=true∧v=1+i⟩
   rw[hq]
   rfl
def sums:List aL:=[sum1,sum2]
theorem sum_own:cC sums nSum 3 2=List.range 2:=by
 simp[cC,sums,sum1,sum2,yr,tF,nSum,List.range,List.range.loop]
theorem C5 (x:U):matU 8 sum1.head (eW [] x) ⟨[],Wn.none⟩=⟨[([65],x),([83],vn 1)],Wn.none⟩:=by
 simp[matU,cT,iF,bN.meet,sum1,eW,tF,tNil,tV,nSum,lsU,nlU]
theorem Tb (d:Nat) (a:List Nat) (x:U):(matU 8 sum1.head (eW (d :: a) x) ⟨[],Wn.none⟩).w.says=2:=by
 simp[matU,cT,iF,bN.meet,sum1,eW,tF,tNil,tV,nSum,lsU,CP,Wn.bad,Wn.says]
theorem uw (d:Nat) (a:List Nat) (x:U):matU 8 sum2.head (eW (d :: a) x) ⟨[],Wn.none⟩=⟨[([72],cJ d),([84],lsU a),([65],x),([83],vn 1)],Wn.none⟩:=by
 simp[matU,cT,iF,bN.meet,sum2,eW,tF,tC,tV,nSum,lsU,CP]
theorem Tc (x:U):(matU 8 sum2.head (eW [] x) ⟨[],Wn.none⟩).w.says=2:=by
 simp[matU,cT,iF,bN.meet,sum2,eW,tF,tC,tV,nSum,lsU,nlU,Wn.bad,Wn.says]
theorem NHs1:NH sum1=[[65],[83]]:=by simp[NH,sum1,tF,tNil,tV,namesF,eK]
theorem NGs1:NG sum1=[[65],[83]]:=by
 unfold NG NT
 rw[NHs1]
 simp[sum1,aD,aQ,cG,tV,namesF,eK]
theorem NHs2:NH sum2=[[72],[84],[65],[83]]:=by simp[NH,sum2,tF,tC,tV,namesF,eK]
theorem NGs2:NG sum2=[[72],[84],[65],[83],[66]]:=by
 unfold NG NT
 rw[NHs2]
 simp[sum2,wT,aD,aQ,cG,tF,tV,namesF,eK]
theorem OL (x:U) (o:Nat→Nat):sum1.goals.map (MG.of (cM (eW [] x) sum1 o))=[MG.rd (vn 1) [61] x [] zU]:=by
 have e1:cM (eW [] x) sum1 o [83]=vn 1:=by
  unfold cM
  rw[NHs1,C5]
  simp
 have e2:cM (eW [] x) sum1 o [65]=x:=by
  unfold cM
  rw[NHs1,C5]
  simp
 rw[show sum1.goals=[⟨tV 83,[61],some (tV 65),[],none⟩]from rfl]
 simp only[List.map_cons,List.map_nil,of_eq,L9,e1,e2]
theorem OM (d:Nat) (a:List Nat) (x:U) (f:Nat):sum2.goals.map (MG.of (cM (eW (d :: a) x) sum2 fun i=>([f][i]?).getD 0))=[⟨vn f,[58,61],x,[43],cJ d,false,fun _=>False⟩,MG.rd (eW a (vn f)) [] zU [] zU]:=by
 have eS:cM (eW (d :: a) x) sum2 (fun i=>([f][i]?).getD 0) [83]=vn 1:=by
  unfold cM
  rw[NHs2,uw]
  simp
 have eH:cM (eW (d :: a) x) sum2 (fun i=>([f][i]?).getD 0) [72]=cJ d:=by
  unfold cM
  rw[NHs2,uw]
  simp
 have eT:cM (eW (d :: a) x) sum2 (fun i=>([f][i]?).getD 0) [84]=lsU a:=by
  unfold cM
  rw[NHs2,uw]
  simp
 have eA:cM (eW (d :: a) x) sum2 (fun i=>([f][i]?).getD 0) [65]=x:=by
  unfold cM
  rw[NHs2,uw]
  simp
 have eB:cM (eW (d :: a) x) sum2 (fun i=>([f][i]?).getD 0) [66]=vn f:=by
  unfold cM
  rw[NHs2,NGs2,if_neg (by decide)]
  rfl
 have oA:∀η:List UInt8→U,MG.of η (wT 66 65 72)=⟨bJ η 8 (tV 66),[58,61],bJ η 8 (tV 65),[43],bJ η 8 (tV 72),false,fun _=>False⟩:=fun η=>rfl
 rw[show sum2.goals=[wT 66 65 72,⟨tF nSum (tV 84) (tV 66) (tV 83),[],none,[],none⟩]from rfl]
 simp only[List.map_cons,List.map_nil,oA,EH,Sx,L9,eS,eH,eT,eA,eB]
 rfl
theorem C6 {ev:Nat→Bool} {i:Nat} (hi:ev i=false):∀n,i<n→(List.range n).countP (jW ev i)=(List.range n).countP ev+1
 | 0,h=>absurd h (Nat.not_lt_zero _)
 | n+1,h=>by
  rw[List.range_succ,List.countP_append,List.countP_append]
  by_cases k:i=n
  ·subst k
   have:(List.range i).countP (jW ev i)=(List.range i).countP ev:=List.countP_congr fun x hx=>by
    rw[rO (by have:=List.mem_range.1 hx;omega)]
   rw[this]
   simp[CQ,hi]
  ·rw[C6 hi n (by omega)]
   simp only[List.countP_cons,List.countP_nil,rO (Ne.symm k)]
   omega
theorem JD {gs:List MG} {p:Nat}:p∈js gs↔∃g,gs[p]?=some g∧g.wt=false:=by
 unfold js
 rw[List.mem_filter,List.mem_range]
 constructor
 ·rintro⟨h1,h2⟩
  rw[List.getElem?_eq_getElem h1]at h2
  exact⟨_,List.getElem?_eq_getElem h1,by simpa using h2⟩
 ·rintro⟨g,h1,h2⟩
  refine⟨(List.getElem?_eq_some_iff.1 h1).1,?_⟩
  rw[h1]
  simpa using h2
structure rR (a:List Nat) (script:List (Int×Int)) (S0:MS) (j:Nat) (s:gm) (L:List Int):Prop where
 run:nY sums script S0 j (s.st a) L
 ok:s.ok a
 n0:L.count 0=s.d+(if s.q=2 then 1 else 0)
 n1:L.count 1=(if s.q=0 then 0 else 1)
 n2:L.count 2=s.m
 len:L.length=j
 is:j=s.m+(if s.q=0 then 0 else 1)+s.d+(if s.q=2 then 1 else 0)+(List.range a.length).countP s.ev
theorem rR.end {a:List Nat} {script:List (Int×Int)} {S0:MS} {j:Nat} {s:gm} {L:List Int} (h:rR a script S0 j s L):(j=3*a.length+2→s.its=[])∧(s.its=[]→s.q=2∧s.d=a.length∧s.m=a.length):=by
 have h1:(List.range a.length).countP s.ev≤a.length:=by
  have:=List.countP_le_length (p:=s.ev) (l:=List.range a.length)
  rwa [List.length_range]at this
 have h2:=h.ok.ln
 have h3:=h.ok.dm
 have h4:=h.ok.mn
 have h5:=h.ok.q2
 have h6:=h.is
 refine⟨fun q=> ?_,fun q=> ?_⟩
 ·apply List.length_eq_zero_iff.1
  split at h6<;>split at h6<;>split at h2<;>omega
 ·rw[q]at h2
  simp only[List.length_nil,Nat.zero_add]at h2
  by_cases k:s.q=2
  ·rw[if_pos k]at h2
   have:=h.ok.fi (by omega)
   exact⟨k,by omega,this⟩
  ·rw[if_neg k]at h2
   omega
theorem rR.step {a:List Nat} {script:List (Int×Int)} {S0:MS} {j:Nat} {s:gm} {L:List Int} (ha:∀x∈a,x<10) (hl:a.length≤5) (h:rR a script S0 j s L) (hs:j<script.length) (hne:s.its≠[]):∃s' L',rR a script S0 (j+1) s' L':=by
 obtain⟨⟨pg,pc⟩,hsj⟩:∃q:Int×Int,script[j]?=some q:=⟨_,List.getElem?_eq_getElem hs⟩
 have ready:∃o∈s.its,(s.iE a o).wt=false:=by
  have h2:=h.ok.q2
  rcases(show s.q=0∨s.q=1∨s.q=2 by omega)with q | q | q
  ·exact⟨.call,h.ok.cl.2 q,rfl⟩
  ·exact⟨.eq,h.ok.eq.2 q,rfl⟩
  ·have h3:=h.ok.ln
   rw[if_pos q]at h3
   have h4:0<s.its.length:=List.length_pos_iff.2 hne
   refine⟨.asg s.d,(h.ok.as' s.d).2 ⟨Nat.le_refl _,by omega⟩,?_⟩
   show (s.ev s.d&&decide (s.d<s.d))=false
   simp
 have hr:0<(js (s.st a).gs).length:=by
  obtain⟨o,ho,hw⟩:=ready
  obtain⟨p,hp,rfl⟩:=List.mem_iff_getElem.1 ho
  refine List.length_pos_of_mem (a:=p) (JD.2 ⟨s.iE a s.its[p],?_,hw⟩)
  show (s.its.map (s.iE a))[p]?=_
  rw[List.getElem?_map,List.getElem?_eq_getElem hp];rfl
 obtain⟨p,EL⟩:∃p,(js (s.st a).gs)[dL pg (js (s.st a).gs).length]?=some p:=⟨_,List.getElem?_eq_getElem (tX pg hr)⟩
 obtain⟨g,XZ,vH⟩:=JD.1 (List.mem_of_getElem? EL)
 obtain⟨o,ho,X0⟩:∃o,s.its[p]?=some o∧s.iE a o=g:=by
  have:(s.its.map (s.iE a))[p]?=some g:=XZ
  rw[List.getElem?_map]at this
  cases hx:s.its[p]? with
  | none=>rw[hx]at this;cases this
  | some o=>rw[hx]at this;exact⟨o,rfl,by injection this⟩
 have EM:=h.is
 have cf:=h.n0
 have lG:=h.n1
 have y8:=h.n2
 have hlen:=h.len
 cases o with
 | eq=>
  obtain⟨s',k1,k2,k3,k4,k5,k6,k7⟩:=h.ok.fin ho sums pc
  rw[k6]at EM cf lG
  refine⟨s',L++[0],⟨.step h.run hsj EL k1 (k2.small hl),k2,?_,?_,?_,by rw[List.length_append,hlen];rfl,?_⟩⟩
  ·rw[List.count_append,cf,k4,k5];rfl
  ·rw[List.count_append,lG,k5];rfl
  ·rw[List.count_append,y8,k3];rfl
  ·rw[k3,k4,k5,k7]
   simp at EM⊢
   omega
 | asg i=>
  obtain⟨i1,i2⟩:=(h.ok.as' i).1 (List.mem_of_getElem? ho)
  by_cases hid:i=s.d
  ·subst hid
   obtain⟨s',k1,k2,k3,k4,k5,k6⟩:=h.ok.add ha hl ho sums pc
   refine⟨s',L++[0],⟨.step h.run hsj EL k1 (k2.small hl),k2,?_,?_,?_,by rw[List.length_append,hlen];rfl,?_⟩⟩
   ·rw[List.count_append,cf,k4,k5]
    show s.d+_+1=s.d+1+_
    omega
   ·rw[List.count_append,lG,k5];rfl
   ·rw[List.count_append,y8,k3];rfl
   ·rw[k3,k4,k5,k6];omega
  ·have Nb:s.ev i=false:=by
    have:(s.iE a (.asg i)).wt=false:=by rw[X0];exact vH
    have:(s.ev i&&decide (s.d<i))=false:=this
    rw[decide_eq_true (show s.d<i by omega),Bool.and_true]at this
    exact this
   obtain⟨s',k1,k2,k3,k4,k5,k6⟩:=h.ok.wait ho (by omega) Nb sums pc
   have Sy:=h.ok.mn
   refine⟨s',L++[-1],⟨.step h.run hsj EL k1 (k2.small hl),k2,?_,?_,?_,by rw[List.length_append,hlen];rfl,?_⟩⟩
   ·rw[List.count_append,cf,k4,k5];rfl
   ·rw[List.count_append,lG,k5];rfl
   ·rw[List.count_append,y8,k3];rfl
   ·rw[k3,k4,k5,k6,C6 Nb a.length (by omega)];omega
 | call=>
  have fj:(s.st a).gs[p]?=some (MG.rd (eW (a.drop s.m) (Av a s.d s.m)) [] zU [] zU):=by
   show (s.its.map (s.iE a))[p]?=_
   rw[List.getElem?_map,ho];rfl
  have Sy:=h.ok.mn
  by_cases hm:s.m<a.length
  ·have hdr:a.drop s.m=a[s.m] :: a.drop (s.m+1):=List.drop_eq_getElem_cons hm
   rw[hdr]at fj
   obtain⟨k,c,hk,hy,hst⟩:=C3 (cls:=sums) (tx:=nSum) (us:=[lsU (a[s.m] :: a.drop (s.m+1)),Av a s.d s.m,vn 1]) sum_own fj rfl rfl (by decide) pc ⟨1,sum2,rfl,EG (uw _ _ _) rfl⟩
   have fA:k=1∧c=sum2:=by
    match k,hk with
    | 1,hk=>exact⟨rfl,by injection hk with hk;exact hk.symm⟩
    | 0,hk=>
     injection hk with hk
     subst hk
     have:(bY (s.st a).lim (eW (a[s.m] :: a.drop (s.m+1)) (Av a s.d s.m)) sum1).1=1:=hy
     rw[JC (Tb _ _ _)]at this
     omega
   obtain⟨rfl,rfl⟩:=fA
   obtain⟨k1,k2,k3,k4⟩:=h.ok.more ho hm
   rw[k2]at EM cf lG
   refine⟨_,L++[2],⟨.step h.run hsj EL (hst [2+s.m] _ (by rw[NHs2,NGs2];rfl) (by simp) (fun f hf=> ?_) ?_ k3 ?_) (k1.small hl),k1,?_,?_,?_,by rw[List.length_append,hlen];rfl,?_⟩⟩
   ·rw[List.mem_singleton.1 hf]
    exact⟨Nat.le_refl _,by show 2+s.m<2+(s.m+1);omega⟩
   ·show 2+s.m≤2+(s.m+1)
    omega
   ·rw[k4]
    congr 1
    rw[List.getElem?_eq_getElem hm]
    exact(OM _ _ _ _).symm
   ·rw[List.count_append,cf];rfl
   ·rw[List.count_append,lG];rfl
   ·rw[List.count_append,y8];rfl
   ·show j+1=s.m+1+(if 0=0 then 0 else 1)+s.d+(if 0=2 then 1 else 0)+_
    simp at EM⊢
    omega
  ·have nJ:s.m=a.length:=by omega
   have hdr:a.drop s.m=[]:=List.drop_eq_nil_of_le (by omega)
   rw[hdr,nJ]at fj
   obtain⟨k,c,hk,hy,hst⟩:=C3 (cls:=sums) (tx:=nSum) (us:=[lsU [],Av a s.d a.length,vn 1]) sum_own fj rfl rfl (by decide) pc ⟨0,sum1,rfl,EG (C5 _) rfl⟩
   have fA:k=0∧c=sum1:=by
    match k,hk with
    | 0,hk=>exact⟨rfl,by injection hk with hk;exact hk.symm⟩
    | 1,hk=>
     injection hk with hk
     subst hk
     have:(bY (s.st a).lim (eW [] (Av a s.d a.length)) sum2).1=1:=hy
     rw[JC (Tc _)]at this
     omega
   obtain⟨rfl,rfl⟩:=fA
   obtain⟨k1,k2,k3,k4⟩:=h.ok.close ho nJ
   rw[k2]at EM cf lG
   refine⟨⟨s.m,s.d,1,s.ev,s.its.eraseIdx p++[.eq]⟩,L++[1],⟨.step h.run hsj EL (hst [] ((⟨s.m,s.d,1,s.ev,s.its.eraseIdx p++[.eq]⟩:gm).st a) (by rw[NHs1,NGs1];rfl) List.Pairwise.nil (fun f hf=>by cases hf) (Nat.le_refl _) k3 ?_) (k1.small hl),k1,?_,?_,?_,by rw[List.length_append,hlen];rfl,?_⟩⟩
   ·rw[k4]
    congr 1
    exact(OL _ _).symm
   ·rw[List.count_append,cf];rfl
   ·rw[List.count_append,lG];rfl
   ·rw[List.count_append,y8];rfl
   ·show j+1=s.m+(if 1=0 then 0 else 1)+s.d+(if 1=2 then 1 else 0)+_
    simp at EM⊢
    omega
def qS (a:List Nat):aH:=⟨tF nSum (tL a) (tD 0) (tV 83),[],none,[],none⟩
theorem JE (a:List Nat) (ha:a.length≤5) (script:List (Int×Int)):rR a script (kQ 1 (aD [] [qS a]) [qS a]) 0 ⟨0,0,0,fun _=>false,[.call]⟩ []:=by
 have hn:aD [] [qS a]=[[83]]:=by
  show namesF 8 [] (tF nSum (tL a) (tD 0) (tV 83))=_
  unfold namesF
  show namesF 7 (namesF 7 (namesF 7 [] (tL a)) (tD 0)) (tV 83)=_
  rw[names_tL]
  unfold namesF
  show eK [] (⟨[83].toArray⟩:ByteArray).toList=_
  rw[eX]
  rfl
 have e:(⟨0,0,0,fun _=>false,[.call]⟩:gm).st a=kQ 1 (aD [] [qS a]) [qS a]:=by
  rw[hn]
  unfold kQ
  rw[List.map_cons,List.map_nil,show qS a=⟨tF nSum (tL a) (tD 0) (tV 83),[],none,[],none⟩from rfl,EH,Sx,Sp _ a 7 (by omega),Sn,L9]
  rfl
 refine⟨by rw[e];exact .start,⟨by simp,by simp,by simp,fun i=>by simp,Nat.le_refl _,Nat.zero_le _,fun q=>absurd rfl q,by show 0≤2;omega,(fun i hi=>by cases hi),rfl⟩,rfl,rfl,rfl,rfl,?_⟩
 show 0=0+0+0+0+(List.range a.length).countP fun _=>false
 simp
theorem zX (a:List Nat) (ha:∀x∈a,x<10) (hl:a.length≤5) (script:List (Int×Int)):∀j,j≤script.length→∃i s L,rR a script (kQ 1 (aD [] [qS a]) [qS a]) i s L∧i≤j∧(i=j∨s.its=[])
 | 0,_=>⟨0,_,_,JE a hl script,Nat.le_refl _,Or.inl rfl⟩
 | j+1,h1=>by
  obtain⟨i,s,L,h,hle,hi⟩:=zX a ha hl script j (by omega)
  by_cases q:s.its=[]
  ·exact⟨i,s,L,h,by omega,Or.inr q⟩
  ·rcases hi with rfl | hi
   ·obtain⟨s',L',h'⟩:=h.step ha hl (by omega) q
    exact⟨i+1,s',L',h',by omega,Or.inl rfl⟩
   ·exact absurd hi q
theorem Me (a:List Nat) (ha:∀x∈a,x<10) (hl:a.length≤5) (script:List (Int×Int)) (hs:script.length=3*a.length+2):∃log,rJ sums script (kQ 1 (aD [] [qS a]) [qS a]) 1 log [ir (dw a a.length)] [] []∧log.count 1=1∧log.count 2=a.length∧log.count 0=a.length+1∧log.length≤script.length:=by
 obtain⟨i,s,L,h,hle,Jp⟩:=zX a ha hl script script.length (Nat.le_refl _)
 have hi:s.its=[]:=by
  rcases Jp with rfl | q
  ·exact h.end.1 hs
  ·exact q
 obtain⟨hq,hd,hm⟩:=h.end.2 hi
 have hg:(s.st a).gs=[]:=by
  show s.its.map (s.iE a)=[]
  rw[hi];rfl
 have hv:(s.st a).vs=[cJ (dw a a.length)]:=by
  show [Sv a s.d s.q]=_
  unfold Sv
  rw[if_pos ⟨hq,hd⟩]
 have hval:kF [cJ (dw a a.length)]=([ir (dw a a.length)],[]):=by
  show ([]++[bU Go.Lib.itoa (ba [] (cJ (dw a a.length))) (cJ (dw a a.length))],ba [] (cJ (dw a a.length)))=_
  have e1:ba [] (cJ (dw a a.length))=[]:=by rw[cJ,gO];rfl
  rw[e1,cJ,oY,if_pos rfl]
  unfold Go.Lib.itoa ir
  simp
 refine⟨L,⟨_,_,L,h.run,Or.inl ⟨Or.inr (by rw[hg];rfl),by rw[hg];rfl,rfl,by rw[hv,hval],by rw[hg];rfl,by rw[hg];rfl⟩⟩,?_,?_,?_,by rw[h.len];exact hle⟩
 ·rw[h.n1,if_neg (by omega)]
 ·rw[h.n2,hm]
 ·rw[h.n0,if_pos hq,hd]
end Za
