import Derived.Test.YthfjnfcekeknlaaGreatDoorSt02
import Derived.Test.YthfjnfcekeknlaaGreatDoorSt05
set_option maxHeartbeats 8000000
set_option maxRecDepth 100000
namespace Za
open Go
def sp (b:Bool):List UInt8:=if b=true then [32]else []
def nl (b:Bool):List UInt8:=if b=true then [10]else []
theorem Tk.sp {s:ByteArray} {p:Nat} {l:List Tok} {rest:List UInt8} (b:Bool) (h:Tk s p l) (ha:At s p (Za.sp b++rest)):Tk s (p+(Za.sp b).length) l∧At s (p+(Za.sp b).length) rest:=by
 cases b
 ·exact⟨h,ha⟩
 ·exact h.blank (c:=32) ha (by decide)
theorem Tk.nl {s:ByteArray} {p:Nat} {l:List Tok} {rest:List UInt8} (b:Bool) (h:Tk s p l) (ha:At s p (Za.nl b++rest)):Tk s (p+(Za.nl b).length) l∧At s (p+(Za.nl b).length) rest:=by
 cases b
 ·exact⟨h,ha⟩
 ·exact h.blank (c:=10) ha (by decide)
theorem C0 {σ:gX} {f:Nat} {t:Tm} (h:gH σ f t):∃c r,bB σ f t=c :: r∧(low c.toNat=true∨iH c.toNat=true∨ik c.toNat=true):=by
 cases f with
 | zero=>exact h.elim
 | succ f=>
  rcases h with⟨hk,c,r,h1,h2,h3⟩ | ⟨hk,⟨c,r,h1,h2,h3⟩,_⟩ | ⟨hk,⟨c,r,h1,h2,h3⟩,_⟩
  ·refine⟨c,r,?_,by rcases h2 with⟨_,q⟩ | ⟨_,q⟩ | ⟨_,q⟩<;>simp[q]⟩
   unfold bB;rw[if_pos hk,h1]
  ·refine⟨c,r,?_,by rcases h2 with⟨_,q⟩ | ⟨_,q⟩ | ⟨_,q⟩<;>simp[q]⟩
   unfold bB;rw[if_neg (by omega),if_pos hk,h1]
  ·refine⟨c,r++arS (t.args.map (bB σ f)),?_,by rcases h2 with⟨_,q⟩ | ⟨_,q⟩ | ⟨_,q⟩<;>simp[q]⟩
   unfold bB;rw[if_neg (by omega),if_neg (by omega),h1];rfl
theorem Jy {a c:Nat} (h:low c=true∨iH c=true∨ik c=true):cU a c=false:=by
 unfold low iH ik at h
 unfold cU
 simp at h⊢
 omega
def ends:List UInt8:=[44,46,124]
def n9 (rest:List UInt8):Prop:=∃c r,(rest=c :: r∨rest=32 :: c :: r∨rest=[])∧c∈ends
theorem rC {c:UInt8} (h:c∈ends):c∈stops:=by
 simp only[ends,List.mem_cons,List.not_mem_nil,or_false]at h
 rcases h with rfl | rfl | rfl<;>decide
theorem n9.rest {rest:List UInt8} (h:n9 rest):sy rest:=by
 obtain⟨c,r,h1,h2⟩:=h
 exact⟨c,r,h1,rC h2⟩
theorem Tk.ends {s:ByteArray} {p:Nat} {l:List Tok} {rest:List UInt8} (h:Tk s p l) (ha:At s p rest) (hr:n9 rest):br l=false∧sees l [61]=false∧sees l [58,61]=false:=by
 have hq:(hd l).kind=0∨∃c r,c∈Za.ends∧(hd l).text.toList=c :: r:=by
  obtain⟨c,r,h1 | h1 | h1,h2⟩:=hr
  ·subst h1
   obtain⟨q,hq⟩:=h.first ha (kH (rC h2)).1
   exact Or.inr ⟨c,q,h2,hq⟩
  ·subst h1
   obtain⟨k1,k2⟩:=h.blank ha (by decide)
   obtain⟨q,hq⟩:=k1.first k2 (kH (rC h2)).1
   exact Or.inr ⟨c,q,h2,hq⟩
  ·subst h1
   exact Or.inl (h.done ha)
 rcases hq with hq | ⟨c,r,hc,hq⟩
 ·unfold br
  simp[sA hq]
 ·have hne:c≠60∧c≠61∧c≠92∧c≠58:=by
   simp only[Za.ends,List.mem_cons,List.not_mem_nil,or_false]at hc
   rcases hc with rfl | rfl | rfl<;>decide
  unfold br
  rw[gS hq hne.1,gS hq hne.2.1,gS hq hne.2.1,gS hq hne.2.2.1,gS hq hne.2.2.2,gS hq hne.2.1]
  exact⟨rfl,rfl,rfl⟩
def iY (σ:gX) (x:aC):List UInt8:=bB σ 8 x.left++(match x.right with
 | none=>[]
 | some r=>x.sign++bB σ 8 r)
def qJ (σ:gX) (x:aC):aC:=⟨iI σ 8 x.left,x.sign,x.right.map (iI σ 8),[],none⟩
inductive ij (σ:gX):aC→Prop
 | call (t:Tm) (h:gH σ 8 t) (hk:t.kind=2) (hi:isInt t=false):ij σ ⟨t,[],none,[],none⟩
 | eq (a b:Tm) (ha:gH σ 8 a) (hb:gH σ 8 b):ij σ ⟨a,[61],some b,[],none⟩
inductive Ao (σ:gX):aC→Prop
 | int (t:Tm) (h:gH σ 8 t) (hk:t.kind=2) (hi:isInt t=true):Ao σ ⟨t,[],none,[],none⟩
 | rel (a b:Tm) (g:List UInt8) (ha:gH σ 8 a) (hb:gH σ 8 b) (hg:g=[61,61]∨g=[92,61]∨g=[60]∨g=[61,60]):Ao σ ⟨a,g,some b,[],none⟩
theorem O2 {σ:gX} {t:Tm} (hk:t.kind=2):(iI σ 8 t).kind=2∧isInt (iI σ 8 t)=isInt t:=by
 have e:iI σ 8 t=⟨2,t.text,t.args.map (iI σ 7)⟩:=by unfold iI;rw[if_neg (by omega),if_neg (by omega)]
 rw[e]
 refine⟨rfl,?_⟩
 unfold isInt
 rw[hk]
 simp
theorem C2 {σ:gX} {t:Tm} (h:gH σ 8 t) (hk:t.kind=2) {tests goals:Bool} (hf:((tests&&isInt t)||goals)=true) {s:ByteArray} {p:Nat} {l:List Tok} {rest:List UInt8} (hl:Tk s p l) (ha:At s p (bB σ 8 t++rest)) (hr:n9 rest):
 ∃l',item tests goals l= .inr ((⟨iI σ 8 t,[],none,[],none⟩,tests&&isInt t,goals),l')∧Tk s (p+(bB σ 8 t).length) l'∧At s (p+(bB σ 8 t).length) rest:=by
 obtain⟨l1,e1,k1,a1⟩:=kJ σ 8 t h s p l rest hl ha hr.rest
 obtain⟨n1,n2,n3⟩:=k1.ends a1 hr
 obtain⟨m1,m2⟩:=O2 (σ:=σ) hk
 refine⟨l1,?_,k1,a1⟩
 unfold item
 rw[e1]
 dsimp only
 rw[if_neg (by rw[n1];decide),if_neg (by rw[n2];decide),if_neg (by rw[n3];simp),m2,if_pos ⟨m1,hf⟩]
theorem C3 {σ:gX} {a b:Tm} (ha:gH σ 8 a) (hb:gH σ 8 b) {g:List UInt8} (hg:g=[61]∨g=[61,61]∨g=[92,61]∨g=[60]∨g=[61,60]) {s:ByteArray} {p:Nat} {l:List Tok} {rest:List UInt8} (hl:Tk s p l) (hA:At s p (bB σ 8 a++(g++bB σ 8 b)++rest)) (hr:n9 rest):
 ∃l1 l',term 8 l= .inr (iI σ 8 a,l1)∧(∀k,sees l1 k=(g == k))∧(hd l1).text.toList=g∧term 8 l1.tail= .inr (iI σ 8 b,l')∧Tk s (p+(bB σ 8 a++(g++bB σ 8 b)).length) l'∧At s (p+(bB σ 8 a++(g++bB σ 8 b)).length) rest:=by
 obtain⟨c,r,hc,hw⟩:=C0 hb
 rw[List.append_assoc]at hA
 obtain⟨l1,e1,k1,a1⟩:=kJ σ 8 a ha s p l _ hl hA (by rcases hg with rfl | rfl | rfl | rfl | rfl<;>exact⟨_,_,Or.inl rfl,by decide⟩)
 have key:l1=⟨5,p+(bB σ 8 a).length,⟨g.toArray⟩⟩ :: l1.tail∧Tk s (p+(bB σ 8 a).length+g.length) l1.tail∧At s (p+(bB σ 8 a).length+g.length) (bB σ 8 b++rest):=by
  rcases hg with rfl | rfl | rfl | rfl | rfl
  ·exact k1.MB (a:=61) a1 (by decide) (by decide) (fun d q e=>by
    rw[hc]at e
    injection e with e _
    subst e
    exact Jy hw)
  ·exact k1.Ah (a:=61) (b:=61) a1 (by decide) (by decide)
  ·exact k1.Ah (a:=92) (b:=61) a1 (by decide) (by decide)
  ·exact k1.one 60 a1 (by decide)
  ·exact k1.Ah (a:=61) (b:=60) a1 (by decide) (by decide)
 obtain⟨q1,q2,q3⟩:=key
 obtain⟨l2,e2,k2,a2⟩:=kJ σ 8 b hb s _ _ _ q2 q3 hr.rest
 have hz:p+(bB σ 8 a).length+g.length+(bB σ 8 b).length=p+(bB σ 8 a++(g++bB σ 8 b)).length:=by simp;omega
 rw[hz]at k2 a2
 refine⟨l1,l2,e1,fun k=> ?_,?_,e2,k2,a2⟩
 ·rw[q1];exact ek _ g k _
 ·rw[q1];exact fK g
theorem Su {σ:gX} {a b:Tm} (ha:gH σ 8 a) (hb:gH σ 8 b) {tests:Bool} {s:ByteArray} {p:Nat} {l:List Tok} {rest:List UInt8} (hl:Tk s p l) (hA:At s p (bB σ 8 a++([61]++bB σ 8 b)++rest)) (hr:n9 rest):
 ∃l',item tests true l= .inr ((⟨iI σ 8 a,[61],some (iI σ 8 b),[],none⟩,false,true),l')∧Tk s (p+(bB σ 8 a++([61]++bB σ 8 b)).length) l'∧At s (p+(bB σ 8 a++([61]++bB σ 8 b)).length) rest:=by
 obtain⟨l1,l2,e1,e2,e3,e4,k,a⟩:=C3 ha hb (g:=[61]) (Or.inl rfl) hl hA hr
 refine⟨l2,?_,k,a⟩
 unfold item
 rw[e1]
 dsimp only
 unfold br
 rw[e2,e2,e2,e2,e2]
 unfold sides
 rw[e4,e3]
 rfl
theorem O3 {σ:gX} {a b:Tm} (ha:gH σ 8 a) (hb:gH σ 8 b) {g:List UInt8} (hg:g=[61,61]∨g=[92,61]∨g=[60]∨g=[61,60]) {goals:Bool} {s:ByteArray} {p:Nat} {l:List Tok} {rest:List UInt8} (hl:Tk s p l) (hA:At s p (bB σ 8 a++(g++bB σ 8 b)++rest)) (hr:n9 rest):
 ∃l',item true goals l= .inr ((⟨iI σ 8 a,g,some (iI σ 8 b),[],none⟩,true,false),l')∧Tk s (p+(bB σ 8 a++(g++bB σ 8 b)).length) l'∧At s (p+(bB σ 8 a++(g++bB σ 8 b)).length) rest:=by
 obtain⟨l1,l2,e1,e2,e3,e4,k,a⟩:=C3 ha hb (g:=g) (Or.inr hg) hl hA hr
 refine⟨l2,?_,k,a⟩
 unfold item
 rw[e1]
 dsimp only
 have ht:br l1=true:=by
  unfold br
  rw[e2,e2,e2,e2]
  rcases hg with rfl | rfl | rfl | rfl<;>decide
 rw[if_pos ht]
 unfold sides
 rw[e4,e3]
 rfl
theorem C4 {σ:gX} {x:aC} (h:ij σ x) {tests:Bool} {s:ByteArray} {p:Nat} {l:List Tok} {rest:List UInt8} (hl:Tk s p l) (hA:At s p (iY σ x++rest)) (hr:n9 rest):
 ∃l',item tests true l= .inr ((qJ σ x,false,true),l')∧Tk s (p+(iY σ x).length) l'∧At s (p+(iY σ x).length) rest:=by
 cases h with
 | call t h hk hi=>
  have e:iY σ ⟨t,[],none,[],none⟩=bB σ 8 t:=by simp[iY]
  rw[e]at hA⊢
  obtain⟨l',e1,k⟩:=C2 h hk (tests:=tests) (goals:=true) (by simp) hl hA hr
  refine⟨l',?_,k⟩
  rw[e1,hi,Bool.and_false]
  rfl
 | eq a b ha hb=>exact Su ha hb hl hA hr
theorem Me {σ:gX} {x:aC} (h:Ao σ x) {s:ByteArray} {p:Nat} {l:List Tok} {rest:List UInt8} (hl:Tk s p l) (hA:At s p (iY σ x++rest)) (hr:n9 rest):
 ∃l' g,item true true l= .inr ((qJ σ x,true,g),l')∧Tk s (p+(iY σ x).length) l'∧At s (p+(iY σ x).length) rest:=by
 cases h with
 | int t h hk hi=>
  have e:iY σ ⟨t,[],none,[],none⟩=bB σ 8 t:=by simp[iY]
  rw[e]at hA⊢
  obtain⟨l',e1,k⟩:=C2 h hk (tests:=true) (goals:=true) (by simp) hl hA hr
  refine⟨l',true,?_,k⟩
  rw[e1,hi]
  rfl
 | rel a b g ha hb hg=>
  obtain⟨l',e1,k⟩:=O3 ha hb hg (goals:=true) hl hA hr
  exact⟨l',false,e1,k⟩
def jl (σ:gX) (b:Bool):List aC→List UInt8
 | []=>[]
 | x :: xs=>iY σ x++xs.flatMap (fun y=>44 :: sp b++iY σ y)
theorem rD {σ:gX} {b:Bool} {tl:List UInt8} (htl:tl=[]∨∃r,tl=46 :: r):∀(xs:List aC) (x:aC) (k:Nat) (tests:Bool),xs.length≤k→ij σ x→(∀y∈xs,ij σ y)→∀(s:ByteArray) (p:Nat) (l:List Tok),Tk s p l→At s p (jl σ b (x :: xs)++tl)→∃l',items k tests true l= .inr (((x :: xs).map (qJ σ),false,true),l')∧Tk s (p+(jl σ b (x :: xs)).length) l'∧At s (p+(jl σ b (x :: xs)).length) tl
 | [],x,k,tests,_,hx,_,s,p,l,hl,ha=>by
  simp only[jl,List.flatMap_nil,List.append_nil]at ha⊢
  obtain⟨l1,e1,k1,a1⟩:=C4 hx (tests:=tests) hl ha (by
   rcases htl with rfl | ⟨r,rfl⟩
   ·exact⟨46,[],Or.inr (Or.inr rfl),by decide⟩
   ·exact⟨46,r,Or.inl rfl,by decide⟩)
  refine⟨l1,?_,k1,a1⟩
  have e2:sees l1 [44]=false:=by
   rcases htl with rfl | ⟨r,rfl⟩
   ·exact sA (k1.done a1) _
   ·obtain⟨e2,k2,a2⟩:=k1.one 46 a1 (by decide)
    rw[e2]
    exact ek _ [46] [44] _
  unfold items
  rw[e1]
  dsimp only
  rw[if_neg (by rw[e2];simp)]
  rfl
 | y :: ys,x,k,tests,hk,hx,hy,s,p,l,hl,ha=>by
  cases k with
  | zero=>simp at hk
  | succ k=>
   simp only[jl,List.flatMap_cons,List.append_assoc,List.cons_append]at ha
   obtain⟨l1,e1,k1,a1⟩:=C4 hx (tests:=tests) hl ha ⟨44,_,Or.inl rfl,by decide⟩
   obtain⟨e2,k2,a2⟩:=k1.one 44 a1 (by decide)
   obtain⟨k3,a3⟩:=k2.sp b a2
   obtain⟨l4,e4,k4,a4⟩:=rD (σ:=σ) (b:=b) htl ys y k false (by simpa using hk) (hy y (by simp)) (fun z hz=>hy z (by simp[hz])) s _ _ k3 (by simpa [jl] using a3)
   have hz:p+(iY σ x).length+1+(sp b).length+(jl σ b (y :: ys)).length=p+(jl σ b (x :: y :: ys)).length:=by simp[jl];omega
   rw[hz]at k4 a4
   refine⟨l4,?_,k4,a4⟩
   unfold items
   rw[e1]
   dsimp only
   rw[if_pos (show sees l1 [44]=true by rw[e2];exact ek _ [44] [44] _)]
   rw[e4]
   rfl
theorem zV {σ:gX} {b:Bool} (xs:List aC) (x:aC) (k:Nat) (tests:Bool) (hk:xs.length≤k) (hx:ij σ x) (hy:∀y∈xs,ij σ y) (s:ByteArray) (p:Nat) (l:List Tok) (rest:List UInt8) (hl:Tk s p l) (ha:At s p (jl σ b (x :: xs)++46 :: rest)):∃l',items k tests true l= .inr (((x :: xs).map (qJ σ),false,true),l')∧Tk s (p+(jl σ b (x :: xs)).length) l'∧At s (p+(jl σ b (x :: xs)).length) (46 :: rest):=
 rD (Or.inr ⟨rest,rfl⟩) xs x k tests hk hx hy s p l hl ha
def rP (σ:gX) (b:Bool) (c:aG):List UInt8:=bB σ 8 c.head++(match c.goals with
 | []=>[]
 | g :: gs=>sp b++([58,45]++(sp b++((match c.tests with
  | []=>[]
  | x :: _=>iY σ x++(sp b++([124]++sp b)))++jl σ b (g :: gs)))))++(46 :: nl b)
def C5 (σ:gX) (c:aG):aG:=⟨iI σ 8 c.head,c.tests.map (qJ σ),c.goals.map (qJ σ)⟩
structure yF (σ:gX) (c:aG):Prop where
 head:gH σ 8 c.head
 name:c.head.kind=2
 tests:c.tests=[]∨∃x,c.tests=[x]∧Ao σ x
 goals:∀x∈c.goals,ij σ x
 few:c.goals.length≤6
 fact:c.goals=[]→c.tests=[]
theorem O4 {σ:gX} {t:Tm} (h:gH σ 8 t) (hk:t.kind=2) {s:ByteArray} {p:Nat} {l:List Tok} {rest:List UInt8} (hl:Tk s p l) (ha:At s p (bB σ 8 t++rest)):(hd l).kind=2:=by
 obtain⟨c,r,hc,hw⟩:=C0 h
 rw[hc]at ha
 obtain⟨h1,h2,h3⟩:=At.head (c:=c) (x:=r++rest) ha
 obtain⟨t1,_⟩:=hl.tok (c:=c) (x:=r++rest) ha (pL hw)
 rw[t1]
 show aO s p=2
 have yu:low c.toNat=true:=by
  rcases h with⟨q,_⟩ | ⟨q,_⟩ | ⟨q,⟨c',r',q1,q2,q3⟩,_⟩
  ·omega
  ·omega
  ·have:bB σ 8 t=c' :: (r'++arS (t.args.map (bB σ 7))):=by unfold bB;rw[if_neg (by omega),if_neg (by omega),q1];rfl
   rw[hc]at this
   injection this with e _
   subst e
   rcases q2 with⟨_,z⟩ | ⟨z,_⟩ | ⟨z,_⟩
   ·exact z
   ·omega
   ·omega
 exact(yK h1 (by rw[h2];exact yu)).1
theorem Mf {σ:gX} {b:Bool} {c:aG} (h:yF σ c) {g:aC} {gs:List aC} (hg:c.goals=g :: gs) {s:ByteArray} {p:Nat} {l:List Tok} {rest:List UInt8} (hl:Tk s p l) (ha:At s p (((match c.tests with
 | []=>[]
 | x :: _=>iY σ x++(sp b++([124]++sp b)))++jl σ b (g :: gs))++46 :: rest)):
 ∃l',body l= .inr ((c.tests.map (qJ σ),c.goals.map (qJ σ)),l')∧Tk s (p+((match c.tests with
 | []=>[]
 | x :: _=>iY σ x++(sp b++([124]++sp b)))++jl σ b (g :: gs)).length) l'∧At s (p+((match c.tests with
 | []=>[]
 | x :: _=>iY σ x++(sp b++([124]++sp b)))++jl σ b (g :: gs)).length) (46 :: rest):=by
 have hgg:ij σ g:=h.goals g (by rw[hg];simp)
 have uR:∀y∈gs,ij σ y:=fun y hy=>h.goals y (by rw[hg];simp[hy])
 have h6:gs.length≤5:=by have:=h.few;rw[hg]at this;simpa using this
 rcases h.tests with ht | ⟨x,ht,hx⟩
 ·rw[ht]at ha⊢
  simp only[List.nil_append]at ha⊢
  obtain⟨l1,e1,k1,a1⟩:=zV gs g 5 true h6 hgg uR s p l rest hl ha
  refine⟨l1,?_,k1,a1⟩
  unfold body
  rw[e1]
  dsimp only
  rw[if_neg (by simp),if_pos rfl,hg]
  rfl
 ·rw[ht]at ha⊢
  dsimp only at ha⊢
  simp only[List.append_assoc]at ha
  obtain⟨l1,fg,e1,k1,a1⟩:=Me hx hl ha (by cases b;exact⟨124,_,Or.inl rfl,by decide⟩;exact⟨124,_,Or.inr (Or.inl rfl),by decide⟩)
  obtain⟨k2,a2⟩:=k1.sp b a1
  obtain⟨e3,k3,a3⟩:=k2.one 124 a2 (by decide)
  obtain⟨k4,a4⟩:=k3.sp b a3
  obtain⟨l5,e5,k5,a5⟩:=zV gs g 5 false h6 hgg uR s _ _ rest k4 a4
  have hz:p+(iY σ x).length+(sp b).length+1+(sp b).length+(jl σ b (g :: gs)).length=p+(iY σ x++(sp b++([124]++sp b))++jl σ b (g :: gs)).length:=by simp;omega
  rw[hz]at k5 a5
  refine⟨l5,?_,k5,a5⟩
  have Wd:sees l1 [44]=false:=by rw[e3];exact ek _ [124] [44] _
  have Tn:sees l1 [124]=true:=by rw[e3];exact ek _ [124] [124] _
  have e6:items 5 true true l= .inr (([qJ σ x],true,fg),l1):=by
   unfold items
   rw[e1]
   dsimp only
   rw[if_neg (by rw[Wd];simp)]
  unfold body
  rw[e6]
  dsimp only
  rw[if_pos ⟨rfl,Tn⟩,e5]
  dsimp only
  rw[if_pos rfl,hg]
  rfl
theorem Gg {σ:gX} {b:Bool} {c:aG} (h:yF σ c) {s:ByteArray} {p:Nat} {l:List Tok} {rest:List UInt8} (hl:Tk s p l) (ha:At s p (rP σ b c++rest)):
 (hd l).kind=2∧∃l',clause true l= .inr (C5 σ c,l')∧Tk s (p+(rP σ b c).length) l'∧At s (p+(rP σ b c).length) rest:=by
 unfold rP at ha
 simp only[List.append_assoc,List.cons_append]at ha
 have hk:=O4 h.head h.name hl ha
 refine⟨hk,?_⟩
 cases hg:c.goals with
 | nil=>
  rw[hg]at ha
  dsimp only at ha
  simp only[List.nil_append]at ha
  obtain⟨l1,e1,k1,a1⟩:=kJ σ 8 c.head h.head s p l _ hl ha ⟨46,_,Or.inl rfl,by decide⟩
  obtain⟨e2,k2,a2⟩:=k1.one 46 a1 (by decide)
  obtain⟨k3,a3⟩:=k2.nl b a2
  have hz:p+(bB σ 8 c.head).length+1+(nl b).length=p+(rP σ b c).length:=by unfold rP;rw[hg];simp;omega
  rw[hz]at k3 a3
  refine⟨l1.tail,?_,k3,a3⟩
  have n1:sees l1 [58,45]=false:=by rw[e2];exact ek _ [46] [58,45] _
  have n2:sees l1 [46]=true:=by rw[e2];exact ek _ [46] [46] _
  unfold clause
  rw[if_pos hk,if_pos rfl,e1]
  dsimp only
  rw[if_neg (by rw[n1];simp)]
  unfold stop
  rw[if_pos n2]
  unfold C5
  rw[hg,h.fact hg]
  rfl
 | cons g gs=>
  rw[hg]at ha
  dsimp only at ha
  obtain⟨l1,e1,k1,a1⟩:=kJ σ 8 c.head h.head s p l _ hl ha (by cases b;exact⟨58,_,Or.inl rfl,by decide⟩;exact⟨58,_,Or.inr (Or.inl rfl),by decide⟩)
  obtain⟨k2,a2⟩:=k1.sp b (by simpa using a1)
  obtain⟨e3,k3,a3⟩:=k2.Ah (a:=58) (b:=45) a2 (by decide) (by decide)
  obtain⟨k4,a4⟩:=k3.sp b a3
  obtain⟨l5,e5,k5,a5⟩:=Mf h hg k4 (b:=b) (rest:=nl b++rest) (by simpa using a4)
  obtain⟨e6,k6,a6⟩:=k5.one 46 a5 (by decide)
  obtain⟨k7,a7⟩:=k6.nl b a6
  have hz:p+(bB σ 8 c.head).length+(sp b).length+2+(sp b).length+((match c.tests with
  | []=>[]
  | x :: _=>iY σ x++(sp b++([124]++sp b)))++jl σ b (g :: gs)).length+1+(nl b).length=p+(rP σ b c).length:=by unfold rP;rw[hg];simp;omega
  rw[hz]at k7 a7
  refine⟨l5.tail,?_,k7,a7⟩
  have n1:sees l1 [58,45]=true:=by rw[e3];exact ek _ [58,45] [58,45] _
  have n2:sees l5 [46]=true:=by rw[e6];exact ek _ [46] [46] _
  unfold clause
  rw[if_pos hk,if_pos rfl,e1]
  dsimp only
  rw[if_pos n1,e5]
  dsimp only
  unfold stop
  rw[if_pos n2]
  rfl
end Za
