import Derived.Test.YthfjnfcekeknlaaGreatDoorMe02
set_option maxHeartbeats 8000000
set_option maxRecDepth 100000
namespace Zc
open Go
def At (s:ByteArray) (p:Nat) (x:List UInt8):Prop:=p≤s.size∧s.data.toList.drop p=x
theorem At.start (s:ByteArray):At s 0 s.data.toList:=⟨Nat.zero_le _,rfl⟩
theorem At.head {s:ByteArray} {p:Nat} {c:UInt8} {x:List UInt8} (h:At s p (c :: x)):p<s.size∧bQ s p=c.toNat∧At s (p+1) x:=by
 have hl:=oY s
 have hp:p<s.size:=by
  have:=congrArg List.length h.2
  rw[List.length_drop]at this
  simp at this
  have:=h.1
  omega
 have h2:=h.2
 rw[List.drop_eq_getElem_cons (by omega)]at h2
 injection h2 with h3 h4
 exact⟨hp,by rw[iw hp,←h3,get_eq hp],by omega,h4⟩
theorem At.nil {s:ByteArray} {p:Nat} (h:At s p []):p=s.size:=by
 have hl:=oY s
 have:=congrArg List.length h.2
 rw[List.length_drop]at this
 simp at this
 have:=h.1
 omega
theorem At.more {s:ByteArray}:∀{x y:List UInt8} {p:Nat},At s p (x++y)→At s (p+x.length) y
 | [],_,_,h=>h
 | c :: x,y,p,h=>by
  have:=(At.head (c:=c) (x:=x++y) h).2.2.more
  rw[List.length_cons]
  rwa [show p+(x.length+1)=p+1+x.length by omega]
theorem At.text {s:ByteArray} {p:Nat} {x y:List UInt8} (h:At s p (x++y)):s.extract p (p+x.length)=⟨x.toArray⟩:=by
 have e:(s.extract p (p+x.length)).toList=x:=by
  rw[Lib.extract_toList,h.2,show p+x.length - p=x.length by omega]
  simp
 rw[ByteArray.toList_eq]at e
 exact ByteArray.ext (Array.ext' (by simpa using e))
def Tk (s:ByteArray) (p:Nat) (l:List aj):Prop:=eo s l∧hd l=next s p
theorem Tk.blank {s:ByteArray} {p:Nat} {l:List aj} {c:UInt8} {x:List UInt8} (h:Tk s p l) (ha:At s p (c :: x)) (hb:Zc.blank c.toNat=true):Tk s (p+1) l∧At s (p+1) x:=by
 obtain⟨h1,h2,h3⟩:=ha.head
 exact⟨⟨h.1,h.2.trans (Fs h1 (by rw[h2];exact hb))⟩,h3⟩
theorem Tk.tok {s:ByteArray} {p:Nat} {l:List aj} {c:UInt8} {x:List UInt8} (h:Tk s p l) (ha:At s p (c :: x)) (hb:Zc.blank c.toNat=false):l=⟨aR s p,p,s.extract p (cX s p)⟩ :: l.tail∧Tk s (cX s p) l.tail:=by
 obtain⟨h1,h2,h3⟩:=ha.head
 have hn:=G5 h1 (by rw[h2];exact hb)
 have hk:(hd l).kind≠0:=by
  rw[h.2,hn]
  show aR s p≠0
  rw[Ne,qD]
  omega
 have YA:(hd l).pos+(hd l).text.size=cX s p:=by
  have e:skip s p=p:=pQ (by rw[h2,hb];simp)
  rw[h.2]
  have:=@ny s p (by rw[e];exact h1)
  rw[e]at this
  exact this
 obtain⟨t1,t2,t3⟩:=h.1.tail hk
 rw[YA]at t2
 refine⟨?_,t1,t2⟩
 rw[h.2,hn]at t3
 exact t3
theorem Tk.done {s:ByteArray} {p:Nat} {l:List aj} (h:Tk s p l) (ha:At s p []):(hd l).kind=0:=by
 rw[h.2,lF]
 have:=oM s p
 have:=ha.nil
 omega
theorem Dj {s:ByteArray} {k:Nat}:∀{wd rest:List UInt8} {p:Nat},At s p (wd++rest)→(∀c∈wd,dt k c.toNat=true)→(∀c r,rest=c :: r→dt k c.toNat=false)→cY s k p=p+wd.length
 | [],rest,p,h,_,hr=>by
  refine oV ?_
  cases rest with
  | nil=>have:=h.nil;omega
  | cons c r=>
   obtain⟨h1,h2,h3⟩:=At.head (c:=c) (x:=r) h
   rw[h2,hr c r rfl]
   simp
 | c :: wd,rest,p,h,hw,hr=>by
  obtain⟨h1,h2,h3⟩:=At.head (c:=c) (x:=wd++rest) h
  rw[oU h1 (by rw[h2];exact hw c (by simp)),Dj h3 (fun d hd=>hw d (by simp[hd])) hr,List.length_cons]
  omega
theorem Mz {k c:Nat} (h:dt 3 c=false) (hk:k=2∨k=3∨k=4):dt k c=false:=by
 unfold dt at h⊢
 rcases hk with rfl | rfl | rfl
 ·simp at h⊢
  exact h.1
 ·exact h
 ·simp at h⊢
  exact h.1.2
def jY (k:Nat) (x:List UInt8):Prop:=∃c r,x=c :: r∧(k=2∧low c.toNat=true∨k=3∧i6 c.toNat=true∨k=4∧iO c.toNat=true)∧∀d∈x,dt k d.toNat=true
theorem Pj {c:Nat} (h:i6 c=true):low c=false:=by unfold i6 at h;unfold low;simp at h⊢;omega
theorem E9 {c:Nat} (h:iO c=true):low c=false∧i6 c=false:=by unfold iO at h;unfold low i6;simp at h⊢;omega
theorem qy {c:Nat} (h:low c=true∨i6 c=true∨iO c=true):blank c=false:=by unfold low i6 iO at h;unfold blank;simp at h⊢;omega
theorem Tk.word {s:ByteArray} {k p:Nat} {l:List aj} {x rest:List UInt8} (h:Tk s p l) (hx:jY k x) (ha:At s p (x++rest)) (hr:∀c r,rest=c :: r→dt 3 c.toNat=false):l=⟨k,p,⟨x.toArray⟩⟩ :: l.tail∧Tk s (p+x.length) l.tail∧At s (p+x.length) rest:=by
 obtain⟨c,r,rfl,hc,hw⟩:=hx
 have hk:k=2∨k=3∨k=4:=by omega
 obtain⟨h1,h2,h3⟩:=At.head (c:=c) (x:=r++rest) ha
 have hb:Zc.blank c.toNat=false:=by
  rcases hc with⟨_,q⟩ | ⟨_,q⟩ | ⟨_,q⟩
  ·exact qy (Or.inl q)
  ·exact qy (Or.inr (Or.inl q))
  ·exact qy (Or.inr (Or.inr q))
 have hend:=Dj (k:=k) ha hw (fun c r q=>Mz (hr c r q) hk)
 have ry:aR s p=k∧cX s p=p+(c :: r).length:=by
  rw[←hend]
  rcases hc with⟨rfl,q⟩ | ⟨rfl,q⟩ | ⟨rfl,q⟩
  ·exact y9 h1 (by rw[h2];exact q)
  ·exact Ku h1 (by rw[h2];exact Pj q) (by rw[h2];exact q)
  ·exact Kv h1 (by rw[h2];exact(E9 q).1) (by rw[h2];exact(E9 q).2) (by rw[h2];exact q)
 obtain⟨t1,t2⟩:=h.tok ha hb
 rw[ry.1,ry.2,ha.text]at t1
 rw[ry.2]at t2
 exact⟨t1,t2,ha.more⟩
def uC (c:Nat):Bool:= !low c&& !i6 c&& !iO c&& !blank c
theorem Tk.A1 {s:ByteArray} {p:Nat} {l:List aj} {a b:UInt8} {rest:List UInt8} (h:Tk s p l) (ha:At s p (a :: b :: rest)) (hn:uC a.toNat=true) (hl:dr a.toNat b.toNat=true):l=⟨5,p,⟨#[a,b]⟩⟩ :: l.tail∧Tk s (p+2) l.tail∧At s (p+2) rest:=by
 obtain⟨h1,h2,h3⟩:=ha.head
 obtain⟨k1,k2,k3⟩:=h3.head
 unfold uC at hn
 simp only[Bool.and_eq_true,Bool.not_eq_true']at hn
 obtain⟨⟨⟨n1,n2⟩,n3⟩,n4⟩:=hn
 have hs:cG s p=2:=by unfold cG;rw[h2,k2,if_pos ⟨by omega,hl⟩]
 have ry:=zf h1 (by rw[h2];exact n1) (by rw[h2];exact n2) (by rw[h2];exact n3) (by omega)
 rw[hs]at ry
 obtain⟨t1,t2⟩:=h.tok ha n4
 rw[ry.1,ry.2,show s.extract p (p+2)=_ from At.text (x:=[a,b]) (y:=rest) ha]at t1
 rw[ry.2]at t2
 exact⟨t1,t2,k3⟩
theorem Tk.NW {s:ByteArray} {p:Nat} {l:List aj} {a:UInt8} {rest:List UInt8} (h:Tk s p l) (ha:At s p (a :: rest)) (hn:uC a.toNat=true) (hs:fB a.toNat=true) (hl:∀c r,rest=c :: r→dr a.toNat c.toNat=false):l=⟨5,p,⟨#[a]⟩⟩ :: l.tail∧Tk s (p+1) l.tail∧At s (p+1) rest:=by
 obtain⟨h1,h2,h3⟩:=ha.head
 unfold uC at hn
 simp only[Bool.and_eq_true,Bool.not_eq_true']at hn
 obtain⟨⟨⟨n1,n2⟩,n3⟩,n4⟩:=hn
 have hs:cG s p=1:=by
  unfold cG
  rw[if_neg,if_pos ⟨h1,by rw[h2];exact hs⟩]
  rintro⟨q1,q2⟩
  cases rest with
  | nil=>have:=h3.nil;omega
  | cons c r=>
   obtain⟨k1,k2,k3⟩:=h3.head
   rw[h2,k2,hl c r rfl]at q2
   cases q2
 have ry:=zf h1 (by rw[h2];exact n1) (by rw[h2];exact n2) (by rw[h2];exact n3) (by omega)
 rw[hs]at ry
 obtain⟨t1,t2⟩:=h.tok ha n4
 rw[ry.1,ry.2,show s.extract p (p+1)=_ from At.text (x:=[a]) (y:=rest) ha]at t1
 rw[ry.2]at t2
 exact⟨t1,t2,h3⟩
theorem Tk.first {s:ByteArray} {p:Nat} {l:List aj} {c:UInt8} {x:List UInt8} (h:Tk s p l) (ha:At s p (c :: x)) (hb:Zc.blank c.toNat=false):∃r,(hd l).text.toList=c :: r:=by
 obtain⟨h1,h2,h3⟩:=ha.head
 obtain⟨t1,_⟩:=h.tok ha hb
 rw[t1]
 show∃r,(s.extract p (cX s p)).toList=c :: r
 have:=oW h1
 rw[Lib.extract_toList,ha.2]
 cases hq:cX s p - p with
 | zero=>omega
 | succ n=>exact⟨_,rfl⟩
structure iK where
 v:ByteArray→ByteArray
 n:ByteArray→ByteArray
def arS:List (List UInt8)→List UInt8
 | []=>[]
 | x :: xs=>40 :: x++xs.flatMap (fun y=>44 :: y)++[41]
def bD (σ:iK):Nat→Tm→List UInt8
 | 0,_=>[]
 | f+1,t=>if t.kind=3 then(σ.v t.text).toList else if t.kind=4 then(σ.n t.text).toList else t.text.toList++arS (t.args.map (bD σ f))
def gD (σ:iK):Nat→Tm→Tm
 | 0,t=>t
 | f+1,t=>if t.kind=3 then⟨3,σ.v t.text,[]⟩else if t.kind=4 then⟨4,σ.n t.text,[]⟩else⟨2,t.text,t.args.map (gD σ f)⟩
def gF (σ:iK):Nat→Tm→Prop
 | 0,_=>False
 | f+1,t=>(t.kind=3∧jY 3 (σ.v t.text).toList)∨(t.kind=4∧jY 4 (σ.n t.text).toList∧(σ.n t.text).size≤6)∨(t.kind=2∧jY 2 t.text.toList∧t.args.length≤3∧∀a∈t.args,gF σ f a)
def stops:List UInt8:=[44,41,61,60,92,124,46,58]
def uD (rest:List UInt8):Prop:=∃c r,(rest=c :: r∨rest=32 :: c :: r∨rest=[])∧c∈stops
theorem vw (b:ByteArray):(⟨b.toList.toArray⟩:ByteArray)=b:=by
 rw[ByteArray.toList_eq]
theorem dA (x:List UInt8):(⟨x.toArray⟩:ByteArray).toList=x:=by
 rw[ByteArray.toList_eq]
theorem lB {c:UInt8} (h:c∈stops):Zc.blank c.toNat=false∧dt 3 c.toNat=false∧c≠40:=by
 simp only[stops,List.mem_cons,List.not_mem_nil,or_false]at h
 rcases h with rfl | rfl | rfl | rfl | rfl | rfl | rfl | rfl<;>decide
theorem uD.word {rest:List UInt8} (h:uD rest):∀c r,rest=c :: r→dt 3 c.toNat=false:=by
 obtain⟨c,r,h1 | h1 | h1,h2⟩:=h
 ·intro d q hq
  rw[h1]at hq
  injection hq with e _
  subst e
  exact(lB h2).2.1
 ·intro d q hq
  rw[h1]at hq
  injection hq with e _
  subst e
  decide
 ·intro d q hq
  rw[h1]at hq
  cases hq
theorem iF {l:List aj} {c d:UInt8} {r g:List UInt8} (h:(hd l).text.toList=c :: r) (hd:c≠d):sees l (d :: g)=false:=by
 unfold sees
 rw[h]
 simp[hd]
theorem uE {l:List aj} (h:(hd l).kind=0) (g:List UInt8):sees l g=false:=by
 unfold sees
 rw[h]
 rfl
theorem Tk.rest {s:ByteArray} {p:Nat} {l:List aj} {rest:List UInt8} (h:Tk s p l) (ha:At s p rest) (hr:uD rest):sees l [40]=false:=by
 obtain⟨c,r,h1 | h1 | h1,h2⟩:=hr
 ·subst h1
  obtain⟨q,hq⟩:=h.first ha (lB h2).1
  exact iF hq (lB h2).2.2
 ·subst h1
  obtain⟨k1,k2⟩:=h.blank ha (by decide)
  obtain⟨q,hq⟩:=k1.first k2 (lB h2).1
  exact iF hq (lB h2).2.2
 ·subst h1
  exact uE (h.done ha) _
theorem fe (p:Nat) (x g:List UInt8) (m:List aj):sees (⟨5,p,⟨x.toArray⟩⟩ :: m) g=(x == g):=by
 show ((5 == 5)&&(⟨x.toArray⟩:ByteArray).toList == g)=_
 rw[dA]
 rfl
theorem Pk {a:Nat} (h:a≠58∧a≠61∧a≠92) (c:Nat):dr a c=false:=by
 unfold dr
 simp[h.1,h.2.1,h.2.2]
theorem Tk.one {s:ByteArray} {p:Nat} {l:List aj} {rest:List UInt8} (a:UInt8) (h:Tk s p l) (ha:At s p (a :: rest)) (hq:(uC a.toNat&&fB a.toNat&&a != 58&&a != 61&&a != 92)=true):l=⟨5,p,⟨#[a]⟩⟩ :: l.tail∧Tk s (p+1) l.tail∧At s (p+1) rest:=by
 simp only[Bool.and_eq_true,bne_iff_ne,ne_eq]at hq
 obtain⟨⟨⟨⟨h1,h2⟩,h3⟩,h4⟩,h5⟩:=hq
 refine h.NW ha h1 h2 (fun c r _=>Pk ⟨fun e=>h3 ?_,fun e=>h4 ?_,fun e=>h5 ?_⟩ _)
 ·exact UInt8.toNat_inj.1 e
 ·exact UInt8.toNat_inj.1 e
 ·exact UInt8.toNat_inj.1 e
def MA (σ:iK) (f:Nat) (t:Tm):Prop:=∀(s:ByteArray) (p:Nat) (l:List aj) (rest:List UInt8),Tk s p l→At s p (bD σ f t++rest)→uD rest→∃l',term f l= .inr (gD σ f t,l')∧Tk s (p+(bD σ f t).length) l'∧At s (p+(bD σ f t).length) rest
theorem Dk {σ:iK} {f:Nat}:∀(ts:List Tm) (t:Tm) (k:Nat),ts.length≤k→MA σ f t→(∀u∈ts,MA σ f u)→∀(s:ByteArray) (p:Nat) (l:List aj) (rest:List UInt8),Tk s p l→At s p (bD σ f t++(ts.map (bD σ f)).flatMap (fun y=>44 :: y)++41 :: rest)→∃l',bL (term f) k l= .inr (gD σ f t :: ts.map (gD σ f),l')∧Tk s (p+(bD σ f t++(ts.map (bD σ f)).flatMap (fun y=>44 :: y)).length+1) l'∧At s (p+(bD σ f t++(ts.map (bD σ f)).flatMap (fun y=>44 :: y)).length+1) rest
 | [],t,k,_,ht,_,s,p,l,rest,hl,ha=>by
  simp only[List.map_nil,List.flatMap_nil,List.append_nil]at ha⊢
  obtain⟨l1,e1,k1,a1⟩:=ht s p l _ hl ha ⟨41,rest,Or.inl rfl,by decide⟩
  obtain⟨e2,k2,a2⟩:=k1.one 41 a1 (by decide)
  refine⟨l1.tail,?_,k2,a2⟩
  rw[bL,e1]
  dsimp only
  rw[e2]
  rw[show sees (⟨5,p+(bD σ f t).length,⟨#[41]⟩⟩ :: l1.tail) [44]=false from fe _ [41] [44] _,show sees (⟨5,p+(bD σ f t).length,⟨#[41]⟩⟩ :: l1.tail) [41]=true from fe _ [41] [41] _]
  rfl
 | u :: ts,t,k,hk,ht,hu,s,p,l,rest,hl,ha=>by
  cases k with
  | zero=>simp at hk
  | succ k=>
   simp only[List.map_cons,List.flatMap_cons,List.append_assoc,List.cons_append]at ha
   obtain⟨l1,e1,k1,a1⟩:=ht s p l _ hl ha ⟨44,_,Or.inl rfl,by decide⟩
   obtain⟨e2,k2,a2⟩:=k1.one 44 a1 (by decide)
   obtain⟨l3,e3,k3,a3⟩:=Dk ts u k (by simpa using hk) (hu u (by simp)) (fun x hx=>hu x (by simp[hx])) s _ _ rest k2 (by simpa using a2)
   have hz:p+(bD σ f t).length+1+(bD σ f u++(ts.map (bD σ f)).flatMap (fun y=>44 :: y)).length+1=p+(bD σ f t++((u :: ts).map (bD σ f)).flatMap (fun y=>44 :: y)).length+1:=by
    simp;omega
   rw[hz]at k3 a3
   refine⟨l3,?_,k3,a3⟩
   rw[bL,e1]
   dsimp only
   rw[e2]
   rw[if_pos (show sees (⟨5,p+(bD σ f t).length,⟨#[44]⟩⟩ :: l1.tail) [44]=true from fe _ [44] [44] _)]
   show (match bL (term f) k l1.tail with | .inl e=>_ | .inr (ts,l2)=>_)=_
   rw[e3]
   rfl
theorem lC (σ:iK):∀(f:Nat) (t:Tm),gF σ f t→MA σ f t
 | 0,_,h=>h.elim
 | f+1,t,h=>by
  intro s p l rest hl ha hr
  rcases h with⟨hk,hw⟩ | ⟨hk,hw,h6⟩ | ⟨hk,hw,h3,NX⟩
  ·have e0:bD σ (f+1) t=(σ.v t.text).toList:=by unfold bD;rw[if_pos hk]
   have e1:gD σ (f+1) t=⟨3,σ.v t.text,[]⟩:=by unfold gD;rw[if_pos hk]
   rw[e0]at ha⊢
   obtain⟨k1,k2,k3⟩:=hl.word hw ha hr.word
   rw[vw]at k1
   refine⟨l.tail,?_,k2,k3⟩
   rw[e1,k1]
   rfl
  ·have e0:bD σ (f+1) t=(σ.n t.text).toList:=by unfold bD;rw[if_neg (by omega),if_pos hk]
   have e1:gD σ (f+1) t=⟨4,σ.n t.text,[]⟩:=by unfold gD;rw[if_neg (by omega),if_pos hk]
   rw[e0]at ha⊢
   obtain⟨k1,k2,k3⟩:=hl.word hw ha hr.word
   rw[vw]at k1
   refine⟨l.tail,?_,k2,k3⟩
   rw[e1,k1]
   unfold term
   rw[if_pos (show dw (hd (⟨4,p,σ.n t.text⟩ :: l.tail))=true from rfl),if_neg (show¬((hd (⟨4,p,σ.n t.text⟩ :: l.tail)).kind=4∧6<(hd (⟨4,p,σ.n t.text⟩ :: l.tail)).text.size)from fun q=>by have:=q.2;change 6<(σ.n t.text).size at this;omega)]
   rfl
  ·have e0:bD σ (f+1) t=t.text.toList++arS (t.args.map (bD σ f)):=by unfold bD;rw[if_neg (by omega),if_neg (by omega)]
   have e1:gD σ (f+1) t=⟨2,t.text,t.args.map (gD σ f)⟩:=by unfold gD;rw[if_neg (by omega),if_neg (by omega)]
   rw[e0]at ha⊢
   cases hA:t.args with
   | nil=>
    rw[hA]at ha e1
    simp only[List.map_nil,arS,List.append_nil]at ha e1⊢
    obtain⟨k1,k2,k3⟩:=hl.word hw ha hr.word
    rw[vw]at k1
    refine⟨l.tail,?_,k2,k3⟩
    have hs:sees l.tail [40]=false:=k2.rest k3 hr
    rw[e1,k1]
    unfold term
    rw[if_pos (show dw (hd (⟨2,p,t.text⟩ :: l.tail))=true from rfl),if_neg (show¬((hd (⟨2,p,t.text⟩ :: l.tail)).kind=4∧6<(hd (⟨2,p,t.text⟩ :: l.tail)).text.size)from fun q=>by have:=q.1;change 2=4 at this;omega),if_pos (show (hd (⟨2,p,t.text⟩ :: l.tail)).kind=2 from rfl),if_neg (show¬sees (List.tail (⟨2,p,t.text⟩ :: l.tail)) [40]=true from by rw[List.tail_cons,hs];simp)]
    rfl
   | cons u ts=>
    rw[hA]at ha e1 h3
    have hu:=lC σ f u (NX u (by rw[hA];simp))
    have su:=fun x (hx:x∈ts)=>lC σ f x (NX x (by rw[hA];simp[hx]))
    simp only[List.map_cons,arS,List.append_assoc,List.cons_append,List.nil_append]at ha
    obtain⟨k1,k2,k3⟩:=hl.word hw ha (fun c r q=>by injection q with q _;subst q;decide)
    rw[vw]at k1
    obtain⟨j1,j2,j3⟩:=k2.one 40 k3 (by decide)
    obtain⟨l3,e3,m3,a3⟩:=Dk ts u 2 (by simpa using h3) hu su s _ _ rest j2 (by simpa using j3)
    have hz:p+t.text.toList.length+1+(bD σ f u++(ts.map (bD σ f)).flatMap (fun y=>44 :: y)).length+1=p+(t.text.toList++arS ((u :: ts).map (bD σ f))).length:=by
     simp[arS];omega
    rw[hz]at m3 a3
    refine⟨l3,?_,m3,a3⟩
    rw[e1,k1]
    unfold term
    rw[if_pos (show dw (hd (⟨2,p,t.text⟩ :: l.tail))=true from rfl),if_neg (show¬((hd (⟨2,p,t.text⟩ :: l.tail)).kind=4∧6<(hd (⟨2,p,t.text⟩ :: l.tail)).text.size)from fun q=>by have:=q.1;change 2=4 at this;omega),if_pos (show (hd (⟨2,p,t.text⟩ :: l.tail)).kind=2 from rfl),if_pos (show sees (List.tail (⟨2,p,t.text⟩ :: l.tail)) [40]=true from by rw[List.tail_cons,j1];exact fe _ [40] [40] _)]
    show (match bL (term f) 2 l.tail.tail with | .inl e=>_ | .inr (ts,l2)=>_)=_
    rw[e3]
    rfl
def sp (b:Bool):List UInt8:=if b=true then [32]else []
def nl (b:Bool):List UInt8:=if b=true then [10]else []
theorem Tk.sp {s:ByteArray} {p:Nat} {l:List aj} {rest:List UInt8} (b:Bool) (h:Tk s p l) (ha:At s p (Zc.sp b++rest)):Tk s (p+(Zc.sp b).length) l∧At s (p+(Zc.sp b).length) rest:=by
 cases b
 ·exact⟨h,ha⟩
 ·exact h.blank (c:=32) ha (by decide)
theorem Tk.nl {s:ByteArray} {p:Nat} {l:List aj} {rest:List UInt8} (b:Bool) (h:Tk s p l) (ha:At s p (Zc.nl b++rest)):Tk s (p+(Zc.nl b).length) l∧At s (p+(Zc.nl b).length) rest:=by
 cases b
 ·exact⟨h,ha⟩
 ·exact h.blank (c:=10) ha (by decide)
theorem Dl {σ:iK} {f:Nat} {t:Tm} (h:gF σ f t):∃c r,bD σ f t=c :: r∧(low c.toNat=true∨i6 c.toNat=true∨iO c.toNat=true):=by
 cases f with
 | zero=>exact h.elim
 | succ f=>
  rcases h with⟨hk,c,r,h1,h2,h3⟩ | ⟨hk,⟨c,r,h1,h2,h3⟩,_⟩ | ⟨hk,⟨c,r,h1,h2,h3⟩,_⟩
  ·refine⟨c,r,?_,by rcases h2 with⟨_,q⟩ | ⟨_,q⟩ | ⟨_,q⟩<;>simp[q]⟩
   unfold bD;rw[if_pos hk,h1]
  ·refine⟨c,r,?_,by rcases h2 with⟨_,q⟩ | ⟨_,q⟩ | ⟨_,q⟩<;>simp[q]⟩
   unfold bD;rw[if_neg (by omega),if_pos hk,h1]
  ·refine⟨c,r++arS (t.args.map (bD σ f)),?_,by rcases h2 with⟨_,q⟩ | ⟨_,q⟩ | ⟨_,q⟩<;>simp[q]⟩
   unfold bD;rw[if_neg (by omega),if_neg (by omega),h1];rfl
theorem J5 {a c:Nat} (h:low c=true∨i6 c=true∨iO c=true):dr a c=false:=by
 unfold low i6 iO at h
 unfold dr
 simp at h⊢
 omega
def ends:List UInt8:=[44,46,124]
def oL (rest:List UInt8):Prop:=∃c r,(rest=c :: r∨rest=32 :: c :: r∨rest=[])∧c∈ends
theorem rZ {c:UInt8} (h:c∈ends):c∈stops:=by
 simp only[ends,List.mem_cons,List.not_mem_nil,or_false]at h
 rcases h with rfl | rfl | rfl<;>decide
theorem oL.rest {rest:List UInt8} (h:oL rest):uD rest:=by
 obtain⟨c,r,h1,h2⟩:=h
 exact⟨c,r,h1,rZ h2⟩
theorem Tk.ends {s:ByteArray} {p:Nat} {l:List aj} {rest:List UInt8} (h:Tk s p l) (ha:At s p rest) (hr:oL rest):bF l=false∧sees l [61]=false∧sees l [58,61]=false:=by
 have hq:(hd l).kind=0∨∃c r,c∈Zc.ends∧(hd l).text.toList=c :: r:=by
  obtain⟨c,r,h1 | h1 | h1,h2⟩:=hr
  ·subst h1
   obtain⟨q,hq⟩:=h.first ha (lB (rZ h2)).1
   exact Or.inr ⟨c,q,h2,hq⟩
  ·subst h1
   obtain⟨k1,k2⟩:=h.blank ha (by decide)
   obtain⟨q,hq⟩:=k1.first k2 (lB (rZ h2)).1
   exact Or.inr ⟨c,q,h2,hq⟩
  ·subst h1
   exact Or.inl (h.done ha)
 rcases hq with hq | ⟨c,r,hc,hq⟩
 ·unfold bF
  simp[uE hq]
 ·have hne:c≠60∧c≠61∧c≠92∧c≠58:=by
   simp only[Zc.ends,List.mem_cons,List.not_mem_nil,or_false]at hc
   rcases hc with rfl | rfl | rfl<;>decide
  unfold bF
  rw[iF hq hne.1,iF hq hne.2.1,iF hq hne.2.1,iF hq hne.2.2.1,iF hq hne.2.2.2,iF hq hne.2.1]
  exact⟨rfl,rfl,rfl⟩
def kB (σ:iK) (x:aH):List UInt8:=bD σ 8 x.left++(match x.right with
 | none=>[]
 | some r=>x.sign++bD σ 8 r)
def uF (σ:iK) (x:aH):aH:=⟨gD σ 8 x.left,x.sign,x.right.map (gD σ 8),[],none⟩
inductive iN (σ:iK):aH→Prop
 | call (t:Tm) (h:gF σ 8 t) (hk:t.kind=2) (hi:isInt t=false):iN σ ⟨t,[],none,[],none⟩
 | eq (a b:Tm) (ha:gF σ 8 a) (hb:gF σ 8 b):iN σ ⟨a,[61],some b,[],none⟩
inductive A2 (σ:iK):aH→Prop
 | int (t:Tm) (h:gF σ 8 t) (hk:t.kind=2) (hi:isInt t=true):A2 σ ⟨t,[],none,[],none⟩
 | rel (a b:Tm) (g:List UInt8) (ha:gF σ 8 a) (hb:gF σ 8 b) (hg:g=[61,61]∨g=[92,61]∨g=[60]∨g=[61,60]):A2 σ ⟨a,g,some b,[],none⟩
theorem Pm {σ:iK} {t:Tm} (hk:t.kind=2):(gD σ 8 t).kind=2∧isInt (gD σ 8 t)=isInt t:=by
 have e:gD σ 8 t=⟨2,t.text,t.args.map (gD σ 7)⟩:=by unfold gD;rw[if_neg (by omega),if_neg (by omega)]
 rw[e]
 refine⟨rfl,?_⟩
 unfold isInt
 rw[hk]
 simp
theorem Dm {σ:iK} {t:Tm} (h:gF σ 8 t) (hk:t.kind=2) {tests goals:Bool} (hf:((tests&&isInt t)||goals)=true) {s:ByteArray} {p:Nat} {l:List aj} {rest:List UInt8} (hl:Tk s p l) (ha:At s p (bD σ 8 t++rest)) (hr:oL rest):
 ∃l',item tests goals l= .inr ((⟨gD σ 8 t,[],none,[],none⟩,tests&&isInt t,goals),l')∧Tk s (p+(bD σ 8 t).length) l'∧At s (p+(bD σ 8 t).length) rest:=by
 obtain⟨l1,e1,k1,a1⟩:=lC σ 8 t h s p l rest hl ha hr.rest
 obtain⟨n1,n2,n3⟩:=k1.ends a1 hr
 obtain⟨m1,m2⟩:=Pm (σ:=σ) hk
 refine⟨l1,?_,k1,a1⟩
 unfold item
 rw[e1]
 dsimp only
 rw[if_neg (by rw[n1];decide),if_neg (by rw[n2];decide),if_neg (by rw[n3];simp),m2,if_pos ⟨m1,hf⟩]
theorem Dn {σ:iK} {a b:Tm} (ha:gF σ 8 a) (hb:gF σ 8 b) {g:List UInt8} (hg:g=[61]∨g=[61,61]∨g=[92,61]∨g=[60]∨g=[61,60]) {s:ByteArray} {p:Nat} {l:List aj} {rest:List UInt8} (hl:Tk s p l) (hA:At s p (bD σ 8 a++(g++bD σ 8 b)++rest)) (hr:oL rest):
 ∃l1 l',term 8 l= .inr (gD σ 8 a,l1)∧(∀k,sees l1 k=(g == k))∧(hd l1).text.toList=g∧term 8 l1.tail= .inr (gD σ 8 b,l')∧Tk s (p+(bD σ 8 a++(g++bD σ 8 b)).length) l'∧At s (p+(bD σ 8 a++(g++bD σ 8 b)).length) rest:=by
 obtain⟨c,r,hc,hw⟩:=Dl hb
 rw[List.append_assoc]at hA
 obtain⟨l1,e1,k1,a1⟩:=lC σ 8 a ha s p l _ hl hA (by rcases hg with rfl | rfl | rfl | rfl | rfl<;>exact⟨_,_,Or.inl rfl,by decide⟩)
 have key:l1=⟨5,p+(bD σ 8 a).length,⟨g.toArray⟩⟩ :: l1.tail∧Tk s (p+(bD σ 8 a).length+g.length) l1.tail∧At s (p+(bD σ 8 a).length+g.length) (bD σ 8 b++rest):=by
  rcases hg with rfl | rfl | rfl | rfl | rfl
  ·exact k1.NW (a:=61) a1 (by decide) (by decide) (fun d q e=>by
    rw[hc]at e
    injection e with e _
    subst e
    exact J5 hw)
  ·exact k1.A1 (a:=61) (b:=61) a1 (by decide) (by decide)
  ·exact k1.A1 (a:=92) (b:=61) a1 (by decide) (by decide)
  ·exact k1.one 60 a1 (by decide)
  ·exact k1.A1 (a:=61) (b:=60) a1 (by decide) (by decide)
 obtain⟨q1,q2,q3⟩:=key
 obtain⟨l2,e2,k2,a2⟩:=lC σ 8 b hb s _ _ _ q2 q3 hr.rest
 have hz:p+(bD σ 8 a).length+g.length+(bD σ 8 b).length=p+(bD σ 8 a++(g++bD σ 8 b)).length:=by simp;omega
 rw[hz]at k2 a2
 refine⟨l1,l2,e1,fun k=> ?_,?_,e2,k2,a2⟩
 ·rw[q1];exact fe _ g k _
 ·rw[q1];exact dA g
theorem S4 {σ:iK} {a b:Tm} (ha:gF σ 8 a) (hb:gF σ 8 b) {tests:Bool} {s:ByteArray} {p:Nat} {l:List aj} {rest:List UInt8} (hl:Tk s p l) (hA:At s p (bD σ 8 a++([61]++bD σ 8 b)++rest)) (hr:oL rest):
 ∃l',item tests true l= .inr ((⟨gD σ 8 a,[61],some (gD σ 8 b),[],none⟩,false,true),l')∧Tk s (p+(bD σ 8 a++([61]++bD σ 8 b)).length) l'∧At s (p+(bD σ 8 a++([61]++bD σ 8 b)).length) rest:=by
 obtain⟨l1,l2,e1,e2,e3,e4,k,a⟩:=Dn ha hb (g:=[61]) (Or.inl rfl) hl hA hr
 refine⟨l2,?_,k,a⟩
 unfold item
 rw[e1]
 dsimp only
 unfold bF
 rw[e2,e2,e2,e2,e2]
 unfold sides
 rw[e4,e3]
 rfl
theorem Pn {σ:iK} {a b:Tm} (ha:gF σ 8 a) (hb:gF σ 8 b) {g:List UInt8} (hg:g=[61,61]∨g=[92,61]∨g=[60]∨g=[61,60]) {goals:Bool} {s:ByteArray} {p:Nat} {l:List aj} {rest:List UInt8} (hl:Tk s p l) (hA:At s p (bD σ 8 a++(g++bD σ 8 b)++rest)) (hr:oL rest):
 ∃l',item true goals l= .inr ((⟨gD σ 8 a,g,some (gD σ 8 b),[],none⟩,true,false),l')∧Tk s (p+(bD σ 8 a++(g++bD σ 8 b)).length) l'∧At s (p+(bD σ 8 a++(g++bD σ 8 b)).length) rest:=by
 obtain⟨l1,l2,e1,e2,e3,e4,k,a⟩:=Dn ha hb (g:=g) (Or.inr hg) hl hA hr
 refine⟨l2,?_,k,a⟩
 unfold item
 rw[e1]
 dsimp only
 have ht:bF l1=true:=by
  unfold bF
  rw[e2,e2,e2,e2]
  rcases hg with rfl | rfl | rfl | rfl<;>decide
 rw[if_pos ht]
 unfold sides
 rw[e4,e3]
 rfl
theorem Dp {σ:iK} {x:aH} (h:iN σ x) {tests:Bool} {s:ByteArray} {p:Nat} {l:List aj} {rest:List UInt8} (hl:Tk s p l) (hA:At s p (kB σ x++rest)) (hr:oL rest):
 ∃l',item tests true l= .inr ((uF σ x,false,true),l')∧Tk s (p+(kB σ x).length) l'∧At s (p+(kB σ x).length) rest:=by
 cases h with
 | call t h hk hi=>
  have e:kB σ ⟨t,[],none,[],none⟩=bD σ 8 t:=by simp[kB]
  rw[e]at hA⊢
  obtain⟨l',e1,k⟩:=Dm h hk (tests:=tests) (goals:=true) (by simp) hl hA hr
  refine⟨l',?_,k⟩
  rw[e1,hi,Bool.and_false]
  rfl
 | eq a b ha hb=>exact S4 ha hb hl hA hr
theorem MB {σ:iK} {x:aH} (h:A2 σ x) {s:ByteArray} {p:Nat} {l:List aj} {rest:List UInt8} (hl:Tk s p l) (hA:At s p (kB σ x++rest)) (hr:oL rest):
 ∃l' g,item true true l= .inr ((uF σ x,true,g),l')∧Tk s (p+(kB σ x).length) l'∧At s (p+(kB σ x).length) rest:=by
 cases h with
 | int t h hk hi=>
  have e:kB σ ⟨t,[],none,[],none⟩=bD σ 8 t:=by simp[kB]
  rw[e]at hA⊢
  obtain⟨l',e1,k⟩:=Dm h hk (tests:=true) (goals:=true) (by simp) hl hA hr
  refine⟨l',true,?_,k⟩
  rw[e1,hi]
  rfl
 | rel a b g ha hb hg=>
  obtain⟨l',e1,k⟩:=Pn ha hb hg (goals:=true) hl hA hr
  exact⟨l',false,e1,k⟩
def jD (σ:iK) (b:Bool):List aH→List UInt8
 | []=>[]
 | x :: xs=>kB σ x++xs.flatMap (fun y=>44 :: sp b++kB σ y)
theorem si {σ:iK} {b:Bool} {tl:List UInt8} (q9:tl=[]∨∃r,tl=46 :: r):∀(xs:List aH) (x:aH) (k:Nat) (tests:Bool),xs.length≤k→iN σ x→(∀y∈xs,iN σ y)→∀(s:ByteArray) (p:Nat) (l:List aj),Tk s p l→At s p (jD σ b (x :: xs)++tl)→∃l',items k tests true l= .inr (((x :: xs).map (uF σ),false,true),l')∧Tk s (p+(jD σ b (x :: xs)).length) l'∧At s (p+(jD σ b (x :: xs)).length) tl
 | [],x,k,tests,_,hx,_,s,p,l,hl,ha=>by
  simp only[jD,List.flatMap_nil,List.append_nil]at ha⊢
  obtain⟨l1,e1,k1,a1⟩:=Dp hx (tests:=tests) hl ha (by
   rcases q9 with rfl | ⟨r,rfl⟩
   ·exact⟨46,[],Or.inr (Or.inr rfl),by decide⟩
   ·exact⟨46,r,Or.inl rfl,by decide⟩)
  refine⟨l1,?_,k1,a1⟩
  have e2:sees l1 [44]=false:=by
   rcases q9 with rfl | ⟨r,rfl⟩
   ·exact uE (k1.done a1) _
   ·obtain⟨e2,k2,a2⟩:=k1.one 46 a1 (by decide)
    rw[e2]
    exact fe _ [46] [44] _
  unfold items
  rw[e1]
  dsimp only
  rw[if_neg (by rw[e2];simp)]
  rfl
 | y :: ys,x,k,tests,hk,hx,hy,s,p,l,hl,ha=>by
  cases k with
  | zero=>simp at hk
  | succ k=>
   simp only[jD,List.flatMap_cons,List.append_assoc,List.cons_append]at ha
   obtain⟨l1,e1,k1,a1⟩:=Dp hx (tests:=tests) hl ha ⟨44,_,Or.inl rfl,by decide⟩
   obtain⟨e2,k2,a2⟩:=k1.one 44 a1 (by decide)
   obtain⟨k3,a3⟩:=k2.sp b a2
   obtain⟨l4,e4,k4,a4⟩:=si (σ:=σ) (b:=b) q9 ys y k false (by simpa using hk) (hy y (by simp)) (fun z hz=>hy z (by simp[hz])) s _ _ k3 (by simpa [jD] using a3)
   have hz:p+(kB σ x).length+1+(sp b).length+(jD σ b (y :: ys)).length=p+(jD σ b (x :: y :: ys)).length:=by simp[jD];omega
   rw[hz]at k4 a4
   refine⟨l4,?_,k4,a4⟩
   unfold items
   rw[e1]
   dsimp only
   rw[if_pos (show sees l1 [44]=true by rw[e2];exact fe _ [44] [44] _)]
   rw[e4]
   rfl
theorem Av {σ:iK} {b:Bool} (xs:List aH) (x:aH) (k:Nat) (tests:Bool) (hk:xs.length≤k) (hx:iN σ x) (hy:∀y∈xs,iN σ y) (s:ByteArray) (p:Nat) (l:List aj) (rest:List UInt8) (hl:Tk s p l) (ha:At s p (jD σ b (x :: xs)++46 :: rest)):∃l',items k tests true l= .inr (((x :: xs).map (uF σ),false,true),l')∧Tk s (p+(jD σ b (x :: xs)).length) l'∧At s (p+(jD σ b (x :: xs)).length) (46 :: rest):=
 si (Or.inr ⟨rest,rfl⟩) xs x k tests hk hx hy s p l hl ha
def sM (σ:iK) (b:Bool) (c:aJ):List UInt8:=bD σ 8 c.head++(match c.goals with
 | []=>[]
 | g :: gs=>sp b++([58,45]++(sp b++((match c.tests with
  | []=>[]
  | x :: _=>kB σ x++(sp b++([124]++sp b)))++jD σ b (g :: gs)))))++(46 :: nl b)
def Dq (σ:iK) (c:aJ):aJ:=⟨gD σ 8 c.head,c.tests.map (uF σ),c.goals.map (uF σ)⟩
structure yY (σ:iK) (c:aJ):Prop where
 head:gF σ 8 c.head
 name:c.head.kind=2
 tests:c.tests=[]∨∃x,c.tests=[x]∧A2 σ x
 goals:∀x∈c.goals,iN σ x
 few:c.goals.length≤6
 fact:c.goals=[]→c.tests=[]
theorem Po {σ:iK} {t:Tm} (h:gF σ 8 t) (hk:t.kind=2) {s:ByteArray} {p:Nat} {l:List aj} {rest:List UInt8} (hl:Tk s p l) (ha:At s p (bD σ 8 t++rest)):(hd l).kind=2:=by
 obtain⟨c,r,hc,hw⟩:=Dl h
 rw[hc]at ha
 obtain⟨h1,h2,h3⟩:=At.head (c:=c) (x:=r++rest) ha
 obtain⟨t1,_⟩:=hl.tok (c:=c) (x:=r++rest) ha (qy hw)
 rw[t1]
 show aR s p=2
 have GL:low c.toNat=true:=by
  rcases h with⟨q,_⟩ | ⟨q,_⟩ | ⟨q,⟨c',r',q1,q2,q3⟩,_⟩
  ·omega
  ·omega
  ·have:bD σ 8 t=c' :: (r'++arS (t.args.map (bD σ 7))):=by unfold bD;rw[if_neg (by omega),if_neg (by omega),q1];rfl
   rw[hc]at this
   injection this with e _
   subst e
   rcases q2 with⟨_,z⟩ | ⟨z,_⟩ | ⟨z,_⟩
   ·exact z
   ·omega
   ·omega
 exact(y9 h1 (by rw[h2];exact GL)).1
theorem MC {σ:iK} {b:Bool} {c:aJ} (h:yY σ c) {g:aH} {gs:List aH} (hg:c.goals=g :: gs) {s:ByteArray} {p:Nat} {l:List aj} {rest:List UInt8} (hl:Tk s p l) (ha:At s p (((match c.tests with
 | []=>[]
 | x :: _=>kB σ x++(sp b++([124]++sp b)))++jD σ b (g :: gs))++46 :: rest)):
 ∃l',body l= .inr ((c.tests.map (uF σ),c.goals.map (uF σ)),l')∧Tk s (p+((match c.tests with
 | []=>[]
 | x :: _=>kB σ x++(sp b++([124]++sp b)))++jD σ b (g :: gs)).length) l'∧At s (p+((match c.tests with
 | []=>[]
 | x :: _=>kB σ x++(sp b++([124]++sp b)))++jD σ b (g :: gs)).length) (46 :: rest):=by
 have Nq:iN σ g:=h.goals g (by rw[hg];simp)
 have vO:∀y∈gs,iN σ y:=fun y hy=>h.goals y (by rw[hg];simp[hy])
 have h6:gs.length≤5:=by have:=h.few;rw[hg]at this;simpa using this
 rcases h.tests with ht | ⟨x,ht,hx⟩
 ·rw[ht]at ha⊢
  simp only[List.nil_append]at ha⊢
  obtain⟨l1,e1,k1,a1⟩:=Av gs g 5 true h6 Nq vO s p l rest hl ha
  refine⟨l1,?_,k1,a1⟩
  unfold body
  rw[e1]
  dsimp only
  rw[if_neg (by simp),if_pos rfl,hg]
  rfl
 ·rw[ht]at ha⊢
  dsimp only at ha⊢
  simp only[List.append_assoc]at ha
  obtain⟨l1,fg,e1,k1,a1⟩:=MB hx hl ha (by cases b;exact⟨124,_,Or.inl rfl,by decide⟩;exact⟨124,_,Or.inr (Or.inl rfl),by decide⟩)
  obtain⟨k2,a2⟩:=k1.sp b a1
  obtain⟨e3,k3,a3⟩:=k2.one 124 a2 (by decide)
  obtain⟨k4,a4⟩:=k3.sp b a3
  obtain⟨l5,e5,k5,a5⟩:=Av gs g 5 false h6 Nq vO s _ _ rest k4 a4
  have hz:p+(kB σ x).length+(sp b).length+1+(sp b).length+(jD σ b (g :: gs)).length=p+(kB σ x++(sp b++([124]++sp b))++jD σ b (g :: gs)).length:=by simp;omega
  rw[hz]at k5 a5
  refine⟨l5,?_,k5,a5⟩
  have WO:sees l1 [44]=false:=by rw[e3];exact fe _ [124] [44] _
  have TL:sees l1 [124]=true:=by rw[e3];exact fe _ [124] [124] _
  have e6:items 5 true true l= .inr (([uF σ x],true,fg),l1):=by
   unfold items
   rw[e1]
   dsimp only
   rw[if_neg (by rw[WO];simp)]
  unfold body
  rw[e6]
  dsimp only
  rw[if_pos ⟨rfl,TL⟩,e5]
  dsimp only
  rw[if_pos rfl,hg]
  rfl
theorem GU {σ:iK} {b:Bool} {c:aJ} (h:yY σ c) {s:ByteArray} {p:Nat} {l:List aj} {rest:List UInt8} (hl:Tk s p l) (ha:At s p (sM σ b c++rest)):
 (hd l).kind=2∧∃l',clause true l= .inr (Dq σ c,l')∧Tk s (p+(sM σ b c).length) l'∧At s (p+(sM σ b c).length) rest:=by
 unfold sM at ha
 simp only[List.append_assoc,List.cons_append]at ha
 have hk:=Po h.head h.name hl ha
 refine⟨hk,?_⟩
 cases hg:c.goals with
 | nil=>
  rw[hg]at ha
  dsimp only at ha
  simp only[List.nil_append]at ha
  obtain⟨l1,e1,k1,a1⟩:=lC σ 8 c.head h.head s p l _ hl ha ⟨46,_,Or.inl rfl,by decide⟩
  obtain⟨e2,k2,a2⟩:=k1.one 46 a1 (by decide)
  obtain⟨k3,a3⟩:=k2.nl b a2
  have hz:p+(bD σ 8 c.head).length+1+(nl b).length=p+(sM σ b c).length:=by unfold sM;rw[hg];simp;omega
  rw[hz]at k3 a3
  refine⟨l1.tail,?_,k3,a3⟩
  have n1:sees l1 [58,45]=false:=by rw[e2];exact fe _ [46] [58,45] _
  have n2:sees l1 [46]=true:=by rw[e2];exact fe _ [46] [46] _
  unfold clause
  rw[if_pos hk,if_pos rfl,e1]
  dsimp only
  rw[if_neg (by rw[n1];simp)]
  unfold stop
  rw[if_pos n2]
  unfold Dq
  rw[hg,h.fact hg]
  rfl
 | cons g gs=>
  rw[hg]at ha
  dsimp only at ha
  obtain⟨l1,e1,k1,a1⟩:=lC σ 8 c.head h.head s p l _ hl ha (by cases b;exact⟨58,_,Or.inl rfl,by decide⟩;exact⟨58,_,Or.inr (Or.inl rfl),by decide⟩)
  obtain⟨k2,a2⟩:=k1.sp b (by simpa using a1)
  obtain⟨e3,k3,a3⟩:=k2.A1 (a:=58) (b:=45) a2 (by decide) (by decide)
  obtain⟨k4,a4⟩:=k3.sp b a3
  obtain⟨l5,e5,k5,a5⟩:=MC h hg k4 (b:=b) (rest:=nl b++rest) (by simpa using a4)
  obtain⟨e6,k6,a6⟩:=k5.one 46 a5 (by decide)
  obtain⟨k7,a7⟩:=k6.nl b a6
  have hz:p+(bD σ 8 c.head).length+(sp b).length+2+(sp b).length+((match c.tests with
  | []=>[]
  | x :: _=>kB σ x++(sp b++([124]++sp b)))++jD σ b (g :: gs)).length+1+(nl b).length=p+(sM σ b c).length:=by unfold sM;rw[hg];simp;omega
  rw[hz]at k7 a7
  refine⟨l5.tail,?_,k7,a7⟩
  have n1:sees l1 [58,45]=true:=by rw[e3];exact fe _ [58,45] [58,45] _
  have n2:sees l5 [46]=true:=by rw[e6];exact fe _ [46] [46] _
  unfold clause
  rw[if_pos hk,if_pos rfl,e1]
  dsimp only
  rw[if_pos n1,e5]
  dsimp only
  unfold stop
  rw[if_pos n2]
  rfl
end Zc
