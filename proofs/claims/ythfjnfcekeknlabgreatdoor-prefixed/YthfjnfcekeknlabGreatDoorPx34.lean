import Derived.Test.YthfjnfcekeknlabGreatDoorPx03
import Derived.Test.YthfjnfcekeknlabGreatDoorPx31
set_option maxHeartbeats 8000000
set_option maxRecDepth 100000
set_option linter.unusedSimpArgs false
namespace af
open Go
variable {tx:List UInt8} {num n:Int} {ss:List U} {k m:Nat} {θ:Vr->U} {r:Option (List (Vr×U))} {lt:Vr->Vr->Prop} {Q:U->Prop} {l:List (U×U)} {N:List Vr} {v:Vr} {ρ:Vr->Vr} {u:U}
mutual
def wr:U->List UInt8
 | .v x=>x.1
 | .n k tx num ss=>if k=3 then Lib.decDigits num.toNat else tx++nj (O0 ss)
def O0:List U->List (List UInt8)
 | []=>[]
 | a :: ss=>wr a :: O0 ss
end
theorem Dj:∀ss,O0 ss=ss.map wr
 | []=>rfl
 | a :: ss=>by rw[O0,Dj ss];rfl
theorem MI (k:Nat) (tx:List UInt8) (num:Int) (ss:List U):wr (.n k tx num ss)=if k=3 then Lib.decDigits num.toNat else tx++nj (ss.map wr):=by rw[wr,Dj]
mutual
def rB:U->Tm
 | .v x=>⟨3,⟨x.1.toArray⟩,[]⟩
 | .n k tx num ss=>if k=3 then⟨4,⟨(Lib.decDigits num.toNat).toArray⟩,[]⟩else⟨2,⟨tx.toArray⟩,Ki ss⟩
def Ki:List U->List Tm
 | []=>[]
 | a :: ss=>rB a :: Ki ss
end
theorem Ad:∀ss,Ki ss=ss.map rB
 | []=>rfl
 | a :: ss=>by rw[Ki,Ad ss];rfl
theorem Gi (k:Nat) (tx:List UInt8) (num:Int) (ss:List U):rB (.n k tx num ss)=if k=3 then⟨4,⟨(Lib.decDigits num.toNat).toArray⟩,[]⟩else⟨2,⟨tx.toArray⟩,ss.map rB⟩:=by rw[rB,Ad]
def Pb (k:Nat) (tx:List UInt8) (num:Int) (n:Nat):Prop:=(k=1/\jC 2 tx/\n<=3/\num=0)\/(k=3/\tx=[]/\n=0/\0<=num/\num<=9)
def oM (u:U):Prop:=∀k tx num ss,U.n k tx num ss∈subs u->Pb k tx num ss.length
def N8 (u:U):Prop:=∀x,has x u->jC 3 x.1/\x.2=0
theorem oM.arg {k:Nat} {tx:List UInt8} {num:Int} {ss:List U} (h:oM (.n k tx num ss)) {a:U} (ha:a∈ss):oM a:=fun k' tx' num' ss' hm=>h k' tx' num' ss' (by rw[subs];exact cO _ (fA.2 ⟨a,ha,hm⟩))
theorem oM.own (h:oM (.n k tx num ss)):Pb k tx num ss.length:=h k tx num ss (iT _)
theorem oM.mk (h:Pb k tx num ss.length) (hs:∀a∈ss,oM a):oM (.n k tx num ss):=fun k' tx' num' ss' hm=>by
 rw[subs]at hm;rcases bh.1 hm with e | e
 ·injection e with e1 e2 e3 e4;subst e1 e2 e3 e4;exact h
 ·obtain⟨a,ha,hm⟩:=fA.1 e;exact hs a ha k' tx' num' ss' hm
theorem Bg (x:Vr):oM (.v x):=fun k tx num ss h=>by rw[subs]at h;simp at h
theorem rS (hθ:∀x,oM (θ x)):∀u,oM u->oM (sub θ u):=by refine U.ind (fun y _=>hθ y) (fun k tx num ss ih h=> ?_);rw[dS];refine oM.mk (by rw[bj];exact h.own) fun a ha=> ?_;obtain⟨c,hc,rfl⟩:=bu.1 ha;exact ih c hc (h.arg hc)
theorem N8.arg {k:Nat} {tx:List UInt8} {num:Int} {ss:List U} (h:N8 (.n k tx num ss)) {a:U} (ha:a∈ss):N8 a:=fun x hx=>h x ((gB x k tx num ss).2 ⟨a,ha,hx⟩)
theorem LO (h0:0<=n) (h9:n<=9):Lib.decDigits n.toNat=[UInt8.ofNat (48+n.toNat)]:=by rw[Lib.decDigits,kX (by omega)]
theorem li.every (harg:∀k tx num ss,Q (.n k tx num ss)->∀a∈ss,Q a) (hput:∀(x:Vr) (b:U),Q b->∀u,Q u->Q (put u x b)) (h:li lt θ l r m):(∀e∈l,Q e.1/\Q e.2)->∀out,r=some out->∀e∈out,Q e.2:=by
 induction h with
 | nil=>intro _ out e d hd;cases e;cases hd
 | @args k tx num ss k' tx' num' ss' l r m h _ ih=>
  intro hl;refine ih fun e he=> ?_;rcases bA.1 he with he | he
  ·obtain⟨p,q⟩:=e;obtain⟨h1,h2⟩:=FR he;have:=hl _ (dD ..);exact⟨harg _ _ _ _ this.2 _ h1,harg _ _ _ _ this.1 _ h2⟩
  ·exact hl e (by simp[he])
 | nh h=>intro _ out e;cases e
 | same _ ih=>exact fun hl=>ih fun e he=>hl e (by simp[he])
 | @left x b l r m hθ hv ho _ ih=>
  intro hl out e;have hb:=(hl _ (dD ..)).2;cases r with
  | none=>cases e
  | some r=>
   cases e;intro d hd;rcases bh.1 hd with rfl | hd
   ·exact hb
   ·refine ih (fun e he=> ?_) r rfl d hd;obtain⟨c,hc,rfl⟩:=bu.1 he;have:=hl c (by simp[hc]);exact⟨hput x b hb _ this.1,hput x b hb _ this.2⟩
 | @right a y l r m hθ hv ho _ ih=>
  intro hl out e;have hb:=(hl _ (dD ..)).1;cases r with
  | none=>cases e
  | some r=>
   cases e;intro d hd;rcases bh.1 hd with rfl | hd
   ·exact hb
   ·refine ih (fun e he=> ?_) r rfl d hd;obtain⟨c,hc,rfl⟩:=bu.1 he;have:=hl c (by simp[hc]);exact⟨hput y a hb _ this.1,hput y a hb _ this.2⟩
 | wM hv ho=>intro _ out e;cases e
 | wL hv ho=>intro _ out e;cases e
theorem Ed (x:Vr) (b:U) (hb:oM b) (u:U) (h:oM u):oM (put u x b):=by
 unfold put;refine rS (fun y=> ?_) u h;unfold one;split
 ·exact hb
 ·exact Bg _
theorem sB {Q:U->Prop} (hput:∀(x:Vr) (b:U),Q b->∀u,Q u->Q (put u x b)):∀(out:List (Vr×U)) (u:U),Q u->(∀e∈out,Q e.2)->Q (lJ u out)
 | [],u,h,_=>h
 | e :: out,u,h,ho=>sB hput out (put u e.1 e.2) (hput _ _ (ho e (by simp)) u h) fun d hd=>ho d (by simp[hd])
def ue (N:List Vr) (v:Vr):Vr:=(86 :: Lib.decDigits (N.idxOf v),0)
theorem Kc:BZ (ue N) (fun v=>v∈N):=fun x y hx hy h=>by
 have h1:Lib.decDigits (N.idxOf x)=Lib.decDigits (N.idxOf y):=by have:=cL (fun v:Vr=>v.1.tail) h;simpa [ue] using this
 have h2:N.idxOf x=N.idxOf y:=by rw[<-sM (N.idxOf x),<-sM (N.idxOf y),h1]
 have e1:=jU (bW hx);have e2:=jU (bW hy);rw[<-e1,<-e2];simp only[h2]
theorem F6 (N:List Vr) (v:Vr):jC 3 (ue N v).1:=⟨86,Lib.decDigits (N.idxOf v),rfl,aw (ay ⟨rfl,by decide⟩),fun d hd=>by
 have hd:d∈86 :: Lib.decDigits (N.idxOf v):=hd;rcases bh.1 hd with rfl | hd
 ·decide
 ·exact ID (Bo _ d hd) (ay rfl)⟩
theorem F0 (N:List Vr):∀u,oM u->wr (sub (ren (ue N)) u)=d7 Lib.itoa N u:=by
 refine U.ind (fun x _=> ?_) (fun k tx num ss ih h=> ?_)
 ·show (ue N x).1=_;rw[d7,Lib.itoa_nonneg];rfl
 ·rw[dS,MI,mf,bQ];rcases h.own with⟨rfl,_⟩ | ⟨rfl,_,_,h0,_⟩
  ·rw[aG (by decide),aG (by decide)];congr 2;exact bt fun a ha=>ih a ha (h.arg ha)
  ·rw[aH rfl,aH rfl];obtain⟨m,rfl⟩:∃m:Nat,num=(m:Int):=⟨num.toNat,by omega⟩;rw[Lib.itoa_nonneg];rfl
theorem Kv:∀u,has v (sub (ren ρ) u)->∃x,has x u/\v=ρ x:=by
 refine U.ind (fun x h=> ?_) (fun k tx num ss ih h=> ?_)
 ·have h':has v (.v (ρ x)):=h;rw[has]at h';exact⟨x,rfl,h'.symm⟩
 ·rw[dS,gB]at h;obtain⟨a,ha,hv⟩:=h;obtain⟨c,hc,rfl⟩:=bu.1 ha;obtain⟨x,h1,h2⟩:=ih c hc hv;exact⟨x,(gB x k tx num ss).2 ⟨c,hc,h1⟩,h2⟩
theorem rT (ρ:Vr->Vr) (h:oM u):oM (sub (ren ρ) u):=rS (fun _=>Bg _) u h
end af
namespace af
variable {L l1:List bX} {s:ByteArray} {u:U} {t:Tm}
def NR (f:Nat) (u:U):Prop:=∀(s:ByteArray) (p:Nat) (l:List bX) (rest:List UInt8),Tk s p l->At s p (wr u++rest)->ql rest->(∃e,term f l= .inl e)\/∃l',term f l= .inr (rB u,l')/\iE f (rB u)/\Tk s (p+(wr u).length) l'/\At s (p+(wr u).length) rest
theorem MB {f:Nat}:∀(ts:List U) (t:U) (k:Nat),NR f t->(∀u∈ts,NR f u)->∀(s:ByteArray) (p:Nat) (l:List bX) (rest:List UInt8),Tk s p l->At s p (wr t++(ts.map wr).flatMap (fun y=>44 :: y)++41 :: rest)->(∃e,cE (term f) k l= .inl e)\/∃l',cE (term f) k l= .inr (rB t :: ts.map rB,l')/\(∀u∈t :: ts,iE f (rB u))/\Tk s (p+(wr t++(ts.map wr).flatMap (fun y=>44 :: y)).length+1) l'/\At s (p+(wr t++(ts.map wr).flatMap (fun y=>44 :: y)).length+1) rest
 | [],t,k,ht,_,s,p,l,rest,hl,ha=>by
  simp only[bV,eR,br]at ha⊢;rcases ht s p l _ hl ha ⟨41,rest,ay rfl,by decide⟩with⟨e,he⟩ | ⟨l1,e1,w1,k1,a1⟩
  ·exact ay ⟨e,by rw[cE,he]⟩
  ·obtain⟨e2,k2,a2⟩:=k1.one 41 a1 (by decide);refine aw ⟨l1.tail,?_,fun u hu=>by rw[a8.1 hu];exact w1,k2,a2⟩;rw[cE,e1];dsimp only;rw[e2];rw[show sees (⟨5,p+(wr t).length,⟨#[41]⟩⟩ :: l1.tail) [44]=false from dU _ [41] [44] _,show sees (⟨5,p+(wr t).length,⟨#[41]⟩⟩ :: l1.tail) [41]=true from dU _ [41] [41] _]
   rfl
 | u :: ts,t,k,ht,hu,s,p,l,rest,hl,ha=>by
  simp only[aY,bM,aK,dN]at ha;rcases ht s p l _ hl ha ⟨44,_,ay rfl,by decide⟩with⟨e,he⟩ | ⟨l1,e1,w1,k1,a1⟩
  ·exact ay ⟨e,by rw[cE,he]⟩
  ·obtain⟨e2,k2,a2⟩:=k1.one 44 a1 (by decide);cases k with
   | zero=>
    refine ay ?_;rw[cE,e1];dsimp only;rw[e2];rw[aH (show sees (⟨5,p+(wr t).length,⟨#[44]⟩⟩ :: l1.tail) [44]=true from dU _ [44] [44] _)]
    exact⟨_,rfl⟩
   | succ k=>
    rcases MB ts u k (hu u (by simp)) (fun x hx=>hu x (by simp[hx])) s _ _ rest k2 (by simpa using a2)with⟨e,he⟩ | ⟨l3,e3,w3,k3,a3⟩
    ·refine ay ⟨e,?_⟩;rw[cE,e1];dsimp only;rw[e2];rw[aH (show sees (⟨5,p+(wr t).length,⟨#[44]⟩⟩ :: l1.tail) [44]=true from dU _ [44] [44] _)]
     show (match cE (term f) k l1.tail with | .inl e=>_ | .inr (ts,l2)=>_)=_;rw[he]
    ·have hz:p+(wr t).length+1+(wr u++(ts.map wr).flatMap (fun y=>44 :: y)).length+1=p+(wr t++((u :: ts).map wr).flatMap (fun y=>44 :: y)).length+1:=by
      simp;omega
     rw[hz]at k3 a3;refine aw ⟨l3,?_,fun x hx=> ?_,k3,a3⟩
     ·rw[cE,e1];dsimp only;rw[e2];rw[aH (show sees (⟨5,p+(wr t).length,⟨#[44]⟩⟩ :: l1.tail) [44]=true from dU _ [44] [44] _)]
      show (match cE (term f) k l1.tail with | .inl e=>_ | .inr (ts,l2)=>_)=_;rw[e3];rfl
     ·rcases bh.1 hx with rfl | hx
      ·exact w1
      ·exact w3 x hx
theorem Hb:∀(f:Nat) (u:U),oM u->N8 u->NR f u
 | 0,u,_,_=>fun s p l rest _ _ _=>ay (by unfold term;split<;>exact⟨_,rfl⟩)
 | f+1,.v x,_,hv=>fun s p l rest hl ha hr=>by rw[wr]at ha⊢;obtain⟨k1,k2,k3⟩:=hl.word (hv x rfl).1 ha hr.word;refine aw ⟨l.tail,?_,⟨aw (ay rfl),fun _=>rfl,by simp[rB],fun a ha=>by simp[rB]at ha⟩,k2,k3⟩;rw[rB,k1];rfl
 | f+1,.n k tx num ss,hn,hv=>fun s p l rest hl ha hr=>by
  rcases hn.own with⟨rfl,hw,h3,h0⟩ | ⟨rfl,htx,hlz,h0,h9⟩
  ·rw[MI,aG (by decide)]at ha⊢;rw[Gi,aG (by decide)];cases ss with
   | nil=>
    simp only[bV,nj,br]at ha⊢;obtain⟨k1,k2,k3⟩:=hl.word hw ha hr.word;refine aw ⟨l.tail,?_,⟨ay rfl,fun q=>absurd rfl q,by simp,fun a ha=>by simp at ha⟩,k2,k3⟩;have hs:sees l.tail [40]=false:=k2.rest k3 hr;rw[k1];unfold term;rw[aH (show ez (hd (⟨2,p,⟨tx.toArray⟩⟩ :: l.tail))=true from rfl),aG (show¬((hd (⟨2,p,⟨tx.toArray⟩⟩ :: l.tail)).kind=4/\6<(hd (⟨2,p,⟨tx.toArray⟩⟩ :: l.tail)).text.size)from fun q=>by have:=q.1;change 2=4 at this;omega),aH (show (hd (⟨2,p,⟨tx.toArray⟩⟩ :: l.tail)).kind=2 from rfl),aG (show¬sees (List.tail (⟨2,p,⟨tx.toArray⟩⟩ :: l.tail)) [40]=true from by rw[ud,hs];simp)]
    rfl
   | cons u ts=>
    have hu:=Hb f u (hn.arg (by simp)) (hv.arg (by simp));have hts:=fun x (hx:x∈ts)=>Hb f x (hn.arg (a:=x) (by simp[hx])) (hv.arg (a:=x) (by simp[hx]));simp only[aY,nj,aK,dN,cG]at ha;obtain⟨k1,k2,k3⟩:=hl.word hw ha (fun c r q=>by injection q with q _;subst q;decide);obtain⟨j1,j2,j3⟩:=k2.one 40 k3 (by decide);have hT:∀(r:jM (List Tm)),cE (term f) 2 l.tail.tail=r->term (f+1) l=match r with | .inl e=> .inl e | .inr (ts,l2)=> .inr (⟨2,⟨tx.toArray⟩,ts⟩,l2):=fun r hr=>by
     rw[<-hr]
     conv=>lhs;rw[k1]
     unfold term;rw[aH (show ez (hd (⟨2,p,⟨tx.toArray⟩⟩ :: l.tail))=true from rfl),aG (show¬((hd (⟨2,p,⟨tx.toArray⟩⟩ :: l.tail)).kind=4/\6<(hd (⟨2,p,⟨tx.toArray⟩⟩ :: l.tail)).text.size)from fun q=>by have:=q.1;change 2=4 at this;omega),aH (show (hd (⟨2,p,⟨tx.toArray⟩⟩ :: l.tail)).kind=2 from rfl),aH (show sees (List.tail (⟨2,p,⟨tx.toArray⟩⟩ :: l.tail)) [40]=true from by rw[ud,j1];exact dU _ [40] [40] _)]
     rfl
    rcases MB ts u 2 hu hts s _ _ rest j2 (by simpa using j3)with⟨e,he⟩ | ⟨l3,e3,w3,m3,a3⟩
    ·exact ay ⟨e,hT _ he⟩
    ·have hz:p+tx.length+1+(wr u++(ts.map wr).flatMap (fun y=>44 :: y)).length+1=p+(tx++nj ((u :: ts).map wr)).length:=by
      simp[nj];omega
     rw[hz]at m3 a3;refine aw ⟨l3,hT _ e3,⟨ay rfl,fun q=>absurd rfl q,by simpa using h3,fun a ha=> ?_⟩,m3,a3⟩;have ha':a∈(u :: ts).map rB:=ha;obtain⟨c,hc,rfl⟩:=bu.1 ha';exact w3 c hc
  ·rw[MI,aH rfl]at ha⊢;rw[Gi,aH rfl];have hd1:=LO h0 h9;have hw:=Bo num.toNat;obtain⟨k1,k2,k3⟩:=hl.word (k:=4) (by rw[hd1]at hw⊢;exact⟨_,[],rfl,aw (aw ⟨rfl,hw _ (by simp)⟩),fun d hd=>ID (hw d hd) (aw rfl)⟩) ha hr.word;refine aw ⟨l.tail,?_,⟨aw (aw rfl),fun _=>rfl,by simp,fun a ha=>by simp at ha⟩,k2,k3⟩;rw[k1];unfold term;rw[aH (show ez (hd (⟨4,p,⟨(Go.Lib.decDigits num.toNat).toArray⟩⟩ :: l.tail))=true from rfl),aG (show¬((hd (⟨4,p,⟨(Go.Lib.decDigits num.toNat).toArray⟩⟩ :: l.tail)).kind=4/\6<(hd (⟨4,p,⟨(Go.Lib.decDigits num.toNat).toArray⟩⟩ :: l.tail)).text.size)from fun q=>by have:=q.2;change 6<(⟨(Go.Lib.decDigits num.toNat).toArray⟩:ByteArray).size at this;rw[hd1]at this;change 6<[UInt8.ofNat (48+num.toNat)].toArray.size at this;simp at this)]
   rfl
theorem Dk (hn:oM u) (hv:N8 u) (hs:s=⟨(wr u).toArray⟩) (hL:eM s L) (hd0:hd L=next s 0) (h:whole L= .inr (t,l1)):t=rB u/\iE 8 (rB u):=by
 have ha:At s 0 (wr u++[]):=by rw[br,hs];exact At.start _
 rcases Hb 8 u hn hv s 0 L [] ⟨hL,hd0⟩ ha ⟨44,[],aw (aw rfl),by decide⟩with⟨e,he⟩ | ⟨l2,e2,w2,_,_⟩
 ·unfold whole at h;rw[he]at h;cases h
 ·unfold whole at h;rw[e2]at h;dsimp only at h;split at h
  ·injection h with h;injection h with h _;exact⟨h.symm,w2⟩
  ·cases h
theorem wu (σ:List UInt8->U):∀(f:Nat) (u:U),oM u->iE f (rB u)->fb σ f (rB u)=sub (fun v=>σ v.1) u
 | 0,_,_,h=>h.elim
 | f+1,.v x,_,_=>by rw[rB,wn _ f rfl];show σ (⟨x.1.toArray⟩:ByteArray).toList=_;rw[fx];rfl
 | f+1,.n k tx num ss,hn,hw=>by
  rw[Gi]at hw⊢;rcases hn.own with⟨rfl,_,h3,h0⟩ | ⟨rfl,htx,hlz,h0,h9⟩
  ·rw[aG (by decide)]at hw⊢;rw[me,aG (show¬(2:Nat)=3 by decide),aG (show¬(2:Nat)=4 by decide),dS,h0]
   show U.n 1 (⟨tx.toArray⟩:ByteArray).toList 0 ((ss.map rB).map (fb _ f))=_;rw[fx,bQ];congr 1;exact bt fun a ha=>wu σ f a (hn.arg ha) (hw.2.2.2 (rB a) (bu.2 ⟨a,ha,rfl⟩))
  ·rw[aH rfl];obtain rfl:ss=[]:=ch.1 hlz;rw[me,aG (show¬(4:Nat)=3 by decide),aH rfl,dS,htx]
   show U.n 3 [] ((numOf (⟨(Go.Lib.decDigits num.toNat).toArray⟩:ByteArray):Nat):Int) []=_;unfold numOf;rw[fx,sM];congr 1;omega
theorem uN {g:Tm->U->fO->fO} {η:Tm->U} {Q:fO->Prop}:∀(ps:List Tm) (l:fO),(∀p∈ps,∀l,Q l->Q (g p (η p) l))->Q l->Q (fN g ps (ps.map η) l)
 | [],l,_,h=>h
 | p :: ps,l,hg,h=>by rw[aY,fN];exact uN ps _ (fun q hq=>hg q (by simp[hq])) (hg p (by simp) l h)
theorem vt (σ:List UInt8->U) (w:Wn):∀(f:Nat) (p:Tm) (l:fO),iE f p->(l.w=w/\∀q∈l.st,q.2=σ q.1)->((dB f p (fb σ f p) l).w=w/\∀q∈(dB f p (fb σ f p) l).st,q.2=σ q.1)
 | 0,_,_,h,_=>h.elim
 | f+1,p,l,hp,hl=>by
  by_cases h3:p.kind=3
  ·rw[wn σ f h3,jJ _ l h3];unfold fO.meet;cases hq:l.st.find? (fun q=>q.1 == p.text.toList)with
   | none=>
    refine⟨hl.1,fun q hm=> ?_⟩;rcases bA.1 hm with hm | hm
    ·exact hl.2 q hm
    ·rw[a8.1 hm]
   | some q=>
    have e1:=hl.2 q (cR hq);have e2:q.1=p.text.toList:=by have:=List.find?_some hq;simpa using this
    refine⟨?_,hl.2⟩;show gh q.2 (σ p.text.toList) l.w=w;rw[e1,e2,vK];exact hl.1
  ·rw[me,aG h3];by_cases h4:p.kind=4
   ·rw[aH h4,gf l h3 ⟨by unfold jl;rw[aH h4],by rw[hp.2.1 (by omega)];rfl⟩,hp.2.1 (by omega)];exact hl
   ·rw[aG h4,gf l h3 ⟨by unfold jl;rw[aG h4],by rw[bj]⟩];exact uN (Q:=fun l=>l.w=w/\∀q∈l.st,q.2=σ q.1) p.args l (fun a ha l' hl'=>vt σ w f a l' (hp.2.2.2 a ha) hl') hl
