import Derived.Test.YthfjnfcekeknlabGreatDoorPx01
import Derived.Test.YthfjnfcekeknlabGreatDoorPx05
import Derived.Deep.LoopGhost
import Derived.Deep.RegionHeld3
set_option maxHeartbeats 8000000
set_option maxRecDepth 100000
set_option linter.unusedSimpArgs false
namespace Go.Proofs.YthfjnfcekeknlabGreatDoor
open Go.RowKit af
variable {b a so sb nc:Nat} {w w':World} {Q P:Nat->Prop} {no:Option Addr} {T S:TypeId} {cs xs:Array Value}
structure Ng where
 k:Int
 val:Int
 tx:ByteArray
 cnt:Nat
 ao:Option Addr
 cap:Nat
 args:List Nat
 nx:Nat
 qs:Nat
def B5 (d:Ng):List Value:=[.int .i64 d.k,.int .i64 d.val,.string d.tx,.int .i64 (d.cnt:Int),.slice d.ao d.args.length d.cap,.int .i64 (d.nx:Int),.int .i64 (d.qs:Int)]
def nZ (D:List Ng):List Value:=D.flatMap B5
theorem rK:∀d,(B5 d).length=7:=fun _=>rfl
theorem Lc {D:List Ng} {n:Nat} (h:n<D.length) (j:Nat) (hj:j<7):(nZ D)[n*7+j]?=(B5 D[n])[j]?:=pD rK h j hj
theorem E9 (D:List Ng) (d:Ng):nZ (D++[d])=nZ D++B5 d:=by unfold nZ;rw[uJ];simp
theorem AP (D:List Ng) (n j:Nat) (hn:n<D.length) (hj:j<7) (d:Ng) (v:Value) (h:B5 d=(B5 D[n]).set j v):nZ (D.set n d)=(nZ D).set (n*7+j) v:=by
 unfold nZ;induction D generalizing n with
 | nil=>simp at hn
 | cons e D ih=>
  cases n with
  | zero=>simp only[ec,bM];rw[List.set_append_left _ _ (by rw[rK];omega)];rw[h];simp
  | succ n=>simp only[ed,bM];rw[List.set_append_right _ _ (by rw[rK];omega),rK,ih n (by simpa using hn) (by simpa using h)];congr 2;omega
def jY (d:Ng):Ng:=⟨d.k,d.val,d.tx,d.cnt,d.ao,d.cap,d.args,0,0⟩
def fi (D D':List Ng):Prop:=D.map jY=D'.map jY
theorem fi.refl (D:List Ng):fi D D:=rfl
theorem fi.trans {D E F:List Ng} (h:fi D E) (k:fi E F):fi D F:=Eq.trans h k
theorem fi.len {D E:List Ng} (h:fi D E):E.length=D.length:=by simpa using (cL List.length h).symm
theorem fi.at {D E:List Ng} (h:fi D E) {n:Nat} (hn:n<D.length) (hn':n<E.length):jY D[n]=jY E[n]:=by have:=cL (·[n]?) h;simpa [aj hn,aj hn'] using this
theorem fi.set {D:List Ng} {n:Nat} (hn:n<D.length) {d:Ng} (h:jY d=jY D[n]):fi D (D.set n d):=by
 unfold fi;rw[mL];apply fY (by simp);intro i h1 h2;rw[pQ];split
 ·rename_i e;subst e;simp[h]
 ·rfl
def im (d:Ng):Option (Nat×List UInt8×Int):=if d.k=1 then none else if d.k=2 then some (3,[],d.val)else some (1,d.tx.toList,0)
def OF (d:Ng):af.Gn:=⟨im d,d.args⟩
def e8 (D:List Ng):List af.Gn:=D.map OF
theorem fi.g {D E:List Ng} (h:fi D E):e8 E=e8 D:=by have:=cL (List.map OF) h;rw[bQ,bQ]at this;exact this.symm
theorem m7 {D:List Ng} {n:Nat} (h:n<D.length):af.gl (e8 D) n=im D[n]:=by unfold af.gl e8;rw[bC,aj h];rfl
theorem lO {D:List Ng} {n:Nat} (h:n<D.length):af.ga (e8 D) n=D[n].args:=by unfold af.ga e8;rw[bC,aj h];rfl
structure jw (len:Nat) (d:Ng):Prop where
 ks:d.k=1\/d.k=2\/d.k=3
 v:d.k=1->d.val=0/\d.tx=⟨#[]⟩/\d.cnt=0/\d.args=[]
 m:d.k=2->d.tx=⟨#[]⟩/\d.cnt=0/\d.args=[]
 c:d.k=3->d.val=0/\d.cnt=d.args.length/\d.args.length<=3
 A7:∀a∈d.args,a<len
theorem jw.same {len:Nat} {d e:Ng} (q:jY d=jY e) (r:jw len d):jw len e:=by obtain⟨k,val,tx,cnt,ao,cap,args,nx,qs⟩:=d;obtain⟨k',val',tx',cnt',ao',cap',args',nx',mrk'⟩:=e;unfold jY at q;simp only[Ng.mk.injEq,J0]at q;obtain⟨rfl,rfl,rfl,rfl,rfl,rfl,rfl⟩:=q;exact⟨r.ks,r.v,r.m,r.c,r.A7⟩
theorem jw.few {len:Nat} {d:Ng} (h:jw len d):d.args.length<=3:=by
 rcases h.ks with q | q | q
 ·rw[(h.v q).2.2.2];simp
 ·rw[(h.m q).2.2];simp
 ·exact(h.c q).2.2
theorem jw.nQ {len:Nat} {d:Ng} (h:jw len d):im d=none↔d.k=1:=by
 unfold im;rcases h.ks with q | q | q
 ·simp[q]
 ·rw[q];simp
 ·rw[q];simp
theorem toList_inj {a b:ByteArray} (h:a.toList=b.toList):a=b:=by
 obtain⟨a⟩:=a;obtain⟨b⟩:=b;rw[aV,aV]at h;have:a=b:=by apply Array.toList_inj.1 h
 rw[this]
theorem rO {len:Nat} {d e:Ng} (h:jw len d) (k:jw len e) (h1:d.k≠1) (k1:e.k≠1):(im d=im e/\d.args.length=e.args.length)↔(d.k=e.k/\d.val=e.val/\d.tx=e.tx/\d.cnt=e.cnt):=by
 unfold im;rw[aG h1,aG k1];rcases h.ks with q | q | q
 ·exact absurd q h1
 ·obtain⟨a1,a2,a3⟩:=h.m q;rw[aH q];rcases k.ks with r | r | r
  ·exact absurd r k1
  ·obtain⟨b1,b2,b3⟩:=k.m r;rw[aH r,q,r,a1,a2,a3,b1,b2,b3];simp
  ·rw[aG (by omega),q,r];simp
 ·obtain⟨a1,a2,a3⟩:=h.c q;rw[aG (by omega)];rcases k.ks with r | r | r
  ·exact absurd r k1
  ·rw[aH r,q,r];simp
  ·obtain⟨b1,b2,b3⟩:=k.c r;rw[aG (by omega),q,r,a1,a2,b1,b2];simp only[aM,Prod.mk.injEq,OY,J0];exact⟨fun⟨x,y⟩=>⟨toList_inj x,y⟩,fun⟨x,y⟩=>⟨by rw[x],y⟩⟩
inductive Hop (D:List Ng):Nat->Nat->Nat->Prop
 | stop {n} (h:n<D.length) (e:D[n].nx=n):Hop D n n 0
 | go {n m k} (h:n<D.length) (e:D[n].nx≠n) (hs:Hop D D[n].nx m k):Hop D n m (k+1)
theorem Hop.lt {D:List Ng} {n m k:Nat} (h:Hop D n m k):n<D.length/\m<D.length:=by
 induction h with
 | stop h _=>exact⟨h,h⟩
 | go h _ _ ih=>exact⟨h,ih.2⟩
theorem Hop.end {D:List Ng} {n m k:Nat} (h:Hop D n m k):∃q:m<D.length,D[m].nx=m:=by
 induction h with
 | stop h e=>exact⟨h,e⟩
 | go _ _ _ ih=>exact ih
theorem Hop.one {D:List Ng} {n m k:Nat} (h:Hop D n m k):∀{m' k':Nat},Hop D n m' k'->m=m':=by
 induction h with
 | stop h e=>
  intro m' k' h';cases h' with
  | stop _ _=>rfl
  | go _ e' _=>exact absurd e e'
 | go h e hs ih=>
  intro m' k' h';cases h' with
  | stop _ e'=>exact absurd e' e
  | go _ _ hs'=>exact ih hs'
structure g8 (D:List Ng) (fr:Nat->Nat):Prop where
 nd:∀n (h:n<D.length),jw D.length D[n]
 hop:∀n,n<D.length->∃k,Hop D n (fr n) k
 out:∀n,D.length<=n->fr n=n
theorem g8.lt {D:List Ng} {fr:Nat->Nat} (h:g8 D fr) {n:Nat} (hn:n<D.length):fr n<D.length:=by obtain⟨k,hk⟩:=h.hop n hn;exact hk.lt.2
theorem g8.idem {D:List Ng} {fr:Nat->Nat} (h:g8 D fr) (n:Nat):fr (fr n)=fr n:=by
 by_cases hn:n<D.length
 ·obtain⟨k,hk⟩:=h.hop n hn;obtain⟨q,e⟩:=hk.end;obtain⟨k',hk'⟩:=h.hop (fr n) q;exact hk'.one (.stop q e)
 ·rw[h.out n (by omega),h.out n (by omega)]
theorem g8.self {D:List Ng} {fr:Nat->Nat} (h:g8 D fr) {n:Nat} (hn:n<D.length):fr n=n↔D[n].nx=n:=by
 obtain⟨k,hk⟩:=h.hop n hn;constructor
 ·intro e;rw[e]at hk;exact hk.end.2
 ·intro e;exact hk.one (.stop hn e)
def fW (D:List Ng) (a b:Nat):List Ng:=if h:a<D.length then D.set a {D[a]with nx:=b}else D
theorem mj (D:List Ng) (a b:Nat):fi D (fW D a b):=by
 unfold fW;split
 ·rename_i h;exact fi.set h rfl
 ·rfl
theorem lN {D:List Ng} {n:Nat} (hn:n<D.length) (h:n<(fW D a b).length):(fW D a b)[n].nx=if n=a then b else D[n].nx:=by
 unfold fW at h⊢;split
 ·rename_i ha;rw[pQ];by_cases e:a=n
  ·subst e;simp
  ·rw[aG e,aG (de e)]
 ·rename_i ha;rw[aG (by omega)]
theorem g8.link {D:List Ng} {fr:Nat->Nat} (h:g8 D fr) (ha:a<D.length) (hb:b<D.length) (hfa:fr a=a) (hfb:fr b=b) (hab:a≠b):g8 (fW D a b) (gu fr a b):=by
 have hs:=mj D a b;have hl:=hs.len;refine⟨fun n hn=> ?_,fun n hn=> ?_,fun n hn=> ?_⟩
 ·rw[hl];have h0:=h.nd n (by omega);have e:=hs.at (by omega:n<D.length) hn;exact h0.same e
 ·rw[hl]at hn
  obtain⟨k,hk⟩:=h.hop n hn;have stopb:Hop (fW D a b) b b 0:=by
   have q:b<(fW D a b).length:=by omega
   exact .stop q (by rw[lN hb q,aG (de hab)];exact(h.self hb).1 hfb)
  have key:∀{n m k},Hop D n m k->Hop (fW D a b) n (if m=a then b else m) (if m=a then k+1 else k):=by
   intro n m k hk;induction hk with
   | @stop n hn e=>
    have q:n<(fW D a b).length:=by omega
    by_cases ea:n=a
    ·rw[aH ea,aH ea];refine .go q ?_ ?_
     ·rw[lN hn q,aH ea,ea];exact de hab
     ·rw[lN hn q,aH ea];exact stopb
    ·rw[aG ea,aG ea];exact .stop q (by rw[lN hn q,aG ea];exact e)
   | @go n m k hn e hs ih=>
    have q:n<(fW D a b).length:=by omega
    have ea:n≠a:=fun r=>e (by subst r;exact(h.self hn).1 hfa);have:Hop (fW D a b) n (if m=a then b else m) ((if m=a then k+1 else k)+1):=by
     refine .go q ?_ ?_
     ·rw[lN hn q,aG ea];exact e
     ·rw[lN hn q,aG ea];exact ih
    by_cases em:m=a
    ·rw[aH em]at this⊢;rw[aH em]at this⊢;exact this
    ·rw[aG em]at this⊢;rw[aG em]at this⊢;exact this
  have:=key hk;by_cases e:fr n=a
  ·rw[aH e,aH e]at this;exact⟨_,by unfold gu;rw[aH e];exact this⟩
  ·rw[aG e,aG e]at this;exact⟨_,by unfold gu;rw[aG e];exact this⟩
 ·rw[hl]at hn;unfold gu;rw[h.out n hn,aG (by omega)]
theorem Hop.parts {D:List Ng} {n m k:Nat} (h:Hop D n m k) (hn:n<D.length):(m=n/\D[n].nx=n)\/∃p j,D[n].nx=p/\p≠n/\k=j+1/\Hop D p m j:=by
 cases h with
 | stop _ e=>exact ay ⟨rfl,e⟩
 | go _ e hs=>exact aw ⟨_,_,rfl,e,rfl,hs⟩
def rowOf (o:Option Addr) (k:Nat):Prop:=∃p,o=some p/\k=p.block
structure fS (w:World) (sb so:Nat) (cs:Array Value) (T:TypeId) (D:List Ng) (no:Option Addr) (nc:Nat):Prop where
 blk:w.heap[sb]?=some (.cells cs T (0,0))
 qF:cs[so]?=some (.slice no D.length nc)
 own:w.ownsRow 0 147 7 (.slice no D.length nc) D.length (nZ D)
 ty:T≠147
def di (w:World) (D:List Ng) (P:Nat->Prop):Prop:=∀d∈D,d.args≠[]->∃(g:Nat) (cs:Array Value),d.ao=some ⟨g,0,none⟩/\P g/\w.heap[g]?=some (.cells cs 3 (0,0))/\cs.toList.take d.args.length=d.args.map cN
theorem di.keep {D:List Ng} (h:di w D P) (hk:∀g cs,P g->w.heap[g]?=some (.cells cs 3 (0,0))->w'.heap[g]?=some (.cells cs 3 (0,0))/\Q g):di w' D Q:=fun d hd q=>by obtain⟨g,cs,h1,h2,h3,h4⟩:=h d hd q;obtain⟨r1,r2⟩:=hk g cs h2 h3;exact⟨g,cs,h1,r2,r1,h4⟩
theorem di.below {D:List Ng} (h:di w D P) (hb:Below w.heap.size w w'):di w' D P:=h.keep fun g _ hp hg=>⟨(hb.block g (aD hg)).trans hg,hp⟩
theorem di.same {D D':List Ng} (h:di w D P) (hs:fi D D'):di w D' P:=fun d hd q=>by
 obtain⟨i,hi,rfl⟩:=bG hd;have hl:=hs.len;have e:=hs.at (show i<D.length by omega) hi
 have h0:=h D[i] (aL _);generalize D[i]=a at*;generalize D'[i]=b at*;obtain⟨k,val,tx,cnt,ao,cap,args,nx,qs⟩:=a;obtain⟨k',val',tx',cnt',ao',cap',args',nx',mrk'⟩:=b;unfold jY at e;simp only[Ng.mk.injEq,J0]at e;obtain⟨rfl,rfl,rfl,rfl,rfl,rfl,rfl⟩:=e;exact h0 q
theorem fS.below {D:List Ng} (h:fS w sb so cs T D no nc) (hb:Below w.heap.size w w'):fS w' sb so cs T D no nc:=
 ⟨(hb.block sb (aD h.blk)).trans h.blk,h.qF,aO h.own (fun g q=>hb.block g (h.own.lt g q).2),h.ty⟩
theorem fS.at {w:World} {sb so:Nat} {cs:Array Value} {T:TypeId} {D:List Ng} {no:Option Addr} {nc:Nat} (h:fS w sb so cs T D no nc) {n:Nat} (hn:n<D.length):∃g,no=some ⟨g,0,none⟩/\g<w.heap.size/\g≠sb/\(∀j,j<7->w.cell? ⟨g,n*7+j,none⟩=(B5 D[n])[j]?)/\∀j,w.frozen? ⟨g,j,none⟩=false:=by
 rcases h.own.2 with⟨_,q⟩ | ⟨g,cap,cur,q1,_,q3,_⟩
 ·omega
 ·simp only[aS]at q1;obtain⟨rfl,_,_⟩:=q1;refine⟨g,rfl,aD q3,fun e=> ?_,fun j hj=> ?_,fun j=>h.own.frozenAt j⟩
  ·subst e;have:=h.blk;rw[q3]at this;simp only[aM,aR]at this;exact h.ty this.2.1.symm
  ·rw[h.own.cellAt (n*7+j) (by omega)];exact Lc hn j hj
theorem fS.cell {D:List Ng} (h:fS w sb so cs T D no nc):w.cell? ⟨sb,so,none⟩=some (.slice no D.length nc):=(aN h.blk so).trans h.qF
theorem fS.apart {D:List Ng} (h:fS w sb so cs T D no nc) {g:Nat} (hg:w.heap[g]?=some (.cells xs S (0,0))) (hS:S≠147):¬rowOf no g:=by
 rintro⟨p,rfl,rfl⟩;rcases h.own.2 with⟨c,_⟩ | ⟨g,cp,cur,c,_,hc,_⟩
 ·cases c
 ·simp only[aS,aM]at c;obtain⟨rfl,_⟩:=c;rw[hc]at hg;simp only[aM,aR]at hg;exact hS hg.2.1.symm
theorem di.vG {D E:List Ng} (h:di w D P) (hs:fS w sb so cs T E no nc) (hf:bZ (rowOf no) (rowOf no) w w'):di w' D P:=
 h.keep fun g _ hp hg=>⟨(hf.block g (aD hg) (hs.apart hg (by decide))).trans hg,hp⟩
theorem vB (w:World) (sb so:Nat) (cs:Array Value) (T:TypeId) (D:List Ng) (no:Option Addr) (nc:Nat) (n:Nat) (h:fS w sb so cs T D no nc) (hn:n<D.length):
 Calls Tryz.prog 125 #[.pointer (some ⟨sb,so,none⟩),.int .i64 (n:Int)] w fun e w'=>e= .returned (.bool true)/\w'=w:=by
 have s0:=h.cell;have sz:=aD h.blk;have t1:decide ((0:Int)<=(n:Int))=true:=by simp
 have t2:decide ((n:Int)<(D.length:Int))=true:=by simp;omega
 clear h;go_enter Tryz.func125,Tryz.ntmps125;go_wp2_with fail;go_ret;exact⟨rfl,rfl⟩
theorem fw (w:World) (sb so:Nat) (cs:Array Value) (T:TypeId) (D:List Ng) (no:Option Addr) (nc:Nat) (n m k:Nat) (h:fS w sb so cs T D no nc) (hn:Hop D n m k):
 Calls Tryz.prog 115 #[.pointer (some ⟨sb,so,none⟩),.int .i64 (n:Int)] w fun e w'=>e= .returned (cN m)/\w'=w:=by
 have H:=ah h;have s0:=h.cell;have sz:=aD h.blk;have HN:=ah hn;clear h hn;go_enter Tryz.func115,Tryz.ntmps115;go_wp2_with fail;go_loopg [5] k (fun j fv wr=>∃i:Nat,fv=cN i/\Hop D i m j/\wr=w)
 case atStart=>exact⟨n,rfl,ae HN,rfl⟩
 case round=>
  obtain⟨i,rfl,hop,rfl⟩:=hrel;have hi:=hop.lt.1;have HH:=ah (vB wr sb so cs T D no nc i (ae H) hi);obtain⟨g,rfl,gz,gne,hc,-⟩:=(ae H).at hi;have f5:=hc 5 (by omega);simp only[B5,aq,aA]at f5;have i0:(0:Int)<=(i:Int):=by omega
  have i1:(i:Int)<(D.length:Int):=by omega
  clear hc;unfold cN;rcases hop.parts hi with⟨rfl,e⟩ | ⟨p,j',e,hne,hk,hs⟩
  ·rw[e]at f5;clear e hop;go_wp2_with fail;refine(ae HH).mono ?_;rintro e w2 ⟨rfl,rfl⟩;go_wp2_with fail;go_ret;exact⟨rfl,rfl⟩
  ·rw[e]at f5;have HS:=ah hs;have HK:=ah hk;have t5:((p:Int) != (i:Int))=true:=by simp;omega
   clear hs hk e hop;go_wp2_with fail;refine(ae HH).mono ?_;rintro e w2 ⟨rfl,rfl⟩;go_wp2_with fail;go_roundg (gk - 1)
   case measure=>have:=ae HK;omega
   case rel=>exact⟨p,rfl,by have:=ae HK;rw[show gk - 1=j' by omega];exact ae HS,rfl⟩
theorem fd (w:World) (sb so:Nat) (cs:Array Value) (T:TypeId) (D:List Ng) (no:Option Addr) (nc:Nat) (n m k:Nat) (d:Ng) (h:fS w sb so cs T D no nc) (hn:Hop D n m k) (hd:D[m]?=some d):
 Calls Tryz.prog 80 #[.pointer (some ⟨sb,so,none⟩),.int .i64 (n:Int)] w fun e w'=>e= .returned (.agg #[.int .i64 d.k,.int .i64 d.val,.string d.tx,.int .i64 (d.cnt:Int)])/\Below w.heap.size w w':=by
 have hm:=hn.lt.2;have hW:=h.below ((al w.heap.size w).alloc Qw (.cells #[.int .i64 0,.int .i64 0,.string ⟨#[]⟩,.int .i64 0] 144));have HH:=ah (vB (w.alloc (.cells #[.int .i64 0,.int .i64 0,.string ⟨#[]⟩,.int .i64 0] 144)) sb so cs T D no nc m hW hm);have HF:=ah (fw (w.alloc (.cells #[.int .i64 0,.int .i64 0,.string ⟨#[]⟩,.int .i64 0] 144)) sb so cs T D no nc n m k hW hn);obtain⟨g,rfl,gz,gne,hc,-⟩:=h.at hm;have s0:=h.cell;have sz:=aD h.blk;have f0:=hc 0 (by omega);have f1:=hc 1 (by omega);have f2:=hc 2 (by omega);have f3:=hc 3 (by omega);rw[aj hm]at hd;obtain rfl:=cF hd;simp only[B5,aq,aA,dJ]at f0 f1 f2 f3;have i0:(0:Int)<=(m:Int):=by omega
 have i1:(m:Int)<(D.length:Int):=by omega
 have HNN:=ah hn;clear h hc hW hn hd;generalize D[m]=d at*;go_enter Tryz.func80,Tryz.ntmps80;go_wp2_with fail;refine(ae HF).mono ?_;rintro e w2 ⟨rfl,rfl⟩;unfold cN;go_wp2_with fail;refine(ae HH).mono ?_;rintro e w2 ⟨rfl,rfl⟩;go_wp2_with fail;refine aI (v:= .agg #[.int .i64 d.k,.int .i64 d.val,.string d.tx,.int .i64 (d.cnt:Int)]) (by simp[results,Tryz.results80,go_sem]) rfl ?_;exact⟨rfl,Qx.alloc Qw _⟩
theorem lC (w:World) (sb so:Nat) (cs:Array Value) (T:TypeId) (D:List Ng) (no:Option Addr) (nc:Nat) (n m k:Nat) (d:Ng) (h:fS w sb so cs T D no nc) (hn:Hop D n m k) (hd:D[m]?=some d):
 Calls Tryz.prog 82 #[.pointer (some ⟨sb,so,none⟩),.int .i64 (n:Int)] w fun e w'=>e= .returned (.slice d.ao d.args.length d.cap)/\w'=w:=by
 have hm:=hn.lt.2;have HH:=ah (vB w sb so cs T D no nc m h hm);have HF:=ah (fw w sb so cs T D no nc n m k h hn);obtain⟨g,rfl,gz,gne,hc,-⟩:=h.at hm;have s0:=h.cell;have sz:=aD h.blk;have f4:=hc 4 (by omega);rw[aj hm]at hd;obtain rfl:=cF hd;simp only[B5,aq,aA]at f4;have i0:(0:Int)<=(m:Int):=by omega
 have i1:(m:Int)<(D.length:Int):=by omega
 have HNN:=ah hn;clear h hc hn hd;generalize D[m]=d at*;go_enter Tryz.func82,Tryz.ntmps82;go_wp2_with fail;refine(ae HF).mono ?_;rintro e w2 ⟨rfl,rfl⟩;unfold cN;go_wp2_with fail;refine(ae HH).mono ?_;rintro e w2 ⟨rfl,rfl⟩;go_wp2_with fail;go_ret;exact⟨rfl,rfl⟩
theorem fS.link {D:List Ng} {g:Nat} (h:fS w sb so cs T D (some ⟨g,0,none⟩) nc) (ha:a<D.length):fS (w.setCell ⟨g,a*7+5,none⟩ (.int .i64 (b:Int))) sb so cs T (fW D a b) (some ⟨g,0,none⟩) nc/\bZ (rowOf (some ⟨g,0,none⟩)) (rowOf (some ⟨g,0,none⟩)) w (w.setCell ⟨g,a*7+5,none⟩ (.int .i64 (b:Int))):=by
 obtain⟨h1,h2⟩:=h.own.stored (a*7+5) (.int .i64 (b:Int));have hl:=(mj D a b).len;obtain⟨g',e,gz,gne,-⟩:=h.at ha;cases e;refine⟨⟨?_,by rw[hl];exact h.qF,?_,h.ty⟩,⟨h2.os,h2.tape,h2.output,h2.size,fun k hk hr=>h2.block k hk (fun e=>hr ⟨⟨g,0,none⟩,rfl,by simpa using e⟩),fun _ q=>ay q⟩⟩
 ·exact(h2.block sb (aD h.blk) (by simpa using de gne)).trans h.blk
 ·rw[hl];have:nZ (fW D a b)=(nZ D).set (a*7+5) (.int .i64 (b:Int)):=by unfold fW;rw[kX ha];exact AP D a 5 ha (by omega) _ _ rfl
  rw[this];exact h1
theorem sX (w:World) (sb so:Nat) (cs:Array Value) (T:TypeId) (D:List Ng) (no:Option Addr) (nc:Nat) (a b:Nat) (h:fS w sb so cs T D no nc) (ha:a<D.length):
 Calls Tryz.prog 175 #[.pointer (some ⟨sb,so,none⟩),.int .i64 (a:Int),.int .i64 (b:Int)] w fun e w'=>e= .returned (.tuple #[])/\fS w' sb so cs T (fW D a b) no nc/\bZ (rowOf no) (rowOf no) w w':=by
 have HH:=ah (vB w sb so cs T D no nc a h ha);obtain⟨g,rfl,gz,gne,hc,hx⟩:=h.at ha;have s0:=h.cell;have sz:=aD h.blk;have x5:=hx (a*7+5);have i0:(0:Int)<=(a:Int):=by omega
 have i1:(a:Int)<(D.length:Int):=by omega
 have f5:=hc 5 (by omega);simp only[B5,aq,aA]at f5;have HR:=ah (h.link (b:=b) ha);clear h hc hx;go_enter Tryz.func175,Tryz.ntmps175;go_wp2_with fail;refine(ae HH).mono ?_;rintro e w2 ⟨rfl,rfl⟩;go_wp2_with fail;go_end0;exact⟨rfl,ae HR⟩
theorem AX (w:World) (sb so:Nat) (cs:Array Value) (T:TypeId) (D:List Ng) (no:Option Addr) (nc:Nat) (a b lo hi:Nat) (h:fS w sb so cs T D no nc) (ha:a<D.length) (hb:b<D.length) (hl:(a<b/\lo=a/\hi=b)\/(b<a/\lo=b/\hi=a)):
 Calls Tryz.prog 174 #[.pointer (some ⟨sb,so,none⟩),.int .i64 (a:Int),.int .i64 (b:Int)] w fun e w'=>e= .returned (.tuple #[])/\fS w' sb so cs T (fW D hi lo) no nc/\bZ (rowOf no) (rowOf no) w w':=by
 rcases hl with⟨h1,rfl,rfl⟩ | ⟨h1,rfl,rfl⟩
 ·have HH:=ah (sX w sb so cs T D no nc hi lo h hb);have t1:decide ((lo:Int)<(hi:Int))=true:=by simpa using h1
  clear h;go_enter Tryz.func174,Tryz.ntmps174;go_wp2_with fail;refine(ae HH).mono ?_;rintro e w2 ⟨rfl,hr⟩;have HR:=ah hr;clear hr;go_wp2_with fail
  (try simp only[Exit.inBlock,Exit.then]);refine aI (results_none rfl _ _ _) rfl ?_
  exact⟨rfl,ae HR⟩
 ·have HH:=ah (sX w sb so cs T D no nc hi lo h ha);have t1:decide ((hi:Int)<(lo:Int))=false:=by simp;omega
  clear h;go_enter Tryz.func174,Tryz.ntmps174;go_wp2_with fail;refine(ae HH).mono ?_;rintro e w2 ⟨rfl,hr⟩;have HR:=ah hr;clear hr;go_wp2_with fail;go_end0;exact⟨rfl,ae HR⟩
end Go.Proofs.YthfjnfcekeknlabGreatDoor
namespace af
def uw (L:Nat) (fr:Nat->Nat):Nat:=(List.range L).countP fun n=>fr n == n
theorem Bp {p q:Nat->Bool}:∀{l:List Nat} {x:Nat},(∀n,q n=true->p n=true)->x∈l->p x=true->q x=false->l.countP q+1<=l.countP p
 | y :: l,x,h,hx,h1,h2=>by
  rw[pR,pR];rcases bh.1 hx with rfl | hx
  ·rw[h1,h2];have:l.countP q<=l.countP p:=List.countP_mono_left fun n _ r=>h n r;simp;omega
  ·have:=Bp h hx h1 h2;by_cases r:q y=true
   ·rw[r,h y r];simp;omega
   ·rw[Bool.not_eq_true]at r;rw[r];simp;omega
theorem wO {L:Nat} {fr:Nat->Nat} {a b:Nat} (ha:a<L) (hfa:fr a=a) (hfb:fr b=b) (hab:a≠b):uw L (gu fr a b)+1<=uw L fr:=by
 refine Bp (x:=a) (fun n h=> ?_) (by simpa using ha) (by simpa using hfa) ?_
 ·rw[JZ]at h⊢;unfold gu at h;split at h
  ·rename_i q;subst h;rw[hfb]at q;exact absurd q.symm hab
  ·exact h
 ·rw[mB];unfold gu;rw[aH hfa];exact de hab
end af
namespace Go.Proofs.YthfjnfcekeknlabGreatDoor
open Go.RowKit af
variable {w' w:World} {no ao:Option Addr} {T:TypeId} {cs:Array Value} {so sb nc c m a g b s:Nat} {xs:List Nat} {P:Nat->Prop} {fr:Nat->Nat} {e:Ending} {t:Nat->af.U} {u:af.U} {us:List af.U}
def tW (w:World) (ao:Option Addr) (xs:List Nat):Prop:=xs≠[]->∃(g:Nat) (cs:Array Value),ao=some ⟨g,0,none⟩/\w.heap[g]?=some (.cells cs 3 (0,0))/\cs.toList.take xs.length=xs.map cN
theorem tW.at {w:World} {ao:Option Addr} {xs:List Nat} (h:tW w ao xs) {j:Nat} (hj:j<xs.length):∃g,ao=some ⟨g,0,none⟩/\g<w.heap.size/\w.cell? ⟨g,j,none⟩=some (.int .i64 (xs[j]:Int)):=by obtain⟨g,cs,h1,h2,h3⟩:=h (fun q=>by rw[q]at hj;simp at hj);refine⟨g,h1,aD h2,?_⟩;rw[aN h2,<-ci,<-cr (l:=cs.toList) hj,h3,bC,aj hj];rfl
theorem tW.vG {E:List Ng} (h:tW w ao xs) (hs:fS w sb so cs T E no nc) (hf:bZ (rowOf no) (rowOf no) w w'):tW w' ao xs:=fun q=>by obtain⟨g,ds,h1,h2,h3⟩:=h q;exact⟨g,ds,h1,(hf.block g (aD h2) (hs.apart h2 (by decide))).trans h2,h3⟩
theorem di.row {D:List Ng} (h:di w D P) {d:Ng} (hd:d∈D):tW w d.ao d.args:=fun q=>by obtain⟨g,cs,h1,_,h3,h4⟩:=h d hd q;exact⟨g,cs,h1,h3,h4⟩
def J3 (sb so:Nat) (cs:Array Value) (T:TypeId) (D:List Ng) (no:Option Addr) (nc:Nat) (J:Bool->(Nat->Nat)->Prop) (c:Nat) (w:World) (e:Ending) (w':World):Prop:=
 ∃(r:Bool) (D':List Ng) (fr':Nat->Nat),e= .returned (.bool r)/\fS w' sb so cs T D' no nc/\fi D D'/\(r=true->g8 D' fr'/\uw D.length fr'<=c)/\J r fr'/\bZ (rowOf no) (rowOf no) w w'
def De (c:Nat):Prop:=∀(w:World) (sb so:Nat) (cs:Array Value) (T:TypeId) (D:List Ng) (no:Option Addr) (nc:Nat) (P:Nat->Prop) (fr:Nat->Nat) (a b:Nat),fS w sb so cs T D no nc->g8 D fr->di w D P->uw D.length fr<=c->a<D.length->b<D.length->
 Calls Tryz.prog 133 #[.pointer (some ⟨sb,so,none⟩),.int .i64 (a:Int),.int .i64 (b:Int)] w fun e w'=>J3 sb so cs T D no nc (fun r fr'=>fa (e8 D) fr a b r fr') (uw D.length fr) w e w'
def PX (w:World) (sb so:Nat) (cs:Array Value) (T:TypeId) (D:List Ng) (no:Option Addr) (nc:Nat) (P:Nat->Prop) (fr:Nat->Nat) (xs ys:List Nat) (k:Nat) (iv:Value) (wr:World):Prop:=
 ∃(j:Nat) (D1:List Ng) (fr1:Nat->Nat),k+j=xs.length/\iv= .int .i64 (j:Int)/\fS wr sb so cs T D1 no nc/\fi D D1/\g8 D1 fr1/\di wr D1 P/\uw D.length fr1<=uw D.length fr/\
  (∀r fr',jS (e8 D) fr1 (xs.drop j) (ys.drop j) r fr'->jS (e8 D) fr xs ys r fr')/\bZ (rowOf no) (rowOf no) w wr
theorem Lw (IH:De c) (w:World) (sb so:Nat) (cs:Array Value) (T:TypeId) (D:List Ng) (no:Option Addr) (nc:Nat) (P:Nat->Prop) (fr:Nat->Nat) (xs ys:List Nat) (xo yo:Option Addr) (xc yc:Nat) (h:fS w sb so cs T D no nc) (hok:g8 D fr) (ha:di w D P) (hc:uw D.length fr<=c) (hx:tW w xo xs) (hy:tW w yo ys) (hxl:∀x∈xs,x<D.length) (hyl:∀y∈ys,y<D.length) (hl:xs.length=ys.length) (h3:xs.length<=3):
 Calls Tryz.prog 176 #[.pointer (some ⟨sb,so,none⟩),.slice xo xs.length xc,.slice yo ys.length yc] w fun e w'=>J3 sb so cs T D no nc (fun r fr'=>jS (e8 D) fr xs ys r fr') (uw D.length fr) w e w':=by
 have HST:=ah (show PX w sb so cs T D no nc P fr xs ys xs.length (.int .i64 0) w from ⟨0,D,fr,by omega,rfl,h,fi.refl D,hok,ha,Qw,(fun r fr' q=>by simpa using q),bZ.aX Qx⟩)
 have I:=ah IH;have HX:=ah hx;have HY:=ah hy;have HXL:=ah hxl;have HYL:=ah hyl;have HC:=ah hc;have HS0:=ah h;rw[<-hl];have HL:=ah hl;clear h hok ha hx hy hxl hyl hc IH hl;go_enter Tryz.func176,Tryz.ntmps176;go_wp2_with fail;go_loopg [7] xs.length (fun k iv wr=>PX w sb so cs T D no nc P fr xs ys k iv wr)
 case atStart=>exact ae HST
 case round=>
  clear HST;obtain⟨j,D1,fr1,hkj,rfl,hst,hsm,hok,ha,hn,hcont,hfr⟩:=hrel;by_cases hlt:j<xs.length
  ·have hlt':j<ys.length:=by have:=ae HL;omega
   obtain⟨gx,ex,zx,cx⟩:=((ae HX).vG (ae HS0) hfr).at hlt;obtain⟨gy,ey,zy,cy⟩:=((ae HY).vG (ae HS0) hfr).at hlt';subst ex ey;have hl1:=hsm.len;have IC:=ah (ae I wr.drew sb so cs T D1 no nc P fr1 xs[j] ys[j] (hst.below Qx.drew) hok (ha.below Qx.drew) (by rw[hl1];have:=ae HC;omega) (by rw[hl1];exact ae HXL _ (aL hlt)) (by rw[hl1];exact ae HYL _ (aL hlt')));have HDX:=ah (show xs.drop j=xs[j] :: xs.drop (j+1)from fo hlt)
   have HDY:=ah (show ys.drop j=ys[j] :: ys.drop (j+1)from fo hlt')
   have HF0:=ah (show∀w',bZ (rowOf no) (rowOf no) w w'->w'.cell? ⟨gx,j,none⟩=some (.int .i64 (xs[j]:Int))/\w'.cell? ⟨gy,j,none⟩=some (.int .i64 (ys[j]:Int))from fun w' hf=>by obtain⟨g1,e1,_,c1⟩:=((ae HX).vG (ae HS0) hf).at hlt;obtain⟨g2,e2,_,c2⟩:=((ae HY).vG (ae HS0) hf).at hlt';cases e1;cases e2;exact⟨c1,c2⟩)
   have HFR:=ah hfr;have HSM:=ah hsm;have HST1:=ah hst;have HAR:=ah ha;have HN:=ah hn;have HCO:=ah hcont;have HKJ:=ah hkj;have HLT:=ah hlt;have HG1:=ah hsm.g;have HL1:=ah hl1;generalize xs[j]=na at*;generalize ys[j]=nb at*;have i0:(0:Int)<=(j:Int):=by omega
   have i1:(j:Int)<(xs.length:Int):=by omega
   clear hst hsm hok ha hn hcont hfr hkj hlt hlt' hl1;go_wp2_with fail;go_region_held3 (fun w'=>w'.cell? ⟨gx,j,none⟩=some (.int .i64 (na:Int))/\w'.cell? ⟨gy,j,none⟩=some (.int .i64 (nb:Int))) (go_keep) (first
    | (go_at_call 133;refine(ae IC).mono ?_;rintro e w8 ⟨r,D8,fr8,rfl,h8,s8,o8,j8,f8⟩;have HFR8:=ah ((ae HFR).trans ((bZ.aX Qx.drew).trans f8));obtain⟨k0,k1⟩:=ae HF0 w8 (ae HFR8);have H8:=ah h8;have S8:=ah s8;have O8:=ah o8;have J8:=ah j8;have HA8:=ah (((ae HAR).below Qx.drew).vG ((ae HST1).below Qx.drew) f8);clear h8 s8 o8 j8 f8))
   all_goals
    cases r
    ·go_wp2_with fail;go_ret;refine⟨false,D8,fr8,rfl,ae H8,(ae HSM).trans (ae S8),fun q=>(by cases q),?_,ae HFR8⟩;refine ae HCO _ _ ?_;rw[ae HDX,ae HDY];have:=ae J8;rw[ae HG1]at this;exact .no this
    ·go_wp2_with fail;go_roundg (gk - 1)
     case measure=>have:=ae HKJ;have:=ae HLT;omega
     case rel=>obtain⟨o1,o2⟩:=ae O8 (by trivial);have hl1:=ae HL1;rw[hl1]at o2;refine⟨j+1,D8,fr8,by have:=ae HKJ;have:=ae HLT;omega,by go_num,ae H8,(ae HSM).trans (ae S8),o1,(ae HA8).same (ae S8),by have:=ae HN;omega,fun r fr' q=> ?_,ae HFR8⟩;refine ae HCO _ _ ?_;rw[ae HDX,ae HDY];have:=ae J8;rw[ae HG1]at this;exact .cons this q
  ·obtain rfl:j=xs.length:=by omega
   have HFIN:=ah (show J3 sb so cs T D no nc (fun r fr'=>jS (e8 D) fr xs ys r fr') (uw D.length fr) w (.returned (.bool true)) wr from ⟨true,D1,fr1,rfl,hst,hsm,(fun _=>⟨hok,hn⟩),hcont _ _ (by rw[List.drop_length,List.drop_eq_nil_of_le (by have:=ae HL;omega)];exact .nil),hfr⟩)
   clear hst hsm hok ha hn hcont hfr hkj;go_wp2_with fail;go_ret;exact ae HFIN
theorem g8.wZ {D:List Ng} (h:g8 D fr) {n:Nat} (hn:n<D.length):∃k,Hop D (fr n) (fr n) k:=by have:=h.hop (fr n) (h.lt hn);rwa [h.idem]at this
theorem OG {D:List Ng} (h:g8 D fr) {n:Nat} (hn:n<D.length):∃d,D[fr n]?=some d/\jw D.length d/\af.gl (e8 D) (fr n)=im d/\af.ga (e8 D) (fr n)=d.args/\d∈D:=by have hl:=h.lt hn;exact⟨D[fr n],aj hl,h.nd _ hl,m7 hl,lO hl,aL hl⟩
theorem vz (w:World) (sb so:Nat) (cs:Array Value) (T:TypeId) (D:List Ng) (no:Option Addr) (nc:Nat) (fr:Nat->Nat) (a b:Nat) (h:fS w sb so cs T D no nc) (hok:g8 D fr) (ha:a<D.length) (hb:b<D.length) (he:fr a=fr b):
 Calls Tryz.prog 133 #[.pointer (some ⟨sb,so,none⟩),.int .i64 (a:Int),.int .i64 (b:Int)] w fun e w'=>J3 sb so cs T D no nc (fun r fr'=>fa (e8 D) fr a b r fr') (uw D.length fr) w e w':=by
 obtain⟨ka,hka⟩:=hok.hop a ha;obtain⟨kb,hkb⟩:=hok.hop b hb;rw[<-he]at hkb;have FA:=ah (fw w sb so cs T D no nc a (fr a) ka h hka);have FB:=ah (fw w sb so cs T D no nc b (fr a) kb h hkb);have HFIN:=ah (show J3 sb so cs T D no nc (fun r fr'=>fa (e8 D) fr a b r fr') (uw D.length fr) w (.returned (.bool true)) w from ⟨true,D,fr,rfl,h,fi.refl D,fun _=>⟨hok,Qw⟩,.same he,bZ.aX Qx⟩)
 clear h hok hka hkb he;generalize fr a=p at*;go_enter Tryz.func133,Tryz.ntmps133;go_wp2_with fail;refine(ae FA).mono ?_;rintro e w2 ⟨rfl,rfl⟩;unfold cN at FB⊢;go_wp2_with fail;refine(ae FB).mono ?_;rintro e w2 ⟨rfl,rfl⟩;go_wp2_with fail;go_ret;exact ae HFIN
theorem Fm (IH:De c) (w:World) (sb so:Nat) (cs:Array Value) (T:TypeId) (D:List Ng) (no:Option Addr) (nc:Nat) (P:Nat->Prop) (fr:Nat->Nat) (a b:Nat) (h:fS w sb so cs T D no nc) (hok:g8 D fr) (har:di w D P) (hc:uw D.length fr<=c+1) (ha:a<D.length) (hb:b<D.length) (he:fr a≠fr b):
 Calls Tryz.prog 133 #[.pointer (some ⟨sb,so,none⟩),.int .i64 (a:Int),.int .i64 (b:Int)] w fun e w'=>J3 sb so cs T D no nc (fun r fr'=>fa (e8 D) fr a b r fr') (uw D.length fr) w e w':=by
 obtain⟨ka,hka⟩:=hok.hop a ha;obtain⟨kb,hkb⟩:=hok.hop b hb;obtain⟨ja,hja⟩:=hok.wZ ha;obtain⟨jb,hjb⟩:=hok.wZ hb;obtain⟨da,hda,oa,ga,aa,ma⟩:=OG hok ha;obtain⟨db,hdb,ob,gb,ab,mb⟩:=OG hok hb;have la:=hok.lt ha;have lb:=hok.lt hb;have ia:=hok.idem a;have ib:=hok.idem b;have FA:=ah (fw w sb so cs T D no nc a (fr a) ka h hka);have FB:=ah (fw w sb so cs T D no nc b (fr b) kb h hkb);have LA:=ah (fd w sb so cs T D no nc (fr a) (fr a) ja da h hja hda);have LB:=ah (fun W (hb:Below w.heap.size w W)=>fd W sb so cs T D no nc (fr b) (fr b) jb db (h.below hb) hjb hdb);have AA:=ah (fun W (hb:Below w.heap.size w W)=>lC W sb so cs T D no nc (fr a) (fr a) ja da (h.below hb) hja hda);have AB:=ah (fun W (hb:Below w.heap.size w W)=>lC W sb so cs T D no nc (fr b) (fr b) jb db (h.below hb) hjb hdb);have link1:∀x y,(x=fr a/\y=fr b)\/(x=fr b/\y=fr a)->g8 (fW D x y) (gu fr x y)/\uw D.length (gu fr x y)+1<=uw D.length fr:=fun x y q=>by
  rcases q with⟨rfl,rfl⟩ | ⟨rfl,rfl⟩
  ·exact⟨hok.link la lb ia ib he,wO la ia ib he⟩
  ·exact⟨hok.link lb la ib ia (de he),wO lb ib ia (de he)⟩
 have done:∀x y W W',((x=fr a/\y=fr b)\/(x=fr b/\y=fr a))->Below w.heap.size w W->fS W' sb so cs T (fW D x y) no nc->bZ (rowOf no) (rowOf no) W W'->fa (e8 D) fr a b true (gu fr x y)->J3 sb so cs T D no nc (fun r fr'=>fa (e8 D) fr a b r fr') (uw D.length fr) w (.returned (.bool true)) W':=fun x y W W' q hW hS hF hJ=>
  ⟨true,fW D x y,gu fr x y,rfl,hS,mj D x y,fun _=>⟨(link1 x y q).1,by have:=(link1 x y q).2;omega⟩,hJ,(bZ.aX hW).trans hF⟩
 have DONE:=ah done;have HH:=ah h;have t0:(((fr a:Nat):Int) == ((fr b:Nat):Int))=false:=by simp;omega
 by_cases k1:da.k=1
 ·by_cases k2:db.k=1
  ·
   obtain⟨lo,hi,hlh⟩:∃lo hi,(fr a<fr b/\lo=fr a/\hi=fr b)\/(fr b<fr a/\lo=fr b/\hi=fr a):=by
    rcases Nat.lt_or_ge (fr a) (fr b)with q | q
    ·exact⟨_,_,ay ⟨q,rfl,rfl⟩⟩
    ·exact⟨_,_,aw ⟨by omega,rfl,rfl⟩⟩
   have LK:=ah (fun W (hb:Below w.heap.size w W)=>AX W sb so cs T D no nc (fr a) (fr b) lo hi (h.below hb) la lb hlh);have HJ:=ah (show fa (e8 D) fr a b true (gu fr hi lo)from .vars he (by rw[ga];exact oa.nQ.2 k1) (by rw[gb];exact ob.nQ.2 k2) (by rcases hlh with⟨_,r,s⟩ | ⟨_,r,s⟩;exact ay ⟨r,s⟩;exact aw ⟨r,s⟩) (by rcases hlh with⟨q,r,s⟩ | ⟨q,r,s⟩<;>omega))
   have HQ:=ah (show (hi=fr a/\lo=fr b)\/(hi=fr b/\lo=fr a)by rcases hlh with⟨_,r,s⟩ | ⟨_,r,s⟩;exact aw ⟨s,r⟩;exact ay ⟨s,r⟩)
   obtain⟨k,val,tx,cnt,ao,cap,args,nx,qs⟩:=da;obtain⟨k',val',tx',cnt',ao',cap',args',nx',mrk'⟩:=db;dsimp only at k1 k2 LA LB;subst k1 k2;clear h hok har hka hkb hja hjb hda hdb oa ob ga gb aa ab ma mb la lb ia ib link1 done hlh he hc ha hb AA AB IH;generalize fr a=p at*;generalize fr b=q at*;go_enter Tryz.func133,Tryz.ntmps133;go_wp2_with fail;refine(ae FA).mono ?_;rintro e w2 ⟨rfl,rfl⟩;unfold cN at FB⊢;go_wp2_with fail;refine(ae FB).mono ?_;rintro e w2 ⟨rfl,rfl⟩;go_wp2_with fail;refine(ae LA).mono ?_;rintro e w3 ⟨rfl,hb3⟩;have HB3:=ah (hb3.alloc hb3.size (.cells #[.int .i64 1,.int .i64 val,.string tx,.int .i64 (cnt:Int)] 144));have z3:=hb3.size;clear hb3;go_wp2_with fail;refine(ae LB _ (ae HB3)).mono ?_;rintro e w4 ⟨rfl,hb4⟩;have HB4:=ah (((ae HB3).trans (hb4.mono (by simp;omega))).alloc (by have:=hb4.size;simp at this;omega) (.cells #[.int .i64 1,.int .i64 val',.string tx',.int .i64 (cnt':Int)] 144));have f0:=(hb4.cell (p:=⟨w3.heap.size,0,none⟩) (by simp)).trans (aN (aB w3 _) 0);simp only[aE,aq]at f0;have z4:w3.heap.size<w4.heap.size:=by have:=hb4.size;simp at this;omega
   clear hb4;go_wp2_with fail;refine(ae LK _ (ae HB4)).mono ?_;rintro e w5 ⟨rfl,hs5,hf5⟩;have HFIN:=ah (ae DONE hi lo _ _ (ae HQ) (ae HB4) hs5 hf5 (ae HJ));clear hs5 hf5;go_wp2_with fail;go_ret;exact ae HFIN
  ·
   have LK:=ah (fun W (hb:Below w.heap.size w W)=>sX W sb so cs T D no nc (fr a) (fr b) (h.below hb) la);have HJ:=ah (show fa (e8 D) fr a b true (gu fr (fr a) (fr b))from .left he (by rw[ga];exact oa.nQ.2 k1) (by rw[gb];exact fun r=>k2 (ob.nQ.1 r)))
   have DN:=ah (fun W W' (h1:Below w.heap.size w W) (h2:fS W' sb so cs T (fW D (fr a) (fr b)) no nc) (h3:bZ (rowOf no) (rowOf no) W W')=>done (fr a) (fr b) W W' (ay ⟨rfl,rfl⟩) h1 h2 h3 (ae HJ));have t2:(db.k == 1)=false:=by simpa using k2
   obtain⟨k,val,tx,cnt,ao,cap,args,nx,qs⟩:=da;obtain⟨k',val',tx',cnt',ao',cap',args',nx',mrk'⟩:=db;dsimp only at k1 t2 LA LB;subst k1;clear h hok har hka hkb hja hjb hda hdb oa ob ga gb aa ab ma mb la lb ia ib link1 done he hc ha hb AA AB IH k2 HJ DONE;generalize fr a=p at*;generalize fr b=q at*;go_enter Tryz.func133,Tryz.ntmps133;go_wp2_with fail;refine(ae FA).mono ?_;rintro e w2 ⟨rfl,rfl⟩;unfold cN at FB⊢;go_wp2_with fail;refine(ae FB).mono ?_;rintro e w2 ⟨rfl,rfl⟩;go_wp2_with fail;refine(ae LA).mono ?_;rintro e w3 ⟨rfl,hb3⟩;have HB3:=ah (hb3.alloc hb3.size (.cells #[.int .i64 1,.int .i64 val,.string tx,.int .i64 (cnt:Int)] 144));have z3:=hb3.size;clear hb3;go_wp2_with fail;refine(ae LB _ (ae HB3)).mono ?_;rintro e w4 ⟨rfl,hb4⟩;have HB4:=ah (((ae HB3).trans (hb4.mono (by simp;omega))).alloc (by have:=hb4.size;simp at this;omega) (.cells #[.int .i64 k',.int .i64 val',.string tx',.int .i64 (cnt':Int)] 144));have f0:=(hb4.cell (p:=⟨w3.heap.size,0,none⟩) (by simp)).trans (aN (aB w3 _) 0);simp only[aE,aq]at f0;have z4:w3.heap.size<w4.heap.size:=by have:=hb4.size;simp at this;omega
   clear hb4;go_wp2_with fail;refine(ae LK _ (ae HB4)).mono ?_;rintro e w5 ⟨rfl,hs5,hf5⟩;have HFIN:=ah (ae DN _ _ (ae HB4) hs5 hf5);clear hs5 hf5;go_wp2_with fail;go_ret;exact ae HFIN
 ·by_cases k2:db.k=1
  ·
   have LK:=ah (fun W (hb:Below w.heap.size w W)=>sX W sb so cs T D no nc (fr b) (fr a) (h.below hb) lb);have HJ:=ah (show fa (e8 D) fr a b true (gu fr (fr b) (fr a))from .right he (by rw[ga];exact fun r=>k1 (oa.nQ.1 r)) (by rw[gb];exact ob.nQ.2 k2))
   have DN:=ah (fun W W' (h1:Below w.heap.size w W) (h2:fS W' sb so cs T (fW D (fr b) (fr a)) no nc) (h3:bZ (rowOf no) (rowOf no) W W')=>done (fr b) (fr a) W W' (aw ⟨rfl,rfl⟩) h1 h2 h3 (ae HJ));have t2:(da.k == 1)=false:=by simpa using k1
   obtain⟨k,val,tx,cnt,ao,cap,args,nx,qs⟩:=da;obtain⟨k',val',tx',cnt',ao',cap',args',nx',mrk'⟩:=db;dsimp only at k2 t2 LA LB;subst k2;clear h hok har hka hkb hja hjb hda hdb oa ob ga gb aa ab ma mb la lb ia ib link1 done he hc ha hb AA AB IH k1 HJ DONE;generalize fr a=p at*;generalize fr b=q at*;go_enter Tryz.func133,Tryz.ntmps133;go_wp2_with fail;refine(ae FA).mono ?_;rintro e w2 ⟨rfl,rfl⟩;unfold cN at FB⊢;go_wp2_with fail;refine(ae FB).mono ?_;rintro e w2 ⟨rfl,rfl⟩;go_wp2_with fail;refine(ae LA).mono ?_;rintro e w3 ⟨rfl,hb3⟩;have HB3:=ah (hb3.alloc hb3.size (.cells #[.int .i64 k,.int .i64 val,.string tx,.int .i64 (cnt:Int)] 144));have z3:=hb3.size;clear hb3;go_wp2_with fail;refine(ae LB _ (ae HB3)).mono ?_;rintro e w4 ⟨rfl,hb4⟩;have HB4:=ah (((ae HB3).trans (hb4.mono (by simp;omega))).alloc (by have:=hb4.size;simp at this;omega) (.cells #[.int .i64 1,.int .i64 val',.string tx',.int .i64 (cnt':Int)] 144));have f0:=(hb4.cell (p:=⟨w3.heap.size,0,none⟩) (by simp)).trans (aN (aB w3 _) 0);simp only[aE,aq]at f0;have z4:w3.heap.size<w4.heap.size:=by have:=hb4.size;simp at this;omega
   clear hb4;go_wp2_with fail;refine(ae LK _ (ae HB4)).mono ?_;rintro e w5 ⟨rfl,hs5,hf5⟩;have HFIN:=ah (ae DN _ _ (ae HB4) hs5 hf5);clear hs5 hf5;go_wp2_with fail;go_ret;exact ae HFIN
  ·
   have t1:(da.k == 1)=false:=by simpa using k1
   have t2:(db.k == 1)=false:=by simpa using k2
   by_cases hs:da.k=db.k/\da.val=db.val/\da.tx=db.tx/\da.cnt=db.cnt
   ·have hs3:qR (e8 D) (fr a) (fr b):=by
     have:=(rO oa ob k1 k2).2 hs;exact⟨by rw[ga,gb];exact this.1,by rw[aa,ab];exact this.2⟩
    obtain⟨o1,n1⟩:=link1 (fr b) (fr a) (aw ⟨rfl,rfl⟩);have sm:=mj D (fr b) (fr a);have hl1:=sm.len;have LK:=ah (fun W (hb:Below w.heap.size w W)=>sX W sb so cs T D no nc (fr b) (fr a) (h.below hb) lb);have hlen:da.args.length=db.args.length:=by have:=hs3.2;rw[aa,ab]at this;exact this
    have JA:=ah (fun W W' (hW:Below w.heap.size w W) (hS:fS W' sb so cs T (fW D (fr b) (fr a)) no nc) (hF:bZ (rowOf no) (rowOf no) W W')=>Lw IH W' sb so cs T (fW D (fr b) (fr a)) no nc P (gu fr (fr b) (fr a)) da.args db.args da.ao db.ao da.cap db.cap hS o1 (((har.below hW).vG (h.below hW) hF).same sm) (by rw[hl1];omega) (((har.row ma).vG (sb:=sb) (so:=so) (cs:=cs) (T:=T) (E:=D) (nc:=nc) h (bZ.aX hW)).vG (h.below hW) hF) (((har.row mb).vG (sb:=sb) (so:=so) (cs:=cs) (T:=T) (E:=D) (nc:=nc) h (bZ.aX hW)).vG (h.below hW) hF) (fun x hx=>by rw[hl1];exact oa.A7 x hx) (fun x hx=>by rw[hl1];exact ob.A7 x hx) hlen oa.few);have FN:=ah (fun W W' e W'' (hW:Below w.heap.size w W) (hF:bZ (rowOf no) (rowOf no) W W') (hq:J3 sb so cs T (fW D (fr b) (fr a)) no nc (fun r fr'=>jS (e8 (fW D (fr b) (fr a))) (gu fr (fr b) (fr a)) da.args db.args r fr') (uw (fW D (fr b) (fr a)).length (gu fr (fr b) (fr a))) W' e W'')=>show J3 sb so cs T D no nc (fun r fr'=>fa (e8 D) fr a b r fr') (uw D.length fr) w e W'' from by obtain⟨r,D',fr',e1,e2,e3,e4,e5,e6⟩:=hq;rw[hl1]at e4;rw[sm.g]at e5;refine⟨r,D',fr',e1,e2,sm.trans e3,fun q=>⟨(e4 q).1,by have:=(e4 q).2;omega⟩,?_,((bZ.aX hW).trans hF).trans e6⟩;exact .args he (by rw[ga];exact fun r=>k1 (oa.nQ.1 r)) (by rw[gb];exact fun r=>k2 (ob.nQ.1 r)) hs3 (by rw[aa,ab];exact e5))
    have HL:=ah hlen;obtain⟨k,val,tx,cnt,ao,cap,args,nx,qs⟩:=da;obtain⟨k',val',tx',cnt',ao',cap',args',nx',mrk'⟩:=db;dsimp only at hs t1 t2 LA LB AA AB JA FN HL;obtain⟨rfl,rfl,rfl,rfl⟩:=hs;clear h hok har hka hkb hja hjb hda hdb oa ob ga gb aa ab ma mb la lb ia ib link1 done he hc ha hb IH k1 k2 DONE o1 n1 sm hl1 hlen hs3;generalize hD1:fW D (fr b) (fr a)=D1 at*;generalize hf1:gu fr (fr b) (fr a)=fr1 at*;clear hD1 hf1;generalize fr a=p at*;generalize fr b=q at*;go_enter Tryz.func133,Tryz.ntmps133;go_wp2_with fail;refine(ae FA).mono ?_;rintro e w2 ⟨rfl,rfl⟩;unfold cN at FB⊢;go_wp2_with fail;refine(ae FB).mono ?_;rintro e w2 ⟨rfl,rfl⟩;go_wp2_with fail;refine(ae LA).mono ?_;rintro e w3 ⟨rfl,hb3⟩;have HB3:=ah (hb3.alloc hb3.size (.cells #[.int .i64 k,.int .i64 val,.string tx,.int .i64 (cnt:Int)] 144));have z3:=hb3.size;clear hb3;go_wp2_with fail;refine(ae LB _ (ae HB3)).mono ?_;rintro e w4 ⟨rfl,hb4⟩;have HB4:=ah (((ae HB3).trans (hb4.mono (by simp;omega))).alloc (by have:=hb4.size;simp at this;omega) (.cells #[.int .i64 k,.int .i64 val,.string tx,.int .i64 (cnt:Int)] 144));have f0:=(hb4.cell (p:=⟨w3.heap.size,0,none⟩) (by simp)).trans (aN (aB w3 _) 0);have f1:=(hb4.cell (p:=⟨w3.heap.size,1,none⟩) (by simp)).trans (aN (aB w3 _) 1);have f2:=(hb4.cell (p:=⟨w3.heap.size,2,none⟩) (by simp)).trans (aN (aB w3 _) 2);have f3:=(hb4.cell (p:=⟨w3.heap.size,3,none⟩) (by simp)).trans (aN (aB w3 _) 3);simp only[aE,aq,aA]at f0 f1 f2 f3;have z4:w3.heap.size<w4.heap.size:=by have:=hb4.size;simp at this;omega
    clear hb4;go_wp2_with fail;refine(ae AA _ (ae HB4)).mono ?_;rintro e w5 ⟨rfl,rfl⟩;go_wp2_with fail;refine(ae AB _ (ae HB4)).mono ?_;rintro e w5 ⟨rfl,rfl⟩;go_wp2_with fail;refine(ae LK _ (ae HB4)).mono ?_;rintro e w5 ⟨rfl,hs5,hf5⟩;have HS5:=ah hs5;have HF5:=ah hf5;clear hs5 hf5;go_wp2_with fail;refine(ae JA _ _ (ae HB4) (ae HS5) (ae HF5)).mono ?_;intro e w6 h6;have HFIN:=ah (ae FN _ _ _ _ (ae HB4) (ae HF5) h6);obtain⟨r,D',fr',rfl,-⟩:=h6;go_wp2_with fail;go_ret;exact ae HFIN
   ·have hs3:¬qR (e8 D) (fr a) (fr b):=fun q=>hs ((rO oa ob k1 k2).1 ⟨by have:=q.1;rw[ga,gb]at this;exact this,by have:=q.2;rw[aa,ab]at this;exact this⟩)
    have FN:=ah (fun W (hW:Below w.heap.size w W)=>show J3 sb so cs T D no nc (fun r fr'=>fa (e8 D) fr a b r fr') (uw D.length fr) w (.returned (.bool false)) W from
     ⟨false,D,fr,rfl,h.below hW,fi.refl D,(fun q=>by cases q),.nh he (by rw[ga];exact fun r=>k1 (oa.nQ.1 r)) (by rw[gb];exact fun r=>k2 (ob.nQ.1 r)) hs3,bZ.aX hW⟩)
    obtain⟨k,val,tx,cnt,ao,cap,args,nx,qs⟩:=da;obtain⟨k',val',tx',cnt',ao',cap',args',nx',mrk'⟩:=db;dsimp only at hs t1 t2 LA LB;have hne:k≠k'\/val≠val'\/tx.toList≠tx'.toList\/cnt≠cnt':=by
     by_cases q1:k=k'
     ·by_cases q2:val=val'
      ·by_cases q3:tx=tx'
       ·exact aw (aw (aw fun q4=>hs ⟨q1,q2,q3,q4⟩))
       ·exact aw (aw (ay fun q=>q3 (toList_inj q)))
      ·exact aw (ay q2)
     ·exact ay q1
    have hN:((k == k')&&((val == val')&&((tx.toList == tx'.toList)&&((cnt:Int) == (cnt':Int)))))=false:=by
     rw[ro,ro,ro];rcases hne with q | q | q | q
     ·exact ay (by simpa using q)
     ·exact aw (ay (by simpa using q))
     ·exact aw (aw (ay (by simpa using q)))
     ·exact aw (aw (aw (by simp;omega)))
    have HNE:=ah hne;clear h hok har hka hkb hja hjb hda hdb oa ob ga gb aa ab ma mb la lb ia ib link1 done he hc ha hb IH k1 k2 DONE hs3 hs AA AB hne hN;generalize fr a=p at*;generalize fr b=q at*;go_enter Tryz.func133,Tryz.ntmps133;go_wp2_with fail;refine(ae FA).mono ?_;rintro e w2 ⟨rfl,rfl⟩;unfold cN at FB⊢;go_wp2_with fail;refine(ae FB).mono ?_;rintro e w2 ⟨rfl,rfl⟩;go_wp2_with fail;refine(ae LA).mono ?_;rintro e w3 ⟨rfl,hb3⟩;have HB3:=ah (hb3.alloc hb3.size (.cells #[.int .i64 k,.int .i64 val,.string tx,.int .i64 (cnt:Int)] 144));have z3:=hb3.size;clear hb3;go_wp2_with fail;refine(ae LB _ (ae HB3)).mono ?_;rintro e w4 ⟨rfl,hb4⟩;have HB4:=ah (((ae HB3).trans (hb4.mono (by simp;omega))).alloc (by have:=hb4.size;simp at this;omega) (.cells #[.int .i64 k',.int .i64 val',.string tx',.int .i64 (cnt':Int)] 144));have f0:=(hb4.cell (p:=⟨w3.heap.size,0,none⟩) (by simp)).trans (aN (aB w3 _) 0);have f1:=(hb4.cell (p:=⟨w3.heap.size,1,none⟩) (by simp)).trans (aN (aB w3 _) 1);have f2:=(hb4.cell (p:=⟨w3.heap.size,2,none⟩) (by simp)).trans (aN (aB w3 _) 2);have f3:=(hb4.cell (p:=⟨w3.heap.size,3,none⟩) (by simp)).trans (aN (aB w3 _) 3);simp only[aE,aq,aA]at f0 f1 f2 f3;have z4:w3.heap.size<w4.heap.size:=by have:=hb4.size;simp at this;omega
    clear hb4;rcases ae HNE with q1 | q1 | q1 | q1
    ·have u1:(k == k')=false:=by simpa using q1
     clear q1 HNE;go_wp2_with fail;go_ret;exact ae FN _ (ae HB4)
    ·have u1:(val == val')=false:=by simpa using q1
     clear q1 HNE;go_wp2_with fail;go_ret;exact ae FN _ (ae HB4)
    ·have u1:(tx.toList == tx'.toList)=false:=by simpa using q1
     clear q1 HNE;go_wp2_with fail;go_ret;exact ae FN _ (ae HB4)
    ·have u1:((cnt:Int) == (cnt':Int))=false:=by simp;omega
     clear q1 HNE;go_wp2_with fail;go_ret;exact ae FN _ (ae HB4)
theorem A1:∀c,De c
 | 0=>fun w sb so cs T D no nc P fr a b h hok har hc ha hb=>by
  by_cases he:fr a=fr b
  ·exact vz w sb so cs T D no nc fr a b h hok ha hb he
  ·have:=wO (hok.lt ha) (hok.idem a) (hok.idem b) he;omega
 | c+1=>fun w sb so cs T D no nc P fr a b h hok har hc ha hb=>by
  by_cases he:fr a=fr b
  ·exact vz w sb so cs T D no nc fr a b h hok ha hb he
  ·exact Fm (A1 c) w sb so cs T D no nc P fr a b h hok har hc ha hb he
def Ou (d:Ng):Ng:=⟨d.k,d.val,d.tx,d.cnt,d.ao,d.cap,d.args,d.nx,0⟩
def gj (D D':List Ng):Prop:=D.map Ou=D'.map Ou
theorem gj.refl (D:List Ng):gj D D:=rfl
theorem gj.trans {D E F:List Ng} (h:gj D E) (k:gj E F):gj D F:=Eq.trans h k
theorem gj.len {D E:List Ng} (h:gj D E):E.length=D.length:=by simpa using (cL List.length h).symm
theorem gj.n {D E:List Ng} (h:gj D E):fi D E:=by have:=cL (List.map jY) h;rw[bQ,bQ]at this;exact this
theorem gj.nx {D E:List Ng} (h:gj D E) {n:Nat} (hn:n<D.length) (hn':n<E.length):E[n].nx=D[n].nx:=by have:=cL (fun l=>l[n]?.map Ng.nx) h;simpa [aj hn,aj hn',Ou] using this.symm
theorem gj.set {D:List Ng} {n:Nat} (hn:n<D.length) {d:Ng} (h:Ou d=Ou D[n]):gj D (D.set n d):=by
 unfold gj;rw[mL];apply fY (by simp);intro i h1 h2;rw[pQ];split
 ·rename_i e;subst e;simp[h]
 ·rfl
theorem gj.ok {D E:List Ng} (h:gj D E) (ho:g8 D fr):g8 E fr:=by
 have hl:=h.len;refine⟨fun n hn=> ?_,fun n hn=> ?_,fun n hn=>ho.out n (by omega)⟩
 ·have:=(ho.nd n (by omega)).same (h.n.at (by omega) hn);rw[hl];exact this
 ·obtain⟨k,hk⟩:=ho.hop n (by omega)
  have key:∀{n m k},Hop D n m k->Hop E n m k:=by
   intro n m k hk;induction hk with
   | stop q e=>exact .stop (by omega) (by rw[h.nx q (by omega)];exact e)
   | go q e _ ih=>exact .go (by omega) (by rw[h.nx q (by omega)];exact e) (by rw[h.nx q (by omega)];exact ih)
  exact⟨k,key hk⟩
def J4 (D:List Ng) (K:Nat->Nat):Prop:=∀n (h:n<D.length),D[n].qs=K n
def Le (d:Ng) (m:Nat):Ng:=⟨d.k,d.val,d.tx,d.cnt,d.ao,d.cap,d.args,d.nx,m⟩
def ik (D:List Ng) (a m:Nat):List Ng:=if h:a<D.length then D.set a (Le D[a] m)else D
theorem js (D:List Ng) (a m:Nat):gj D (ik D a m):=by
 unfold ik;split
 ·rename_i h;exact gj.set h rfl
 ·rfl
theorem J4.upd {D:List Ng} {K:Nat->Nat} (h:J4 D K) {a:Nat} (ha:a<D.length) (m:Nat):J4 (ik D a m) (af.upd K a m):=by
 intro n hn;have hnD:n<D.length:=by rw[(js D a m).len]at hn;exact hn
 unfold ik at hn⊢;split
 ·rw[pQ];by_cases e:a=n
  ·subst e;rw[aH rfl,wi];rfl
  ·rw[aG e,upd_ne _ _ (de e)];exact h n hnD
 ·rename_i q;exact absurd ha q
def nz (D:List Ng):Nat:=D.countP fun d=>d.qs == 0
theorem Hk {m:Nat} (hm:m≠0):∀{D:List Ng} {a:Nat} (ha:a<D.length),nz (D.set a (Le D[a] m))+(if D[a].qs=0 then 1 else 0)=nz D
 | d :: D,0,_=>by
  unfold nz;simp only[ec,List.getElem_cons_zero,pR];have:((Le d m).qs == 0)=false:=by simpa [Le] using hm
  rw[this];simp
 | d :: D,a+1,ha=>by have:=Hk hm (D:=D) (a:=a) (by simpa using ha);unfold nz at this⊢;simp only[ed,List.getElem_cons_succ,pR];omega
theorem wN {D:List Ng} (ha:a<D.length) (hm:m≠0):nz (ik D a m)+(if D[a].qs=0 then 1 else 0)=nz D:=by unfold ik;rw[kX ha];exact Hk hm ha
theorem fS.mark {D:List Ng} (h:fS w sb so cs T D (some ⟨g,0,none⟩) nc) (ha:a<D.length):fS (w.setCell ⟨g,a*7+6,none⟩ (.int .i64 (m:Int))) sb so cs T (ik D a m) (some ⟨g,0,none⟩) nc/\bZ (rowOf (some ⟨g,0,none⟩)) (rowOf (some ⟨g,0,none⟩)) w (w.setCell ⟨g,a*7+6,none⟩ (.int .i64 (m:Int))):=by
 obtain⟨h1,h2⟩:=h.own.stored (a*7+6) (.int .i64 (m:Int));have hl:=(js D a m).len;obtain⟨g',e,gz,gne,-⟩:=h.at ha;cases e;refine⟨⟨?_,by rw[hl];exact h.qF,?_,h.ty⟩,⟨h2.os,h2.tape,h2.output,h2.size,fun k hk hr=>h2.block k hk (fun e=>hr ⟨⟨g,0,none⟩,rfl,by simpa using e⟩),fun _ q=>ay q⟩⟩
 ·exact(h2.block sb (aD h.blk) (by simpa using de gne)).trans h.blk
 ·rw[hl];have:nZ (ik D a m)=(nZ D).set (a*7+6) (.int .i64 (m:Int)):=by unfold ik;rw[kX ha];exact AP D a 6 ha (by omega) _ _ rfl
  rw[this];exact h1
def OP (sb so:Nat) (cs:Array Value) (T:TypeId) (D:List Ng) (no:Option Addr) (nc:Nat) (J:Bool->(Nat->Nat)->Prop) (w:World) (e:Ending) (w':World):Prop:=
 ∃(r:Bool) (D':List Ng) (K':Nat->Nat),e= .returned (.bool r)/\fS w' sb so cs T D' no nc/\gj D D'/\J4 D' K'/\nz D'<=nz D/\J r K'/\bZ (rowOf no) (rowOf no) w w'
def JH (c:Nat):Prop:=∀(w:World) (sb so:Nat) (cs:Array Value) (T:TypeId) (D:List Ng) (no:Option Addr) (nc:Nat) (P:Nat->Prop) (fr K:Nat->Nat) (n:Nat),fS w sb so cs T D no nc->g8 D fr->di w D P->J4 D K->nz D<=c->n<D.length->
 Calls Tryz.prog 177 #[.pointer (some ⟨sb,so,none⟩),.int .i64 (n:Int)] w fun e w'=>OP sb so cs T D no nc (fun r K'=>jg (e8 D) fr K n r K') w e w'
def PM (w:World) (sb so:Nat) (cs:Array Value) (T:TypeId) (D:List Ng) (no:Option Addr) (nc:Nat) (P:Nat->Prop) (fr K:Nat->Nat) (xs:List Nat) (k:Nat) (iv:Value) (wr:World):Prop:=
 ∃(j:Nat) (D1:List Ng) (K1:Nat->Nat),k+j=xs.length/\iv= .int .i64 (j:Int)/\fS wr sb so cs T D1 no nc/\gj D D1/\J4 D1 K1/\di wr D1 P/\nz D1<=nz D/\
  (∀r K',np (e8 D) fr K1 (xs.drop j) r K'->np (e8 D) fr K xs r K')/\bZ (rowOf no) (rowOf no) w wr
theorem uK (w:World) (sb so:Nat) (cs:Array Value) (T:TypeId) (D:List Ng) (no:Option Addr) (nc:Nat) (fr K:Nat->Nat) (n:Nat) (h:fS w sb so cs T D no nc) (hok:g8 D fr) (hm:J4 D K) (hn:n<D.length) (hs:K (fr n)≠0):
 Calls Tryz.prog 177 #[.pointer (some ⟨sb,so,none⟩),.int .i64 (n:Int)] w fun e w'=>OP sb so cs T D no nc (fun r K'=>jg (e8 D) fr K n r K') w e w':=by
 obtain⟨k,hk⟩:=hok.hop n hn;have hl:=hok.lt hn;have FA:=ah (fw w sb so cs T D no nc n (fr n) k h hk);have HH:=ah (vB w sb so cs T D no nc (fr n) h hl);obtain⟨g,rfl,gz,gne,hc,-⟩:=h.at hl;have f6:=hc 6 (by omega);simp only[B5,aq,aA,hm (fr n) hl]at f6;have s0:=h.cell;have sz:=aD h.blk;have HFIN:=ah (show OP sb so cs T D (some ⟨g,0,none⟩) nc (fun r K'=>jg (e8 D) fr K n r K') w (.returned (.bool (decide (K (fr n)=2)))) w from ⟨_,D,K,rfl,h,gj.refl D,hm,Qw,.seen hs,bZ.aX Qx⟩)
 have t0:(((K (fr n):Nat):Int) != 0)=true:=by simpa using hs
 have HT:=ah (show (((K (fr n):Nat):Int) == 2)=decide (K (fr n)=2)by rw[mw];simp;omega)
 have i0:(0:Int)<=((fr n:Nat):Int):=by omega
 have i1:((fr n:Nat):Int)<(D.length:Int):=by omega
 clear h hok hm hs hk hc hn;generalize K (fr n)=q at*;generalize fr n=p at*;go_enter Tryz.func177,Tryz.ntmps177;go_wp2_with fail;refine(ae FA).mono ?_;rintro e w2 ⟨rfl,rfl⟩;unfold cN;go_wp2_with fail;refine(ae HH).mono ?_;rintro e w2 ⟨rfl,rfl⟩;go_wp2_with fail;go_ret;have:=ae HFIN;rw[<-ae HT]at this;exact this
theorem walk_go (IH:JH c) (w:World) (sb so:Nat) (cs:Array Value) (T:TypeId) (D:List Ng) (no:Option Addr) (nc:Nat) (P:Nat->Prop) (fr K:Nat->Nat) (n:Nat) (h:fS w sb so cs T D no nc) (hok:g8 D fr) (har:di w D P) (hm:J4 D K) (hc:nz D<=c+1) (hn:n<D.length) (hs:K (fr n)=0):
 Calls Tryz.prog 177 #[.pointer (some ⟨sb,so,none⟩),.int .i64 (n:Int)] w fun e w'=>OP sb so cs T D no nc (fun r K'=>jg (e8 D) fr K n r K') w e w':=by
 obtain⟨k,hk⟩:=hok.hop n hn;obtain⟨j,hj⟩:=hok.wZ hn;have hl:=hok.lt hn;obtain⟨d,hd,od,gd,ad,md⟩:=OG hok hn;have FA:=ah (fw w sb so cs T D no nc n (fr n) k h hk);have HH:=ah (vB w sb so cs T D no nc (fr n) h hl);obtain⟨g,rfl,gz,gne,hc',hx⟩:=h.at hl;have f6:=hc' 6 (by omega);have x6:=hx (fr n*7+6);simp only[B5,aq,aA,hm (fr n) hl,hs]at f6;have s0:=h.cell;have sz:=aD h.blk;obtain⟨m1,m2⟩:=h.mark (m:=1) hl;have sm:=js D (fr n) 1;have hl1:=sm.len;have nz1:=wN (m:=1) hl (by omega);rw[aH (by rw[hm (fr n) hl,hs])]at nz1;have hd1:∃d1,(ik D (fr n) 1)[fr n]?=some d1/\d1.ao=d.ao/\d1.args=d.args/\d1.cap=d.cap:=by refine⟨(ik D (fr n) 1)[fr n]'(by omega),aj _,?_⟩;have e:=sm.n.at hl (by omega);rw[aj hl]at hd;obtain rfl:=cF hd;generalize (ik D (fr n) 1)[fr n]'(by omega)=y at*;generalize D[fr n]=z at*;unfold jY at e;simp only[Ng.mk.injEq]at e;obtain⟨_,_,_,_,e1,e2,e3,_⟩:=e;exact⟨e1.symm,e3.symm,e2.symm⟩
 obtain⟨d1,hd1,q1,q2,q3⟩:=hd1;have o1:=sm.ok hok;have hj1:∃j1,Hop (ik D (fr n) 1) (fr n) (fr n) j1:=by have:=o1.hop (fr n) (by omega);rwa [hok.idem]at this
 obtain⟨j1,hj1⟩:=hj1;have AG:=ah (lC (w.setCell ⟨g,fr n*7+6,none⟩ (.int .i64 1)) sb so cs T (ik D (fr n) 1) (some ⟨g,0,none⟩) nc (fr n) (fr n) j1 d1 m1 hj1 hd1);rw[q1,q2,q3]at AG;have HST:=ah (show PM w sb so cs T (ik D (fr n) 1) (some ⟨g,0,none⟩) nc P fr (af.upd K (fr n) 1) d.args d.args.length (.int .i64 0) (w.setCell ⟨g,fr n*7+6,none⟩ (.int .i64 1))from
  ⟨0,ik D (fr n) 1,af.upd K (fr n) 1,by omega,rfl,m1,gj.refl _,hm.upd hl 1,(har.vG h m2).same sm.n,Qw,(fun r K' q=>by simpa using q),m2⟩)
 have HR:=ah (show tW w d.ao d.args from har.row md)
 have HS0:=ah h;have I:=ah IH;have HC1:=ah (show nz (ik D (fr n) 1)<=c by omega)
 have HNZ:=ah (show nz (ik D (fr n) 1)<=nz D by omega)
 have HIN:=ah od.A7;have HO1:=ah o1;have HSM:=ah sm;have HL1:=ah hl1;have HG1:=ah sm.n.g;have HAD:=ah ad;have HKS:=ah hs;have hfew:=od.few;have i0:(0:Int)<=((fr n:Nat):Int):=by omega
 have i1:((fr n:Nat):Int)<(D.length:Int):=by omega
 have HL:=ah hl;clear h hok har hm hc hn hs hk hj gd ad md hc' hx m1 m2 sm hl1 nz1 hd1 q1 q2 q3 o1 hj1 od hd IH hl;obtain⟨dk,dval,dtx,dcnt,ao,dcap,xs,dnx,dmrk⟩:=d;dsimp only at HST HR AG hfew HIN HAD;go_enter Tryz.func177,Tryz.ntmps177;go_wp2_with fail;refine(ae FA).mono ?_;rintro e w2 ⟨rfl,rfl⟩;unfold cN;go_wp2_with fail;refine(ae HH).mono ?_;rintro e w2 ⟨rfl,rfl⟩;go_wp2_with fail;refine(ae AG).mono ?_;rintro e w3 ⟨rfl,rfl⟩;go_wp2_with fail;go_loopg [44] xs.length (fun k iv wr=>PM w2 sb so cs T (ik D (fr n) 1) (some ⟨g,0,none⟩) nc P fr (af.upd K (fr n) 1) xs k iv wr)
 case atStart=>exact ae HST
 case round=>
  clear HST AG;obtain⟨j,D1,K1,hkj,rfl,hst,hsm,hmk,har,hnz,hcont,hfr⟩:=hrel;have hl2:D1.length=D.length:=by rw[hsm.len,ae HL1]
  by_cases hlt:j<xs.length
  ·obtain⟨gx,ex,zx,cx⟩:=((ae HR).vG (ae HS0) hfr).at hlt;subst ex;have IC:=ah (ae I wr sb so cs T D1 (some ⟨g,0,none⟩) nc P fr K1 xs[j] hst (hsm.ok (ae HO1)) har hmk (by have:=ae HC1;omega) (by rw[hl2];exact ae HIN _ (aL hlt)));have HDX:=ah (show xs.drop j=xs[j] :: xs.drop (j+1)from fo hlt)
   have HFR:=ah hfr;have HSM1:=ah hsm;have HST1:=ah hst;have HAR:=ah har;have HNZ1:=ah hnz;have HCO:=ah hcont;have HKJ:=ah hkj;have HLT:=ah hlt;have HGG:=ah hsm.n.g;generalize xs[j]=na at*;have j0:(0:Int)<=(j:Int):=by omega
   have j1:(j:Int)<(xs.length:Int):=by omega
   clear hst hsm hmk har hnz hcont hfr hkj hlt hl2 f6 x6 s0 sz gz gne;go_wp2_with fail;refine(ae IC).mono ?_;rintro e w8 ⟨r,D8,K8,rfl,h8,s8,k8,z8,j8,f8⟩;have HFR8:=ah ((ae HFR).trans f8);have H8:=ah h8;have S8:=ah s8;have K8':=ah k8;have Z8:=ah z8;have J8:=ah j8;have HA8:=ah ((ae HAR).vG (ae HST1) f8);clear h8 s8 k8 z8 j8 f8;cases r
   ·go_wp2_with fail;go_ret;refine⟨false,D8,K8,rfl,ae H8,(ae HSM).trans ((ae HSM1).trans (ae S8)),ae K8',by have:=ae Z8;have:=ae HNZ1;have:=ae HNZ;omega,?_,ae HFR8⟩;refine .no (ae HKS) ?_;rw[ae HAD,<-ae HG1];refine ae HCO _ _ ?_;rw[ae HDX];have:=ae J8;rw[ae HGG]at this;exact .no this
   ·go_wp2_with fail;go_roundg (gk - 1)
    case measure=>have:=ae HKJ;have:=ae HLT;omega
    case rel=>refine⟨j+1,D8,K8,by have:=ae HKJ;have:=ae HLT;omega,by go_num,ae H8,(ae HSM1).trans (ae S8),ae K8',(ae HA8).same (ae S8).n,by have:=ae Z8;have:=ae HNZ1;omega,fun r K' q=> ?_,ae HFR8⟩;refine ae HCO _ _ ?_;rw[ae HDX];have:=ae J8;rw[ae HGG]at this;exact .cons this q
  ·obtain rfl:j=xs.length:=by omega
   have hlD:fr n<D1.length:=by rw[hl2];exact ae HL
   obtain⟨g',e',gz',gne',hc',hx'⟩:=hst.at hlD;cases e';have c6:=hc' 6 (by omega);have x6':=hx' (fr n*7+6);simp only[B5,aq,aA]at c6;have s0':=hst.cell;have sz':=aD hst.blk;obtain⟨m1,m2⟩:=hst.mark (m:=2) hlD;have sm2:=js D1 (fr n) 2;have nz2:=wN (m:=2) hlD (by omega);have i1':((fr n:Nat):Int)<(D1.length:Int):=by omega
   have HFIN:=ah (show OP sb so cs T D (some ⟨g,0,none⟩) nc (fun r K'=>jg (e8 D) fr K n r K') w2 (.returned (.bool true)) (wr.setCell ⟨g,fr n*7+6,none⟩ (.int .i64 2))from by refine⟨true,ik D1 (fr n) 2,af.upd K1 (fr n) 2,rfl,m1,(ae HSM).trans (hsm.trans sm2),hmk.upd hlD 2,by have:=ae HNZ;split at nz2<;>omega,?_,hfr.trans m2⟩;refine .go (ae HKS) ?_;rw[ae HAD,<-ae HG1];exact hcont _ _ (by rw[List.drop_length];exact .nil))
   generalize D1[fr n].qs=om at*;clear hst hsm hmk har hnz hcont hfr hkj hc' hx' m1 m2 sm2 nz2 hl2 f6 x6 s0 sz gz gne i1;go_wp2_with fail;go_ret;exact ae HFIN
theorem xR:∀c,JH c
 | 0=>fun w sb so cs T D no nc P fr K n h hok har hm hc hn=>by
  by_cases hs:K (fr n)=0
  ·have hl:=hok.lt hn;have:=wN (m:=1) hl (by omega);rw[aH (by rw[hm (fr n) hl,hs])]at this;omega
  ·exact uK w sb so cs T D no nc fr K n h hok hm hn hs
 | c+1=>fun w sb so cs T D no nc P fr K n h hok har hm hc hn=>by
  by_cases hs:K (fr n)=0
  ·exact walk_go (xR c) w sb so cs T D no nc P fr K n h hok har hm hc hn hs
  ·exact uK w sb so cs T D no nc fr K n h hok hm hn hs
def Ps (w:World) (sb so:Nat) (cs:Array Value) (T:TypeId) (D:List Ng) (no:Option Addr) (nc:Nat) (k:Nat) (iv:Value) (wr:World):Prop:=
 ∃(j:Nat) (D1:List Ng),k+j=D.length/\iv= .int .i64 (j:Int)/\fS wr sb so cs T D1 no nc/\gj D D1/\(∀n (h:n<D1.length),n<j->D1[n].qs=0)/\bZ (rowOf no) (rowOf no) w wr
theorem Lk {D:List Ng} {n:Nat} (ha:a<D.length) (hn:n<D.length) (hn':n<(ik D a m).length):(ik D a m)[n].qs=if n=a then m else D[n].qs:=by
 have h:J4 D (fun i=>(D[i]?.map Ng.qs).getD 0):=fun i hi=>by simp[aj hi]
 have:=h.upd ha m n hn';rw[this];by_cases e:n=a
 ·rw[aH e,e,wi]
 ·rw[aG e,upd_ne _ _ e];simp[aj hn]
theorem Iu (w:World) (sb so:Nat) (cs:Array Value) (T:TypeId) (D:List Ng) (no:Option Addr) (nc:Nat) (P:Nat->Prop) (fr:Nat->Nat) (n:Nat) (h:fS w sb so cs T D no nc) (hok:g8 D fr) (har:di w D P) (hn:n<D.length) (hD:D.length<=1000000000):
 Calls Tryz.prog 134 #[.pointer (some ⟨sb,so,none⟩),.int .i64 (n:Int)] w fun e w'=>∃(r:Bool) (D':List Ng) (K':Nat->Nat),e= .returned (.bool r)/\fS w' sb so cs T D' no nc/\gj D D'/\jg (e8 D) fr (fun _=>0) n r K'/\bZ (rowOf no) (rowOf no) w w':=by
 have HST:=ah (show Ps w sb so cs T D no nc D.length (.int .i64 0) w from ⟨0,D,by omega,rfl,h,gj.refl D,(fun n _ q=>by omega),bZ.aX Qx⟩)
 have s0:=h.cell;have sz:=aD h.blk;have H:=ah h;have HOK:=ah hok;have HAR:=ah har;have HN:=ah hn;clear h hok har hn;go_enter Tryz.func134,Tryz.ntmps134;go_wp2_with fail;go_loopg [11] D.length (fun k iv wr=>Ps w sb so cs T D no nc k iv wr)
 case atStart=>exact ae HST
 case round=>
  clear HST;obtain⟨j,D1,hkj,rfl,hst,hsm,hmk,hfr⟩:=hrel;have hl:=hsm.len;by_cases hlt:j<D.length
  ·have hlD:j<D1.length:=by omega
   obtain⟨g,rfl,gz,gne,hc,hx⟩:=hst.at hlD;have c6:=hc 6 (by omega);have x6:=hx (j*7+6);simp only[B5,aq,aA]at c6;have s1:=hst.cell;have z1:=aD hst.blk;obtain⟨m1,m2⟩:=hst.mark (m:=0) hlD;have HFIN:=ah (show Ps w sb so cs T D (some ⟨g,0,none⟩) nc (gk - 1) (.int .i64 ((j:Int)+1)) (wr.setCell ⟨g,j*7+6,none⟩ (.int .i64 0))from
    ⟨j+1,ik D1 j 0,by omega,by go_num,m1,hsm.trans (js D1 j 0),(fun n hn q=>by
     have hn1:n<D1.length:=by rw[(js D1 j 0).len]at hn;exact hn
     rw[Lk hlD hn1 hn];by_cases e:n=j
     ·rw[aH e]
     ·rw[aG e];exact hmk n hn1 (by omega)),hfr.trans m2⟩)
   have j0:(0:Int)<=(j:Int):=by omega
   have j1:(j:Int)<(D.length:Int):=by omega
   have j2:(j:Int)<(D1.length:Int):=by omega
   generalize D1[j].qs=om at*;have HKJ:=ah hkj;clear hst hsm hmk hfr hkj hc hx m1 m2 hl;go_wp2_with fail;go_roundg (gk - 1)
   case measure=>have:=ae HKJ;omega
   case rel=>exact ae HFIN
  ·obtain rfl:j=D.length:=by omega
   have hmk0:J4 D1 (fun _=>0):=fun n hn=>hmk n hn (by omega);have IC:=ah (xR (nz D1) wr sb so cs T D1 no nc P fr (fun _=>0) n hst (hsm.ok (ae HOK)) (((ae HAR).vG (ae H) hfr).same hsm.n) hmk0 Qw (by have:=ae HN;omega));have HFR:=ah hfr;have HSM:=ah hsm;clear hst hsm hmk hfr hkj hmk0 hl;go_wp2_with fail;refine(ae IC).mono ?_;rintro e w8 ⟨r,D8,K8,rfl,h8,s8,k8,z8,j8,f8⟩;have HFIN:=ah (show∃(r':Bool) (D':List Ng) (K':Nat->Nat),Ending.returned (.bool r)= .returned (.bool r')/\fS w8 sb so cs T D' no nc/\gj D D'/\jg (e8 D) fr (fun _=>0) n r' K'/\bZ (rowOf no) (rowOf no) w w8 from
    ⟨r,D8,K8,rfl,h8,(ae HSM).trans s8,by rw[(ae HSM).n.g]at j8;exact j8,(ae HFR).trans f8⟩)
   clear h8 s8 k8 z8 j8 f8;go_wp2_with fail;go_ret;exact ae HFIN
def OQ (sb so:Nat) (cs:Array Value) (T:TypeId) (D:List Ng) (no:Option Addr) (nc:Nat) (fr:Nat->Nat) (a b:Nat) (w:World) (e:Ending) (w':World):Prop:=
 ∃(r:Bool) (D':List Ng),e= .returned (.bool r)/\fS w' sb so cs T D' no nc/\fi D D'/\bZ (rowOf no) (rowOf no) w w'/\
  (r=true->∃fr' K',g8 D' fr'/\fa (e8 D) fr a b true fr'/\jg (e8 D) fr' (fun _=>0) a true K')/\
  (r=false->(∃fr',fa (e8 D) fr a b false fr')\/∃fr' K',fa (e8 D) fr a b true fr'/\jg (e8 D) fr' (fun _=>0) a false K')
theorem Kd (w:World) (sb so:Nat) (cs:Array Value) (T:TypeId) (D:List Ng) (no:Option Addr) (nc:Nat) (P:Nat->Prop) (fr:Nat->Nat) (a b:Nat) (h:fS w sb so cs T D no nc) (hok:g8 D fr) (har:di w D P) (ha:a<D.length) (hb:b<D.length) (hD:D.length<=1000000000):
 Calls Tryz.prog 88 #[.pointer (some ⟨sb,so,none⟩),.int .i64 (a:Int),.int .i64 (b:Int)] w fun e w'=>OQ sb so cs T D no nc fr a b w e w':=by
 have IJ:=ah (A1 (uw D.length fr) w sb so cs T D no nc P fr a b h hok har Qw ha hb);have H:=ah h;have HAR:=ah har;have HA:=ah ha;clear h hok har ha hb;go_enter Tryz.func88,Tryz.ntmps88;go_wp2_with fail;refine(ae IJ).mono ?_;rintro e w8 ⟨r,D8,fr8,rfl,h8,s8,o8,j8,f8⟩;cases r
 ·have HFIN:=ah (show OQ sb so cs T D no nc fr a b w (.returned (.bool false)) w8 from ⟨false,D8,rfl,h8,s8,f8,(fun q=>by cases q),fun _=>ay ⟨fr8,j8⟩⟩)
  clear h8 s8 o8 j8 f8;go_wp2_with fail;go_ret;exact ae HFIN
 ·obtain⟨o1,o2⟩:=o8 rfl;have IF:=ah (Iu w8 sb so cs T D8 no nc P fr8 a h8 o1 (((ae HAR).vG (ae H) f8).same s8) (by rw[s8.len];exact ae HA) (by rw[s8.len];exact hD));have S8:=ah s8;have O1:=ah o1;have J8:=ah j8;have F8:=ah f8;clear h8 s8 o8 j8 f8 o1 o2;go_wp2_with fail;refine(ae IF).mono ?_;rintro e w9 ⟨r,D9,K9,rfl,h9,s9,k9,f9⟩;have hg:=(ae S8).g;rw[hg]at k9;have HFIN:=ah (show OQ sb so cs T D no nc fr a b w (.returned (.bool r)) w9 from ⟨r,D9,rfl,h9,(ae S8).trans s9.n,(ae F8).trans f9,(fun q=>⟨fr8,K9,s9.ok (ae O1),ae J8,by rw[q]at k9;exact k9⟩),fun q=>aw ⟨fr8,K9,ae J8,by rw[q]at k9;exact k9⟩⟩)
  clear h9 s9 k9 f9 hg;go_wp2_with fail;go_ret;exact ae HFIN
theorem OQ.says {D:List Ng} (h:OQ sb so cs T D no nc fr a b w e w') (ht:kx (e8 D) fr t):
 ∃(r:Bool) (D':List Ng),e= .returned (.bool r)/\fS w' sb so cs T D' no nc/\fi D D'/\bZ (rowOf no) (rowOf no) w w'/\
  (r=true->∃fr' σ t',g8 D' fr'/\af.Made (e8 D) fr fr' t t' (t a) (t b) σ)/\(r=false->∀θ,af.sub θ (t a)≠af.sub θ (t b)):=by
 obtain⟨r,D',h1,h2,h3,h4,h5,h6⟩:=h;refine⟨r,D',h1,h2,h3,h4,fun q=> ?_,fun q=> ?_⟩
 ·obtain⟨fr',K',o,j,k⟩:=h5 q;obtain⟨σ,t',hm⟩:=(ht.join j).2.2 rfl K' k;exact⟨fr',σ,t',o,hm⟩
 ·rcases h6 q with⟨fr',j⟩ | ⟨fr',K',j,k⟩
  ·exact(ht.join j).1 rfl
  ·exact(ht.join j).2.1 rfl K' k
theorem Ab {D:List Ng} (hok:g8 D fr) {n:Nat} (hn:n<D.length) (h:Tr (e8 D) fr n u):∃d us,D[fr n]?=some d/\jw D.length d/\d∈D/\d.args.length=us.length/\(∀(i a:Nat) (v:af.U),d.args[i]?=some a->us[i]?=some v->Tr (e8 D) fr a v)/\
 ((d.k=1/\u= .v ([],fr n)/\us=[])\/(d.k=2/\u= .n 3 [] d.val []/\us=[])\/(d.k=3/\u= .n 1 d.tx.toList 0 us)):=by
 obtain⟨d,hd,od,gd,ad,md⟩:=OG hok hn;cases h with
 | var hg ha=>rw[gd]at hg;rw[ad]at ha;exact⟨d,[],hd,od,md,by rw[ha];rfl,fun i a v _ hv=>by simp at hv,ay ⟨od.nQ.1 hg,rfl,rfl⟩⟩
 | @node _ k tx num us hg hl ht=>
  rw[gd]at hg;rw[ad]at hl ht;refine⟨d,us,hd,od,md,hl,ht,aw ?_⟩;unfold im at hg;rcases od.ks with q | q | q
  ·rw[aH q]at hg;cases hg
  ·rw[aG (by omega),aH q]at hg;cases hg;have:us=[]:=by rw[(od.m q).2.2]at hl;exact ch.1 hl.symm
   subst this;exact ay ⟨q,rfl,rfl⟩
  ·rw[aG (by omega),aG (by omega)]at hg;cases hg;exact aw ⟨q,rfl⟩
theorem Kh {d:Ng} {n:Nat} (h:(d.k=1/\u= .v ([],n)/\us=[])\/(d.k=2/\u= .n 3 [] d.val []/\us=[])\/(d.k=3/\u= .n 1 d.tx.toList 0 us)):af.size u=1+b8 us:=by
 rcases h with⟨_,rfl,rfl⟩ | ⟨_,rfl,rfl⟩ | ⟨_,rfl⟩
 ·simp[af.size,b8]
 ·simp[af.size,b8]
 ·rw[af.size]
theorem oD:∀(us:List af.U) (u:af.U),b8 (us++[u])=b8 us+af.size u
 | [],u=>by simp[b8]
 | v :: us,u=>by rw[dN,b8,b8,oD us u];omega
theorem sk (us:List af.U) (j:Nat):b8 (us.take j)<=b8 us:=by
 induction us generalizing j with
 | nil=>simp[b8]
 | cons u us ih=>
  cases j with
  | zero=>simp[b8]
  | succ j=>rw[cu,b8,b8];have:=ih j;omega
def Db (s:Nat):Prop:=∀(w:World) (sb so:Nat) (cs:Array Value) (T:TypeId) (D:List Ng) (no:Option Addr) (nc:Nat) (P:Nat->Prop) (fr:Nat->Nat) (n:Nat) (u:af.U) (most:Nat),fS w sb so cs T D no nc->g8 D fr->di w D P->n<D.length->Tr (e8 D) fr n u->af.size u<=s->most<=1000->
 Calls Tryz.prog 89 #[.pointer (some ⟨sb,so,none⟩),.int .i64 (n:Int),.int .i64 (most:Int)] w fun e w'=>e= .returned (.int .i64 ((min (af.size u) (most+1):Nat):Int))/\w'=w
theorem EP (IH:Db s):Db (s+1):=by
 intro w sb so cs T D no nc P fr n u most h hok har hn ht hs hm;obtain⟨k,hk⟩:=hok.hop n hn;obtain⟨d,us,hd,od,md,hl,hts,hu⟩:=Ab hok hn ht;have hsz:=Kh hu;have AG:=ah (lC w sb so cs T D no nc n (fr n) k d h hk hd);have HR:=ah (show tW w d.ao d.args from har.row md)
 have H:=ah h;have HOK:=ah hok;have HAR:=ah har;have HIN:=ah od.A7;have HTS:=ah hts;have HSZ:=ah hsz;have HS:=ah hs;have I:=ah IH;have hfew:=od.few;obtain⟨dk,dval,dtx,dcnt,ao,dcap,xs,dnx,dmrk⟩:=d;dsimp only at AG HR HIN HTS hl hfew;clear h hok har hn ht hs hk hd od md hts hu hsz IH;have HL:=ah hl;go_enter Tryz.func89,Tryz.ntmps89;go_wp2_with fail;refine(ae AG).mono ?_;rintro e w2 ⟨rfl,rfl⟩;clear hl;go_wp2_with fail;go_loopg [7,14] xs.length (fun k sv iv wr=>∃j:Nat,k+j=xs.length/\iv= .int .i64 (j:Int)/\sv= .int .i64 ((min (1+b8 (us.take j)) (most+1):Nat):Int)/\wr=w2)
 case atStart=>exact⟨0,by omega,rfl,by simp[b8],rfl⟩
 case round=>
  obtain⟨j,hkj,rfl,rfl,rfl⟩:=hrel;by_cases hlt:j<xs.length
  ·obtain⟨gx,ex,zx,cx⟩:=(ae HR).at hlt;subst ex;have hju:j<us.length:=by have:=ae HL;omega
   have hsn:b8 (us.take (j+1))=b8 (us.take j)+af.size us[j]:=by rw[bR,aj hju];exact oD _ _
   have hle:=sk us (j+1);have hsum:=ae HSZ;have hbound:=ae HS;have j0:(0:Int)<=(j:Int):=by omega
   have j1:(j:Int)<(xs.length:Int):=by omega
   by_cases hbig:most<1+b8 (us.take j)
   ·have e1:min (1+b8 (us.take j)) (most+1)=most+1:=by omega
    have e2:min (af.size u) (most+1)=most+1:=by omega
    have HE2:=ah e2;rw[e1];have t1:decide (((most+1:Nat):Int)>(most:Int))=true:=by simp;omega
    generalize xs[j]=na at*;clear hsn hle hsum hbound hkj e1 e2 hbig;generalize hmm:((most+1:Nat):Int)=mm at*;have HMM:=ah hmm;clear hmm;go_wp2_with fail;go_ret;exact⟨by rw[ae HE2,ae HMM];rfl,rfl⟩
   ·have e1:min (1+b8 (us.take j)) (most+1)=1+b8 (us.take j):=by omega
    have hp:=size_pos us[j];have IC:=ah (ae I wr sb so cs T D no nc P fr xs[j] us[j] (most - (1+b8 (us.take j))) (ae H) (ae HOK) (ae HAR) (ae HIN _ (aL hlt)) (ae HTS j _ _ (aj hlt) (aj hju)) (by omega) (by omega));have HNEW:=ah (show (1+b8 (us.take j))+min (af.size us[j]) (most - (1+b8 (us.take j))+1)=min (1+b8 (us.take (j+1))) (most+1)by omega)
    rw[e1];generalize hA:1+b8 (us.take j)=A at*;generalize hB:min (af.size us[j]) (most - A+1)=B at*;have hB1:B<=most - A+1:=by omega
    have hsub:((most - A:Nat):Int)=(most:Int) - (A:Int):=by omega
    rw[hsub]at IC;have t1:decide ((A:Int)>(most:Int))=false:=by simp;omega
    have t2:decide (most<A)=false:=by simp;omega
    have HKJ:=ah hkj;have hAm:(A:Int)<=1000:=by omega
    have hA0:(0:Int)<=(A:Int):=by omega
    have hm0:(most:Int)<=1000:=by omega
    have hm1:(0:Int)<=(most:Int):=by omega
    have hBm:(B:Int)<=2000:=by omega
    have hB0:(0:Int)<=(B:Int):=by omega
    generalize xs[j]=na at*;clear hsn hle hsum hbound e1 hbig hA hB hB1 hsub hkj hp;go_wp2_with fail;refine(ae IC).mono ?_;rintro e w3 ⟨rfl,rfl⟩;go_wp2_with fail;go_roundg (gk - 1)
    case measure=>have:=ae HKJ;omega
    case rel=>exact⟨j+1,by have:=ae HKJ;omega,by go_num,by rw[<-ae HNEW];go_num,rfl⟩
  ·obtain rfl:j=xs.length:=by omega
   have HFIN:=ah (show min (1+b8 (us.take xs.length)) (most+1)=min (af.size u) (most+1)by rw[ae HSZ,cV (by have:=ae HL;omega)])
   clear hkj;generalize hA:min (1+b8 (us.take xs.length)) (most+1)=A at*;clear hA;go_wp2_with fail;go_ret;exact⟨by rw[ae HFIN];rfl,rfl⟩
theorem Aj:∀s,Db s
 | 0=>fun _ _ _ _ _ _ _ _ _ _ _ u _ _ _ _ _ _ hs _=>absurd hs (by have:=size_pos u;omega)
 | s+1=>EP (Aj s)
