import Derived.Test.YthfjnfcekeknlaaGreatDoorSu01
import Derived.Test.YthfjnfcekeknlaaGreatDoorSu05
import Derived.Deep.LoopGhost
import Derived.Deep.RegionHeld3
set_option maxHeartbeats 8000000
set_option maxRecDepth 100000
namespace Go.Proofs.YthfjnfcekeknlaaGreatDoor
open Go.RowKit
structure Ng where
 k:Int
 val:Int
 tx:ByteArray
 cnt:Nat
 ao:Option Addr
 cap:Nat
 args:List Nat
 nx:Nat
 mrk:Nat
def n6 (d:Ng):List Value:=[.int .i64 d.k,.int .i64 d.val,.string d.tx,.int .i64 (d.cnt:Int),.slice d.ao d.args.length d.cap,.int .i64 (d.nx:Int),.int .i64 (d.mrk:Int)]
def kA (D:List Ng):List Value:=D.flatMap n6
theorem ngC_len:∀d,(n6 d).length=7:=fun _=>rfl
theorem NM {D:List Ng} {n:Nat} (h:n<D.length) (j:Nat) (hj:j<7):(kA D)[n*7+j]?=(n6 D[n])[j]?:=qJ ngC_len h j hj
theorem G5 (D:List Ng) (d:Ng):kA (D++[d])=kA D++n6 d:=by unfold kA;rw[List.flatMap_append];simp
theorem Bg (D:List Ng) (n j:Nat) (hn:n<D.length) (hj:j<7) (d:Ng) (v:Value) (h:n6 d=(n6 D[n]).set j v):kA (D.set n d)=(kA D).set (n*7+j) v:=by
 unfold kA
 induction D generalizing n with
 | nil=>simp at hn
 | cons e D ih=>
  cases n with
  | zero=>
   simp only[List.set_cons_zero,List.flatMap_cons]
   rw[List.set_append_left _ _ (by rw[ngC_len];omega)]
   rw[h]
   simp
  | succ n=>
   simp only[List.set_cons_succ,List.flatMap_cons]
   rw[List.set_append_right _ _ (by rw[ngC_len];omega),ngC_len,ih n (by simpa using hn) (by simpa using h)]
   congr 2
   omega
def iH (d:Ng):Ng:=⟨d.k,d.val,d.tx,d.cnt,d.ao,d.cap,d.args,0,0⟩
def cR (D D':List Ng):Prop:=D.map iH=D'.map iH
theorem cR.refl (D:List Ng):cR D D:=rfl
theorem cR.trans {D E F:List Ng} (h:cR D E) (k:cR E F):cR D F:=Eq.trans h k
theorem cR.len {D E:List Ng} (h:cR D E):E.length=D.length:=by simpa using (congrArg List.length h).symm
theorem cR.at {D E:List Ng} (h:cR D E) {n:Nat} (hn:n<D.length) (pW:n<E.length):iH D[n]=iH E[n]:=by
 have:=congrArg (·[n]?) h
 simpa [List.getElem?_eq_getElem hn,List.getElem?_eq_getElem pW] using this
theorem cR.set {D:List Ng} {n:Nat} (hn:n<D.length) {d:Ng} (h:iH d=iH D[n]):cR D (D.set n d):=by
 unfold cR
 rw[List.map_set]
 apply List.ext_getElem (by simp)
 intro i h1 h2
 rw[List.getElem_set]
 split
 ·rename_i e;subst e;simp[h]
 ·rfl
def fp (d:Ng):Option (Nat×List UInt8×Int):=if d.k=1 then none else if d.k=2 then some (3,[],d.val)else some (1,d.tx.toList,0)
def O9 (d:Ng):Za.Gn:=⟨fp d,d.args⟩
def aX (D:List Ng):List Za.Gn:=D.map O9
theorem cR.g {D E:List Ng} (h:cR D E):aX E=aX D:=by
 have:=congrArg (List.map O9) h
 rw[List.map_map,List.map_map]at this
 exact this.symm
theorem lU {D:List Ng} {n:Nat} (h:n<D.length):Za.gl (aX D) n=fp D[n]:=by
 unfold Za.gl aX
 rw[List.getElem?_map,List.getElem?_eq_getElem h]
 rfl
theorem jS {D:List Ng} {n:Nat} (h:n<D.length):Za.ga (aX D) n=D[n].args:=by
 unfold Za.ga aX
 rw[List.getElem?_map,List.getElem?_eq_getElem h]
 rfl
structure gH (len:Nat) (d:Ng):Prop where
 ks:d.k=1∨d.k=2∨d.k=3
 v:d.k=1→d.val=0∧d.tx=⟨#[]⟩∧d.cnt=0∧d.args=[]
 m:d.k=2→d.tx=⟨#[]⟩∧d.cnt=0∧d.args=[]
 c:d.k=3→d.val=0∧d.cnt=d.args.length∧d.args.length≤3
 inn:∀a∈d.args,a<len
theorem gH.same {len:Nat} {d e:Ng} (q:iH d=iH e) (r:gH len d):gH len e:=by
 obtain⟨k,val,tx,cnt,ao,cap,args,nx,mrk⟩:=d
 obtain⟨k',val',tx',cnt',ao',cap',args',nx',mrk'⟩:=e
 unfold iH at q
 simp only[Ng.mk.injEq,and_true]at q
 obtain⟨rfl,rfl,rfl,rfl,rfl,rfl,rfl⟩:=q
 exact⟨r.ks,r.v,r.m,r.c,r.inn⟩
theorem gH.few {len:Nat} {d:Ng} (h:gH len d):d.args.length≤3:=by
 rcases h.ks with q | q | q
 ·rw[(h.v q).2.2.2];simp
 ·rw[(h.m q).2.2];simp
 ·exact(h.c q).2.2
theorem gH.fY {len:Nat} {d:Ng} (h:gH len d):fp d=none↔d.k=1:=by
 unfold fp
 rcases h.ks with q | q | q
 ·simp[q]
 ·rw[q];simp
 ·rw[q];simp
theorem toList_inj {a b:ByteArray} (h:a.toList=b.toList):a=b:=by
 obtain⟨a⟩:=a
 obtain⟨b⟩:=b
 rw[ByteArray.toList_mk,ByteArray.toList_mk]at h
 have:a=b:=by
  apply Array.toList_inj.1 h
 rw[this]
theorem uG {len:Nat} {d e:Ng} (h:gH len d) (k:gH len e) (h1:d.k≠1) (k1:e.k≠1):(fp d=fp e∧d.args.length=e.args.length)↔(d.k=e.k∧d.val=e.val∧d.tx=e.tx∧d.cnt=e.cnt):=by
 unfold fp
 rw[if_neg h1,if_neg k1]
 rcases h.ks with q | q | q
 ·exact absurd q h1
 ·obtain⟨a1,a2,a3⟩:=h.m q
  rw[if_pos q]
  rcases k.ks with r | r | r
  ·exact absurd r k1
  ·obtain⟨b1,b2,b3⟩:=k.m r
   rw[if_pos r,q,r,a1,a2,a3,b1,b2,b3]
   simp
  ·rw[if_neg (by omega),q,r];simp
 ·obtain⟨a1,a2,a3⟩:=h.c q
  rw[if_neg (by omega)]
  rcases k.ks with r | r | r
  ·exact absurd r k1
  ·rw[if_pos r,q,r];simp
  ·obtain⟨b1,b2,b3⟩:=k.c r
   rw[if_neg (by omega),q,r,a1,a2,b1,b2]
   simp only[Option.some.injEq,Prod.mk.injEq,true_and,and_true]
   exact⟨fun⟨x,y⟩=>⟨toList_inj x,y⟩,fun⟨x,y⟩=>⟨by rw[x],y⟩⟩
inductive Hop (D:List Ng):Nat→Nat→Nat→Prop
 | stop {n} (h:n<D.length) (e:D[n].nx=n):Hop D n n 0
 | go {n m k} (h:n<D.length) (e:D[n].nx≠n) (hs:Hop D D[n].nx m k):Hop D n m (k+1)
theorem Hop.lt {D:List Ng} {n m k:Nat} (h:Hop D n m k):n<D.length∧m<D.length:=by
 induction h with
 | stop h _=>exact⟨h,h⟩
 | go h _ _ ih=>exact⟨h,ih.2⟩
theorem Hop.end {D:List Ng} {n m k:Nat} (h:Hop D n m k):∃q:m<D.length,D[m].nx=m:=by
 induction h with
 | stop h e=>exact⟨h,e⟩
 | go _ _ _ ih=>exact ih
theorem Hop.one {D:List Ng} {n m k:Nat} (h:Hop D n m k):∀{m' k':Nat},Hop D n m' k'→m=m':=by
 induction h with
 | stop h e=>
  intro m' k' h'
  cases h' with
  | stop _ _=>rfl
  | go _ e' _=>exact absurd e e'
 | go h e hs ih=>
  intro m' k' h'
  cases h' with
  | stop _ e'=>exact absurd e' e
  | go _ _ hs'=>exact ih hs'
structure b6 (D:List Ng) (fr:Nat→Nat):Prop where
 nd:∀n (h:n<D.length),gH D.length D[n]
 hop:∀n,n<D.length→∃k,Hop D n (fr n) k
 out:∀n,D.length≤n→fr n=n
theorem b6.lt {D:List Ng} {fr:Nat→Nat} (h:b6 D fr) {n:Nat} (hn:n<D.length):fr n<D.length:=by
 obtain⟨k,hk⟩:=h.hop n hn
 exact hk.lt.2
theorem b6.idem {D:List Ng} {fr:Nat→Nat} (h:b6 D fr) (n:Nat):fr (fr n)=fr n:=by
 by_cases hn:n<D.length
 ·obtain⟨k,hk⟩:=h.hop n hn
  obtain⟨q,e⟩:=hk.end
  obtain⟨k',fI⟩:=h.hop (fr n) q
  exact fI.one (.stop q e)
 ·rw[h.out n (by omega),h.out n (by omega)]
theorem b6.self {D:List Ng} {fr:Nat→Nat} (h:b6 D fr) {n:Nat} (hn:n<D.length):fr n=n↔D[n].nx=n:=by
 obtain⟨k,hk⟩:=h.hop n hn
 constructor
 ·intro e
  rw[e]at hk
  exact hk.end.2
 ·intro e
  exact hk.one (.stop hn e)
def dN (D:List Ng) (a b:Nat):List Ng:=if h:a<D.length then D.set a {D[a]with nx:=b}else D
theorem oG (D:List Ng) (a b:Nat):cR D (dN D a b):=by
 unfold dN
 split
 ·rename_i h;exact cR.set h rfl
 ·rfl
theorem mQ {D:List Ng} {a b n:Nat} (hn:n<D.length) (h:n<(dN D a b).length):(dN D a b)[n].nx=if n=a then b else D[n].nx:=by
 unfold dN at h⊢
 split
 ·rename_i ha
  rw[List.getElem_set]
  by_cases e:a=n
  ·subst e;simp
  ·rw[if_neg e,if_neg (Ne.symm e)]
 ·rename_i ha
  rw[if_neg (by omega)]
theorem b6.link {D:List Ng} {fr:Nat→Nat} (h:b6 D fr) {a b:Nat} (ha:a<D.length) (hb:b<D.length) (Ml:fr a=a) (Pa:fr b=b) (hab:a≠b):b6 (dN D a b) (Za.bL fr a b):=by
 have hs:=oG D a b
 have hl:=hs.len
 refine⟨fun n hn=> ?_,fun n hn=> ?_,fun n hn=> ?_⟩
 ·rw[hl]
  have h0:=h.nd n (by omega)
  have e:=hs.at (by omega:n<D.length) hn
  exact h0.same e
 ·rw[hl]at hn
  obtain⟨k,hk⟩:=h.hop n hn
  have stopb:Hop (dN D a b) b b 0:=by
   have q:b<(dN D a b).length:=by omega
   exact .stop q (by rw[mQ hb q,if_neg (Ne.symm hab)];exact(h.self hb).1 Pa)
  have key:∀{n m k},Hop D n m k→Hop (dN D a b) n (if m=a then b else m) (if m=a then k+1 else k):=by
   intro n m k hk
   induction hk with
   | @stop n hn e=>
    have q:n<(dN D a b).length:=by omega
    by_cases ea:n=a
    ·rw[if_pos ea,if_pos ea]
     refine .go q ?_ ?_
     ·rw[mQ hn q,if_pos ea,ea];exact Ne.symm hab
     ·rw[mQ hn q,if_pos ea];exact stopb
    ·rw[if_neg ea,if_neg ea]
     exact .stop q (by rw[mQ hn q,if_neg ea];exact e)
   | @go n m k hn e hs ih=>
    have q:n<(dN D a b).length:=by omega
    have ea:n≠a:=fun r=>e (by subst r;exact(h.self hn).1 Ml)
    have:Hop (dN D a b) n (if m=a then b else m) ((if m=a then k+1 else k)+1):=by
     refine .go q ?_ ?_
     ·rw[mQ hn q,if_neg ea];exact e
     ·rw[mQ hn q,if_neg ea];exact ih
    by_cases em:m=a
    ·rw[if_pos em]at this⊢;rw[if_pos em]at this⊢;exact this
    ·rw[if_neg em]at this⊢;rw[if_neg em]at this⊢;exact this
  have:=key hk
  by_cases e:fr n=a
  ·rw[if_pos e,if_pos e]at this
   exact⟨_,by unfold Za.bL;rw[if_pos e];exact this⟩
  ·rw[if_neg e,if_neg e]at this
   exact⟨_,by unfold Za.bL;rw[if_neg e];exact this⟩
 ·rw[hl]at hn
  unfold Za.bL
  rw[h.out n hn,if_neg (by omega)]
theorem Hop.parts {D:List Ng} {n m k:Nat} (h:Hop D n m k) (hn:n<D.length):(m=n∧D[n].nx=n)∨∃p j,D[n].nx=p∧p≠n∧k=j+1∧Hop D p m j:=by
 cases h with
 | stop _ e=>exact Or.inl ⟨rfl,e⟩
 | go _ e hs=>exact Or.inr ⟨_,_,rfl,e,rfl,hs⟩
def rowOf (o:Option Addr) (k:Nat):Prop:=∃p,o=some p∧k=p.block
structure bI (w:World) (sb so:Nat) (cs:Array Value) (T:TypeId) (D:List Ng) (no:Option Addr) (nc:Nat):Prop where
 blk:w.heap[sb]?=some (.cells cs T (0,0))
 cel:cs[so]?=some (.slice no D.length nc)
 own:w.ownsRow 0 180 7 (.slice no D.length nc) D.length (kA D)
 ty:T≠180
def aZ (w:World) (D:List Ng) (P:Nat→Prop):Prop:=∀d∈D,d.args≠[]→∃(g:Nat) (cs:Array Value),d.ao=some ⟨g,0,none⟩∧P g∧w.heap[g]?=some (.cells cs 3 (0,0))∧cs.toList.take d.args.length=d.args.map aM
theorem aZ.keep {w w':World} {D:List Ng} {P Q:Nat→Prop} (h:aZ w D P) (hk:∀g cs,P g→w.heap[g]?=some (.cells cs 3 (0,0))→w'.heap[g]?=some (.cells cs 3 (0,0))∧Q g):aZ w' D Q:=fun d hd q=>by
 obtain⟨g,cs,h1,h2,h3,h4⟩:=h d hd q
 obtain⟨r1,r2⟩:=hk g cs h2 h3
 exact⟨g,cs,h1,r2,r1,h4⟩
theorem aZ.below {w w':World} {D:List Ng} {P:Nat→Prop} (h:aZ w D P) (hb:Below w.heap.size w w'):aZ w' D P:=h.keep fun g _ hp hg=>⟨(hb.block g (ag hg)).trans hg,hp⟩
theorem aZ.same {w:World} {D D':List Ng} {P:Nat→Prop} (h:aZ w D P) (hs:cR D D'):aZ w D' P:=fun d hd q=>by
 obtain⟨i,hi,rfl⟩:=List.getElem_of_mem hd
 have hl:=hs.len
 have e:=hs.at (show i<D.length by omega) hi
 have h0:=h D[i] (List.getElem_mem _)
 generalize D[i]=a at*
 generalize D'[i]=b at*
 obtain⟨k,val,tx,cnt,ao,cap,args,nx,mrk⟩:=a
 obtain⟨k',val',tx',cnt',ao',cap',args',nx',mrk'⟩:=b
 unfold iH at e
 simp only[Ng.mk.injEq,and_true]at e
 obtain⟨rfl,rfl,rfl,rfl,rfl,rfl,rfl⟩:=e
 exact h0 q
theorem bI.below {w w':World} {sb so:Nat} {cs:Array Value} {T:TypeId} {D:List Ng} {no:Option Addr} {nc:Nat} (h:bI w sb so cs T D no nc) (hb:Below w.heap.size w w'):bI w' sb so cs T D no nc:=
 ⟨(hb.block sb (ag h.blk)).trans h.blk,h.cel,ai h.own (fun g q=>hb.block g (h.own.lt g q).2),h.ty⟩
theorem bI.at {w:World} {sb so:Nat} {cs:Array Value} {T:TypeId} {D:List Ng} {no:Option Addr} {nc:Nat} (h:bI w sb so cs T D no nc) {n:Nat} (hn:n<D.length):∃g,no=some ⟨g,0,none⟩∧g<w.heap.size∧g≠sb∧(∀j,j<7→w.cell? ⟨g,n*7+j,none⟩=(n6 D[n])[j]?)∧∀j,w.frozen? ⟨g,j,none⟩=false:=by
 rcases h.own.2 with⟨_,q⟩ | ⟨g,cap,cur,q1,_,q3,_⟩
 ·omega
 ·simp only[Value.slice.injEq]at q1
  obtain⟨rfl,_,_⟩:=q1
  refine⟨g,rfl,ag q3,fun e=> ?_,fun j hj=> ?_,fun j=>h.own.frozenAt j⟩
  ·subst e
   have:=h.blk
   rw[q3]at this
   simp only[Option.some.injEq,Obj.cells.injEq]at this
   exact h.ty this.2.1.symm
  ·rw[h.own.cellAt (n*7+j) (by omega)]
   exact NM hn j hj
theorem bI.cell {w:World} {sb so:Nat} {cs:Array Value} {T:TypeId} {D:List Ng} {no:Option Addr} {nc:Nat} (h:bI w sb so cs T D no nc):w.cell? ⟨sb,so,none⟩=some (.slice no D.length nc):=(ah h.blk so).trans h.cel
theorem bI.apart {w:World} {sb so:Nat} {cs:Array Value} {T:TypeId} {D:List Ng} {no:Option Addr} {nc:Nat} (h:bI w sb so cs T D no nc) {g:Nat} {xs:Array Value} {S:TypeId} (hg:w.heap[g]?=some (.cells xs S (0,0))) (hS:S≠180):¬rowOf no g:=by
 rintro⟨p,rfl,rfl⟩
 rcases h.own.2 with⟨c,_⟩ | ⟨g,cp,cur,c,_,hc,_⟩
 ·cases c
 ·simp only[Value.slice.injEq,Option.some.injEq]at c
  obtain⟨rfl,_⟩:=c
  rw[hc]at hg
  simp only[Option.some.injEq,Obj.cells.injEq]at hg
  exact hS hg.2.1.symm
theorem aZ.lV {w w':World} {sb so:Nat} {cs:Array Value} {T:TypeId} {D E:List Ng} {no:Option Addr} {nc:Nat} {P:Nat→Prop} (h:aZ w D P) (hs:bI w sb so cs T E no nc) (hf:au (rowOf no) (rowOf no) w w'):aZ w' D P:=
 h.keep fun g _ hp hg=>⟨(hf.block g (ag hg) (hs.apart hg (by decide))).trans hg,hp⟩
theorem uH (w:World) (sb so:Nat) (cs:Array Value) (T:TypeId) (D:List Ng) (no:Option Addr) (nc:Nat) (n:Nat) (h:bI w sb so cs T D no nc) (hn:n<D.length):
 Calls Tryz.prog 159 #[.pointer (some ⟨sb,so,none⟩),.int .i64 (n:Int)] w fun e w'=>e= .returned (.bool true)∧w'=w:=by
 have s0:=h.cell
 have sz:=ag h.blk
 have t1:decide ((0:Int)≤(n:Int))=true:=by simp
 have t2:decide ((n:Int)<(D.length:Int))=true:=by simp;omega
 clear h
 go_enter Tryz.func159,Tryz.ntmps159
 go_wp2_with fail
 go_ret
 exact⟨rfl,rfl⟩
theorem dU (w:World) (sb so:Nat) (cs:Array Value) (T:TypeId) (D:List Ng) (no:Option Addr) (nc:Nat) (n m k:Nat) (h:bI w sb so cs T D no nc) (hn:Hop D n m k):
 Calls Tryz.prog 100 #[.pointer (some ⟨sb,so,none⟩),.int .i64 (n:Int)] w fun e w'=>e= .returned (aM m)∧w'=w:=by
 have H:=af h
 have s0:=h.cell
 have sz:=ag h.blk
 have HN:=af hn
 clear h hn
 go_enter Tryz.func100,Tryz.ntmps100
 go_wp2_with fail
 go_loopg [5] k (fun j fv wr=>∃i:Nat,fv=aM i∧Hop D i m j∧wr=w)
 case atStart=>exact⟨n,rfl,ae HN,rfl⟩
 case round=>
  obtain⟨i,rfl,hop,rfl⟩:=hrel
  have hi:=hop.lt.1
  have HH:=af (uH wr sb so cs T D no nc i (ae H) hi)
  obtain⟨g,rfl,gz,gne,hc,-⟩:=(ae H).at hi
  have f5:=hc 5 (by omega)
  simp only[n6,List.getElem?_cons_zero,List.getElem?_cons_succ]at f5
  have i0:(0:Int)≤(i:Int):=by omega
  have i1:(i:Int)<(D.length:Int):=by omega
  clear hc
  unfold aM
  rcases hop.parts hi with⟨rfl,e⟩ | ⟨p,j',e,hne,hk,hs⟩
  ·rw[e]at f5
   clear e hop
   go_wp2_with fail
   refine(ae HH).mono ?_
   rintro e w2 ⟨rfl,rfl⟩
   go_wp2_with fail
   go_ret
   exact⟨rfl,rfl⟩
  ·rw[e]at f5
   have HS:=af hs
   have HK:=af hk
   have t5:((p:Int) != (i:Int))=true:=by simp;omega
   clear hs hk e hop
   go_wp2_with fail
   refine(ae HH).mono ?_
   rintro e w2 ⟨rfl,rfl⟩
   go_wp2_with fail
   go_roundg (gk - 1)
   case measure=>have:=ae HK;omega
   case rel=>exact⟨p,rfl,by have:=ae HK;rw[show gk - 1=j' by omega];exact ae HS,rfl⟩
theorem eY (w:World) (sb so:Nat) (cs:Array Value) (T:TypeId) (D:List Ng) (no:Option Addr) (nc:Nat) (n m k:Nat) (d:Ng) (h:bI w sb so cs T D no nc) (hn:Hop D n m k) (hd:D[m]?=some d):
 Calls Tryz.prog 99 #[.pointer (some ⟨sb,so,none⟩),.int .i64 (n:Int)] w fun e w'=>e= .returned (.agg #[.int .i64 d.k,.int .i64 d.val,.string d.tx,.int .i64 (d.cnt:Int)])∧Below w.heap.size w w':=by
 have hm:=hn.lt.2
 have hW:=h.below ((Below.refl w.heap.size w).alloc (Nat.le_refl _) (.cells #[.int .i64 0,.int .i64 0,.string ⟨#[]⟩,.int .i64 0] 177))
 have HH:=af (uH (w.alloc (.cells #[.int .i64 0,.int .i64 0,.string ⟨#[]⟩,.int .i64 0] 177)) sb so cs T D no nc m hW hm)
 have HF:=af (dU (w.alloc (.cells #[.int .i64 0,.int .i64 0,.string ⟨#[]⟩,.int .i64 0] 177)) sb so cs T D no nc n m k hW hn)
 obtain⟨g,rfl,gz,gne,hc,-⟩:=h.at hm
 have s0:=h.cell
 have sz:=ag h.blk
 have f0:=hc 0 (by omega)
 have f1:=hc 1 (by omega)
 have f2:=hc 2 (by omega)
 have f3:=hc 3 (by omega)
 rw[List.getElem?_eq_getElem hm]at hd
 obtain rfl:=Option.some.inj hd
 simp only[n6,List.getElem?_cons_zero,List.getElem?_cons_succ,Nat.add_zero]at f0 f1 f2 f3
 have i0:(0:Int)≤(m:Int):=by omega
 have i1:(m:Int)<(D.length:Int):=by omega
 have jD:=af hn
 clear h hc hW hn hd
 generalize D[m]=d at*
 go_enter Tryz.func99,Tryz.ntmps99
 go_wp2_with fail
 refine(ae HF).mono ?_
 rintro e w2 ⟨rfl,rfl⟩
 unfold aM
 go_wp2_with fail
 refine(ae HH).mono ?_
 rintro e w2 ⟨rfl,rfl⟩
 go_wp2_with fail
 refine bodyPost_ret (v:= .agg #[.int .i64 d.k,.int .i64 d.val,.string d.tx,.int .i64 (d.cnt:Int)]) (by simp[results,Tryz.results99,go_sem]) rfl ?_
 exact⟨rfl,(Below.refl _ _).alloc (Nat.le_refl _) _⟩
theorem lW (w:World) (sb so:Nat) (cs:Array Value) (T:TypeId) (D:List Ng) (no:Option Addr) (nc:Nat) (n m k:Nat) (d:Ng) (h:bI w sb so cs T D no nc) (hn:Hop D n m k) (hd:D[m]?=some d):
 Calls Tryz.prog 98 #[.pointer (some ⟨sb,so,none⟩),.int .i64 (n:Int)] w fun e w'=>e= .returned (.slice d.ao d.args.length d.cap)∧w'=w:=by
 have hm:=hn.lt.2
 have HH:=af (uH w sb so cs T D no nc m h hm)
 have HF:=af (dU w sb so cs T D no nc n m k h hn)
 obtain⟨g,rfl,gz,gne,hc,-⟩:=h.at hm
 have s0:=h.cell
 have sz:=ag h.blk
 have f4:=hc 4 (by omega)
 rw[List.getElem?_eq_getElem hm]at hd
 obtain rfl:=Option.some.inj hd
 simp only[n6,List.getElem?_cons_zero,List.getElem?_cons_succ]at f4
 have i0:(0:Int)≤(m:Int):=by omega
 have i1:(m:Int)<(D.length:Int):=by omega
 have jD:=af hn
 clear h hc hn hd
 generalize D[m]=d at*
 go_enter Tryz.func98,Tryz.ntmps98
 go_wp2_with fail
 refine(ae HF).mono ?_
 rintro e w2 ⟨rfl,rfl⟩
 unfold aM
 go_wp2_with fail
 refine(ae HH).mono ?_
 rintro e w2 ⟨rfl,rfl⟩
 go_wp2_with fail
 go_ret
 exact⟨rfl,rfl⟩
theorem bI.link {w:World} {sb so:Nat} {cs:Array Value} {T:TypeId} {D:List Ng} {g:Nat} {nc:Nat} (h:bI w sb so cs T D (some ⟨g,0,none⟩) nc) {a b:Nat} (ha:a<D.length):bI (w.setCell ⟨g,a*7+5,none⟩ (.int .i64 (b:Int))) sb so cs T (dN D a b) (some ⟨g,0,none⟩) nc∧au (rowOf (some ⟨g,0,none⟩)) (rowOf (some ⟨g,0,none⟩)) w (w.setCell ⟨g,a*7+5,none⟩ (.int .i64 (b:Int))):=by
 obtain⟨h1,h2⟩:=h.own.stored (a*7+5) (.int .i64 (b:Int))
 have hl:=(oG D a b).len
 obtain⟨g',e,gz,gne,-⟩:=h.at ha
 cases e
 refine⟨⟨?_,by rw[hl];exact h.cel,?_,h.ty⟩,⟨h2.os,h2.tape,h2.output,h2.size,fun k hk hr=>h2.block k hk (fun e=>hr ⟨⟨g,0,none⟩,rfl,by simpa using e⟩),fun _ q=>Or.inl q⟩⟩
 ·exact(h2.block sb (ag h.blk) (by simpa using Ne.symm gne)).trans h.blk
 ·rw[hl]
  have:kA (dN D a b)=(kA D).set (a*7+5) (.int .i64 (b:Int)):=by
   unfold dN
   rw[dif_pos ha]
   exact Bg D a 5 ha (by omega) _ _ rfl
  rw[this]
  exact h1
theorem th (w:World) (sb so:Nat) (cs:Array Value) (T:TypeId) (D:List Ng) (no:Option Addr) (nc:Nat) (a b:Nat) (h:bI w sb so cs T D no nc) (ha:a<D.length):
 Calls Tryz.prog 156 #[.pointer (some ⟨sb,so,none⟩),.int .i64 (a:Int),.int .i64 (b:Int)] w fun e w'=>e= .returned (.tuple #[])∧bI w' sb so cs T (dN D a b) no nc∧au (rowOf no) (rowOf no) w w':=by
 have HH:=af (uH w sb so cs T D no nc a h ha)
 obtain⟨g,rfl,gz,gne,hc,hx⟩:=h.at ha
 have s0:=h.cell
 have sz:=ag h.blk
 have x5:=hx (a*7+5)
 have i0:(0:Int)≤(a:Int):=by omega
 have i1:(a:Int)<(D.length:Int):=by omega
 have f5:=hc 5 (by omega)
 simp only[n6,List.getElem?_cons_zero,List.getElem?_cons_succ]at f5
 have HR:=af (h.link (b:=b) ha)
 clear h hc hx
 go_enter Tryz.func156,Tryz.ntmps156
 go_wp2_with fail
 refine(ae HH).mono ?_
 rintro e w2 ⟨rfl,rfl⟩
 go_wp2_with fail
 go_end0
 exact⟨rfl,ae HR⟩
theorem Dh (w:World) (sb so:Nat) (cs:Array Value) (T:TypeId) (D:List Ng) (no:Option Addr) (nc:Nat) (a b lo hi:Nat) (h:bI w sb so cs T D no nc) (ha:a<D.length) (hb:b<D.length) (hl:(a<b∧lo=a∧hi=b)∨(b<a∧lo=b∧hi=a)):
 Calls Tryz.prog 155 #[.pointer (some ⟨sb,so,none⟩),.int .i64 (a:Int),.int .i64 (b:Int)] w fun e w'=>e= .returned (.tuple #[])∧bI w' sb so cs T (dN D hi lo) no nc∧au (rowOf no) (rowOf no) w w':=by
 rcases hl with⟨h1,rfl,rfl⟩ | ⟨h1,rfl,rfl⟩
 ·have HH:=af (th w sb so cs T D no nc hi lo h hb)
  have t1:decide ((lo:Int)<(hi:Int))=true:=by simpa using h1
  clear h
  go_enter Tryz.func155,Tryz.ntmps155
  go_wp2_with fail
  refine(ae HH).mono ?_
  rintro e w2 ⟨rfl,hr⟩
  have HR:=af hr
  clear hr
  go_wp2_with fail
  (try simp only[Exit.inBlock,Exit.then]);refine bodyPost_ret (results_none rfl _ _ _) rfl ?_
  exact⟨rfl,ae HR⟩
 ·have HH:=af (th w sb so cs T D no nc hi lo h ha)
  have t1:decide ((hi:Int)<(lo:Int))=false:=by simp;omega
  clear h
  go_enter Tryz.func155,Tryz.ntmps155
  go_wp2_with fail
  refine(ae HH).mono ?_
  rintro e w2 ⟨rfl,hr⟩
  have HR:=af hr
  clear hr
  go_wp2_with fail
  go_end0
  exact⟨rfl,ae HR⟩
end Go.Proofs.YthfjnfcekeknlaaGreatDoor
namespace Za
def kK (L:Nat) (fr:Nat→Nat):Nat:=(List.range L).countP fun n=>fr n == n
theorem Bh {p q:Nat→Bool}:∀{l:List Nat} {x:Nat},(∀n,q n=true→p n=true)→x∈l→p x=true→q x=false→l.countP q+1≤l.countP p
 | y :: l,x,h,hx,h1,h2=>by
  rw[List.countP_cons,List.countP_cons]
  rcases List.mem_cons.1 hx with rfl | hx
  ·rw[h1,h2]
   have:l.countP q≤l.countP p:=List.countP_mono_left fun n _ r=>h n r
   simp
   omega
  ·have:=Bh h hx h1 h2
   by_cases r:q y=true
   ·rw[r,h y r];simp;omega
   ·rw[Bool.not_eq_true]at r
    rw[r]
    simp
    omega
theorem yb {L:Nat} {fr:Nat→Nat} {a b:Nat} (ha:a<L) (Ml:fr a=a) (Pa:fr b=b) (hab:a≠b):kK L (bL fr a b)+1≤kK L fr:=by
 refine Bh (x:=a) (fun n h=> ?_) (by simpa using ha) (by simpa using Ml) ?_
 ·rw[beq_iff_eq]at h⊢
  unfold bL at h
  split at h
  ·rename_i q;subst h;rw[Pa]at q;exact absurd q.symm hab
  ·exact h
 ·rw[beq_eq_false_iff_ne]
  unfold bL
  rw[if_pos Ml]
  exact Ne.symm hab
end Za
namespace Go.Proofs.YthfjnfcekeknlaaGreatDoor
open Go.RowKit
def o6 (w:World) (ao:Option Addr) (xs:List Nat):Prop:=xs≠[]→∃(g:Nat) (cs:Array Value),ao=some ⟨g,0,none⟩∧w.heap[g]?=some (.cells cs 3 (0,0))∧cs.toList.take xs.length=xs.map aM
theorem o6.at {w:World} {ao:Option Addr} {xs:List Nat} (h:o6 w ao xs) {j:Nat} (hj:j<xs.length):∃g,ao=some ⟨g,0,none⟩∧g<w.heap.size∧w.cell? ⟨g,j,none⟩=some (.int .i64 (xs[j]:Int)):=by
 obtain⟨g,cs,h1,h2,h3⟩:=h (fun q=>by rw[q]at hj;simp at hj)
 refine⟨g,h1,ag h2,?_⟩
 rw[ah h2,←Array.getElem?_toList,←List.getElem?_take_of_lt (l:=cs.toList) hj,h3,List.getElem?_map,List.getElem?_eq_getElem hj]
 rfl
theorem o6.lV {w w':World} {sb so:Nat} {cs:Array Value} {T:TypeId} {E:List Ng} {no:Option Addr} {nc:Nat} {ao:Option Addr} {xs:List Nat} (h:o6 w ao xs) (hs:bI w sb so cs T E no nc) (hf:au (rowOf no) (rowOf no) w w'):o6 w' ao xs:=fun q=>by
 obtain⟨g,ds,h1,h2,h3⟩:=h q
 exact⟨g,ds,h1,(hf.block g (ag h2) (hs.apart h2 (by decide))).trans h2,h3⟩
theorem aZ.row {w:World} {D:List Ng} {P:Nat→Prop} (h:aZ w D P) {d:Ng} (hd:d∈D):o6 w d.ao d.args:=fun q=>by
 obtain⟨g,cs,h1,_,h3,h4⟩:=h d hd q
 exact⟨g,cs,h1,h3,h4⟩
def vy (sb so:Nat) (cs:Array Value) (T:TypeId) (D:List Ng) (no:Option Addr) (nc:Nat) (J:Bool→(Nat→Nat)→Prop) (c:Nat) (w:World) (e:Ending) (w':World):Prop:=
 ∃(r:Bool) (D':List Ng) (fr':Nat→Nat),e= .returned (.bool r)∧bI w' sb so cs T D' no nc∧cR D D'∧(r=true→b6 D' fr'∧Za.kK D.length fr'≤c)∧J r fr'∧au (rowOf no) (rowOf no) w w'
def Bi (c:Nat):Prop:=∀(w:World) (sb so:Nat) (cs:Array Value) (T:TypeId) (D:List Ng) (no:Option Addr) (nc:Nat) (P:Nat→Prop) (fr:Nat→Nat) (a b:Nat),bI w sb so cs T D no nc→b6 D fr→aZ w D P→Za.kK D.length fr≤c→a<D.length→b<D.length→
 Calls Tryz.prog 96 #[.pointer (some ⟨sb,so,none⟩),.int .i64 (a:Int),.int .i64 (b:Int)] w fun e w'=>vy sb so cs T D no nc (fun r fr'=>Za.cO (aX D) fr a b r fr') (Za.kK D.length fr) w e w'
def Tj (w:World) (sb so:Nat) (cs:Array Value) (T:TypeId) (D:List Ng) (no:Option Addr) (nc:Nat) (P:Nat→Prop) (fr:Nat→Nat) (xs ys:List Nat) (k:Nat) (iv:Value) (wr:World):Prop:=
 ∃(j:Nat) (D1:List Ng) (fr1:Nat→Nat),k+j=xs.length∧iv= .int .i64 (j:Int)∧bI wr sb so cs T D1 no nc∧cR D D1∧b6 D1 fr1∧aZ wr D1 P∧Za.kK D.length fr1≤Za.kK D.length fr∧
  (∀r fr',Za.jc (aX D) fr1 (xs.drop j) (ys.drop j) r fr'→Za.jc (aX D) fr xs ys r fr')∧au (rowOf no) (rowOf no) w wr
theorem NN {c:Nat} (IH:Bi c) (w:World) (sb so:Nat) (cs:Array Value) (T:TypeId) (D:List Ng) (no:Option Addr) (nc:Nat) (P:Nat→Prop) (fr:Nat→Nat) (xs ys:List Nat) (xo yo:Option Addr) (xc yc:Nat)
 (h:bI w sb so cs T D no nc) (aF:b6 D fr) (ha:aZ w D P) (hc:Za.kK D.length fr≤c) (hx:o6 w xo xs) (hy:o6 w yo ys) (n7:∀x∈xs,x<D.length) (Tl:∀y∈ys,y<D.length) (hl:xs.length=ys.length) (h3:xs.length≤3):
 Calls Tryz.prog 157 #[.pointer (some ⟨sb,so,none⟩),.slice xo xs.length xc,.slice yo ys.length yc] w fun e w'=>vy sb so cs T D no nc (fun r fr'=>Za.jc (aX D) fr xs ys r fr') (Za.kK D.length fr) w e w':=by
 have HST:=af (show Tj w sb so cs T D no nc P fr xs ys xs.length (.int .i64 0) w from ⟨0,D,fr,by omega,rfl,h,cR.refl D,aF,ha,Nat.le_refl _,(fun r fr' q=>by simpa using q),au.aw (Below.refl _ _)⟩)
 have I:=af IH
 have HX:=af hx
 have HY:=af hy
 have xl:=af n7
 have Wh:=af Tl
 have HC:=af hc
 have fB:=af h
 rw[←hl]
 have HL:=af hl
 clear h aF ha hx hy n7 Tl hc IH hl
 go_enter Tryz.func157,Tryz.ntmps157
 go_wp2_with fail
 go_loopg [7] xs.length (fun k iv wr=>Tj w sb so cs T D no nc P fr xs ys k iv wr)
 case atStart=>exact ae HST
 case round=>
  clear HST
  obtain⟨j,D1,fr1,hkj,rfl,hst,hsm,aF,ha,hn,oH,cW⟩:=hrel
  by_cases hlt:j<xs.length
  ·have fV:j<ys.length:=by have:=ae HL;omega
   obtain⟨gx,ex,zx,cx⟩:=((ae HX).lV (ae fB) cW).at hlt
   obtain⟨gy,ey,zy,cy⟩:=((ae HY).lV (ae fB) cW).at fV
   subst ex ey
   have jE:=hsm.len
   have IC:=af (ae I wr.drew sb so cs T D1 no nc P fr1 xs[j] ys[j] (hst.below (Below.refl _ _).drew) aF (ha.below (Below.refl _ _).drew) (by rw[jE];have:=ae HC;omega) (by rw[jE];exact ae xl _ (List.getElem_mem hlt)) (by rw[jE];exact ae Wh _ (List.getElem_mem fV)))
   have vz:=af (show xs.drop j=xs[j] :: xs.drop (j+1)from List.drop_eq_getElem_cons hlt)
   have Tn:=af (show ys.drop j=ys[j] :: ys.drop (j+1)from List.drop_eq_getElem_cons fV)
   have DI:=af (show∀w',au (rowOf no) (rowOf no) w w'→w'.cell? ⟨gx,j,none⟩=some (.int .i64 (xs[j]:Int))∧w'.cell? ⟨gy,j,none⟩=some (.int .i64 (ys[j]:Int))from fun w' hf=>by
    obtain⟨g1,e1,_,c1⟩:=((ae HX).lV (ae fB) hf).at hlt
    obtain⟨g2,e2,_,c2⟩:=((ae HY).lV (ae fB) hf).at fV
    cases e1
    cases e2
    exact⟨c1,c2⟩)
   have jh:=af cW
   have ji:=af hsm
   have Bj:=af hst
   have n9:=af ha
   have HN:=af hn
   have DJ:=af oH
   have aT:=af hkj
   have bh:=af hlt
   have G6:=af hsm.g
   have G7:=af jE
   generalize xs[j]=na at*
   generalize ys[j]=nb at*
   have i0:(0:Int)≤(j:Int):=by omega
   have i1:(j:Int)<(xs.length:Int):=by omega
   clear hst hsm aF ha hn oH cW hkj hlt fV jE
   go_wp2_with fail
   go_region_held3 (fun w'=>w'.cell? ⟨gx,j,none⟩=some (.int .i64 (na:Int))∧w'.cell? ⟨gy,j,none⟩=some (.int .i64 (nb:Int))) (go_keep) (first
    | (go_at_call 96;refine(ae IC).mono ?_;rintro e w8 ⟨r,D8,fr8,rfl,h8,s8,o8,j8,f8⟩;have nR:=af ((ae jh).trans ((au.aw (Below.refl _ _).drew).trans f8));obtain⟨k0,k1⟩:=ae DI w8 (ae nR);have H8:=af h8;have S8:=af s8;have O8:=af o8;have J8:=af j8;have Pb:=af (((ae n9).below (Below.refl _ _).drew).lV ((ae Bj).below (Below.refl _ _).drew) f8);clear h8 s8 o8 j8 f8))
   all_goals
    cases r
    ·go_wp2_with fail
     go_ret
     refine⟨false,D8,fr8,rfl,ae H8,(ae ji).trans (ae S8),fun q=>(by cases q),?_,ae nR⟩
     refine ae DJ _ _ ?_
     rw[ae vz,ae Tn]
     have:=ae J8
     rw[ae G6]at this
     exact .no this
    ·go_wp2_with fail
     go_roundg (gk - 1)
     case measure=>have:=ae aT;have:=ae bh;omega
     case rel=>
      obtain⟨o1,o2⟩:=ae O8 (by trivial)
      have jE:=ae G7
      rw[jE]at o2
      refine⟨j+1,D8,fr8,by have:=ae aT;have:=ae bh;omega,by go_num,ae H8,(ae ji).trans (ae S8),o1,(ae Pb).same (ae S8),by have:=ae HN;omega,fun r fr' q=> ?_,ae nR⟩
      refine ae DJ _ _ ?_
      rw[ae vz,ae Tn]
      have:=ae J8
      rw[ae G6]at this
      exact .cons this q
  ·obtain rfl:j=xs.length:=by omega
   have dE:=af (show vy sb so cs T D no nc (fun r fr'=>Za.jc (aX D) fr xs ys r fr') (Za.kK D.length fr) w (.returned (.bool true)) wr from ⟨true,D1,fr1,rfl,hst,hsm,(fun _=>⟨aF,hn⟩),oH _ _ (by rw[List.drop_length,List.drop_eq_nil_of_le (by have:=ae HL;omega)];exact .nil),cW⟩)
   clear hst hsm aF ha hn oH cW hkj
   go_wp2_with fail
   go_ret
   exact ae dE
theorem b6.rq {D:List Ng} {fr:Nat→Nat} (h:b6 D fr) {n:Nat} (hn:n<D.length):∃k,Hop D (fr n) (fr n) k:=by
 have:=h.hop (fr n) (h.lt hn)
 rwa [h.idem]at this
theorem G8 {D:List Ng} {fr:Nat→Nat} (h:b6 D fr) {n:Nat} (hn:n<D.length):∃d,D[fr n]?=some d∧gH D.length d∧Za.gl (aX D) (fr n)=fp d∧Za.ga (aX D) (fr n)=d.args∧d∈D:=by
 have hl:=h.lt hn
 exact⟨D[fr n],List.getElem?_eq_getElem hl,h.nd _ hl,lU hl,jS hl,List.getElem_mem hl⟩
theorem yZ (w:World) (sb so:Nat) (cs:Array Value) (T:TypeId) (D:List Ng) (no:Option Addr) (nc:Nat) (fr:Nat→Nat) (a b:Nat) (h:bI w sb so cs T D no nc) (aF:b6 D fr) (ha:a<D.length) (hb:b<D.length) (he:fr a=fr b):
 Calls Tryz.prog 96 #[.pointer (some ⟨sb,so,none⟩),.int .i64 (a:Int),.int .i64 (b:Int)] w fun e w'=>vy sb so cs T D no nc (fun r fr'=>Za.cO (aX D) fr a b r fr') (Za.kK D.length fr) w e w':=by
 obtain⟨ka,hka⟩:=aF.hop a ha
 obtain⟨kb,hkb⟩:=aF.hop b hb
 rw[←he]at hkb
 have FA:=af (dU w sb so cs T D no nc a (fr a) ka h hka)
 have FB:=af (dU w sb so cs T D no nc b (fr a) kb h hkb)
 have dE:=af (show vy sb so cs T D no nc (fun r fr'=>Za.cO (aX D) fr a b r fr') (Za.kK D.length fr) w (.returned (.bool true)) w from ⟨true,D,fr,rfl,h,cR.refl D,fun _=>⟨aF,Nat.le_refl _⟩,.same he,au.aw (Below.refl _ _)⟩)
 clear h aF hka hkb he
 generalize fr a=p at*
 go_enter Tryz.func96,Tryz.ntmps96
 go_wp2_with fail
 refine(ae FA).mono ?_
 rintro e w2 ⟨rfl,rfl⟩
 unfold aM at FB⊢
 go_wp2_with fail
 refine(ae FB).mono ?_
 rintro e w2 ⟨rfl,rfl⟩
 go_wp2_with fail
 go_ret
 exact ae dE
theorem G9 {c:Nat} (IH:Bi c) (w:World) (sb so:Nat) (cs:Array Value) (T:TypeId) (D:List Ng) (no:Option Addr) (nc:Nat) (P:Nat→Prop) (fr:Nat→Nat) (a b:Nat) (h:bI w sb so cs T D no nc) (aF:b6 D fr) (bC:aZ w D P) (hc:Za.kK D.length fr≤c+1) (ha:a<D.length) (hb:b<D.length) (he:fr a≠fr b):
 Calls Tryz.prog 96 #[.pointer (some ⟨sb,so,none⟩),.int .i64 (a:Int),.int .i64 (b:Int)] w fun e w'=>vy sb so cs T D no nc (fun r fr'=>Za.cO (aX D) fr a b r fr') (Za.kK D.length fr) w e w':=by
 obtain⟨ka,hka⟩:=aF.hop a ha
 obtain⟨kb,hkb⟩:=aF.hop b hb
 obtain⟨ja,lF⟩:=aF.rq ha
 obtain⟨jb,hjb⟩:=aF.rq hb
 obtain⟨da,gU,oa,ga,aa,ma⟩:=G8 aF ha
 obtain⟨db,gV,ob,gb,ab,mb⟩:=G8 aF hb
 have la:=aF.lt ha
 have lb:=aF.lt hb
 have ia:=aF.idem a
 have ib:=aF.idem b
 have FA:=af (dU w sb so cs T D no nc a (fr a) ka h hka)
 have FB:=af (dU w sb so cs T D no nc b (fr b) kb h hkb)
 have LA:=af (eY w sb so cs T D no nc (fr a) (fr a) ja da h lF gU)
 have LB:=af (fun W (hb:Below w.heap.size w W)=>eY W sb so cs T D no nc (fr b) (fr b) jb db (h.below hb) hjb gV)
 have AA:=af (fun W (hb:Below w.heap.size w W)=>lW W sb so cs T D no nc (fr a) (fr a) ja da (h.below hb) lF gU)
 have AB:=af (fun W (hb:Below w.heap.size w W)=>lW W sb so cs T D no nc (fr b) (fr b) jb db (h.below hb) hjb gV)
 have link1:∀x y,(x=fr a∧y=fr b)∨(x=fr b∧y=fr a)→b6 (dN D x y) (Za.bL fr x y)∧Za.kK D.length (Za.bL fr x y)+1≤Za.kK D.length fr:=fun x y q=>by
  rcases q with⟨rfl,rfl⟩ | ⟨rfl,rfl⟩
  ·exact⟨aF.link la lb ia ib he,Za.yb la ia ib he⟩
  ·exact⟨aF.link lb la ib ia (Ne.symm he),Za.yb lb ib ia (Ne.symm he)⟩
 have done:∀x y W W',((x=fr a∧y=fr b)∨(x=fr b∧y=fr a))→Below w.heap.size w W→bI W' sb so cs T (dN D x y) no nc→au (rowOf no) (rowOf no) W W'→Za.cO (aX D) fr a b true (Za.bL fr x y)→vy sb so cs T D no nc (fun r fr'=>Za.cO (aX D) fr a b r fr') (Za.kK D.length fr) w (.returned (.bool true)) W':=fun x y W W' q hW hS hF hJ=>
  ⟨true,dN D x y,Za.bL fr x y,rfl,hS,oG D x y,fun _=>⟨(link1 x y q).1,by have:=(link1 x y q).2;omega⟩,hJ,(au.aw hW).trans hF⟩
 have DONE:=af done
 have HH:=af h
 have t0:(((fr a:Nat):Int) == ((fr b:Nat):Int))=false:=by simp;omega
 by_cases k1:da.k=1
 ·by_cases k2:db.k=1
  ·
   obtain⟨lo,hi,Ha⟩:∃lo hi,(fr a<fr b∧lo=fr a∧hi=fr b)∨(fr b<fr a∧lo=fr b∧hi=fr a):=by
    rcases Nat.lt_or_ge (fr a) (fr b)with q | q
    ·exact⟨_,_,Or.inl ⟨q,rfl,rfl⟩⟩
    ·exact⟨_,_,Or.inr ⟨by omega,rfl,rfl⟩⟩
   have LK:=af (fun W (hb:Below w.heap.size w W)=>Dh W sb so cs T D no nc (fr a) (fr b) lo hi (h.below hb) la lb Ha)
   have HJ:=af (show Za.cO (aX D) fr a b true (Za.bL fr hi lo)from .vars he (by rw[ga];exact oa.fY.2 k1) (by rw[gb];exact ob.fY.2 k2) (by rcases Ha with⟨_,r,s⟩ | ⟨_,r,s⟩;exact Or.inl ⟨r,s⟩;exact Or.inr ⟨r,s⟩) (by rcases Ha with⟨q,r,s⟩ | ⟨q,r,s⟩<;>omega))
   have HQ:=af (show (hi=fr a∧lo=fr b)∨(hi=fr b∧lo=fr a)by rcases Ha with⟨_,r,s⟩ | ⟨_,r,s⟩;exact Or.inr ⟨s,r⟩;exact Or.inl ⟨s,r⟩)
   obtain⟨k,val,tx,cnt,ao,cap,args,nx,mrk⟩:=da
   obtain⟨k',val',tx',cnt',ao',cap',args',nx',mrk'⟩:=db
   dsimp only at k1 k2 LA LB
   subst k1 k2
   clear h aF bC hka hkb lF hjb gU gV oa ob ga gb aa ab ma mb la lb ia ib link1 done Ha he hc ha hb AA AB IH
   generalize fr a=p at*
   generalize fr b=q at*
   go_enter Tryz.func96,Tryz.ntmps96
   go_wp2_with fail
   refine(ae FA).mono ?_
   rintro e w2 ⟨rfl,rfl⟩
   unfold aM at FB⊢
   go_wp2_with fail
   refine(ae FB).mono ?_
   rintro e w2 ⟨rfl,rfl⟩
   go_wp2_with fail
   refine(ae LA).mono ?_
   rintro e w3 ⟨rfl,hb3⟩
   have bQ:=af (hb3.alloc hb3.size (.cells #[.int .i64 1,.int .i64 val,.string tx,.int .i64 (cnt:Int)] 177))
   have z3:=hb3.size
   clear hb3
   go_wp2_with fail
   refine(ae LB _ (ae bQ)).mono ?_
   rintro e w4 ⟨rfl,hb4⟩
   have dr:=af (((ae bQ).trans (hb4.mono (by simp;omega))).alloc (by have:=hb4.size;simp at this;omega) (.cells #[.int .i64 1,.int .i64 val',.string tx',.int .i64 (cnt':Int)] 177))
   have f0:=(hb4.cell (p:=⟨w3.heap.size,0,none⟩) (by simp)).trans (ah (heap_alloc_new w3 _) 0)
   simp only[List.getElem?_toArray,List.getElem?_cons_zero]at f0
   have z4:w3.heap.size<w4.heap.size:=by have:=hb4.size;simp at this;omega
   clear hb4
   go_wp2_with fail
   refine(ae LK _ (ae dr)).mono ?_
   rintro e w5 ⟨rfl,hs5,tq⟩
   have dE:=af (ae DONE hi lo _ _ (ae HQ) (ae dr) hs5 tq (ae HJ))
   clear hs5 tq
   go_wp2_with fail
   go_ret
   exact ae dE
  ·
   have LK:=af (fun W (hb:Below w.heap.size w W)=>th W sb so cs T D no nc (fr a) (fr b) (h.below hb) la)
   have HJ:=af (show Za.cO (aX D) fr a b true (Za.bL fr (fr a) (fr b))from .left he (by rw[ga];exact oa.fY.2 k1) (by rw[gb];exact fun r=>k2 (ob.fY.1 r)))
   have DN:=af (fun W W' (h1:Below w.heap.size w W) (h2:bI W' sb so cs T (dN D (fr a) (fr b)) no nc) (h3:au (rowOf no) (rowOf no) W W')=>done (fr a) (fr b) W W' (Or.inl ⟨rfl,rfl⟩) h1 h2 h3 (ae HJ))
   have t2:(db.k == 1)=false:=by simpa using k2
   obtain⟨k,val,tx,cnt,ao,cap,args,nx,mrk⟩:=da
   obtain⟨k',val',tx',cnt',ao',cap',args',nx',mrk'⟩:=db
   dsimp only at k1 t2 LA LB
   subst k1
   clear h aF bC hka hkb lF hjb gU gV oa ob ga gb aa ab ma mb la lb ia ib link1 done he hc ha hb AA AB IH k2 HJ DONE
   generalize fr a=p at*
   generalize fr b=q at*
   go_enter Tryz.func96,Tryz.ntmps96
   go_wp2_with fail
   refine(ae FA).mono ?_
   rintro e w2 ⟨rfl,rfl⟩
   unfold aM at FB⊢
   go_wp2_with fail
   refine(ae FB).mono ?_
   rintro e w2 ⟨rfl,rfl⟩
   go_wp2_with fail
   refine(ae LA).mono ?_
   rintro e w3 ⟨rfl,hb3⟩
   have bQ:=af (hb3.alloc hb3.size (.cells #[.int .i64 1,.int .i64 val,.string tx,.int .i64 (cnt:Int)] 177))
   have z3:=hb3.size
   clear hb3
   go_wp2_with fail
   refine(ae LB _ (ae bQ)).mono ?_
   rintro e w4 ⟨rfl,hb4⟩
   have dr:=af (((ae bQ).trans (hb4.mono (by simp;omega))).alloc (by have:=hb4.size;simp at this;omega) (.cells #[.int .i64 k',.int .i64 val',.string tx',.int .i64 (cnt':Int)] 177))
   have f0:=(hb4.cell (p:=⟨w3.heap.size,0,none⟩) (by simp)).trans (ah (heap_alloc_new w3 _) 0)
   simp only[List.getElem?_toArray,List.getElem?_cons_zero]at f0
   have z4:w3.heap.size<w4.heap.size:=by have:=hb4.size;simp at this;omega
   clear hb4
   go_wp2_with fail
   refine(ae LK _ (ae dr)).mono ?_
   rintro e w5 ⟨rfl,hs5,tq⟩
   have dE:=af (ae DN _ _ (ae dr) hs5 tq)
   clear hs5 tq
   go_wp2_with fail
   go_ret
   exact ae dE
 ·by_cases k2:db.k=1
  ·
   have LK:=af (fun W (hb:Below w.heap.size w W)=>th W sb so cs T D no nc (fr b) (fr a) (h.below hb) lb)
   have HJ:=af (show Za.cO (aX D) fr a b true (Za.bL fr (fr b) (fr a))from .right he (by rw[ga];exact fun r=>k1 (oa.fY.1 r)) (by rw[gb];exact ob.fY.2 k2))
   have DN:=af (fun W W' (h1:Below w.heap.size w W) (h2:bI W' sb so cs T (dN D (fr b) (fr a)) no nc) (h3:au (rowOf no) (rowOf no) W W')=>done (fr b) (fr a) W W' (Or.inr ⟨rfl,rfl⟩) h1 h2 h3 (ae HJ))
   have t2:(da.k == 1)=false:=by simpa using k1
   obtain⟨k,val,tx,cnt,ao,cap,args,nx,mrk⟩:=da
   obtain⟨k',val',tx',cnt',ao',cap',args',nx',mrk'⟩:=db
   dsimp only at k2 t2 LA LB
   subst k2
   clear h aF bC hka hkb lF hjb gU gV oa ob ga gb aa ab ma mb la lb ia ib link1 done he hc ha hb AA AB IH k1 HJ DONE
   generalize fr a=p at*
   generalize fr b=q at*
   go_enter Tryz.func96,Tryz.ntmps96
   go_wp2_with fail
   refine(ae FA).mono ?_
   rintro e w2 ⟨rfl,rfl⟩
   unfold aM at FB⊢
   go_wp2_with fail
   refine(ae FB).mono ?_
   rintro e w2 ⟨rfl,rfl⟩
   go_wp2_with fail
   refine(ae LA).mono ?_
   rintro e w3 ⟨rfl,hb3⟩
   have bQ:=af (hb3.alloc hb3.size (.cells #[.int .i64 k,.int .i64 val,.string tx,.int .i64 (cnt:Int)] 177))
   have z3:=hb3.size
   clear hb3
   go_wp2_with fail
   refine(ae LB _ (ae bQ)).mono ?_
   rintro e w4 ⟨rfl,hb4⟩
   have dr:=af (((ae bQ).trans (hb4.mono (by simp;omega))).alloc (by have:=hb4.size;simp at this;omega) (.cells #[.int .i64 1,.int .i64 val',.string tx',.int .i64 (cnt':Int)] 177))
   have f0:=(hb4.cell (p:=⟨w3.heap.size,0,none⟩) (by simp)).trans (ah (heap_alloc_new w3 _) 0)
   simp only[List.getElem?_toArray,List.getElem?_cons_zero]at f0
   have z4:w3.heap.size<w4.heap.size:=by have:=hb4.size;simp at this;omega
   clear hb4
   go_wp2_with fail
   refine(ae LK _ (ae dr)).mono ?_
   rintro e w5 ⟨rfl,hs5,tq⟩
   have dE:=af (ae DN _ _ (ae dr) hs5 tq)
   clear hs5 tq
   go_wp2_with fail
   go_ret
   exact ae dE
  ·
   have t1:(da.k == 1)=false:=by simpa using k1
   have t2:(db.k == 1)=false:=by simpa using k2
   by_cases hs:da.k=db.k∧da.val=db.val∧da.tx=db.tx∧da.cnt=db.cnt
   ·have hs3:Za.pM (aX D) (fr a) (fr b):=by
     have:=(uG oa ob k1 k2).2 hs
     exact⟨by rw[ga,gb];exact this.1,by rw[aa,ab];exact this.2⟩
    obtain⟨o1,n1⟩:=link1 (fr b) (fr a) (Or.inr ⟨rfl,rfl⟩)
    have sm:=oG D (fr b) (fr a)
    have jE:=sm.len
    have LK:=af (fun W (hb:Below w.heap.size w W)=>th W sb so cs T D no nc (fr b) (fr a) (h.below hb) lb)
    have hlen:da.args.length=db.args.length:=by have:=hs3.2;rw[aa,ab]at this;exact this
    have JA:=af (fun W W' (hW:Below w.heap.size w W) (hS:bI W' sb so cs T (dN D (fr b) (fr a)) no nc) (hF:au (rowOf no) (rowOf no) W W')=>NN IH W' sb so cs T (dN D (fr b) (fr a)) no nc P (Za.bL fr (fr b) (fr a)) da.args db.args da.ao db.ao da.cap db.cap hS o1 (((bC.below hW).lV (h.below hW) hF).same sm) (by rw[jE];omega) (((bC.row ma).lV (sb:=sb) (so:=so) (cs:=cs) (T:=T) (E:=D) (nc:=nc) h (au.aw hW)).lV (h.below hW) hF) (((bC.row mb).lV (sb:=sb) (so:=so) (cs:=cs) (T:=T) (E:=D) (nc:=nc) h (au.aw hW)).lV (h.below hW) hF) (fun x hx=>by rw[jE];exact oa.inn x hx) (fun x hx=>by rw[jE];exact ob.inn x hx) hlen oa.few)
    have FN:=af (fun W W' e W'' (hW:Below w.heap.size w W) (hF:au (rowOf no) (rowOf no) W W') (hq:vy sb so cs T (dN D (fr b) (fr a)) no nc (fun r fr'=>Za.jc (aX (dN D (fr b) (fr a))) (Za.bL fr (fr b) (fr a)) da.args db.args r fr') (Za.kK (dN D (fr b) (fr a)).length (Za.bL fr (fr b) (fr a))) W' e W'')=>show vy sb so cs T D no nc (fun r fr'=>Za.cO (aX D) fr a b r fr') (Za.kK D.length fr) w e W'' from by
     obtain⟨r,D',fr',e1,e2,e3,e4,e5,e6⟩:=hq
     rw[jE]at e4
     rw[sm.g]at e5
     refine⟨r,D',fr',e1,e2,sm.trans e3,fun q=>⟨(e4 q).1,by have:=(e4 q).2;omega⟩,?_,((au.aw hW).trans hF).trans e6⟩
     exact .args he (by rw[ga];exact fun r=>k1 (oa.fY.1 r)) (by rw[gb];exact fun r=>k2 (ob.fY.1 r)) hs3 (by rw[aa,ab];exact e5))
    have HL:=af hlen
    obtain⟨k,val,tx,cnt,ao,cap,args,nx,mrk⟩:=da
    obtain⟨k',val',tx',cnt',ao',cap',args',nx',mrk'⟩:=db
    dsimp only at hs t1 t2 LA LB AA AB JA FN HL
    obtain⟨rfl,rfl,rfl,rfl⟩:=hs
    clear h aF bC hka hkb lF hjb gU gV oa ob ga gb aa ab ma mb la lb ia ib link1 done he hc ha hb IH k1 k2 DONE o1 n1 sm jE hlen hs3
    generalize hD1:dN D (fr b) (fr a)=D1 at*
    generalize Wi:Za.bL fr (fr b) (fr a)=fr1 at*
    clear hD1 Wi
    generalize fr a=p at*
    generalize fr b=q at*
    go_enter Tryz.func96,Tryz.ntmps96
    go_wp2_with fail
    refine(ae FA).mono ?_
    rintro e w2 ⟨rfl,rfl⟩
    unfold aM at FB⊢
    go_wp2_with fail
    refine(ae FB).mono ?_
    rintro e w2 ⟨rfl,rfl⟩
    go_wp2_with fail
    refine(ae LA).mono ?_
    rintro e w3 ⟨rfl,hb3⟩
    have bQ:=af (hb3.alloc hb3.size (.cells #[.int .i64 k,.int .i64 val,.string tx,.int .i64 (cnt:Int)] 177))
    have z3:=hb3.size
    clear hb3
    go_wp2_with fail
    refine(ae LB _ (ae bQ)).mono ?_
    rintro e w4 ⟨rfl,hb4⟩
    have dr:=af (((ae bQ).trans (hb4.mono (by simp;omega))).alloc (by have:=hb4.size;simp at this;omega) (.cells #[.int .i64 k,.int .i64 val,.string tx,.int .i64 (cnt:Int)] 177))
    have f0:=(hb4.cell (p:=⟨w3.heap.size,0,none⟩) (by simp)).trans (ah (heap_alloc_new w3 _) 0)
    have f1:=(hb4.cell (p:=⟨w3.heap.size,1,none⟩) (by simp)).trans (ah (heap_alloc_new w3 _) 1)
    have f2:=(hb4.cell (p:=⟨w3.heap.size,2,none⟩) (by simp)).trans (ah (heap_alloc_new w3 _) 2)
    have f3:=(hb4.cell (p:=⟨w3.heap.size,3,none⟩) (by simp)).trans (ah (heap_alloc_new w3 _) 3)
    simp only[List.getElem?_toArray,List.getElem?_cons_zero,List.getElem?_cons_succ]at f0 f1 f2 f3
    have z4:w3.heap.size<w4.heap.size:=by have:=hb4.size;simp at this;omega
    clear hb4
    go_wp2_with fail
    refine(ae AA _ (ae dr)).mono ?_
    rintro e w5 ⟨rfl,rfl⟩
    go_wp2_with fail
    refine(ae AB _ (ae dr)).mono ?_
    rintro e w5 ⟨rfl,rfl⟩
    go_wp2_with fail
    refine(ae LK _ (ae dr)).mono ?_
    rintro e w5 ⟨rfl,hs5,tq⟩
    have iq:=af hs5
    have Mm:=af tq
    clear hs5 tq
    go_wp2_with fail
    refine(ae JA _ _ (ae dr) (ae iq) (ae Mm)).mono ?_
    intro e w6 h6
    have dE:=af (ae FN _ _ _ _ (ae dr) (ae Mm) h6)
    obtain⟨r,D',fr',rfl,-⟩:=h6
    go_wp2_with fail
    go_ret
    exact ae dE
   ·have hs3:¬Za.pM (aX D) (fr a) (fr b):=fun q=>hs ((uG oa ob k1 k2).1 ⟨by have:=q.1;rw[ga,gb]at this;exact this,by have:=q.2;rw[aa,ab]at this;exact this⟩)
    have FN:=af (fun W (hW:Below w.heap.size w W)=>show vy sb so cs T D no nc (fun r fr'=>Za.cO (aX D) fr a b r fr') (Za.kK D.length fr) w (.returned (.bool false)) W from
     ⟨false,D,fr,rfl,h.below hW,cR.refl D,(fun q=>by cases q),.clash he (by rw[ga];exact fun r=>k1 (oa.fY.1 r)) (by rw[gb];exact fun r=>k2 (ob.fY.1 r)) hs3,au.aw hW⟩)
    obtain⟨k,val,tx,cnt,ao,cap,args,nx,mrk⟩:=da
    obtain⟨k',val',tx',cnt',ao',cap',args',nx',mrk'⟩:=db
    dsimp only at hs t1 t2 LA LB
    have hne:k≠k'∨val≠val'∨tx.toList≠tx'.toList∨cnt≠cnt':=by
     by_cases q1:k=k'
     ·by_cases q2:val=val'
      ·by_cases q3:tx=tx'
       ·exact Or.inr (Or.inr (Or.inr fun q4=>hs ⟨q1,q2,q3,q4⟩))
       ·exact Or.inr (Or.inr (Or.inl fun q=>q3 (toList_inj q)))
      ·exact Or.inr (Or.inl q2)
     ·exact Or.inl q1
    have hN:((k == k')&&((val == val')&&((tx.toList == tx'.toList)&&((cnt:Int) == (cnt':Int)))))=false:=by
     rw[Bool.and_eq_false_iff,Bool.and_eq_false_iff,Bool.and_eq_false_iff]
     rcases hne with q | q | q | q
     ·exact Or.inl (by simpa using q)
     ·exact Or.inr (Or.inl (by simpa using q))
     ·exact Or.inr (Or.inr (Or.inl (by simpa using q)))
     ·exact Or.inr (Or.inr (Or.inr (by simp;omega)))
    have qL:=af hne
    clear h aF bC hka hkb lF hjb gU gV oa ob ga gb aa ab ma mb la lb ia ib link1 done he hc ha hb IH k1 k2 DONE hs3 hs AA AB hne hN
    generalize fr a=p at*
    generalize fr b=q at*
    go_enter Tryz.func96,Tryz.ntmps96
    go_wp2_with fail
    refine(ae FA).mono ?_
    rintro e w2 ⟨rfl,rfl⟩
    unfold aM at FB⊢
    go_wp2_with fail
    refine(ae FB).mono ?_
    rintro e w2 ⟨rfl,rfl⟩
    go_wp2_with fail
    refine(ae LA).mono ?_
    rintro e w3 ⟨rfl,hb3⟩
    have bQ:=af (hb3.alloc hb3.size (.cells #[.int .i64 k,.int .i64 val,.string tx,.int .i64 (cnt:Int)] 177))
    have z3:=hb3.size
    clear hb3
    go_wp2_with fail
    refine(ae LB _ (ae bQ)).mono ?_
    rintro e w4 ⟨rfl,hb4⟩
    have dr:=af (((ae bQ).trans (hb4.mono (by simp;omega))).alloc (by have:=hb4.size;simp at this;omega) (.cells #[.int .i64 k',.int .i64 val',.string tx',.int .i64 (cnt':Int)] 177))
    have f0:=(hb4.cell (p:=⟨w3.heap.size,0,none⟩) (by simp)).trans (ah (heap_alloc_new w3 _) 0)
    have f1:=(hb4.cell (p:=⟨w3.heap.size,1,none⟩) (by simp)).trans (ah (heap_alloc_new w3 _) 1)
    have f2:=(hb4.cell (p:=⟨w3.heap.size,2,none⟩) (by simp)).trans (ah (heap_alloc_new w3 _) 2)
    have f3:=(hb4.cell (p:=⟨w3.heap.size,3,none⟩) (by simp)).trans (ah (heap_alloc_new w3 _) 3)
    simp only[List.getElem?_toArray,List.getElem?_cons_zero,List.getElem?_cons_succ]at f0 f1 f2 f3
    have z4:w3.heap.size<w4.heap.size:=by have:=hb4.size;simp at this;omega
    clear hb4
    rcases ae qL with q1 | q1 | q1 | q1
    ·have u1:(k == k')=false:=by simpa using q1
     clear q1 qL
     go_wp2_with fail
     go_ret
     exact ae FN _ (ae dr)
    ·have u1:(val == val')=false:=by simpa using q1
     clear q1 qL
     go_wp2_with fail
     go_ret
     exact ae FN _ (ae dr)
    ·have u1:(tx.toList == tx'.toList)=false:=by simpa using q1
     clear q1 qL
     go_wp2_with fail
     go_ret
     exact ae FN _ (ae dr)
    ·have u1:((cnt:Int) == (cnt':Int))=false:=by simp;omega
     clear q1 qL
     go_wp2_with fail
     go_ret
     exact ae FN _ (ae dr)
theorem join_all:∀c,Bi c
 | 0=>fun w sb so cs T D no nc P fr a b h aF bC hc ha hb=>by
  by_cases he:fr a=fr b
  ·exact yZ w sb so cs T D no nc fr a b h aF ha hb he
  ·have:=Za.yb (aF.lt ha) (aF.idem a) (aF.idem b) he
   omega
 | c+1=>fun w sb so cs T D no nc P fr a b h aF bC hc ha hb=>by
  by_cases he:fr a=fr b
  ·exact yZ w sb so cs T D no nc fr a b h aF ha hb he
  ·exact G9 (join_all c) w sb so cs T D no nc P fr a b h aF bC hc ha hb he
def Hb (d:Ng):Ng:=⟨d.k,d.val,d.tx,d.cnt,d.ao,d.cap,d.args,d.nx,0⟩
def dV (D D':List Ng):Prop:=D.map Hb=D'.map Hb
theorem dV.refl (D:List Ng):dV D D:=rfl
theorem dV.trans {D E F:List Ng} (h:dV D E) (k:dV E F):dV D F:=Eq.trans h k
theorem dV.len {D E:List Ng} (h:dV D E):E.length=D.length:=by simpa using (congrArg List.length h).symm
theorem dV.n {D E:List Ng} (h:dV D E):cR D E:=by
 have:=congrArg (List.map iH) h
 rw[List.map_map,List.map_map]at this
 exact this
theorem dV.nx {D E:List Ng} (h:dV D E) {n:Nat} (hn:n<D.length) (pW:n<E.length):E[n].nx=D[n].nx:=by
 have:=congrArg (fun l=>l[n]?.map Ng.nx) h
 simpa [List.getElem?_eq_getElem hn,List.getElem?_eq_getElem pW,Hb] using this.symm
theorem dV.set {D:List Ng} {n:Nat} (hn:n<D.length) {d:Ng} (h:Hb d=Hb D[n]):dV D (D.set n d):=by
 unfold dV
 rw[List.map_set]
 apply List.ext_getElem (by simp)
 intro i h1 h2
 rw[List.getElem_set]
 split
 ·rename_i e;subst e;simp[h]
 ·rfl
theorem dV.ok {D E:List Ng} (h:dV D E) {fr:Nat→Nat} (ho:b6 D fr):b6 E fr:=by
 have hl:=h.len
 refine⟨fun n hn=> ?_,fun n hn=> ?_,fun n hn=>ho.out n (by omega)⟩
 ·have:=(ho.nd n (by omega)).same (h.n.at (by omega) hn)
  rw[hl]
  exact this
 ·obtain⟨k,hk⟩:=ho.hop n (by omega)
  have key:∀{n m k},Hop D n m k→Hop E n m k:=by
   intro n m k hk
   induction hk with
   | stop q e=>exact .stop (by omega) (by rw[h.nx q (by omega)];exact e)
   | go q e _ ih=>exact .go (by omega) (by rw[h.nx q (by omega)];exact e) (by rw[h.nx q (by omega)];exact ih)
  exact⟨k,key hk⟩
def vA (D:List Ng) (K:Nat→Nat):Prop:=∀n (h:n<D.length),D[n].mrk=K n
def Fe (d:Ng) (m:Nat):Ng:=⟨d.k,d.val,d.tx,d.cnt,d.ao,d.cap,d.args,d.nx,m⟩
def ft (D:List Ng) (a m:Nat):List Ng:=if h:a<D.length then D.set a (Fe D[a] m)else D
theorem jT (D:List Ng) (a m:Nat):dV D (ft D a m):=by
 unfold ft
 split
 ·rename_i h;exact dV.set h rfl
 ·rfl
theorem vA.upd {D:List Ng} {K:Nat→Nat} (h:vA D K) {a:Nat} (ha:a<D.length) (m:Nat):vA (ft D a m) (Za.upd K a m):=by
 intro n hn
 have hnD:n<D.length:=by rw[(jT D a m).len]at hn;exact hn
 unfold ft at hn⊢
 split
 ·rw[List.getElem_set]
  by_cases e:a=n
  ·subst e;rw[if_pos rfl,Za.wU];rfl
  ·rw[if_neg e,Za.upd_ne _ _ (Ne.symm e)]
   exact h n hnD
 ·rename_i q;exact absurd ha q
def nz (D:List Ng):Nat:=D.countP fun d=>d.mrk == 0
theorem Hc {m:Nat} (hm:m≠0):∀{D:List Ng} {a:Nat} (ha:a<D.length),nz (D.set a (Fe D[a] m))+(if D[a].mrk=0 then 1 else 0)=nz D
 | d :: D,0,_=>by
  unfold nz
  simp only[List.set_cons_zero,List.getElem_cons_zero,List.countP_cons]
  have:((Fe d m).mrk == 0)=false:=by simpa [Fe] using hm
  rw[this]
  simp
 | d :: D,a+1,ha=>by
  have:=Hc hm (D:=D) (a:=a) (by simpa using ha)
  unfold nz at this⊢
  simp only[List.set_cons_succ,List.getElem_cons_succ,List.countP_cons]
  omega
theorem ye {D:List Ng} {a m:Nat} (ha:a<D.length) (hm:m≠0):nz (ft D a m)+(if D[a].mrk=0 then 1 else 0)=nz D:=by
 unfold ft
 rw[dif_pos ha]
 exact Hc hm ha
theorem bI.mark {w:World} {sb so:Nat} {cs:Array Value} {T:TypeId} {D:List Ng} {g:Nat} {nc:Nat} (h:bI w sb so cs T D (some ⟨g,0,none⟩) nc) {a m:Nat} (ha:a<D.length):bI (w.setCell ⟨g,a*7+6,none⟩ (.int .i64 (m:Int))) sb so cs T (ft D a m) (some ⟨g,0,none⟩) nc∧au (rowOf (some ⟨g,0,none⟩)) (rowOf (some ⟨g,0,none⟩)) w (w.setCell ⟨g,a*7+6,none⟩ (.int .i64 (m:Int))):=by
 obtain⟨h1,h2⟩:=h.own.stored (a*7+6) (.int .i64 (m:Int))
 have hl:=(jT D a m).len
 obtain⟨g',e,gz,gne,-⟩:=h.at ha
 cases e
 refine⟨⟨?_,by rw[hl];exact h.cel,?_,h.ty⟩,⟨h2.os,h2.tape,h2.output,h2.size,fun k hk hr=>h2.block k hk (fun e=>hr ⟨⟨g,0,none⟩,rfl,by simpa using e⟩),fun _ q=>Or.inl q⟩⟩
 ·exact(h2.block sb (ag h.blk) (by simpa using Ne.symm gne)).trans h.blk
 ·rw[hl]
  have:kA (ft D a m)=(kA D).set (a*7+6) (.int .i64 (m:Int)):=by
   unfold ft
   rw[dif_pos ha]
   exact Bg D a 6 ha (by omega) _ _ rfl
  rw[this]
  exact h1
def Hd (sb so:Nat) (cs:Array Value) (T:TypeId) (D:List Ng) (no:Option Addr) (nc:Nat) (J:Bool→(Nat→Nat)→Prop) (w:World) (e:Ending) (w':World):Prop:=
 ∃(r:Bool) (D':List Ng) (K':Nat→Nat),e= .returned (.bool r)∧bI w' sb so cs T D' no nc∧dV D D'∧vA D' K'∧nz D'≤nz D∧J r K'∧au (rowOf no) (rowOf no) w w'
def He (c:Nat):Prop:=∀(w:World) (sb so:Nat) (cs:Array Value) (T:TypeId) (D:List Ng) (no:Option Addr) (nc:Nat) (P:Nat→Prop) (fr K:Nat→Nat) (n:Nat),bI w sb so cs T D no nc→b6 D fr→aZ w D P→vA D K→nz D≤c→n<D.length→
 Calls Tryz.prog 158 #[.pointer (some ⟨sb,so,none⟩),.int .i64 (n:Int)] w fun e w'=>Hd sb so cs T D no nc (fun r K'=>Za.gD (aX D) fr K n r K') w e w'
def Tp (w:World) (sb so:Nat) (cs:Array Value) (T:TypeId) (D:List Ng) (no:Option Addr) (nc:Nat) (P:Nat→Prop) (fr K:Nat→Nat) (xs:List Nat) (k:Nat) (iv:Value) (wr:World):Prop:=
 ∃(j:Nat) (D1:List Ng) (K1:Nat→Nat),k+j=xs.length∧iv= .int .i64 (j:Int)∧bI wr sb so cs T D1 no nc∧dV D D1∧vA D1 K1∧aZ wr D1 P∧nz D1≤nz D∧
  (∀r K',Za.nt (aX D) fr K1 (xs.drop j) r K'→Za.nt (aX D) fr K xs r K')∧au (rowOf no) (rowOf no) w wr
theorem y4 (w:World) (sb so:Nat) (cs:Array Value) (T:TypeId) (D:List Ng) (no:Option Addr) (nc:Nat) (fr K:Nat→Nat) (n:Nat) (h:bI w sb so cs T D no nc) (aF:b6 D fr) (hm:vA D K) (hn:n<D.length) (hs:K (fr n)≠0):
 Calls Tryz.prog 158 #[.pointer (some ⟨sb,so,none⟩),.int .i64 (n:Int)] w fun e w'=>Hd sb so cs T D no nc (fun r K'=>Za.gD (aX D) fr K n r K') w e w':=by
 obtain⟨k,hk⟩:=aF.hop n hn
 have hl:=aF.lt hn
 have FA:=af (dU w sb so cs T D no nc n (fr n) k h hk)
 have HH:=af (uH w sb so cs T D no nc (fr n) h hl)
 obtain⟨g,rfl,gz,gne,hc,-⟩:=h.at hl
 have f6:=hc 6 (by omega)
 simp only[n6,List.getElem?_cons_zero,List.getElem?_cons_succ,hm (fr n) hl]at f6
 have s0:=h.cell
 have sz:=ag h.blk
 have dE:=af (show Hd sb so cs T D (some ⟨g,0,none⟩) nc (fun r K'=>Za.gD (aX D) fr K n r K') w (.returned (.bool (decide (K (fr n)=2)))) w from ⟨_,D,K,rfl,h,dV.refl D,hm,Nat.le_refl _,.seen hs,au.aw (Below.refl _ _)⟩)
 have t0:(((K (fr n):Nat):Int) != 0)=true:=by simpa using hs
 have HT:=af (show (((K (fr n):Nat):Int) == 2)=decide (K (fr n)=2)by rw[Bool.eq_iff_iff];simp;omega)
 have i0:(0:Int)≤((fr n:Nat):Int):=by omega
 have i1:((fr n:Nat):Int)<(D.length:Int):=by omega
 clear h aF hm hs hk hc hn
 generalize K (fr n)=q at*
 generalize fr n=p at*
 go_enter Tryz.func158,Tryz.ntmps158
 go_wp2_with fail
 refine(ae FA).mono ?_
 rintro e w2 ⟨rfl,rfl⟩
 unfold aM
 go_wp2_with fail
 refine(ae HH).mono ?_
 rintro e w2 ⟨rfl,rfl⟩
 go_wp2_with fail
 go_ret
 have:=ae dE
 rw[←ae HT]at this
 exact this
theorem walk_go {c:Nat} (IH:He c) (w:World) (sb so:Nat) (cs:Array Value) (T:TypeId) (D:List Ng) (no:Option Addr) (nc:Nat) (P:Nat→Prop) (fr K:Nat→Nat) (n:Nat) (h:bI w sb so cs T D no nc) (aF:b6 D fr) (bC:aZ w D P) (hm:vA D K) (hc:nz D≤c+1) (hn:n<D.length) (hs:K (fr n)=0):
 Calls Tryz.prog 158 #[.pointer (some ⟨sb,so,none⟩),.int .i64 (n:Int)] w fun e w'=>Hd sb so cs T D no nc (fun r K'=>Za.gD (aX D) fr K n r K') w e w':=by
 obtain⟨k,hk⟩:=aF.hop n hn
 obtain⟨j,hj⟩:=aF.rq hn
 have hl:=aF.lt hn
 obtain⟨d,hd,od,gd,ad,md⟩:=G8 aF hn
 have FA:=af (dU w sb so cs T D no nc n (fr n) k h hk)
 have HH:=af (uH w sb so cs T D no nc (fr n) h hl)
 obtain⟨g,rfl,gz,gne,hc',hx⟩:=h.at hl
 have f6:=hc' 6 (by omega)
 have x6:=hx (fr n*7+6)
 simp only[n6,List.getElem?_cons_zero,List.getElem?_cons_succ,hm (fr n) hl,hs]at f6
 have s0:=h.cell
 have sz:=ag h.blk
 obtain⟨m1,m2⟩:=h.mark (m:=1) hl
 have sm:=jT D (fr n) 1
 have jE:=sm.len
 have nz1:=ye (m:=1) hl (by omega)
 rw[if_pos (by rw[hm (fr n) hl,hs])]at nz1
 have Mn:∃d1,(ft D (fr n) 1)[fr n]?=some d1∧d1.ao=d.ao∧d1.args=d.args∧d1.cap=d.cap:=by
  refine⟨(ft D (fr n) 1)[fr n]'(by omega),List.getElem?_eq_getElem _,?_⟩
  have e:=sm.n.at hl (by omega)
  rw[List.getElem?_eq_getElem hl]at hd
  obtain rfl:=Option.some.inj hd
  generalize (ft D (fr n) 1)[fr n]'(by omega)=y at*
  generalize D[fr n]=z at*
  unfold iH at e
  simp only[Ng.mk.injEq]at e
  obtain⟨_,_,_,_,e1,e2,e3,_⟩:=e
  exact⟨e1.symm,e3.symm,e2.symm⟩
 obtain⟨d1,Mn,q1,q2,q3⟩:=Mn
 have o1:=sm.ok aF
 have Mo:∃j1,Hop (ft D (fr n) 1) (fr n) (fr n) j1:=by
  have:=o1.hop (fr n) (by omega)
  rwa [aF.idem]at this
 obtain⟨j1,Mo⟩:=Mo
 have AG:=af (lW (w.setCell ⟨g,fr n*7+6,none⟩ (.int .i64 1)) sb so cs T (ft D (fr n) 1) (some ⟨g,0,none⟩) nc (fr n) (fr n) j1 d1 m1 Mo Mn)
 rw[q1,q2,q3]at AG
 have HST:=af (show Tp w sb so cs T (ft D (fr n) 1) (some ⟨g,0,none⟩) nc P fr (Za.upd K (fr n) 1) d.args d.args.length (.int .i64 0) (w.setCell ⟨g,fr n*7+6,none⟩ (.int .i64 1))from
  ⟨0,ft D (fr n) 1,Za.upd K (fr n) 1,by omega,rfl,m1,dV.refl _,hm.upd hl 1,(bC.lV h m2).same sm.n,Nat.le_refl _,(fun r K' q=>by simpa using q),m2⟩)
 have HR:=af (show o6 w d.ao d.args from bC.row md)
 have fB:=af h
 have I:=af IH
 have Bk:=af (show nz (ft D (fr n) 1)≤c by omega)
 have Tq:=af (show nz (ft D (fr n) 1)≤nz D by omega)
 have o5:=af od.inn
 have Wj:=af o1
 have ji:=af sm
 have G7:=af jE
 have G6:=af sm.n.g
 have HAD:=af ad
 have Ts:=af hs
 have vV:=od.few
 have i0:(0:Int)≤((fr n:Nat):Int):=by omega
 have i1:((fr n:Nat):Int)<(D.length:Int):=by omega
 have HL:=af hl
 clear h aF bC hm hc hn hs hk hj gd ad md hc' hx m1 m2 sm jE nz1 Mn q1 q2 q3 o1 Mo od hd IH hl
 obtain⟨dk,dval,dtx,dcnt,ao,dcap,xs,dnx,dmrk⟩:=d
 dsimp only at HST HR AG vV o5 HAD
 go_enter Tryz.func158,Tryz.ntmps158
 go_wp2_with fail
 refine(ae FA).mono ?_
 rintro e w2 ⟨rfl,rfl⟩
 unfold aM
 go_wp2_with fail
 refine(ae HH).mono ?_
 rintro e w2 ⟨rfl,rfl⟩
 go_wp2_with fail
 refine(ae AG).mono ?_
 rintro e w3 ⟨rfl,rfl⟩
 go_wp2_with fail
 go_loopg [44] xs.length (fun k iv wr=>Tp w2 sb so cs T (ft D (fr n) 1) (some ⟨g,0,none⟩) nc P fr (Za.upd K (fr n) 1) xs k iv wr)
 case atStart=>exact ae HST
 case round=>
  clear HST AG
  obtain⟨j,D1,K1,hkj,rfl,hst,hsm,sW,bC,hnz,oH,cW⟩:=hrel
  have hl2:D1.length=D.length:=by rw[hsm.len,ae G7]
  by_cases hlt:j<xs.length
  ·obtain⟨gx,ex,zx,cx⟩:=((ae HR).lV (ae fB) cW).at hlt
   subst ex
   have IC:=af (ae I wr sb so cs T D1 (some ⟨g,0,none⟩) nc P fr K1 xs[j] hst (hsm.ok (ae Wj)) bC sW (by have:=ae Bk;omega) (by rw[hl2];exact ae o5 _ (List.getElem_mem hlt)))
   have vz:=af (show xs.drop j=xs[j] :: xs.drop (j+1)from List.drop_eq_getElem_cons hlt)
   have jh:=af cW
   have Pc:=af hsm
   have Bj:=af hst
   have n9:=af bC
   have Pd:=af hnz
   have DJ:=af oH
   have aT:=af hkj
   have bh:=af hlt
   have Tt:=af hsm.n.g
   generalize xs[j]=na at*
   have j0:(0:Int)≤(j:Int):=by omega
   have j1:(j:Int)<(xs.length:Int):=by omega
   clear hst hsm sW bC hnz oH cW hkj hlt hl2 f6 x6 s0 sz gz gne
   go_wp2_with fail
   refine(ae IC).mono ?_
   rintro e w8 ⟨r,D8,K8,rfl,h8,s8,k8,z8,j8,f8⟩
   have nR:=af ((ae jh).trans f8)
   have H8:=af h8
   have S8:=af s8
   have K8':=af k8
   have Z8:=af z8
   have J8:=af j8
   have Pb:=af ((ae n9).lV (ae Bj) f8)
   clear h8 s8 k8 z8 j8 f8
   cases r
   ·go_wp2_with fail
    go_ret
    refine⟨false,D8,K8,rfl,ae H8,(ae ji).trans ((ae Pc).trans (ae S8)),ae K8',by have:=ae Z8;have:=ae Pd;have:=ae Tq;omega,?_,ae nR⟩
    refine .no (ae Ts) ?_
    rw[ae HAD,←ae G6]
    refine ae DJ _ _ ?_
    rw[ae vz]
    have:=ae J8
    rw[ae Tt]at this
    exact .no this
   ·go_wp2_with fail
    go_roundg (gk - 1)
    case measure=>have:=ae aT;have:=ae bh;omega
    case rel=>
     refine⟨j+1,D8,K8,by have:=ae aT;have:=ae bh;omega,by go_num,ae H8,(ae Pc).trans (ae S8),ae K8',(ae Pb).same (ae S8).n,by have:=ae Z8;have:=ae Pd;omega,fun r K' q=> ?_,ae nR⟩
     refine ae DJ _ _ ?_
     rw[ae vz]
     have:=ae J8
     rw[ae Tt]at this
     exact .cons this q
  ·obtain rfl:j=xs.length:=by omega
   have hlD:fr n<D1.length:=by rw[hl2];exact ae HL
   obtain⟨g',e',gz',gne',hc',Tu⟩:=hst.at hlD
   cases e'
   have c6:=hc' 6 (by omega)
   have x6':=Tu (fr n*7+6)
   simp only[n6,List.getElem?_cons_zero,List.getElem?_cons_succ]at c6
   have s0':=hst.cell
   have sz':=ag hst.blk
   obtain⟨m1,m2⟩:=hst.mark (m:=2) hlD
   have sm2:=jT D1 (fr n) 2
   have nz2:=ye (m:=2) hlD (by omega)
   have i1':((fr n:Nat):Int)<(D1.length:Int):=by omega
   have dE:=af (show Hd sb so cs T D (some ⟨g,0,none⟩) nc (fun r K'=>Za.gD (aX D) fr K n r K') w2 (.returned (.bool true)) (wr.setCell ⟨g,fr n*7+6,none⟩ (.int .i64 2))from by
    refine⟨true,ft D1 (fr n) 2,Za.upd K1 (fr n) 2,rfl,m1,(ae ji).trans (hsm.trans sm2),sW.upd hlD 2,by have:=ae Tq;split at nz2<;>omega,?_,cW.trans m2⟩
    refine .go (ae Ts) ?_
    rw[ae HAD,←ae G6]
    exact oH _ _ (by rw[List.drop_length];exact .nil))
   generalize D1[fr n].mrk=om at*
   clear hst hsm sW bC hnz oH cW hkj hc' Tu m1 m2 sm2 nz2 hl2 f6 x6 s0 sz gz gne i1
   go_wp2_with fail
   go_ret
   exact ae dE
theorem walk_all:∀c,He c
 | 0=>fun w sb so cs T D no nc P fr K n h aF bC hm hc hn=>by
  by_cases hs:K (fr n)=0
  ·have hl:=aF.lt hn
   have:=ye (m:=1) hl (by omega)
   rw[if_pos (by rw[hm (fr n) hl,hs])]at this
   omega
  ·exact y4 w sb so cs T D no nc fr K n h aF hm hn hs
 | c+1=>fun w sb so cs T D no nc P fr K n h aF bC hm hc hn=>by
  by_cases hs:K (fr n)=0
  ·exact walk_go (walk_all c) w sb so cs T D no nc P fr K n h aF bC hm hc hn hs
  ·exact y4 w sb so cs T D no nc fr K n h aF hm hn hs
def Pe (w:World) (sb so:Nat) (cs:Array Value) (T:TypeId) (D:List Ng) (no:Option Addr) (nc:Nat) (k:Nat) (iv:Value) (wr:World):Prop:=
 ∃(j:Nat) (D1:List Ng),k+j=D.length∧iv= .int .i64 (j:Int)∧bI wr sb so cs T D1 no nc∧dV D D1∧(∀n (h:n<D1.length),n<j→D1[n].mrk=0)∧au (rowOf no) (rowOf no) w wr
theorem NP {D:List Ng} {a m n:Nat} (ha:a<D.length) (hn:n<D.length) (pW:n<(ft D a m).length):(ft D a m)[n].mrk=if n=a then m else D[n].mrk:=by
 have h:vA D (fun i=>(D[i]?.map Ng.mrk).getD 0):=fun i hi=>by simp[List.getElem?_eq_getElem hi]
 have:=h.upd ha m n pW
 rw[this]
 by_cases e:n=a
 ·rw[if_pos e,e,Za.wU]
 ·rw[if_neg e,Za.upd_ne _ _ e]
  simp[List.getElem?_eq_getElem hn]
theorem Kj (w:World) (sb so:Nat) (cs:Array Value) (T:TypeId) (D:List Ng) (no:Option Addr) (nc:Nat) (P:Nat→Prop) (fr:Nat→Nat) (n:Nat) (h:bI w sb so cs T D no nc) (aF:b6 D fr) (bC:aZ w D P) (hn:n<D.length) (hD:D.length≤1000000000):
 Calls Tryz.prog 97 #[.pointer (some ⟨sb,so,none⟩),.int .i64 (n:Int)] w fun e w'=>∃(r:Bool) (D':List Ng) (K':Nat→Nat),e= .returned (.bool r)∧bI w' sb so cs T D' no nc∧dV D D'∧Za.gD (aX D) fr (fun _=>0) n r K'∧au (rowOf no) (rowOf no) w w':=by
 have HST:=af (show Pe w sb so cs T D no nc D.length (.int .i64 0) w from ⟨0,D,by omega,rfl,h,dV.refl D,(fun n _ q=>by omega),au.aw (Below.refl _ _)⟩)
 have s0:=h.cell
 have sz:=ag h.blk
 have H:=af h
 have qM:=af aF
 have n9:=af bC
 have HN:=af hn
 clear h aF bC hn
 go_enter Tryz.func97,Tryz.ntmps97
 go_wp2_with fail
 go_loopg [11] D.length (fun k iv wr=>Pe w sb so cs T D no nc k iv wr)
 case atStart=>exact ae HST
 case round=>
  clear HST
  obtain⟨j,D1,hkj,rfl,hst,hsm,sW,cW⟩:=hrel
  have hl:=hsm.len
  by_cases hlt:j<D.length
  ·have hlD:j<D1.length:=by omega
   obtain⟨g,rfl,gz,gne,hc,hx⟩:=hst.at hlD
   have c6:=hc 6 (by omega)
   have x6:=hx (j*7+6)
   simp only[n6,List.getElem?_cons_zero,List.getElem?_cons_succ]at c6
   have s1:=hst.cell
   have z1:=ag hst.blk
   obtain⟨m1,m2⟩:=hst.mark (m:=0) hlD
   have dE:=af (show Pe w sb so cs T D (some ⟨g,0,none⟩) nc (gk - 1) (.int .i64 ((j:Int)+1)) (wr.setCell ⟨g,j*7+6,none⟩ (.int .i64 0))from
    ⟨j+1,ft D1 j 0,by omega,by go_num,m1,hsm.trans (jT D1 j 0),(fun n hn q=>by
     have lG:n<D1.length:=by rw[(jT D1 j 0).len]at hn;exact hn
     rw[NP hlD lG hn]
     by_cases e:n=j
     ·rw[if_pos e]
     ·rw[if_neg e];exact sW n lG (by omega)),cW.trans m2⟩)
   have j0:(0:Int)≤(j:Int):=by omega
   have j1:(j:Int)<(D.length:Int):=by omega
   have j2:(j:Int)<(D1.length:Int):=by omega
   generalize D1[j].mrk=om at*
   have aT:=af hkj
   clear hst hsm sW cW hkj hc hx m1 m2 hl
   go_wp2_with fail
   go_roundg (gk - 1)
   case measure=>have:=ae aT;omega
   case rel=>exact ae dE
  ·obtain rfl:j=D.length:=by omega
   have Pf:vA D1 (fun _=>0):=fun n hn=>sW n hn (by omega)
   have IC:=af (walk_all (nz D1) wr sb so cs T D1 no nc P fr (fun _=>0) n hst (hsm.ok (ae qM)) (((ae n9).lV (ae H) cW).same hsm.n) Pf (Nat.le_refl _) (by have:=ae HN;omega))
   have jh:=af cW
   have ji:=af hsm
   clear hst hsm sW cW hkj Pf hl
   go_wp2_with fail
   refine(ae IC).mono ?_
   rintro e w8 ⟨r,D8,K8,rfl,h8,s8,k8,z8,j8,f8⟩
   have dE:=af (show∃(r':Bool) (D':List Ng) (K':Nat→Nat),Ending.returned (.bool r)= .returned (.bool r')∧bI w8 sb so cs T D' no nc∧dV D D'∧Za.gD (aX D) fr (fun _=>0) n r' K'∧au (rowOf no) (rowOf no) w w8 from
    ⟨r,D8,K8,rfl,h8,(ae ji).trans s8,by rw[(ae ji).n.g]at j8;exact j8,(ae jh).trans f8⟩)
   clear h8 s8 k8 z8 j8 f8
   go_wp2_with fail
   go_ret
   exact ae dE
def Hf (sb so:Nat) (cs:Array Value) (T:TypeId) (D:List Ng) (no:Option Addr) (nc:Nat) (fr:Nat→Nat) (a b:Nat) (w:World) (e:Ending) (w':World):Prop:=
 ∃(r:Bool) (D':List Ng),e= .returned (.bool r)∧bI w' sb so cs T D' no nc∧cR D D'∧au (rowOf no) (rowOf no) w w'∧
  (r=true→∃fr' K',b6 D' fr'∧Za.cO (aX D) fr a b true fr'∧Za.gD (aX D) fr' (fun _=>0) a true K')∧
  (r=false→(∃fr',Za.cO (aX D) fr a b false fr')∨∃fr' K',Za.cO (aX D) fr a b true fr'∧Za.gD (aX D) fr' (fun _=>0) a false K')
theorem NQ (w:World) (sb so:Nat) (cs:Array Value) (T:TypeId) (D:List Ng) (no:Option Addr) (nc:Nat) (P:Nat→Prop) (fr:Nat→Nat) (a b:Nat) (h:bI w sb so cs T D no nc) (aF:b6 D fr) (bC:aZ w D P) (ha:a<D.length) (hb:b<D.length) (hD:D.length≤1000000000):
 Calls Tryz.prog 55 #[.pointer (some ⟨sb,so,none⟩),.int .i64 (a:Int),.int .i64 (b:Int)] w fun e w'=>Hf sb so cs T D no nc fr a b w e w':=by
 have IJ:=af (join_all (Za.kK D.length fr) w sb so cs T D no nc P fr a b h aF bC (Nat.le_refl _) ha hb)
 have H:=af h
 have n9:=af bC
 have HA:=af ha
 clear h aF bC ha hb
 go_enter Tryz.func55,Tryz.ntmps55
 go_wp2_with fail
 refine(ae IJ).mono ?_
 rintro e w8 ⟨r,D8,fr8,rfl,h8,s8,o8,j8,f8⟩
 cases r
 ·have dE:=af (show Hf sb so cs T D no nc fr a b w (.returned (.bool false)) w8 from ⟨false,D8,rfl,h8,s8,f8,(fun q=>by cases q),fun _=>Or.inl ⟨fr8,j8⟩⟩)
  clear h8 s8 o8 j8 f8
  go_wp2_with fail
  go_ret
  exact ae dE
 ·obtain⟨o1,o2⟩:=o8 rfl
  have IF:=af (Kj w8 sb so cs T D8 no nc P fr8 a h8 o1 (((ae n9).lV (ae H) f8).same s8) (by rw[s8.len];exact ae HA) (by rw[s8.len];exact hD))
  have S8:=af s8
  have O1:=af o1
  have J8:=af j8
  have F8:=af f8
  clear h8 s8 o8 j8 f8 o1 o2
  go_wp2_with fail
  refine(ae IF).mono ?_
  rintro e w9 ⟨r,D9,K9,rfl,h9,s9,k9,f9⟩
  have hg:=(ae S8).g
  rw[hg]at k9
  have dE:=af (show Hf sb so cs T D no nc fr a b w (.returned (.bool r)) w9 from ⟨r,D9,rfl,h9,(ae S8).trans s9.n,(ae F8).trans f9,(fun q=>⟨fr8,K9,s9.ok (ae O1),ae J8,by rw[q]at k9;exact k9⟩),fun q=>Or.inr ⟨fr8,K9,ae J8,by rw[q]at k9;exact k9⟩⟩)
  clear h9 s9 k9 f9 hg
  go_wp2_with fail
  go_ret
  exact ae dE
theorem Hf.says {sb so:Nat} {cs:Array Value} {T:TypeId} {D:List Ng} {no:Option Addr} {nc:Nat} {fr:Nat→Nat} {a b:Nat} {w:World} {e:Ending} {w':World} (h:Hf sb so cs T D no nc fr a b w e w') {t:Nat→Za.U} (ht:Za.dG (aX D) fr t):
 ∃(r:Bool) (D':List Ng),e= .returned (.bool r)∧bI w' sb so cs T D' no nc∧cR D D'∧au (rowOf no) (rowOf no) w w'∧
  (r=true→∃fr' σ t',b6 D' fr'∧Za.Made (aX D) fr fr' t t' (t a) (t b) σ)∧(r=false→∀θ,Za.sub θ (t a)≠Za.sub θ (t b)):=by
 obtain⟨r,D',h1,h2,h3,h4,h5,h6⟩:=h
 refine⟨r,D',h1,h2,h3,h4,fun q=> ?_,fun q=> ?_⟩
 ·obtain⟨fr',K',o,j,k⟩:=h5 q
  obtain⟨σ,t',hm⟩:=(ht.join j).2.2 rfl K' k
  exact⟨fr',σ,t',o,hm⟩
 ·rcases h6 q with⟨fr',j⟩ | ⟨fr',K',j,k⟩
  ·exact(ht.join j).1 rfl
  ·exact(ht.join j).2.1 rfl K' k
theorem Bl {D:List Ng} {fr:Nat→Nat} (aF:b6 D fr) {n:Nat} {u:Za.U} (hn:n<D.length) (h:Za.Tr (aX D) fr n u):∃d us,D[fr n]?=some d∧gH D.length d∧d∈D∧d.args.length=us.length∧(∀(i a:Nat) (v:Za.U),d.args[i]?=some a→us[i]?=some v→Za.Tr (aX D) fr a v)∧
 ((d.k=1∧u= .v ([],fr n)∧us=[])∨(d.k=2∧u= .n 3 [] d.val []∧us=[])∨(d.k=3∧u= .n 1 d.tx.toList 0 us)):=by
 obtain⟨d,hd,od,gd,ad,md⟩:=G8 aF hn
 cases h with
 | var hg ha=>
  rw[gd]at hg
  rw[ad]at ha
  exact⟨d,[],hd,od,md,by rw[ha];rfl,fun i a v _ hv=>by simp at hv,Or.inl ⟨od.fY.1 hg,rfl,rfl⟩⟩
 | @node _ k tx num us hg hl ht=>
  rw[gd]at hg
  rw[ad]at hl ht
  refine⟨d,us,hd,od,md,hl,ht,Or.inr ?_⟩
  unfold fp at hg
  rcases od.ks with q | q | q
  ·rw[if_pos q]at hg;cases hg
  ·rw[if_neg (by omega),if_pos q]at hg
   cases hg
   have:us=[]:=by rw[(od.m q).2.2]at hl;exact List.length_eq_zero_iff.1 hl.symm
   subst this
   exact Or.inl ⟨q,rfl,rfl⟩
  ·rw[if_neg (by omega),if_neg (by omega)]at hg
   cases hg
   exact Or.inr ⟨q,rfl⟩
theorem NR {u:Za.U} {us:List Za.U} {d:Ng} {n:Nat} (h:(d.k=1∧u= .v ([],n)∧us=[])∨(d.k=2∧u= .n 3 [] d.val []∧us=[])∨(d.k=3∧u= .n 1 d.tx.toList 0 us)):Za.size u=1+Za.sizeL us:=by
 rcases h with⟨_,rfl,rfl⟩ | ⟨_,rfl,rfl⟩ | ⟨_,rfl⟩
 ·simp[Za.size,Za.sizeL]
 ·simp[Za.size,Za.sizeL]
 ·rw[Za.size]
theorem sizeL_snoc:∀(us:List Za.U) (u:Za.U),Za.sizeL (us++[u])=Za.sizeL us+Za.size u
 | [],u=>by simp[Za.sizeL]
 | v :: us,u=>by rw[List.cons_append,Za.sizeL,Za.sizeL,sizeL_snoc us u];omega
theorem xm (us:List Za.U) (j:Nat):Za.sizeL (us.take j)≤Za.sizeL us:=by
 induction us generalizing j with
 | nil=>simp[Za.sizeL]
 | cons u us ih=>
  cases j with
  | zero=>simp[Za.sizeL]
  | succ j=>rw[List.take_succ_cons,Za.sizeL,Za.sizeL];have:=ih j;omega
def Bn (s:Nat):Prop:=∀(w:World) (sb so:Nat) (cs:Array Value) (T:TypeId) (D:List Ng) (no:Option Addr) (nc:Nat) (P:Nat→Prop) (fr:Nat→Nat) (n:Nat) (u:Za.U) (most:Nat),bI w sb so cs T D no nc→b6 D fr→aZ w D P→n<D.length→Za.Tr (aX D) fr n u→Za.size u≤s→most≤1000→
 Calls Tryz.prog 56 #[.pointer (some ⟨sb,so,none⟩),.int .i64 (n:Int),.int .i64 (most:Int)] w fun e w'=>e= .returned (.int .i64 ((min (Za.size u) (most+1):Nat):Int))∧w'=w
theorem Hg {s:Nat} (IH:Bn s):Bn (s+1):=by
 intro w sb so cs T D no nc P fr n u most h aF bC hn ht hs hm
 obtain⟨k,hk⟩:=aF.hop n hn
 obtain⟨d,us,hd,od,md,hl,rT,hu⟩:=Bl aF hn ht
 have hsz:=NR hu
 have AG:=af (lW w sb so cs T D no nc n (fr n) k d h hk hd)
 have HR:=af (show o6 w d.ao d.args from bC.row md)
 have H:=af h
 have qM:=af aF
 have n9:=af bC
 have o5:=af od.inn
 have Hh:=af rT
 have j9:=af hsz
 have HS:=af hs
 have I:=af IH
 have vV:=od.few
 obtain⟨dk,dval,dtx,dcnt,ao,dcap,xs,dnx,dmrk⟩:=d
 dsimp only at AG HR o5 Hh hl vV
 clear h aF bC hn ht hs hk hd od md rT hu hsz IH
 have HL:=af hl
 go_enter Tryz.func56,Tryz.ntmps56
 go_wp2_with fail
 refine(ae AG).mono ?_
 rintro e w2 ⟨rfl,rfl⟩
 clear hl
 go_wp2_with fail
 go_loopg [7,14] xs.length (fun k sv iv wr=>∃j:Nat,k+j=xs.length∧iv= .int .i64 (j:Int)∧sv= .int .i64 ((min (1+Za.sizeL (us.take j)) (most+1):Nat):Int)∧wr=w2)
 case atStart=>exact⟨0,by omega,rfl,by simp[Za.sizeL],rfl⟩
 case round=>
  obtain⟨j,hkj,rfl,rfl,rfl⟩:=hrel
  by_cases hlt:j<xs.length
  ·obtain⟨gx,ex,zx,cx⟩:=(ae HR).at hlt
   subst ex
   have DK:j<us.length:=by have:=ae HL;omega
   have Mp:Za.sizeL (us.take (j+1))=Za.sizeL (us.take j)+Za.size us[j]:=by
    rw[List.take_add_one,List.getElem?_eq_getElem DK]
    exact sizeL_snoc _ _
   have hle:=xm us (j+1)
   have qu:=ae j9
   have hbound:=ae HS
   have j0:(0:Int)≤(j:Int):=by omega
   have j1:(j:Int)<(xs.length:Int):=by omega
   by_cases Pg:most<1+Za.sizeL (us.take j)
   ·have e1:min (1+Za.sizeL (us.take j)) (most+1)=most+1:=by omega
    have e2:min (Za.size u) (most+1)=most+1:=by omega
    have xp:=af e2
    rw[e1]
    have t1:decide (((most+1:Nat):Int)>(most:Int))=true:=by simp;omega
    generalize xs[j]=na at*
    clear Mp hle qu hbound hkj e1 e2 Pg
    generalize y5:((most+1:Nat):Int)=mm at*
    have Wk:=af y5
    clear y5
    go_wp2_with fail
    go_ret
    exact⟨by rw[ae xp,ae Wk];rfl,rfl⟩
   ·have e1:min (1+Za.sizeL (us.take j)) (most+1)=1+Za.sizeL (us.take j):=by omega
    have hp:=Za.size_pos us[j]
    have IC:=af (ae I wr sb so cs T D no nc P fr xs[j] us[j] (most - (1+Za.sizeL (us.take j))) (ae H) (ae qM) (ae n9) (ae o5 _ (List.getElem_mem hlt)) (ae Hh j _ _ (List.getElem?_eq_getElem hlt) (List.getElem?_eq_getElem DK)) (by omega) (by omega))
    have U1:=af (show (1+Za.sizeL (us.take j))+min (Za.size us[j]) (most - (1+Za.sizeL (us.take j))+1)=min (1+Za.sizeL (us.take (j+1))) (most+1)by omega)
    rw[e1]
    generalize hA:1+Za.sizeL (us.take j)=A at*
    generalize hB:min (Za.size us[j]) (most - A+1)=B at*
    have hB1:B≤most - A+1:=by omega
    have Ph:((most - A:Nat):Int)=(most:Int) - (A:Int):=by omega
    rw[Ph]at IC
    have t1:decide ((A:Int)>(most:Int))=false:=by simp;omega
    have t2:decide (most<A)=false:=by simp;omega
    have aT:=af hkj
    have hAm:(A:Int)≤1000:=by omega
    have hA0:(0:Int)≤(A:Int):=by omega
    have DL:(most:Int)≤1000:=by omega
    have Pj:(0:Int)≤(most:Int):=by omega
    have hBm:(B:Int)≤2000:=by omega
    have hB0:(0:Int)≤(B:Int):=by omega
    generalize xs[j]=na at*
    clear Mp hle qu hbound e1 Pg hA hB hB1 Ph hkj hp
    go_wp2_with fail
    refine(ae IC).mono ?_
    rintro e w3 ⟨rfl,rfl⟩
    go_wp2_with fail
    go_roundg (gk - 1)
    case measure=>have:=ae aT;omega
    case rel=>exact⟨j+1,by have:=ae aT;omega,by go_num,by rw[←ae U1];go_num,rfl⟩
  ·obtain rfl:j=xs.length:=by omega
   have dE:=af (show min (1+Za.sizeL (us.take xs.length)) (most+1)=min (Za.size u) (most+1)by rw[ae j9,List.take_of_length_le (by have:=ae HL;omega)])
   clear hkj
   generalize hA:min (1+Za.sizeL (us.take xs.length)) (most+1)=A at*
   clear hA
   go_wp2_with fail
   go_ret
   exact⟨by rw[ae dE];rfl,rfl⟩
theorem size_all:∀s,Bn s
 | 0=>fun _ _ _ _ _ _ _ _ _ _ _ u _ _ _ _ _ _ hs _=>absurd hs (by have:=Za.size_pos u;omega)
 | s+1=>Hg (size_all s)
end Go.Proofs.YthfjnfcekeknlaaGreatDoor
