import Derived.Test.YthfjnfcekeknlaaGreatDoorSt01
import Derived.Test.YthfjnfcekeknlaaGreatDoorSt05
import Derived.Deep.LoopGhost
import Derived.Deep.RegionHeld3
set_option maxHeartbeats 8000000
set_option maxRecDepth 100000
namespace Go.Proofs.YthfjnfcekeknlaaGreatDoor
open Go.RowKit
structure Ng where
 k:Int
 val:Int
 tx:ByteArray
 cnt:Nat
 ao:Option Addr
 cap:Nat
 args:List Nat
 nx:Nat
 mrk:Nat
def nN (d:Ng):List Value:=[.int .i64 d.k,.int .i64 d.val,.string d.tx,.int .i64 (d.cnt:Int),.slice d.ao d.args.length d.cap,.int .i64 (d.nx:Int),.int .i64 (d.mrk:Int)]
def jS (D:List Ng):List Value:=D.flatMap nN
theorem ngC_len:∀d,(nN d).length=7:=fun _=>rfl
theorem Oe {D:List Ng} {n:Nat} (h:n<D.length) (j:Nat) (hj:j<7):(jS D)[n*7+j]?=(nN D[n])[j]?:=qu ngC_len h j hj
theorem G3 (D:List Ng) (d:Ng):jS (D++[d])=jS D++nN d:=by unfold jS;rw[List.flatMap_append];simp
theorem A8 (D:List Ng) (n j:Nat) (hn:n<D.length) (hj:j<7) (d:Ng) (v:Value) (h:nN d=(nN D[n]).set j v):jS (D.set n d)=(jS D).set (n*7+j) v:=by
 unfold jS
 induction D generalizing n with
 | nil=>simp at hn
 | cons e D ih=>
  cases n with
  | zero=>
   simp only[List.set_cons_zero,List.flatMap_cons]
   rw[List.set_append_left _ _ (by rw[ngC_len];omega)]
   rw[h]
   simp
  | succ n=>
   simp only[List.set_cons_succ,List.flatMap_cons]
   rw[List.set_append_right _ _ (by rw[ngC_len];omega),ngC_len,ih n (by simpa using hn) (by simpa using h)]
   congr 2
   omega
def ig (d:Ng):Ng:=⟨d.k,d.val,d.tx,d.cnt,d.ao,d.cap,d.args,0,0⟩
def cI (D D':List Ng):Prop:=D.map ig=D'.map ig
theorem cI.refl (D:List Ng):cI D D:=rfl
theorem cI.trans {D E F:List Ng} (h:cI D E) (k:cI E F):cI D F:=Eq.trans h k
theorem cI.len {D E:List Ng} (h:cI D E):E.length=D.length:=by simpa using (congrArg List.length h).symm
theorem cI.at {D E:List Ng} (h:cI D E) {n:Nat} (hn:n<D.length) (hn':n<E.length):ig D[n]=ig E[n]:=by
 have:=congrArg (·[n]?) h
 simpa [List.getElem?_eq_getElem hn,List.getElem?_eq_getElem hn'] using this
theorem cI.set {D:List Ng} {n:Nat} (hn:n<D.length) {d:Ng} (h:ig d=ig D[n]):cI D (D.set n d):=by
 unfold cI
 rw[List.map_set]
 apply List.ext_getElem (by simp)
 intro i h1 h2
 rw[List.getElem_set]
 split
 ·rename_i e;subst e;simp[h]
 ·rfl
def eQ (d:Ng):Option (Nat×List UInt8×Int):=if d.k=1 then none else if d.k=2 then some (3,[],d.val)else some (1,d.tx.toList,0)
def Pt (d:Ng):Za.Gn:=⟨eQ d,d.args⟩
def aV (D:List Ng):List Za.Gn:=D.map Pt
theorem cI.g {D E:List Ng} (h:cI D E):aV E=aV D:=by
 have:=congrArg (List.map Pt) h
 rw[List.map_map,List.map_map]at this
 exact this.symm
theorem lH {D:List Ng} {n:Nat} (h:n<D.length):Za.gl (aV D) n=eQ D[n]:=by
 unfold Za.gl aV
 rw[List.getElem?_map,List.getElem?_eq_getElem h]
 rfl
theorem jC {D:List Ng} {n:Nat} (h:n<D.length):Za.ga (aV D) n=D[n].args:=by
 unfold Za.ga aV
 rw[List.getElem?_map,List.getElem?_eq_getElem h]
 rfl
structure gf (len:Nat) (d:Ng):Prop where
 ks:d.k=1∨d.k=2∨d.k=3
 v:d.k=1→d.val=0∧d.tx=⟨#[]⟩∧d.cnt=0∧d.args=[]
 m:d.k=2→d.tx=⟨#[]⟩∧d.cnt=0∧d.args=[]
 c:d.k=3→d.val=0∧d.cnt=d.args.length∧d.args.length≤3
 inn:∀a∈d.args,a<len
theorem gf.same {len:Nat} {d e:Ng} (q:ig d=ig e) (r:gf len d):gf len e:=by
 obtain⟨k,val,tx,cnt,ao,cap,args,nx,mrk⟩:=d
 obtain⟨k',val',tx',cnt',ao',cap',args',nx',mrk'⟩:=e
 unfold ig at q
 simp only[Ng.mk.injEq,and_true]at q
 obtain⟨rfl,rfl,rfl,rfl,rfl,rfl,rfl⟩:=q
 exact⟨r.ks,r.v,r.m,r.c,r.inn⟩
theorem gf.few {len:Nat} {d:Ng} (h:gf len d):d.args.length≤3:=by
 rcases h.ks with q | q | q
 ·rw[(h.v q).2.2.2];simp
 ·rw[(h.m q).2.2];simp
 ·exact(h.c q).2.2
theorem gf.lab {len:Nat} {d:Ng} (h:gf len d):eQ d=none↔d.k=1:=by
 unfold eQ
 rcases h.ks with q | q | q
 ·simp[q]
 ·rw[q];simp
 ·rw[q];simp
theorem toList_inj {a b:ByteArray} (h:a.toList=b.toList):a=b:=by
 obtain⟨a⟩:=a
 obtain⟨b⟩:=b
 rw[ByteArray.toList_mk,ByteArray.toList_mk]at h
 have:a=b:=by
  apply Array.toList_inj.1 h
 rw[this]
theorem tZ {len:Nat} {d e:Ng} (h:gf len d) (k:gf len e) (h1:d.k≠1) (k1:e.k≠1):(eQ d=eQ e∧d.args.length=e.args.length)↔(d.k=e.k∧d.val=e.val∧d.tx=e.tx∧d.cnt=e.cnt):=by
 unfold eQ
 rw[if_neg h1,if_neg k1]
 rcases h.ks with q | q | q
 ·exact absurd q h1
 ·obtain⟨a1,a2,a3⟩:=h.m q
  rw[if_pos q]
  rcases k.ks with r | r | r
  ·exact absurd r k1
  ·obtain⟨b1,b2,b3⟩:=k.m r
   rw[if_pos r,q,r,a1,a2,a3,b1,b2,b3]
   simp
  ·rw[if_neg (by omega),q,r];simp
 ·obtain⟨a1,a2,a3⟩:=h.c q
  rw[if_neg (by omega)]
  rcases k.ks with r | r | r
  ·exact absurd r k1
  ·rw[if_pos r,q,r];simp
  ·obtain⟨b1,b2,b3⟩:=k.c r
   rw[if_neg (by omega),q,r,a1,a2,b1,b2]
   simp only[Option.some.injEq,Prod.mk.injEq,true_and,and_true]
   exact⟨fun⟨x,y⟩=>⟨toList_inj x,y⟩,fun⟨x,y⟩=>⟨by rw[x],y⟩⟩
inductive Hop (D:List Ng):Nat→Nat→Nat→Prop
 | stop {n} (h:n<D.length) (e:D[n].nx=n):Hop D n n 0
 | go {n m k} (h:n<D.length) (e:D[n].nx≠n) (hs:Hop D D[n].nx m k):Hop D n m (k+1)
theorem Hop.lt {D:List Ng} {n m k:Nat} (h:Hop D n m k):n<D.length∧m<D.length:=by
 induction h with
 | stop h _=>exact⟨h,h⟩
 | go h _ _ ih=>exact⟨h,ih.2⟩
theorem Hop.end {D:List Ng} {n m k:Nat} (h:Hop D n m k):∃q:m<D.length,D[m].nx=m:=by
 induction h with
 | stop h e=>exact⟨h,e⟩
 | go _ _ _ ih=>exact ih
theorem Hop.one {D:List Ng} {n m k:Nat} (h:Hop D n m k):∀{m' k':Nat},Hop D n m' k'→m=m':=by
 induction h with
 | stop h e=>
  intro m' k' h'
  cases h' with
  | stop _ _=>rfl
  | go _ e' _=>exact absurd e e'
 | go h e hs ih=>
  intro m' k' h'
  cases h' with
  | stop _ e'=>exact absurd e' e
  | go _ _ hs'=>exact ih hs'
structure bR (D:List Ng) (fr:Nat→Nat):Prop where
 nd:∀n (h:n<D.length),gf D.length D[n]
 hop:∀n,n<D.length→∃k,Hop D n (fr n) k
 out:∀n,D.length≤n→fr n=n
theorem bR.lt {D:List Ng} {fr:Nat→Nat} (h:bR D fr) {n:Nat} (hn:n<D.length):fr n<D.length:=by
 obtain⟨k,hk⟩:=h.hop n hn
 exact hk.lt.2
theorem bR.idem {D:List Ng} {fr:Nat→Nat} (h:bR D fr) (n:Nat):fr (fr n)=fr n:=by
 by_cases hn:n<D.length
 ·obtain⟨k,hk⟩:=h.hop n hn
  obtain⟨q,e⟩:=hk.end
  obtain⟨k',hk'⟩:=h.hop (fr n) q
  exact hk'.one (.stop q e)
 ·rw[h.out n (by omega),h.out n (by omega)]
theorem bR.self {D:List Ng} {fr:Nat→Nat} (h:bR D fr) {n:Nat} (hn:n<D.length):fr n=n↔D[n].nx=n:=by
 obtain⟨k,hk⟩:=h.hop n hn
 constructor
 ·intro e
  rw[e]at hk
  exact hk.end.2
 ·intro e
  exact hk.one (.stop hn e)
def dE (D:List Ng) (a b:Nat):List Ng:=if h:a<D.length then D.set a {D[a]with nx:=b}else D
theorem nY (D:List Ng) (a b:Nat):cI D (dE D a b):=by
 unfold dE
 split
 ·rename_i h;exact cI.set h rfl
 ·rfl
theorem mG {D:List Ng} {a b n:Nat} (hn:n<D.length) (h:n<(dE D a b).length):(dE D a b)[n].nx=if n=a then b else D[n].nx:=by
 unfold dE at h⊢
 split
 ·rename_i ha
  rw[List.getElem_set]
  by_cases e:a=n
  ·subst e;simp
  ·rw[if_neg e,if_neg (Ne.symm e)]
 ·rename_i ha
  rw[if_neg (by omega)]
theorem bR.link {D:List Ng} {fr:Nat→Nat} (h:bR D fr) {a b:Nat} (ha:a<D.length) (hb:b<D.length) (MC:fr a=a) (Pv:fr b=b) (hab:a≠b):bR (dE D a b) (Za.bE fr a b):=by
 have hs:=nY D a b
 have hl:=hs.len
 refine⟨fun n hn=> ?_,fun n hn=> ?_,fun n hn=> ?_⟩
 ·rw[hl]
  have h0:=h.nd n (by omega)
  have e:=hs.at (by omega:n<D.length) hn
  exact h0.same e
 ·rw[hl]at hn
  obtain⟨k,hk⟩:=h.hop n hn
  have stopb:Hop (dE D a b) b b 0:=by
   have q:b<(dE D a b).length:=by omega
   exact .stop q (by rw[mG hb q,if_neg (Ne.symm hab)];exact(h.self hb).1 Pv)
  have key:∀{n m k},Hop D n m k→Hop (dE D a b) n (if m=a then b else m) (if m=a then k+1 else k):=by
   intro n m k hk
   induction hk with
   | @stop n hn e=>
    have q:n<(dE D a b).length:=by omega
    by_cases ea:n=a
    ·rw[if_pos ea,if_pos ea]
     refine .go q ?_ ?_
     ·rw[mG hn q,if_pos ea,ea];exact Ne.symm hab
     ·rw[mG hn q,if_pos ea];exact stopb
    ·rw[if_neg ea,if_neg ea]
     exact .stop q (by rw[mG hn q,if_neg ea];exact e)
   | @go n m k hn e hs ih=>
    have q:n<(dE D a b).length:=by omega
    have ea:n≠a:=fun r=>e (by subst r;exact(h.self hn).1 MC)
    have:Hop (dE D a b) n (if m=a then b else m) ((if m=a then k+1 else k)+1):=by
     refine .go q ?_ ?_
     ·rw[mG hn q,if_neg ea];exact e
     ·rw[mG hn q,if_neg ea];exact ih
    by_cases em:m=a
    ·rw[if_pos em]at this⊢;rw[if_pos em]at this⊢;exact this
    ·rw[if_neg em]at this⊢;rw[if_neg em]at this⊢;exact this
  have:=key hk
  by_cases e:fr n=a
  ·rw[if_pos e,if_pos e]at this
   exact⟨_,by unfold Za.bE;rw[if_pos e];exact this⟩
  ·rw[if_neg e,if_neg e]at this
   exact⟨_,by unfold Za.bE;rw[if_neg e];exact this⟩
 ·rw[hl]at hn
  unfold Za.bE
  rw[h.out n hn,if_neg (by omega)]
theorem Hop.parts {D:List Ng} {n m k:Nat} (h:Hop D n m k) (hn:n<D.length):(m=n∧D[n].nx=n)∨∃p j,D[n].nx=p∧p≠n∧k=j+1∧Hop D p m j:=by
 cases h with
 | stop _ e=>exact Or.inl ⟨rfl,e⟩
 | go _ e hs=>exact Or.inr ⟨_,_,rfl,e,rfl,hs⟩
def rowOf (o:Option Addr) (k:Nat):Prop:=∃p,o=some p∧k=p.block
structure bt (w:World) (sb so:Nat) (cs:Array Value) (T:TypeId) (D:List Ng) (no:Option Addr) (nc:Nat):Prop where
 blk:w.heap[sb]?=some (.cells cs T (0,0))
 cel:cs[so]?=some (.slice no D.length nc)
 own:w.ownsRow 0 180 7 (.slice no D.length nc) D.length (jS D)
 ty:T≠180
def aW (w:World) (D:List Ng) (P:Nat→Prop):Prop:=∀d∈D,d.args≠[]→∃(g:Nat) (cs:Array Value),d.ao=some ⟨g,0,none⟩∧P g∧w.heap[g]?=some (.cells cs 3 (0,0))∧cs.toList.take d.args.length=d.args.map aI
theorem aW.keep {w w':World} {D:List Ng} {P Q:Nat→Prop} (h:aW w D P) (hk:∀g cs,P g→w.heap[g]?=some (.cells cs 3 (0,0))→w'.heap[g]?=some (.cells cs 3 (0,0))∧Q g):aW w' D Q:=fun d hd q=>by
 obtain⟨g,cs,h1,h2,h3,h4⟩:=h d hd q
 obtain⟨r1,r2⟩:=hk g cs h2 h3
 exact⟨g,cs,h1,r2,r1,h4⟩
theorem aW.below {w w':World} {D:List Ng} {P:Nat→Prop} (h:aW w D P) (hb:Below w.heap.size w w'):aW w' D P:=h.keep fun g _ hp hg=>⟨(hb.block g (af hg)).trans hg,hp⟩
theorem aW.same {w:World} {D D':List Ng} {P:Nat→Prop} (h:aW w D P) (hs:cI D D'):aW w D' P:=fun d hd q=>by
 obtain⟨i,hi,rfl⟩:=List.getElem_of_mem hd
 have hl:=hs.len
 have e:=hs.at (show i<D.length by omega) hi
 have h0:=h D[i] (List.getElem_mem _)
 generalize D[i]=a at*
 generalize D'[i]=b at*
 obtain⟨k,val,tx,cnt,ao,cap,args,nx,mrk⟩:=a
 obtain⟨k',val',tx',cnt',ao',cap',args',nx',mrk'⟩:=b
 unfold ig at e
 simp only[Ng.mk.injEq,and_true]at e
 obtain⟨rfl,rfl,rfl,rfl,rfl,rfl,rfl⟩:=e
 exact h0 q
theorem bt.below {w w':World} {sb so:Nat} {cs:Array Value} {T:TypeId} {D:List Ng} {no:Option Addr} {nc:Nat} (h:bt w sb so cs T D no nc) (hb:Below w.heap.size w w'):bt w' sb so cs T D no nc:=
 ⟨(hb.block sb (af h.blk)).trans h.blk,h.cel,ah h.own (fun g q=>hb.block g (h.own.lt g q).2),h.ty⟩
theorem bt.at {w:World} {sb so:Nat} {cs:Array Value} {T:TypeId} {D:List Ng} {no:Option Addr} {nc:Nat} (h:bt w sb so cs T D no nc) {n:Nat} (hn:n<D.length):∃g,no=some ⟨g,0,none⟩∧g<w.heap.size∧g≠sb∧(∀j,j<7→w.cell? ⟨g,n*7+j,none⟩=(nN D[n])[j]?)∧∀j,w.frozen? ⟨g,j,none⟩=false:=by
 rcases h.own.2 with⟨_,q⟩ | ⟨g,cap,cur,q1,_,q3,_⟩
 ·omega
 ·simp only[Value.slice.injEq]at q1
  obtain⟨rfl,_,_⟩:=q1
  refine⟨g,rfl,af q3,fun e=> ?_,fun j hj=> ?_,fun j=>h.own.frozenAt j⟩
  ·subst e
   have:=h.blk
   rw[q3]at this
   simp only[Option.some.injEq,Obj.cells.injEq]at this
   exact h.ty this.2.1.symm
  ·rw[h.own.cellAt (n*7+j) (by omega)]
   exact Oe hn j hj
theorem bt.cell {w:World} {sb so:Nat} {cs:Array Value} {T:TypeId} {D:List Ng} {no:Option Addr} {nc:Nat} (h:bt w sb so cs T D no nc):w.cell? ⟨sb,so,none⟩=some (.slice no D.length nc):=(ag h.blk so).trans h.cel
theorem bt.apart {w:World} {sb so:Nat} {cs:Array Value} {T:TypeId} {D:List Ng} {no:Option Addr} {nc:Nat} (h:bt w sb so cs T D no nc) {g:Nat} {xs:Array Value} {S:TypeId} (hg:w.heap[g]?=some (.cells xs S (0,0))) (hS:S≠180):¬rowOf no g:=by
 rintro⟨p,rfl,rfl⟩
 rcases h.own.2 with⟨c,_⟩ | ⟨g,cp,cur,c,_,hc,_⟩
 ·cases c
 ·simp only[Value.slice.injEq,Option.some.injEq]at c
  obtain⟨rfl,_⟩:=c
  rw[hc]at hg
  simp only[Option.some.injEq,Obj.cells.injEq]at hg
  exact hS hg.2.1.symm
theorem aW.lI {w w':World} {sb so:Nat} {cs:Array Value} {T:TypeId} {D E:List Ng} {no:Option Addr} {nc:Nat} {P:Nat→Prop} (h:aW w D P) (hs:bt w sb so cs T E no nc) (hf:aj (rowOf no) (rowOf no) w w'):aW w' D P:=
 h.keep fun g _ hp hg=>⟨(hf.block g (af hg) (hs.apart hg (by decide))).trans hg,hp⟩
theorem ud (w:World) (sb so:Nat) (cs:Array Value) (T:TypeId) (D:List Ng) (no:Option Addr) (nc:Nat) (n:Nat) (h:bt w sb so cs T D no nc) (hn:n<D.length):
 Calls Tryz.prog 159 #[.pointer (some ⟨sb,so,none⟩),.int .i64 (n:Int)] w fun e w'=>e= .returned (.bool true)∧w'=w:=by
 have s0:=h.cell
 have sz:=af h.blk
 have t1:decide ((0:Int)≤(n:Int))=true:=by simp
 have t2:decide ((n:Int)<(D.length:Int))=true:=by simp;omega
 clear h
 go_enter Tryz.func159,Tryz.ntmps159
 go_wp2_with fail
 go_ret
 exact⟨rfl,rfl⟩
theorem dJ (w:World) (sb so:Nat) (cs:Array Value) (T:TypeId) (D:List Ng) (no:Option Addr) (nc:Nat) (n m k:Nat) (h:bt w sb so cs T D no nc) (hn:Hop D n m k):
 Calls Tryz.prog 100 #[.pointer (some ⟨sb,so,none⟩),.int .i64 (n:Int)] w fun e w'=>e= .returned (aI m)∧w'=w:=by
 have H:=hide h
 have s0:=h.cell
 have sz:=af h.blk
 have HN:=hide hn
 clear h hn
 go_enter Tryz.func100,Tryz.ntmps100
 go_wp2_with fail
 go_loopg [5] k (fun j fv wr=>∃i:Nat,fv=aI i∧Hop D i m j∧wr=w)
 case atStart=>exact⟨n,rfl,ae HN,rfl⟩
 case round=>
  obtain⟨i,rfl,hop,rfl⟩:=hrel
  have hi:=hop.lt.1
  have HH:=hide (ud wr sb so cs T D no nc i (ae H) hi)
  obtain⟨g,rfl,gz,gne,hc,-⟩:=(ae H).at hi
  have f5:=hc 5 (by omega)
  simp only[nN,List.getElem?_cons_zero,List.getElem?_cons_succ]at f5
  have i0:(0:Int)≤(i:Int):=by omega
  have i1:(i:Int)<(D.length:Int):=by omega
  clear hc
  unfold aI
  rcases hop.parts hi with⟨rfl,e⟩ | ⟨p,j',e,hne,hk,hs⟩
  ·rw[e]at f5
   clear e hop
   go_wp2_with fail
   refine(ae HH).mono ?_
   rintro e w2 ⟨rfl,rfl⟩
   go_wp2_with fail
   go_ret
   exact⟨rfl,rfl⟩
  ·rw[e]at f5
   have HS:=hide hs
   have HK:=hide hk
   have t5:((p:Int) != (i:Int))=true:=by simp;omega
   clear hs hk e hop
   go_wp2_with fail
   refine(ae HH).mono ?_
   rintro e w2 ⟨rfl,rfl⟩
   go_wp2_with fail
   go_roundg (gk - 1)
   case measure=>have:=ae HK;omega
   case rel=>exact⟨p,rfl,by have:=ae HK;rw[show gk - 1=j' by omega];exact ae HS,rfl⟩
theorem eo (w:World) (sb so:Nat) (cs:Array Value) (T:TypeId) (D:List Ng) (no:Option Addr) (nc:Nat) (n m k:Nat) (d:Ng) (h:bt w sb so cs T D no nc) (hn:Hop D n m k) (hd:D[m]?=some d):
 Calls Tryz.prog 99 #[.pointer (some ⟨sb,so,none⟩),.int .i64 (n:Int)] w fun e w'=>e= .returned (.agg #[.int .i64 d.k,.int .i64 d.val,.string d.tx,.int .i64 (d.cnt:Int)])∧Below w.heap.size w w':=by
 have hm:=hn.lt.2
 have hW:=h.below ((Below.refl w.heap.size w).alloc (Nat.le_refl _) (.cells #[.int .i64 0,.int .i64 0,.string ⟨#[]⟩,.int .i64 0] 177))
 have HH:=hide (ud (w.alloc (.cells #[.int .i64 0,.int .i64 0,.string ⟨#[]⟩,.int .i64 0] 177)) sb so cs T D no nc m hW hm)
 have HF:=hide (dJ (w.alloc (.cells #[.int .i64 0,.int .i64 0,.string ⟨#[]⟩,.int .i64 0] 177)) sb so cs T D no nc n m k hW hn)
 obtain⟨g,rfl,gz,gne,hc,-⟩:=h.at hm
 have s0:=h.cell
 have sz:=af h.blk
 have f0:=hc 0 (by omega)
 have f1:=hc 1 (by omega)
 have f2:=hc 2 (by omega)
 have f3:=hc 3 (by omega)
 rw[List.getElem?_eq_getElem hm]at hd
 obtain rfl:=Option.some.inj hd
 simp only[nN,List.getElem?_cons_zero,List.getElem?_cons_succ,Nat.add_zero]at f0 f1 f2 f3
 have i0:(0:Int)≤(m:Int):=by omega
 have i1:(m:Int)<(D.length:Int):=by omega
 have jq:=hide hn
 clear h hc hW hn hd
 generalize D[m]=d at*
 go_enter Tryz.func99,Tryz.ntmps99
 go_wp2_with fail
 refine(ae HF).mono ?_
 rintro e w2 ⟨rfl,rfl⟩
 unfold aI
 go_wp2_with fail
 refine(ae HH).mono ?_
 rintro e w2 ⟨rfl,rfl⟩
 go_wp2_with fail
 refine bodyPost_ret (v:= .agg #[.int .i64 d.k,.int .i64 d.val,.string d.tx,.int .i64 (d.cnt:Int)]) (by simp[results,Tryz.results99,go_sem]) rfl ?_
 exact⟨rfl,(Below.refl _ _).alloc (Nat.le_refl _) _⟩
theorem lJ (w:World) (sb so:Nat) (cs:Array Value) (T:TypeId) (D:List Ng) (no:Option Addr) (nc:Nat) (n m k:Nat) (d:Ng) (h:bt w sb so cs T D no nc) (hn:Hop D n m k) (hd:D[m]?=some d):
 Calls Tryz.prog 98 #[.pointer (some ⟨sb,so,none⟩),.int .i64 (n:Int)] w fun e w'=>e= .returned (.slice d.ao d.args.length d.cap)∧w'=w:=by
 have hm:=hn.lt.2
 have HH:=hide (ud w sb so cs T D no nc m h hm)
 have HF:=hide (dJ w sb so cs T D no nc n m k h hn)
 obtain⟨g,rfl,gz,gne,hc,-⟩:=h.at hm
 have s0:=h.cell
 have sz:=af h.blk
 have f4:=hc 4 (by omega)
 rw[List.getElem?_eq_getElem hm]at hd
 obtain rfl:=Option.some.inj hd
 simp only[nN,List.getElem?_cons_zero,List.getElem?_cons_succ]at f4
 have i0:(0:Int)≤(m:Int):=by omega
 have i1:(m:Int)<(D.length:Int):=by omega
 have jq:=hide hn
 clear h hc hn hd
 generalize D[m]=d at*
 go_enter Tryz.func98,Tryz.ntmps98
 go_wp2_with fail
 refine(ae HF).mono ?_
 rintro e w2 ⟨rfl,rfl⟩
 unfold aI
 go_wp2_with fail
 refine(ae HH).mono ?_
 rintro e w2 ⟨rfl,rfl⟩
 go_wp2_with fail
 go_ret
 exact⟨rfl,rfl⟩
theorem bt.link {w:World} {sb so:Nat} {cs:Array Value} {T:TypeId} {D:List Ng} {g:Nat} {nc:Nat} (h:bt w sb so cs T D (some ⟨g,0,none⟩) nc) {a b:Nat} (ha:a<D.length):bt (w.setCell ⟨g,a*7+5,none⟩ (.int .i64 (b:Int))) sb so cs T (dE D a b) (some ⟨g,0,none⟩) nc∧aj (rowOf (some ⟨g,0,none⟩)) (rowOf (some ⟨g,0,none⟩)) w (w.setCell ⟨g,a*7+5,none⟩ (.int .i64 (b:Int))):=by
 obtain⟨h1,h2⟩:=h.own.stored (a*7+5) (.int .i64 (b:Int))
 have hl:=(nY D a b).len
 obtain⟨g',e,gz,gne,-⟩:=h.at ha
 cases e
 refine⟨⟨?_,by rw[hl];exact h.cel,?_,h.ty⟩,⟨h2.os,h2.tape,h2.output,h2.size,fun k hk hr=>h2.block k hk (fun e=>hr ⟨⟨g,0,none⟩,rfl,by simpa using e⟩),fun _ q=>Or.inl q⟩⟩
 ·exact(h2.block sb (af h.blk) (by simpa using Ne.symm gne)).trans h.blk
 ·rw[hl]
  have:jS (dE D a b)=(jS D).set (a*7+5) (.int .i64 (b:Int)):=by
   unfold dE
   rw[dif_pos ha]
   exact A8 D a 5 ha (by omega) _ _ rfl
  rw[this]
  exact h1
theorem sB (w:World) (sb so:Nat) (cs:Array Value) (T:TypeId) (D:List Ng) (no:Option Addr) (nc:Nat) (a b:Nat) (h:bt w sb so cs T D no nc) (ha:a<D.length):
 Calls Tryz.prog 156 #[.pointer (some ⟨sb,so,none⟩),.int .i64 (a:Int),.int .i64 (b:Int)] w fun e w'=>e= .returned (.tuple #[])∧bt w' sb so cs T (dE D a b) no nc∧aj (rowOf no) (rowOf no) w w':=by
 have HH:=hide (ud w sb so cs T D no nc a h ha)
 obtain⟨g,rfl,gz,gne,hc,hx⟩:=h.at ha
 have s0:=h.cell
 have sz:=af h.blk
 have x5:=hx (a*7+5)
 have i0:(0:Int)≤(a:Int):=by omega
 have i1:(a:Int)<(D.length:Int):=by omega
 have f5:=hc 5 (by omega)
 simp only[nN,List.getElem?_cons_zero,List.getElem?_cons_succ]at f5
 have HR:=hide (h.link (b:=b) ha)
 clear h hc hx
 go_enter Tryz.func156,Tryz.ntmps156
 go_wp2_with fail
 refine(ae HH).mono ?_
 rintro e w2 ⟨rfl,rfl⟩
 go_wp2_with fail
 go_end0
 exact⟨rfl,ae HR⟩
theorem Dp (w:World) (sb so:Nat) (cs:Array Value) (T:TypeId) (D:List Ng) (no:Option Addr) (nc:Nat) (a b lo hi:Nat) (h:bt w sb so cs T D no nc) (ha:a<D.length) (hb:b<D.length) (hl:(a<b∧lo=a∧hi=b)∨(b<a∧lo=b∧hi=a)):
 Calls Tryz.prog 155 #[.pointer (some ⟨sb,so,none⟩),.int .i64 (a:Int),.int .i64 (b:Int)] w fun e w'=>e= .returned (.tuple #[])∧bt w' sb so cs T (dE D hi lo) no nc∧aj (rowOf no) (rowOf no) w w':=by
 rcases hl with⟨h1,rfl,rfl⟩ | ⟨h1,rfl,rfl⟩
 ·have HH:=hide (sB w sb so cs T D no nc hi lo h hb)
  have t1:decide ((lo:Int)<(hi:Int))=true:=by simpa using h1
  clear h
  go_enter Tryz.func155,Tryz.ntmps155
  go_wp2_with fail
  refine(ae HH).mono ?_
  rintro e w2 ⟨rfl,hr⟩
  have HR:=hide hr
  clear hr
  go_wp2_with fail
  (try simp only[Exit.inBlock,Exit.then]);refine bodyPost_ret (results_none rfl _ _ _) rfl ?_
  exact⟨rfl,ae HR⟩
 ·have HH:=hide (sB w sb so cs T D no nc hi lo h ha)
  have t1:decide ((hi:Int)<(lo:Int))=false:=by simp;omega
  clear h
  go_enter Tryz.func155,Tryz.ntmps155
  go_wp2_with fail
  refine(ae HH).mono ?_
  rintro e w2 ⟨rfl,hr⟩
  have HR:=hide hr
  clear hr
  go_wp2_with fail
  go_end0
  exact⟨rfl,ae HR⟩
end Go.Proofs.YthfjnfcekeknlaaGreatDoor
namespace Za
def km (L:Nat) (fr:Nat→Nat):Nat:=(List.range L).countP fun n=>fr n == n
theorem A9 {p q:Nat→Bool}:∀{l:List Nat} {x:Nat},(∀n,q n=true→p n=true)→x∈l→p x=true→q x=false→l.countP q+1≤l.countP p
 | y :: l,x,h,hx,h1,h2=>by
  rw[List.countP_cons,List.countP_cons]
  rcases List.mem_cons.1 hx with rfl | hx
  ·rw[h1,h2]
   have:l.countP q≤l.countP p:=List.countP_mono_left fun n _ r=>h n r
   simp
   omega
  ·have:=A9 h hx h1 h2
   by_cases r:q y=true
   ·rw[r,h y r];simp;omega
   ·rw[Bool.not_eq_true]at r
    rw[r]
    simp
    omega
theorem xW {L:Nat} {fr:Nat→Nat} {a b:Nat} (ha:a<L) (MC:fr a=a) (Pv:fr b=b) (hab:a≠b):km L (bE fr a b)+1≤km L fr:=by
 refine A9 (x:=a) (fun n h=> ?_) (by simpa using ha) (by simpa using MC) ?_
 ·rw[beq_iff_eq]at h⊢
  unfold bE at h
  split at h
  ·rename_i q;subst h;rw[Pv]at q;exact absurd q.symm hab
  ·exact h
 ·rw[beq_eq_false_iff_ne]
  unfold bE
  rw[if_pos MC]
  exact Ne.symm hab
end Za
namespace Go.Proofs.YthfjnfcekeknlaaGreatDoor
open Go.RowKit
def oO (w:World) (ao:Option Addr) (xs:List Nat):Prop:=xs≠[]→∃(g:Nat) (cs:Array Value),ao=some ⟨g,0,none⟩∧w.heap[g]?=some (.cells cs 3 (0,0))∧cs.toList.take xs.length=xs.map aI
theorem oO.at {w:World} {ao:Option Addr} {xs:List Nat} (h:oO w ao xs) {j:Nat} (hj:j<xs.length):∃g,ao=some ⟨g,0,none⟩∧g<w.heap.size∧w.cell? ⟨g,j,none⟩=some (.int .i64 (xs[j]:Int)):=by
 obtain⟨g,cs,h1,h2,h3⟩:=h (fun q=>by rw[q]at hj;simp at hj)
 refine⟨g,h1,af h2,?_⟩
 rw[ag h2,←Array.getElem?_toList,←List.getElem?_take_of_lt (l:=cs.toList) hj,h3,List.getElem?_map,List.getElem?_eq_getElem hj]
 rfl
theorem oO.lI {w w':World} {sb so:Nat} {cs:Array Value} {T:TypeId} {E:List Ng} {no:Option Addr} {nc:Nat} {ao:Option Addr} {xs:List Nat} (h:oO w ao xs) (hs:bt w sb so cs T E no nc) (hf:aj (rowOf no) (rowOf no) w w'):oO w' ao xs:=fun q=>by
 obtain⟨g,ds,h1,h2,h3⟩:=h q
 exact⟨g,ds,h1,(hf.block g (af h2) (hs.apart h2 (by decide))).trans h2,h3⟩
theorem aW.row {w:World} {D:List Ng} {P:Nat→Prop} (h:aW w D P) {d:Ng} (hd:d∈D):oO w d.ao d.args:=fun q=>by
 obtain⟨g,cs,h1,_,h3,h4⟩:=h d hd q
 exact⟨g,cs,h1,h3,h4⟩
def uK (sb so:Nat) (cs:Array Value) (T:TypeId) (D:List Ng) (no:Option Addr) (nc:Nat) (J:Bool→(Nat→Nat)→Prop) (c:Nat) (w:World) (e:Ending) (w':World):Prop:=
 ∃(r:Bool) (D':List Ng) (fr':Nat→Nat),e= .returned (.bool r)∧bt w' sb so cs T D' no nc∧cI D D'∧(r=true→bR D' fr'∧Za.km D.length fr'≤c)∧J r fr'∧aj (rowOf no) (rowOf no) w w'
def Ba (c:Nat):Prop:=∀(w:World) (sb so:Nat) (cs:Array Value) (T:TypeId) (D:List Ng) (no:Option Addr) (nc:Nat) (P:Nat→Prop) (fr:Nat→Nat) (a b:Nat),bt w sb so cs T D no nc→bR D fr→aW w D P→Za.km D.length fr≤c→a<D.length→b<D.length→
 Calls Tryz.prog 96 #[.pointer (some ⟨sb,so,none⟩),.int .i64 (a:Int),.int .i64 (b:Int)] w fun e w'=>uK sb so cs T D no nc (fun r fr'=>Za.cE (aV D) fr a b r fr') (Za.km D.length fr) w e w'
def TB (w:World) (sb so:Nat) (cs:Array Value) (T:TypeId) (D:List Ng) (no:Option Addr) (nc:Nat) (P:Nat→Prop) (fr:Nat→Nat) (xs ys:List Nat) (k:Nat) (iv:Value) (wr:World):Prop:=
 ∃(j:Nat) (D1:List Ng) (fr1:Nat→Nat),k+j=xs.length∧iv= .int .i64 (j:Int)∧bt wr sb so cs T D1 no nc∧cI D D1∧bR D1 fr1∧aW wr D1 P∧Za.km D.length fr1≤Za.km D.length fr∧
  (∀r fr',Za.iP (aV D) fr1 (xs.drop j) (ys.drop j) r fr'→Za.iP (aV D) fr xs ys r fr')∧aj (rowOf no) (rowOf no) w wr
theorem Og {c:Nat} (IH:Ba c) (w:World) (sb so:Nat) (cs:Array Value) (T:TypeId) (D:List Ng) (no:Option Addr) (nc:Nat) (P:Nat→Prop) (fr:Nat→Nat) (xs ys:List Nat) (xo yo:Option Addr) (xc yc:Nat)
 (h:bt w sb so cs T D no nc) (hok:bR D fr) (ha:aW w D P) (hc:Za.km D.length fr≤c) (hx:oO w xo xs) (hy:oO w yo ys) (hxl:∀x∈xs,x<D.length) (MD:∀y∈ys,y<D.length) (hl:xs.length=ys.length) (h3:xs.length≤3):
 Calls Tryz.prog 157 #[.pointer (some ⟨sb,so,none⟩),.slice xo xs.length xc,.slice yo ys.length yc] w fun e w'=>uK sb so cs T D no nc (fun r fr'=>Za.iP (aV D) fr xs ys r fr') (Za.km D.length fr) w e w':=by
 have HST:=hide (show TB w sb so cs T D no nc P fr xs ys xs.length (.int .i64 0) w from ⟨0,D,fr,by omega,rfl,h,cI.refl D,hok,ha,Nat.le_refl _,(fun r fr' q=>by simpa using q),aj.of_below (Below.refl _ _)⟩)
 have I:=hide IH
 have HX:=hide hx
 have HY:=hide hy
 have wT:=hide hxl
 have Wp:=hide MD
 have HC:=hide hc
 have ft:=hide h
 rw[←hl]
 have HL:=hide hl
 clear h hok ha hx hy hxl MD hc IH hl
 go_enter Tryz.func157,Tryz.ntmps157
 go_wp2_with fail
 go_loopg [7] xs.length (fun k iv wr=>TB w sb so cs T D no nc P fr xs ys k iv wr)
 case atStart=>exact ae HST
 case round=>
  clear HST
  obtain⟨j,D1,fr1,hkj,rfl,hst,hsm,hok,ha,hn,nZ,cL⟩:=hrel
  by_cases hlt:j<xs.length
  ·have hlt':j<ys.length:=by have:=ae HL;omega
   obtain⟨gx,ex,zx,cx⟩:=((ae HX).lI (ae ft) cL).at hlt
   obtain⟨gy,ey,zy,cy⟩:=((ae HY).lI (ae ft) cL).at hlt'
   subst ex ey
   have jr:=hsm.len
   have IC:=hide (ae I wr.drew sb so cs T D1 no nc P fr1 xs[j] ys[j] (hst.below (Below.refl _ _).drew) hok (ha.below (Below.refl _ _).drew) (by rw[jr];have:=ae HC;omega) (by rw[jr];exact ae wT _ (List.getElem_mem hlt)) (by rw[jr];exact ae Wp _ (List.getElem_mem hlt')))
   have uL:=hide (show xs.drop j=xs[j] :: xs.drop (j+1)from List.drop_eq_getElem_cons hlt)
   have TC:=hide (show ys.drop j=ys[j] :: ys.drop (j+1)from List.drop_eq_getElem_cons hlt')
   have DR:=hide (show∀w',aj (rowOf no) (rowOf no) w w'→w'.cell? ⟨gx,j,none⟩=some (.int .i64 (xs[j]:Int))∧w'.cell? ⟨gy,j,none⟩=some (.int .i64 (ys[j]:Int))from fun w' hf=>by
    obtain⟨g1,e1,_,c1⟩:=((ae HX).lI (ae ft) hf).at hlt
    obtain⟨g2,e2,_,c2⟩:=((ae HY).lI (ae ft) hf).at hlt'
    cases e1
    cases e2
    exact⟨c1,c2⟩)
   have iU:=hide cL
   have iV:=hide hsm
   have Bb:=hide hst
   have nP:=hide ha
   have HN:=hide hn
   have DT:=hide nZ
   have aP:=hide hkj
   have aY:=hide hlt
   have G5:=hide hsm.g
   have G6:=hide jr
   generalize xs[j]=na at*
   generalize ys[j]=nb at*
   have i0:(0:Int)≤(j:Int):=by omega
   have i1:(j:Int)<(xs.length:Int):=by omega
   clear hst hsm hok ha hn nZ cL hkj hlt hlt' jr
   go_wp2_with fail
   go_region_held3 (fun w'=>w'.cell? ⟨gx,j,none⟩=some (.int .i64 (na:Int))∧w'.cell? ⟨gy,j,none⟩=some (.int .i64 (nb:Int))) (go_keep) (first
    | (go_at_call 96;refine(ae IC).mono ?_;rintro e w8 ⟨r,D8,fr8,rfl,h8,s8,o8,j8,f8⟩;have nG:=hide ((ae iU).trans ((aj.of_below (Below.refl _ _).drew).trans f8));obtain⟨k0,k1⟩:=ae DR w8 (ae nG);have H8:=hide h8;have S8:=hide s8;have O8:=hide o8;have J8:=hide j8;have Pw:=hide (((ae nP).below (Below.refl _ _).drew).lI ((ae Bb).below (Below.refl _ _).drew) f8);clear h8 s8 o8 j8 f8))
   all_goals
    cases r
    ·go_wp2_with fail
     go_ret
     refine⟨false,D8,fr8,rfl,ae H8,(ae iV).trans (ae S8),fun q=>(by cases q),?_,ae nG⟩
     refine ae DT _ _ ?_
     rw[ae uL,ae TC]
     have:=ae J8
     rw[ae G5]at this
     exact .no this
    ·go_wp2_with fail
     go_roundg (gk - 1)
     case measure=>have:=ae aP;have:=ae aY;omega
     case rel=>
      obtain⟨o1,o2⟩:=ae O8 (by trivial)
      have jr:=ae G6
      rw[jr]at o2
      refine⟨j+1,D8,fr8,by have:=ae aP;have:=ae aY;omega,by go_num,ae H8,(ae iV).trans (ae S8),o1,(ae Pw).same (ae S8),by have:=ae HN;omega,fun r fr' q=> ?_,ae nG⟩
      refine ae DT _ _ ?_
      rw[ae uL,ae TC]
      have:=ae J8
      rw[ae G5]at this
      exact .cons this q
  ·obtain rfl:j=xs.length:=by omega
   have di:=hide (show uK sb so cs T D no nc (fun r fr'=>Za.iP (aV D) fr xs ys r fr') (Za.km D.length fr) w (.returned (.bool true)) wr from ⟨true,D1,fr1,rfl,hst,hsm,(fun _=>⟨hok,hn⟩),nZ _ _ (by rw[List.drop_length,List.drop_eq_nil_of_le (by have:=ae HL;omega)];exact .nil),cL⟩)
   clear hst hsm hok ha hn nZ cL hkj
   go_wp2_with fail
   go_ret
   exact ae di
theorem bR.qR {D:List Ng} {fr:Nat→Nat} (h:bR D fr) {n:Nat} (hn:n<D.length):∃k,Hop D (fr n) (fr n) k:=by
 have:=h.hop (fr n) (h.lt hn)
 rwa [h.idem]at this
theorem G7 {D:List Ng} {fr:Nat→Nat} (h:bR D fr) {n:Nat} (hn:n<D.length):∃d,D[fr n]?=some d∧gf D.length d∧Za.gl (aV D) (fr n)=eQ d∧Za.ga (aV D) (fr n)=d.args∧d∈D:=by
 have hl:=h.lt hn
 exact⟨D[fr n],List.getElem?_eq_getElem hl,h.nd _ hl,lH hl,jC hl,List.getElem_mem hl⟩
theorem yY (w:World) (sb so:Nat) (cs:Array Value) (T:TypeId) (D:List Ng) (no:Option Addr) (nc:Nat) (fr:Nat→Nat) (a b:Nat) (h:bt w sb so cs T D no nc) (hok:bR D fr) (ha:a<D.length) (hb:b<D.length) (he:fr a=fr b):
 Calls Tryz.prog 96 #[.pointer (some ⟨sb,so,none⟩),.int .i64 (a:Int),.int .i64 (b:Int)] w fun e w'=>uK sb so cs T D no nc (fun r fr'=>Za.cE (aV D) fr a b r fr') (Za.km D.length fr) w e w':=by
 obtain⟨ka,hka⟩:=hok.hop a ha
 obtain⟨kb,hkb⟩:=hok.hop b hb
 rw[←he]at hkb
 have FA:=hide (dJ w sb so cs T D no nc a (fr a) ka h hka)
 have FB:=hide (dJ w sb so cs T D no nc b (fr a) kb h hkb)
 have di:=hide (show uK sb so cs T D no nc (fun r fr'=>Za.cE (aV D) fr a b r fr') (Za.km D.length fr) w (.returned (.bool true)) w from ⟨true,D,fr,rfl,h,cI.refl D,fun _=>⟨hok,Nat.le_refl _⟩,.same he,aj.of_below (Below.refl _ _)⟩)
 clear h hok hka hkb he
 generalize fr a=p at*
 go_enter Tryz.func96,Tryz.ntmps96
 go_wp2_with fail
 refine(ae FA).mono ?_
 rintro e w2 ⟨rfl,rfl⟩
 unfold aI at FB⊢
 go_wp2_with fail
 refine(ae FB).mono ?_
 rintro e w2 ⟨rfl,rfl⟩
 go_wp2_with fail
 go_ret
 exact ae di
theorem G8 {c:Nat} (IH:Ba c) (w:World) (sb so:Nat) (cs:Array Value) (T:TypeId) (D:List Ng) (no:Option Addr) (nc:Nat) (P:Nat→Prop) (fr:Nat→Nat) (a b:Nat) (h:bt w sb so cs T D no nc) (hok:bR D fr) (har:aW w D P) (hc:Za.km D.length fr≤c+1) (ha:a<D.length) (hb:b<D.length) (he:fr a≠fr b):
 Calls Tryz.prog 96 #[.pointer (some ⟨sb,so,none⟩),.int .i64 (a:Int),.int .i64 (b:Int)] w fun e w'=>uK sb so cs T D no nc (fun r fr'=>Za.cE (aV D) fr a b r fr') (Za.km D.length fr) w e w':=by
 obtain⟨ka,hka⟩:=hok.hop a ha
 obtain⟨kb,hkb⟩:=hok.hop b hb
 obtain⟨ja,kY⟩:=hok.qR ha
 obtain⟨jb,hjb⟩:=hok.qR hb
 obtain⟨da,gL,oa,ga,aa,ma⟩:=G7 hok ha
 obtain⟨db,gM,ob,gb,ab,mb⟩:=G7 hok hb
 have la:=hok.lt ha
 have lb:=hok.lt hb
 have ia:=hok.idem a
 have ib:=hok.idem b
 have FA:=hide (dJ w sb so cs T D no nc a (fr a) ka h hka)
 have FB:=hide (dJ w sb so cs T D no nc b (fr b) kb h hkb)
 have LA:=hide (eo w sb so cs T D no nc (fr a) (fr a) ja da h kY gL)
 have LB:=hide (fun W (hb:Below w.heap.size w W)=>eo W sb so cs T D no nc (fr b) (fr b) jb db (h.below hb) hjb gM)
 have AA:=hide (fun W (hb:Below w.heap.size w W)=>lJ W sb so cs T D no nc (fr a) (fr a) ja da (h.below hb) kY gL)
 have AB:=hide (fun W (hb:Below w.heap.size w W)=>lJ W sb so cs T D no nc (fr b) (fr b) jb db (h.below hb) hjb gM)
 have link1:∀x y,(x=fr a∧y=fr b)∨(x=fr b∧y=fr a)→bR (dE D x y) (Za.bE fr x y)∧Za.km D.length (Za.bE fr x y)+1≤Za.km D.length fr:=fun x y q=>by
  rcases q with⟨rfl,rfl⟩ | ⟨rfl,rfl⟩
  ·exact⟨hok.link la lb ia ib he,Za.xW la ia ib he⟩
  ·exact⟨hok.link lb la ib ia (Ne.symm he),Za.xW lb ib ia (Ne.symm he)⟩
 have done:∀x y W W',((x=fr a∧y=fr b)∨(x=fr b∧y=fr a))→Below w.heap.size w W→bt W' sb so cs T (dE D x y) no nc→aj (rowOf no) (rowOf no) W W'→Za.cE (aV D) fr a b true (Za.bE fr x y)→uK sb so cs T D no nc (fun r fr'=>Za.cE (aV D) fr a b r fr') (Za.km D.length fr) w (.returned (.bool true)) W':=fun x y W W' q hW hS hF hJ=>
  ⟨true,dE D x y,Za.bE fr x y,rfl,hS,nY D x y,fun _=>⟨(link1 x y q).1,by have:=(link1 x y q).2;omega⟩,hJ,(aj.of_below hW).trans hF⟩
 have DONE:=hide done
 have HH:=hide h
 have t0:(((fr a:Nat):Int) == ((fr b:Nat):Int))=false:=by simp;omega
 by_cases k1:da.k=1
 ·by_cases k2:db.k=1
  ·
   obtain⟨lo,hi,G9⟩:∃lo hi,(fr a<fr b∧lo=fr a∧hi=fr b)∨(fr b<fr a∧lo=fr b∧hi=fr a):=by
    rcases Nat.lt_or_ge (fr a) (fr b)with q | q
    ·exact⟨_,_,Or.inl ⟨q,rfl,rfl⟩⟩
    ·exact⟨_,_,Or.inr ⟨by omega,rfl,rfl⟩⟩
   have LK:=hide (fun W (hb:Below w.heap.size w W)=>Dp W sb so cs T D no nc (fr a) (fr b) lo hi (h.below hb) la lb G9)
   have HJ:=hide (show Za.cE (aV D) fr a b true (Za.bE fr hi lo)from .vars he (by rw[ga];exact oa.lab.2 k1) (by rw[gb];exact ob.lab.2 k2) (by rcases G9 with⟨_,r,s⟩ | ⟨_,r,s⟩;exact Or.inl ⟨r,s⟩;exact Or.inr ⟨r,s⟩) (by rcases G9 with⟨q,r,s⟩ | ⟨q,r,s⟩<;>omega))
   have HQ:=hide (show (hi=fr a∧lo=fr b)∨(hi=fr b∧lo=fr a)by rcases G9 with⟨_,r,s⟩ | ⟨_,r,s⟩;exact Or.inr ⟨s,r⟩;exact Or.inl ⟨s,r⟩)
   obtain⟨k,val,tx,cnt,ao,cap,args,nx,mrk⟩:=da
   obtain⟨k',val',tx',cnt',ao',cap',args',nx',mrk'⟩:=db
   dsimp only at k1 k2 LA LB
   subst k1 k2
   clear h hok har hka hkb kY hjb gL gM oa ob ga gb aa ab ma mb la lb ia ib link1 done G9 he hc ha hb AA AB IH
   generalize fr a=p at*
   generalize fr b=q at*
   go_enter Tryz.func96,Tryz.ntmps96
   go_wp2_with fail
   refine(ae FA).mono ?_
   rintro e w2 ⟨rfl,rfl⟩
   unfold aI at FB⊢
   go_wp2_with fail
   refine(ae FB).mono ?_
   rintro e w2 ⟨rfl,rfl⟩
   go_wp2_with fail
   refine(ae LA).mono ?_
   rintro e w3 ⟨rfl,hb3⟩
   have bH:=hide (hb3.alloc hb3.size (.cells #[.int .i64 1,.int .i64 val,.string tx,.int .i64 (cnt:Int)] 177))
   have z3:=hb3.size
   clear hb3
   go_wp2_with fail
   refine(ae LB _ (ae bH)).mono ?_
   rintro e w4 ⟨rfl,hb4⟩
   have cR:=hide (((ae bH).trans (hb4.mono (by simp;omega))).alloc (by have:=hb4.size;simp at this;omega) (.cells #[.int .i64 1,.int .i64 val',.string tx',.int .i64 (cnt':Int)] 177))
   have f0:=(hb4.cell (p:=⟨w3.heap.size,0,none⟩) (by simp)).trans (ag (heap_alloc_new w3 _) 0)
   simp only[List.getElem?_toArray,List.getElem?_cons_zero]at f0
   have z4:w3.heap.size<w4.heap.size:=by have:=hb4.size;simp at this;omega
   clear hb4
   go_wp2_with fail
   refine(ae LK _ (ae cR)).mono ?_
   rintro e w5 ⟨rfl,hs5,sD⟩
   have di:=hide (ae DONE hi lo _ _ (ae HQ) (ae cR) hs5 sD (ae HJ))
   clear hs5 sD
   go_wp2_with fail
   go_ret
   exact ae di
  ·
   have LK:=hide (fun W (hb:Below w.heap.size w W)=>sB W sb so cs T D no nc (fr a) (fr b) (h.below hb) la)
   have HJ:=hide (show Za.cE (aV D) fr a b true (Za.bE fr (fr a) (fr b))from .left he (by rw[ga];exact oa.lab.2 k1) (by rw[gb];exact fun r=>k2 (ob.lab.1 r)))
   have DN:=hide (fun W W' (h1:Below w.heap.size w W) (h2:bt W' sb so cs T (dE D (fr a) (fr b)) no nc) (h3:aj (rowOf no) (rowOf no) W W')=>done (fr a) (fr b) W W' (Or.inl ⟨rfl,rfl⟩) h1 h2 h3 (ae HJ))
   have t2:(db.k == 1)=false:=by simpa using k2
   obtain⟨k,val,tx,cnt,ao,cap,args,nx,mrk⟩:=da
   obtain⟨k',val',tx',cnt',ao',cap',args',nx',mrk'⟩:=db
   dsimp only at k1 t2 LA LB
   subst k1
   clear h hok har hka hkb kY hjb gL gM oa ob ga gb aa ab ma mb la lb ia ib link1 done he hc ha hb AA AB IH k2 HJ DONE
   generalize fr a=p at*
   generalize fr b=q at*
   go_enter Tryz.func96,Tryz.ntmps96
   go_wp2_with fail
   refine(ae FA).mono ?_
   rintro e w2 ⟨rfl,rfl⟩
   unfold aI at FB⊢
   go_wp2_with fail
   refine(ae FB).mono ?_
   rintro e w2 ⟨rfl,rfl⟩
   go_wp2_with fail
   refine(ae LA).mono ?_
   rintro e w3 ⟨rfl,hb3⟩
   have bH:=hide (hb3.alloc hb3.size (.cells #[.int .i64 1,.int .i64 val,.string tx,.int .i64 (cnt:Int)] 177))
   have z3:=hb3.size
   clear hb3
   go_wp2_with fail
   refine(ae LB _ (ae bH)).mono ?_
   rintro e w4 ⟨rfl,hb4⟩
   have cR:=hide (((ae bH).trans (hb4.mono (by simp;omega))).alloc (by have:=hb4.size;simp at this;omega) (.cells #[.int .i64 k',.int .i64 val',.string tx',.int .i64 (cnt':Int)] 177))
   have f0:=(hb4.cell (p:=⟨w3.heap.size,0,none⟩) (by simp)).trans (ag (heap_alloc_new w3 _) 0)
   simp only[List.getElem?_toArray,List.getElem?_cons_zero]at f0
   have z4:w3.heap.size<w4.heap.size:=by have:=hb4.size;simp at this;omega
   clear hb4
   go_wp2_with fail
   refine(ae LK _ (ae cR)).mono ?_
   rintro e w5 ⟨rfl,hs5,sD⟩
   have di:=hide (ae DN _ _ (ae cR) hs5 sD)
   clear hs5 sD
   go_wp2_with fail
   go_ret
   exact ae di
 ·by_cases k2:db.k=1
  ·
   have LK:=hide (fun W (hb:Below w.heap.size w W)=>sB W sb so cs T D no nc (fr b) (fr a) (h.below hb) lb)
   have HJ:=hide (show Za.cE (aV D) fr a b true (Za.bE fr (fr b) (fr a))from .right he (by rw[ga];exact fun r=>k1 (oa.lab.1 r)) (by rw[gb];exact ob.lab.2 k2))
   have DN:=hide (fun W W' (h1:Below w.heap.size w W) (h2:bt W' sb so cs T (dE D (fr b) (fr a)) no nc) (h3:aj (rowOf no) (rowOf no) W W')=>done (fr b) (fr a) W W' (Or.inr ⟨rfl,rfl⟩) h1 h2 h3 (ae HJ))
   have t2:(da.k == 1)=false:=by simpa using k1
   obtain⟨k,val,tx,cnt,ao,cap,args,nx,mrk⟩:=da
   obtain⟨k',val',tx',cnt',ao',cap',args',nx',mrk'⟩:=db
   dsimp only at k2 t2 LA LB
   subst k2
   clear h hok har hka hkb kY hjb gL gM oa ob ga gb aa ab ma mb la lb ia ib link1 done he hc ha hb AA AB IH k1 HJ DONE
   generalize fr a=p at*
   generalize fr b=q at*
   go_enter Tryz.func96,Tryz.ntmps96
   go_wp2_with fail
   refine(ae FA).mono ?_
   rintro e w2 ⟨rfl,rfl⟩
   unfold aI at FB⊢
   go_wp2_with fail
   refine(ae FB).mono ?_
   rintro e w2 ⟨rfl,rfl⟩
   go_wp2_with fail
   refine(ae LA).mono ?_
   rintro e w3 ⟨rfl,hb3⟩
   have bH:=hide (hb3.alloc hb3.size (.cells #[.int .i64 k,.int .i64 val,.string tx,.int .i64 (cnt:Int)] 177))
   have z3:=hb3.size
   clear hb3
   go_wp2_with fail
   refine(ae LB _ (ae bH)).mono ?_
   rintro e w4 ⟨rfl,hb4⟩
   have cR:=hide (((ae bH).trans (hb4.mono (by simp;omega))).alloc (by have:=hb4.size;simp at this;omega) (.cells #[.int .i64 1,.int .i64 val',.string tx',.int .i64 (cnt':Int)] 177))
   have f0:=(hb4.cell (p:=⟨w3.heap.size,0,none⟩) (by simp)).trans (ag (heap_alloc_new w3 _) 0)
   simp only[List.getElem?_toArray,List.getElem?_cons_zero]at f0
   have z4:w3.heap.size<w4.heap.size:=by have:=hb4.size;simp at this;omega
   clear hb4
   go_wp2_with fail
   refine(ae LK _ (ae cR)).mono ?_
   rintro e w5 ⟨rfl,hs5,sD⟩
   have di:=hide (ae DN _ _ (ae cR) hs5 sD)
   clear hs5 sD
   go_wp2_with fail
   go_ret
   exact ae di
  ·
   have t1:(da.k == 1)=false:=by simpa using k1
   have t2:(db.k == 1)=false:=by simpa using k2
   by_cases hs:da.k=db.k∧da.val=db.val∧da.tx=db.tx∧da.cnt=db.cnt
   ·have hs3:Za.pD (aV D) (fr a) (fr b):=by
     have:=(tZ oa ob k1 k2).2 hs
     exact⟨by rw[ga,gb];exact this.1,by rw[aa,ab];exact this.2⟩
    obtain⟨o1,n1⟩:=link1 (fr b) (fr a) (Or.inr ⟨rfl,rfl⟩)
    have sm:=nY D (fr b) (fr a)
    have jr:=sm.len
    have LK:=hide (fun W (hb:Below w.heap.size w W)=>sB W sb so cs T D no nc (fr b) (fr a) (h.below hb) lb)
    have hlen:da.args.length=db.args.length:=by have:=hs3.2;rw[aa,ab]at this;exact this
    have JA:=hide (fun W W' (hW:Below w.heap.size w W) (hS:bt W' sb so cs T (dE D (fr b) (fr a)) no nc) (hF:aj (rowOf no) (rowOf no) W W')=>Og IH W' sb so cs T (dE D (fr b) (fr a)) no nc P (Za.bE fr (fr b) (fr a)) da.args db.args da.ao db.ao da.cap db.cap hS o1 (((har.below hW).lI (h.below hW) hF).same sm) (by rw[jr];omega) (((har.row ma).lI (sb:=sb) (so:=so) (cs:=cs) (T:=T) (E:=D) (nc:=nc) h (aj.of_below hW)).lI (h.below hW) hF) (((har.row mb).lI (sb:=sb) (so:=so) (cs:=cs) (T:=T) (E:=D) (nc:=nc) h (aj.of_below hW)).lI (h.below hW) hF) (fun x hx=>by rw[jr];exact oa.inn x hx) (fun x hx=>by rw[jr];exact ob.inn x hx) hlen oa.few)
    have FN:=hide (fun W W' e W'' (hW:Below w.heap.size w W) (hF:aj (rowOf no) (rowOf no) W W') (hq:uK sb so cs T (dE D (fr b) (fr a)) no nc (fun r fr'=>Za.iP (aV (dE D (fr b) (fr a))) (Za.bE fr (fr b) (fr a)) da.args db.args r fr') (Za.km (dE D (fr b) (fr a)).length (Za.bE fr (fr b) (fr a))) W' e W'')=>show uK sb so cs T D no nc (fun r fr'=>Za.cE (aV D) fr a b r fr') (Za.km D.length fr) w e W'' from by
     obtain⟨r,D',fr',e1,e2,e3,e4,e5,e6⟩:=hq
     rw[jr]at e4
     rw[sm.g]at e5
     refine⟨r,D',fr',e1,e2,sm.trans e3,fun q=>⟨(e4 q).1,by have:=(e4 q).2;omega⟩,?_,((aj.of_below hW).trans hF).trans e6⟩
     exact .args he (by rw[ga];exact fun r=>k1 (oa.lab.1 r)) (by rw[gb];exact fun r=>k2 (ob.lab.1 r)) hs3 (by rw[aa,ab];exact e5))
    have HL:=hide hlen
    obtain⟨k,val,tx,cnt,ao,cap,args,nx,mrk⟩:=da
    obtain⟨k',val',tx',cnt',ao',cap',args',nx',mrk'⟩:=db
    dsimp only at hs t1 t2 LA LB AA AB JA FN HL
    obtain⟨rfl,rfl,rfl,rfl⟩:=hs
    clear h hok har hka hkb kY hjb gL gM oa ob ga gb aa ab ma mb la lb ia ib link1 done he hc ha hb IH k1 k2 DONE o1 n1 sm jr hlen hs3
    generalize hD1:dE D (fr b) (fr a)=D1 at*
    generalize Wq:Za.bE fr (fr b) (fr a)=fr1 at*
    clear hD1 Wq
    generalize fr a=p at*
    generalize fr b=q at*
    go_enter Tryz.func96,Tryz.ntmps96
    go_wp2_with fail
    refine(ae FA).mono ?_
    rintro e w2 ⟨rfl,rfl⟩
    unfold aI at FB⊢
    go_wp2_with fail
    refine(ae FB).mono ?_
    rintro e w2 ⟨rfl,rfl⟩
    go_wp2_with fail
    refine(ae LA).mono ?_
    rintro e w3 ⟨rfl,hb3⟩
    have bH:=hide (hb3.alloc hb3.size (.cells #[.int .i64 k,.int .i64 val,.string tx,.int .i64 (cnt:Int)] 177))
    have z3:=hb3.size
    clear hb3
    go_wp2_with fail
    refine(ae LB _ (ae bH)).mono ?_
    rintro e w4 ⟨rfl,hb4⟩
    have cR:=hide (((ae bH).trans (hb4.mono (by simp;omega))).alloc (by have:=hb4.size;simp at this;omega) (.cells #[.int .i64 k,.int .i64 val,.string tx,.int .i64 (cnt:Int)] 177))
    have f0:=(hb4.cell (p:=⟨w3.heap.size,0,none⟩) (by simp)).trans (ag (heap_alloc_new w3 _) 0)
    have f1:=(hb4.cell (p:=⟨w3.heap.size,1,none⟩) (by simp)).trans (ag (heap_alloc_new w3 _) 1)
    have f2:=(hb4.cell (p:=⟨w3.heap.size,2,none⟩) (by simp)).trans (ag (heap_alloc_new w3 _) 2)
    have f3:=(hb4.cell (p:=⟨w3.heap.size,3,none⟩) (by simp)).trans (ag (heap_alloc_new w3 _) 3)
    simp only[List.getElem?_toArray,List.getElem?_cons_zero,List.getElem?_cons_succ]at f0 f1 f2 f3
    have z4:w3.heap.size<w4.heap.size:=by have:=hb4.size;simp at this;omega
    clear hb4
    go_wp2_with fail
    refine(ae AA _ (ae cR)).mono ?_
    rintro e w5 ⟨rfl,rfl⟩
    go_wp2_with fail
    refine(ae AB _ (ae cR)).mono ?_
    rintro e w5 ⟨rfl,rfl⟩
    go_wp2_with fail
    refine(ae LK _ (ae cR)).mono ?_
    rintro e w5 ⟨rfl,hs5,sD⟩
    have gT:=hide hs5
    have ME:=hide sD
    clear hs5 sD
    go_wp2_with fail
    refine(ae JA _ _ (ae cR) (ae gT) (ae ME)).mono ?_
    intro e w6 h6
    have di:=hide (ae FN _ _ _ _ (ae cR) (ae ME) h6)
    obtain⟨r,D',fr',rfl,-⟩:=h6
    go_wp2_with fail
    go_ret
    exact ae di
   ·have hs3:¬Za.pD (aV D) (fr a) (fr b):=fun q=>hs ((tZ oa ob k1 k2).1 ⟨by have:=q.1;rw[ga,gb]at this;exact this,by have:=q.2;rw[aa,ab]at this;exact this⟩)
    have FN:=hide (fun W (hW:Below w.heap.size w W)=>show uK sb so cs T D no nc (fun r fr'=>Za.cE (aV D) fr a b r fr') (Za.km D.length fr) w (.returned (.bool false)) W from
     ⟨false,D,fr,rfl,h.below hW,cI.refl D,(fun q=>by cases q),.clash he (by rw[ga];exact fun r=>k1 (oa.lab.1 r)) (by rw[gb];exact fun r=>k2 (ob.lab.1 r)) hs3,aj.of_below hW⟩)
    obtain⟨k,val,tx,cnt,ao,cap,args,nx,mrk⟩:=da
    obtain⟨k',val',tx',cnt',ao',cap',args',nx',mrk'⟩:=db
    dsimp only at hs t1 t2 LA LB
    have hne:k≠k'∨val≠val'∨tx.toList≠tx'.toList∨cnt≠cnt':=by
     by_cases q1:k=k'
     ·by_cases q2:val=val'
      ·by_cases q3:tx=tx'
       ·exact Or.inr (Or.inr (Or.inr fun q4=>hs ⟨q1,q2,q3,q4⟩))
       ·exact Or.inr (Or.inr (Or.inl fun q=>q3 (toList_inj q)))
      ·exact Or.inr (Or.inl q2)
     ·exact Or.inl q1
    have hN:((k == k')&&((val == val')&&((tx.toList == tx'.toList)&&((cnt:Int) == (cnt':Int)))))=false:=by
     rw[Bool.and_eq_false_iff,Bool.and_eq_false_iff,Bool.and_eq_false_iff]
     rcases hne with q | q | q | q
     ·exact Or.inl (by simpa using q)
     ·exact Or.inr (Or.inl (by simpa using q))
     ·exact Or.inr (Or.inr (Or.inl (by simpa using q)))
     ·exact Or.inr (Or.inr (Or.inr (by simp;omega)))
    have qx:=hide hne
    clear h hok har hka hkb kY hjb gL gM oa ob ga gb aa ab ma mb la lb ia ib link1 done he hc ha hb IH k1 k2 DONE hs3 hs AA AB hne hN
    generalize fr a=p at*
    generalize fr b=q at*
    go_enter Tryz.func96,Tryz.ntmps96
    go_wp2_with fail
    refine(ae FA).mono ?_
    rintro e w2 ⟨rfl,rfl⟩
    unfold aI at FB⊢
    go_wp2_with fail
    refine(ae FB).mono ?_
    rintro e w2 ⟨rfl,rfl⟩
    go_wp2_with fail
    refine(ae LA).mono ?_
    rintro e w3 ⟨rfl,hb3⟩
    have bH:=hide (hb3.alloc hb3.size (.cells #[.int .i64 k,.int .i64 val,.string tx,.int .i64 (cnt:Int)] 177))
    have z3:=hb3.size
    clear hb3
    go_wp2_with fail
    refine(ae LB _ (ae bH)).mono ?_
    rintro e w4 ⟨rfl,hb4⟩
    have cR:=hide (((ae bH).trans (hb4.mono (by simp;omega))).alloc (by have:=hb4.size;simp at this;omega) (.cells #[.int .i64 k',.int .i64 val',.string tx',.int .i64 (cnt':Int)] 177))
    have f0:=(hb4.cell (p:=⟨w3.heap.size,0,none⟩) (by simp)).trans (ag (heap_alloc_new w3 _) 0)
    have f1:=(hb4.cell (p:=⟨w3.heap.size,1,none⟩) (by simp)).trans (ag (heap_alloc_new w3 _) 1)
    have f2:=(hb4.cell (p:=⟨w3.heap.size,2,none⟩) (by simp)).trans (ag (heap_alloc_new w3 _) 2)
    have f3:=(hb4.cell (p:=⟨w3.heap.size,3,none⟩) (by simp)).trans (ag (heap_alloc_new w3 _) 3)
    simp only[List.getElem?_toArray,List.getElem?_cons_zero,List.getElem?_cons_succ]at f0 f1 f2 f3
    have z4:w3.heap.size<w4.heap.size:=by have:=hb4.size;simp at this;omega
    clear hb4
    rcases ae qx with q1 | q1 | q1 | q1
    ·have u1:(k == k')=false:=by simpa using q1
     clear q1 qx
     go_wp2_with fail
     go_ret
     exact ae FN _ (ae cR)
    ·have u1:(val == val')=false:=by simpa using q1
     clear q1 qx
     go_wp2_with fail
     go_ret
     exact ae FN _ (ae cR)
    ·have u1:(tx.toList == tx'.toList)=false:=by simpa using q1
     clear q1 qx
     go_wp2_with fail
     go_ret
     exact ae FN _ (ae cR)
    ·have u1:((cnt:Int) == (cnt':Int))=false:=by simp;omega
     clear q1 qx
     go_wp2_with fail
     go_ret
     exact ae FN _ (ae cR)
theorem join_all:∀c,Ba c
 | 0=>fun w sb so cs T D no nc P fr a b h hok har hc ha hb=>by
  by_cases he:fr a=fr b
  ·exact yY w sb so cs T D no nc fr a b h hok ha hb he
  ·have:=Za.xW (hok.lt ha) (hok.idem a) (hok.idem b) he
   omega
 | c+1=>fun w sb so cs T D no nc P fr a b h hok har hc ha hb=>by
  by_cases he:fr a=fr b
  ·exact yY w sb so cs T D no nc fr a b h hok ha hb he
  ·exact G8 (join_all c) w sb so cs T D no nc P fr a b h hok har hc ha hb he
def Ha (d:Ng):Ng:=⟨d.k,d.val,d.tx,d.cnt,d.ao,d.cap,d.args,d.nx,0⟩
def dK (D D':List Ng):Prop:=D.map Ha=D'.map Ha
theorem dK.refl (D:List Ng):dK D D:=rfl
theorem dK.trans {D E F:List Ng} (h:dK D E) (k:dK E F):dK D F:=Eq.trans h k
theorem dK.len {D E:List Ng} (h:dK D E):E.length=D.length:=by simpa using (congrArg List.length h).symm
theorem dK.n {D E:List Ng} (h:dK D E):cI D E:=by
 have:=congrArg (List.map ig) h
 rw[List.map_map,List.map_map]at this
 exact this
theorem dK.nx {D E:List Ng} (h:dK D E) {n:Nat} (hn:n<D.length) (hn':n<E.length):E[n].nx=D[n].nx:=by
 have:=congrArg (fun l=>l[n]?.map Ng.nx) h
 simpa [List.getElem?_eq_getElem hn,List.getElem?_eq_getElem hn',Ha] using this.symm
theorem dK.set {D:List Ng} {n:Nat} (hn:n<D.length) {d:Ng} (h:Ha d=Ha D[n]):dK D (D.set n d):=by
 unfold dK
 rw[List.map_set]
 apply List.ext_getElem (by simp)
 intro i h1 h2
 rw[List.getElem_set]
 split
 ·rename_i e;subst e;simp[h]
 ·rfl
theorem dK.ok {D E:List Ng} (h:dK D E) {fr:Nat→Nat} (ho:bR D fr):bR E fr:=by
 have hl:=h.len
 refine⟨fun n hn=> ?_,fun n hn=> ?_,fun n hn=>ho.out n (by omega)⟩
 ·have:=(ho.nd n (by omega)).same (h.n.at (by omega) hn)
  rw[hl]
  exact this
 ·obtain⟨k,hk⟩:=ho.hop n (by omega)
  have key:∀{n m k},Hop D n m k→Hop E n m k:=by
   intro n m k hk
   induction hk with
   | stop q e=>exact .stop (by omega) (by rw[h.nx q (by omega)];exact e)
   | go q e _ ih=>exact .go (by omega) (by rw[h.nx q (by omega)];exact e) (by rw[h.nx q (by omega)];exact ih)
  exact⟨k,key hk⟩
def uM (D:List Ng) (K:Nat→Nat):Prop:=∀n (h:n<D.length),D[n].mrk=K n
def E0 (d:Ng) (m:Nat):Ng:=⟨d.k,d.val,d.tx,d.cnt,d.ao,d.cap,d.args,d.nx,m⟩
def eU (D:List Ng) (a m:Nat):List Ng:=if h:a<D.length then D.set a (E0 D[a] m)else D
theorem jD (D:List Ng) (a m:Nat):dK D (eU D a m):=by
 unfold eU
 split
 ·rename_i h;exact dK.set h rfl
 ·rfl
theorem uM.upd {D:List Ng} {K:Nat→Nat} (h:uM D K) {a:Nat} (ha:a<D.length) (m:Nat):uM (eU D a m) (Za.upd K a m):=by
 intro n hn
 have hnD:n<D.length:=by rw[(jD D a m).len]at hn;exact hn
 unfold eU at hn⊢
 split
 ·rw[List.getElem_set]
  by_cases e:a=n
  ·subst e;rw[if_pos rfl,Za.wH];rfl
  ·rw[if_neg e,Za.upd_ne _ _ (Ne.symm e)]
   exact h n hnD
 ·rename_i q;exact absurd ha q
def nz (D:List Ng):Nat:=D.countP fun d=>d.mrk == 0
theorem Hb {m:Nat} (hm:m≠0):∀{D:List Ng} {a:Nat} (ha:a<D.length),nz (D.set a (E0 D[a] m))+(if D[a].mrk=0 then 1 else 0)=nz D
 | d :: D,0,_=>by
  unfold nz
  simp only[List.set_cons_zero,List.getElem_cons_zero,List.countP_cons]
  have:((E0 d m).mrk == 0)=false:=by simpa [E0] using hm
  rw[this]
  simp
 | d :: D,a+1,ha=>by
  have:=Hb hm (D:=D) (a:=a) (by simpa using ha)
  unfold nz at this⊢
  simp only[List.set_cons_succ,List.getElem_cons_succ,List.countP_cons]
  omega
theorem xX {D:List Ng} {a m:Nat} (ha:a<D.length) (hm:m≠0):nz (eU D a m)+(if D[a].mrk=0 then 1 else 0)=nz D:=by
 unfold eU
 rw[dif_pos ha]
 exact Hb hm ha
theorem bt.mark {w:World} {sb so:Nat} {cs:Array Value} {T:TypeId} {D:List Ng} {g:Nat} {nc:Nat} (h:bt w sb so cs T D (some ⟨g,0,none⟩) nc) {a m:Nat} (ha:a<D.length):bt (w.setCell ⟨g,a*7+6,none⟩ (.int .i64 (m:Int))) sb so cs T (eU D a m) (some ⟨g,0,none⟩) nc∧aj (rowOf (some ⟨g,0,none⟩)) (rowOf (some ⟨g,0,none⟩)) w (w.setCell ⟨g,a*7+6,none⟩ (.int .i64 (m:Int))):=by
 obtain⟨h1,h2⟩:=h.own.stored (a*7+6) (.int .i64 (m:Int))
 have hl:=(jD D a m).len
 obtain⟨g',e,gz,gne,-⟩:=h.at ha
 cases e
 refine⟨⟨?_,by rw[hl];exact h.cel,?_,h.ty⟩,⟨h2.os,h2.tape,h2.output,h2.size,fun k hk hr=>h2.block k hk (fun e=>hr ⟨⟨g,0,none⟩,rfl,by simpa using e⟩),fun _ q=>Or.inl q⟩⟩
 ·exact(h2.block sb (af h.blk) (by simpa using Ne.symm gne)).trans h.blk
 ·rw[hl]
  have:jS (eU D a m)=(jS D).set (a*7+6) (.int .i64 (m:Int)):=by
   unfold eU
   rw[dif_pos ha]
   exact A8 D a 6 ha (by omega) _ _ rfl
  rw[this]
  exact h1
def Hc (sb so:Nat) (cs:Array Value) (T:TypeId) (D:List Ng) (no:Option Addr) (nc:Nat) (J:Bool→(Nat→Nat)→Prop) (w:World) (e:Ending) (w':World):Prop:=
 ∃(r:Bool) (D':List Ng) (K':Nat→Nat),e= .returned (.bool r)∧bt w' sb so cs T D' no nc∧dK D D'∧uM D' K'∧nz D'≤nz D∧J r K'∧aj (rowOf no) (rowOf no) w w'
def Hd (c:Nat):Prop:=∀(w:World) (sb so:Nat) (cs:Array Value) (T:TypeId) (D:List Ng) (no:Option Addr) (nc:Nat) (P:Nat→Prop) (fr K:Nat→Nat) (n:Nat),bt w sb so cs T D no nc→bR D fr→aW w D P→uM D K→nz D≤c→n<D.length→
 Calls Tryz.prog 158 #[.pointer (some ⟨sb,so,none⟩),.int .i64 (n:Int)] w fun e w'=>Hc sb so cs T D no nc (fun r K'=>Za.fY (aV D) fr K n r K') w e w'
def TD (w:World) (sb so:Nat) (cs:Array Value) (T:TypeId) (D:List Ng) (no:Option Addr) (nc:Nat) (P:Nat→Prop) (fr K:Nat→Nat) (xs:List Nat) (k:Nat) (iv:Value) (wr:World):Prop:=
 ∃(j:Nat) (D1:List Ng) (K1:Nat→Nat),k+j=xs.length∧iv= .int .i64 (j:Int)∧bt wr sb so cs T D1 no nc∧dK D D1∧uM D1 K1∧aW wr D1 P∧nz D1≤nz D∧
  (∀r K',Za.mY (aV D) fr K1 (xs.drop j) r K'→Za.mY (aV D) fr K xs r K')∧aj (rowOf no) (rowOf no) w wr
theorem yZ (w:World) (sb so:Nat) (cs:Array Value) (T:TypeId) (D:List Ng) (no:Option Addr) (nc:Nat) (fr K:Nat→Nat) (n:Nat) (h:bt w sb so cs T D no nc) (hok:bR D fr) (hm:uM D K) (hn:n<D.length) (hs:K (fr n)≠0):
 Calls Tryz.prog 158 #[.pointer (some ⟨sb,so,none⟩),.int .i64 (n:Int)] w fun e w'=>Hc sb so cs T D no nc (fun r K'=>Za.fY (aV D) fr K n r K') w e w':=by
 obtain⟨k,hk⟩:=hok.hop n hn
 have hl:=hok.lt hn
 have FA:=hide (dJ w sb so cs T D no nc n (fr n) k h hk)
 have HH:=hide (ud w sb so cs T D no nc (fr n) h hl)
 obtain⟨g,rfl,gz,gne,hc,-⟩:=h.at hl
 have f6:=hc 6 (by omega)
 simp only[nN,List.getElem?_cons_zero,List.getElem?_cons_succ,hm (fr n) hl]at f6
 have s0:=h.cell
 have sz:=af h.blk
 have di:=hide (show Hc sb so cs T D (some ⟨g,0,none⟩) nc (fun r K'=>Za.fY (aV D) fr K n r K') w (.returned (.bool (decide (K (fr n)=2)))) w from ⟨_,D,K,rfl,h,dK.refl D,hm,Nat.le_refl _,.seen hs,aj.of_below (Below.refl _ _)⟩)
 have t0:(((K (fr n):Nat):Int) != 0)=true:=by simpa using hs
 have HT:=hide (show (((K (fr n):Nat):Int) == 2)=decide (K (fr n)=2)by rw[Bool.eq_iff_iff];simp;omega)
 have i0:(0:Int)≤((fr n:Nat):Int):=by omega
 have i1:((fr n:Nat):Int)<(D.length:Int):=by omega
 clear h hok hm hs hk hc hn
 generalize K (fr n)=q at*
 generalize fr n=p at*
 go_enter Tryz.func158,Tryz.ntmps158
 go_wp2_with fail
 refine(ae FA).mono ?_
 rintro e w2 ⟨rfl,rfl⟩
 unfold aI
 go_wp2_with fail
 refine(ae HH).mono ?_
 rintro e w2 ⟨rfl,rfl⟩
 go_wp2_with fail
 go_ret
 have:=ae di
 rw[←ae HT]at this
 exact this
theorem walk_go {c:Nat} (IH:Hd c) (w:World) (sb so:Nat) (cs:Array Value) (T:TypeId) (D:List Ng) (no:Option Addr) (nc:Nat) (P:Nat→Prop) (fr K:Nat→Nat) (n:Nat) (h:bt w sb so cs T D no nc) (hok:bR D fr) (har:aW w D P) (hm:uM D K) (hc:nz D≤c+1) (hn:n<D.length) (hs:K (fr n)=0):
 Calls Tryz.prog 158 #[.pointer (some ⟨sb,so,none⟩),.int .i64 (n:Int)] w fun e w'=>Hc sb so cs T D no nc (fun r K'=>Za.fY (aV D) fr K n r K') w e w':=by
 obtain⟨k,hk⟩:=hok.hop n hn
 obtain⟨j,hj⟩:=hok.qR hn
 have hl:=hok.lt hn
 obtain⟨d,hd,od,gd,ad,md⟩:=G7 hok hn
 have FA:=hide (dJ w sb so cs T D no nc n (fr n) k h hk)
 have HH:=hide (ud w sb so cs T D no nc (fr n) h hl)
 obtain⟨g,rfl,gz,gne,hc',hx⟩:=h.at hl
 have f6:=hc' 6 (by omega)
 have x6:=hx (fr n*7+6)
 simp only[nN,List.getElem?_cons_zero,List.getElem?_cons_succ,hm (fr n) hl,hs]at f6
 have s0:=h.cell
 have sz:=af h.blk
 obtain⟨m1,m2⟩:=h.mark (m:=1) hl
 have sm:=jD D (fr n) 1
 have jr:=sm.len
 have nz1:=xX (m:=1) hl (by omega)
 rw[if_pos (by rw[hm (fr n) hl,hs])]at nz1
 have hd1:∃d1,(eU D (fr n) 1)[fr n]?=some d1∧d1.ao=d.ao∧d1.args=d.args∧d1.cap=d.cap:=by
  refine⟨(eU D (fr n) 1)[fr n]'(by omega),List.getElem?_eq_getElem _,?_⟩
  have e:=sm.n.at hl (by omega)
  rw[List.getElem?_eq_getElem hl]at hd
  obtain rfl:=Option.some.inj hd
  generalize (eU D (fr n) 1)[fr n]'(by omega)=y at*
  generalize D[fr n]=z at*
  unfold ig at e
  simp only[Ng.mk.injEq]at e
  obtain⟨_,_,_,_,e1,e2,e3,_⟩:=e
  exact⟨e1.symm,e3.symm,e2.symm⟩
 obtain⟨d1,hd1,q1,q2,q3⟩:=hd1
 have o1:=sm.ok hok
 have MF:∃j1,Hop (eU D (fr n) 1) (fr n) (fr n) j1:=by
  have:=o1.hop (fr n) (by omega)
  rwa [hok.idem]at this
 obtain⟨j1,MF⟩:=MF
 have AG:=hide (lJ (w.setCell ⟨g,fr n*7+6,none⟩ (.int .i64 1)) sb so cs T (eU D (fr n) 1) (some ⟨g,0,none⟩) nc (fr n) (fr n) j1 d1 m1 MF hd1)
 rw[q1,q2,q3]at AG
 have HST:=hide (show TD w sb so cs T (eU D (fr n) 1) (some ⟨g,0,none⟩) nc P fr (Za.upd K (fr n) 1) d.args d.args.length (.int .i64 0) (w.setCell ⟨g,fr n*7+6,none⟩ (.int .i64 1))from
  ⟨0,eU D (fr n) 1,Za.upd K (fr n) 1,by omega,rfl,m1,dK.refl _,hm.upd hl 1,(har.lI h m2).same sm.n,Nat.le_refl _,(fun r K' q=>by simpa using q),m2⟩)
 have HR:=hide (show oO w d.ao d.args from har.row md)
 have ft:=hide h
 have I:=hide IH
 have Bc:=hide (show nz (eU D (fr n) 1)≤c by omega)
 have TE:=hide (show nz (eU D (fr n) 1)≤nz D by omega)
 have oP:=hide od.inn
 have MH:=hide o1
 have iV:=hide sm
 have G6:=hide jr
 have G5:=hide sm.n.g
 have HAD:=hide ad
 have TF:=hide hs
 have vA:=od.few
 have i0:(0:Int)≤((fr n:Nat):Int):=by omega
 have i1:((fr n:Nat):Int)<(D.length:Int):=by omega
 have HL:=hide hl
 clear h hok har hm hc hn hs hk hj gd ad md hc' hx m1 m2 sm jr nz1 hd1 q1 q2 q3 o1 MF od hd IH hl
 obtain⟨dk,dval,dtx,dcnt,ao,dcap,xs,dnx,dmrk⟩:=d
 dsimp only at HST HR AG vA oP HAD
 go_enter Tryz.func158,Tryz.ntmps158
 go_wp2_with fail
 refine(ae FA).mono ?_
 rintro e w2 ⟨rfl,rfl⟩
 unfold aI
 go_wp2_with fail
 refine(ae HH).mono ?_
 rintro e w2 ⟨rfl,rfl⟩
 go_wp2_with fail
 refine(ae AG).mono ?_
 rintro e w3 ⟨rfl,rfl⟩
 go_wp2_with fail
 go_loopg [44] xs.length (fun k iv wr=>TD w2 sb so cs T (eU D (fr n) 1) (some ⟨g,0,none⟩) nc P fr (Za.upd K (fr n) 1) xs k iv wr)
 case atStart=>exact ae HST
 case round=>
  clear HST AG
  obtain⟨j,D1,K1,hkj,rfl,hst,hsm,hmk,har,hnz,nZ,cL⟩:=hrel
  have hl2:D1.length=D.length:=by rw[hsm.len,ae G6]
  by_cases hlt:j<xs.length
  ·obtain⟨gx,ex,zx,cx⟩:=((ae HR).lI (ae ft) cL).at hlt
   subst ex
   have IC:=hide (ae I wr sb so cs T D1 (some ⟨g,0,none⟩) nc P fr K1 xs[j] hst (hsm.ok (ae MH)) har hmk (by have:=ae Bc;omega) (by rw[hl2];exact ae oP _ (List.getElem_mem hlt)))
   have uL:=hide (show xs.drop j=xs[j] :: xs.drop (j+1)from List.drop_eq_getElem_cons hlt)
   have iU:=hide cL
   have Px:=hide hsm
   have Bb:=hide hst
   have nP:=hide har
   have Py:=hide hnz
   have DT:=hide nZ
   have aP:=hide hkj
   have aY:=hide hlt
   have TG:=hide hsm.n.g
   generalize xs[j]=na at*
   have j0:(0:Int)≤(j:Int):=by omega
   have j1:(j:Int)<(xs.length:Int):=by omega
   clear hst hsm hmk har hnz nZ cL hkj hlt hl2 f6 x6 s0 sz gz gne
   go_wp2_with fail
   refine(ae IC).mono ?_
   rintro e w8 ⟨r,D8,K8,rfl,h8,s8,k8,z8,j8,f8⟩
   have nG:=hide ((ae iU).trans f8)
   have H8:=hide h8
   have S8:=hide s8
   have K8':=hide k8
   have Z8:=hide z8
   have J8:=hide j8
   have Pw:=hide ((ae nP).lI (ae Bb) f8)
   clear h8 s8 k8 z8 j8 f8
   cases r
   ·go_wp2_with fail
    go_ret
    refine⟨false,D8,K8,rfl,ae H8,(ae iV).trans ((ae Px).trans (ae S8)),ae K8',by have:=ae Z8;have:=ae Py;have:=ae TE;omega,?_,ae nG⟩
    refine .no (ae TF) ?_
    rw[ae HAD,←ae G5]
    refine ae DT _ _ ?_
    rw[ae uL]
    have:=ae J8
    rw[ae TG]at this
    exact .no this
   ·go_wp2_with fail
    go_roundg (gk - 1)
    case measure=>have:=ae aP;have:=ae aY;omega
    case rel=>
     refine⟨j+1,D8,K8,by have:=ae aP;have:=ae aY;omega,by go_num,ae H8,(ae Px).trans (ae S8),ae K8',(ae Pw).same (ae S8).n,by have:=ae Z8;have:=ae Py;omega,fun r K' q=> ?_,ae nG⟩
     refine ae DT _ _ ?_
     rw[ae uL]
     have:=ae J8
     rw[ae TG]at this
     exact .cons this q
  ·obtain rfl:j=xs.length:=by omega
   have hlD:fr n<D1.length:=by rw[hl2];exact ae HL
   obtain⟨g',e',gz',gne',hc',hx'⟩:=hst.at hlD
   cases e'
   have c6:=hc' 6 (by omega)
   have x6':=hx' (fr n*7+6)
   simp only[nN,List.getElem?_cons_zero,List.getElem?_cons_succ]at c6
   have s0':=hst.cell
   have sz':=af hst.blk
   obtain⟨m1,m2⟩:=hst.mark (m:=2) hlD
   have sm2:=jD D1 (fr n) 2
   have nz2:=xX (m:=2) hlD (by omega)
   have i1':((fr n:Nat):Int)<(D1.length:Int):=by omega
   have di:=hide (show Hc sb so cs T D (some ⟨g,0,none⟩) nc (fun r K'=>Za.fY (aV D) fr K n r K') w2 (.returned (.bool true)) (wr.setCell ⟨g,fr n*7+6,none⟩ (.int .i64 2))from by
    refine⟨true,eU D1 (fr n) 2,Za.upd K1 (fr n) 2,rfl,m1,(ae iV).trans (hsm.trans sm2),hmk.upd hlD 2,by have:=ae TE;split at nz2<;>omega,?_,cL.trans m2⟩
    refine .go (ae TF) ?_
    rw[ae HAD,←ae G5]
    exact nZ _ _ (by rw[List.drop_length];exact .nil))
   generalize D1[fr n].mrk=om at*
   clear hst hsm hmk har hnz nZ cL hkj hc' hx' m1 m2 sm2 nz2 hl2 f6 x6 s0 sz gz gne i1
   go_wp2_with fail
   go_ret
   exact ae di
theorem walk_all:∀c,Hd c
 | 0=>fun w sb so cs T D no nc P fr K n h hok har hm hc hn=>by
  by_cases hs:K (fr n)=0
  ·have hl:=hok.lt hn
   have:=xX (m:=1) hl (by omega)
   rw[if_pos (by rw[hm (fr n) hl,hs])]at this
   omega
  ·exact yZ w sb so cs T D no nc fr K n h hok hm hn hs
 | c+1=>fun w sb so cs T D no nc P fr K n h hok har hm hc hn=>by
  by_cases hs:K (fr n)=0
  ·exact walk_go (walk_all c) w sb so cs T D no nc P fr K n h hok har hm hc hn hs
  ·exact yZ w sb so cs T D no nc fr K n h hok hm hn hs
def Pz (w:World) (sb so:Nat) (cs:Array Value) (T:TypeId) (D:List Ng) (no:Option Addr) (nc:Nat) (k:Nat) (iv:Value) (wr:World):Prop:=
 ∃(j:Nat) (D1:List Ng),k+j=D.length∧iv= .int .i64 (j:Int)∧bt wr sb so cs T D1 no nc∧dK D D1∧(∀n (h:n<D1.length),n<j→D1[n].mrk=0)∧aj (rowOf no) (rowOf no) w wr
theorem Oh {D:List Ng} {a m n:Nat} (ha:a<D.length) (hn:n<D.length) (hn':n<(eU D a m).length):(eU D a m)[n].mrk=if n=a then m else D[n].mrk:=by
 have h:uM D (fun i=>(D[i]?.map Ng.mrk).getD 0):=fun i hi=>by simp[List.getElem?_eq_getElem hi]
 have:=h.upd ha m n hn'
 rw[this]
 by_cases e:n=a
 ·rw[if_pos e,e,Za.wH]
 ·rw[if_neg e,Za.upd_ne _ _ e]
  simp[List.getElem?_eq_getElem hn]
theorem Ko (w:World) (sb so:Nat) (cs:Array Value) (T:TypeId) (D:List Ng) (no:Option Addr) (nc:Nat) (P:Nat→Prop) (fr:Nat→Nat) (n:Nat) (h:bt w sb so cs T D no nc) (hok:bR D fr) (har:aW w D P) (hn:n<D.length) (hD:D.length≤1000000000):
 Calls Tryz.prog 97 #[.pointer (some ⟨sb,so,none⟩),.int .i64 (n:Int)] w fun e w'=>∃(r:Bool) (D':List Ng) (K':Nat→Nat),e= .returned (.bool r)∧bt w' sb so cs T D' no nc∧dK D D'∧Za.fY (aV D) fr (fun _=>0) n r K'∧aj (rowOf no) (rowOf no) w w':=by
 have HST:=hide (show Pz w sb so cs T D no nc D.length (.int .i64 0) w from ⟨0,D,by omega,rfl,h,dK.refl D,(fun n _ q=>by omega),aj.of_below (Below.refl _ _)⟩)
 have s0:=h.cell
 have sz:=af h.blk
 have H:=hide h
 have qy:=hide hok
 have nP:=hide har
 have HN:=hide hn
 clear h hok har hn
 go_enter Tryz.func97,Tryz.ntmps97
 go_wp2_with fail
 go_loopg [11] D.length (fun k iv wr=>Pz w sb so cs T D no nc k iv wr)
 case atStart=>exact ae HST
 case round=>
  clear HST
  obtain⟨j,D1,hkj,rfl,hst,hsm,hmk,cL⟩:=hrel
  have hl:=hsm.len
  by_cases hlt:j<D.length
  ·have hlD:j<D1.length:=by omega
   obtain⟨g,rfl,gz,gne,hc,hx⟩:=hst.at hlD
   have c6:=hc 6 (by omega)
   have x6:=hx (j*7+6)
   simp only[nN,List.getElem?_cons_zero,List.getElem?_cons_succ]at c6
   have s1:=hst.cell
   have z1:=af hst.blk
   obtain⟨m1,m2⟩:=hst.mark (m:=0) hlD
   have di:=hide (show Pz w sb so cs T D (some ⟨g,0,none⟩) nc (gk - 1) (.int .i64 ((j:Int)+1)) (wr.setCell ⟨g,j*7+6,none⟩ (.int .i64 0))from
    ⟨j+1,eU D1 j 0,by omega,by go_num,m1,hsm.trans (jD D1 j 0),(fun n hn q=>by
     have nj:n<D1.length:=by rw[(jD D1 j 0).len]at hn;exact hn
     rw[Oh hlD nj hn]
     by_cases e:n=j
     ·rw[if_pos e]
     ·rw[if_neg e];exact hmk n nj (by omega)),cL.trans m2⟩)
   have j0:(0:Int)≤(j:Int):=by omega
   have j1:(j:Int)<(D.length:Int):=by omega
   have j2:(j:Int)<(D1.length:Int):=by omega
   generalize D1[j].mrk=om at*
   have aP:=hide hkj
   clear hst hsm hmk cL hkj hc hx m1 m2 hl
   go_wp2_with fail
   go_roundg (gk - 1)
   case measure=>have:=ae aP;omega
   case rel=>exact ae di
  ·obtain rfl:j=D.length:=by omega
   have PA:uM D1 (fun _=>0):=fun n hn=>hmk n hn (by omega)
   have IC:=hide (walk_all (nz D1) wr sb so cs T D1 no nc P fr (fun _=>0) n hst (hsm.ok (ae qy)) (((ae nP).lI (ae H) cL).same hsm.n) PA (Nat.le_refl _) (by have:=ae HN;omega))
   have iU:=hide cL
   have iV:=hide hsm
   clear hst hsm hmk cL hkj PA hl
   go_wp2_with fail
   refine(ae IC).mono ?_
   rintro e w8 ⟨r,D8,K8,rfl,h8,s8,k8,z8,j8,f8⟩
   have di:=hide (show∃(r':Bool) (D':List Ng) (K':Nat→Nat),Ending.returned (.bool r)= .returned (.bool r')∧bt w8 sb so cs T D' no nc∧dK D D'∧Za.fY (aV D) fr (fun _=>0) n r' K'∧aj (rowOf no) (rowOf no) w w8 from
    ⟨r,D8,K8,rfl,h8,(ae iV).trans s8,by rw[(ae iV).n.g]at j8;exact j8,(ae iU).trans f8⟩)
   clear h8 s8 k8 z8 j8 f8
   go_wp2_with fail
   go_ret
   exact ae di
def He (sb so:Nat) (cs:Array Value) (T:TypeId) (D:List Ng) (no:Option Addr) (nc:Nat) (fr:Nat→Nat) (a b:Nat) (w:World) (e:Ending) (w':World):Prop:=
 ∃(r:Bool) (D':List Ng),e= .returned (.bool r)∧bt w' sb so cs T D' no nc∧cI D D'∧aj (rowOf no) (rowOf no) w w'∧
  (r=true→∃fr' K',bR D' fr'∧Za.cE (aV D) fr a b true fr'∧Za.fY (aV D) fr' (fun _=>0) a true K')∧
  (r=false→(∃fr',Za.cE (aV D) fr a b false fr')∨∃fr' K',Za.cE (aV D) fr a b true fr'∧Za.fY (aV D) fr' (fun _=>0) a false K')
theorem Oi (w:World) (sb so:Nat) (cs:Array Value) (T:TypeId) (D:List Ng) (no:Option Addr) (nc:Nat) (P:Nat→Prop) (fr:Nat→Nat) (a b:Nat) (h:bt w sb so cs T D no nc) (hok:bR D fr) (har:aW w D P) (ha:a<D.length) (hb:b<D.length) (hD:D.length≤1000000000):
 Calls Tryz.prog 55 #[.pointer (some ⟨sb,so,none⟩),.int .i64 (a:Int),.int .i64 (b:Int)] w fun e w'=>He sb so cs T D no nc fr a b w e w':=by
 have IJ:=hide (join_all (Za.km D.length fr) w sb so cs T D no nc P fr a b h hok har (Nat.le_refl _) ha hb)
 have H:=hide h
 have nP:=hide har
 have HA:=hide ha
 clear h hok har ha hb
 go_enter Tryz.func55,Tryz.ntmps55
 go_wp2_with fail
 refine(ae IJ).mono ?_
 rintro e w8 ⟨r,D8,fr8,rfl,h8,s8,o8,j8,f8⟩
 cases r
 ·have di:=hide (show He sb so cs T D no nc fr a b w (.returned (.bool false)) w8 from ⟨false,D8,rfl,h8,s8,f8,(fun q=>by cases q),fun _=>Or.inl ⟨fr8,j8⟩⟩)
  clear h8 s8 o8 j8 f8
  go_wp2_with fail
  go_ret
  exact ae di
 ·obtain⟨o1,o2⟩:=o8 rfl
  have IF:=hide (Ko w8 sb so cs T D8 no nc P fr8 a h8 o1 (((ae nP).lI (ae H) f8).same s8) (by rw[s8.len];exact ae HA) (by rw[s8.len];exact hD))
  have S8:=hide s8
  have O1:=hide o1
  have J8:=hide j8
  have F8:=hide f8
  clear h8 s8 o8 j8 f8 o1 o2
  go_wp2_with fail
  refine(ae IF).mono ?_
  rintro e w9 ⟨r,D9,K9,rfl,h9,s9,k9,f9⟩
  have hg:=(ae S8).g
  rw[hg]at k9
  have di:=hide (show He sb so cs T D no nc fr a b w (.returned (.bool r)) w9 from ⟨r,D9,rfl,h9,(ae S8).trans s9.n,(ae F8).trans f9,(fun q=>⟨fr8,K9,s9.ok (ae O1),ae J8,by rw[q]at k9;exact k9⟩),fun q=>Or.inr ⟨fr8,K9,ae J8,by rw[q]at k9;exact k9⟩⟩)
  clear h9 s9 k9 f9 hg
  go_wp2_with fail
  go_ret
  exact ae di
theorem He.says {sb so:Nat} {cs:Array Value} {T:TypeId} {D:List Ng} {no:Option Addr} {nc:Nat} {fr:Nat→Nat} {a b:Nat} {w:World} {e:Ending} {w':World} (h:He sb so cs T D no nc fr a b w e w') {t:Nat→Za.U} (ht:Za.dw (aV D) fr t):
 ∃(r:Bool) (D':List Ng),e= .returned (.bool r)∧bt w' sb so cs T D' no nc∧cI D D'∧aj (rowOf no) (rowOf no) w w'∧
  (r=true→∃fr' σ t',bR D' fr'∧Za.Made (aV D) fr fr' t t' (t a) (t b) σ)∧(r=false→∀θ,Za.sub θ (t a)≠Za.sub θ (t b)):=by
 obtain⟨r,D',h1,h2,h3,h4,h5,h6⟩:=h
 refine⟨r,D',h1,h2,h3,h4,fun q=> ?_,fun q=> ?_⟩
 ·obtain⟨fr',K',o,j,k⟩:=h5 q
  obtain⟨σ,t',hm⟩:=(ht.join j).2.2 rfl K' k
  exact⟨fr',σ,t',o,hm⟩
 ·rcases h6 q with⟨fr',j⟩ | ⟨fr',K',j,k⟩
  ·exact(ht.join j).1 rfl
  ·exact(ht.join j).2.1 rfl K' k
theorem Bd {D:List Ng} {fr:Nat→Nat} (hok:bR D fr) {n:Nat} {u:Za.U} (hn:n<D.length) (h:Za.Tr (aV D) fr n u):∃d us,D[fr n]?=some d∧gf D.length d∧d∈D∧d.args.length=us.length∧(∀(i a:Nat) (v:Za.U),d.args[i]?=some a→us[i]?=some v→Za.Tr (aV D) fr a v)∧
 ((d.k=1∧u= .v ([],fr n)∧us=[])∨(d.k=2∧u= .n 3 [] d.val []∧us=[])∨(d.k=3∧u= .n 1 d.tx.toList 0 us)):=by
 obtain⟨d,hd,od,gd,ad,md⟩:=G7 hok hn
 cases h with
 | var hg ha=>
  rw[gd]at hg
  rw[ad]at ha
  exact⟨d,[],hd,od,md,by rw[ha];rfl,fun i a v _ hv=>by simp at hv,Or.inl ⟨od.lab.1 hg,rfl,rfl⟩⟩
 | @node _ k tx num us hg hl ht=>
  rw[gd]at hg
  rw[ad]at hl ht
  refine⟨d,us,hd,od,md,hl,ht,Or.inr ?_⟩
  unfold eQ at hg
  rcases od.ks with q | q | q
  ·rw[if_pos q]at hg;cases hg
  ·rw[if_neg (by omega),if_pos q]at hg
   cases hg
   have:us=[]:=by rw[(od.m q).2.2]at hl;exact List.length_eq_zero_iff.1 hl.symm
   subst this
   exact Or.inl ⟨q,rfl,rfl⟩
  ·rw[if_neg (by omega),if_neg (by omega)]at hg
   cases hg
   exact Or.inr ⟨q,rfl⟩
theorem Oj {u:Za.U} {us:List Za.U} {d:Ng} {n:Nat} (h:(d.k=1∧u= .v ([],n)∧us=[])∨(d.k=2∧u= .n 3 [] d.val []∧us=[])∨(d.k=3∧u= .n 1 d.tx.toList 0 us)):Za.size u=1+Za.sizeL us:=by
 rcases h with⟨_,rfl,rfl⟩ | ⟨_,rfl,rfl⟩ | ⟨_,rfl⟩
 ·simp[Za.size,Za.sizeL]
 ·simp[Za.size,Za.sizeL]
 ·rw[Za.size]
theorem sizeL_snoc:∀(us:List Za.U) (u:Za.U),Za.sizeL (us++[u])=Za.sizeL us+Za.size u
 | [],u=>by simp[Za.sizeL]
 | v :: us,u=>by rw[List.cons_append,Za.sizeL,Za.sizeL,sizeL_snoc us u];omega
theorem wU (us:List Za.U) (j:Nat):Za.sizeL (us.take j)≤Za.sizeL us:=by
 induction us generalizing j with
 | nil=>simp[Za.sizeL]
 | cons u us ih=>
  cases j with
  | zero=>simp[Za.sizeL]
  | succ j=>rw[List.take_succ_cons,Za.sizeL,Za.sizeL];have:=ih j;omega
def Be (s:Nat):Prop:=∀(w:World) (sb so:Nat) (cs:Array Value) (T:TypeId) (D:List Ng) (no:Option Addr) (nc:Nat) (P:Nat→Prop) (fr:Nat→Nat) (n:Nat) (u:Za.U) (most:Nat),bt w sb so cs T D no nc→bR D fr→aW w D P→n<D.length→Za.Tr (aV D) fr n u→Za.size u≤s→most≤1000→
 Calls Tryz.prog 56 #[.pointer (some ⟨sb,so,none⟩),.int .i64 (n:Int),.int .i64 (most:Int)] w fun e w'=>e= .returned (.int .i64 ((min (Za.size u) (most+1):Nat):Int))∧w'=w
theorem Hf {s:Nat} (IH:Be s):Be (s+1):=by
 intro w sb so cs T D no nc P fr n u most h hok har hn ht hs hm
 obtain⟨k,hk⟩:=hok.hop n hn
 obtain⟨d,us,hd,od,md,hl,hts,hu⟩:=Bd hok hn ht
 have hsz:=Oj hu
 have AG:=hide (lJ w sb so cs T D no nc n (fr n) k d h hk hd)
 have HR:=hide (show oO w d.ao d.args from har.row md)
 have H:=hide h
 have qy:=hide hok
 have nP:=hide har
 have oP:=hide od.inn
 have Hg:=hide hts
 have jJ:=hide hsz
 have HS:=hide hs
 have I:=hide IH
 have vA:=od.few
 obtain⟨dk,dval,dtx,dcnt,ao,dcap,xs,dnx,dmrk⟩:=d
 dsimp only at AG HR oP Hg hl vA
 clear h hok har hn ht hs hk hd od md hts hu hsz IH
 have HL:=hide hl
 go_enter Tryz.func56,Tryz.ntmps56
 go_wp2_with fail
 refine(ae AG).mono ?_
 rintro e w2 ⟨rfl,rfl⟩
 clear hl
 go_wp2_with fail
 go_loopg [7,14] xs.length (fun k sv iv wr=>∃j:Nat,k+j=xs.length∧iv= .int .i64 (j:Int)∧sv= .int .i64 ((min (1+Za.sizeL (us.take j)) (most+1):Nat):Int)∧wr=w2)
 case atStart=>exact⟨0,by omega,rfl,by simp[Za.sizeL],rfl⟩
 case round=>
  obtain⟨j,hkj,rfl,rfl,rfl⟩:=hrel
  by_cases hlt:j<xs.length
  ·obtain⟨gx,ex,zx,cx⟩:=(ae HR).at hlt
   subst ex
   have DU:j<us.length:=by have:=ae HL;omega
   have MI:Za.sizeL (us.take (j+1))=Za.sizeL (us.take j)+Za.size us[j]:=by
    rw[List.take_add_one,List.getElem?_eq_getElem DU]
    exact sizeL_snoc _ _
   have hle:=wU us (j+1)
   have qc:=ae jJ
   have hbound:=ae HS
   have j0:(0:Int)≤(j:Int):=by omega
   have j1:(j:Int)<(xs.length:Int):=by omega
   by_cases hbig:most<1+Za.sizeL (us.take j)
   ·have e1:min (1+Za.sizeL (us.take j)) (most+1)=most+1:=by omega
    have e2:min (Za.size u) (most+1)=most+1:=by omega
    have wV:=hide e2
    rw[e1]
    have t1:decide (((most+1:Nat):Int)>(most:Int))=true:=by simp;omega
    generalize xs[j]=na at*
    clear MI hle qc hbound hkj e1 e2 hbig
    generalize hmm:((most+1:Nat):Int)=mm at*
    have Ws:=hide hmm
    clear hmm
    go_wp2_with fail
    go_ret
    exact⟨by rw[ae wV,ae Ws];rfl,rfl⟩
   ·have e1:min (1+Za.sizeL (us.take j)) (most+1)=1+Za.sizeL (us.take j):=by omega
    have hp:=Za.size_pos us[j]
    have IC:=hide (ae I wr sb so cs T D no nc P fr xs[j] us[j] (most - (1+Za.sizeL (us.take j))) (ae H) (ae qy) (ae nP) (ae oP _ (List.getElem_mem hlt)) (ae Hg j _ _ (List.getElem?_eq_getElem hlt) (List.getElem?_eq_getElem DU)) (by omega) (by omega))
    have U2:=hide (show (1+Za.sizeL (us.take j))+min (Za.size us[j]) (most - (1+Za.sizeL (us.take j))+1)=min (1+Za.sizeL (us.take (j+1))) (most+1)by omega)
    rw[e1]
    generalize hA:1+Za.sizeL (us.take j)=A at*
    generalize hB:min (Za.size us[j]) (most - A+1)=B at*
    have hB1:B≤most - A+1:=by omega
    have hsub:((most - A:Nat):Int)=(most:Int) - (A:Int):=by omega
    rw[hsub]at IC
    have t1:decide ((A:Int)>(most:Int))=false:=by simp;omega
    have t2:decide (most<A)=false:=by simp;omega
    have aP:=hide hkj
    have hAm:(A:Int)≤1000:=by omega
    have hA0:(0:Int)≤(A:Int):=by omega
    have hm0:(most:Int)≤1000:=by omega
    have PB:(0:Int)≤(most:Int):=by omega
    have hBm:(B:Int)≤2000:=by omega
    have hB0:(0:Int)≤(B:Int):=by omega
    generalize xs[j]=na at*
    clear MI hle qc hbound e1 hbig hA hB hB1 hsub hkj hp
    go_wp2_with fail
    refine(ae IC).mono ?_
    rintro e w3 ⟨rfl,rfl⟩
    go_wp2_with fail
    go_roundg (gk - 1)
    case measure=>have:=ae aP;omega
    case rel=>exact⟨j+1,by have:=ae aP;omega,by go_num,by rw[←ae U2];go_num,rfl⟩
  ·obtain rfl:j=xs.length:=by omega
   have di:=hide (show min (1+Za.sizeL (us.take xs.length)) (most+1)=min (Za.size u) (most+1)by rw[ae jJ,List.take_of_length_le (by have:=ae HL;omega)])
   clear hkj
   generalize hA:min (1+Za.sizeL (us.take xs.length)) (most+1)=A at*
   clear hA
   go_wp2_with fail
   go_ret
   exact⟨by rw[ae di];rfl,rfl⟩
theorem size_all:∀s,Be s
 | 0=>fun _ _ _ _ _ _ _ _ _ _ _ u _ _ _ _ _ _ hs _=>absurd hs (by have:=Za.size_pos u;omega)
 | s+1=>Hf (size_all s)
end Go.Proofs.YthfjnfcekeknlaaGreatDoor
