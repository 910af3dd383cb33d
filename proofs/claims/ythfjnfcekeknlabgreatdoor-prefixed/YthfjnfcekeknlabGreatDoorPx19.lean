import Derived.Test.YthfjnfcekeknlabGreatDoorPx14
import Derived.Test.YthfjnfcekeknlabGreatDoorPx15
import Derived.Test.YthfjnfcekeknlabGreatDoorPx16
import Derived.Test.YthfjnfcekeknlabGreatDoorPx18
import Derived.Deep.LoopGhost
set_option maxHeartbeats 8000000
set_option maxRecDepth 100000
set_option linter.unusedSimpArgs false
namespace Go.Proofs.YthfjnfcekeknlabGreatDoor
open Go.RowKit af
theorem Cf (f:Nat) (l:List bX) (t:Tm) (l1:List bX) (h:term f l= .inr (t,l1)):t.kind=2\/t.kind=3\/t.kind=4:=by
 cases f with
 | zero=>
  rw[term]at h;by_cases hb:ez (af.hd l)=true
  ·rw[aH hb]at h;cases h
  ·rw[aG hb]at h;cases h
 | succ f=>
  rw[term]at h;by_cases hb:ez (af.hd l)=true
  ·rw[aH hb]at h;have hk:(af.hd l).kind=2\/(af.hd l).kind=3\/(af.hd l).kind=4:=by simpa [ez,or_assoc] using hb
   by_cases hl:(af.hd l).kind=4/\6<(af.hd l).text.size
   ·rw[aH hl]at h;cases h
   ·rw[aG hl]at h;by_cases h2:(af.hd l).kind=2
    ·rw[aH h2]at h;by_cases hs:sees l.tail [40]=true
     ·rw[aH hs]at h;rcases hq:cE (term f) 2 l.tail.tail with x | ⟨us,l2⟩
      ·rw[hq]at h;cases h
      ·rw[hq]at h;injection h with h;injection h with h _;subst h;exact ay rfl
     ·rw[aG hs]at h;injection h with h;injection h with h _;subst h;exact ay rfl
    ·rw[aG h2]at h;injection h with h;injection h with h _;subst h;exact hk
  ·rw[aG hb]at h;cases h
theorem Ih (w:World) (rb lb:Nat) (s:ByteArray) (l:List bX) (ns:List ByteArray) (nv iv:Value) (e0:Int) (tests goals:Bool) (h:St w rb s l ns nv e0) (hb:w.heap[lb]?=some (.cells #[iv,.bool tests,.bool goals] 80 (0,0))) (hne:lb≠rb) (hn0:lb≠0):
 Calls Tryz.prog 66 #[.pointer (some ⟨rb,0,none⟩),.pointer (some ⟨lb,0,none⟩)] w fun e w'=>BX rb lb iv s ns (item tests goals l) w e w':=by
 rcases hT:term 8 l with⟨er,ps⟩ | ⟨t,l1⟩
 ·rw[show item tests goals l= .inl (er,ps)by unfold item;rw[hT]];exact Ig w rb lb s l ns nv iv e0 tests goals h hb hne hn0 er ps hT
 ·have hk:=Cf 8 l t l1 hT;cases hsg:dd l1
  ·cases heq:sees l1 [61]
   ·by_cases h3:t.kind=3/\sees l1 [58,61]=true
    ·obtain⟨h3,has⟩:=h3;rcases hR:assignment t goals l1 with⟨er,ps⟩ | ⟨x,l2⟩
     ·rw[show item tests goals l= .inl (er,ps)by unfold item;rw[hT];simp only[hsg,heq,h3,has,hR];rfl];exact A5 w rb lb s l ns nv iv e0 tests goals h hb hne hn0 t l1 hT h3 hsg heq has er ps hR
     ·rw[show item tests goals l= .inr ((x,false,goals),l2)by unfold item;rw[hT];simp only[hsg,heq,h3,has,hR];rfl];exact wX w rb lb s l ns nv iv e0 tests goals h hb hne hn0 t l1 hT h3 hsg heq has x l2 hR
    ·have hI:item tests goals l=if t.kind=2/\((tests&&isInt t)||goals)=true then .inr ((⟨t,[],none,[],none⟩,tests&&isInt t,goals),l1)else af.bad 2 l1:=by
      unfold item;rw[hT];simp only[hsg,heq];rw[aG h3];rfl
     have hn:t.kind≠2->isInt t=false:=fun q=>by simp[isInt,q]
     rw[hI];rcases hk with hk | hk | hk
     ·cases tests
      ·cases goals
       ·rw[aG (by simp)];exact pu w rb lb s l ns nv iv e0 h hb hne hn0 t l1 hk hT hsg heq
       ·rw[aH (by simp[hk])];exact pt w rb lb s l ns nv iv e0 h hb hne hn0 t l1 hk hT hsg heq
      ·cases hi:isInt t
       ·cases goals
        ·rw[aG (by simp)];exact qA w rb lb s l ns nv iv e0 h hb hne hn0 t l1 hk hi hT hsg heq
        ·rw[aH (by simp[hk])];exact qy w rb lb s l ns nv iv e0 h hb hne hn0 t l1 hk hi hT hsg heq
       ·rw[aH (by simp[hk])];exact qB w rb lb s l ns nv iv e0 goals h hb hne hn0 t l1 hk hi hT hsg heq
     ·have has:sees l1 [58,61]=false:=by simpa [hk] using h3
      rw[aG (by omega)];cases tests
      ·exact pr w rb lb s l ns nv iv e0 goals h hb hne hn0 t l1 hk hT hsg heq has
      ·exact qx w rb lb s l ns nv iv e0 goals h hb hne hn0 t l1 hk (hn (by omega)) hT hsg heq has
     ·rw[aG (by omega)];cases tests
      ·exact pq w rb lb s l ns nv iv e0 goals h hb hne hn0 t l1 hk hT hsg heq
      ·exact qw w rb lb s l ns nv iv e0 goals h hb hne hn0 t l1 hk (hn (by omega)) hT hsg heq
   ·rcases hR:sides t goals l1 with⟨er,ps⟩ | ⟨x,l2⟩
    ·rw[show item tests goals l= .inl (er,ps)by unfold item;rw[hT];simp only[hsg,heq,hR];rfl];exact CM w rb lb s l ns nv iv e0 tests goals h hb hne hn0 t l1 hT hsg heq er ps hR
    ·rw[show item tests goals l= .inr ((x,false,goals),l2)by unfold item;rw[hT];simp only[hsg,heq,hR];rfl];exact A6 w rb lb s l ns nv iv e0 tests goals h hb hne hn0 t l1 hT hsg heq x l2 hR
  ·rcases hR:sides t tests l1 with⟨er,ps⟩ | ⟨x,l2⟩
   ·rw[show item tests goals l= .inl (er,ps)by unfold item;rw[hT];simp only[hsg,hR];rfl];exact wW w rb lb s l ns nv iv e0 tests goals h hb hne hn0 t l1 hT hsg er ps hR
   ·rw[show item tests goals l= .inr ((x,tests,false),l2)by unfold item;rw[hT];simp only[hsg,hR];rfl];exact uy w rb lb s l ns nv iv e0 tests goals h hb hne hn0 t l1 hT hsg x l2 hR
end Go.Proofs.YthfjnfcekeknlabGreatDoor
namespace af
variable {k:Nat} {l l1:List bX} {t g t1 g1:Bool} {e:Nat×Nat} {x:dq}
theorem CK (h:item t g l= .inl e):items k t g l= .inl e:=by unfold items;rw[h]
theorem CL (h:item t g l= .inr ((x,t1,g1),l1)) (hc:sees l1 [44]=false):items k t g l= .inr (([x],t1,g1),l1):=by unfold items;rw[h];simp[hc]
theorem A4 (h:item t g l= .inr ((x,t1,g1),l1)) (hc:sees l1 [44]=true):items 0 t g l=bad 3 l1:=by unfold items;rw[h];simp[hc]
theorem A3 (h:item t g l= .inr ((x,t1,g1),l1)) (hc:sees l1 [44]=true):items (k+1) t g l=Ay [x] (items k t1 g1 l1.tail):=by rw[items,h];simp only[hc,if_true];rcases items k t1 g1 l1.tail with e | ⟨⟨us,t,g⟩,l2⟩<;>rfl
end af
namespace Go.Proofs.YthfjnfcekeknlabGreatDoor
open Go.RowKit af
variable {w w' w7 w5 w1 w2:World} {N N':List (List UInt8)} {x:dq} {ys:List dq} {cap b0 n rb lb sz b1 cb n' b':Nat} {g nv v' av v c0 c1 c2 t c5 c3 c4:Value} {ns0:List ByteArray} {xs xs':List Value} {e:Int} {s:ByteArray} {C C1 cs:Array Value} {l:List bX} {A X:Obj} {T:TypeId} {o o':Option Addr}
theorem Tryz.Ly:(Tryz.prog.info? 125).map (fun i=>(i.zero,i.size,i.bytes))=some (some (.agg #[.int .i64 0,.int .i64 0,.string ⟨#[]⟩,.slice none 0 0,.string ⟨#[]⟩,.int .i64 0,.int .i64 0,.string ⟨#[]⟩,.slice none 0 0,.string ⟨#[]⟩,.int .i64 0,.int .i64 0,.string ⟨#[]⟩,.slice none 0 0]),14,200):=by kernel_rfl
structure JV where
 a:TV
 b:TV
 c:TV
 sg:ByteArray
 op:ByteArray
def B8 (v:JV):List Value:=[.int .i64 v.a.k,.int .i64 v.a.val,.string v.a.tx,.slice v.a.ao v.a.n v.a.cap,.string v.sg,.int .i64 v.b.k,.int .i64 v.b.val,.string v.b.tx,.slice v.b.ao v.b.n v.b.cap,.string v.op,.int .i64 v.c.k,.int .i64 v.c.val,.string v.c.tx,.slice v.c.ao v.c.n v.c.cap]
theorem CJ (vs:List JV):(vs.flatMap B8).length=vs.length*14:=by
 induction vs with
 | nil=>rfl
 | cons a r ih=>rw[bM,au,ih];simp[B8];omega
structure uk (N:List (List UInt8)) (w:World) (v:JV) (x:dq):Prop where
 left:RA 8 N fk w v.a x.left
 sign:v.sg.toList=x.sign
 right:∀r,x.right=some r->RA 8 N fk w v.b r
 op:v.op.toList=x.op
 last:∀z,x.last=some z->RA 8 N fk w v.c z
theorem uk.keep {v:JV} (h:uk N w v x) (hk:b9 w w'):uk N w' v x:=⟨hk.ra h.left,h.sign,fun r q=>hk.ra (h.right r q),h.op,fun r q=>hk.ra (h.last r q)⟩
theorem uk.more {N:List (List UInt8)} {w:World} {v:JV} {x:dq} (h:uk N w v x) (M:List (List UInt8)):uk (N++M) w v x:=⟨h.left.more M,h.sign,fun r q=>(h.right r q).more M,h.op,fun r q=>(h.last r q).more M⟩
theorem uk.ok {v:JV} (h:uk N w v x):Ot x:=⟨h.left.AL,fun r q=>(h.right r q).AL,fun z q=>(h.last z q).AL⟩
theorem Df.r {ns ns':List ByteArray} {a b c:TV} {sg op:ByteArray} (h:Df ns ns' w' a b c sg op x):uk (dj ns') w' ⟨a,b,c,sg,op⟩ x:=⟨h.left,h.sign,h.right,h.op,h.last⟩
def BW (ns0 ns:List ByteArray) (w:World) (xs:List Value) (ys:List dq):Prop:=(∃vs:List JV,xs=vs.flatMap B8/\eO (uk (dj ns) w) vs ys)/\dj ns=bE (dj ns0) ys
theorem BW.keep {ns0 ns:List ByteArray} {w w':World} {xs:List Value} {ys:List dq} (h:BW ns0 ns w xs ys) (hk:b9 w w'):BW ns0 ns w' xs ys:=by obtain⟨⟨vs,rfl,ha⟩,hn⟩:=h;exact⟨⟨vs,rfl,ha.imp fun _ _ q=>q.keep hk⟩,hn⟩
theorem BW.snoc {ns0 ns ns':List ByteArray} {w:World} {xs:List Value} {ys:List dq} {a b c:TV} {sg op:ByteArray} {x:dq} (h:BW ns0 ns w xs ys) (q:Df ns ns' w a b c sg op x):BW ns0 ns' w (xs++B8 ⟨a,b,c,sg,op⟩) (ys++[x]):=by
 obtain⟨⟨vs,rfl,ha⟩,hn⟩:=h;obtain⟨M,hM,_⟩:=sS x q.r.ok (dj ns);have he:dj ns'=dj ns++M:=q.uv.trans hM;refine⟨⟨vs++[⟨a,b,c,sg,op⟩],by simp,eO.snoc q.r ?_⟩,?_⟩
 ·rw[he];exact ha.imp fun _ _ r=>r.more M
 ·unfold bE;rw[cT,q.uv,hn];rfl
def dV (N:List (List UInt8)) (w:World) (o:Option Addr) (n:Nat) (ys:List dq):Prop:=n=ys.length/\(ys≠[]->∃(g:Nat) (vs:List JV) (cs:Array Value),o=some ⟨g,0,none⟩/\w.heap[g]?=some (.cells cs 125 (0,0))/\cs.toList.take (vs.length*14)=vs.flatMap B8/\eO (uk N w) vs ys)
theorem dV.Cx {ns:List ByteArray} {g:Nat} (h:BW ns0 ns w xs ys) (ho:w.ownsRow b0 125 14 (.slice (some ⟨g,0,none⟩) n cap) n xs):dV (dj ns) w (some ⟨g,0,none⟩) n ys:=by
 obtain⟨⟨vs,rfl,ha⟩,_⟩:=h;have hl:=ho.1;rw[CJ]at hl;have hl':=ha.length;rcases ho.2 with⟨q,_⟩ | ⟨g',cap',cur,q,_,hc,_,_,_,ht⟩
 ·cases q
 ·simp only[aS,aM,qK,J0,OY]at q;obtain⟨rfl,rfl⟩:=q;exact⟨by omega,fun _=>⟨g,vs,cur,rfl,hc,by rw[show vs.length=n by omega];exact ht,ha⟩⟩
def Pp (rb:Nat) (s:ByteArray) (ns:List ByteArray) (r:jM (List dq×Bool×Bool)) (w:World) (e:Ending) (w':World):Prop:=match r with
 | .inl (er,pos)=>∃(l':List bX) (ns':List ByteArray) (nv':Value),e= .returned (.tuple #[.agg #[.slice none 0 0,.bool false,.bool false],.bool false])/\St w' rb s l' ns' nv' (er:Int)/\(af.hd l').pos=pos/\KA rb [rb] w w'
 | .inr ((ys,t1,g1),l1)=>∃(ao:Option Addr) (n cap:Nat) (ns':List ByteArray) (nv':Value) (e':Int),e= .returned (.tuple #[.agg #[.slice ao n cap,.bool t1,.bool g1],.bool true])/\(dV (dj ns') w' ao n ys/\dj ns'=bE (dj ns) ys)/\St w' rb s l1 ns' nv' e'/\KA rb [rb] w w'
def LA (w:World) (rb:Nat) (s:ByteArray) (T G:Bool) (l0:List bX) (ns0:List ByteArray) (k:Nat) (wr:World):Prop:=
 ∃(n:Nat) (xs:List Value) (iv:Value) (t g:Bool) (l:List bX) (ns:List ByteArray) (nv:Value) (e:Int),St wr rb s l ns nv e/\KA rb [rb] w wr/\
  wr.heap[w.heap.size]?=some (.cells #[iv,.bool t,.bool g] 80 (0,0))/\
  wr.heap[w.heap.size+1]?=some (.cells #[.slice none 0 0,.bool false,.bool false] 80 (0,0))/\
  wr.ownsRow (w.heap.size+2) 125 14 iv n xs/\n<=5/\k+n=6/\∃ys:List dq,af.items 5 T G l0=Ay ys (af.items (5 - n) t g l)/\BW ns0 ns wr xs ys
theorem b9.Pc {ns:List ByteArray} (hs:St w rb s l ns nv e) (hb:w.heap[lb]?=some (.cells C 80 (0,0))) (hk:KA rb [rb,lb] w w'):b9 w w':=fun g cs hg hi=>(hk.block g (bd.1 hg).1 (fun q=>by
 rcases bh.1 q with rfl | q
 ·obtain⟨k,r,hc⟩:=hi;have:=hs.rd.c0;simp[World.cell?,hg]at this;rw[<-ci,hc]at this;simp at this
 ·obtain rfl:g=lb:=by simpa using q
  rw[hb]at hg;simp at hg) (aw (by unfold dg;rw[hg];simp))).trans hg
theorem Fo (hb0:w7.heap[lb]?=some (.cells C 80 (0,0))) (ho:w5.ownsRow b0 125 14 av n xs) (hg:((w5.alloc X).alloc A).grownBy w7 av.ownBlock):b9 w5 (w7.setCell ⟨lb,0,none⟩ v'):=
 (((b9.alloc w5 X).trans (b9.alloc _ A)).trans (b9.grown ((ho.alloc X).alloc A) hg)).trans (b9.only ((bJ.refl lb w7).set 0 v') (by unfold dg;rw[hb0];simp))
theorem KS (h:w.ownsRow b0 T sz v n xs) (hk:KA rb [rb,lb] w w1) (hb:rb<b0) (hl:lb<b0) (hT:T≠9):w1.ownsRow b0 T sz v n xs:=
 ⟨h.1,h.2.imp id fun⟨g,cap,cur,a,b,c,d⟩=>⟨g,cap,cur,a,b,(hk.block g (bd.1 c).1 (by simp;omega) (aw (by unfold dg;rw[c];simpa using hT))).trans c,d⟩⟩
theorem Hd (h:w.ownsRow b0 T sz v n xs) (hb:b1<=b0):w.ownsRow b1 T sz v n xs:=
 ⟨h.1,h.2.imp id fun⟨g,cap,cur,a,b,c,d⟩=>⟨g,cap,cur,a,aW hb b,c,d⟩⟩
theorem Hq (W:World) (n:Nat) (A:Array Value) (T:TypeId) (xs:List Value) (hn:n=W.heap.size) (hx:A.toList=xs):∀j u,xs[j]?=some u->(W.alloc (.cells A T)).cell? ((⟨n,0,none⟩:Addr).add j)=some u:=by subst hn hx;intro j u hj;have:=aN (aB W (.cells A T)) j;rw[show (⟨W.heap.size,0,none⟩:Addr).add j=⟨W.heap.size,j,none⟩by cases j<;>simp[Addr.add],this];simpa using hj
theorem Nf (a b c:TV) (op sg:ByteArray):∀u∈([.int .i64 a.k,.int .i64 a.val,.string a.tx,.slice a.ao a.n a.cap,.string sg,.int .i64 b.k,.int .i64 b.val,.string b.tx,.slice b.ao b.n b.cap,.string op,.int .i64 c.k,.int .i64 c.val,.string c.tx,.slice c.ao c.n c.cap]:List Value),u.oneCell'=true:=by simp[Value.oneCell']
theorem Ok {b:Nat} (v:Value) (h:w.heap[b]?=some (.cells #[c0,c1,c2] T (0,0))):
 (w.setCell ⟨b,0,none⟩ v).heap[b]?=some (.cells #[v,c1,c2] T (0,0)):=by
 have:=bB h 0 v;simpa using this
theorem Lx {ns:List ByteArray} (hS:St w5 rb s l ns nv e) (hK:KA rb [rb] w w5) (hr:rb<w.heap.size) (hb0:w5.heap[w.heap.size]?=some (.cells #[av,t,g] 80 (0,0))) (hb1:w5.heap[w.heap.size+1]?=some (.cells C1 80 (0,0))) (ho:w5.ownsRow (w.heap.size+2) 125 14 av n xs) (hg:((w5.alloc X).alloc A).grownBy w7 av.ownBlock) (ho':w7.ownsRow (w.heap.size+2) 125 14 v' (n+1) xs'):
 St (w7.setCell ⟨w.heap.size,0,none⟩ v') rb s l ns nv e/\KA rb [rb] w (w7.setCell ⟨w.heap.size,0,none⟩ v')/\
 (w7.setCell ⟨w.heap.size,0,none⟩ v').heap[w.heap.size]?=some (.cells #[v',t,g] 80 (0,0))/\(w7.setCell ⟨w.heap.size,0,none⟩ v').heap[w.heap.size+1]?=some (.cells C1 80 (0,0))/\
 (w7.setCell ⟨w.heap.size,0,none⟩ v').ownsRow (w.heap.size+2) 125 14 v' (n+1) xs'/\
 w7.heap[w.heap.size]?=some (.cells #[av,t,g] 80 (0,0)):=by
 have hl1:w.heap.size+1<w5.heap.size:=aD hb1;obtain⟨h7,k7⟩:=vS hS hK (Hd ho (by omega)) hr hg;have hB:Below (w.heap.size+2) w5 w7:=((Qx.alloc (by omega) X).alloc (by simp;omega) A).grown hg (by simp;omega) (fun k q=>(ho.lt k q).1);have q0:=(hB.block w.heap.size (by omega)).trans hb0;have q1:=(hB.block (w.heap.size+1) (by omega)).trans hb1;obtain⟨h8,k8⟩:=dy h7 k7 hr Qw q0 ((bJ.refl _ _).set 0 v');exact⟨h8,k8,Ok v' q0,bH q1 (by omega) 0 v',ji ho' (by show w.heap.size<w.heap.size+2;omega) v',q0⟩
theorem nR (w:World) (rb:Nat) (s:ByteArray) (l:List bX) (ns:List ByteArray) (nv:Value) (e0:Int) (tests goals:Bool) (h:St w rb s l ns nv e0):
 Calls Tryz.prog 32 #[.pointer (some ⟨rb,0,none⟩),.agg #[.slice none 0 0,.bool tests,.bool goals]] w fun e w'=>Pp rb s ns (af.items 5 tests goals l) w e w':=by
 have hlt:=h.lt;obtain⟨ti,hi,hz0',hz1',hz2'⟩:=dH Tryz.Ly;have HL:=ah (show LA w rb s tests goals l ns 6 ((w.alloc (.cells #[.slice none 0 0,.bool tests,.bool goals] 80)).alloc (.cells #[.slice none 0 0,.bool false,.bool false] 80))from
  ⟨0,[],.slice none 0 0,tests,goals,l,ns,nv,e0,h.below ((Qx.alloc Qw _).alloc (by simp) _),((KA.refl rb [rb] w).alloc _).alloc _,aQ (aB w _) _,by have:=aB (w.alloc (.cells #[.slice none 0 0,.bool tests,.bool goals] 80)) (.cells #[.slice none 0 0,.bool false,.bool false] 80);rw[aF]at this;exact this,bD _ _ _ _,by omega,by omega,[],(G2 _).symm,⟨[],rfl,trivial⟩,rfl⟩)
 clear h;go_enter Tryz.func32,Tryz.ntmps32;go_wp2_with fail;go_loopg [] 6 (fun k wr=>LA w rb s tests goals l ns k wr)
 case atStart=>exact ae HL
 case round=>
  clear HL;obtain⟨n,xs,iv,t,g,l1,ns1,nv1,e1,hs,hk,hb0,hb1,ho,hn5,hkn,ys,htot,hrow⟩:=hrel;have HROW:=ah hrow;have HSR:=ah hs;clear hrow;have I:=ah (Ih wr rb w.heap.size s l1 ns1 nv1 iv e1 t g hs hb0 (by omega) (by omega));have HK:=ah hk;have HB0:=ah hb0;have HB1:=ah hb1;have HO:=ah ho;have HTOT:=ah htot;have hrw:=hs.lt;clear hs hk hb0 hb1 ho htot;generalize hr:item t g l1=r at I;have HR:=ah hr;clear hr;rcases r with⟨er,pos⟩ | ⟨⟨x,t1,g1⟩,l2⟩
  ·have HF:=ah (show af.items 5 tests goals l= .inl (er,pos)by rw[ae HTOT,CK (ae HR)];rfl)
   go_wp2_with fail;refine(ae I).mono ?_;rintro e w5 ⟨a,b,c,sg,op,l',ns',nv',rfl,hs5,hpos,hk5⟩;have HS5:=ah hs5;have HP:=ah hpos;have HK5:=ah ((((ae HK).mono (Y:=[rb,w.heap.size]) (by simp)).trans hk5).forget (X:=[rb]) (by simp));have HB15:=ah (bf hk5 (ae HB1) (by simp;omega));have r1:=aN (ae HB15);have x1:=bI (ae HB15);have hz1:=aD (ae HB15);clear hs5 hpos hk5;go_wp2_with fail;refine aI (v:= .tuple #[.agg #[.slice none 0 0,.bool false,.bool false],.bool false]) (by simp[results,Tryz.results32,go_sem,hz1,r1]) rfl ?_;rw[ae HF];have R:=dy (ae HS5) (ae HK5) hlt (by omega) (ae HB15) ((((bJ.refl _ _).set 0 (.slice none 0 0)).set 1 (.bool false)).set 2 (.bool false));exact⟨l',ns',nv',rfl,R.1.below (Qx.alloc Qw _),ae HP,R.2.alloc _⟩
  ·go_wp2_with fail;refine(ae I).mono ?_;rintro e w5 ⟨a,b,c,sg,op,ns2,nv2,e2,rfl,hit,hs5,hb05,hk5⟩;have HROW5:=ah (((ae HROW).keep (b9.Pc (ae HSR) (ae HB0) hk5)).snoc hit);clear hit;have HS5:=ah hs5;have HK5:=ah ((((ae HK).mono (Y:=[rb,w.heap.size]) (by simp)).trans hk5).forget (X:=[rb]) (by simp));have HB05:=ah hb05;have HB15:=ah (bf hk5 (ae HB1) (by simp;omega));have HO5:=ah (KS (ae HO) hk5 (by omega) (by omega) (by decide));have r0:=aN (ae HB05);have hz0:=aD (ae HB05);have hz1:=aD (ae HB15);clear hs5 hb05 hk5 HK HB0 HB1 HO HROW HSR;go_wp2_with (first | (at_builtin;go_must (refine pY _ rfl (.tmp 17) (.tmp 19) 54 rfl (w.heap.size+2) 125 ti (.agg #[.int .i64 0,.int .i64 0,.string ⟨#[]⟩,.slice none 0 0,.string ⟨#[]⟩,.int .i64 0,.int .i64 0,.string ⟨#[]⟩,.slice none 0 0,.string ⟨#[]⟩,.int .i64 0,.int .i64 0,.string ⟨#[]⟩,.slice none 0 0]) 14 200 Tryz.underlying54 hi hz0' hz1' hz2' rfl (by decide) _ n xs rfl (((ae HO5).alloc _).alloc _) ⟨w5.heap.size+1,0,none⟩ 1 1 [.int .i64 a.k,.int .i64 a.val,.string a.tx,.slice a.ao a.n a.cap,.string sg,.int .i64 b.k,.int .i64 b.val,.string b.tx,.slice b.ao b.n b.cap,.string op,.int .i64 c.k,.int .i64 c.val,.string c.tx,.slice c.ao c.n c.cap] rfl rfl (Hq _ _ _ _ _ (by simp) rfl) (Nf a b c op sg) (by unfold maxLen;omega) (by omega) (by simp;omega) ?_);go_must (intro v' w7 hown' hgrow _;obtain⟨g',cap',hv,hcm⟩:=fR hown';have HR7:=ah (Lx (ae HS5) (ae HK5) hlt (ae HB05) (ae HB15) (ae HO5) hgrow hown');have HKP7:=ah (Fo (v':=v') (ae HR7).2.2.2.2.2 (ae HO5) hgrow);have z:=aN (ae HR7).2.2.2.2.2;have zx:=bI (ae HR7).2.2.2.2.2;have zz:=aD (ae HR7).2.2.2.2.2;rw[hv]at HR7 HKP7⊢;clear hown' hgrow hv)));have HROW8:=ah ((ae HROW5).keep (ae HKP7));have HS7:=ah (ae HR7).1;have HK7:=ah (ae HR7).2.1;have H07:=ah (ae HR7).2.2.1;have H17:=ah (ae HR7).2.2.2.1;have HO7:=ah (ae HR7).2.2.2.2.1;clear HR7 HKP7 HROW5 z zx zz r0 hz0 hz1 HS5 HK5 HB05 HB15 HO5;generalize w7.setCell ⟨w.heap.size,0,none⟩ (.slice (some ⟨g',0,none⟩) (n+1) cap')=w8 at*;refine(cY _ rb s l2 ns2 nv2 e2 _ (ae HS7)).mono ?_;rintro e w9 ⟨rfl,hw⟩;rw[hw];simp only[aV];clear hw w9;have y0:=aN (ae H07);have y1:=aN (ae H17);have y1x:=bI (ae H17);have hv0:=aD (ae H07);have hv1:=aD (ae H17);cases hc:sees l2 [44]
   ·have HF:=ah (show af.items 5 tests goals l= .inr ((ys++[x],t1,g1),l2)by rw[ae HTOT,CL (ae HR) hc];rfl)
    go_wp2_with fail;refine aI (v:= .tuple #[.agg #[.slice (some ⟨g',0,none⟩) (n+1) cap',.bool t1,.bool g1],.bool true]) (by simp[results,Tryz.results32,go_sem,y1]) rfl ?_;rw[ae HF];have RP:=vP (ae HS7) (ae HK7) hlt (by omega) (ae H17) ((((bJ.refl _ _).set 0 (.slice (some ⟨g',0,none⟩) (n+1) cap')).set 1 (.bool t1)).set 2 (.bool g1));have R:=RP.1;have HOf:=ji (a:=⟨w.heap.size+1,2,none⟩) (ji (a:=⟨w.heap.size+1,1,none⟩) (ji (a:=⟨w.heap.size+1,0,none⟩) (ae HO7) (by show w.heap.size+1<w.heap.size+2;omega) (.slice (some ⟨g',0,none⟩) (n+1) cap')) (by show w.heap.size+1<w.heap.size+2;omega) (.bool t1)) (by show w.heap.size+1<w.heap.size+2;omega) (.bool g1);exact⟨some ⟨g',0,none⟩,n+1,cap',ns2,nv2,e2,rfl,⟨dV.Cx ((ae HROW8).keep RP.2) HOf,(ae HROW8).2⟩,R.1,R.2⟩
   ·have hk5:=ah (show (af.hd l2).kind≠0 by rw[d8 hc];omega)
    go_wp2_with fail;rw[show ((n:Int)+1)=((n+1:Nat):Int)by omega];refine(vJ _ rb s l2 ns2 nv2 e2 (n+1) 6 (ae HS7) (ae hk5)).mono ?_;by_cases hn:n+1<6
    ·have HF:=ah (show af.items 5 tests goals l=Ay (ys++[x]) (af.items (5 - (n+1)) t1 g1 l2.tail)by rw[ae HTOT,show 5 - n=(5 - (n+1))+1 by omega,A3 (ae HR) hc,E0])
     rw[aH hn,aH hn,eN hn];rintro e wa ⟨rfl,hsa,hka⟩;have HROWa:=ah ((ae HROW8).keep (b9.ka (ae HS7) hka));have HSa:=ah hsa;have HKa:=ah ((ae HK7).trans hka);have H0a:=ah (bf hka (ae H07) (by simp;omega));have H1a:=ah (bf hka (ae H17) (by simp;omega));have HOa:=ah (sG (ae HO7) hka (by omega) (by decide));clear hsa hka;go_wp2_with fail;go_roundg (gk - 1)
     case measure=>omega
     case rel=>exact⟨n+1,_,_,t1,g1,l2.tail,ns2,nv2,e2,ae HSa,ae HKa,ae H0a,ae H1a,ae HOa,by omega,by omega,_,ae HF,ae HROWa⟩
    ·have HF:=ah (show af.items 5 tests goals l= .inl (3,(af.hd l2).pos)by rw[ae HTOT,show 5 - n=0 by omega,A4 (ae HR) hc];rfl)
     rw[aG hn,aG hn,dK hn];rintro e wa ⟨rfl,hsa,hka⟩;have HSa:=ah hsa;have HKa:=ah ((ae HK7).trans hka);have H1a:=ah (bf hka (ae H17) (by simp;omega));clear hsa hka y0 y1 y1x hv0 hv1;have z1:=aN (ae H1a);have z1x:=bI (ae H1a);have hzz:=aD (ae H1a);go_wp2_with fail;refine aI (v:= .tuple #[.agg #[.slice none 0 0,.bool false,.bool false],.bool false]) (by simp[results,Tryz.results32,go_sem,z1]) rfl ?_;rw[ae HF];have R:=dy (ae HSa) (ae HKa) hlt (by omega) (ae H1a) ((((bJ.refl _ _).set 0 (.slice none 0 0)).set 1 (.bool false)).set 2 (.bool false));exact⟨l2,ns2,nv2,rfl,R.1,rfl,R.2⟩
def OT (w w':World):Prop:=∀(g:Nat) (cs:Array Value),w.heap[g]?=some (.cells cs 125 (0,0))->(∃k r,cs.toList= .int .i64 k :: r)->w'.heap[g]?=some (.cells cs 125 (0,0))
structure cK (w w':World):Prop where
 a:b9 w w'
 j:OT w w'
theorem cK.trans {u v w:World} (h:cK u v) (k:cK v w):cK u w:=⟨h.a.trans k.a,fun g cs a b=>k.j g cs (h.j g cs a b) b⟩
theorem cK.below {w w':World} (h:Below w.heap.size w w'):cK w w':=⟨b9.below h,fun g _ a _=>(h.block g (bd.1 a).1).trans a⟩
theorem cK.alloc (w:World) (o:Obj):cK w (w.alloc o):=cK.below (Qx.alloc Qw o)
theorem cK.Cw {b:Nat} (hb:w.heap[b]?=some (.cells cs T (0,0))) (ho:bJ b w w') (hT:T≠74:=by decide) (hJ:T≠125:=by decide):cK w w':=
 ⟨b9.only ho (by unfold dg;rw[hb];simpa using hT),fun g cs' hg _=>(ho.block g (fun q=>by subst q;rw[hb]at hg;simp at hg;exact hJ hg.2)).trans hg⟩
theorem cK.ka {w w':World} {rb:Nat} {s:ByteArray} {l:List bX} {ns:List ByteArray} {nv:Value} {e:Int} (hs:St w rb s l ns nv e) (hk:KA rb [rb] w w'):cK w w':=
 ⟨b9.ka hs hk,fun g cs hg hi=>(hk.block g (bd.1 hg).1 (fun q=>by
  obtain rfl:g=rb:=by simpa using q
  obtain⟨k,r,hc⟩:=hi;have:=hs.rd.c0;simp[World.cell?,hg]at this;rw[<-ci,hc]at this;simp at this) (aw (by unfold dg;rw[hg];simp))).trans hg⟩
theorem cK.Pc {ns:List ByteArray} (hs:St w rb s l ns nv e) (hb:w.heap[cb]?=some (.cells C 76 (0,0))) (hk:KA rb [rb,cb] w w'):cK w w':=
 ⟨fun g cs hg hi=>(hk.block g (bd.1 hg).1 (fun q=>by
  rcases bh.1 q with rfl | q
  ·obtain⟨k,r,hc⟩:=hi;have:=hs.rd.c0;simp[World.cell?,hg]at this;rw[<-ci,hc]at this;simp at this
  ·obtain rfl:g=cb:=by simpa using q
   rw[hb]at hg;simp at hg) (aw (by unfold dg;rw[hg];simp))).trans hg,
  fun g cs hg hi=>(hk.block g (bd.1 hg).1 (fun q=>by
   rcases bh.1 q with rfl | q
   ·obtain⟨k,r,hc⟩:=hi;have:=hs.rd.c0;simp[World.cell?,hg]at this;rw[<-ci,hc]at this;simp at this
   ·obtain rfl:g=cb:=by simpa using q
    rw[hb]at hg;simp at hg) (aw (by unfold dg;rw[hg];simp))).trans hg⟩
theorem dV.keep {N:List (List UInt8)} {w w':World} {o:Option Addr} {n:Nat} {ys:List dq} (h:dV N w o n ys) (hk:cK w w'):dV N w' o n ys:=by
 refine⟨h.1,fun q=> ?_⟩;obtain⟨g,vs,cs,h1,h2,h3,h4⟩:=h.2 q;refine⟨g,vs,cs,h1,hk.j g cs h2 ?_,h3,h4.imp fun _ _ r=>r.keep hk.a⟩;cases vs with
 | nil=>have:=h4.length;simp at this;exact absurd (ch.1 this.symm) q
 | cons v vs=>
  cases hc:cs.toList with
  | nil=>rw[hc]at h3;simp[B8]at h3
  | cons c r=>rw[hc]at h3;simp only[aT,d9,j9,bM,B8,dN,cu]at h3;injection h3 with h3 _;exact⟨_,r,by rw[h3]⟩
theorem dV.none (N:List (List UInt8)) (w:World):dV N w Option.none 0 []:=⟨rfl,fun q=>absurd rfl q⟩
theorem BQ {N:List (List UInt8)} {w:World}:∀(vs:List JV) (ys:List dq),eO (uk N w) vs ys->∀y∈ys,Ot y
 | [],[],_,_,h=>by cases h
 | [],_ :: _,h,_,_=>h.elim
 | _ :: _,[],_,_,h=>by cases h
 | v :: vs,y :: ys,h,z,hz=>by
  rcases bh.1 hz with rfl | hz
  ·exact h.1.ok
  ·exact BQ vs ys h.2 z hz
theorem dV.ok (h:dV N w o n ys):∀y∈ys,Ot y:=by intro y hy;obtain⟨g,vs,cs,_,_,_,h4⟩:=h.2 (fun e=>by rw[e]at hy;cases hy);exact BQ vs ys h4 y hy
theorem dV.more {N:List (List UInt8)} {w:World} {o:Option Addr} {n:Nat} {ys:List dq} (h:dV N w o n ys) (M:List (List UInt8)):dV (N++M) w o n ys:=
 ⟨h.1,fun q=>by obtain⟨g,vs,cs,h1,h2,h3,h4⟩:=h.2 q;exact⟨g,vs,cs,h1,h2,h3,h4.imp fun _ _ r=>r.more M⟩⟩
theorem dV.behind {xs:List dq} (h:dV N w o n xs) (k:dV N' w' o' n' ys) (hn:N'=bE N ys):dV N' w o n xs:=by obtain⟨M,hM,_⟩:=qE ys k.ok N;rw[hn];unfold bE;rw[hM];exact h.more M
structure OX (ns ns':List ByteArray) (w:World) (o1:Option Addr) (n1:Nat) (o2:Option Addr) (n2:Nat) (r:List dq×List dq):Prop where
 tests:dV (dj ns') w o1 n1 r.1
 goals:dV (dj ns') w o2 n2 r.2
 uv:dj ns'=bE (bE (dj ns) r.1) r.2
def FX (rb cb:Nat) (h0 h1 h2 h3:Value) (s:ByteArray) (ns:List ByteArray) (r:jM (List dq×List dq)) (w:World) (e:Ending) (w':World):Prop:=match r with
 | .inl (er,pos)=>∃(l':List bX) (ns':List ByteArray) (nv':Value) (o1:Option Addr) (n1 c1:Nat) (o2:Option Addr) (n2 c2:Nat),
  e= .returned (.bool false)/\St w' rb s l' ns' nv' (er:Int)/\(af.hd l').pos=pos/\w'.heap[cb]?=some (.cells #[h0,h1,h2,h3,.slice o1 n1 c1,.slice o2 n2 c2] 76 (0,0))/\KA rb [rb,cb] w w'
 | .inr (xy,l1)=>∃(ns':List ByteArray) (nv':Value) (e':Int) (o1:Option Addr) (n1 c1:Nat) (o2:Option Addr) (n2 c2:Nat),
  e= .returned (.bool true)/\OX ns ns' w' o1 n1 o2 n2 xy/\St w' rb s l1 ns' nv' e'/\w'.heap[cb]?=some (.cells #[h0,h1,h2,h3,.slice o1 n1 c1,.slice o2 n2 c2] 76 (0,0))/\KA rb [rb,cb] w w'
theorem Ml {b:Nat} (v:Value) (h:w.heap[b]?=some (.cells #[c0,c1,c2,c3,c4,c5] T (0,0))):
 (w.setCell ⟨b,4,none⟩ v).heap[b]?=some (.cells #[c0,c1,c2,c3,v,c5] T (0,0)):=by
 have:=bB h 4 v;simpa using this
theorem uY {b:Nat} (v:Value) (h:w.heap[b]?=some (.cells #[c0,c1,c2,c3,c4,c5] T (0,0))):
 (w.setCell ⟨b,5,none⟩ v).heap[b]?=some (.cells #[c0,c1,c2,c3,c4,v] T (0,0)):=by
 have:=bB h 5 v;simpa using this
theorem GJ {b:Nat} (v0 v1 v2 v3:Value) (h:w.heap[b]?=some (.cells #[c0,c1,c2,c3,c4,c5] T (0,0))):
 ((((w.setCell ⟨b,0,none⟩ v0).setCell ⟨b,1,none⟩ v1).setCell ⟨b,2,none⟩ v2).setCell ⟨b,3,none⟩ v3).heap[b]?=some (.cells #[v0,v1,v2,v3,c4,c5] T (0,0)):=by
 have:=bB (bB (bB (bB h 0 v0) 1 v1) 2 v2) 3 v3;simpa using this
theorem vk {b:Nat} {x:Obj} (v0 v1 v2:Value) (h:w.heap[b']?=some x) (hne:b'≠b):
 (((w.setCell ⟨b,0,none⟩ v0).setCell ⟨b,1,none⟩ v1).setCell ⟨b,2,none⟩ v2).heap[b']?=some x:=
 bH (bH (bH h hne 0 v0) hne 1 v1) hne 2 v2
theorem ls {ns:List ByteArray} (h:St w1 rb s l ns nv e) (hk:KA rb [rb,cb] w w1) (hne:cb≠rb) (hn0:cb≠0) (hc:w1.heap[cb]?=some (.cells cs 76 (0,0))) (ho:bJ cb w1 w2):
 St w2 rb s l ns nv e/\KA rb [rb,cb] w w2:=
 ⟨h.only ho hne hn0 (by unfold dg;rw[hc];simp),hk.Nd ho (by simp)⟩
theorem nN {b:Nat} {ns:List ByteArray} (h:St w1 rb s l ns nv e) (hk:KA rb [rb,cb] w w1) (hlt:rb<w.heap.size) (hb:w.heap.size<=b) (hc:w1.heap[b]?=some (.cells cs 80 (0,0))) (ho:bJ b w1 w2):
 St w2 rb s l ns nv e/\KA rb [rb,cb] w w2:=
 ⟨h.only ho (by omega) (by omega) (by unfold dg;rw[hc];simp),hk.fI ho hb⟩
theorem BD (w:World) (rb cb:Nat) (h0 h1 h2 h3:Value) (s:ByteArray) (l:List bX) (ns:List ByteArray) (nv:Value) (e0:Int) (h:St w rb s l ns nv e0) (hb:w.heap[cb]?=some (.cells #[h0,h1,h2,h3,.slice none 0 0,.slice none 0 0] 76 (0,0))) (hne:cb≠rb) (hn0:cb≠0):
 Calls Tryz.prog 64 #[.pointer (some ⟨rb,0,none⟩),.pointer (some ⟨cb,0,none⟩)] w fun e w'=>FX rb cb h0 h1 h2 h3 s ns (af.body l) w e w':=by
 have hlt:=h.lt;have hlc:=aD hb;have HB:=ah hb;have I:=ah (nR w rb s l ns nv e0 true true h);clear h hb;generalize hr:af.items 5 true true l=r at I;have HR:=ah hr;clear hr;rcases r with⟨er,pos⟩ | ⟨⟨xs,t1,g1⟩,l1⟩
 ·have HF:=ah (show af.body l= .inl (er,pos)from Jk (ae HR))
  go_enter Tryz.func64,Tryz.ntmps64;go_wp2_with fail;refine(ae I).mono ?_;rintro e w1 ⟨l',ns',nv',rfl,hs1,hpos,hk1⟩;have HS1:=ah hs1;have HP:=ah hpos;have HK1:=ah hk1;have HB1:=ah (bf hk1 (ae HB) (by simp;omega));clear hs1 hpos hk1;go_wp2_with fail;go_ret;refine(?_:FX rb cb h0 h1 h2 h3 s ns _ w _ _);rw[ae HF];exact⟨l',ns',nv',none,0,0,none,0,0,rfl,(ae HS1).below (Qx.alloc Qw _),ae HP,aQ (ae HB1) _,((ae HK1).wide).alloc _⟩
 ·go_enter Tryz.func64,Tryz.ntmps64;go_wp2_with fail;refine(ae I).mono ?_;rintro e w1 ⟨ao,n,cap,ns1,nv1,e1,rfl,⟨hi1,hn1⟩,hs1,hk1⟩;have HI1:=ah hi1;have HN1:=ah hn1;clear hi1 hn1;have HS1:=ah hs1;have HK1:=ah (hk1.wide (lb:=cb));have HB1:=ah (bf hk1 (ae HB) (by simp;omega));have hlt1:rb<w1.heap.size:=hs1.lt;have hlc1:cb<w1.heap.size:=aD (ae HB1);have hlw1:w.heap.size<=w1.heap.size:=hk1.size;clear hs1 hk1;cases t1
  ·cases g1
   ·have HF:=ah (show af.body l= .inl (2,(af.hd l1).pos)from oj (ae HR) (by simp))
    have HS2:=ah ((ae HS1).below (Qx.alloc Qw (.cells #[.slice ao n cap,.bool false,.bool false] 80)));have HK2:=ah ((ae HK1).alloc (.cells #[.slice ao n cap,.bool false,.bool false] 80));have HB2:=ah (aQ (ae HB1) (.cells #[.slice ao n cap,.bool false,.bool false] 80));have HL2:=ah (aB w1 (.cells #[.slice ao n cap,.bool false,.bool false] 80));have HI2:=ah ((ae HI1).keep (cK.alloc _ (.cells #[.slice ao n cap,.bool false,.bool false] 80)));go_wp2_with fail;refine(dr _ rb s l1 ns1 nv1 e1 2 (ae HS2)).mono ?_;rintro e wz ⟨rfl,hsz,hkz⟩;have HSz:=ah hsz;have HKz:=ah ((ae HK2).trans hkz.wide);have HBz:=ah (bf hkz (ae HB2) (by simp;omega));clear hsz hkz;go_wp2_with fail;go_ret;refine(?_:FX rb cb h0 h1 h2 h3 s ns _ w _ _);rw[ae HF];exact⟨l1,ns1,nv1,none,0,0,none,0,0,rfl,ae HSz,rfl,ae HBz,ae HKz⟩
   ·have HF:=ah (show af.body l= .inr (([],xs),l1)from tP (ae HR) (by simp))
    have rc:=aN (ae HB1);have xc:=bI (ae HB1);go_wp2_with fail;go_ret;refine(?_:FX rb cb h0 h1 h2 h3 s ns _ w _ _);rw[ae HF];have R:=ls (ae HS1) (ae HK1) hne hn0 (ae HB1) ((bJ.refl _ _).set 5 (.slice ao n cap));exact⟨ns1,nv1,e1,none,0,0,ao,n,cap,rfl,⟨dV.none _ _,(ae HI1).keep ((cK.Cw (ae HB1) ((bJ.refl cb w1).set 5 (.slice ao n cap))).trans (cK.alloc _ _)),ae HN1⟩,R.1.below (Qx.alloc Qw _),aQ (uY (.slice ao n cap) (ae HB1)) _,R.2.alloc _⟩
  ·cases g1
   ·have HS2:=ah ((ae HS1).below (Qx.alloc Qw (.cells #[.slice ao n cap,.bool true,.bool false] 80)));have HK2:=ah ((ae HK1).alloc (.cells #[.slice ao n cap,.bool true,.bool false] 80));have HB2:=ah (aQ (ae HB1) (.cells #[.slice ao n cap,.bool true,.bool false] 80));have HL2:=ah (aB w1 (.cells #[.slice ao n cap,.bool true,.bool false] 80));have HI2:=ah ((ae HI1).keep (cK.alloc _ (.cells #[.slice ao n cap,.bool true,.bool false] 80)));go_wp2_with fail;refine(cY _ rb s l1 ns1 nv1 e1 _ (ae HS2)).mono ?_;rintro e w9 ⟨rfl,hw⟩;rw[hw];simp only[aV];clear hw w9;generalize hbb:w1.heap.size=bb at*;generalize hw2:w1.alloc (.cells #[.slice ao n cap,.bool true,.bool false] 80)=w2 at*;clear hbb hw2;have r2:=aN (ae HL2);have hzl:=aD (ae HL2);have rc:=aN (ae HB2);have xc:=bI (ae HB2);have hzc:=aD (ae HB2);cases hbar:sees l1 [124]
    ·have HF:=ah (show af.body l= .inl (2,(af.hd l1).pos)from oj (ae HR) (by simp[hbar]))
     go_wp2_with fail;refine(dr _ rb s l1 ns1 nv1 e1 2 (ae HS2)).mono ?_;rintro e wz ⟨rfl,hsz,hkz⟩;have HSz:=ah hsz;have HKz:=ah ((ae HK2).trans hkz.wide);have HBz:=ah (bf hkz (ae HB2) (by simp;omega));clear hsz hkz;go_wp2_with fail;go_ret;refine(?_:FX rb cb h0 h1 h2 h3 s ns _ w _ _);rw[ae HF];exact⟨l1,ns1,nv1,none,0,0,none,0,0,rfl,ae HSz,rfl,ae HBz,ae HKz⟩
    ·have hkj:=ah (show (af.hd l1).kind≠0 by rw[d8 hbar];omega)
     go_wp2_with fail;refine(f' _ rb s l1 ns1 nv1 e1 (ae HS2) (ae hkj)).mono ?_;rintro e w3 ⟨rfl,hs3,hk3⟩;have HS3:=ah hs3;have HI3:=ah ((ae HI2).keep (cK.ka (ae HS2) hk3));have HK3:=ah ((ae HK2).trans hk3.wide);have HB3:=ah (bf hk3 (ae HB2) (by simp;omega));have HL3:=ah (bf hk3 (ae HL2) (by simp;omega));clear hs3 hk3 r2 hzl rc xc hzc;have r3:=aN (ae HL3);have hz3:=aD (ae HL3);have rc3:=aN (ae HB3);have xc3:=bI (ae HB3);have hc3:=aD (ae HB3);have R4:=ah (ls (ae HS3) (ae HK3) hne hn0 (ae HB3) ((bJ.refl _ _).set 4 (.slice ao n cap)));have HB4:=ah (Ml (.slice ao n cap) (ae HB3));have HI4:=ah ((ae HI3).keep (cK.Cw (ae HB3) ((bJ.refl cb w3).set 4 (.slice ao n cap))));have HL4:=ah (bH (ae HL3) (show bb≠cb by omega) 4 (.slice ao n cap))
     go_wp2_with fail;clear r3 hz3 rc3 xc3 hc3;generalize w3.setCell ⟨cb,4,none⟩ (.slice ao n cap)=w4 at*;have J:=ah (nR w4 rb s l1.tail ns1 nv1 e1 false true (ae R4).1);generalize hr2:af.items 5 false true l1.tail=r2 at J;have HR2:=ah hr2;clear hr2;refine(ae J).mono ?_;rcases r2 with⟨er,pos⟩ | ⟨⟨ys,t5,g5⟩,l5⟩
     ·have HF:=ah (show af.body l= .inl (er,pos)from pI (ae HR) hbar (ae HR2))
      rintro e w5 ⟨l',ns',nv',rfl,hs5,hpos,hk5⟩;have HP:=ah hpos;clear hpos;have HS5:=ah hs5;have HK5:=ah ((ae R4).2.trans hk5.wide);have HB5:=ah (bf hk5 (ae HB4) (by simp;omega));have HL5:=ah (bf hk5 (ae HL4) (by simp;omega));have r5:=aN (ae HL5);have x5:=bI (ae HL5);have hz5:=aD (ae HL5);have rc5:=aN (ae HB5);have xc5:=bI (ae HB5);have hc5:=aD (ae HB5);clear hs5 hk5;have R6:=ah (nN (ae HS5) (ae HK5) hlt (by omega) (ae HL5) ((((bJ.refl _ _).set 0 (.slice none 0 0)).set 1 (.bool false)).set 2 (.bool false)));have HS6:=ah (ae R6).1;have HK6:=ah (ae R6).2;have HB6:=ah (vk (.slice none 0 0) (.bool false) (.bool false) (ae HB5) (show cb≠bb by omega))
      go_wp2_with fail;go_ret;refine(?_:FX rb cb h0 h1 h2 h3 s ns _ w _ _);rw[ae HF];have R:=ls (ae HS6) (ae HK6) hne hn0 (ae HB6) ((bJ.refl _ _).set 5 (.slice none 0 0));exact⟨l',ns',nv',ao,n,cap,none,0,0,rfl,R.1,ae HP,uY (.slice none 0 0) (ae HB6),R.2⟩
     ·rintro e w5 ⟨ao5,n5,cap5,ns5,nv5,e5,rfl,⟨hi5,hn5⟩,hs5,hk5⟩;have HI5:=ah (dV.behind ((ae HI4).keep (cK.ka (ae R4).1 hk5)) hi5 hn5);have HJ5:=ah hi5;have HN5:Hid (dj ns5=bE (bE (dj ns) xs) ys):=ah (by rw[hn5,ae HN1]);clear hi5 hn5;have HS5:=ah hs5;have HK5:=ah ((ae R4).2.trans hk5.wide);have HB5:=ah (bf hk5 (ae HB4) (by simp;omega));have HL5:=ah (bf hk5 (ae HL4) (by simp;omega));have r5:=aN (ae HL5);have x5:=bI (ae HL5);have hz5:=aD (ae HL5);have rc5:=aN (ae HB5);have xc5:=bI (ae HB5);have hc5:=aD (ae HB5);clear hs5 hk5;cases g5
      ·have HF:=ah (show af.body l= .inl (2,(af.hd l5).pos)from qW (ae HR) hbar (ae HR2))
       have R6:=ah (nN (ae HS5) (ae HK5) hlt (by omega) (ae HL5) ((((bJ.refl _ _).set 0 (.slice ao5 n5 cap5)).set 1 (.bool t5)).set 2 (.bool false)));have HS6:=ah (ae R6).1;have HK6:=ah (ae R6).2;have HB6:=ah (vk (.slice ao5 n5 cap5) (.bool t5) (.bool false) (ae HB5) (show cb≠bb by omega))
       go_wp2_with fail;refine(dr _ rb s l5 ns5 nv5 e5 2 (ae HS6)).mono ?_;rintro e wz ⟨rfl,hsz,hkz⟩;have HSz:=ah hsz;have HKz:=ah ((ae HK6).trans hkz.wide);have HBz:=ah (bf hkz (ae HB6) (by simp;omega));clear hsz hkz;go_wp2_with fail;go_ret;refine(?_:FX rb cb h0 h1 h2 h3 s ns _ w _ _);rw[ae HF];exact⟨l5,ns5,nv5,ao,n,cap,none,0,0,rfl,ae HSz,rfl,ae HBz,ae HKz⟩
      ·have HF:=ah (show af.body l= .inr ((xs,ys),l5)from BC (ae HR) hbar (ae HR2))
       have R6:=ah (nN (ae HS5) (ae HK5) hlt (by omega) (ae HL5) ((((bJ.refl _ _).set 0 (.slice ao5 n5 cap5)).set 1 (.bool t5)).set 2 (.bool true)));have HS6:=ah (ae R6).1;have HK6:=ah (ae R6).2;have HB6:=ah (vk (.slice ao5 n5 cap5) (.bool t5) (.bool true) (ae HB5) (show cb≠bb by omega))
       go_wp2_with fail;go_ret;refine(?_:FX rb cb h0 h1 h2 h3 s ns _ w _ _);rw[ae HF];have R:=ls (ae HS6) (ae HK6) hne hn0 (ae HB6) ((bJ.refl _ _).set 5 (.slice ao5 n5 cap5));have KK:=(cK.Cw (ae HL5) ((((bJ.refl _ _).set 0 (.slice ao5 n5 cap5)).set 1 (.bool t5)).set 2 (.bool true))).trans (cK.Cw (ae HB6) ((bJ.refl _ _).set 5 (.slice ao5 n5 cap5)));exact⟨ns5,nv5,e5,ao,n,cap,ao5,n5,cap5,rfl,⟨(ae HI5).keep KK,(ae HJ5).keep KK,ae HN5⟩,R.1,(uY (.slice ao5 n5 cap5) (ae HB6)),R.2⟩
   ·have HS2:=ah ((ae HS1).below (Qx.alloc Qw (.cells #[.slice ao n cap,.bool true,.bool true] 80)));have HK2:=ah ((ae HK1).alloc (.cells #[.slice ao n cap,.bool true,.bool true] 80));have HB2:=ah (aQ (ae HB1) (.cells #[.slice ao n cap,.bool true,.bool true] 80));have HL2:=ah (aB w1 (.cells #[.slice ao n cap,.bool true,.bool true] 80));have HI2:=ah ((ae HI1).keep (cK.alloc _ (.cells #[.slice ao n cap,.bool true,.bool true] 80)));go_wp2_with fail;refine(cY _ rb s l1 ns1 nv1 e1 _ (ae HS2)).mono ?_;rintro e w9 ⟨rfl,hw⟩;rw[hw];simp only[aV];clear hw w9;generalize hbb:w1.heap.size=bb at*;generalize hw2:w1.alloc (.cells #[.slice ao n cap,.bool true,.bool true] 80)=w2 at*;clear hbb hw2;have r2:=aN (ae HL2);have hzl:=aD (ae HL2);have rc:=aN (ae HB2);have xc:=bI (ae HB2);have hzc:=aD (ae HB2);cases hbar:sees l1 [124]
    ·have HF:=ah (show af.body l= .inr (([],xs),l1)from tP (ae HR) (by simp[hbar]))
     go_wp2_with fail;go_ret;refine(?_:FX rb cb h0 h1 h2 h3 s ns _ w _ _);rw[ae HF];have R:=ls (ae HS2) (ae HK2) hne hn0 (ae HB2) ((bJ.refl _ _).set 5 (.slice ao n cap));exact⟨ns1,nv1,e1,none,0,0,ao,n,cap,rfl,⟨dV.none _ _,(ae HI2).keep (cK.Cw (ae HB2) ((bJ.refl cb w2).set 5 (.slice ao n cap))),ae HN1⟩,R.1,(uY (.slice ao n cap) (ae HB2)),R.2⟩
    ·have hkj:=ah (show (af.hd l1).kind≠0 by rw[d8 hbar];omega)
     go_wp2_with fail;refine(f' _ rb s l1 ns1 nv1 e1 (ae HS2) (ae hkj)).mono ?_;rintro e w3 ⟨rfl,hs3,hk3⟩;have HS3:=ah hs3;have HI3:=ah ((ae HI2).keep (cK.ka (ae HS2) hk3));have HK3:=ah ((ae HK2).trans hk3.wide);have HB3:=ah (bf hk3 (ae HB2) (by simp;omega));have HL3:=ah (bf hk3 (ae HL2) (by simp;omega));clear hs3 hk3 r2 hzl rc xc hzc;have r3:=aN (ae HL3);have hz3:=aD (ae HL3);have rc3:=aN (ae HB3);have xc3:=bI (ae HB3);have hc3:=aD (ae HB3);have R4:=ah (ls (ae HS3) (ae HK3) hne hn0 (ae HB3) ((bJ.refl _ _).set 4 (.slice ao n cap)));have HB4:=ah (Ml (.slice ao n cap) (ae HB3));have HI4:=ah ((ae HI3).keep (cK.Cw (ae HB3) ((bJ.refl cb w3).set 4 (.slice ao n cap))));have HL4:=ah (bH (ae HL3) (show bb≠cb by omega) 4 (.slice ao n cap))
     go_wp2_with fail;clear r3 hz3 rc3 xc3 hc3;generalize w3.setCell ⟨cb,4,none⟩ (.slice ao n cap)=w4 at*;have J:=ah (nR w4 rb s l1.tail ns1 nv1 e1 false true (ae R4).1);generalize hr2:af.items 5 false true l1.tail=r2 at J;have HR2:=ah hr2;clear hr2;refine(ae J).mono ?_;rcases r2 with⟨er,pos⟩ | ⟨⟨ys,t5,g5⟩,l5⟩
     ·have HF:=ah (show af.body l= .inl (er,pos)from pI (ae HR) hbar (ae HR2))
      rintro e w5 ⟨l',ns',nv',rfl,hs5,hpos,hk5⟩;have HP:=ah hpos;clear hpos;have HS5:=ah hs5;have HK5:=ah ((ae R4).2.trans hk5.wide);have HB5:=ah (bf hk5 (ae HB4) (by simp;omega));have HL5:=ah (bf hk5 (ae HL4) (by simp;omega));have r5:=aN (ae HL5);have x5:=bI (ae HL5);have hz5:=aD (ae HL5);have rc5:=aN (ae HB5);have xc5:=bI (ae HB5);have hc5:=aD (ae HB5);clear hs5 hk5;have R6:=ah (nN (ae HS5) (ae HK5) hlt (by omega) (ae HL5) ((((bJ.refl _ _).set 0 (.slice none 0 0)).set 1 (.bool false)).set 2 (.bool false)));have HS6:=ah (ae R6).1;have HK6:=ah (ae R6).2;have HB6:=ah (vk (.slice none 0 0) (.bool false) (.bool false) (ae HB5) (show cb≠bb by omega))
      go_wp2_with fail;go_ret;refine(?_:FX rb cb h0 h1 h2 h3 s ns _ w _ _);rw[ae HF];have R:=ls (ae HS6) (ae HK6) hne hn0 (ae HB6) ((bJ.refl _ _).set 5 (.slice none 0 0));exact⟨l',ns',nv',ao,n,cap,none,0,0,rfl,R.1,ae HP,uY (.slice none 0 0) (ae HB6),R.2⟩
     ·rintro e w5 ⟨ao5,n5,cap5,ns5,nv5,e5,rfl,⟨hi5,hn5⟩,hs5,hk5⟩;have HI5:=ah (dV.behind ((ae HI4).keep (cK.ka (ae R4).1 hk5)) hi5 hn5);have HJ5:=ah hi5;have HN5:Hid (dj ns5=bE (bE (dj ns) xs) ys):=ah (by rw[hn5,ae HN1]);clear hi5 hn5;have HS5:=ah hs5;have HK5:=ah ((ae R4).2.trans hk5.wide);have HB5:=ah (bf hk5 (ae HB4) (by simp;omega));have HL5:=ah (bf hk5 (ae HL4) (by simp;omega));have r5:=aN (ae HL5);have x5:=bI (ae HL5);have hz5:=aD (ae HL5);have rc5:=aN (ae HB5);have xc5:=bI (ae HB5);have hc5:=aD (ae HB5);clear hs5 hk5;cases g5
      ·have HF:=ah (show af.body l= .inl (2,(af.hd l5).pos)from qW (ae HR) hbar (ae HR2))
       have R6:=ah (nN (ae HS5) (ae HK5) hlt (by omega) (ae HL5) ((((bJ.refl _ _).set 0 (.slice ao5 n5 cap5)).set 1 (.bool t5)).set 2 (.bool false)));have HS6:=ah (ae R6).1;have HK6:=ah (ae R6).2;have HB6:=ah (vk (.slice ao5 n5 cap5) (.bool t5) (.bool false) (ae HB5) (show cb≠bb by omega))
       go_wp2_with fail;refine(dr _ rb s l5 ns5 nv5 e5 2 (ae HS6)).mono ?_;rintro e wz ⟨rfl,hsz,hkz⟩;have HSz:=ah hsz;have HKz:=ah ((ae HK6).trans hkz.wide);have HBz:=ah (bf hkz (ae HB6) (by simp;omega));clear hsz hkz;go_wp2_with fail;go_ret;refine(?_:FX rb cb h0 h1 h2 h3 s ns _ w _ _);rw[ae HF];exact⟨l5,ns5,nv5,ao,n,cap,none,0,0,rfl,ae HSz,rfl,ae HBz,ae HKz⟩
      ·have HF:=ah (show af.body l= .inr ((xs,ys),l5)from BC (ae HR) hbar (ae HR2))
       have R6:=ah (nN (ae HS5) (ae HK5) hlt (by omega) (ae HL5) ((((bJ.refl _ _).set 0 (.slice ao5 n5 cap5)).set 1 (.bool t5)).set 2 (.bool true)));have HS6:=ah (ae R6).1;have HK6:=ah (ae R6).2;have HB6:=ah (vk (.slice ao5 n5 cap5) (.bool t5) (.bool true) (ae HB5) (show cb≠bb by omega))
       go_wp2_with fail;go_ret;refine(?_:FX rb cb h0 h1 h2 h3 s ns _ w _ _);rw[ae HF];have R:=ls (ae HS6) (ae HK6) hne hn0 (ae HB6) ((bJ.refl _ _).set 5 (.slice ao5 n5 cap5));have KK:=(cK.Cw (ae HL5) ((((bJ.refl _ _).set 0 (.slice ao5 n5 cap5)).set 1 (.bool t5)).set 2 (.bool true))).trans (cK.Cw (ae HB6) ((bJ.refl _ _).set 5 (.slice ao5 n5 cap5)));exact⟨ns5,nv5,e5,ao,n,cap,ao5,n5,cap5,rfl,⟨(ae HI5).keep KK,(ae HJ5).keep KK,ae HN5⟩,R.1,(uY (.slice ao5 n5 cap5) (ae HB6)),R.2⟩
