import Derived.Test.YthfjnfcekeknlaaGreatDoorAp16
import Derived.Test.YthfjnfcekeknlaaGreatDoorAp17
import Derived.Test.YthfjnfcekeknlaaGreatDoorAp18
import Derived.Test.YthfjnfcekeknlaaGreatDoorAp19
import Derived.Test.YthfjnfcekeknlaaGreatDoorAp22
import Derived.Deep.LoopGhost
set_option maxHeartbeats 8000000
set_option maxRecDepth 100000
namespace Go.Proofs.YthfjnfcekeknlaaGreatDoor
open Go.RowKit
theorem Fm (f:Nat) (l:List Za.aj) (t:Za.Tm) (l1:List Za.aj) (h:Za.term f l= .inr (t,l1)):t.kind=2∨t.kind=3∨t.kind=4:=by
 cases f with
 | zero=>
  rw[Za.term]at h
  by_cases hb:Za.dp (Za.hd l)=true
  ·rw[if_pos hb]at h;cases h
  ·rw[if_neg hb]at h;cases h
 | succ f=>
  rw[Za.term]at h
  by_cases hb:Za.dp (Za.hd l)=true
  ·rw[if_pos hb]at h
   have hk:(Za.hd l).kind=2∨(Za.hd l).kind=3∨(Za.hd l).kind=4:=by simpa [Za.dp,or_assoc] using hb
   by_cases hl:(Za.hd l).kind=4∧6<(Za.hd l).text.size
   ·rw[if_pos hl]at h;cases h
   ·rw[if_neg hl]at h
    by_cases h2:(Za.hd l).kind=2
    ·rw[if_pos h2]at h
     by_cases hs:Za.sees l.tail [40]=true
     ·rw[if_pos hs]at h
      rcases hq:Za.bL (Za.term f) 2 l.tail.tail with x | ⟨us,l2⟩
      ·rw[hq]at h;cases h
      ·rw[hq]at h;injection h with h;injection h with h _;subst h;exact Or.inl rfl
     ·rw[if_neg hs]at h;injection h with h;injection h with h _;subst h;exact Or.inl rfl
    ·rw[if_neg h2]at h;injection h with h;injection h with h _;subst h;exact hk
  ·rw[if_neg hb]at h;cases h
theorem KD (w:World) (rb lb:Nat) (s:ByteArray) (l:List Za.aj) (ns:List ByteArray) (nv iv:Value) (e0:Int) (tests goals:Bool) (h:St w rb s l ns nv e0) (hb:w.heap[lb]?=some (.cells #[iv,.bool tests,.bool goals] 82 (0,0))) (hne:lb≠rb) (cG:lb≠0):
 Calls Tryz.prog 80 #[.pointer (some ⟨rb,0,none⟩),.pointer (some ⟨lb,0,none⟩)] w fun e w'=>nB rb lb iv s ns (Za.item tests goals l) w e w':=by
 rcases hT:Za.term 8 l with⟨er,ps⟩ | ⟨t,l1⟩
 ·rw[show Za.item tests goals l= .inl (er,ps)by unfold Za.item;rw[hT]]
  exact KB w rb lb s l ns nv iv e0 tests goals h hb hne cG er ps hT
 ·have hk:=Fm 8 l t l1 hT
  cases aW:Za.bF l1
  ·cases heq:Za.sees l1 [61]
   ·by_cases h3:t.kind=3∧Za.sees l1 [58,61]=true
    ·obtain⟨h3,has⟩:=h3
     rcases hR:Za.assignment t goals l1 with⟨er,ps⟩ | ⟨x,l2⟩
     ·rw[show Za.item tests goals l= .inl (er,ps)by unfold Za.item;rw[hT];simp only[aW,heq,h3,has,hR];rfl]
      exact Ds w rb lb s l ns nv iv e0 tests goals h hb hne cG t l1 hT h3 aW heq has er ps hR
     ·rw[show Za.item tests goals l= .inr ((x,false,goals),l2)by unfold Za.item;rw[hT];simp only[aW,heq,h3,has,hR];rfl]
      exact BU w rb lb s l ns nv iv e0 tests goals h hb hne cG t l1 hT h3 aW heq has x l2 hR
    ·have hI:Za.item tests goals l=if t.kind=2∧((tests&&Za.isInt t)||goals)=true then .inr ((⟨t,[],none,[],none⟩,tests&&Za.isInt t,goals),l1)else Za.bad 2 l1:=by
      unfold Za.item;rw[hT];simp only[aW,heq];rw[if_neg h3];rfl
     have hn:t.kind≠2→Za.isInt t=false:=fun q=>by simp[Za.isInt,q]
     rw[hI]
     rcases hk with hk | hk | hk
     ·cases tests
      ·cases goals
       ·rw[if_neg (by simp)]
        exact uX w rb lb s l ns nv iv e0 h hb hne cG t l1 hk hT aW heq
       ·rw[if_pos (by simp[hk])]
        exact uW w rb lb s l ns nv iv e0 h hb hne cG t l1 hk hT aW heq
      ·cases hi:Za.isInt t
       ·cases goals
        ·rw[if_neg (by simp)]
         exact vY w rb lb s l ns nv iv e0 h hb hne cG t l1 hk hi hT aW heq
        ·rw[if_pos (by simp[hk])]
         exact vX w rb lb s l ns nv iv e0 h hb hne cG t l1 hk hi hT aW heq
       ·rw[if_pos (by simp[hk])]
        exact vW w rb lb s l ns nv iv e0 goals h hb hne cG t l1 hk hi hT aW heq
     ·have has:Za.sees l1 [58,61]=false:=by simpa [hk] using h3
      rw[if_neg (by omega)]
      cases tests
      ·exact uY w rb lb s l ns nv iv e0 goals h hb hne cG t l1 hk hT aW heq has
      ·exact vZ w rb lb s l ns nv iv e0 goals h hb hne cG t l1 hk (hn (by omega)) hT aW heq has
     ·rw[if_neg (by omega)]
      cases tests
      ·exact uZ w rb lb s l ns nv iv e0 goals h hb hne cG t l1 hk hT aW heq
      ·exact wh w rb lb s l ns nv iv e0 goals h hb hne cG t l1 hk (hn (by omega)) hT aW heq
   ·rcases hR:Za.sides t goals l1 with⟨er,ps⟩ | ⟨x,l2⟩
    ·rw[show Za.item tests goals l= .inl (er,ps)by unfold Za.item;rw[hT];simp only[aW,heq,hR];rfl]
     exact Fk w rb lb s l ns nv iv e0 tests goals h hb hne cG t l1 hT aW heq er ps hR
    ·rw[show Za.item tests goals l= .inr ((x,false,goals),l2)by unfold Za.item;rw[hT];simp only[aW,heq,hR];rfl]
     exact Dq w rb lb s l ns nv iv e0 tests goals h hb hne cG t l1 hT aW heq x l2 hR
  ·rcases hR:Za.sides t tests l1 with⟨er,ps⟩ | ⟨x,l2⟩
   ·rw[show Za.item tests goals l= .inl (er,ps)by unfold Za.item;rw[hT];simp only[aW,hR];rfl]
    exact BO w rb lb s l ns nv iv e0 tests goals h hb hne cG t l1 hT aW er ps hR
   ·rw[show Za.item tests goals l= .inr ((x,tests,false),l2)by unfold Za.item;rw[hT];simp only[aW,hR];rfl]
    exact Ad w rb lb s l ns nv iv e0 tests goals h hb hne cG t l1 hT aW x l2 hR
end Go.Proofs.YthfjnfcekeknlaaGreatDoor
namespace Za
theorem Fo {k:Nat} {t g:Bool} {l:List aj} {e:Nat×Nat} (h:item t g l= .inl e):items k t g l= .inl e:=by
 unfold items;rw[h]
theorem Fp {k:Nat} {t g t1 g1:Bool} {l l1:List aj} {x:aH} (h:item t g l= .inr ((x,t1,g1),l1)) (hc:sees l1 [44]=false):items k t g l= .inr (([x],t1,g1),l1):=by
 unfold items;rw[h];simp[hc]
theorem Dt {t g t1 g1:Bool} {l l1:List aj} {x:aH} (h:item t g l= .inr ((x,t1,g1),l1)) (hc:sees l1 [44]=true):items 0 t g l=bad 3 l1:=by
 unfold items;rw[h];simp[hc]
theorem Du {k:Nat} {t g t1 g1:Bool} {l l1:List aj} {x:aH} (h:item t g l= .inr ((x,t1,g1),l1)) (hc:sees l1 [44]=true):items (k+1) t g l=sH [x] (items k t1 g1 l1.tail):=by
 rw[items,h]
 simp only[hc,if_true]
 rcases items k t1 g1 l1.tail with e | ⟨⟨us,t,g⟩,l2⟩<;>rfl
end Za
namespace Go.Proofs.YthfjnfcekeknlaaGreatDoor
open Go.RowKit
theorem Tryz.info151:(Tryz.prog.info? 151).map (fun i=>(i.zero,i.size,i.bytes))=some (some (.agg #[.int .i64 0,.int .i64 0,.string ⟨#[]⟩,.slice none 0 0,.string ⟨#[]⟩,.int .i64 0,.int .i64 0,.string ⟨#[]⟩,.slice none 0 0,.string ⟨#[]⟩,.int .i64 0,.int .i64 0,.string ⟨#[]⟩,.slice none 0 0]),14,200):=by kernel_rfl
structure JV where
 a:TV
 b:TV
 c:TV
 sg:ByteArray
 op:ByteArray
def pY (v:JV):List Value:=[.int .i64 v.a.k,.int .i64 v.a.val,.string v.a.tx,.slice v.a.ao v.a.n v.a.cap,.string v.sg,.int .i64 v.b.k,.int .i64 v.b.val,.string v.b.tx,.slice v.b.ao v.b.n v.b.cap,.string v.op,.int .i64 v.c.k,.int .i64 v.c.val,.string v.c.tx,.slice v.c.ao v.c.n v.c.cap]
theorem Fq (vs:List JV):(vs.flatMap pY).length=vs.length*14:=by
 induction vs with
 | nil=>rfl
 | cons a r ih=>rw[List.flatMap_cons,List.length_append,ih];simp[pY];omega
structure o5 (N:List (List UInt8)) (w:World) (v:JV) (x:Za.aH):Prop where
 left:RA 8 N anyA w v.a x.left
 sign:v.sg.toList=x.sign
 right:∀r,x.right=some r→RA 8 N anyA w v.b r
 op:v.op.toList=x.op
 last:∀z,x.last=some z→RA 8 N anyA w v.c z
theorem o5.keep {N:List (List UInt8)} {w w':World} {v:JV} {x:Za.aH} (h:o5 N w v x) (hk:aN w w'):o5 N w' v x:=⟨hk.ra h.left,h.sign,fun r q=>hk.ra (h.right r q),h.op,fun r q=>hk.ra (h.last r q)⟩
theorem o5.more {N:List (List UInt8)} {w:World} {v:JV} {x:Za.aH} (h:o5 N w v x) (M:List (List UInt8)):o5 (N++M) w v x:=⟨h.left.more M,h.sign,fun r q=>(h.right r q).more M,h.op,fun r q=>(h.last r q).more M⟩
theorem o5.ok {N:List (List UInt8)} {w:World} {v:JV} {x:Za.aH} (h:o5 N w v x):Za.GV x:=⟨h.left.nt,fun r q=>(h.right r q).nt,fun z q=>(h.last z q).nt⟩
theorem oY.r {ns ns':List ByteArray} {w':World} {a b c:TV} {sg op:ByteArray} {x:Za.aH} (h:oY ns ns' w' a b c sg op x):o5 (aU ns') w' ⟨a,b,c,sg,op⟩ x:=⟨h.left,h.sign,h.right,h.op,h.last⟩
def tN (ns0 ns:List ByteArray) (w:World) (xs:List Value) (ys:List Za.aH):Prop:=(∃vs:List JV,xs=vs.flatMap pY∧bO (o5 (aU ns) w) vs ys)∧aU ns=Za.aC (aU ns0) ys
theorem tN.keep {ns0 ns:List ByteArray} {w w':World} {xs:List Value} {ys:List Za.aH} (h:tN ns0 ns w xs ys) (hk:aN w w'):tN ns0 ns w' xs ys:=by
 obtain⟨⟨vs,rfl,ha⟩,hn⟩:=h
 exact⟨⟨vs,rfl,ha.imp fun _ _ q=>q.keep hk⟩,hn⟩
theorem tN.snoc {ns0 ns ns':List ByteArray} {w:World} {xs:List Value} {ys:List Za.aH} {a b c:TV} {sg op:ByteArray} {x:Za.aH} (h:tN ns0 ns w xs ys) (q:oY ns ns' w a b c sg op x):tN ns0 ns' w (xs++pY ⟨a,b,c,sg,op⟩) (ys++[x]):=by
 obtain⟨⟨vs,rfl,ha⟩,hn⟩:=h
 obtain⟨M,hM,_⟩:=Za.xj x q.r.ok (aU ns)
 have he:aU ns'=aU ns++M:=q.nms.trans hM
 refine⟨⟨vs++[⟨a,b,c,sg,op⟩],by simp,bO.snoc q.r ?_⟩,?_⟩
 ·rw[he];exact ha.imp fun _ _ r=>r.more M
 ·unfold Za.aC
  rw[List.foldl_append,q.nms,hn]
  rfl
def b6 (N:List (List UInt8)) (w:World) (o:Option Addr) (n:Nat) (ys:List Za.aH):Prop:=n=ys.length∧(ys≠[]→∃(g:Nat) (vs:List JV) (cs:Array Value),o=some ⟨g,0,none⟩∧w.heap[g]?=some (.cells cs 151 (0,0))∧cs.toList.take (vs.length*14)=vs.flatMap pY∧bO (o5 N w) vs ys)
theorem b6.BV {ns0 ns:List ByteArray} {w:World} {b0 g n cap:Nat} {xs:List Value} {ys:List Za.aH} (h:tN ns0 ns w xs ys) (ho:w.ownsRow b0 151 14 (.slice (some ⟨g,0,none⟩) n cap) n xs):b6 (aU ns) w (some ⟨g,0,none⟩) n ys:=by
 obtain⟨⟨vs,rfl,ha⟩,_⟩:=h
 have hl:=ho.1
 rw[Fq]at hl
 have hl':=ha.length
 rcases ho.2 with⟨q,_⟩ | ⟨g',cap',cur,q,_,hc,_,_,_,ht⟩
 ·cases q
 ·simp only[Value.slice.injEq,Option.some.injEq,Addr.mk.injEq,and_true,true_and]at q
  obtain⟨rfl,rfl⟩:=q
  exact⟨by omega,fun _=>⟨g,vs,cur,rfl,hc,by rw[show vs.length=n by omega];exact ht,ha⟩⟩
def U5 (rb:Nat) (s:ByteArray) (ns:List ByteArray) (r:Za.dM (List Za.aH×Bool×Bool)) (w:World) (e:Ending) (w':World):Prop:=match r with
 | .inl (er,pos)=>∃(l':List Za.aj) (ns':List ByteArray) (nv':Value),e= .returned (.tuple #[.agg #[.slice none 0 0,.bool false,.bool false],.bool false])∧St w' rb s l' ns' nv' (er:Int)∧(Za.hd l').pos=pos∧KA rb [rb] w w'
 | .inr ((ys,t1,g1),l1)=>∃(ao:Option Addr) (n cap:Nat) (ns':List ByteArray) (nv':Value) (e':Int),e= .returned (.tuple #[.agg #[.slice ao n cap,.bool t1,.bool g1],.bool true])∧(b6 (aU ns') w' ao n ys∧aU ns'=Za.aC (aU ns) ys)∧St w' rb s l1 ns' nv' e'∧KA rb [rb] w w'
def LA (w:World) (rb:Nat) (s:ByteArray) (T G:Bool) (l0:List Za.aj) (ns0:List ByteArray) (k:Nat) (wr:World):Prop:=
 ∃(n:Nat) (xs:List Value) (iv:Value) (t g:Bool) (l:List Za.aj) (ns:List ByteArray) (nv:Value) (e:Int),St wr rb s l ns nv e∧KA rb [rb] w wr∧
  wr.heap[w.heap.size]?=some (.cells #[iv,.bool t,.bool g] 82 (0,0))∧
  wr.heap[w.heap.size+1]?=some (.cells #[.slice none 0 0,.bool false,.bool false] 82 (0,0))∧
  wr.ownsRow (w.heap.size+2) 151 14 iv n xs∧n≤5∧k+n=6∧∃ys:List Za.aH,Za.items 5 T G l0=Za.sH ys (Za.items (5 - n) t g l)∧tN ns0 ns wr xs ys
theorem aN.PF {w w':World} {rb lb:Nat} {s:ByteArray} {l:List Za.aj} {ns:List ByteArray} {nv:Value} {e:Int} {C:Array Value} (hs:St w rb s l ns nv e) (hb:w.heap[lb]?=some (.cells C 82 (0,0))) (hk:KA rb [rb,lb] w w'):aN w w':=fun g cs hg hi=>(hk.block g (Array.getElem?_eq_some_iff.1 hg).1 (fun q=>by
 rcases List.mem_cons.1 q with rfl | q
 ·obtain⟨k,r,hc⟩:=hi
  have:=hs.rd.c0
  simp[World.cell?,hg]at this
  rw[←Array.getElem?_toList,hc]at this
  simp at this
 ·obtain rfl:g=lb:=by simpa using q
  rw[hb]at hg
  simp at hg) (Or.inr (by unfold aO;rw[hg];simp))).trans hg
theorem Ia {w5 w7:World} {lb b0 n:Nat} {av v':Value} {xs:List Value} {X A:Obj} {C:Array Value} (hb0:w7.heap[lb]?=some (.cells C 82 (0,0))) (ho:w5.ownsRow b0 151 14 av n xs) (hg:((w5.alloc X).alloc A).grownBy w7 av.ownBlock):aN w5 (w7.setCell ⟨lb,0,none⟩ v'):=
 (((aN.alloc w5 X).trans (aN.alloc _ A)).trans (aN.grown ((ho.alloc X).alloc A) hg)).trans (aN.only ((aD.refl lb w7).set 0 v') (by unfold aO;rw[hb0];simp))
theorem NX {rb lb b0:Nat} {w w1:World} {T:TypeId} {sz:Nat} {v:Value} {n:Nat} {xs:List Value} (h:w.ownsRow b0 T sz v n xs) (hk:KA rb [rb,lb] w w1) (hb:rb<b0) (hl:lb<b0) (hT:T≠9):w1.ownsRow b0 T sz v n xs:=
 ⟨h.1,h.2.imp id fun⟨g,cap,cur,a,b,c,d⟩=>⟨g,cap,cur,a,b,(hk.block g (Array.getElem?_eq_some_iff.1 c).1 (by simp;omega) (Or.inr (by unfold aO;rw[c];simpa using hT))).trans c,d⟩⟩
theorem KF {b0 b1:Nat} {w:World} {T:TypeId} {sz:Nat} {v:Value} {n:Nat} {xs:List Value} (h:w.ownsRow b0 T sz v n xs) (hb:b1≤b0):w.ownsRow b1 T sz v n xs:=
 ⟨h.1,h.2.imp id fun⟨g,cap,cur,a,b,c,d⟩=>⟨g,cap,cur,a,Nat.le_trans hb b,c,d⟩⟩
theorem Fs (W:World) (n:Nat) (A:Array Value) (T:TypeId) (xs:List Value) (hn:n=W.heap.size) (hx:A.toList=xs):∀j u,xs[j]?=some u→(W.alloc (.cells A T)).cell? ((⟨n,0,none⟩:Addr).add j)=some u:=by
 subst hn hx
 intro j u hj
 have:=ah (heap_alloc_new W (.cells A T)) j
 rw[show (⟨W.heap.size,0,none⟩:Addr).add j=⟨W.heap.size,j,none⟩by cases j<;>simp[Addr.add],this]
 simpa using hj
theorem PG (a b c:TV) (op sg:ByteArray):∀u∈([.int .i64 a.k,.int .i64 a.val,.string a.tx,.slice a.ao a.n a.cap,.string sg,.int .i64 b.k,.int .i64 b.val,.string b.tx,.slice b.ao b.n b.cap,.string op,.int .i64 c.k,.int .i64 c.val,.string c.tx,.slice c.ao c.n c.cap]:List Value),u.oneCell'=true:=by
 simp[Value.oneCell']
theorem SE {w:World} {b:Nat} {T:TypeId} {c0 c1 c2:Value} (v:Value) (h:w.heap[b]?=some (.cells #[c0,c1,c2] T (0,0))):
 (w.setCell ⟨b,0,none⟩ v).heap[b]?=some (.cells #[v,c1,c2] T (0,0)):=by
 have:=aA h 0 v
 simpa using this
theorem NY {w w5 w7:World} {rb:Nat} {s:ByteArray} {l:List Za.aj} {ns:List ByteArray} {nv:Value} {e:Int} {n:Nat} {av v':Value} {xs xs':List Value} {X A:Obj} {t g:Value} {C1:Array Value}
 (hS:St w5 rb s l ns nv e) (hK:KA rb [rb] w w5) (hr:rb<w.heap.size)
 (hb0:w5.heap[w.heap.size]?=some (.cells #[av,t,g] 82 (0,0))) (hb1:w5.heap[w.heap.size+1]?=some (.cells C1 82 (0,0)))
 (ho:w5.ownsRow (w.heap.size+2) 151 14 av n xs)
 (hg:((w5.alloc X).alloc A).grownBy w7 av.ownBlock) (BM:w7.ownsRow (w.heap.size+2) 151 14 v' (n+1) xs'):
 St (w7.setCell ⟨w.heap.size,0,none⟩ v') rb s l ns nv e∧KA rb [rb] w (w7.setCell ⟨w.heap.size,0,none⟩ v')∧
 (w7.setCell ⟨w.heap.size,0,none⟩ v').heap[w.heap.size]?=some (.cells #[v',t,g] 82 (0,0))∧(w7.setCell ⟨w.heap.size,0,none⟩ v').heap[w.heap.size+1]?=some (.cells C1 82 (0,0))∧
 (w7.setCell ⟨w.heap.size,0,none⟩ v').ownsRow (w.heap.size+2) 151 14 v' (n+1) xs'∧
 w7.heap[w.heap.size]?=some (.cells #[av,t,g] 82 (0,0)):=by
 have jB:w.heap.size+1<w5.heap.size:=ag hb1
 obtain⟨h7,k7⟩:=y5 hS hK (KF ho (by omega)) hr hg
 have hB:Below (w.heap.size+2) w5 w7:=(((Below.refl _ _).alloc (by omega) X).alloc (by simp;omega) A).grown hg (by simp;omega) (fun k q=>(ho.lt k q).1)
 have q0:=(hB.block w.heap.size (by omega)).trans hb0
 have q1:=(hB.block (w.heap.size+1) (by omega)).trans hb1
 obtain⟨h8,k8⟩:=bS h7 k7 hr (Nat.le_refl _) q0 ((aD.refl _ _).set 0 v')
 exact⟨h8,k8,SE v' q0,aG q1 (by omega) 0 v',ownsRow_setCell_below BM (by show w.heap.size<w.heap.size+2;omega) v',q0⟩
theorem pZ (w:World) (rb:Nat) (s:ByteArray) (l:List Za.aj) (ns:List ByteArray) (nv:Value) (e0:Int) (tests goals:Bool) (h:St w rb s l ns nv e0):
 Calls Tryz.prog 40 #[.pointer (some ⟨rb,0,none⟩),.agg #[.slice none 0 0,.bool tests,.bool goals]] w fun e w'=>U5 rb s ns (Za.items 5 tests goals l) w e w':=by
 have hlt:=h.lt
 obtain⟨ti,hi,hz0',KH,Fi⟩:=info_parts Tryz.info151
 have HL:=af (show LA w rb s tests goals l ns 6 ((w.alloc (.cells #[.slice none 0 0,.bool tests,.bool goals] 82)).alloc (.cells #[.slice none 0 0,.bool false,.bool false] 82))from
  ⟨0,[],.slice none 0 0,tests,goals,l,ns,nv,e0,h.below (((Below.refl _ _).alloc (Nat.le_refl _) _).alloc (by simp) _),((KA.refl rb [rb] w).alloc _).alloc _,aB (heap_alloc_new w _) _,by have:=heap_alloc_new (w.alloc (.cells #[.slice none 0 0,.bool tests,.bool goals] 82)) (.cells #[.slice none 0 0,.bool false,.bool false] 82);rw[World.size_alloc]at this;exact this,World.ownsRow_nil _ _ _ _,by omega,by omega,[],(Za.JJ _).symm,⟨[],rfl,trivial⟩,rfl⟩)
 clear h
 go_enter Tryz.func40,Tryz.ntmps40
 go_wp2_with fail
 go_loopg [] 6 (fun k wr=>LA w rb s tests goals l ns k wr)
 case atStart=>exact ae HL
 case round=>
  clear HL
  obtain⟨n,xs,iv,t,g,l1,ns1,nv1,e1,hs,hk,hb0,hb1,ho,zq,WG,ys,BW,hrow⟩:=hrel
  have kX:=af hrow
  have zt:=af hs
  clear hrow
  have I:=af (KD wr rb w.heap.size s l1 ns1 nv1 iv e1 t g hs hb0 (by omega) (by omega))
  have HK:=af hk
  have aX:=af hb0
  have bj:=af hb1
  have HO:=af ho
  have tO:=af BW
  have nE:=hs.lt
  clear hs hk hb0 hb1 ho BW
  generalize hr:Za.item t g l1=r at I
  have HR:=af hr
  clear hr
  rcases r with⟨er,pos⟩ | ⟨⟨x,t1,g1⟩,l2⟩
  ·have HF:=af (show Za.items 5 tests goals l= .inl (er,pos)by rw[ae tO,Za.Fo (ae HR)];rfl)
   go_wp2_with fail
   refine(ae I).mono ?_
   rintro e w5 ⟨a,b,c,sg,op,l',ns',nv',rfl,hs5,cq,bV⟩
   have ij:=af hs5
   have HP:=af cq
   have jt:=af ((((ae HK).mono (Y:=[rb,w.heap.size]) (by simp)).trans bV).forget (X:=[rb]) (by simp))
   have tP:=af (aq bV (ae bj) (by simp;omega))
   have r1:=ah (ae tP)
   have x1:=ay (ae tP)
   have hz1:=ag (ae tP)
   clear hs5 cq bV
   go_wp2_with fail
   refine bodyPost_ret (v:= .tuple #[.agg #[.slice none 0 0,.bool false,.bool false],.bool false]) (by simp[results,Tryz.results40,go_sem,hz1,r1]) rfl ?_
   rw[ae HF]
   have R:=bS (ae ij) (ae jt) hlt (by omega) (ae tP) ((((aD.refl _ _).set 0 (.slice none 0 0)).set 1 (.bool false)).set 2 (.bool false))
   exact⟨l',ns',nv',rfl,R.1.below ((Below.refl _ _).alloc (Nat.le_refl _) _),ae HP,R.2.alloc _⟩
  ·go_wp2_with fail
   refine(ae I).mono ?_
   rintro e w5 ⟨a,b,c,sg,op,ns2,nv2,e2,rfl,hit,hs5,PH,bV⟩
   have Av:=af (((ae kX).keep (aN.PF (ae zt) (ae aX) bV)).snoc hit)
   clear hit
   have ij:=af hs5
   have jt:=af ((((ae HK).mono (Y:=[rb,w.heap.size]) (by simp)).trans bV).forget (X:=[rb]) (by simp))
   have ky:=af PH
   have tP:=af (aq bV (ae bj) (by simp;omega))
   have BX:=af (NX (ae HO) bV (by omega) (by omega) (by decide))
   have r0:=ah (ae ky)
   have hz0:=ag (ae ky)
   have hz1:=ag (ae tP)
   clear hs5 PH bV HK aX bj HO kX zt
   go_wp2_with (first | (at_builtin;go_must (refine wpList_append_own _ rfl (.tmp 17) (.tmp 19) 54 rfl (w.heap.size+2) 151 ti (.agg #[.int .i64 0,.int .i64 0,.string ⟨#[]⟩,.slice none 0 0,.string ⟨#[]⟩,.int .i64 0,.int .i64 0,.string ⟨#[]⟩,.slice none 0 0,.string ⟨#[]⟩,.int .i64 0,.int .i64 0,.string ⟨#[]⟩,.slice none 0 0]) 14 200 Tryz.underlying54 hi hz0' KH Fi rfl (by decide) _ n xs rfl (((ae BX).alloc _).alloc _) ⟨w5.heap.size+1,0,none⟩ 1 1 [.int .i64 a.k,.int .i64 a.val,.string a.tx,.slice a.ao a.n a.cap,.string sg,.int .i64 b.k,.int .i64 b.val,.string b.tx,.slice b.ao b.n b.cap,.string op,.int .i64 c.k,.int .i64 c.val,.string c.tx,.slice c.ao c.n c.cap] rfl rfl (Fs _ _ _ _ _ (by simp) rfl) (PG a b c op sg) (by unfold maxLen;omega) (by omega) (by simp;omega) ?_);go_must (intro v' w7 hown' hgrow _;obtain⟨g',cap',hv,hcm⟩:=fe hown';have mB:=af (NY (ae ij) (ae jt) hlt (ae ky) (ae tP) (ae BX) hgrow hown');have KI:=af (Ia (v':=v') (ae mB).2.2.2.2.2 (ae BX) hgrow);have z:=ah (ae mB).2.2.2.2.2;have zx:=ay (ae mB).2.2.2.2.2;have zz:=ag (ae mB).2.2.2.2.2;rw[hv]at mB KI⊢;clear hown' hgrow hv)))
   have Fu:=af ((ae Av).keep (ae KI))
   have My:=af (ae mB).1
   have PI:=af (ae mB).2.1
   have PJ:=af (ae mB).2.2.1
   have D7:=af (ae mB).2.2.2.1
   have mA:=af (ae mB).2.2.2.2.1
   clear mB KI Av z zx zz r0 hz0 hz1 ij jt ky tP BX
   generalize w7.setCell ⟨w.heap.size,0,none⟩ (.slice (some ⟨g',0,none⟩) (n+1) cap')=w8 at*
   refine(bC _ rb s l2 ns2 nv2 e2 _ (ae My)).mono ?_
   rintro e w9 ⟨rfl,hw⟩
   rw[hw]
   simp only[ByteArray.toList_mk]
   clear hw w9
   have y0:=ah (ae PJ)
   have y1:=ah (ae D7)
   have y1x:=ay (ae D7)
   have hv0:=ag (ae PJ)
   have PK:=ag (ae D7)
   cases hc:Za.sees l2 [44]
   ·have HF:=af (show Za.items 5 tests goals l= .inr ((ys++[x],t1,g1),l2)by rw[ae tO,Za.Fp (ae HR) hc];rfl)
    go_wp2_with fail
    refine bodyPost_ret (v:= .tuple #[.agg #[.slice (some ⟨g',0,none⟩) (n+1) cap',.bool t1,.bool g1],.bool true]) (by simp[results,Tryz.results40,go_sem,y1]) rfl ?_
    rw[ae HF]
    have RP:=y6 (ae My) (ae PI) hlt (by omega) (ae D7) ((((aD.refl _ _).set 0 (.slice (some ⟨g',0,none⟩) (n+1) cap')).set 1 (.bool t1)).set 2 (.bool g1))
    have R:=RP.1
    have HOf:=ownsRow_setCell_below (a:=⟨w.heap.size+1,2,none⟩) (ownsRow_setCell_below (a:=⟨w.heap.size+1,1,none⟩) (ownsRow_setCell_below (a:=⟨w.heap.size+1,0,none⟩) (ae mA) (by show w.heap.size+1<w.heap.size+2;omega) (.slice (some ⟨g',0,none⟩) (n+1) cap')) (by show w.heap.size+1<w.heap.size+2;omega) (.bool t1)) (by show w.heap.size+1<w.heap.size+2;omega) (.bool g1)
    exact⟨some ⟨g',0,none⟩,n+1,cap',ns2,nv2,e2,rfl,⟨b6.BV ((ae Fu).keep RP.2) HOf,(ae Fu).2⟩,R.1,R.2⟩
   ·have bV:=af (show (Za.hd l2).kind≠0 by rw[Za.cT hc];omega)
    go_wp2_with fail
    rw[show ((n:Int)+1)=((n+1:Nat):Int)by omega]
    refine(yX _ rb s l2 ns2 nv2 e2 (n+1) 6 (ae My) (ae bV)).mono ?_
    by_cases hn:n+1<6
    ·have HF:=af (show Za.items 5 tests goals l=Za.sH (ys++[x]) (Za.items (5 - (n+1)) t1 g1 l2.tail)by rw[ae tO,show 5 - n=(5 - (n+1))+1 by omega,Za.Du (ae HR) hc,Za.Gs])
     rw[if_pos hn,if_pos hn,decide_eq_true hn]
     rintro e wa ⟨rfl,Ib,hka⟩
     have HROWa:=af ((ae Fu).keep (aN.ka (ae My) hka))
     have HSa:=af Ib
     have HKa:=af ((ae PI).trans hka)
     have H0a:=af (aq hka (ae PJ) (by simp;omega))
     have H1a:=af (aq hka (ae D7) (by simp;omega))
     have HOa:=af (sV (ae mA) hka (by omega) (by decide))
     clear Ib hka
     go_wp2_with fail
     go_roundg (gk - 1)
     case measure=>omega
     case rel=>exact⟨n+1,_,_,t1,g1,l2.tail,ns2,nv2,e2,ae HSa,ae HKa,ae H0a,ae H1a,ae HOa,by omega,by omega,_,ae HF,ae HROWa⟩
    ·have HF:=af (show Za.items 5 tests goals l= .inl (3,(Za.hd l2).pos)by rw[ae tO,show 5 - n=0 by omega,Za.Dt (ae HR) hc];rfl)
     rw[if_neg hn,if_neg hn,decide_eq_false hn]
     rintro e wa ⟨rfl,Ib,hka⟩
     have HSa:=af Ib
     have HKa:=af ((ae PI).trans hka)
     have H1a:=af (aq hka (ae D7) (by simp;omega))
     clear Ib hka y0 y1 y1x hv0 PK
     have z1:=ah (ae H1a)
     have z1x:=ay (ae H1a)
     have hzz:=ag (ae H1a)
     go_wp2_with fail
     refine bodyPost_ret (v:= .tuple #[.agg #[.slice none 0 0,.bool false,.bool false],.bool false]) (by simp[results,Tryz.results40,go_sem,z1]) rfl ?_
     rw[ae HF]
     have R:=bS (ae HSa) (ae HKa) hlt (by omega) (ae H1a) ((((aD.refl _ _).set 0 (.slice none 0 0)).set 1 (.bool false)).set 2 (.bool false))
     exact⟨l2,ns2,nv2,rfl,R.1,rfl,R.2⟩
def SF (w w':World):Prop:=∀(g:Nat) (cs:Array Value),w.heap[g]?=some (.cells cs 151 (0,0))→(∃k r,cs.toList= .int .i64 k :: r)→w'.heap[g]?=some (.cells cs 151 (0,0))
structure aT (w w':World):Prop where
 a:aN w w'
 j:SF w w'
theorem aT.trans {u v w:World} (h:aT u v) (k:aT v w):aT u w:=⟨h.a.trans k.a,fun g cs a b=>k.j g cs (h.j g cs a b) b⟩
theorem aT.below {w w':World} (h:Below w.heap.size w w'):aT w w':=⟨aN.below h,fun g _ a _=>(h.block g (Array.getElem?_eq_some_iff.1 a).1).trans a⟩
theorem aT.alloc (w:World) (o:Obj):aT w (w.alloc o):=aT.below ((Below.refl _ _).alloc (Nat.le_refl _) o)
theorem aT.o6 {w w':World} {b:Nat} {cs:Array Value} {T:TypeId} (hb:w.heap[b]?=some (.cells cs T (0,0))) (ho:aD b w w') (hT:T≠76:=by decide) (hJ:T≠151:=by decide):aT w w':=
 ⟨aN.only ho (by unfold aO;rw[hb];simpa using hT),fun g cs' hg _=>(ho.block g (fun q=>by subst q;rw[hb]at hg;simp at hg;exact hJ hg.2)).trans hg⟩
theorem aT.ka {w w':World} {rb:Nat} {s:ByteArray} {l:List Za.aj} {ns:List ByteArray} {nv:Value} {e:Int} (hs:St w rb s l ns nv e) (hk:KA rb [rb] w w'):aT w w':=
 ⟨aN.ka hs hk,fun g cs hg hi=>(hk.block g (Array.getElem?_eq_some_iff.1 hg).1 (fun q=>by
  obtain rfl:g=rb:=by simpa using q
  obtain⟨k,r,hc⟩:=hi
  have:=hs.rd.c0
  simp[World.cell?,hg]at this
  rw[←Array.getElem?_toList,hc]at this
  simp at this) (Or.inr (by unfold aO;rw[hg];simp))).trans hg⟩
theorem aT.PF {w w':World} {rb cb:Nat} {s:ByteArray} {l:List Za.aj} {ns:List ByteArray} {nv:Value} {e:Int} {C:Array Value} (hs:St w rb s l ns nv e) (hb:w.heap[cb]?=some (.cells C 78 (0,0))) (hk:KA rb [rb,cb] w w'):aT w w':=
 ⟨fun g cs hg hi=>(hk.block g (Array.getElem?_eq_some_iff.1 hg).1 (fun q=>by
  rcases List.mem_cons.1 q with rfl | q
  ·obtain⟨k,r,hc⟩:=hi
   have:=hs.rd.c0
   simp[World.cell?,hg]at this
   rw[←Array.getElem?_toList,hc]at this
   simp at this
  ·obtain rfl:g=cb:=by simpa using q
   rw[hb]at hg
   simp at hg) (Or.inr (by unfold aO;rw[hg];simp))).trans hg,
  fun g cs hg hi=>(hk.block g (Array.getElem?_eq_some_iff.1 hg).1 (fun q=>by
   rcases List.mem_cons.1 q with rfl | q
   ·obtain⟨k,r,hc⟩:=hi
    have:=hs.rd.c0
    simp[World.cell?,hg]at this
    rw[←Array.getElem?_toList,hc]at this
    simp at this
   ·obtain rfl:g=cb:=by simpa using q
    rw[hb]at hg
    simp at hg) (Or.inr (by unfold aO;rw[hg];simp))).trans hg⟩
theorem b6.keep {N:List (List UInt8)} {w w':World} {o:Option Addr} {n:Nat} {ys:List Za.aH} (h:b6 N w o n ys) (hk:aT w w'):b6 N w' o n ys:=by
 refine⟨h.1,fun q=> ?_⟩
 obtain⟨g,vs,cs,h1,h2,h3,h4⟩:=h.2 q
 refine⟨g,vs,cs,h1,hk.j g cs h2 ?_,h3,h4.imp fun _ _ r=>r.keep hk.a⟩
 cases vs with
 | nil=>have:=h4.length;simp at this;exact absurd (List.length_eq_zero_iff.1 this.symm) q
 | cons v vs=>
  cases hc:cs.toList with
  | nil=>rw[hc]at h3;simp[pY]at h3
  | cons c r=>
   rw[hc]at h3
   simp only[List.length_cons,Nat.add_mul,Nat.one_mul,List.flatMap_cons,pY,List.cons_append,List.take_succ_cons]at h3
   injection h3 with h3 _
   exact⟨_,r,by rw[h3]⟩
theorem b6.none (N:List (List UInt8)) (w:World):b6 N w Option.none 0 []:=⟨rfl,fun q=>absurd rfl q⟩
theorem BZ {N:List (List UInt8)} {w:World}:∀(vs:List JV) (ys:List Za.aH),bO (o5 N w) vs ys→∀y∈ys,Za.GV y
 | [],[],_,_,h=>by cases h
 | [],_ :: _,h,_,_=>h.elim
 | _ :: _,[],_,_,h=>by cases h
 | v :: vs,y :: ys,h,z,hz=>by
  rcases List.mem_cons.1 hz with rfl | hz
  ·exact h.1.ok
  ·exact BZ vs ys h.2 z hz
theorem b6.ok {N:List (List UInt8)} {w:World} {o:Option Addr} {n:Nat} {ys:List Za.aH} (h:b6 N w o n ys):∀y∈ys,Za.GV y:=by
 intro y hy
 obtain⟨g,vs,cs,_,_,_,h4⟩:=h.2 (fun e=>by rw[e]at hy;cases hy)
 exact BZ vs ys h4 y hy
theorem b6.more {N:List (List UInt8)} {w:World} {o:Option Addr} {n:Nat} {ys:List Za.aH} (h:b6 N w o n ys) (M:List (List UInt8)):b6 (N++M) w o n ys:=
 ⟨h.1,fun q=>by
  obtain⟨g,vs,cs,h1,h2,h3,h4⟩:=h.2 q
  exact⟨g,vs,cs,h1,h2,h3,h4.imp fun _ _ r=>r.more M⟩⟩
theorem b6.behind {N N':List (List UInt8)} {w w':World} {o o':Option Addr} {n n':Nat} {xs ys:List Za.aH} (h:b6 N w o n xs) (k:b6 N' w' o' n' ys) (hn:N'=Za.aC N ys):b6 N' w o n xs:=by
 obtain⟨M,hM,_⟩:=Za.sY ys k.ok N
 rw[hn]
 unfold Za.aC
 rw[hM]
 exact h.more M
structure PL (ns ns':List ByteArray) (w:World) (o1:Option Addr) (n1:Nat) (o2:Option Addr) (n2:Nat) (r:List Za.aH×List Za.aH):Prop where
 tests:b6 (aU ns') w o1 n1 r.1
 goals:b6 (aU ns') w o2 n2 r.2
 nms:aU ns'=Za.aC (Za.aC (aU ns) r.1) r.2
def su (rb cb:Nat) (h0 h1 h2 h3:Value) (s:ByteArray) (ns:List ByteArray) (r:Za.dM (List Za.aH×List Za.aH)) (w:World) (e:Ending) (w':World):Prop:=match r with
 | .inl (er,pos)=>∃(l':List Za.aj) (ns':List ByteArray) (nv':Value) (o1:Option Addr) (n1 c1:Nat) (o2:Option Addr) (n2 c2:Nat),
  e= .returned (.bool false)∧St w' rb s l' ns' nv' (er:Int)∧(Za.hd l').pos=pos∧w'.heap[cb]?=some (.cells #[h0,h1,h2,h3,.slice o1 n1 c1,.slice o2 n2 c2] 78 (0,0))∧KA rb [rb,cb] w w'
 | .inr (xy,l1)=>∃(ns':List ByteArray) (nv':Value) (e':Int) (o1:Option Addr) (n1 c1:Nat) (o2:Option Addr) (n2 c2:Nat),
  e= .returned (.bool true)∧PL ns ns' w' o1 n1 o2 n2 xy∧St w' rb s l1 ns' nv' e'∧w'.heap[cb]?=some (.cells #[h0,h1,h2,h3,.slice o1 n1 c1,.slice o2 n2 c2] 78 (0,0))∧KA rb [rb,cb] w w'
theorem Mz {w:World} {b:Nat} {T:TypeId} {c0 c1 c2 c3 c4 c5:Value} (v:Value) (h:w.heap[b]?=some (.cells #[c0,c1,c2,c3,c4,c5] T (0,0))):
 (w.setCell ⟨b,4,none⟩ v).heap[b]?=some (.cells #[c0,c1,c2,c3,v,c5] T (0,0)):=by
 have:=aA h 4 v
 simpa using this
theorem uK {w:World} {b:Nat} {T:TypeId} {c0 c1 c2 c3 c4 c5:Value} (v:Value) (h:w.heap[b]?=some (.cells #[c0,c1,c2,c3,c4,c5] T (0,0))):
 (w.setCell ⟨b,5,none⟩ v).heap[b]?=some (.cells #[c0,c1,c2,c3,c4,v] T (0,0)):=by
 have:=aA h 5 v
 simpa using this
theorem Fv {w:World} {b:Nat} {T:TypeId} {c0 c1 c2 c3 c4 c5:Value} (v0 v1 v2 v3:Value) (h:w.heap[b]?=some (.cells #[c0,c1,c2,c3,c4,c5] T (0,0))):
 ((((w.setCell ⟨b,0,none⟩ v0).setCell ⟨b,1,none⟩ v1).setCell ⟨b,2,none⟩ v2).setCell ⟨b,3,none⟩ v3).heap[b]?=some (.cells #[v0,v1,v2,v3,c4,c5] T (0,0)):=by
 have:=aA (aA (aA (aA h 0 v0) 1 v1) 2 v2) 3 v3
 simpa using this
theorem uL {w:World} {b b':Nat} {x:Obj} (v0 v1 v2:Value) (h:w.heap[b']?=some x) (hne:b'≠b):
 (((w.setCell ⟨b,0,none⟩ v0).setCell ⟨b,1,none⟩ v1).setCell ⟨b,2,none⟩ v2).heap[b']?=some x:=
 aG (aG (aG h hne 0 v0) hne 1 v1) hne 2 v2
theorem lB {w w1 w2:World} {rb cb:Nat} {s:ByteArray} {l:List Za.aj} {ns:List ByteArray} {nv:Value} {e:Int} {cs:Array Value} (h:St w1 rb s l ns nv e) (hk:KA rb [rb,cb] w w1) (hne:cb≠rb) (cG:cb≠0) (hc:w1.heap[cb]?=some (.cells cs 78 (0,0))) (ho:aD cb w1 w2):
 St w2 rb s l ns nv e∧KA rb [rb,cb] w w2:=
 ⟨h.only ho hne cG (by unfold aO;rw[hc];simp),hk.O2 ho (by simp)⟩
theorem oI {w w1 w2:World} {rb cb b:Nat} {s:ByteArray} {l:List Za.aj} {ns:List ByteArray} {nv:Value} {e:Int} {cs:Array Value} (h:St w1 rb s l ns nv e) (hk:KA rb [rb,cb] w w1) (hlt:rb<w.heap.size) (hb:w.heap.size≤b) (hc:w1.heap[b]?=some (.cells cs 82 (0,0))) (ho:aD b w1 w2):
 St w2 rb s l ns nv e∧KA rb [rb,cb] w w2:=
 ⟨h.only ho (by omega) (by omega) (by unfold aO;rw[hc];simp),hk.eh ho hb⟩
theorem B0 (w:World) (rb cb:Nat) (h0 h1 h2 h3:Value) (s:ByteArray) (l:List Za.aj) (ns:List ByteArray) (nv:Value) (e0:Int) (h:St w rb s l ns nv e0) (hb:w.heap[cb]?=some (.cells #[h0,h1,h2,h3,.slice none 0 0,.slice none 0 0] 78 (0,0))) (hne:cb≠rb) (cG:cb≠0):
 Calls Tryz.prog 78 #[.pointer (some ⟨rb,0,none⟩),.pointer (some ⟨cb,0,none⟩)] w fun e w'=>su rb cb h0 h1 h2 h3 s ns (Za.body l) w e w':=by
 have hlt:=h.lt
 have hlc:=ag hb
 have HB:=af hb
 have I:=af (pZ w rb s l ns nv e0 true true h)
 clear h hb
 generalize hr:Za.items 5 true true l=r at I
 have HR:=af hr
 clear hr
 rcases r with⟨er,pos⟩ | ⟨⟨xs,t1,g1⟩,l1⟩
 ·have HF:=af (show Za.body l= .inl (er,pos)from Za.JK (ae HR))
  go_enter Tryz.func78,Tryz.ntmps78
  go_wp2_with fail
  refine(ae I).mono ?_
  rintro e w1 ⟨l',ns',nv',rfl,hs1,cq,fh⟩
  have bE:=af hs1
  have HP:=af cq
  have cO:=af fh
  have bj:=af (aq fh (ae HB) (by simp;omega))
  clear hs1 cq fh
  go_wp2_with fail
  go_ret
  refine(?_:su rb cb h0 h1 h2 h3 s ns _ w _ _)
  rw[ae HF]
  exact⟨l',ns',nv',none,0,0,none,0,0,rfl,(ae bE).below ((Below.refl _ _).alloc (Nat.le_refl _) _),ae HP,aB (ae bj) _,((ae cO).wide).alloc _⟩
 ·go_enter Tryz.func78,Tryz.ntmps78
  go_wp2_with fail
  refine(ae I).mono ?_
  rintro e w1 ⟨ao,n,cap,ns1,nv1,e1,rfl,⟨TK,th⟩,hs1,fh⟩
  have MA:=af TK
  have Ea:=af th
  clear TK th
  have bE:=af hs1
  have cO:=af (fh.wide (lb:=cb))
  have bj:=af (aq fh (ae HB) (by simp;omega))
  have tE:rb<w1.heap.size:=hs1.lt
  have XZ:cb<w1.heap.size:=ag (ae bj)
  have X0:w.heap.size≤w1.heap.size:=fh.size
  clear hs1 fh
  cases t1
  ·cases g1
   ·have HF:=af (show Za.body l= .inl (2,(Za.hd l1).pos)from Za.rU (ae HR) (by simp))
    have bZ:=af ((ae bE).below ((Below.refl _ _).alloc (Nat.le_refl _) (.cells #[.slice ao n cap,.bool false,.bool false] 82)))
    have cY:=af ((ae cO).alloc (.cells #[.slice ao n cap,.bool false,.bool false] 82))
    have aZ:=af (aB (ae bj) (.cells #[.slice ao n cap,.bool false,.bool false] 82))
    have si:=af (heap_alloc_new w1 (.cells #[.slice ao n cap,.bool false,.bool false] 82))
    have Ic:=af ((ae MA).keep (aT.alloc _ (.cells #[.slice ao n cap,.bool false,.bool false] 82)))
    go_wp2_with fail
    refine(bX _ rb s l1 ns1 nv1 e1 2 (ae bZ)).mono ?_
    rintro e wz ⟨rfl,hsz,fH⟩
    have HSz:=af hsz
    have HKz:=af ((ae cY).trans fH.wide)
    have HBz:=af (aq fH (ae aZ) (by simp;omega))
    clear hsz fH
    go_wp2_with fail
    go_ret
    refine(?_:su rb cb h0 h1 h2 h3 s ns _ w _ _)
    rw[ae HF]
    exact⟨l1,ns1,nv1,none,0,0,none,0,0,rfl,ae HSz,rfl,ae HBz,ae HKz⟩
   ·have HF:=af (show Za.body l= .inr (([],xs),l1)from Za.wV (ae HR) (by simp))
    have rc:=ah (ae bj)
    have xc:=ay (ae bj)
    go_wp2_with fail
    go_ret
    refine(?_:su rb cb h0 h1 h2 h3 s ns _ w _ _)
    rw[ae HF]
    have R:=lB (ae bE) (ae cO) hne cG (ae bj) ((aD.refl _ _).set 5 (.slice ao n cap))
    exact⟨ns1,nv1,e1,none,0,0,ao,n,cap,rfl,⟨b6.none _ _,(ae MA).keep ((aT.o6 (ae bj) ((aD.refl cb w1).set 5 (.slice ao n cap))).trans (aT.alloc _ _)),ae Ea⟩,R.1.below ((Below.refl _ _).alloc (Nat.le_refl _) _),aB (uK (.slice ao n cap) (ae bj)) _,R.2.alloc _⟩
  ·cases g1
   ·have bZ:=af ((ae bE).below ((Below.refl _ _).alloc (Nat.le_refl _) (.cells #[.slice ao n cap,.bool true,.bool false] 82)))
    have cY:=af ((ae cO).alloc (.cells #[.slice ao n cap,.bool true,.bool false] 82))
    have aZ:=af (aB (ae bj) (.cells #[.slice ao n cap,.bool true,.bool false] 82))
    have si:=af (heap_alloc_new w1 (.cells #[.slice ao n cap,.bool true,.bool false] 82))
    have Ic:=af ((ae MA).keep (aT.alloc _ (.cells #[.slice ao n cap,.bool true,.bool false] 82)))
    go_wp2_with fail
    refine(bC _ rb s l1 ns1 nv1 e1 _ (ae bZ)).mono ?_
    rintro e w9 ⟨rfl,hw⟩
    rw[hw]
    simp only[ByteArray.toList_mk]
    clear hw w9
    generalize zu:w1.heap.size=bb at*
    generalize hw2:w1.alloc (.cells #[.slice ao n cap,.bool true,.bool false] 82)=w2 at*
    clear zu hw2
    have r2:=ah (ae si)
    have hzl:=ag (ae si)
    have rc:=ah (ae aZ)
    have xc:=ay (ae aZ)
    have PM:=ag (ae aZ)
    cases o7:Za.sees l1 [124]
    ·have HF:=af (show Za.body l= .inl (2,(Za.hd l1).pos)from Za.rU (ae HR) (by simp[o7]))
     go_wp2_with fail
     refine(bX _ rb s l1 ns1 nv1 e1 2 (ae bZ)).mono ?_
     rintro e wz ⟨rfl,hsz,fH⟩
     have HSz:=af hsz
     have HKz:=af ((ae cY).trans fH.wide)
     have HBz:=af (aq fH (ae aZ) (by simp;omega))
     clear hsz fH
     go_wp2_with fail
     go_ret
     refine(?_:su rb cb h0 h1 h2 h3 s ns _ w _ _)
     rw[ae HF]
     exact⟨l1,ns1,nv1,none,0,0,none,0,0,rfl,ae HSz,rfl,ae HBz,ae HKz⟩
    ·have hkj:=af (show (Za.hd l1).kind≠0 by rw[Za.cT o7];omega)
     go_wp2_with fail
     refine(fO _ rb s l1 ns1 nv1 e1 (ae bZ) (ae hkj)).mono ?_
     rintro e w3 ⟨rfl,hs3,hk3⟩
     have eo:=af hs3
     have PN:=af ((ae Ic).keep (aT.ka (ae bZ) hk3))
     have dK:=af ((ae cY).trans hk3.wide)
     have bQ:=af (aq hk3 (ae aZ) (by simp;omega))
     have B1:=af (aq hk3 (ae si) (by simp;omega))
     clear hs3 hk3 r2 hzl rc xc PM
     have r3:=ah (ae B1)
     have hz3:=ag (ae B1)
     have rc3:=ah (ae bQ)
     have xc3:=ay (ae bQ)
     have hc3:=ag (ae bQ)
     have R4:=af (lB (ae eo) (ae dK) hne cG (ae bQ) ((aD.refl _ _).set 4 (.slice ao n cap)))
     have cK:=af (Mz (.slice ao n cap) (ae bQ))
     have PO:=af ((ae PN).keep (aT.o6 (ae bQ) ((aD.refl cb w3).set 4 (.slice ao n cap))))
     have Ie:=af (aG (ae B1) (show bb≠cb by omega) 4 (.slice ao n cap))
     go_wp2_with fail
     clear r3 hz3 rc3 xc3 hc3
     generalize w3.setCell ⟨cb,4,none⟩ (.slice ao n cap)=w4 at*
     have J:=af (pZ w4 rb s l1.tail ns1 nv1 e1 false true (ae R4).1)
     generalize hr2:Za.items 5 false true l1.tail=r2 at J
     have tB:=af hr2
     clear hr2
     refine(ae J).mono ?_
     rcases r2 with⟨er,pos⟩ | ⟨⟨ys,t5,g5⟩,l5⟩
     ·have HF:=af (show Za.body l= .inl (er,pos)from Za.sI (ae HR) o7 (ae tB))
      rintro e w5 ⟨l',ns',nv',rfl,hs5,cq,bV⟩
      have HP:=af cq
      clear cq
      have ij:=af hs5
      have jt:=af ((ae R4).2.trans bV.wide)
      have bH:=af (aq bV (ae cK) (by simp;omega))
      have jE:=af (aq bV (ae Ie) (by simp;omega))
      have r5:=ah (ae jE)
      have x5:=ay (ae jE)
      have PR:=ag (ae jE)
      have rc5:=ah (ae bH)
      have xc5:=ay (ae bH)
      have xx:=ag (ae bH)
      clear hs5 bV
      have R6:=af (oI (ae ij) (ae jt) hlt (by omega) (ae jE) ((((aD.refl _ _).set 0 (.slice none 0 0)).set 1 (.bool false)).set 2 (.bool false)))
      have mC:=af (ae R6).1
      have n7:=af (ae R6).2
      have gQ:=af (uL (.slice none 0 0) (.bool false) (.bool false) (ae bH) (show cb≠bb by omega))
      go_wp2_with fail
      go_ret
      refine(?_:su rb cb h0 h1 h2 h3 s ns _ w _ _)
      rw[ae HF]
      have R:=lB (ae mC) (ae n7) hne cG (ae gQ) ((aD.refl _ _).set 5 (.slice none 0 0))
      exact⟨l',ns',nv',ao,n,cap,none,0,0,rfl,R.1,ae HP,uK (.slice none 0 0) (ae gQ),R.2⟩
     ·rintro e w5 ⟨ao5,n5,cap5,ns5,nv5,e5,rfl,⟨B2,zq⟩,hs5,bV⟩
      have PS:=af (b6.behind ((ae PO).keep (aT.ka (ae R4).1 bV)) B2 zq)
      have PT:=af B2
      have PU:Hid (aU ns5=Za.aC (Za.aC (aU ns) xs) ys):=af (by rw[zq,ae Ea])
      clear B2 zq
      have ij:=af hs5
      have jt:=af ((ae R4).2.trans bV.wide)
      have bH:=af (aq bV (ae cK) (by simp;omega))
      have jE:=af (aq bV (ae Ie) (by simp;omega))
      have r5:=ah (ae jE)
      have x5:=ay (ae jE)
      have PR:=ag (ae jE)
      have rc5:=ah (ae bH)
      have xc5:=ay (ae bH)
      have xx:=ag (ae bH)
      clear hs5 bV
      cases g5
      ·have HF:=af (show Za.body l= .inl (2,(Za.hd l5).pos)from Za.vg (ae HR) o7 (ae tB))
       have R6:=af (oI (ae ij) (ae jt) hlt (by omega) (ae jE) ((((aD.refl _ _).set 0 (.slice ao5 n5 cap5)).set 1 (.bool t5)).set 2 (.bool false)))
       have mC:=af (ae R6).1
       have n7:=af (ae R6).2
       have gQ:=af (uL (.slice ao5 n5 cap5) (.bool t5) (.bool false) (ae bH) (show cb≠bb by omega))
       go_wp2_with fail
       refine(bX _ rb s l5 ns5 nv5 e5 2 (ae mC)).mono ?_
       rintro e wz ⟨rfl,hsz,fH⟩
       have HSz:=af hsz
       have HKz:=af ((ae n7).trans fH.wide)
       have HBz:=af (aq fH (ae gQ) (by simp;omega))
       clear hsz fH
       go_wp2_with fail
       go_ret
       refine(?_:su rb cb h0 h1 h2 h3 s ns _ w _ _)
       rw[ae HF]
       exact⟨l5,ns5,nv5,ao,n,cap,none,0,0,rfl,ae HSz,rfl,ae HBz,ae HKz⟩
      ·have HF:=af (show Za.body l= .inr ((xs,ys),l5)from Za.AQ (ae HR) o7 (ae tB))
       have R6:=af (oI (ae ij) (ae jt) hlt (by omega) (ae jE) ((((aD.refl _ _).set 0 (.slice ao5 n5 cap5)).set 1 (.bool t5)).set 2 (.bool true)))
       have mC:=af (ae R6).1
       have n7:=af (ae R6).2
       have gQ:=af (uL (.slice ao5 n5 cap5) (.bool t5) (.bool true) (ae bH) (show cb≠bb by omega))
       go_wp2_with fail
       go_ret
       refine(?_:su rb cb h0 h1 h2 h3 s ns _ w _ _)
       rw[ae HF]
       have R:=lB (ae mC) (ae n7) hne cG (ae gQ) ((aD.refl _ _).set 5 (.slice ao5 n5 cap5))
       have KK:=(aT.o6 (ae jE) ((((aD.refl _ _).set 0 (.slice ao5 n5 cap5)).set 1 (.bool t5)).set 2 (.bool true))).trans (aT.o6 (ae gQ) ((aD.refl _ _).set 5 (.slice ao5 n5 cap5)))
       exact⟨ns5,nv5,e5,ao,n,cap,ao5,n5,cap5,rfl,⟨(ae PS).keep KK,(ae PT).keep KK,ae PU⟩,R.1,(uK (.slice ao5 n5 cap5) (ae gQ)),R.2⟩
   ·have bZ:=af ((ae bE).below ((Below.refl _ _).alloc (Nat.le_refl _) (.cells #[.slice ao n cap,.bool true,.bool true] 82)))
    have cY:=af ((ae cO).alloc (.cells #[.slice ao n cap,.bool true,.bool true] 82))
    have aZ:=af (aB (ae bj) (.cells #[.slice ao n cap,.bool true,.bool true] 82))
    have si:=af (heap_alloc_new w1 (.cells #[.slice ao n cap,.bool true,.bool true] 82))
    have Ic:=af ((ae MA).keep (aT.alloc _ (.cells #[.slice ao n cap,.bool true,.bool true] 82)))
    go_wp2_with fail
    refine(bC _ rb s l1 ns1 nv1 e1 _ (ae bZ)).mono ?_
    rintro e w9 ⟨rfl,hw⟩
    rw[hw]
    simp only[ByteArray.toList_mk]
    clear hw w9
    generalize zu:w1.heap.size=bb at*
    generalize hw2:w1.alloc (.cells #[.slice ao n cap,.bool true,.bool true] 82)=w2 at*
    clear zu hw2
    have r2:=ah (ae si)
    have hzl:=ag (ae si)
    have rc:=ah (ae aZ)
    have xc:=ay (ae aZ)
    have PM:=ag (ae aZ)
    cases o7:Za.sees l1 [124]
    ·have HF:=af (show Za.body l= .inr (([],xs),l1)from Za.wV (ae HR) (by simp[o7]))
     go_wp2_with fail
     go_ret
     refine(?_:su rb cb h0 h1 h2 h3 s ns _ w _ _)
     rw[ae HF]
     have R:=lB (ae bZ) (ae cY) hne cG (ae aZ) ((aD.refl _ _).set 5 (.slice ao n cap))
     exact⟨ns1,nv1,e1,none,0,0,ao,n,cap,rfl,⟨b6.none _ _,(ae Ic).keep (aT.o6 (ae aZ) ((aD.refl cb w2).set 5 (.slice ao n cap))),ae Ea⟩,R.1,(uK (.slice ao n cap) (ae aZ)),R.2⟩
    ·have hkj:=af (show (Za.hd l1).kind≠0 by rw[Za.cT o7];omega)
     go_wp2_with fail
     refine(fO _ rb s l1 ns1 nv1 e1 (ae bZ) (ae hkj)).mono ?_
     rintro e w3 ⟨rfl,hs3,hk3⟩
     have eo:=af hs3
     have PN:=af ((ae Ic).keep (aT.ka (ae bZ) hk3))
     have dK:=af ((ae cY).trans hk3.wide)
     have bQ:=af (aq hk3 (ae aZ) (by simp;omega))
     have B1:=af (aq hk3 (ae si) (by simp;omega))
     clear hs3 hk3 r2 hzl rc xc PM
     have r3:=ah (ae B1)
     have hz3:=ag (ae B1)
     have rc3:=ah (ae bQ)
     have xc3:=ay (ae bQ)
     have hc3:=ag (ae bQ)
     have R4:=af (lB (ae eo) (ae dK) hne cG (ae bQ) ((aD.refl _ _).set 4 (.slice ao n cap)))
     have cK:=af (Mz (.slice ao n cap) (ae bQ))
     have PO:=af ((ae PN).keep (aT.o6 (ae bQ) ((aD.refl cb w3).set 4 (.slice ao n cap))))
     have Ie:=af (aG (ae B1) (show bb≠cb by omega) 4 (.slice ao n cap))
     go_wp2_with fail
     clear r3 hz3 rc3 xc3 hc3
     generalize w3.setCell ⟨cb,4,none⟩ (.slice ao n cap)=w4 at*
     have J:=af (pZ w4 rb s l1.tail ns1 nv1 e1 false true (ae R4).1)
     generalize hr2:Za.items 5 false true l1.tail=r2 at J
     have tB:=af hr2
     clear hr2
     refine(ae J).mono ?_
     rcases r2 with⟨er,pos⟩ | ⟨⟨ys,t5,g5⟩,l5⟩
     ·have HF:=af (show Za.body l= .inl (er,pos)from Za.sI (ae HR) o7 (ae tB))
      rintro e w5 ⟨l',ns',nv',rfl,hs5,cq,bV⟩
      have HP:=af cq
      clear cq
      have ij:=af hs5
      have jt:=af ((ae R4).2.trans bV.wide)
      have bH:=af (aq bV (ae cK) (by simp;omega))
      have jE:=af (aq bV (ae Ie) (by simp;omega))
      have r5:=ah (ae jE)
      have x5:=ay (ae jE)
      have PR:=ag (ae jE)
      have rc5:=ah (ae bH)
      have xc5:=ay (ae bH)
      have xx:=ag (ae bH)
      clear hs5 bV
      have R6:=af (oI (ae ij) (ae jt) hlt (by omega) (ae jE) ((((aD.refl _ _).set 0 (.slice none 0 0)).set 1 (.bool false)).set 2 (.bool false)))
      have mC:=af (ae R6).1
      have n7:=af (ae R6).2
      have gQ:=af (uL (.slice none 0 0) (.bool false) (.bool false) (ae bH) (show cb≠bb by omega))
      go_wp2_with fail
      go_ret
      refine(?_:su rb cb h0 h1 h2 h3 s ns _ w _ _)
      rw[ae HF]
      have R:=lB (ae mC) (ae n7) hne cG (ae gQ) ((aD.refl _ _).set 5 (.slice none 0 0))
      exact⟨l',ns',nv',ao,n,cap,none,0,0,rfl,R.1,ae HP,uK (.slice none 0 0) (ae gQ),R.2⟩
     ·rintro e w5 ⟨ao5,n5,cap5,ns5,nv5,e5,rfl,⟨B2,zq⟩,hs5,bV⟩
      have PS:=af (b6.behind ((ae PO).keep (aT.ka (ae R4).1 bV)) B2 zq)
      have PT:=af B2
      have PU:Hid (aU ns5=Za.aC (Za.aC (aU ns) xs) ys):=af (by rw[zq,ae Ea])
      clear B2 zq
      have ij:=af hs5
      have jt:=af ((ae R4).2.trans bV.wide)
      have bH:=af (aq bV (ae cK) (by simp;omega))
      have jE:=af (aq bV (ae Ie) (by simp;omega))
      have r5:=ah (ae jE)
      have x5:=ay (ae jE)
      have PR:=ag (ae jE)
      have rc5:=ah (ae bH)
      have xc5:=ay (ae bH)
      have xx:=ag (ae bH)
      clear hs5 bV
      cases g5
      ·have HF:=af (show Za.body l= .inl (2,(Za.hd l5).pos)from Za.vg (ae HR) o7 (ae tB))
       have R6:=af (oI (ae ij) (ae jt) hlt (by omega) (ae jE) ((((aD.refl _ _).set 0 (.slice ao5 n5 cap5)).set 1 (.bool t5)).set 2 (.bool false)))
       have mC:=af (ae R6).1
       have n7:=af (ae R6).2
       have gQ:=af (uL (.slice ao5 n5 cap5) (.bool t5) (.bool false) (ae bH) (show cb≠bb by omega))
       go_wp2_with fail
       refine(bX _ rb s l5 ns5 nv5 e5 2 (ae mC)).mono ?_
       rintro e wz ⟨rfl,hsz,fH⟩
       have HSz:=af hsz
       have HKz:=af ((ae n7).trans fH.wide)
       have HBz:=af (aq fH (ae gQ) (by simp;omega))
       clear hsz fH
       go_wp2_with fail
       go_ret
       refine(?_:su rb cb h0 h1 h2 h3 s ns _ w _ _)
       rw[ae HF]
       exact⟨l5,ns5,nv5,ao,n,cap,none,0,0,rfl,ae HSz,rfl,ae HBz,ae HKz⟩
      ·have HF:=af (show Za.body l= .inr ((xs,ys),l5)from Za.AQ (ae HR) o7 (ae tB))
       have R6:=af (oI (ae ij) (ae jt) hlt (by omega) (ae jE) ((((aD.refl _ _).set 0 (.slice ao5 n5 cap5)).set 1 (.bool t5)).set 2 (.bool true)))
       have mC:=af (ae R6).1
       have n7:=af (ae R6).2
       have gQ:=af (uL (.slice ao5 n5 cap5) (.bool t5) (.bool true) (ae bH) (show cb≠bb by omega))
       go_wp2_with fail
       go_ret
       refine(?_:su rb cb h0 h1 h2 h3 s ns _ w _ _)
       rw[ae HF]
       have R:=lB (ae mC) (ae n7) hne cG (ae gQ) ((aD.refl _ _).set 5 (.slice ao5 n5 cap5))
       have KK:=(aT.o6 (ae jE) ((((aD.refl _ _).set 0 (.slice ao5 n5 cap5)).set 1 (.bool t5)).set 2 (.bool true))).trans (aT.o6 (ae gQ) ((aD.refl _ _).set 5 (.slice ao5 n5 cap5)))
       exact⟨ns5,nv5,e5,ao,n,cap,ao5,n5,cap5,rfl,⟨(ae PS).keep KK,(ae PT).keep KK,ae PU⟩,R.1,(uK (.slice ao5 n5 cap5) (ae gQ)),R.2⟩
end Go.Proofs.YthfjnfcekeknlaaGreatDoor
