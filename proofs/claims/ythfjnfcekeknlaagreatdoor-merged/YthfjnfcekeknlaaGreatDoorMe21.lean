import Derived.Test.YthfjnfcekeknlaaGreatDoorMe13
import Derived.Test.YthfjnfcekeknlaaGreatDoorMe14
import Derived.Test.YthfjnfcekeknlaaGreatDoorMe15
import Derived.Test.YthfjnfcekeknlaaGreatDoorMe16
import Derived.Test.YthfjnfcekeknlaaGreatDoorMe20
import Derived.Deep.LoopGhost
set_option maxHeartbeats 8000000
set_option maxRecDepth 100000
namespace Go.Proofs.YthfjnfcekeknlaaGreatDoor
open Go.RowKit
theorem FT (f:Nat) (l:List Zc.aj) (t:Zc.Tm) (l1:List Zc.aj) (h:Zc.term f l= .inr (t,l1)):t.kind=2∨t.kind=3∨t.kind=4:=by
 cases f with
 | zero=>
  rw[Zc.term]at h
  by_cases hb:Zc.dw (Zc.hd l)=true
  ·rw[if_pos hb]at h;cases h
  ·rw[if_neg hb]at h;cases h
 | succ f=>
  rw[Zc.term]at h
  by_cases hb:Zc.dw (Zc.hd l)=true
  ·rw[if_pos hb]at h
   have hk:(Zc.hd l).kind=2∨(Zc.hd l).kind=3∨(Zc.hd l).kind=4:=by simpa [Zc.dw,or_assoc] using hb
   by_cases hl:(Zc.hd l).kind=4∧6<(Zc.hd l).text.size
   ·rw[if_pos hl]at h;cases h
   ·rw[if_neg hl]at h
    by_cases h2:(Zc.hd l).kind=2
    ·rw[if_pos h2]at h
     by_cases hs:Zc.sees l.tail [40]=true
     ·rw[if_pos hs]at h
      rcases hq:Zc.bL (Zc.term f) 2 l.tail.tail with x | ⟨us,l2⟩
      ·rw[hq]at h;cases h
      ·rw[hq]at h;injection h with h;injection h with h _;subst h;exact Or.inl rfl
     ·rw[if_neg hs]at h;injection h with h;injection h with h _;subst h;exact Or.inl rfl
    ·rw[if_neg h2]at h;injection h with h;injection h with h _;subst h;exact hk
  ·rw[if_neg hb]at h;cases h
theorem Lf (w:World) (rb lb:Nat) (s:ByteArray) (l:List Zc.aj) (ns:List ByteArray) (nv iv:Value) (e0:Int) (tests goals:Bool) (h:St w rb s l ns nv e0) (hb:w.heap[lb]?=some (.cells #[iv,.bool tests,.bool goals] 82 (0,0))) (hne:lb≠rb) (cI:lb≠0):
 Calls Tryz.prog 80 #[.pointer (some ⟨rb,0,none⟩),.pointer (some ⟨lb,0,none⟩)] w fun e w'=>nM rb lb iv s ns (Zc.item tests goals l) w e w':=by
 rcases hT:Zc.term 8 l with⟨er,ps⟩ | ⟨t,l1⟩
 ·rw[show Zc.item tests goals l= .inl (er,ps)by unfold Zc.item;rw[hT]]
  exact Ld w rb lb s l ns nv iv e0 tests goals h hb hne cI er ps hT
 ·have hk:=FT 8 l t l1 hT
  cases aV:Zc.bF l1
  ·cases heq:Zc.sees l1 [61]
   ·by_cases h3:t.kind=3∧Zc.sees l1 [58,61]=true
    ·obtain⟨h3,has⟩:=h3
     rcases hR:Zc.assignment t goals l1 with⟨er,ps⟩ | ⟨x,l2⟩
     ·rw[show Zc.item tests goals l= .inl (er,ps)by unfold Zc.item;rw[hT];simp only[aV,heq,h3,has,hR];rfl]
      exact DM w rb lb s l ns nv iv e0 tests goals h hb hne cI t l1 hT h3 aV heq has er ps hR
     ·rw[show Zc.item tests goals l= .inr ((x,false,goals),l2)by unfold Zc.item;rw[hT];simp only[aV,heq,h3,has,hR];rfl]
      exact B6 w rb lb s l ns nv iv e0 tests goals h hb hne cI t l1 hT h3 aV heq has x l2 hR
    ·have hI:Zc.item tests goals l=if t.kind=2∧((tests&&Zc.isInt t)||goals)=true then .inr ((⟨t,[],none,[],none⟩,tests&&Zc.isInt t,goals),l1)else Zc.bad 2 l1:=by
      unfold Zc.item;rw[hT];simp only[aV,heq];rw[if_neg h3];rfl
     have hn:t.kind≠2→Zc.isInt t=false:=fun q=>by simp[Zc.isInt,q]
     rw[hI]
     rcases hk with hk | hk | hk
     ·cases tests
      ·cases goals
       ·rw[if_neg (by simp)]
        exact vz w rb lb s l ns nv iv e0 h hb hne cI t l1 hk hT aV heq
       ·rw[if_pos (by simp[hk])]
        exact vy w rb lb s l ns nv iv e0 h hb hne cI t l1 hk hT aV heq
      ·cases hi:Zc.isInt t
       ·cases goals
        ·rw[if_neg (by simp)]
         exact wE w rb lb s l ns nv iv e0 h hb hne cI t l1 hk hi hT aV heq
        ·rw[if_pos (by simp[hk])]
         exact wD w rb lb s l ns nv iv e0 h hb hne cI t l1 hk hi hT aV heq
       ·rw[if_pos (by simp[hk])]
        exact wC w rb lb s l ns nv iv e0 goals h hb hne cI t l1 hk hi hT aV heq
     ·have has:Zc.sees l1 [58,61]=false:=by simpa [hk] using h3
      rw[if_neg (by omega)]
      cases tests
      ·exact vA w rb lb s l ns nv iv e0 goals h hb hne cI t l1 hk hT aV heq has
      ·exact wF w rb lb s l ns nv iv e0 goals h hb hne cI t l1 hk (hn (by omega)) hT aV heq has
     ·rw[if_neg (by omega)]
      cases tests
      ·exact vB w rb lb s l ns nv iv e0 goals h hb hne cI t l1 hk hT aV heq
      ·exact wG w rb lb s l ns nv iv e0 goals h hb hne cI t l1 hk (hn (by omega)) hT aV heq
   ·rcases hR:Zc.sides t goals l1 with⟨er,ps⟩ | ⟨x,l2⟩
    ·rw[show Zc.item tests goals l= .inl (er,ps)by unfold Zc.item;rw[hT];simp only[aV,heq,hR];rfl]
     exact FQ w rb lb s l ns nv iv e0 tests goals h hb hne cI t l1 hT aV heq er ps hR
    ·rw[show Zc.item tests goals l= .inr ((x,false,goals),l2)by unfold Zc.item;rw[hT];simp only[aV,heq,hR];rfl]
     exact DK w rb lb s l ns nv iv e0 tests goals h hb hne cI t l1 hT aV heq x l2 hR
  ·rcases hR:Zc.sides t tests l1 with⟨er,ps⟩ | ⟨x,l2⟩
   ·rw[show Zc.item tests goals l= .inl (er,ps)by unfold Zc.item;rw[hT];simp only[aV,hR];rfl]
    exact B1 w rb lb s l ns nv iv e0 tests goals h hb hne cI t l1 hT aV er ps hR
   ·rw[show Zc.item tests goals l= .inr ((x,tests,false),l2)by unfold Zc.item;rw[hT];simp only[aV,hR];rfl]
    exact Az w rb lb s l ns nv iv e0 tests goals h hb hne cI t l1 hT aV x l2 hR
end Go.Proofs.YthfjnfcekeknlaaGreatDoor
namespace Zc
theorem FU {k:Nat} {t g:Bool} {l:List aj} {e:Nat×Nat} (h:item t g l= .inl e):items k t g l= .inl e:=by
 unfold items;rw[h]
theorem FV {k:Nat} {t g t1 g1:Bool} {l l1:List aj} {x:aH} (h:item t g l= .inr ((x,t1,g1),l1)) (hc:sees l1 [44]=false):items k t g l= .inr (([x],t1,g1),l1):=by
 unfold items;rw[h];simp[hc]
theorem DO {t g t1 g1:Bool} {l l1:List aj} {x:aH} (h:item t g l= .inr ((x,t1,g1),l1)) (hc:sees l1 [44]=true):items 0 t g l=bad 3 l1:=by
 unfold items;rw[h];simp[hc]
theorem DR {k:Nat} {t g t1 g1:Bool} {l l1:List aj} {x:aH} (h:item t g l= .inr ((x,t1,g1),l1)) (hc:sees l1 [44]=true):items (k+1) t g l=sQ [x] (items k t1 g1 l1.tail):=by
 rw[items,h]
 simp only[hc,if_true]
 rcases items k t1 g1 l1.tail with e | ⟨⟨us,t,g⟩,l2⟩<;>rfl
end Zc
namespace Go.Proofs.YthfjnfcekeknlaaGreatDoor
open Go.RowKit
theorem Tryz.info151:(Tryz.prog.info? 151).map (fun i=>(i.zero,i.size,i.bytes))=some (some (.agg #[.int .i64 0,.int .i64 0,.string ⟨#[]⟩,.slice none 0 0,.string ⟨#[]⟩,.int .i64 0,.int .i64 0,.string ⟨#[]⟩,.slice none 0 0,.string ⟨#[]⟩,.int .i64 0,.int .i64 0,.string ⟨#[]⟩,.slice none 0 0]),14,200):=by kernel_rfl
structure JV where
 a:TV
 b:TV
 c:TV
 sg:ByteArray
 op:ByteArray
def p9 (v:JV):List Value:=[.int .i64 v.a.k,.int .i64 v.a.val,.string v.a.tx,.slice v.a.ao v.a.n v.a.cap,.string v.sg,.int .i64 v.b.k,.int .i64 v.b.val,.string v.b.tx,.slice v.b.ao v.b.n v.b.cap,.string v.op,.int .i64 v.c.k,.int .i64 v.c.val,.string v.c.tx,.slice v.c.ao v.c.n v.c.cap]
theorem FW (vs:List JV):(vs.flatMap p9).length=vs.length*14:=by
 induction vs with
 | nil=>rfl
 | cons a r ih=>rw[List.flatMap_cons,List.length_append,ih];simp[p9];omega
structure px (N:List (List UInt8)) (w:World) (v:JV) (x:Zc.aH):Prop where
 left:RA 8 N anyA w v.a x.left
 sign:v.sg.toList=x.sign
 right:∀r,x.right=some r→RA 8 N anyA w v.b r
 op:v.op.toList=x.op
 last:∀z,x.last=some z→RA 8 N anyA w v.c z
theorem px.keep {N:List (List UInt8)} {w w':World} {v:JV} {x:Zc.aH} (h:px N w v x) (hk:aN w w'):px N w' v x:=⟨hk.ra h.left,h.sign,fun r q=>hk.ra (h.right r q),h.op,fun r q=>hk.ra (h.last r q)⟩
theorem px.more {N:List (List UInt8)} {w:World} {v:JV} {x:Zc.aH} (h:px N w v x) (M:List (List UInt8)):px (N++M) w v x:=⟨h.left.more M,h.sign,fun r q=>(h.right r q).more M,h.op,fun r q=>(h.last r q).more M⟩
theorem px.ok {N:List (List UInt8)} {w:World} {v:JV} {x:Zc.aH} (h:px N w v x):Zc.Ho x:=⟨h.left.nI,fun r q=>(h.right r q).nI,fun z q=>(h.last z q).nI⟩
theorem pj.r {ns ns':List ByteArray} {w':World} {a b c:TV} {sg op:ByteArray} {x:Zc.aH} (h:pj ns ns' w' a b c sg op x):px (aT ns') w' ⟨a,b,c,sg,op⟩ x:=⟨h.left,h.sign,h.right,h.op,h.last⟩
def tU (ns0 ns:List ByteArray) (w:World) (xs:List Value) (ys:List Zc.aH):Prop:=(∃vs:List JV,xs=vs.flatMap p9∧bO (px (aT ns) w) vs ys)∧aT ns=Zc.aC (aT ns0) ys
theorem tU.keep {ns0 ns:List ByteArray} {w w':World} {xs:List Value} {ys:List Zc.aH} (h:tU ns0 ns w xs ys) (hk:aN w w'):tU ns0 ns w' xs ys:=by
 obtain⟨⟨vs,rfl,ha⟩,hn⟩:=h
 exact⟨⟨vs,rfl,ha.imp fun _ _ q=>q.keep hk⟩,hn⟩
theorem tU.snoc {ns0 ns ns':List ByteArray} {w:World} {xs:List Value} {ys:List Zc.aH} {a b c:TV} {sg op:ByteArray} {x:Zc.aH} (h:tU ns0 ns w xs ys) (q:pj ns ns' w a b c sg op x):tU ns0 ns' w (xs++p9 ⟨a,b,c,sg,op⟩) (ys++[x]):=by
 obtain⟨⟨vs,rfl,ha⟩,hn⟩:=h
 obtain⟨M,hM,_⟩:=Zc.xB x q.r.ok (aT ns)
 have he:aT ns'=aT ns++M:=q.nms.trans hM
 refine⟨⟨vs++[⟨a,b,c,sg,op⟩],by simp,bO.snoc q.r ?_⟩,?_⟩
 ·rw[he];exact ha.imp fun _ _ r=>r.more M
 ·unfold Zc.aC
  rw[List.foldl_append,q.nms,hn]
  rfl
def b6 (N:List (List UInt8)) (w:World) (o:Option Addr) (n:Nat) (ys:List Zc.aH):Prop:=n=ys.length∧(ys≠[]→∃(g:Nat) (vs:List JV) (cs:Array Value),o=some ⟨g,0,none⟩∧w.heap[g]?=some (.cells cs 151 (0,0))∧cs.toList.take (vs.length*14)=vs.flatMap p9∧bO (px N w) vs ys)
theorem b6.B7 {ns0 ns:List ByteArray} {w:World} {b0 g n cap:Nat} {xs:List Value} {ys:List Zc.aH} (h:tU ns0 ns w xs ys) (ho:w.ownsRow b0 151 14 (.slice (some ⟨g,0,none⟩) n cap) n xs):b6 (aT ns) w (some ⟨g,0,none⟩) n ys:=by
 obtain⟨⟨vs,rfl,ha⟩,_⟩:=h
 have hl:=ho.1
 rw[FW]at hl
 have hl':=ha.length
 rcases ho.2 with⟨q,_⟩ | ⟨g',cap',cur,q,_,hc,_,_,_,ht⟩
 ·cases q
 ·simp only[Value.slice.injEq,Option.some.injEq,Addr.mk.injEq,and_true,true_and]at q
  obtain⟨rfl,rfl⟩:=q
  exact⟨by omega,fun _=>⟨g,vs,cur,rfl,hc,by rw[show vs.length=n by omega];exact ht,ha⟩⟩
def VN (rb:Nat) (s:ByteArray) (ns:List ByteArray) (r:Zc.dR (List Zc.aH×Bool×Bool)) (w:World) (e:Ending) (w':World):Prop:=match r with
 | .inl (er,pos)=>∃(l':List Zc.aj) (ns':List ByteArray) (nv':Value),e= .returned (.tuple #[.agg #[.slice none 0 0,.bool false,.bool false],.bool false])∧St w' rb s l' ns' nv' (er:Int)∧(Zc.hd l').pos=pos∧KA rb [rb] w w'
 | .inr ((ys,t1,g1),l1)=>∃(ao:Option Addr) (n cap:Nat) (ns':List ByteArray) (nv':Value) (e':Int),e= .returned (.tuple #[.agg #[.slice ao n cap,.bool t1,.bool g1],.bool true])∧(b6 (aT ns') w' ao n ys∧aT ns'=Zc.aC (aT ns) ys)∧St w' rb s l1 ns' nv' e'∧KA rb [rb] w w'
def LA (w:World) (rb:Nat) (s:ByteArray) (T G:Bool) (l0:List Zc.aj) (ns0:List ByteArray) (k:Nat) (wr:World):Prop:=
 ∃(n:Nat) (xs:List Value) (iv:Value) (t g:Bool) (l:List Zc.aj) (ns:List ByteArray) (nv:Value) (e:Int),St wr rb s l ns nv e∧KA rb [rb] w wr∧
  wr.heap[w.heap.size]?=some (.cells #[iv,.bool t,.bool g] 82 (0,0))∧
  wr.heap[w.heap.size+1]?=some (.cells #[.slice none 0 0,.bool false,.bool false] 82 (0,0))∧
  wr.ownsRow (w.heap.size+2) 151 14 iv n xs∧n≤5∧k+n=6∧∃ys:List Zc.aH,Zc.items 5 T G l0=Zc.sQ ys (Zc.items (5 - n) t g l)∧tU ns0 ns wr xs ys
theorem aN.Qt {w w':World} {rb lb:Nat} {s:ByteArray} {l:List Zc.aj} {ns:List ByteArray} {nv:Value} {e:Int} {C:Array Value} (hs:St w rb s l ns nv e) (hb:w.heap[lb]?=some (.cells C 82 (0,0))) (hk:KA rb [rb,lb] w w'):aN w w':=fun g cs hg hi=>(hk.block g (Array.getElem?_eq_some_iff.1 hg).1 (fun q=>by
 rcases List.mem_cons.1 q with rfl | q
 ·obtain⟨k,r,hc⟩:=hi
  have:=hs.rd.c0
  simp[World.cell?,hg]at this
  rw[←Array.getElem?_toList,hc]at this
  simp at this
 ·obtain rfl:g=lb:=by simpa using q
  rw[hb]at hg
  simp at hg) (Or.inr (by unfold aP;rw[hg];simp))).trans hg
theorem I9 {w5 w7:World} {lb b0 n:Nat} {av v':Value} {xs:List Value} {X A:Obj} {C:Array Value} (hb0:w7.heap[lb]?=some (.cells C 82 (0,0))) (ho:w5.ownsRow b0 151 14 av n xs) (hg:((w5.alloc X).alloc A).grownBy w7 av.ownBlock):aN w5 (w7.setCell ⟨lb,0,none⟩ v'):=
 (((aN.alloc w5 X).trans (aN.alloc _ A)).trans (aN.grown ((ho.alloc X).alloc A) hg)).trans (aN.only ((aD.refl lb w7).set 0 v') (by unfold aP;rw[hb0];simp))
theorem OH {rb lb b0:Nat} {w w1:World} {T:TypeId} {sz:Nat} {v:Value} {n:Nat} {xs:List Value} (h:w.ownsRow b0 T sz v n xs) (hk:KA rb [rb,lb] w w1) (hb:rb<b0) (hl:lb<b0) (hT:T≠9):w1.ownsRow b0 T sz v n xs:=
 ⟨h.1,h.2.imp id fun⟨g,cap,cur,a,b,c,d⟩=>⟨g,cap,cur,a,b,(hk.block g (Array.getElem?_eq_some_iff.1 c).1 (by simp;omega) (Or.inr (by unfold aP;rw[c];simpa using hT))).trans c,d⟩⟩
theorem Lg {b0 b1:Nat} {w:World} {T:TypeId} {sz:Nat} {v:Value} {n:Nat} {xs:List Value} (h:w.ownsRow b0 T sz v n xs) (hb:b1≤b0):w.ownsRow b1 T sz v n xs:=
 ⟨h.1,h.2.imp id fun⟨g,cap,cur,a,b,c,d⟩=>⟨g,cap,cur,a,Nat.le_trans hb b,c,d⟩⟩
theorem FX (W:World) (n:Nat) (A:Array Value) (T:TypeId) (xs:List Value) (hn:n=W.heap.size) (hx:A.toList=xs):∀j u,xs[j]?=some u→(W.alloc (.cells A T)).cell? ((⟨n,0,none⟩:Addr).add j)=some u:=by
 subst hn hx
 intro j u hj
 have:=ah (heap_alloc_new W (.cells A T)) j
 rw[show (⟨W.heap.size,0,none⟩:Addr).add j=⟨W.heap.size,j,none⟩by cases j<;>simp[Addr.add],this]
 simpa using hj
theorem Qu (a b c:TV) (op sg:ByteArray):∀u∈([.int .i64 a.k,.int .i64 a.val,.string a.tx,.slice a.ao a.n a.cap,.string sg,.int .i64 b.k,.int .i64 b.val,.string b.tx,.slice b.ao b.n b.cap,.string op,.int .i64 c.k,.int .i64 c.val,.string c.tx,.slice c.ao c.n c.cap]:List Value),u.oneCell'=true:=by
 simp[Value.oneCell']
theorem Tt {w:World} {b:Nat} {T:TypeId} {c0 c1 c2:Value} (v:Value) (h:w.heap[b]?=some (.cells #[c0,c1,c2] T (0,0))):
 (w.setCell ⟨b,0,none⟩ v).heap[b]?=some (.cells #[v,c1,c2] T (0,0)):=by
 have:=aA h 0 v
 simpa using this
theorem OI {w w5 w7:World} {rb:Nat} {s:ByteArray} {l:List Zc.aj} {ns:List ByteArray} {nv:Value} {e:Int} {n:Nat} {av v':Value} {xs xs':List Value} {X A:Obj} {t g:Value} {C1:Array Value}
 (hS:St w5 rb s l ns nv e) (hK:KA rb [rb] w w5) (hr:rb<w.heap.size)
 (hb0:w5.heap[w.heap.size]?=some (.cells #[av,t,g] 82 (0,0))) (hb1:w5.heap[w.heap.size+1]?=some (.cells C1 82 (0,0)))
 (ho:w5.ownsRow (w.heap.size+2) 151 14 av n xs)
 (hg:((w5.alloc X).alloc A).grownBy w7 av.ownBlock) (BJ:w7.ownsRow (w.heap.size+2) 151 14 v' (n+1) xs'):
 St (w7.setCell ⟨w.heap.size,0,none⟩ v') rb s l ns nv e∧KA rb [rb] w (w7.setCell ⟨w.heap.size,0,none⟩ v')∧
 (w7.setCell ⟨w.heap.size,0,none⟩ v').heap[w.heap.size]?=some (.cells #[v',t,g] 82 (0,0))∧(w7.setCell ⟨w.heap.size,0,none⟩ v').heap[w.heap.size+1]?=some (.cells C1 82 (0,0))∧
 (w7.setCell ⟨w.heap.size,0,none⟩ v').ownsRow (w.heap.size+2) 151 14 v' (n+1) xs'∧
 w7.heap[w.heap.size]?=some (.cells #[av,t,g] 82 (0,0)):=by
 have jH:w.heap.size+1<w5.heap.size:=ag hb1
 obtain⟨h7,k7⟩:=zv hS hK (Lg ho (by omega)) hr hg
 have hB:Below (w.heap.size+2) w5 w7:=(((Below.refl _ _).alloc (by omega) X).alloc (by simp;omega) A).grown hg (by simp;omega) (fun k q=>(ho.lt k q).1)
 have q0:=(hB.block w.heap.size (by omega)).trans hb0
 have q1:=(hB.block (w.heap.size+1) (by omega)).trans hb1
 obtain⟨h8,k8⟩:=bR h7 k7 hr (Nat.le_refl _) q0 ((aD.refl _ _).set 0 v')
 exact⟨h8,k8,Tt v' q0,aG q1 (by omega) 0 v',ownsRow_setCell_below BJ (by show w.heap.size<w.heap.size+2;omega) v',q0⟩
theorem qc (w:World) (rb:Nat) (s:ByteArray) (l:List Zc.aj) (ns:List ByteArray) (nv:Value) (e0:Int) (tests goals:Bool) (h:St w rb s l ns nv e0):
 Calls Tryz.prog 40 #[.pointer (some ⟨rb,0,none⟩),.agg #[.slice none 0 0,.bool tests,.bool goals]] w fun e w'=>VN rb s ns (Zc.items 5 tests goals l) w e w':=by
 have hlt:=h.lt
 obtain⟨ti,hi,hz0',Lh,FO⟩:=info_parts Tryz.info151
 have HL:=af (show LA w rb s tests goals l ns 6 ((w.alloc (.cells #[.slice none 0 0,.bool tests,.bool goals] 82)).alloc (.cells #[.slice none 0 0,.bool false,.bool false] 82))from
  ⟨0,[],.slice none 0 0,tests,goals,l,ns,nv,e0,h.below (((Below.refl _ _).alloc (Nat.le_refl _) _).alloc (by simp) _),((KA.refl rb [rb] w).alloc _).alloc _,aB (heap_alloc_new w _) _,by have:=heap_alloc_new (w.alloc (.cells #[.slice none 0 0,.bool tests,.bool goals] 82)) (.cells #[.slice none 0 0,.bool false,.bool false] 82);rw[World.size_alloc]at this;exact this,World.ownsRow_nil _ _ _ _,by omega,by omega,[],(Zc.Kl _).symm,⟨[],rfl,trivial⟩,rfl⟩)
 clear h
 go_enter Tryz.func40,Tryz.ntmps40
 go_wp2_with fail
 go_loopg [] 6 (fun k wr=>LA w rb s tests goals l ns k wr)
 case atStart=>exact ae HL
 case round=>
  clear HL
  obtain⟨n,xs,iv,t,g,l1,ns1,nv1,e1,hs,hk,hb0,hb1,ho,zP,Xu,ys,B8,hrow⟩:=hrel
  have lq:=af hrow
  have zQ:=af hs
  clear hrow
  have I:=af (Lf wr rb w.heap.size s l1 ns1 nv1 iv e1 t g hs hb0 (by omega) (by omega))
  have HK:=af hk
  have bf:=af hb0
  have ba:=af hb1
  have HO:=af ho
  have tW:=af B8
  have nP:=hs.lt
  clear hs hk hb0 hb1 ho B8
  generalize hr:Zc.item t g l1=r at I
  have HR:=af hr
  clear hr
  rcases r with⟨er,pos⟩ | ⟨⟨x,t1,g1⟩,l2⟩
  ·have HF:=af (show Zc.items 5 tests goals l= .inl (er,pos)by rw[ae tW,Zc.FU (ae HR)];rfl)
   go_wp2_with fail
   refine(ae I).mono ?_
   rintro e w5 ⟨a,b,c,sg,op,l',ns',nv',rfl,hs5,cm,bU⟩
   have iD:=af hs5
   have HP:=af cm
   have jx:=af ((((ae HK).mono (Y:=[rb,w.heap.size]) (by simp)).trans bU).forget (X:=[rb]) (by simp))
   have tX:=af (aq bU (ae ba) (by simp;omega))
   have r1:=ah (ae tX)
   have x1:=ay (ae tX)
   have hz1:=ag (ae tX)
   clear hs5 cm bU
   go_wp2_with fail
   refine bodyPost_ret (v:= .tuple #[.agg #[.slice none 0 0,.bool false,.bool false],.bool false]) (by simp[results,Tryz.results40,go_sem,hz1,r1]) rfl ?_
   rw[ae HF]
   have R:=bR (ae iD) (ae jx) hlt (by omega) (ae tX) ((((aD.refl _ _).set 0 (.slice none 0 0)).set 1 (.bool false)).set 2 (.bool false))
   exact⟨l',ns',nv',rfl,R.1.below ((Below.refl _ _).alloc (Nat.le_refl _) _),ae HP,R.2.alloc _⟩
  ·go_wp2_with fail
   refine(ae I).mono ?_
   rintro e w5 ⟨a,b,c,sg,op,ns2,nv2,e2,rfl,hit,hs5,Qv,bU⟩
   have AX:=af (((ae lq).keep (aN.Qt (ae zQ) (ae bf) bU)).snoc hit)
   clear hit
   have iD:=af hs5
   have jx:=af ((((ae HK).mono (Y:=[rb,w.heap.size]) (by simp)).trans bU).forget (X:=[rb]) (by simp))
   have kH:=af Qv
   have tX:=af (aq bU (ae ba) (by simp;omega))
   have B9:=af (OH (ae HO) bU (by omega) (by omega) (by decide))
   have r0:=ah (ae kH)
   have hz0:=ag (ae kH)
   have hz1:=ag (ae tX)
   clear hs5 Qv bU HK bf ba HO lq zQ
   go_wp2_with (first | (at_builtin;go_must (refine wpList_append_own _ rfl (.tmp 17) (.tmp 19) 54 rfl (w.heap.size+2) 151 ti (.agg #[.int .i64 0,.int .i64 0,.string ⟨#[]⟩,.slice none 0 0,.string ⟨#[]⟩,.int .i64 0,.int .i64 0,.string ⟨#[]⟩,.slice none 0 0,.string ⟨#[]⟩,.int .i64 0,.int .i64 0,.string ⟨#[]⟩,.slice none 0 0]) 14 200 Tryz.underlying54 hi hz0' Lh FO rfl (by decide) _ n xs rfl (((ae B9).alloc _).alloc _) ⟨w5.heap.size+1,0,none⟩ 1 1 [.int .i64 a.k,.int .i64 a.val,.string a.tx,.slice a.ao a.n a.cap,.string sg,.int .i64 b.k,.int .i64 b.val,.string b.tx,.slice b.ao b.n b.cap,.string op,.int .i64 c.k,.int .i64 c.val,.string c.tx,.slice c.ao c.n c.cap] rfl rfl (FX _ _ _ _ _ (by simp) rfl) (Qu a b c op sg) (by unfold maxLen;omega) (by omega) (by simp;omega) ?_);go_must (intro v' w7 hown' hgrow _;obtain⟨g',cap',hv,hcm⟩:=fp hown';have mL:=af (OI (ae iD) (ae jx) hlt (ae kH) (ae tX) (ae B9) hgrow hown');have Li:=af (I9 (v':=v') (ae mL).2.2.2.2.2 (ae B9) hgrow);have z:=ah (ae mL).2.2.2.2.2;have zx:=ay (ae mL).2.2.2.2.2;have zz:=ag (ae mL).2.2.2.2.2;rw[hv]at mL Li⊢;clear hown' hgrow hv)))
   have FY:=af ((ae AX).keep (ae Li))
   have Nj:=af (ae mL).1
   have Qw:=af (ae mL).2.1
   have Qx:=af (ae mL).2.2.1
   have Er:=af (ae mL).2.2.2.1
   have mK:=af (ae mL).2.2.2.2.1
   clear mL Li AX z zx zz r0 hz0 hz1 iD jx kH tX B9
   generalize w7.setCell ⟨w.heap.size,0,none⟩ (.slice (some ⟨g',0,none⟩) (n+1) cap')=w8 at*
   refine(bC _ rb s l2 ns2 nv2 e2 _ (ae Nj)).mono ?_
   rintro e w9 ⟨rfl,hw⟩
   rw[hw]
   simp only[ByteArray.toList_mk]
   clear hw w9
   have y0:=ah (ae Qx)
   have y1:=ah (ae Er)
   have y1x:=ay (ae Er)
   have hv0:=ag (ae Qx)
   have Qy:=ag (ae Er)
   cases hc:Zc.sees l2 [44]
   ·have HF:=af (show Zc.items 5 tests goals l= .inr ((ys++[x],t1,g1),l2)by rw[ae tW,Zc.FV (ae HR) hc];rfl)
    go_wp2_with fail
    refine bodyPost_ret (v:= .tuple #[.agg #[.slice (some ⟨g',0,none⟩) (n+1) cap',.bool t1,.bool g1],.bool true]) (by simp[results,Tryz.results40,go_sem,y1]) rfl ?_
    rw[ae HF]
    have RP:=zC (ae Nj) (ae Qw) hlt (by omega) (ae Er) ((((aD.refl _ _).set 0 (.slice (some ⟨g',0,none⟩) (n+1) cap')).set 1 (.bool t1)).set 2 (.bool g1))
    have R:=RP.1
    have HOf:=ownsRow_setCell_below (a:=⟨w.heap.size+1,2,none⟩) (ownsRow_setCell_below (a:=⟨w.heap.size+1,1,none⟩) (ownsRow_setCell_below (a:=⟨w.heap.size+1,0,none⟩) (ae mK) (by show w.heap.size+1<w.heap.size+2;omega) (.slice (some ⟨g',0,none⟩) (n+1) cap')) (by show w.heap.size+1<w.heap.size+2;omega) (.bool t1)) (by show w.heap.size+1<w.heap.size+2;omega) (.bool g1)
    exact⟨some ⟨g',0,none⟩,n+1,cap',ns2,nv2,e2,rfl,⟨b6.B7 ((ae FY).keep RP.2) HOf,(ae FY).2⟩,R.1,R.2⟩
   ·have bU:=af (show (Zc.hd l2).kind≠0 by rw[Zc.cV hc];omega)
    go_wp2_with fail
    rw[show ((n:Int)+1)=((n+1:Nat):Int)by omega]
    refine(zi _ rb s l2 ns2 nv2 e2 (n+1) 6 (ae Nj) (ae bU)).mono ?_
    by_cases hn:n+1<6
    ·have HF:=af (show Zc.items 5 tests goals l=Zc.sQ (ys++[x]) (Zc.items (5 - (n+1)) t1 g1 l2.tail)by rw[ae tW,show 5 - n=(5 - (n+1))+1 by omega,Zc.DR (ae HR) hc,Zc.G2])
     rw[if_pos hn,if_pos hn,decide_eq_true hn]
     rintro e wa ⟨rfl,I',hka⟩
     have HROWa:=af ((ae FY).keep (aN.ka (ae Nj) hka))
     have HSa:=af I'
     have HKa:=af ((ae Qw).trans hka)
     have H0a:=af (aq hka (ae Qx) (by simp;omega))
     have H1a:=af (aq hka (ae Er) (by simp;omega))
     have HOa:=af (td (ae mK) hka (by omega) (by decide))
     clear I' hka
     go_wp2_with fail
     go_roundg (gk - 1)
     case measure=>omega
     case rel=>exact⟨n+1,_,_,t1,g1,l2.tail,ns2,nv2,e2,ae HSa,ae HKa,ae H0a,ae H1a,ae HOa,by omega,by omega,_,ae HF,ae HROWa⟩
    ·have HF:=af (show Zc.items 5 tests goals l= .inl (3,(Zc.hd l2).pos)by rw[ae tW,show 5 - n=0 by omega,Zc.DO (ae HR) hc];rfl)
     rw[if_neg hn,if_neg hn,decide_eq_false hn]
     rintro e wa ⟨rfl,I',hka⟩
     have HSa:=af I'
     have HKa:=af ((ae Qw).trans hka)
     have H1a:=af (aq hka (ae Er) (by simp;omega))
     clear I' hka y0 y1 y1x hv0 Qy
     have z1:=ah (ae H1a)
     have z1x:=ay (ae H1a)
     have hzz:=ag (ae H1a)
     go_wp2_with fail
     refine bodyPost_ret (v:= .tuple #[.agg #[.slice none 0 0,.bool false,.bool false],.bool false]) (by simp[results,Tryz.results40,go_sem,z1]) rfl ?_
     rw[ae HF]
     have R:=bR (ae HSa) (ae HKa) hlt (by omega) (ae H1a) ((((aD.refl _ _).set 0 (.slice none 0 0)).set 1 (.bool false)).set 2 (.bool false))
     exact⟨l2,ns2,nv2,rfl,R.1,rfl,R.2⟩
def Tu (w w':World):Prop:=∀(g:Nat) (cs:Array Value),w.heap[g]?=some (.cells cs 151 (0,0))→(∃k r,cs.toList= .int .i64 k :: r)→w'.heap[g]?=some (.cells cs 151 (0,0))
structure aS (w w':World):Prop where
 a:aN w w'
 j:Tu w w'
theorem aS.trans {u v w:World} (h:aS u v) (k:aS v w):aS u w:=⟨h.a.trans k.a,fun g cs a b=>k.j g cs (h.j g cs a b) b⟩
theorem aS.below {w w':World} (h:Below w.heap.size w w'):aS w w':=⟨aN.below h,fun g _ a _=>(h.block g (Array.getElem?_eq_some_iff.1 a).1).trans a⟩
theorem aS.alloc (w:World) (o:Obj):aS w (w.alloc o):=aS.below ((Below.refl _ _).alloc (Nat.le_refl _) o)
theorem aS.py {w w':World} {b:Nat} {cs:Array Value} {T:TypeId} (hb:w.heap[b]?=some (.cells cs T (0,0))) (ho:aD b w w') (hT:T≠76:=by decide) (hJ:T≠151:=by decide):aS w w':=
 ⟨aN.only ho (by unfold aP;rw[hb];simpa using hT),fun g cs' hg _=>(ho.block g (fun q=>by subst q;rw[hb]at hg;simp at hg;exact hJ hg.2)).trans hg⟩
theorem aS.ka {w w':World} {rb:Nat} {s:ByteArray} {l:List Zc.aj} {ns:List ByteArray} {nv:Value} {e:Int} (hs:St w rb s l ns nv e) (hk:KA rb [rb] w w'):aS w w':=
 ⟨aN.ka hs hk,fun g cs hg hi=>(hk.block g (Array.getElem?_eq_some_iff.1 hg).1 (fun q=>by
  obtain rfl:g=rb:=by simpa using q
  obtain⟨k,r,hc⟩:=hi
  have:=hs.rd.c0
  simp[World.cell?,hg]at this
  rw[←Array.getElem?_toList,hc]at this
  simp at this) (Or.inr (by unfold aP;rw[hg];simp))).trans hg⟩
theorem aS.Qt {w w':World} {rb cb:Nat} {s:ByteArray} {l:List Zc.aj} {ns:List ByteArray} {nv:Value} {e:Int} {C:Array Value} (hs:St w rb s l ns nv e) (hb:w.heap[cb]?=some (.cells C 78 (0,0))) (hk:KA rb [rb,cb] w w'):aS w w':=
 ⟨fun g cs hg hi=>(hk.block g (Array.getElem?_eq_some_iff.1 hg).1 (fun q=>by
  rcases List.mem_cons.1 q with rfl | q
  ·obtain⟨k,r,hc⟩:=hi
   have:=hs.rd.c0
   simp[World.cell?,hg]at this
   rw[←Array.getElem?_toList,hc]at this
   simp at this
  ·obtain rfl:g=cb:=by simpa using q
   rw[hb]at hg
   simp at hg) (Or.inr (by unfold aP;rw[hg];simp))).trans hg,
  fun g cs hg hi=>(hk.block g (Array.getElem?_eq_some_iff.1 hg).1 (fun q=>by
   rcases List.mem_cons.1 q with rfl | q
   ·obtain⟨k,r,hc⟩:=hi
    have:=hs.rd.c0
    simp[World.cell?,hg]at this
    rw[←Array.getElem?_toList,hc]at this
    simp at this
   ·obtain rfl:g=cb:=by simpa using q
    rw[hb]at hg
    simp at hg) (Or.inr (by unfold aP;rw[hg];simp))).trans hg⟩
theorem b6.keep {N:List (List UInt8)} {w w':World} {o:Option Addr} {n:Nat} {ys:List Zc.aH} (h:b6 N w o n ys) (hk:aS w w'):b6 N w' o n ys:=by
 refine⟨h.1,fun q=> ?_⟩
 obtain⟨g,vs,cs,h1,h2,h3,h4⟩:=h.2 q
 refine⟨g,vs,cs,h1,hk.j g cs h2 ?_,h3,h4.imp fun _ _ r=>r.keep hk.a⟩
 cases vs with
 | nil=>have:=h4.length;simp at this;exact absurd (List.length_eq_zero_iff.1 this.symm) q
 | cons v vs=>
  cases hc:cs.toList with
  | nil=>rw[hc]at h3;simp[p9]at h3
  | cons c r=>
   rw[hc]at h3
   simp only[List.length_cons,Nat.add_mul,Nat.one_mul,List.flatMap_cons,p9,List.cons_append,List.take_succ_cons]at h3
   injection h3 with h3 _
   exact⟨_,r,by rw[h3]⟩
theorem b6.none (N:List (List UInt8)) (w:World):b6 N w Option.none 0 []:=⟨rfl,fun q=>absurd rfl q⟩
theorem Ca {N:List (List UInt8)} {w:World}:∀(vs:List JV) (ys:List Zc.aH),bO (px N w) vs ys→∀y∈ys,Zc.Ho y
 | [],[],_,_,h=>by cases h
 | [],_ :: _,h,_,_=>h.elim
 | _ :: _,[],_,_,h=>by cases h
 | v :: vs,y :: ys,h,z,hz=>by
  rcases List.mem_cons.1 hz with rfl | hz
  ·exact h.1.ok
  ·exact Ca vs ys h.2 z hz
theorem b6.ok {N:List (List UInt8)} {w:World} {o:Option Addr} {n:Nat} {ys:List Zc.aH} (h:b6 N w o n ys):∀y∈ys,Zc.Ho y:=by
 intro y hy
 obtain⟨g,vs,cs,_,_,_,h4⟩:=h.2 (fun e=>by rw[e]at hy;cases hy)
 exact Ca vs ys h4 y hy
theorem b6.more {N:List (List UInt8)} {w:World} {o:Option Addr} {n:Nat} {ys:List Zc.aH} (h:b6 N w o n ys) (M:List (List UInt8)):b6 (N++M) w o n ys:=
 ⟨h.1,fun q=>by
  obtain⟨g,vs,cs,h1,h2,h3,h4⟩:=h.2 q
  exact⟨g,vs,cs,h1,h2,h3,h4.imp fun _ _ r=>r.more M⟩⟩
theorem b6.behind {N N':List (List UInt8)} {w w':World} {o o':Option Addr} {n n':Nat} {xs ys:List Zc.aH} (h:b6 N w o n xs) (k:b6 N' w' o' n' ys) (hn:N'=Zc.aC N ys):b6 N' w o n xs:=by
 obtain⟨M,hM,_⟩:=Zc.tE ys k.ok N
 rw[hn]
 unfold Zc.aC
 rw[hM]
 exact h.more M
structure Qz (ns ns':List ByteArray) (w:World) (o1:Option Addr) (n1:Nat) (o2:Option Addr) (n2:Nat) (r:List Zc.aH×List Zc.aH):Prop where
 tests:b6 (aT ns') w o1 n1 r.1
 goals:b6 (aT ns') w o2 n2 r.2
 nms:aT ns'=Zc.aC (Zc.aC (aT ns) r.1) r.2
def sG (rb cb:Nat) (h0 h1 h2 h3:Value) (s:ByteArray) (ns:List ByteArray) (r:Zc.dR (List Zc.aH×List Zc.aH)) (w:World) (e:Ending) (w':World):Prop:=match r with
 | .inl (er,pos)=>∃(l':List Zc.aj) (ns':List ByteArray) (nv':Value) (o1:Option Addr) (n1 c1:Nat) (o2:Option Addr) (n2 c2:Nat),
  e= .returned (.bool false)∧St w' rb s l' ns' nv' (er:Int)∧(Zc.hd l').pos=pos∧w'.heap[cb]?=some (.cells #[h0,h1,h2,h3,.slice o1 n1 c1,.slice o2 n2 c2] 78 (0,0))∧KA rb [rb,cb] w w'
 | .inr (xy,l1)=>∃(ns':List ByteArray) (nv':Value) (e':Int) (o1:Option Addr) (n1 c1:Nat) (o2:Option Addr) (n2 c2:Nat),
  e= .returned (.bool true)∧Qz ns ns' w' o1 n1 o2 n2 xy∧St w' rb s l1 ns' nv' e'∧w'.heap[cb]?=some (.cells #[h0,h1,h2,h3,.slice o1 n1 c1,.slice o2 n2 c2] 78 (0,0))∧KA rb [rb,cb] w w'
theorem Nk {w:World} {b:Nat} {T:TypeId} {c0 c1 c2 c3 c4 c5:Value} (v:Value) (h:w.heap[b]?=some (.cells #[c0,c1,c2,c3,c4,c5] T (0,0))):
 (w.setCell ⟨b,4,none⟩ v).heap[b]?=some (.cells #[c0,c1,c2,c3,v,c5] T (0,0)):=by
 have:=aA h 4 v
 simpa using this
theorem uU {w:World} {b:Nat} {T:TypeId} {c0 c1 c2 c3 c4 c5:Value} (v:Value) (h:w.heap[b]?=some (.cells #[c0,c1,c2,c3,c4,c5] T (0,0))):
 (w.setCell ⟨b,5,none⟩ v).heap[b]?=some (.cells #[c0,c1,c2,c3,c4,v] T (0,0)):=by
 have:=aA h 5 v
 simpa using this
theorem FZ {w:World} {b:Nat} {T:TypeId} {c0 c1 c2 c3 c4 c5:Value} (v0 v1 v2 v3:Value) (h:w.heap[b]?=some (.cells #[c0,c1,c2,c3,c4,c5] T (0,0))):
 ((((w.setCell ⟨b,0,none⟩ v0).setCell ⟨b,1,none⟩ v1).setCell ⟨b,2,none⟩ v2).setCell ⟨b,3,none⟩ v3).heap[b]?=some (.cells #[v0,v1,v2,v3,c4,c5] T (0,0)):=by
 have:=aA (aA (aA (aA h 0 v0) 1 v1) 2 v2) 3 v3
 simpa using this
theorem uV {w:World} {b b':Nat} {x:Obj} (v0 v1 v2:Value) (h:w.heap[b']?=some x) (hne:b'≠b):
 (((w.setCell ⟨b,0,none⟩ v0).setCell ⟨b,1,none⟩ v1).setCell ⟨b,2,none⟩ v2).heap[b']?=some x:=
 aG (aG (aG h hne 0 v0) hne 1 v1) hne 2 v2
theorem lM {w w1 w2:World} {rb cb:Nat} {s:ByteArray} {l:List Zc.aj} {ns:List ByteArray} {nv:Value} {e:Int} {cs:Array Value} (h:St w1 rb s l ns nv e) (hk:KA rb [rb,cb] w w1) (hne:cb≠rb) (cI:cb≠0) (hc:w1.heap[cb]?=some (.cells cs 78 (0,0))) (ho:aD cb w1 w2):
 St w2 rb s l ns nv e∧KA rb [rb,cb] w w2:=
 ⟨h.only ho hne cI (by unfold aP;rw[hc];simp),hk.PS ho (by simp)⟩
theorem oP {w w1 w2:World} {rb cb b:Nat} {s:ByteArray} {l:List Zc.aj} {ns:List ByteArray} {nv:Value} {e:Int} {cs:Array Value} (h:St w1 rb s l ns nv e) (hk:KA rb [rb,cb] w w1) (hlt:rb<w.heap.size) (hb:w.heap.size≤b) (hc:w1.heap[b]?=some (.cells cs 82 (0,0))) (ho:aD b w1 w2):
 St w2 rb s l ns nv e∧KA rb [rb,cb] w w2:=
 ⟨h.only ho (by omega) (by omega) (by unfold aP;rw[hc];simp),hk.eI ho hb⟩
theorem Cb (w:World) (rb cb:Nat) (h0 h1 h2 h3:Value) (s:ByteArray) (l:List Zc.aj) (ns:List ByteArray) (nv:Value) (e0:Int) (h:St w rb s l ns nv e0) (hb:w.heap[cb]?=some (.cells #[h0,h1,h2,h3,.slice none 0 0,.slice none 0 0] 78 (0,0))) (hne:cb≠rb) (cI:cb≠0):
 Calls Tryz.prog 78 #[.pointer (some ⟨rb,0,none⟩),.pointer (some ⟨cb,0,none⟩)] w fun e w'=>sG rb cb h0 h1 h2 h3 s ns (Zc.body l) w e w':=by
 have hlt:=h.lt
 have hlc:=ag hb
 have HB:=af hb
 have I:=af (qc w rb s l ns nv e0 true true h)
 clear h hb
 generalize hr:Zc.items 5 true true l=r at I
 have HR:=af hr
 clear hr
 rcases r with⟨er,pos⟩ | ⟨⟨xs,t1,g1⟩,l1⟩
 ·have HF:=af (show Zc.body l= .inl (er,pos)from Zc.Km (ae HR))
  go_enter Tryz.func78,Tryz.ntmps78
  go_wp2_with fail
  refine(ae I).mono ?_
  rintro e w1 ⟨l',ns',nv',rfl,hs1,cm,ft⟩
  have bE:=af hs1
  have HP:=af cm
  have cZ:=af ft
  have ba:=af (aq ft (ae HB) (by simp;omega))
  clear hs1 cm ft
  go_wp2_with fail
  go_ret
  refine(?_:sG rb cb h0 h1 h2 h3 s ns _ w _ _)
  rw[ae HF]
  exact⟨l',ns',nv',none,0,0,none,0,0,rfl,(ae bE).below ((Below.refl _ _).alloc (Nat.le_refl _) _),ae HP,aB (ae ba) _,((ae cZ).wide).alloc _⟩
 ·go_enter Tryz.func78,Tryz.ntmps78
  go_wp2_with fail
  refine(ae I).mono ?_
  rintro e w1 ⟨ao,n,cap,ns1,nv1,e1,rfl,⟨Uy,tB⟩,hs1,ft⟩
  have Cc:=af Uy
  have Es:=af tB
  clear Uy tB
  have bE:=af hs1
  have cZ:=af (ft.wide (lb:=cb))
  have ba:=af (aq ft (ae HB) (by simp;omega))
  have tO:rb<w1.heap.size:=hs1.lt
  have YI:cb<w1.heap.size:=ag (ae ba)
  have YJ:w.heap.size≤w1.heap.size:=ft.size
  clear hs1 ft
  cases t1
  ·cases g1
   ·have HF:=af (show Zc.body l= .inl (2,(Zc.hd l1).pos)from Zc.sk (ae HR) (by simp))
    have bZ:=af ((ae bE).below ((Below.refl _ _).alloc (Nat.le_refl _) (.cells #[.slice ao n cap,.bool false,.bool false] 82)))
    have dh:=af ((ae cZ).alloc (.cells #[.slice ao n cap,.bool false,.bool false] 82))
    have aX:=af (aB (ae ba) (.cells #[.slice ao n cap,.bool false,.bool false] 82))
    have sB:=af (heap_alloc_new w1 (.cells #[.slice ao n cap,.bool false,.bool false] 82))
    have sH:=af ((ae Cc).keep (aS.alloc _ (.cells #[.slice ao n cap,.bool false,.bool false] 82)))
    go_wp2_with fail
    refine(bW _ rb s l1 ns1 nv1 e1 2 (ae bZ)).mono ?_
    rintro e wz ⟨rfl,hsz,fM⟩
    have HSz:=af hsz
    have HKz:=af ((ae dh).trans fM.wide)
    have HBz:=af (aq fM (ae aX) (by simp;omega))
    clear hsz fM
    go_wp2_with fail
    go_ret
    refine(?_:sG rb cb h0 h1 h2 h3 s ns _ w _ _)
    rw[ae HF]
    exact⟨l1,ns1,nv1,none,0,0,none,0,0,rfl,ae HSz,rfl,ae HBz,ae HKz⟩
   ·have HF:=af (show Zc.body l= .inr (([],xs),l1)from Zc.xm (ae HR) (by simp))
    have rc:=ah (ae ba)
    have xc:=ay (ae ba)
    go_wp2_with fail
    go_ret
    refine(?_:sG rb cb h0 h1 h2 h3 s ns _ w _ _)
    rw[ae HF]
    have R:=lM (ae bE) (ae cZ) hne cI (ae ba) ((aD.refl _ _).set 5 (.slice ao n cap))
    exact⟨ns1,nv1,e1,none,0,0,ao,n,cap,rfl,⟨b6.none _ _,(ae Cc).keep ((aS.py (ae ba) ((aD.refl cb w1).set 5 (.slice ao n cap))).trans (aS.alloc _ _)),ae Es⟩,R.1.below ((Below.refl _ _).alloc (Nat.le_refl _) _),aB (uU (.slice ao n cap) (ae ba)) _,R.2.alloc _⟩
  ·cases g1
   ·have bZ:=af ((ae bE).below ((Below.refl _ _).alloc (Nat.le_refl _) (.cells #[.slice ao n cap,.bool true,.bool false] 82)))
    have dh:=af ((ae cZ).alloc (.cells #[.slice ao n cap,.bool true,.bool false] 82))
    have aX:=af (aB (ae ba) (.cells #[.slice ao n cap,.bool true,.bool false] 82))
    have sB:=af (heap_alloc_new w1 (.cells #[.slice ao n cap,.bool true,.bool false] 82))
    have sH:=af ((ae Cc).keep (aS.alloc _ (.cells #[.slice ao n cap,.bool true,.bool false] 82)))
    go_wp2_with fail
    refine(bC _ rb s l1 ns1 nv1 e1 _ (ae bZ)).mono ?_
    rintro e w9 ⟨rfl,hw⟩
    rw[hw]
    simp only[ByteArray.toList_mk]
    clear hw w9
    generalize zR:w1.heap.size=bb at*
    generalize hw2:w1.alloc (.cells #[.slice ao n cap,.bool true,.bool false] 82)=w2 at*
    clear zR hw2
    have r2:=ah (ae sB)
    have hzl:=ag (ae sB)
    have rc:=ah (ae aX)
    have xc:=ay (ae aX)
    have QA:=ag (ae aX)
    cases pC:Zc.sees l1 [124]
    ·have HF:=af (show Zc.body l= .inl (2,(Zc.hd l1).pos)from Zc.sk (ae HR) (by simp[pC]))
     go_wp2_with fail
     refine(bW _ rb s l1 ns1 nv1 e1 2 (ae bZ)).mono ?_
     rintro e wz ⟨rfl,hsz,fM⟩
     have HSz:=af hsz
     have HKz:=af ((ae dh).trans fM.wide)
     have HBz:=af (aq fM (ae aX) (by simp;omega))
     clear hsz fM
     go_wp2_with fail
     go_ret
     refine(?_:sG rb cb h0 h1 h2 h3 s ns _ w _ _)
     rw[ae HF]
     exact⟨l1,ns1,nv1,none,0,0,none,0,0,rfl,ae HSz,rfl,ae HBz,ae HKz⟩
    ·have hkj:=af (show (Zc.hd l1).kind≠0 by rw[Zc.cV pC];omega)
     go_wp2_with fail
     refine(fP _ rb s l1 ns1 nv1 e1 (ae bZ) (ae hkj)).mono ?_
     rintro e w3 ⟨rfl,hs3,hk3⟩
     have eK:=af hs3
     have QB:=af ((ae sH).keep (aS.ka (ae bZ) hk3))
     have ez:=af ((ae dh).trans hk3.wide)
     have bu:=af (aq hk3 (ae aX) (by simp;omega))
     have Ce:=af (aq hk3 (ae sB) (by simp;omega))
     clear hs3 hk3 r2 hzl rc xc QA
     have r3:=ah (ae Ce)
     have hz3:=ag (ae Ce)
     have rc3:=ah (ae bu)
     have xc3:=ay (ae bu)
     have hc3:=ag (ae bu)
     have R4:=af (lM (ae eK) (ae ez) hne cI (ae bu) ((aD.refl _ _).set 4 (.slice ao n cap)))
     have cu:=af (Nk (.slice ao n cap) (ae bu))
     have QC:=af ((ae QB).keep (aS.py (ae bu) ((aD.refl cb w3).set 4 (.slice ao n cap))))
     have Ja:=af (aG (ae Ce) (show bb≠cb by omega) 4 (.slice ao n cap))
     go_wp2_with fail
     clear r3 hz3 rc3 xc3 hc3
     generalize w3.setCell ⟨cb,4,none⟩ (.slice ao n cap)=w4 at*
     have J:=af (qc w4 rb s l1.tail ns1 nv1 e1 false true (ae R4).1)
     generalize hr2:Zc.items 5 false true l1.tail=r2 at J
     have tN:=af hr2
     clear hr2
     refine(ae J).mono ?_
     rcases r2 with⟨er,pos⟩ | ⟨⟨ys,t5,g5⟩,l5⟩
     ·have HF:=af (show Zc.body l= .inl (er,pos)from Zc.sR (ae HR) pC (ae tN))
      rintro e w5 ⟨l',ns',nv',rfl,hs5,cm,bU⟩
      have HP:=af cm
      clear cm
      have iD:=af hs5
      have jx:=af ((ae R4).2.trans bU.wide)
      have bM:=af (aq bU (ae cu) (by simp;omega))
      have jK:=af (aq bU (ae Ja) (by simp;omega))
      have r5:=ah (ae jK)
      have x5:=ay (ae jK)
      have QD:=ag (ae jK)
      have rc5:=ah (ae bM)
      have xc5:=ay (ae bM)
      have xL:=ag (ae bM)
      clear hs5 bU
      have R6:=af (oP (ae iD) (ae jx) hlt (by omega) (ae jK) ((((aD.refl _ _).set 0 (.slice none 0 0)).set 1 (.bool false)).set 2 (.bool false)))
      have mM:=af (ae R6).1
      have oz:=af (ae R6).2
      have cC:=af (uV (.slice none 0 0) (.bool false) (.bool false) (ae bM) (show cb≠bb by omega))
      go_wp2_with fail
      go_ret
      refine(?_:sG rb cb h0 h1 h2 h3 s ns _ w _ _)
      rw[ae HF]
      have R:=lM (ae mM) (ae oz) hne cI (ae cC) ((aD.refl _ _).set 5 (.slice none 0 0))
      exact⟨l',ns',nv',ao,n,cap,none,0,0,rfl,R.1,ae HP,uU (.slice none 0 0) (ae cC),R.2⟩
     ·rintro e w5 ⟨ao5,n5,cap5,ns5,nv5,e5,rfl,⟨Cf,zP⟩,hs5,bU⟩
      have QE:=af (b6.behind ((ae QC).keep (aS.ka (ae R4).1 bU)) Cf zP)
      have QF:=af Cf
      have QG:Hid (aT ns5=Zc.aC (Zc.aC (aT ns) xs) ys):=af (by rw[zP,ae Es])
      clear Cf zP
      have iD:=af hs5
      have jx:=af ((ae R4).2.trans bU.wide)
      have bM:=af (aq bU (ae cu) (by simp;omega))
      have jK:=af (aq bU (ae Ja) (by simp;omega))
      have r5:=ah (ae jK)
      have x5:=ay (ae jK)
      have QD:=ag (ae jK)
      have rc5:=ah (ae bM)
      have xc5:=ay (ae bM)
      have xL:=ag (ae bM)
      clear hs5 bU
      cases g5
      ·have HF:=af (show Zc.body l= .inl (2,(Zc.hd l5).pos)from Zc.vC (ae HR) pC (ae tN))
       have R6:=af (oP (ae iD) (ae jx) hlt (by omega) (ae jK) ((((aD.refl _ _).set 0 (.slice ao5 n5 cap5)).set 1 (.bool t5)).set 2 (.bool false)))
       have mM:=af (ae R6).1
       have oz:=af (ae R6).2
       have cC:=af (uV (.slice ao5 n5 cap5) (.bool t5) (.bool false) (ae bM) (show cb≠bb by omega))
       go_wp2_with fail
       refine(bW _ rb s l5 ns5 nv5 e5 2 (ae mM)).mono ?_
       rintro e wz ⟨rfl,hsz,fM⟩
       have HSz:=af hsz
       have HKz:=af ((ae oz).trans fM.wide)
       have HBz:=af (aq fM (ae cC) (by simp;omega))
       clear hsz fM
       go_wp2_with fail
       go_ret
       refine(?_:sG rb cb h0 h1 h2 h3 s ns _ w _ _)
       rw[ae HF]
       exact⟨l5,ns5,nv5,ao,n,cap,none,0,0,rfl,ae HSz,rfl,ae HBz,ae HKz⟩
      ·have HF:=af (show Zc.body l= .inr ((xs,ys),l5)from Zc.Bc (ae HR) pC (ae tN))
       have R6:=af (oP (ae iD) (ae jx) hlt (by omega) (ae jK) ((((aD.refl _ _).set 0 (.slice ao5 n5 cap5)).set 1 (.bool t5)).set 2 (.bool true)))
       have mM:=af (ae R6).1
       have oz:=af (ae R6).2
       have cC:=af (uV (.slice ao5 n5 cap5) (.bool t5) (.bool true) (ae bM) (show cb≠bb by omega))
       go_wp2_with fail
       go_ret
       refine(?_:sG rb cb h0 h1 h2 h3 s ns _ w _ _)
       rw[ae HF]
       have R:=lM (ae mM) (ae oz) hne cI (ae cC) ((aD.refl _ _).set 5 (.slice ao5 n5 cap5))
       have KK:=(aS.py (ae jK) ((((aD.refl _ _).set 0 (.slice ao5 n5 cap5)).set 1 (.bool t5)).set 2 (.bool true))).trans (aS.py (ae cC) ((aD.refl _ _).set 5 (.slice ao5 n5 cap5)))
       exact⟨ns5,nv5,e5,ao,n,cap,ao5,n5,cap5,rfl,⟨(ae QE).keep KK,(ae QF).keep KK,ae QG⟩,R.1,(uU (.slice ao5 n5 cap5) (ae cC)),R.2⟩
   ·have bZ:=af ((ae bE).below ((Below.refl _ _).alloc (Nat.le_refl _) (.cells #[.slice ao n cap,.bool true,.bool true] 82)))
    have dh:=af ((ae cZ).alloc (.cells #[.slice ao n cap,.bool true,.bool true] 82))
    have aX:=af (aB (ae ba) (.cells #[.slice ao n cap,.bool true,.bool true] 82))
    have sB:=af (heap_alloc_new w1 (.cells #[.slice ao n cap,.bool true,.bool true] 82))
    have sH:=af ((ae Cc).keep (aS.alloc _ (.cells #[.slice ao n cap,.bool true,.bool true] 82)))
    go_wp2_with fail
    refine(bC _ rb s l1 ns1 nv1 e1 _ (ae bZ)).mono ?_
    rintro e w9 ⟨rfl,hw⟩
    rw[hw]
    simp only[ByteArray.toList_mk]
    clear hw w9
    generalize zR:w1.heap.size=bb at*
    generalize hw2:w1.alloc (.cells #[.slice ao n cap,.bool true,.bool true] 82)=w2 at*
    clear zR hw2
    have r2:=ah (ae sB)
    have hzl:=ag (ae sB)
    have rc:=ah (ae aX)
    have xc:=ay (ae aX)
    have QA:=ag (ae aX)
    cases pC:Zc.sees l1 [124]
    ·have HF:=af (show Zc.body l= .inr (([],xs),l1)from Zc.xm (ae HR) (by simp[pC]))
     go_wp2_with fail
     go_ret
     refine(?_:sG rb cb h0 h1 h2 h3 s ns _ w _ _)
     rw[ae HF]
     have R:=lM (ae bZ) (ae dh) hne cI (ae aX) ((aD.refl _ _).set 5 (.slice ao n cap))
     exact⟨ns1,nv1,e1,none,0,0,ao,n,cap,rfl,⟨b6.none _ _,(ae sH).keep (aS.py (ae aX) ((aD.refl cb w2).set 5 (.slice ao n cap))),ae Es⟩,R.1,(uU (.slice ao n cap) (ae aX)),R.2⟩
    ·have hkj:=af (show (Zc.hd l1).kind≠0 by rw[Zc.cV pC];omega)
     go_wp2_with fail
     refine(fP _ rb s l1 ns1 nv1 e1 (ae bZ) (ae hkj)).mono ?_
     rintro e w3 ⟨rfl,hs3,hk3⟩
     have eK:=af hs3
     have QB:=af ((ae sH).keep (aS.ka (ae bZ) hk3))
     have ez:=af ((ae dh).trans hk3.wide)
     have bu:=af (aq hk3 (ae aX) (by simp;omega))
     have Ce:=af (aq hk3 (ae sB) (by simp;omega))
     clear hs3 hk3 r2 hzl rc xc QA
     have r3:=ah (ae Ce)
     have hz3:=ag (ae Ce)
     have rc3:=ah (ae bu)
     have xc3:=ay (ae bu)
     have hc3:=ag (ae bu)
     have R4:=af (lM (ae eK) (ae ez) hne cI (ae bu) ((aD.refl _ _).set 4 (.slice ao n cap)))
     have cu:=af (Nk (.slice ao n cap) (ae bu))
     have QC:=af ((ae QB).keep (aS.py (ae bu) ((aD.refl cb w3).set 4 (.slice ao n cap))))
     have Ja:=af (aG (ae Ce) (show bb≠cb by omega) 4 (.slice ao n cap))
     go_wp2_with fail
     clear r3 hz3 rc3 xc3 hc3
     generalize w3.setCell ⟨cb,4,none⟩ (.slice ao n cap)=w4 at*
     have J:=af (qc w4 rb s l1.tail ns1 nv1 e1 false true (ae R4).1)
     generalize hr2:Zc.items 5 false true l1.tail=r2 at J
     have tN:=af hr2
     clear hr2
     refine(ae J).mono ?_
     rcases r2 with⟨er,pos⟩ | ⟨⟨ys,t5,g5⟩,l5⟩
     ·have HF:=af (show Zc.body l= .inl (er,pos)from Zc.sR (ae HR) pC (ae tN))
      rintro e w5 ⟨l',ns',nv',rfl,hs5,cm,bU⟩
      have HP:=af cm
      clear cm
      have iD:=af hs5
      have jx:=af ((ae R4).2.trans bU.wide)
      have bM:=af (aq bU (ae cu) (by simp;omega))
      have jK:=af (aq bU (ae Ja) (by simp;omega))
      have r5:=ah (ae jK)
      have x5:=ay (ae jK)
      have QD:=ag (ae jK)
      have rc5:=ah (ae bM)
      have xc5:=ay (ae bM)
      have xL:=ag (ae bM)
      clear hs5 bU
      have R6:=af (oP (ae iD) (ae jx) hlt (by omega) (ae jK) ((((aD.refl _ _).set 0 (.slice none 0 0)).set 1 (.bool false)).set 2 (.bool false)))
      have mM:=af (ae R6).1
      have oz:=af (ae R6).2
      have cC:=af (uV (.slice none 0 0) (.bool false) (.bool false) (ae bM) (show cb≠bb by omega))
      go_wp2_with fail
      go_ret
      refine(?_:sG rb cb h0 h1 h2 h3 s ns _ w _ _)
      rw[ae HF]
      have R:=lM (ae mM) (ae oz) hne cI (ae cC) ((aD.refl _ _).set 5 (.slice none 0 0))
      exact⟨l',ns',nv',ao,n,cap,none,0,0,rfl,R.1,ae HP,uU (.slice none 0 0) (ae cC),R.2⟩
     ·rintro e w5 ⟨ao5,n5,cap5,ns5,nv5,e5,rfl,⟨Cf,zP⟩,hs5,bU⟩
      have QE:=af (b6.behind ((ae QC).keep (aS.ka (ae R4).1 bU)) Cf zP)
      have QF:=af Cf
      have QG:Hid (aT ns5=Zc.aC (Zc.aC (aT ns) xs) ys):=af (by rw[zP,ae Es])
      clear Cf zP
      have iD:=af hs5
      have jx:=af ((ae R4).2.trans bU.wide)
      have bM:=af (aq bU (ae cu) (by simp;omega))
      have jK:=af (aq bU (ae Ja) (by simp;omega))
      have r5:=ah (ae jK)
      have x5:=ay (ae jK)
      have QD:=ag (ae jK)
      have rc5:=ah (ae bM)
      have xc5:=ay (ae bM)
      have xL:=ag (ae bM)
      clear hs5 bU
      cases g5
      ·have HF:=af (show Zc.body l= .inl (2,(Zc.hd l5).pos)from Zc.vC (ae HR) pC (ae tN))
       have R6:=af (oP (ae iD) (ae jx) hlt (by omega) (ae jK) ((((aD.refl _ _).set 0 (.slice ao5 n5 cap5)).set 1 (.bool t5)).set 2 (.bool false)))
       have mM:=af (ae R6).1
       have oz:=af (ae R6).2
       have cC:=af (uV (.slice ao5 n5 cap5) (.bool t5) (.bool false) (ae bM) (show cb≠bb by omega))
       go_wp2_with fail
       refine(bW _ rb s l5 ns5 nv5 e5 2 (ae mM)).mono ?_
       rintro e wz ⟨rfl,hsz,fM⟩
       have HSz:=af hsz
       have HKz:=af ((ae oz).trans fM.wide)
       have HBz:=af (aq fM (ae cC) (by simp;omega))
       clear hsz fM
       go_wp2_with fail
       go_ret
       refine(?_:sG rb cb h0 h1 h2 h3 s ns _ w _ _)
       rw[ae HF]
       exact⟨l5,ns5,nv5,ao,n,cap,none,0,0,rfl,ae HSz,rfl,ae HBz,ae HKz⟩
      ·have HF:=af (show Zc.body l= .inr ((xs,ys),l5)from Zc.Bc (ae HR) pC (ae tN))
       have R6:=af (oP (ae iD) (ae jx) hlt (by omega) (ae jK) ((((aD.refl _ _).set 0 (.slice ao5 n5 cap5)).set 1 (.bool t5)).set 2 (.bool true)))
       have mM:=af (ae R6).1
       have oz:=af (ae R6).2
       have cC:=af (uV (.slice ao5 n5 cap5) (.bool t5) (.bool true) (ae bM) (show cb≠bb by omega))
       go_wp2_with fail
       go_ret
       refine(?_:sG rb cb h0 h1 h2 h3 s ns _ w _ _)
       rw[ae HF]
       have R:=lM (ae mM) (ae oz) hne cI (ae cC) ((aD.refl _ _).set 5 (.slice ao5 n5 cap5))
       have KK:=(aS.py (ae jK) ((((aD.refl _ _).set 0 (.slice ao5 n5 cap5)).set 1 (.bool t5)).set 2 (.bool true))).trans (aS.py (ae cC) ((aD.refl _ _).set 5 (.slice ao5 n5 cap5)))
       exact⟨ns5,nv5,e5,ao,n,cap,ao5,n5,cap5,rfl,⟨(ae QE).keep KK,(ae QF).keep KK,ae QG⟩,R.1,(uU (.slice ao5 n5 cap5) (ae cC)),R.2⟩
end Go.Proofs.YthfjnfcekeknlaaGreatDoor
