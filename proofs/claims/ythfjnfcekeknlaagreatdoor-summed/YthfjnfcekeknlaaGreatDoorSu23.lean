import Derived.Test.YthfjnfcekeknlaaGreatDoorSu16
import Derived.Test.YthfjnfcekeknlaaGreatDoorSu17
import Derived.Test.YthfjnfcekeknlaaGreatDoorSu18
import Derived.Test.YthfjnfcekeknlaaGreatDoorSu19
import Derived.Test.YthfjnfcekeknlaaGreatDoorSu22
import Derived.Deep.LoopGhost
set_option maxHeartbeats 8000000
set_option maxRecDepth 100000
namespace Go.Proofs.YthfjnfcekeknlaaGreatDoor
open Go.RowKit
theorem Fo (f:Nat) (l:List Za.aj) (t:Za.Tm) (l1:List Za.aj) (h:Za.term f l= .inr (t,l1)):t.kind=2∨t.kind=3∨t.kind=4:=by
 cases f with
 | zero=>
  rw[Za.term]at h
  by_cases hb:Za.dx (Za.hd l)=true
  ·rw[if_pos hb]at h;cases h
  ·rw[if_neg hb]at h;cases h
 | succ f=>
  rw[Za.term]at h
  by_cases hb:Za.dx (Za.hd l)=true
  ·rw[if_pos hb]at h
   have hk:(Za.hd l).kind=2∨(Za.hd l).kind=3∨(Za.hd l).kind=4:=by simpa [Za.dx,or_assoc] using hb
   by_cases hl:(Za.hd l).kind=4∧6<(Za.hd l).text.size
   ·rw[if_pos hl]at h;cases h
   ·rw[if_neg hl]at h
    by_cases h2:(Za.hd l).kind=2
    ·rw[if_pos h2]at h
     by_cases hs:Za.sees l.tail [40]=true
     ·rw[if_pos hs]at h
      rcases hq:Za.bM (Za.term f) 2 l.tail.tail with x | ⟨us,l2⟩
      ·rw[hq]at h;cases h
      ·rw[hq]at h;injection h with h;injection h with h _;subst h;exact Or.inl rfl
     ·rw[if_neg hs]at h;injection h with h;injection h with h _;subst h;exact Or.inl rfl
    ·rw[if_neg h2]at h;injection h with h;injection h with h _;subst h;exact hk
  ·rw[if_neg hb]at h;cases h
theorem KF (w:World) (rb lb:Nat) (s:ByteArray) (l:List Za.aj) (ns:List ByteArray) (nv iv:Value) (e0:Int) (tests goals:Bool) (h:St w rb s l ns nv e0) (hb:w.heap[lb]?=some (.cells #[iv,.bool tests,.bool goals] 82 (0,0))) (hne:lb≠rb) (cf:lb≠0):
 Calls Tryz.prog 80 #[.pointer (some ⟨rb,0,none⟩),.pointer (some ⟨lb,0,none⟩)] w fun e w'=>nG rb lb iv s ns (Za.item tests goals l) w e w':=by
 rcases hT:Za.term 8 l with⟨er,ps⟩ | ⟨t,l1⟩
 ·rw[show Za.item tests goals l= .inl (er,ps)by unfold Za.item;rw[hT]]
  exact KC w rb lb s l ns nv iv e0 tests goals h hb hne cf er ps hT
 ·have hk:=Fo 8 l t l1 hT
  cases aW:Za.bu l1
  ·cases heq:Za.sees l1 [61]
   ·by_cases h3:t.kind=3∧Za.sees l1 [58,61]=true
    ·obtain⟨h3,has⟩:=h3
     rcases hR:Za.assignment t goals l1 with⟨er,ps⟩ | ⟨x,l2⟩
     ·rw[show Za.item tests goals l= .inl (er,ps)by unfold Za.item;rw[hT];simp only[aW,heq,h3,has,hR];rfl]
      exact Dl w rb lb s l ns nv iv e0 tests goals h hb hne cf t l1 hT h3 aW heq has er ps hR
     ·rw[show Za.item tests goals l= .inr ((x,false,goals),l2)by unfold Za.item;rw[hT];simp only[aW,heq,h3,has,hR];rfl]
      exact BM w rb lb s l ns nv iv e0 tests goals h hb hne cf t l1 hT h3 aW heq has x l2 hR
    ·have hI:Za.item tests goals l=if t.kind=2∧((tests&&Za.isInt t)||goals)=true then .inr ((⟨t,[],none,[],none⟩,tests&&Za.isInt t,goals),l1)else Za.bad 2 l1:=by
      unfold Za.item;rw[hT];simp only[aW,heq];rw[if_neg h3];rfl
     have hn:t.kind≠2→Za.isInt t=false:=fun q=>by simp[Za.isInt,q]
     rw[hI]
     rcases hk with hk | hk | hk
     ·cases tests
      ·cases goals
       ·rw[if_neg (by simp)]
        exact ve w rb lb s l ns nv iv e0 h hb hne cf t l1 hk hT aW heq
       ·rw[if_pos (by simp[hk])]
        exact uZ w rb lb s l ns nv iv e0 h hb hne cf t l1 hk hT aW heq
      ·cases hi:Za.isInt t
       ·cases goals
        ·rw[if_neg (by simp)]
         exact wk w rb lb s l ns nv iv e0 h hb hne cf t l1 hk hi hT aW heq
        ·rw[if_pos (by simp[hk])]
         exact wj w rb lb s l ns nv iv e0 h hb hne cf t l1 hk hi hT aW heq
       ·rw[if_pos (by simp[hk])]
        exact wh w rb lb s l ns nv iv e0 goals h hb hne cf t l1 hk hi hT aW heq
     ·have has:Za.sees l1 [58,61]=false:=by simpa [hk] using h3
      rw[if_neg (by omega)]
      cases tests
      ·exact vg w rb lb s l ns nv iv e0 goals h hb hne cf t l1 hk hT aW heq has
      ·exact wm w rb lb s l ns nv iv e0 goals h hb hne cf t l1 hk (hn (by omega)) hT aW heq has
     ·rw[if_neg (by omega)]
      cases tests
      ·exact vh w rb lb s l ns nv iv e0 goals h hb hne cf t l1 hk hT aW heq
      ·exact wq w rb lb s l ns nv iv e0 goals h hb hne cf t l1 hk (hn (by omega)) hT aW heq
   ·rcases hR:Za.sides t goals l1 with⟨er,ps⟩ | ⟨x,l2⟩
    ·rw[show Za.item tests goals l= .inl (er,ps)by unfold Za.item;rw[hT];simp only[aW,heq,hR];rfl]
     exact Fl w rb lb s l ns nv iv e0 tests goals h hb hne cf t l1 hT aW heq er ps hR
    ·rw[show Za.item tests goals l= .inr ((x,false,goals),l2)by unfold Za.item;rw[hT];simp only[aW,heq,hR];rfl]
     exact Dj w rb lb s l ns nv iv e0 tests goals h hb hne cf t l1 hT aW heq x l2 hR
  ·rcases hR:Za.sides t tests l1 with⟨er,ps⟩ | ⟨x,l2⟩
   ·rw[show Za.item tests goals l= .inl (er,ps)by unfold Za.item;rw[hT];simp only[aW,hR];rfl]
    exact BH w rb lb s l ns nv iv e0 tests goals h hb hne cf t l1 hT aW er ps hR
   ·rw[show Za.item tests goals l= .inr ((x,tests,false),l2)by unfold Za.item;rw[hT];simp only[aW,hR];rfl]
    exact zZ w rb lb s l ns nv iv e0 tests goals h hb hne cf t l1 hT aW x l2 hR
end Go.Proofs.YthfjnfcekeknlaaGreatDoor
namespace Za
theorem Fp {k:Nat} {t g:Bool} {l:List aj} {e:Nat×Nat} (h:item t g l= .inl e):items k t g l= .inl e:=by
 unfold items;rw[h]
theorem Fq {k:Nat} {t g t1 g1:Bool} {l l1:List aj} {x:aH} (h:item t g l= .inr ((x,t1,g1),l1)) (hc:sees l1 [44]=false):items k t g l= .inr (([x],t1,g1),l1):=by
 unfold items;rw[h];simp[hc]
theorem Dm {t g t1 g1:Bool} {l l1:List aj} {x:aH} (h:item t g l= .inr ((x,t1,g1),l1)) (hc:sees l1 [44]=true):items 0 t g l=bad 3 l1:=by
 unfold items;rw[h];simp[hc]
theorem Dn {k:Nat} {t g t1 g1:Bool} {l l1:List aj} {x:aH} (h:item t g l= .inr ((x,t1,g1),l1)) (hc:sees l1 [44]=true):items (k+1) t g l=sG [x] (items k t1 g1 l1.tail):=by
 rw[items,h]
 simp only[hc,if_true]
 rcases items k t1 g1 l1.tail with e | ⟨⟨us,t,g⟩,l2⟩<;>rfl
end Za
namespace Go.Proofs.YthfjnfcekeknlaaGreatDoor
open Go.RowKit
theorem Tryz.info151:(Tryz.prog.info? 151).map (fun i=>(i.zero,i.size,i.bytes))=some (some (.agg #[.int .i64 0,.int .i64 0,.string ⟨#[]⟩,.slice none 0 0,.string ⟨#[]⟩,.int .i64 0,.int .i64 0,.string ⟨#[]⟩,.slice none 0 0,.string ⟨#[]⟩,.int .i64 0,.int .i64 0,.string ⟨#[]⟩,.slice none 0 0]),14,200):=by kernel_rfl
structure JV where
 a:TV
 b:TV
 c:TV
 sg:ByteArray
 op:ByteArray
def p8 (v:JV):List Value:=[.int .i64 v.a.k,.int .i64 v.a.val,.string v.a.tx,.slice v.a.ao v.a.n v.a.cap,.string v.sg,.int .i64 v.b.k,.int .i64 v.b.val,.string v.b.tx,.slice v.b.ao v.b.n v.b.cap,.string v.op,.int .i64 v.c.k,.int .i64 v.c.val,.string v.c.tx,.slice v.c.ao v.c.n v.c.cap]
theorem Fs (vs:List JV):(vs.flatMap p8).length=vs.length*14:=by
 induction vs with
 | nil=>rfl
 | cons a r ih=>rw[List.flatMap_cons,List.length_append,ih];simp[p8];omega
structure pq (N:List (List UInt8)) (w:World) (v:JV) (x:Za.aH):Prop where
 left:RA 8 N anyA w v.a x.left
 sign:v.sg.toList=x.sign
 right:∀r,x.right=some r→RA 8 N anyA w v.b r
 op:v.op.toList=x.op
 last:∀z,x.last=some z→RA 8 N anyA w v.c z
theorem pq.keep {N:List (List UInt8)} {w w':World} {v:JV} {x:Za.aH} (h:pq N w v x) (hk:aN w w'):pq N w' v x:=⟨hk.ra h.left,h.sign,fun r q=>hk.ra (h.right r q),h.op,fun r q=>hk.ra (h.last r q)⟩
theorem pq.more {N:List (List UInt8)} {w:World} {v:JV} {x:Za.aH} (h:pq N w v x) (M:List (List UInt8)):pq (N++M) w v x:=⟨h.left.more M,h.sign,fun r q=>(h.right r q).more M,h.op,fun r q=>(h.last r q).more M⟩
theorem pq.ok {N:List (List UInt8)} {w:World} {v:JV} {x:Za.aH} (h:pq N w v x):Za.G0 x:=⟨h.left.nA,fun r q=>(h.right r q).nA,fun z q=>(h.last z q).nA⟩
theorem o9.r {ns ns':List ByteArray} {w':World} {a b c:TV} {sg op:ByteArray} {x:Za.aH} (h:o9 ns ns' w' a b c sg op x):pq (aV ns') w' ⟨a,b,c,sg,op⟩ x:=⟨h.left,h.sign,h.right,h.op,h.last⟩
def tN (ns0 ns:List ByteArray) (w:World) (xs:List Value) (ys:List Za.aH):Prop:=(∃vs:List JV,xs=vs.flatMap p8∧bR (pq (aV ns) w) vs ys)∧aV ns=Za.aD (aV ns0) ys
theorem tN.keep {ns0 ns:List ByteArray} {w w':World} {xs:List Value} {ys:List Za.aH} (h:tN ns0 ns w xs ys) (hk:aN w w'):tN ns0 ns w' xs ys:=by
 obtain⟨⟨vs,rfl,ha⟩,hn⟩:=h
 exact⟨⟨vs,rfl,ha.imp fun _ _ q=>q.keep hk⟩,hn⟩
theorem tN.snoc {ns0 ns ns':List ByteArray} {w:World} {xs:List Value} {ys:List Za.aH} {a b c:TV} {sg op:ByteArray} {x:Za.aH} (h:tN ns0 ns w xs ys) (q:o9 ns ns' w a b c sg op x):tN ns0 ns' w (xs++p8 ⟨a,b,c,sg,op⟩) (ys++[x]):=by
 obtain⟨⟨vs,rfl,ha⟩,hn⟩:=h
 obtain⟨M,hM,_⟩:=Za.xj x q.r.ok (aV ns)
 have he:aV ns'=aV ns++M:=q.nms.trans hM
 refine⟨⟨vs++[⟨a,b,c,sg,op⟩],by simp,bR.snoc q.r ?_⟩,?_⟩
 ·rw[he];exact ha.imp fun _ _ r=>r.more M
 ·unfold Za.aD
  rw[List.foldl_append,q.nms,hn]
  rfl
def cm (N:List (List UInt8)) (w:World) (o:Option Addr) (n:Nat) (ys:List Za.aH):Prop:=n=ys.length∧(ys≠[]→∃(g:Nat) (vs:List JV) (cs:Array Value),o=some ⟨g,0,none⟩∧w.heap[g]?=some (.cells cs 151 (0,0))∧cs.toList.take (vs.length*14)=vs.flatMap p8∧bR (pq N w) vs ys)
theorem cm.BO {ns0 ns:List ByteArray} {w:World} {b0 g n cap:Nat} {xs:List Value} {ys:List Za.aH} (h:tN ns0 ns w xs ys) (ho:w.ownsRow b0 151 14 (.slice (some ⟨g,0,none⟩) n cap) n xs):cm (aV ns) w (some ⟨g,0,none⟩) n ys:=by
 obtain⟨⟨vs,rfl,ha⟩,_⟩:=h
 have hl:=ho.1
 rw[Fs]at hl
 have hl':=ha.length
 rcases ho.2 with⟨q,_⟩ | ⟨g',cap',cur,q,_,hc,_,_,_,ht⟩
 ·cases q
 ·simp only[Value.slice.injEq,Option.some.injEq,Addr.mk.injEq,and_true,true_and]at q
  obtain⟨rfl,rfl⟩:=q
  exact⟨by omega,fun _=>⟨g,vs,cur,rfl,hc,by rw[show vs.length=n by omega];exact ht,ha⟩⟩
def Vc (rb:Nat) (s:ByteArray) (ns:List ByteArray) (r:Za.dQ (List Za.aH×Bool×Bool)) (w:World) (e:Ending) (w':World):Prop:=match r with
 | .inl (er,pos)=>∃(l':List Za.aj) (ns':List ByteArray) (nv':Value),e= .returned (.tuple #[.agg #[.slice none 0 0,.bool false,.bool false],.bool false])∧St w' rb s l' ns' nv' (er:Int)∧(Za.hd l').pos=pos∧KA rb [rb] w w'
 | .inr ((ys,t1,g1),l1)=>∃(ao:Option Addr) (n cap:Nat) (ns':List ByteArray) (nv':Value) (e':Int),e= .returned (.tuple #[.agg #[.slice ao n cap,.bool t1,.bool g1],.bool true])∧(cm (aV ns') w' ao n ys∧aV ns'=Za.aD (aV ns) ys)∧St w' rb s l1 ns' nv' e'∧KA rb [rb] w w'
def LA (w:World) (rb:Nat) (s:ByteArray) (T G:Bool) (l0:List Za.aj) (ns0:List ByteArray) (k:Nat) (wr:World):Prop:=
 ∃(n:Nat) (xs:List Value) (iv:Value) (t g:Bool) (l:List Za.aj) (ns:List ByteArray) (nv:Value) (e:Int),St wr rb s l ns nv e∧KA rb [rb] w wr∧
  wr.heap[w.heap.size]?=some (.cells #[iv,.bool t,.bool g] 82 (0,0))∧
  wr.heap[w.heap.size+1]?=some (.cells #[.slice none 0 0,.bool false,.bool false] 82 (0,0))∧
  wr.ownsRow (w.heap.size+2) 151 14 iv n xs∧n≤5∧k+n=6∧∃ys:List Za.aH,Za.items 5 T G l0=Za.sG ys (Za.items (5 - n) t g l)∧tN ns0 ns wr xs ys
theorem aN.PK {w w':World} {rb lb:Nat} {s:ByteArray} {l:List Za.aj} {ns:List ByteArray} {nv:Value} {e:Int} {C:Array Value} (hs:St w rb s l ns nv e) (hb:w.heap[lb]?=some (.cells C 82 (0,0))) (hk:KA rb [rb,lb] w w'):aN w w':=fun g cs hg hi=>(hk.block g (Array.getElem?_eq_some_iff.1 hg).1 (fun q=>by
 rcases List.mem_cons.1 q with rfl | q
 ·obtain⟨k,r,hc⟩:=hi
  have:=hs.rd.c0
  simp[World.cell?,hg]at this
  rw[←Array.getElem?_toList,hc]at this
  simp at this
 ·obtain rfl:g=lb:=by simpa using q
  rw[hb]at hg
  simp at hg) (Or.inr (by unfold aP;rw[hg];simp))).trans hg
theorem Ii {w5 w7:World} {lb b0 n:Nat} {av v':Value} {xs:List Value} {X A:Obj} {C:Array Value} (hb0:w7.heap[lb]?=some (.cells C 82 (0,0))) (ho:w5.ownsRow b0 151 14 av n xs) (hg:((w5.alloc X).alloc A).grownBy w7 av.ownBlock):aN w5 (w7.setCell ⟨lb,0,none⟩ v'):=
 (((aN.alloc w5 X).trans (aN.alloc _ A)).trans (aN.grown ((ho.alloc X).alloc A) hg)).trans (aN.only ((aC.refl lb w7).set 0 v') (by unfold aP;rw[hb0];simp))
theorem NX {rb lb b0:Nat} {w w1:World} {T:TypeId} {sz:Nat} {v:Value} {n:Nat} {xs:List Value} (h:w.ownsRow b0 T sz v n xs) (hk:KA rb [rb,lb] w w1) (hb:rb<b0) (hl:lb<b0) (hT:T≠9):w1.ownsRow b0 T sz v n xs:=
 ⟨h.1,h.2.imp id fun⟨g,cap,cur,a,b,c,d⟩=>⟨g,cap,cur,a,b,(hk.block g (Array.getElem?_eq_some_iff.1 c).1 (by simp;omega) (Or.inr (by unfold aP;rw[c];simpa using hT))).trans c,d⟩⟩
theorem KH {b0 b1:Nat} {w:World} {T:TypeId} {sz:Nat} {v:Value} {n:Nat} {xs:List Value} (h:w.ownsRow b0 T sz v n xs) (hb:b1≤b0):w.ownsRow b1 T sz v n xs:=
 ⟨h.1,h.2.imp id fun⟨g,cap,cur,a,b,c,d⟩=>⟨g,cap,cur,a,Nat.le_trans hb b,c,d⟩⟩
theorem Fu (W:World) (n:Nat) (A:Array Value) (T:TypeId) (xs:List Value) (hn:n=W.heap.size) (hx:A.toList=xs):∀j u,xs[j]?=some u→(W.alloc (.cells A T)).cell? ((⟨n,0,none⟩:Addr).add j)=some u:=by
 subst hn hx
 intro j u hj
 have:=ah (heap_alloc_new W (.cells A T)) j
 rw[show (⟨W.heap.size,0,none⟩:Addr).add j=⟨W.heap.size,j,none⟩by cases j<;>simp[Addr.add],this]
 simpa using hj
theorem PL (a b c:TV) (op sg:ByteArray):∀u∈([.int .i64 a.k,.int .i64 a.val,.string a.tx,.slice a.ao a.n a.cap,.string sg,.int .i64 b.k,.int .i64 b.val,.string b.tx,.slice b.ao b.n b.cap,.string op,.int .i64 c.k,.int .i64 c.val,.string c.tx,.slice c.ao c.n c.cap]:List Value),u.oneCell'=true:=by
 simp[Value.oneCell']
theorem SL {w:World} {b:Nat} {T:TypeId} {c0 c1 c2:Value} (v:Value) (h:w.heap[b]?=some (.cells #[c0,c1,c2] T (0,0))):
 (w.setCell ⟨b,0,none⟩ v).heap[b]?=some (.cells #[v,c1,c2] T (0,0)):=by
 have:=aA h 0 v
 simpa using this
theorem NY {w w5 w7:World} {rb:Nat} {s:ByteArray} {l:List Za.aj} {ns:List ByteArray} {nv:Value} {e:Int} {n:Nat} {av v':Value} {xs xs':List Value} {X A:Obj} {t g:Value} {C1:Array Value}
 (hS:St w5 rb s l ns nv e) (hK:KA rb [rb] w w5) (hr:rb<w.heap.size)
 (hb0:w5.heap[w.heap.size]?=some (.cells #[av,t,g] 82 (0,0))) (hb1:w5.heap[w.heap.size+1]?=some (.cells C1 82 (0,0)))
 (ho:w5.ownsRow (w.heap.size+2) 151 14 av n xs)
 (hg:((w5.alloc X).alloc A).grownBy w7 av.ownBlock) (BG:w7.ownsRow (w.heap.size+2) 151 14 v' (n+1) xs'):
 St (w7.setCell ⟨w.heap.size,0,none⟩ v') rb s l ns nv e∧KA rb [rb] w (w7.setCell ⟨w.heap.size,0,none⟩ v')∧
 (w7.setCell ⟨w.heap.size,0,none⟩ v').heap[w.heap.size]?=some (.cells #[v',t,g] 82 (0,0))∧(w7.setCell ⟨w.heap.size,0,none⟩ v').heap[w.heap.size+1]?=some (.cells C1 82 (0,0))∧
 (w7.setCell ⟨w.heap.size,0,none⟩ v').ownsRow (w.heap.size+2) 151 14 v' (n+1) xs'∧
 w7.heap[w.heap.size]?=some (.cells #[av,t,g] 82 (0,0)):=by
 have jE:w.heap.size+1<w5.heap.size:=ag hb1
 obtain⟨h7,k7⟩:=yV hS hK (KH ho (by omega)) hr hg
 have hB:Below (w.heap.size+2) w5 w7:=(((Below.refl _ _).alloc (by omega) X).alloc (by simp;omega) A).grown hg (by simp;omega) (fun k q=>(ho.lt k q).1)
 have q0:=(hB.block w.heap.size (by omega)).trans hb0
 have q1:=(hB.block (w.heap.size+1) (by omega)).trans hb1
 obtain⟨h8,k8⟩:=bW h7 k7 hr (Nat.le_refl _) q0 ((aC.refl _ _).set 0 v')
 exact⟨h8,k8,SL v' q0,aG q1 (by omega) 0 v',ownsRow_setCell_below BG (by show w.heap.size<w.heap.size+2;omega) v',q0⟩
theorem p9 (w:World) (rb:Nat) (s:ByteArray) (l:List Za.aj) (ns:List ByteArray) (nv:Value) (e0:Int) (tests goals:Bool) (h:St w rb s l ns nv e0):
 Calls Tryz.prog 40 #[.pointer (some ⟨rb,0,none⟩),.agg #[.slice none 0 0,.bool tests,.bool goals]] w fun e w'=>Vc rb s ns (Za.items 5 tests goals l) w e w':=by
 have hlt:=h.lt
 obtain⟨ti,hi,hz0',KI,Fj⟩:=info_parts Tryz.info151
 have HL:=af (show LA w rb s tests goals l ns 6 ((w.alloc (.cells #[.slice none 0 0,.bool tests,.bool goals] 82)).alloc (.cells #[.slice none 0 0,.bool false,.bool false] 82))from
  ⟨0,[],.slice none 0 0,tests,goals,l,ns,nv,e0,h.below (((Below.refl _ _).alloc (Nat.le_refl _) _).alloc (by simp) _),((KA.refl rb [rb] w).alloc _).alloc _,aB (heap_alloc_new w _) _,by have:=heap_alloc_new (w.alloc (.cells #[.slice none 0 0,.bool tests,.bool goals] 82)) (.cells #[.slice none 0 0,.bool false,.bool false] 82);rw[World.size_alloc]at this;exact this,World.ownsRow_nil _ _ _ _,by omega,by omega,[],(Za.JK _).symm,⟨[],rfl,trivial⟩,rfl⟩)
 clear h
 go_enter Tryz.func40,Tryz.ntmps40
 go_wp2_with fail
 go_loopg [] 6 (fun k wr=>LA w rb s tests goals l ns k wr)
 case atStart=>exact ae HL
 case round=>
  clear HL
  obtain⟨n,xs,iv,t,g,l1,ns1,nv1,e1,hs,hk,hb0,hb1,ho,zg,WL,ys,BP,hrow⟩:=hrel
  have ld:=af hrow
  have zh:=af hs
  clear hrow
  have I:=af (KF wr rb w.heap.size s l1 ns1 nv1 iv e1 t g hs hb0 (by omega) (by omega))
  have HK:=af hk
  have aY:=af hb0
  have bD:=af hb1
  have HO:=af ho
  have tO:=af BP
  have nI:=hs.lt
  clear hs hk hb0 hb1 ho BP
  generalize hr:Za.item t g l1=r at I
  have HR:=af hr
  clear hr
  rcases r with⟨er,pos⟩ | ⟨⟨x,t1,g1⟩,l2⟩
  ·have HF:=af (show Za.items 5 tests goals l= .inl (er,pos)by rw[ae tO,Za.Fp (ae HR)];rfl)
   go_wp2_with fail
   refine(ae I).mono ?_
   rintro e w5 ⟨a,b,c,sg,op,l',ns',nv',rfl,hs5,cu,bZ⟩
   have iq:=af hs5
   have HP:=af cu
   have jv:=af ((((ae HK).mono (Y:=[rb,w.heap.size]) (by simp)).trans bZ).forget (X:=[rb]) (by simp))
   have tP:=af (aq bZ (ae bD) (by simp;omega))
   have r1:=ah (ae tP)
   have x1:=ay (ae tP)
   have hz1:=ag (ae tP)
   clear hs5 cu bZ
   go_wp2_with fail
   refine bodyPost_ret (v:= .tuple #[.agg #[.slice none 0 0,.bool false,.bool false],.bool false]) (by simp[results,Tryz.results40,go_sem,hz1,r1]) rfl ?_
   rw[ae HF]
   have R:=bW (ae iq) (ae jv) hlt (by omega) (ae tP) ((((aC.refl _ _).set 0 (.slice none 0 0)).set 1 (.bool false)).set 2 (.bool false))
   exact⟨l',ns',nv',rfl,R.1.below ((Below.refl _ _).alloc (Nat.le_refl _) _),ae HP,R.2.alloc _⟩
  ·go_wp2_with fail
   refine(ae I).mono ?_
   rintro e w5 ⟨a,b,c,sg,op,ns2,nv2,e2,rfl,hit,hs5,PM,bZ⟩
   have Ao:=af (((ae ld).keep (aN.PK (ae zh) (ae aY) bZ)).snoc hit)
   clear hit
   have iq:=af hs5
   have jv:=af ((((ae HK).mono (Y:=[rb,w.heap.size]) (by simp)).trans bZ).forget (X:=[rb]) (by simp))
   have kD:=af PM
   have tP:=af (aq bZ (ae bD) (by simp;omega))
   have BQ:=af (NX (ae HO) bZ (by omega) (by omega) (by decide))
   have r0:=ah (ae kD)
   have hz0:=ag (ae kD)
   have hz1:=ag (ae tP)
   clear hs5 PM bZ HK aY bD HO ld zh
   go_wp2_with (first | (at_builtin;go_must (refine wpList_append_own _ rfl (.tmp 17) (.tmp 19) 54 rfl (w.heap.size+2) 151 ti (.agg #[.int .i64 0,.int .i64 0,.string ⟨#[]⟩,.slice none 0 0,.string ⟨#[]⟩,.int .i64 0,.int .i64 0,.string ⟨#[]⟩,.slice none 0 0,.string ⟨#[]⟩,.int .i64 0,.int .i64 0,.string ⟨#[]⟩,.slice none 0 0]) 14 200 Tryz.underlying54 hi hz0' KI Fj rfl (by decide) _ n xs rfl (((ae BQ).alloc _).alloc _) ⟨w5.heap.size+1,0,none⟩ 1 1 [.int .i64 a.k,.int .i64 a.val,.string a.tx,.slice a.ao a.n a.cap,.string sg,.int .i64 b.k,.int .i64 b.val,.string b.tx,.slice b.ao b.n b.cap,.string op,.int .i64 c.k,.int .i64 c.val,.string c.tx,.slice c.ao c.n c.cap] rfl rfl (Fu _ _ _ _ _ (by simp) rfl) (PL a b c op sg) (by unfold maxLen;omega) (by omega) (by simp;omega) ?_);go_must (intro v' w7 hown' hgrow _;obtain⟨g',cap',hv,hcm⟩:=fk hown';have mF:=af (NY (ae iq) (ae jv) hlt (ae kD) (ae tP) (ae BQ) hgrow hown');have KJ:=af (Ii (v':=v') (ae mF).2.2.2.2.2 (ae BQ) hgrow);have z:=ah (ae mF).2.2.2.2.2;have zx:=ay (ae mF).2.2.2.2.2;have zz:=ag (ae mF).2.2.2.2.2;rw[hv]at mF KJ⊢;clear hown' hgrow hv)))
   have Fv:=af ((ae Ao).keep (ae KJ))
   have Mz:=af (ae mF).1
   have PN:=af (ae mF).2.1
   have PO:=af (ae mF).2.2.1
   have D3:=af (ae mF).2.2.2.1
   have mD:=af (ae mF).2.2.2.2.1
   clear mF KJ Ao z zx zz r0 hz0 hz1 iq jv kD tP BQ
   generalize w7.setCell ⟨w.heap.size,0,none⟩ (.slice (some ⟨g',0,none⟩) (n+1) cap')=w8 at*
   refine(bG _ rb s l2 ns2 nv2 e2 _ (ae Mz)).mono ?_
   rintro e w9 ⟨rfl,hw⟩
   rw[hw]
   simp only[ByteArray.toList_mk]
   clear hw w9
   have y0:=ah (ae PO)
   have y1:=ah (ae D3)
   have y1x:=ay (ae D3)
   have hv0:=ag (ae PO)
   have PR:=ag (ae D3)
   cases hc:Za.sees l2 [44]
   ·have HF:=af (show Za.items 5 tests goals l= .inr ((ys++[x],t1,g1),l2)by rw[ae tO,Za.Fq (ae HR) hc];rfl)
    go_wp2_with fail
    refine bodyPost_ret (v:= .tuple #[.agg #[.slice (some ⟨g',0,none⟩) (n+1) cap',.bool t1,.bool g1],.bool true]) (by simp[results,Tryz.results40,go_sem,y1]) rfl ?_
    rw[ae HF]
    have RP:=yX (ae Mz) (ae PN) hlt (by omega) (ae D3) ((((aC.refl _ _).set 0 (.slice (some ⟨g',0,none⟩) (n+1) cap')).set 1 (.bool t1)).set 2 (.bool g1))
    have R:=RP.1
    have HOf:=ownsRow_setCell_below (a:=⟨w.heap.size+1,2,none⟩) (ownsRow_setCell_below (a:=⟨w.heap.size+1,1,none⟩) (ownsRow_setCell_below (a:=⟨w.heap.size+1,0,none⟩) (ae mD) (by show w.heap.size+1<w.heap.size+2;omega) (.slice (some ⟨g',0,none⟩) (n+1) cap')) (by show w.heap.size+1<w.heap.size+2;omega) (.bool t1)) (by show w.heap.size+1<w.heap.size+2;omega) (.bool g1)
    exact⟨some ⟨g',0,none⟩,n+1,cap',ns2,nv2,e2,rfl,⟨cm.BO ((ae Fv).keep RP.2) HOf,(ae Fv).2⟩,R.1,R.2⟩
   ·have bZ:=af (show (Za.hd l2).kind≠0 by rw[Za.cU hc];omega)
    go_wp2_with fail
    rw[show ((n:Int)+1)=((n+1:Nat):Int)by omega]
    refine(yR _ rb s l2 ns2 nv2 e2 (n+1) 6 (ae Mz) (ae bZ)).mono ?_
    by_cases hn:n+1<6
    ·have HF:=af (show Za.items 5 tests goals l=Za.sG (ys++[x]) (Za.items (5 - (n+1)) t1 g1 l2.tail)by rw[ae tO,show 5 - n=(5 - (n+1))+1 by omega,Za.Dn (ae HR) hc,Za.Gx])
     rw[if_pos hn,if_pos hn,decide_eq_true hn]
     rintro e wa ⟨rfl,Ij,hka⟩
     have HROWa:=af ((ae Fv).keep (aN.ka (ae Mz) hka))
     have HSa:=af Ij
     have HKa:=af ((ae PN).trans hka)
     have H0a:=af (aq hka (ae PO) (by simp;omega))
     have H1a:=af (aq hka (ae D3) (by simp;omega))
     have HOa:=af (sX (ae mD) hka (by omega) (by decide))
     clear Ij hka
     go_wp2_with fail
     go_roundg (gk - 1)
     case measure=>omega
     case rel=>exact⟨n+1,_,_,t1,g1,l2.tail,ns2,nv2,e2,ae HSa,ae HKa,ae H0a,ae H1a,ae HOa,by omega,by omega,_,ae HF,ae HROWa⟩
    ·have HF:=af (show Za.items 5 tests goals l= .inl (3,(Za.hd l2).pos)by rw[ae tO,show 5 - n=0 by omega,Za.Dm (ae HR) hc];rfl)
     rw[if_neg hn,if_neg hn,decide_eq_false hn]
     rintro e wa ⟨rfl,Ij,hka⟩
     have HSa:=af Ij
     have HKa:=af ((ae PN).trans hka)
     have H1a:=af (aq hka (ae D3) (by simp;omega))
     clear Ij hka y0 y1 y1x hv0 PR
     have z1:=ah (ae H1a)
     have z1x:=ay (ae H1a)
     have hzz:=ag (ae H1a)
     go_wp2_with fail
     refine bodyPost_ret (v:= .tuple #[.agg #[.slice none 0 0,.bool false,.bool false],.bool false]) (by simp[results,Tryz.results40,go_sem,z1]) rfl ?_
     rw[ae HF]
     have R:=bW (ae HSa) (ae HKa) hlt (by omega) (ae H1a) ((((aC.refl _ _).set 0 (.slice none 0 0)).set 1 (.bool false)).set 2 (.bool false))
     exact⟨l2,ns2,nv2,rfl,R.1,rfl,R.2⟩
def SM (w w':World):Prop:=∀(g:Nat) (cs:Array Value),w.heap[g]?=some (.cells cs 151 (0,0))→(∃k r,cs.toList= .int .i64 k :: r)→w'.heap[g]?=some (.cells cs 151 (0,0))
structure aU (w w':World):Prop where
 a:aN w w'
 j:SM w w'
theorem aU.trans {u v w:World} (h:aU u v) (k:aU v w):aU u w:=⟨h.a.trans k.a,fun g cs a b=>k.j g cs (h.j g cs a b) b⟩
theorem aU.below {w w':World} (h:Below w.heap.size w w'):aU w w':=⟨aN.below h,fun g _ a _=>(h.block g (Array.getElem?_eq_some_iff.1 a).1).trans a⟩
theorem aU.alloc (w:World) (o:Obj):aU w (w.alloc o):=aU.below ((Below.refl _ _).alloc (Nat.le_refl _) o)
theorem aU.px {w w':World} {b:Nat} {cs:Array Value} {T:TypeId} (hb:w.heap[b]?=some (.cells cs T (0,0))) (ho:aC b w w') (hT:T≠76:=by decide) (hJ:T≠151:=by decide):aU w w':=
 ⟨aN.only ho (by unfold aP;rw[hb];simpa using hT),fun g cs' hg _=>(ho.block g (fun q=>by subst q;rw[hb]at hg;simp at hg;exact hJ hg.2)).trans hg⟩
theorem aU.ka {w w':World} {rb:Nat} {s:ByteArray} {l:List Za.aj} {ns:List ByteArray} {nv:Value} {e:Int} (hs:St w rb s l ns nv e) (hk:KA rb [rb] w w'):aU w w':=
 ⟨aN.ka hs hk,fun g cs hg hi=>(hk.block g (Array.getElem?_eq_some_iff.1 hg).1 (fun q=>by
  obtain rfl:g=rb:=by simpa using q
  obtain⟨k,r,hc⟩:=hi
  have:=hs.rd.c0
  simp[World.cell?,hg]at this
  rw[←Array.getElem?_toList,hc]at this
  simp at this) (Or.inr (by unfold aP;rw[hg];simp))).trans hg⟩
theorem aU.PK {w w':World} {rb cb:Nat} {s:ByteArray} {l:List Za.aj} {ns:List ByteArray} {nv:Value} {e:Int} {C:Array Value} (hs:St w rb s l ns nv e) (hb:w.heap[cb]?=some (.cells C 78 (0,0))) (hk:KA rb [rb,cb] w w'):aU w w':=
 ⟨fun g cs hg hi=>(hk.block g (Array.getElem?_eq_some_iff.1 hg).1 (fun q=>by
  rcases List.mem_cons.1 q with rfl | q
  ·obtain⟨k,r,hc⟩:=hi
   have:=hs.rd.c0
   simp[World.cell?,hg]at this
   rw[←Array.getElem?_toList,hc]at this
   simp at this
  ·obtain rfl:g=cb:=by simpa using q
   rw[hb]at hg
   simp at hg) (Or.inr (by unfold aP;rw[hg];simp))).trans hg,
  fun g cs hg hi=>(hk.block g (Array.getElem?_eq_some_iff.1 hg).1 (fun q=>by
   rcases List.mem_cons.1 q with rfl | q
   ·obtain⟨k,r,hc⟩:=hi
    have:=hs.rd.c0
    simp[World.cell?,hg]at this
    rw[←Array.getElem?_toList,hc]at this
    simp at this
   ·obtain rfl:g=cb:=by simpa using q
    rw[hb]at hg
    simp at hg) (Or.inr (by unfold aP;rw[hg];simp))).trans hg⟩
theorem cm.keep {N:List (List UInt8)} {w w':World} {o:Option Addr} {n:Nat} {ys:List Za.aH} (h:cm N w o n ys) (hk:aU w w'):cm N w' o n ys:=by
 refine⟨h.1,fun q=> ?_⟩
 obtain⟨g,vs,cs,h1,h2,h3,h4⟩:=h.2 q
 refine⟨g,vs,cs,h1,hk.j g cs h2 ?_,h3,h4.imp fun _ _ r=>r.keep hk.a⟩
 cases vs with
 | nil=>have:=h4.length;simp at this;exact absurd (List.length_eq_zero_iff.1 this.symm) q
 | cons v vs=>
  cases hc:cs.toList with
  | nil=>rw[hc]at h3;simp[p8]at h3
  | cons c r=>
   rw[hc]at h3
   simp only[List.length_cons,Nat.add_mul,Nat.one_mul,List.flatMap_cons,p8,List.cons_append,List.take_succ_cons]at h3
   injection h3 with h3 _
   exact⟨_,r,by rw[h3]⟩
theorem cm.none (N:List (List UInt8)) (w:World):cm N w Option.none 0 []:=⟨rfl,fun q=>absurd rfl q⟩
theorem BR {N:List (List UInt8)} {w:World}:∀(vs:List JV) (ys:List Za.aH),bR (pq N w) vs ys→∀y∈ys,Za.G0 y
 | [],[],_,_,h=>by cases h
 | [],_ :: _,h,_,_=>h.elim
 | _ :: _,[],_,_,h=>by cases h
 | v :: vs,y :: ys,h,z,hz=>by
  rcases List.mem_cons.1 hz with rfl | hz
  ·exact h.1.ok
  ·exact BR vs ys h.2 z hz
theorem cm.ok {N:List (List UInt8)} {w:World} {o:Option Addr} {n:Nat} {ys:List Za.aH} (h:cm N w o n ys):∀y∈ys,Za.G0 y:=by
 intro y hy
 obtain⟨g,vs,cs,_,_,_,h4⟩:=h.2 (fun e=>by rw[e]at hy;cases hy)
 exact BR vs ys h4 y hy
theorem cm.more {N:List (List UInt8)} {w:World} {o:Option Addr} {n:Nat} {ys:List Za.aH} (h:cm N w o n ys) (M:List (List UInt8)):cm (N++M) w o n ys:=
 ⟨h.1,fun q=>by
  obtain⟨g,vs,cs,h1,h2,h3,h4⟩:=h.2 q
  exact⟨g,vs,cs,h1,h2,h3,h4.imp fun _ _ r=>r.more M⟩⟩
theorem cm.behind {N N':List (List UInt8)} {w w':World} {o o':Option Addr} {n n':Nat} {xs ys:List Za.aH} (h:cm N w o n xs) (k:cm N' w' o' n' ys) (hn:N'=Za.aD N ys):cm N' w o n xs:=by
 obtain⟨M,hM,_⟩:=Za.td ys k.ok N
 rw[hn]
 unfold Za.aD
 rw[hM]
 exact h.more M
structure PS (ns ns':List ByteArray) (w:World) (o1:Option Addr) (n1:Nat) (o2:Option Addr) (n2:Nat) (r:List Za.aH×List Za.aH):Prop where
 tests:cm (aV ns') w o1 n1 r.1
 goals:cm (aV ns') w o2 n2 r.2
 nms:aV ns'=Za.aD (Za.aD (aV ns) r.1) r.2
def sj (rb cb:Nat) (h0 h1 h2 h3:Value) (s:ByteArray) (ns:List ByteArray) (r:Za.dQ (List Za.aH×List Za.aH)) (w:World) (e:Ending) (w':World):Prop:=match r with
 | .inl (er,pos)=>∃(l':List Za.aj) (ns':List ByteArray) (nv':Value) (o1:Option Addr) (n1 c1:Nat) (o2:Option Addr) (n2 c2:Nat),
  e= .returned (.bool false)∧St w' rb s l' ns' nv' (er:Int)∧(Za.hd l').pos=pos∧w'.heap[cb]?=some (.cells #[h0,h1,h2,h3,.slice o1 n1 c1,.slice o2 n2 c2] 78 (0,0))∧KA rb [rb,cb] w w'
 | .inr (xy,l1)=>∃(ns':List ByteArray) (nv':Value) (e':Int) (o1:Option Addr) (n1 c1:Nat) (o2:Option Addr) (n2 c2:Nat),
  e= .returned (.bool true)∧PS ns ns' w' o1 n1 o2 n2 xy∧St w' rb s l1 ns' nv' e'∧w'.heap[cb]?=some (.cells #[h0,h1,h2,h3,.slice o1 n1 c1,.slice o2 n2 c2] 78 (0,0))∧KA rb [rb,cb] w w'
theorem MA {w:World} {b:Nat} {T:TypeId} {c0 c1 c2 c3 c4 c5:Value} (v:Value) (h:w.heap[b]?=some (.cells #[c0,c1,c2,c3,c4,c5] T (0,0))):
 (w.setCell ⟨b,4,none⟩ v).heap[b]?=some (.cells #[c0,c1,c2,c3,v,c5] T (0,0)):=by
 have:=aA h 4 v
 simpa using this
theorem uL {w:World} {b:Nat} {T:TypeId} {c0 c1 c2 c3 c4 c5:Value} (v:Value) (h:w.heap[b]?=some (.cells #[c0,c1,c2,c3,c4,c5] T (0,0))):
 (w.setCell ⟨b,5,none⟩ v).heap[b]?=some (.cells #[c0,c1,c2,c3,c4,v] T (0,0)):=by
 have:=aA h 5 v
 simpa using this
theorem Fw {w:World} {b:Nat} {T:TypeId} {c0 c1 c2 c3 c4 c5:Value} (v0 v1 v2 v3:Value) (h:w.heap[b]?=some (.cells #[c0,c1,c2,c3,c4,c5] T (0,0))):
 ((((w.setCell ⟨b,0,none⟩ v0).setCell ⟨b,1,none⟩ v1).setCell ⟨b,2,none⟩ v2).setCell ⟨b,3,none⟩ v3).heap[b]?=some (.cells #[v0,v1,v2,v3,c4,c5] T (0,0)):=by
 have:=aA (aA (aA (aA h 0 v0) 1 v1) 2 v2) 3 v3
 simpa using this
theorem uM {w:World} {b b':Nat} {x:Obj} (v0 v1 v2:Value) (h:w.heap[b']?=some x) (hne:b'≠b):
 (((w.setCell ⟨b,0,none⟩ v0).setCell ⟨b,1,none⟩ v1).setCell ⟨b,2,none⟩ v2).heap[b']?=some x:=
 aG (aG (aG h hne 0 v0) hne 1 v1) hne 2 v2
theorem lI {w w1 w2:World} {rb cb:Nat} {s:ByteArray} {l:List Za.aj} {ns:List ByteArray} {nv:Value} {e:Int} {cs:Array Value} (h:St w1 rb s l ns nv e) (hk:KA rb [rb,cb] w w1) (hne:cb≠rb) (cf:cb≠0) (hc:w1.heap[cb]?=some (.cells cs 78 (0,0))) (ho:aC cb w1 w2):
 St w2 rb s l ns nv e∧KA rb [rb,cb] w w2:=
 ⟨h.only ho hne cf (by unfold aP;rw[hc];simp),hk.O6 ho (by simp)⟩
theorem oN {w w1 w2:World} {rb cb b:Nat} {s:ByteArray} {l:List Za.aj} {ns:List ByteArray} {nv:Value} {e:Int} {cs:Array Value} (h:St w1 rb s l ns nv e) (hk:KA rb [rb,cb] w w1) (hlt:rb<w.heap.size) (hb:w.heap.size≤b) (hc:w1.heap[b]?=some (.cells cs 82 (0,0))) (ho:aC b w1 w2):
 St w2 rb s l ns nv e∧KA rb [rb,cb] w w2:=
 ⟨h.only ho (by omega) (by omega) (by unfold aP;rw[hc];simp),hk.eI ho hb⟩
theorem BS (w:World) (rb cb:Nat) (h0 h1 h2 h3:Value) (s:ByteArray) (l:List Za.aj) (ns:List ByteArray) (nv:Value) (e0:Int) (h:St w rb s l ns nv e0) (hb:w.heap[cb]?=some (.cells #[h0,h1,h2,h3,.slice none 0 0,.slice none 0 0] 78 (0,0))) (hne:cb≠rb) (cf:cb≠0):
 Calls Tryz.prog 78 #[.pointer (some ⟨rb,0,none⟩),.pointer (some ⟨cb,0,none⟩)] w fun e w'=>sj rb cb h0 h1 h2 h3 s ns (Za.body l) w e w':=by
 have hlt:=h.lt
 have hlc:=ag hb
 have HB:=af hb
 have I:=af (p9 w rb s l ns nv e0 true true h)
 clear h hb
 generalize hr:Za.items 5 true true l=r at I
 have HR:=af hr
 clear hr
 rcases r with⟨er,pos⟩ | ⟨⟨xs,t1,g1⟩,l1⟩
 ·have HF:=af (show Za.body l= .inl (er,pos)from Za.JL (ae HR))
  go_enter Tryz.func78,Tryz.ntmps78
  go_wp2_with fail
  refine(ae I).mono ?_
  rintro e w1 ⟨l',ns',nv',rfl,hs1,cu,fo⟩
  have bH:=af hs1
  have HP:=af cu
  have df:=af fo
  have bD:=af (aq fo (ae HB) (by simp;omega))
  clear hs1 cu fo
  go_wp2_with fail
  go_ret
  refine(?_:sj rb cb h0 h1 h2 h3 s ns _ w _ _)
  rw[ae HF]
  exact⟨l',ns',nv',none,0,0,none,0,0,rfl,(ae bH).below ((Below.refl _ _).alloc (Nat.le_refl _) _),ae HP,aB (ae bD) _,((ae df).wide).alloc _⟩
 ·go_enter Tryz.func78,Tryz.ntmps78
  go_wp2_with fail
  refine(ae I).mono ?_
  rintro e w1 ⟨ao,n,cap,ns1,nv1,e1,rfl,⟨TS,lG⟩,hs1,fo⟩
  have MB:=af TS
  have D4:=af lG
  clear TS lG
  have bH:=af hs1
  have df:=af (fo.wide (lb:=cb))
  have bD:=af (aq fo (ae HB) (by simp;omega))
  have tG:rb<w1.heap.size:=hs1.lt
  have X9:cb<w1.heap.size:=ag (ae bD)
  have Ya:w.heap.size≤w1.heap.size:=fo.size
  clear hs1 fo
  cases t1
  ·cases g1
   ·have HF:=af (show Za.body l= .inl (2,(Za.hd l1).pos)from Za.rS (ae HR) (by simp))
    have cg:=af ((ae bH).below ((Below.refl _ _).alloc (Nat.le_refl _) (.cells #[.slice ao n cap,.bool false,.bool false] 82)))
    have di:=af ((ae df).alloc (.cells #[.slice ao n cap,.bool false,.bool false] 82))
    have bf:=af (aB (ae bD) (.cells #[.slice ao n cap,.bool false,.bool false] 82))
    have rY:=af (heap_alloc_new w1 (.cells #[.slice ao n cap,.bool false,.bool false] 82))
    have Ik:=af ((ae MB).keep (aU.alloc _ (.cells #[.slice ao n cap,.bool false,.bool false] 82)))
    go_wp2_with fail
    refine(b8 _ rb s l1 ns1 nv1 e1 2 (ae cg)).mono ?_
    rintro e wz ⟨rfl,hsz,fM⟩
    have HSz:=af hsz
    have HKz:=af ((ae di).trans fM.wide)
    have HBz:=af (aq fM (ae bf) (by simp;omega))
    clear hsz fM
    go_wp2_with fail
    go_ret
    refine(?_:sj rb cb h0 h1 h2 h3 s ns _ w _ _)
    rw[ae HF]
    exact⟨l1,ns1,nv1,none,0,0,none,0,0,rfl,ae HSz,rfl,ae HBz,ae HKz⟩
   ·have HF:=af (show Za.body l= .inr (([],xs),l1)from Za.wV (ae HR) (by simp))
    have rc:=ah (ae bD)
    have xc:=ay (ae bD)
    go_wp2_with fail
    go_ret
    refine(?_:sj rb cb h0 h1 h2 h3 s ns _ w _ _)
    rw[ae HF]
    have R:=lI (ae bH) (ae df) hne cf (ae bD) ((aC.refl _ _).set 5 (.slice ao n cap))
    exact⟨ns1,nv1,e1,none,0,0,ao,n,cap,rfl,⟨cm.none _ _,(ae MB).keep ((aU.px (ae bD) ((aC.refl cb w1).set 5 (.slice ao n cap))).trans (aU.alloc _ _)),ae D4⟩,R.1.below ((Below.refl _ _).alloc (Nat.le_refl _) _),aB (uL (.slice ao n cap) (ae bD)) _,R.2.alloc _⟩
  ·cases g1
   ·have cg:=af ((ae bH).below ((Below.refl _ _).alloc (Nat.le_refl _) (.cells #[.slice ao n cap,.bool true,.bool false] 82)))
    have di:=af ((ae df).alloc (.cells #[.slice ao n cap,.bool true,.bool false] 82))
    have bf:=af (aB (ae bD) (.cells #[.slice ao n cap,.bool true,.bool false] 82))
    have rY:=af (heap_alloc_new w1 (.cells #[.slice ao n cap,.bool true,.bool false] 82))
    have Ik:=af ((ae MB).keep (aU.alloc _ (.cells #[.slice ao n cap,.bool true,.bool false] 82)))
    go_wp2_with fail
    refine(bG _ rb s l1 ns1 nv1 e1 _ (ae cg)).mono ?_
    rintro e w9 ⟨rfl,hw⟩
    rw[hw]
    simp only[ByteArray.toList_mk]
    clear hw w9
    generalize zi:w1.heap.size=bb at*
    generalize hw2:w1.alloc (.cells #[.slice ao n cap,.bool true,.bool false] 82)=w2 at*
    clear zi hw2
    have r2:=ah (ae rY)
    have hzl:=ag (ae rY)
    have rc:=ah (ae bf)
    have xc:=ay (ae bf)
    have PT:=ag (ae bf)
    cases py:Za.sees l1 [124]
    ·have HF:=af (show Za.body l= .inl (2,(Za.hd l1).pos)from Za.rS (ae HR) (by simp[py]))
     go_wp2_with fail
     refine(b8 _ rb s l1 ns1 nv1 e1 2 (ae cg)).mono ?_
     rintro e wz ⟨rfl,hsz,fM⟩
     have HSz:=af hsz
     have HKz:=af ((ae di).trans fM.wide)
     have HBz:=af (aq fM (ae bf) (by simp;omega))
     clear hsz fM
     go_wp2_with fail
     go_ret
     refine(?_:sj rb cb h0 h1 h2 h3 s ns _ w _ _)
     rw[ae HF]
     exact⟨l1,ns1,nv1,none,0,0,none,0,0,rfl,ae HSz,rfl,ae HBz,ae HKz⟩
    ·have hkj:=af (show (Za.hd l1).kind≠0 by rw[Za.cU py];omega)
     go_wp2_with fail
     refine(fP _ rb s l1 ns1 nv1 e1 (ae cg) (ae hkj)).mono ?_
     rintro e w3 ⟨rfl,hs3,hk3⟩
     have eM:=af hs3
     have PU:=af ((ae Ik).keep (aU.ka (ae cg) hk3))
     have eC:=af ((ae di).trans hk3.wide)
     have bQ:=af (aq hk3 (ae bf) (by simp;omega))
     have BU:=af (aq hk3 (ae rY) (by simp;omega))
     clear hs3 hk3 r2 hzl rc xc PT
     have r3:=ah (ae BU)
     have hz3:=ag (ae BU)
     have rc3:=ah (ae bQ)
     have xc3:=ay (ae bQ)
     have hc3:=ag (ae bQ)
     have R4:=af (lI (ae eM) (ae eC) hne cf (ae bQ) ((aC.refl _ _).set 4 (.slice ao n cap)))
     have dr:=af (MA (.slice ao n cap) (ae bQ))
     have PV:=af ((ae PU).keep (aU.px (ae bQ) ((aC.refl cb w3).set 4 (.slice ao n cap))))
     have Il:=af (aG (ae BU) (show bb≠cb by omega) 4 (.slice ao n cap))
     go_wp2_with fail
     clear r3 hz3 rc3 xc3 hc3
     generalize w3.setCell ⟨cb,4,none⟩ (.slice ao n cap)=w4 at*
     have J:=af (p9 w4 rb s l1.tail ns1 nv1 e1 false true (ae R4).1)
     generalize hr2:Za.items 5 false true l1.tail=r2 at J
     have tE:=af hr2
     clear hr2
     refine(ae J).mono ?_
     rcases r2 with⟨er,pos⟩ | ⟨⟨ys,t5,g5⟩,l5⟩
     ·have HF:=af (show Za.body l= .inl (er,pos)from Za.sH (ae HR) py (ae tE))
      rintro e w5 ⟨l',ns',nv',rfl,hs5,cu,bZ⟩
      have HP:=af cu
      clear cu
      have iq:=af hs5
      have jv:=af ((ae R4).2.trans bZ.wide)
      have bO:=af (aq bZ (ae dr) (by simp;omega))
      have jH:=af (aq bZ (ae Il) (by simp;omega))
      have r5:=ah (ae jH)
      have x5:=ay (ae jH)
      have PW:=ag (ae jH)
      have rc5:=ah (ae bO)
      have xc5:=ay (ae bO)
      have xv:=ag (ae bO)
      clear hs5 bZ
      have R6:=af (oN (ae iq) (ae jv) hlt (by omega) (ae jH) ((((aC.refl _ _).set 0 (.slice none 0 0)).set 1 (.bool false)).set 2 (.bool false)))
      have mG:=af (ae R6).1
      have ou:=af (ae R6).2
      have iQ:=af (uM (.slice none 0 0) (.bool false) (.bool false) (ae bO) (show cb≠bb by omega))
      go_wp2_with fail
      go_ret
      refine(?_:sj rb cb h0 h1 h2 h3 s ns _ w _ _)
      rw[ae HF]
      have R:=lI (ae mG) (ae ou) hne cf (ae iQ) ((aC.refl _ _).set 5 (.slice none 0 0))
      exact⟨l',ns',nv',ao,n,cap,none,0,0,rfl,R.1,ae HP,uL (.slice none 0 0) (ae iQ),R.2⟩
     ·rintro e w5 ⟨ao5,n5,cap5,ns5,nv5,e5,rfl,⟨BV,zg⟩,hs5,bZ⟩
      have PX:=af (cm.behind ((ae PV).keep (aU.ka (ae R4).1 bZ)) BV zg)
      have PY:=af BV
      have PZ:Hid (aV ns5=Za.aD (Za.aD (aV ns) xs) ys):=af (by rw[zg,ae D4])
      clear BV zg
      have iq:=af hs5
      have jv:=af ((ae R4).2.trans bZ.wide)
      have bO:=af (aq bZ (ae dr) (by simp;omega))
      have jH:=af (aq bZ (ae Il) (by simp;omega))
      have r5:=ah (ae jH)
      have x5:=ay (ae jH)
      have PW:=ag (ae jH)
      have rc5:=ah (ae bO)
      have xc5:=ay (ae bO)
      have xv:=ag (ae bO)
      clear hs5 bZ
      cases g5
      ·have HF:=af (show Za.body l= .inl (2,(Za.hd l5).pos)from Za.vk (ae HR) py (ae tE))
       have R6:=af (oN (ae iq) (ae jv) hlt (by omega) (ae jH) ((((aC.refl _ _).set 0 (.slice ao5 n5 cap5)).set 1 (.bool t5)).set 2 (.bool false)))
       have mG:=af (ae R6).1
       have ou:=af (ae R6).2
       have iQ:=af (uM (.slice ao5 n5 cap5) (.bool t5) (.bool false) (ae bO) (show cb≠bb by omega))
       go_wp2_with fail
       refine(b8 _ rb s l5 ns5 nv5 e5 2 (ae mG)).mono ?_
       rintro e wz ⟨rfl,hsz,fM⟩
       have HSz:=af hsz
       have HKz:=af ((ae ou).trans fM.wide)
       have HBz:=af (aq fM (ae iQ) (by simp;omega))
       clear hsz fM
       go_wp2_with fail
       go_ret
       refine(?_:sj rb cb h0 h1 h2 h3 s ns _ w _ _)
       rw[ae HF]
       exact⟨l5,ns5,nv5,ao,n,cap,none,0,0,rfl,ae HSz,rfl,ae HBz,ae HKz⟩
      ·have HF:=af (show Za.body l= .inr ((xs,ys),l5)from Za.AH (ae HR) py (ae tE))
       have R6:=af (oN (ae iq) (ae jv) hlt (by omega) (ae jH) ((((aC.refl _ _).set 0 (.slice ao5 n5 cap5)).set 1 (.bool t5)).set 2 (.bool true)))
       have mG:=af (ae R6).1
       have ou:=af (ae R6).2
       have iQ:=af (uM (.slice ao5 n5 cap5) (.bool t5) (.bool true) (ae bO) (show cb≠bb by omega))
       go_wp2_with fail
       go_ret
       refine(?_:sj rb cb h0 h1 h2 h3 s ns _ w _ _)
       rw[ae HF]
       have R:=lI (ae mG) (ae ou) hne cf (ae iQ) ((aC.refl _ _).set 5 (.slice ao5 n5 cap5))
       have KK:=(aU.px (ae jH) ((((aC.refl _ _).set 0 (.slice ao5 n5 cap5)).set 1 (.bool t5)).set 2 (.bool true))).trans (aU.px (ae iQ) ((aC.refl _ _).set 5 (.slice ao5 n5 cap5)))
       exact⟨ns5,nv5,e5,ao,n,cap,ao5,n5,cap5,rfl,⟨(ae PX).keep KK,(ae PY).keep KK,ae PZ⟩,R.1,(uL (.slice ao5 n5 cap5) (ae iQ)),R.2⟩
   ·have cg:=af ((ae bH).below ((Below.refl _ _).alloc (Nat.le_refl _) (.cells #[.slice ao n cap,.bool true,.bool true] 82)))
    have di:=af ((ae df).alloc (.cells #[.slice ao n cap,.bool true,.bool true] 82))
    have bf:=af (aB (ae bD) (.cells #[.slice ao n cap,.bool true,.bool true] 82))
    have rY:=af (heap_alloc_new w1 (.cells #[.slice ao n cap,.bool true,.bool true] 82))
    have Ik:=af ((ae MB).keep (aU.alloc _ (.cells #[.slice ao n cap,.bool true,.bool true] 82)))
    go_wp2_with fail
    refine(bG _ rb s l1 ns1 nv1 e1 _ (ae cg)).mono ?_
    rintro e w9 ⟨rfl,hw⟩
    rw[hw]
    simp only[ByteArray.toList_mk]
    clear hw w9
    generalize zi:w1.heap.size=bb at*
    generalize hw2:w1.alloc (.cells #[.slice ao n cap,.bool true,.bool true] 82)=w2 at*
    clear zi hw2
    have r2:=ah (ae rY)
    have hzl:=ag (ae rY)
    have rc:=ah (ae bf)
    have xc:=ay (ae bf)
    have PT:=ag (ae bf)
    cases py:Za.sees l1 [124]
    ·have HF:=af (show Za.body l= .inr (([],xs),l1)from Za.wV (ae HR) (by simp[py]))
     go_wp2_with fail
     go_ret
     refine(?_:sj rb cb h0 h1 h2 h3 s ns _ w _ _)
     rw[ae HF]
     have R:=lI (ae cg) (ae di) hne cf (ae bf) ((aC.refl _ _).set 5 (.slice ao n cap))
     exact⟨ns1,nv1,e1,none,0,0,ao,n,cap,rfl,⟨cm.none _ _,(ae Ik).keep (aU.px (ae bf) ((aC.refl cb w2).set 5 (.slice ao n cap))),ae D4⟩,R.1,(uL (.slice ao n cap) (ae bf)),R.2⟩
    ·have hkj:=af (show (Za.hd l1).kind≠0 by rw[Za.cU py];omega)
     go_wp2_with fail
     refine(fP _ rb s l1 ns1 nv1 e1 (ae cg) (ae hkj)).mono ?_
     rintro e w3 ⟨rfl,hs3,hk3⟩
     have eM:=af hs3
     have PU:=af ((ae Ik).keep (aU.ka (ae cg) hk3))
     have eC:=af ((ae di).trans hk3.wide)
     have bQ:=af (aq hk3 (ae bf) (by simp;omega))
     have BU:=af (aq hk3 (ae rY) (by simp;omega))
     clear hs3 hk3 r2 hzl rc xc PT
     have r3:=ah (ae BU)
     have hz3:=ag (ae BU)
     have rc3:=ah (ae bQ)
     have xc3:=ay (ae bQ)
     have hc3:=ag (ae bQ)
     have R4:=af (lI (ae eM) (ae eC) hne cf (ae bQ) ((aC.refl _ _).set 4 (.slice ao n cap)))
     have dr:=af (MA (.slice ao n cap) (ae bQ))
     have PV:=af ((ae PU).keep (aU.px (ae bQ) ((aC.refl cb w3).set 4 (.slice ao n cap))))
     have Il:=af (aG (ae BU) (show bb≠cb by omega) 4 (.slice ao n cap))
     go_wp2_with fail
     clear r3 hz3 rc3 xc3 hc3
     generalize w3.setCell ⟨cb,4,none⟩ (.slice ao n cap)=w4 at*
     have J:=af (p9 w4 rb s l1.tail ns1 nv1 e1 false true (ae R4).1)
     generalize hr2:Za.items 5 false true l1.tail=r2 at J
     have tE:=af hr2
     clear hr2
     refine(ae J).mono ?_
     rcases r2 with⟨er,pos⟩ | ⟨⟨ys,t5,g5⟩,l5⟩
     ·have HF:=af (show Za.body l= .inl (er,pos)from Za.sH (ae HR) py (ae tE))
      rintro e w5 ⟨l',ns',nv',rfl,hs5,cu,bZ⟩
      have HP:=af cu
      clear cu
      have iq:=af hs5
      have jv:=af ((ae R4).2.trans bZ.wide)
      have bO:=af (aq bZ (ae dr) (by simp;omega))
      have jH:=af (aq bZ (ae Il) (by simp;omega))
      have r5:=ah (ae jH)
      have x5:=ay (ae jH)
      have PW:=ag (ae jH)
      have rc5:=ah (ae bO)
      have xc5:=ay (ae bO)
      have xv:=ag (ae bO)
      clear hs5 bZ
      have R6:=af (oN (ae iq) (ae jv) hlt (by omega) (ae jH) ((((aC.refl _ _).set 0 (.slice none 0 0)).set 1 (.bool false)).set 2 (.bool false)))
      have mG:=af (ae R6).1
      have ou:=af (ae R6).2
      have iQ:=af (uM (.slice none 0 0) (.bool false) (.bool false) (ae bO) (show cb≠bb by omega))
      go_wp2_with fail
      go_ret
      refine(?_:sj rb cb h0 h1 h2 h3 s ns _ w _ _)
      rw[ae HF]
      have R:=lI (ae mG) (ae ou) hne cf (ae iQ) ((aC.refl _ _).set 5 (.slice none 0 0))
      exact⟨l',ns',nv',ao,n,cap,none,0,0,rfl,R.1,ae HP,uL (.slice none 0 0) (ae iQ),R.2⟩
     ·rintro e w5 ⟨ao5,n5,cap5,ns5,nv5,e5,rfl,⟨BV,zg⟩,hs5,bZ⟩
      have PX:=af (cm.behind ((ae PV).keep (aU.ka (ae R4).1 bZ)) BV zg)
      have PY:=af BV
      have PZ:Hid (aV ns5=Za.aD (Za.aD (aV ns) xs) ys):=af (by rw[zg,ae D4])
      clear BV zg
      have iq:=af hs5
      have jv:=af ((ae R4).2.trans bZ.wide)
      have bO:=af (aq bZ (ae dr) (by simp;omega))
      have jH:=af (aq bZ (ae Il) (by simp;omega))
      have r5:=ah (ae jH)
      have x5:=ay (ae jH)
      have PW:=ag (ae jH)
      have rc5:=ah (ae bO)
      have xc5:=ay (ae bO)
      have xv:=ag (ae bO)
      clear hs5 bZ
      cases g5
      ·have HF:=af (show Za.body l= .inl (2,(Za.hd l5).pos)from Za.vk (ae HR) py (ae tE))
       have R6:=af (oN (ae iq) (ae jv) hlt (by omega) (ae jH) ((((aC.refl _ _).set 0 (.slice ao5 n5 cap5)).set 1 (.bool t5)).set 2 (.bool false)))
       have mG:=af (ae R6).1
       have ou:=af (ae R6).2
       have iQ:=af (uM (.slice ao5 n5 cap5) (.bool t5) (.bool false) (ae bO) (show cb≠bb by omega))
       go_wp2_with fail
       refine(b8 _ rb s l5 ns5 nv5 e5 2 (ae mG)).mono ?_
       rintro e wz ⟨rfl,hsz,fM⟩
       have HSz:=af hsz
       have HKz:=af ((ae ou).trans fM.wide)
       have HBz:=af (aq fM (ae iQ) (by simp;omega))
       clear hsz fM
       go_wp2_with fail
       go_ret
       refine(?_:sj rb cb h0 h1 h2 h3 s ns _ w _ _)
       rw[ae HF]
       exact⟨l5,ns5,nv5,ao,n,cap,none,0,0,rfl,ae HSz,rfl,ae HBz,ae HKz⟩
      ·have HF:=af (show Za.body l= .inr ((xs,ys),l5)from Za.AH (ae HR) py (ae tE))
       have R6:=af (oN (ae iq) (ae jv) hlt (by omega) (ae jH) ((((aC.refl _ _).set 0 (.slice ao5 n5 cap5)).set 1 (.bool t5)).set 2 (.bool true)))
       have mG:=af (ae R6).1
       have ou:=af (ae R6).2
       have iQ:=af (uM (.slice ao5 n5 cap5) (.bool t5) (.bool true) (ae bO) (show cb≠bb by omega))
       go_wp2_with fail
       go_ret
       refine(?_:sj rb cb h0 h1 h2 h3 s ns _ w _ _)
       rw[ae HF]
       have R:=lI (ae mG) (ae ou) hne cf (ae iQ) ((aC.refl _ _).set 5 (.slice ao5 n5 cap5))
       have KK:=(aU.px (ae jH) ((((aC.refl _ _).set 0 (.slice ao5 n5 cap5)).set 1 (.bool t5)).set 2 (.bool true))).trans (aU.px (ae iQ) ((aC.refl _ _).set 5 (.slice ao5 n5 cap5)))
       exact⟨ns5,nv5,e5,ao,n,cap,ao5,n5,cap5,rfl,⟨(ae PX).keep KK,(ae PY).keep KK,ae PZ⟩,R.1,(uL (.slice ao5 n5 cap5) (ae iQ)),R.2⟩
end Go.Proofs.YthfjnfcekeknlaaGreatDoor
