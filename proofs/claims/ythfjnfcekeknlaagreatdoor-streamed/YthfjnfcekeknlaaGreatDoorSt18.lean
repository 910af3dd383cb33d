import Derived.Test.YthfjnfcekeknlaaGreatDoorSt13
import Derived.Test.YthfjnfcekeknlaaGreatDoorSt14
import Derived.Test.YthfjnfcekeknlaaGreatDoorSt15
import Derived.Test.YthfjnfcekeknlaaGreatDoorSt17
import Derived.Deep.LoopGhost
set_option maxHeartbeats 8000000
set_option maxRecDepth 100000
namespace Go.Proofs.YthfjnfcekeknlaaGreatDoor
open Go.RowKit
theorem Fg (f:Nat) (l:List Za.Tok) (t:Za.Tm) (l1:List Za.Tok) (h:Za.term f l= .inr (t,l1)):t.kind=2∨t.kind=3∨t.kind=4:=by
 cases f with
 | zero=>
  rw[Za.term]at h
  by_cases hb:Za.begins (Za.hd l)=true
  ·rw[if_pos hb]at h;cases h
  ·rw[if_neg hb]at h;cases h
 | succ f=>
  rw[Za.term]at h
  by_cases hb:Za.begins (Za.hd l)=true
  ·rw[if_pos hb]at h
   have hk:(Za.hd l).kind=2∨(Za.hd l).kind=3∨(Za.hd l).kind=4:=by simpa [Za.begins,or_assoc] using hb
   by_cases hl:(Za.hd l).kind=4∧6<(Za.hd l).text.size
   ·rw[if_pos hl]at h;cases h
   ·rw[if_neg hl]at h
    by_cases h2:(Za.hd l).kind=2
    ·rw[if_pos h2]at h
     by_cases hs:Za.sees l.tail [40]=true
     ·rw[if_pos hs]at h
      rcases hq:Za.bG (Za.term f) 2 l.tail.tail with x | ⟨us,l2⟩
      ·rw[hq]at h;cases h
      ·rw[hq]at h;injection h with h;injection h with h _;subst h;exact Or.inl rfl
     ·rw[if_neg hs]at h;injection h with h;injection h with h _;subst h;exact Or.inl rfl
    ·rw[if_neg h2]at h;injection h with h;injection h with h _;subst h;exact hk
  ·rw[if_neg hb]at h;cases h
theorem KJ (w:World) (rb lb:Nat) (s:ByteArray) (l:List Za.Tok) (ns:List ByteArray) (nv iv:Value) (e0:Int) (tests goals:Bool) (h:St w rb s l ns nv e0) (hb:w.heap[lb]?=some (.cells #[iv,.bool tests,.bool goals] 82 (0,0))) (hne:lb≠rb) (hn0:lb≠0):
 Calls Tryz.prog 80 #[.pointer (some ⟨rb,0,none⟩),.pointer (some ⟨lb,0,none⟩)] w fun e w'=>nk rb lb iv s ns (Za.item tests goals l) w e w':=by
 rcases hT:Za.term 8 l with⟨er,ps⟩ | ⟨t,l1⟩
 ·rw[show Za.item tests goals l= .inl (er,ps)by unfold Za.item;rw[hT]]
  exact KH w rb lb s l ns nv iv e0 tests goals h hb hne hn0 er ps hT
 ·have hk:=Fg 8 l t l1 hT
  cases aU:Za.br l1
  ·cases heq:Za.sees l1 [61]
   ·by_cases h3:t.kind=3∧Za.sees l1 [58,61]=true
    ·obtain⟨h3,has⟩:=h3
     rcases hR:Za.assignment t goals l1 with⟨er,ps⟩ | ⟨x,l2⟩
     ·rw[show Za.item tests goals l= .inl (er,ps)by unfold Za.item;rw[hT];simp only[aU,heq,h3,has,hR];rfl]
      exact Dt w rb lb s l ns nv iv e0 tests goals h hb hne hn0 t l1 hT h3 aU heq has er ps hR
     ·rw[show Za.item tests goals l= .inr ((x,false,goals),l2)by unfold Za.item;rw[hT];simp only[aU,heq,h3,has,hR];rfl]
      exact BC w rb lb s l ns nv iv e0 tests goals h hb hne hn0 t l1 hT h3 aU heq has x l2 hR
    ·have hI:Za.item tests goals l=if t.kind=2∧((tests&&Za.isInt t)||goals)=true then .inr ((⟨t,[],none,[],none⟩,tests&&Za.isInt t,goals),l1)else Za.bad 2 l1:=by
      unfold Za.item;rw[hT];simp only[aU,heq];rw[if_neg h3];rfl
     have hn:t.kind≠2→Za.isInt t=false:=fun q=>by simp[Za.isInt,q]
     rw[hI]
     rcases hk with hk | hk | hk
     ·cases tests
      ·cases goals
       ·rw[if_neg (by simp)]
        exact uC w rb lb s l ns nv iv e0 h hb hne hn0 t l1 hk hT aU heq
       ·rw[if_pos (by simp[hk])]
        exact uB w rb lb s l ns nv iv e0 h hb hne hn0 t l1 hk hT aU heq
      ·cases hi:Za.isInt t
       ·cases goals
        ·rw[if_neg (by simp)]
         exact vH w rb lb s l ns nv iv e0 h hb hne hn0 t l1 hk hi hT aU heq
        ·rw[if_pos (by simp[hk])]
         exact vG w rb lb s l ns nv iv e0 h hb hne hn0 t l1 hk hi hT aU heq
       ·rw[if_pos (by simp[hk])]
        exact vI w rb lb s l ns nv iv e0 goals h hb hne hn0 t l1 hk hi hT aU heq
     ·have has:Za.sees l1 [58,61]=false:=by simpa [hk] using h3
      rw[if_neg (by omega)]
      cases tests
      ·exact uA w rb lb s l ns nv iv e0 goals h hb hne hn0 t l1 hk hT aU heq has
      ·exact vJ w rb lb s l ns nv iv e0 goals h hb hne hn0 t l1 hk (hn (by omega)) hT aU heq has
     ·rw[if_neg (by omega)]
      cases tests
      ·exact uD w rb lb s l ns nv iv e0 goals h hb hne hn0 t l1 hk hT aU heq
      ·exact vK w rb lb s l ns nv iv e0 goals h hb hne hn0 t l1 hk (hn (by omega)) hT aU heq
   ·rcases hR:Za.sides t goals l1 with⟨er,ps⟩ | ⟨x,l2⟩
    ·rw[show Za.item tests goals l= .inl (er,ps)by unfold Za.item;rw[hT];simp only[aU,heq,hR];rfl]
     exact Fe w rb lb s l ns nv iv e0 tests goals h hb hne hn0 t l1 hT aU heq er ps hR
    ·rw[show Za.item tests goals l= .inr ((x,false,goals),l2)by unfold Za.item;rw[hT];simp only[aU,heq,hR];rfl]
     exact Dr w rb lb s l ns nv iv e0 tests goals h hb hne hn0 t l1 hT aU heq x l2 hR
  ·rcases hR:Za.sides t tests l1 with⟨er,ps⟩ | ⟨x,l2⟩
   ·rw[show Za.item tests goals l= .inl (er,ps)by unfold Za.item;rw[hT];simp only[aU,hR];rfl]
    exact Bx w rb lb s l ns nv iv e0 tests goals h hb hne hn0 t l1 hT aU er ps hR
   ·rw[show Za.item tests goals l= .inr ((x,tests,false),l2)by unfold Za.item;rw[hT];simp only[aU,hR];rfl]
    exact zY w rb lb s l ns nv iv e0 tests goals h hb hne hn0 t l1 hT aU x l2 hR
end Go.Proofs.YthfjnfcekeknlaaGreatDoor
namespace Za
theorem Fh {k:Nat} {t g:Bool} {l:List Tok} {e:Nat×Nat} (h:item t g l= .inl e):items k t g l= .inl e:=by
 unfold items;rw[h]
theorem Fi {k:Nat} {t g t1 g1:Bool} {l l1:List Tok} {x:aC} (h:item t g l= .inr ((x,t1,g1),l1)) (hc:sees l1 [44]=false):items k t g l= .inr (([x],t1,g1),l1):=by
 unfold items;rw[h];simp[hc]
theorem Du {t g t1 g1:Bool} {l l1:List Tok} {x:aC} (h:item t g l= .inr ((x,t1,g1),l1)) (hc:sees l1 [44]=true):items 0 t g l=bad 3 l1:=by
 unfold items;rw[h];simp[hc]
theorem Dv {k:Nat} {t g t1 g1:Bool} {l l1:List Tok} {x:aC} (h:item t g l= .inr ((x,t1,g1),l1)) (hc:sees l1 [44]=true):items (k+1) t g l=rS [x] (items k t1 g1 l1.tail):=by
 rw[items,h]
 simp only[hc,if_true]
 rcases items k t1 g1 l1.tail with e | ⟨⟨us,t,g⟩,l2⟩<;>rfl
end Za
namespace Go.Proofs.YthfjnfcekeknlaaGreatDoor
open Go.RowKit
theorem Tryz.info151:(Tryz.prog.info? 151).map (fun i=>(i.zero,i.size,i.bytes))=some (some (.agg #[.int .i64 0,.int .i64 0,.string ⟨#[]⟩,.slice none 0 0,.string ⟨#[]⟩,.int .i64 0,.int .i64 0,.string ⟨#[]⟩,.slice none 0 0,.string ⟨#[]⟩,.int .i64 0,.int .i64 0,.string ⟨#[]⟩,.slice none 0 0]),14,200):=by kernel_rfl
structure JV where
 a:TV
 b:TV
 c:TV
 sg:ByteArray
 op:ByteArray
def pO (v:JV):List Value:=[.int .i64 v.a.k,.int .i64 v.a.val,.string v.a.tx,.slice v.a.ao v.a.n v.a.cap,.string v.sg,.int .i64 v.b.k,.int .i64 v.b.val,.string v.b.tx,.slice v.b.ao v.b.n v.b.cap,.string v.op,.int .i64 v.c.k,.int .i64 v.c.val,.string v.c.tx,.slice v.c.ao v.c.n v.c.cap]
theorem Fj (vs:List JV):(vs.flatMap pO).length=vs.length*14:=by
 induction vs with
 | nil=>rfl
 | cons a r ih=>rw[List.flatMap_cons,List.length_append,ih];simp[pO];omega
structure oW (N:List (List UInt8)) (w:World) (v:JV) (x:Za.aC):Prop where
 left:RA 8 N anyA w v.a x.left
 sign:v.sg.toList=x.sign
 right:∀r,x.right=some r→RA 8 N anyA w v.b r
 op:v.op.toList=x.op
 last:∀z,x.last=some z→RA 8 N anyA w v.c z
theorem oW.keep {N:List (List UInt8)} {w w':World} {v:JV} {x:Za.aC} (h:oW N w v x) (hk:aJ w w'):oW N w' v x:=⟨hk.ra h.left,h.sign,fun r q=>hk.ra (h.right r q),h.op,fun r q=>hk.ra (h.last r q)⟩
theorem oW.more {N:List (List UInt8)} {w:World} {v:JV} {x:Za.aC} (h:oW N w v x) (M:List (List UInt8)):oW (N++M) w v x:=⟨h.left.more M,h.sign,fun r q=>(h.right r q).more M,h.op,fun r q=>(h.last r q).more M⟩
theorem oW.ok {N:List (List UInt8)} {w:World} {v:JV} {x:Za.aC} (h:oW N w v x):Za.GX x:=⟨h.left.mZ,fun r q=>(h.right r q).mZ,fun z q=>(h.last z q).mZ⟩
theorem oQ.r {ns ns':List ByteArray} {w':World} {a b c:TV} {sg op:ByteArray} {x:Za.aC} (h:oQ ns ns' w' a b c sg op x):oW (aR ns') w' ⟨a,b,c,sg,op⟩ x:=⟨h.left,h.sign,h.right,h.op,h.last⟩
def sQ (ns0 ns:List ByteArray) (w:World) (xs:List Value) (ys:List Za.aC):Prop:=(∃vs:List JV,xs=vs.flatMap pO∧bK (oW (aR ns) w) vs ys)∧aR ns=Za.ay (aR ns0) ys
theorem sQ.keep {ns0 ns:List ByteArray} {w w':World} {xs:List Value} {ys:List Za.aC} (h:sQ ns0 ns w xs ys) (hk:aJ w w'):sQ ns0 ns w' xs ys:=by
 obtain⟨⟨vs,rfl,ha⟩,hn⟩:=h
 exact⟨⟨vs,rfl,ha.imp fun _ _ q=>q.keep hk⟩,hn⟩
theorem sQ.snoc {ns0 ns ns':List ByteArray} {w:World} {xs:List Value} {ys:List Za.aC} {a b c:TV} {sg op:ByteArray} {x:Za.aC} (h:sQ ns0 ns w xs ys) (q:oQ ns ns' w a b c sg op x):sQ ns0 ns' w (xs++pO ⟨a,b,c,sg,op⟩) (ys++[x]):=by
 obtain⟨⟨vs,rfl,ha⟩,hn⟩:=h
 obtain⟨M,hM,_⟩:=Za.wR x q.r.ok (aR ns)
 have he:aR ns'=aR ns++M:=q.nms.trans hM
 refine⟨⟨vs++[⟨a,b,c,sg,op⟩],by simp,bK.snoc q.r ?_⟩,?_⟩
 ·rw[he];exact ha.imp fun _ _ r=>r.more M
 ·unfold Za.ay
  rw[List.foldl_append,q.nms,hn]
  rfl
def bW (N:List (List UInt8)) (w:World) (o:Option Addr) (n:Nat) (ys:List Za.aC):Prop:=n=ys.length∧(ys≠[]→∃(g:Nat) (vs:List JV) (cs:Array Value),o=some ⟨g,0,none⟩∧w.heap[g]?=some (.cells cs 151 (0,0))∧cs.toList.take (vs.length*14)=vs.flatMap pO∧bK (oW N w) vs ys)
theorem bW.BD {ns0 ns:List ByteArray} {w:World} {b0 g n cap:Nat} {xs:List Value} {ys:List Za.aC} (h:sQ ns0 ns w xs ys) (ho:w.ownsRow b0 151 14 (.slice (some ⟨g,0,none⟩) n cap) n xs):bW (aR ns) w (some ⟨g,0,none⟩) n ys:=by
 obtain⟨⟨vs,rfl,ha⟩,_⟩:=h
 have hl:=ho.1
 rw[Fj]at hl
 have hl':=ha.length
 rcases ho.2 with⟨q,_⟩ | ⟨g',cap',cur,q,_,hc,_,_,_,ht⟩
 ·cases q
 ·simp only[Value.slice.injEq,Option.some.injEq,Addr.mk.injEq,and_true,true_and]at q
  obtain⟨rfl,rfl⟩:=q
  exact⟨by omega,fun _=>⟨g,vs,cur,rfl,hc,by rw[show vs.length=n by omega];exact ht,ha⟩⟩
def Vd (rb:Nat) (s:ByteArray) (ns:List ByteArray) (r:Za.dH (List Za.aC×Bool×Bool)) (w:World) (e:Ending) (w':World):Prop:=match r with
 | .inl (er,pos)=>∃(l':List Za.Tok) (ns':List ByteArray) (nv':Value),e= .returned (.tuple #[.agg #[.slice none 0 0,.bool false,.bool false],.bool false])∧St w' rb s l' ns' nv' (er:Int)∧(Za.hd l').pos=pos∧KA rb [rb] w w'
 | .inr ((ys,t1,g1),l1)=>∃(ao:Option Addr) (n cap:Nat) (ns':List ByteArray) (nv':Value) (e':Int),e= .returned (.tuple #[.agg #[.slice ao n cap,.bool t1,.bool g1],.bool true])∧(bW (aR ns') w' ao n ys∧aR ns'=Za.ay (aR ns) ys)∧St w' rb s l1 ns' nv' e'∧KA rb [rb] w w'
def LA (w:World) (rb:Nat) (s:ByteArray) (T G:Bool) (l0:List Za.Tok) (ns0:List ByteArray) (k:Nat) (wr:World):Prop:=
 ∃(n:Nat) (xs:List Value) (iv:Value) (t g:Bool) (l:List Za.Tok) (ns:List ByteArray) (nv:Value) (e:Int),St wr rb s l ns nv e∧KA rb [rb] w wr∧
  wr.heap[w.heap.size]?=some (.cells #[iv,.bool t,.bool g] 82 (0,0))∧
  wr.heap[w.heap.size+1]?=some (.cells #[.slice none 0 0,.bool false,.bool false] 82 (0,0))∧
  wr.ownsRow (w.heap.size+2) 151 14 iv n xs∧n≤5∧k+n=6∧∃ys:List Za.aC,Za.items 5 T G l0=Za.rS ys (Za.items (5 - n) t g l)∧sQ ns0 ns wr xs ys
theorem aJ.P4 {w w':World} {rb lb:Nat} {s:ByteArray} {l:List Za.Tok} {ns:List ByteArray} {nv:Value} {e:Int} {C:Array Value} (hs:St w rb s l ns nv e) (hb:w.heap[lb]?=some (.cells C 82 (0,0))) (hk:KA rb [rb,lb] w w'):aJ w w':=fun g cs hg hi=>(hk.block g (Array.getElem?_eq_some_iff.1 hg).1 (fun q=>by
 rcases List.mem_cons.1 q with rfl | q
 ·obtain⟨k,r,hc⟩:=hi
  have:=hs.rd.c0
  simp[World.cell?,hg]at this
  rw[←Array.getElem?_toList,hc]at this
  simp at this
 ·obtain rfl:g=lb:=by simpa using q
  rw[hb]at hg
  simp at hg) (Or.inr (by unfold aL;rw[hg];simp))).trans hg
theorem Ik {w5 w7:World} {lb b0 n:Nat} {av v':Value} {xs:List Value} {X A:Obj} {C:Array Value} (hb0:w7.heap[lb]?=some (.cells C 82 (0,0))) (ho:w5.ownsRow b0 151 14 av n xs) (hg:((w5.alloc X).alloc A).grownBy w7 av.ownBlock):aJ w5 (w7.setCell ⟨lb,0,none⟩ v'):=
 (((aJ.alloc w5 X).trans (aJ.alloc _ A)).trans (aJ.grown ((ho.alloc X).alloc A) hg)).trans (aJ.only ((aA.refl lb w7).set 0 v') (by unfold aL;rw[hb0];simp))
theorem Ot {rb lb b0:Nat} {w w1:World} {T:TypeId} {sz:Nat} {v:Value} {n:Nat} {xs:List Value} (h:w.ownsRow b0 T sz v n xs) (hk:KA rb [rb,lb] w w1) (hb:rb<b0) (hl:lb<b0) (hT:T≠9):w1.ownsRow b0 T sz v n xs:=
 ⟨h.1,h.2.imp id fun⟨g,cap,cur,a,b,c,d⟩=>⟨g,cap,cur,a,b,(hk.block g (Array.getElem?_eq_some_iff.1 c).1 (by simp;omega) (Or.inr (by unfold aL;rw[c];simpa using hT))).trans c,d⟩⟩
theorem KL {b0 b1:Nat} {w:World} {T:TypeId} {sz:Nat} {v:Value} {n:Nat} {xs:List Value} (h:w.ownsRow b0 T sz v n xs) (hb:b1≤b0):w.ownsRow b1 T sz v n xs:=
 ⟨h.1,h.2.imp id fun⟨g,cap,cur,a,b,c,d⟩=>⟨g,cap,cur,a,Nat.le_trans hb b,c,d⟩⟩
theorem Fk (W:World) (n:Nat) (A:Array Value) (T:TypeId) (xs:List Value) (hn:n=W.heap.size) (hx:A.toList=xs):∀j u,xs[j]?=some u→(W.alloc (.cells A T)).cell? ((⟨n,0,none⟩:Addr).add j)=some u:=by
 subst hn hx
 intro j u hj
 have:=ag (heap_alloc_new W (.cells A T)) j
 rw[show (⟨W.heap.size,0,none⟩:Addr).add j=⟨W.heap.size,j,none⟩by cases j<;>simp[Addr.add],this]
 simpa using hj
theorem P5 (a b c:TV) (op sg:ByteArray):∀u∈([.int .i64 a.k,.int .i64 a.val,.string a.tx,.slice a.ao a.n a.cap,.string sg,.int .i64 b.k,.int .i64 b.val,.string b.tx,.slice b.ao b.n b.cap,.string op,.int .i64 c.k,.int .i64 c.val,.string c.tx,.slice c.ao c.n c.cap]:List Value),u.oneCell'=true:=by
 simp[Value.oneCell']
theorem S4 {w:World} {b:Nat} {T:TypeId} {c0 c1 c2:Value} (v:Value) (h:w.heap[b]?=some (.cells #[c0,c1,c2] T (0,0))):
 (w.setCell ⟨b,0,none⟩ v).heap[b]?=some (.cells #[v,c1,c2] T (0,0)):=by
 have:=au h 0 v
 simpa using this
theorem Ou {w w5 w7:World} {rb:Nat} {s:ByteArray} {l:List Za.Tok} {ns:List ByteArray} {nv:Value} {e:Int} {n:Nat} {av v':Value} {xs xs':List Value} {X A:Obj} {t g:Value} {C1:Array Value}
 (hS:St w5 rb s l ns nv e) (hK:KA rb [rb] w w5) (hr:rb<w.heap.size)
 (hb0:w5.heap[w.heap.size]?=some (.cells #[av,t,g] 82 (0,0))) (hb1:w5.heap[w.heap.size+1]?=some (.cells C1 82 (0,0)))
 (ho:w5.ownsRow (w.heap.size+2) 151 14 av n xs)
 (hg:((w5.alloc X).alloc A).grownBy w7 av.ownBlock) (ho':w7.ownsRow (w.heap.size+2) 151 14 v' (n+1) xs'):
 St (w7.setCell ⟨w.heap.size,0,none⟩ v') rb s l ns nv e∧KA rb [rb] w (w7.setCell ⟨w.heap.size,0,none⟩ v')∧
 (w7.setCell ⟨w.heap.size,0,none⟩ v').heap[w.heap.size]?=some (.cells #[v',t,g] 82 (0,0))∧(w7.setCell ⟨w.heap.size,0,none⟩ v').heap[w.heap.size+1]?=some (.cells C1 82 (0,0))∧
 (w7.setCell ⟨w.heap.size,0,none⟩ v').ownsRow (w.heap.size+2) 151 14 v' (n+1) xs'∧
 w7.heap[w.heap.size]?=some (.cells #[av,t,g] 82 (0,0)):=by
 have jr:w.heap.size+1<w5.heap.size:=af hb1
 obtain⟨h7,k7⟩:=yV hS hK (KL ho (by omega)) hr hg
 have hB:Below (w.heap.size+2) w5 w7:=(((Below.refl _ _).alloc (by omega) X).alloc (by simp;omega) A).grown hg (by simp;omega) (fun k q=>(ho.lt k q).1)
 have q0:=(hB.block w.heap.size (by omega)).trans hb0
 have q1:=(hB.block (w.heap.size+1) (by omega)).trans hb1
 obtain⟨h8,k8⟩:=bO h7 k7 hr (Nat.le_refl _) q0 ((aA.refl _ _).set 0 v')
 exact⟨h8,k8,S4 v' q0,aB q1 (by omega) 0 v',ownsRow_setCell_below ho' (by show w.heap.size<w.heap.size+2;omega) v',q0⟩
theorem pP (w:World) (rb:Nat) (s:ByteArray) (l:List Za.Tok) (ns:List ByteArray) (nv:Value) (e0:Int) (tests goals:Bool) (h:St w rb s l ns nv e0):
 Calls Tryz.prog 40 #[.pointer (some ⟨rb,0,none⟩),.agg #[.slice none 0 0,.bool tests,.bool goals]] w fun e w'=>Vd rb s ns (Za.items 5 tests goals l) w e w':=by
 have hlt:=h.lt
 obtain⟨ti,hi,hz0',KM,Fa⟩:=info_parts Tryz.info151
 have HL:=hide (show LA w rb s tests goals l ns 6 ((w.alloc (.cells #[.slice none 0 0,.bool tests,.bool goals] 82)).alloc (.cells #[.slice none 0 0,.bool false,.bool false] 82))from
  ⟨0,[],.slice none 0 0,tests,goals,l,ns,nv,e0,h.below (((Below.refl _ _).alloc (Nat.le_refl _) _).alloc (by simp) _),((KA.refl rb [rb] w).alloc _).alloc _,aw (heap_alloc_new w _) _,by have:=heap_alloc_new (w.alloc (.cells #[.slice none 0 0,.bool tests,.bool goals] 82)) (.cells #[.slice none 0 0,.bool false,.bool false] 82);rw[World.size_alloc]at this;exact this,World.ownsRow_nil _ _ _ _,by omega,by omega,[],(Za.JS _).symm,⟨[],rfl,trivial⟩,rfl⟩)
 clear h
 go_enter Tryz.func40,Tryz.ntmps40
 go_wp2_with fail
 go_loopg [] 6 (fun k wr=>LA w rb s tests goals l ns k wr)
 case atStart=>exact ae HL
 case round=>
  clear HL
  obtain⟨n,xs,iv,t,g,l1,ns1,nv1,e1,hs,hk,hb0,hb1,ho,zi,hkn,ys,htot,hrow⟩:=hrel
  have kK:=hide hrow
  have zj:=hide hs
  clear hrow
  have I:=hide (KJ wr rb w.heap.size s l1 ns1 nv1 iv e1 t g hs hb0 (by omega) (by omega))
  have HK:=hide hk
  have aT:=hide hb0
  have aZ:=hide hb1
  have HO:=hide ho
  have sS:=hide htot
  have nr:=hs.lt
  clear hs hk hb0 hb1 ho htot
  generalize hr:Za.item t g l1=r at I
  have HR:=hide hr
  clear hr
  rcases r with⟨er,pos⟩ | ⟨⟨x,t1,g1⟩,l2⟩
  ·have HF:=hide (show Za.items 5 tests goals l= .inl (er,pos)by rw[ae sS,Za.Fh (ae HR)];rfl)
   go_wp2_with fail
   refine(ae I).mono ?_
   rintro e w5 ⟨a,b,c,sg,op,l',ns',nv',rfl,hs5,hpos,bQ⟩
   have gT:=hide hs5
   have HP:=hide hpos
   have jh:=hide ((((ae HK).mono (Y:=[rb,w.heap.size]) (by simp)).trans bQ).forget (X:=[rb]) (by simp))
   have sU:=hide (ai bQ (ae aZ) (by simp;omega))
   have r1:=ag (ae sU)
   have x1:=aq (ae sU)
   have hz1:=af (ae sU)
   clear hs5 hpos bQ
   go_wp2_with fail
   refine bodyPost_ret (v:= .tuple #[.agg #[.slice none 0 0,.bool false,.bool false],.bool false]) (by simp[results,Tryz.results40,go_sem,hz1,r1]) rfl ?_
   rw[ae HF]
   have R:=bO (ae gT) (ae jh) hlt (by omega) (ae sU) ((((aA.refl _ _).set 0 (.slice none 0 0)).set 1 (.bool false)).set 2 (.bool false))
   exact⟨l',ns',nv',rfl,R.1.below ((Below.refl _ _).alloc (Nat.le_refl _) _),ae HP,R.2.alloc _⟩
  ·go_wp2_with fail
   refine(ae I).mono ?_
   rintro e w5 ⟨a,b,c,sg,op,ns2,nv2,e2,rfl,hit,hs5,P6,bQ⟩
   have Ak:=hide (((ae kK).keep (aJ.P4 (ae zj) (ae aT) bQ)).snoc hit)
   clear hit
   have gT:=hide hs5
   have jh:=hide ((((ae HK).mono (Y:=[rb,w.heap.size]) (by simp)).trans bQ).forget (X:=[rb]) (by simp))
   have jV:=hide P6
   have sU:=hide (ai bQ (ae aZ) (by simp;omega))
   have BF:=hide (Ot (ae HO) bQ (by omega) (by omega) (by decide))
   have r0:=ag (ae jV)
   have hz0:=af (ae jV)
   have hz1:=af (ae sU)
   clear hs5 P6 bQ HK aT aZ HO kK zj
   go_wp2_with (first | (at_builtin;go_must (refine wpList_append_own _ rfl (.tmp 17) (.tmp 19) 54 rfl (w.heap.size+2) 151 ti (.agg #[.int .i64 0,.int .i64 0,.string ⟨#[]⟩,.slice none 0 0,.string ⟨#[]⟩,.int .i64 0,.int .i64 0,.string ⟨#[]⟩,.slice none 0 0,.string ⟨#[]⟩,.int .i64 0,.int .i64 0,.string ⟨#[]⟩,.slice none 0 0]) 14 200 Tryz.underlying54 hi hz0' KM Fa rfl (by decide) _ n xs rfl (((ae BF).alloc _).alloc _) ⟨w5.heap.size+1,0,none⟩ 1 1 [.int .i64 a.k,.int .i64 a.val,.string a.tx,.slice a.ao a.n a.cap,.string sg,.int .i64 b.k,.int .i64 b.val,.string b.tx,.slice b.ao b.n b.cap,.string op,.int .i64 c.k,.int .i64 c.val,.string c.tx,.slice c.ao c.n c.cap] rfl rfl (Fk _ _ _ _ _ (by simp) rfl) (P5 a b c op sg) (by unfold maxLen;omega) (by omega) (by simp;omega) ?_);go_must (intro v' w7 hown' hgrow _;obtain⟨g',cap',hv,hcm⟩:=ed hown';have ld:=hide (Ou (ae gT) (ae jh) hlt (ae jV) (ae sU) (ae BF) hgrow hown');have KN:=hide (Ik (v':=v') (ae ld).2.2.2.2.2 (ae BF) hgrow);have z:=ag (ae ld).2.2.2.2.2;have zx:=aq (ae ld).2.2.2.2.2;have zz:=af (ae ld).2.2.2.2.2;rw[hv]at ld KN⊢;clear hown' hgrow hv)))
   have Fl:=hide ((ae Ak).keep (ae KN))
   have MT:=hide (ae ld).1
   have P7:=hide (ae ld).2.1
   have P8:=hide (ae ld).2.2.1
   have D7:=hide (ae ld).2.2.2.1
   have mj:=hide (ae ld).2.2.2.2.1
   clear ld KN Ak z zx zz r0 hz0 hz1 gT jh jV sU BF
   generalize w7.setCell ⟨w.heap.size,0,none⟩ (.slice (some ⟨g',0,none⟩) (n+1) cap')=w8 at*
   refine(bl _ rb s l2 ns2 nv2 e2 _ (ae MT)).mono ?_
   rintro e w9 ⟨rfl,hw⟩
   rw[hw]
   simp only[ByteArray.toList_mk]
   clear hw w9
   have y0:=ag (ae P8)
   have y1:=ag (ae D7)
   have y1x:=aq (ae D7)
   have hv0:=af (ae P8)
   have hv1:=af (ae D7)
   cases hc:Za.sees l2 [44]
   ·have HF:=hide (show Za.items 5 tests goals l= .inr ((ys++[x],t1,g1),l2)by rw[ae sS,Za.Fi (ae HR) hc];rfl)
    go_wp2_with fail
    refine bodyPost_ret (v:= .tuple #[.agg #[.slice (some ⟨g',0,none⟩) (n+1) cap',.bool t1,.bool g1],.bool true]) (by simp[results,Tryz.results40,go_sem,y1]) rfl ?_
    rw[ae HF]
    have RP:=yX (ae MT) (ae P7) hlt (by omega) (ae D7) ((((aA.refl _ _).set 0 (.slice (some ⟨g',0,none⟩) (n+1) cap')).set 1 (.bool t1)).set 2 (.bool g1))
    have R:=RP.1
    have HOf:=ownsRow_setCell_below (a:=⟨w.heap.size+1,2,none⟩) (ownsRow_setCell_below (a:=⟨w.heap.size+1,1,none⟩) (ownsRow_setCell_below (a:=⟨w.heap.size+1,0,none⟩) (ae mj) (by show w.heap.size+1<w.heap.size+2;omega) (.slice (some ⟨g',0,none⟩) (n+1) cap')) (by show w.heap.size+1<w.heap.size+2;omega) (.bool t1)) (by show w.heap.size+1<w.heap.size+2;omega) (.bool g1)
    exact⟨some ⟨g',0,none⟩,n+1,cap',ns2,nv2,e2,rfl,⟨bW.BD ((ae Fl).keep RP.2) HOf,(ae Fl).2⟩,R.1,R.2⟩
   ·have bQ:=hide (show (Za.hd l2).kind≠0 by rw[Za.cK hc];omega)
    go_wp2_with fail
    rw[show ((n:Int)+1)=((n+1:Nat):Int)by omega]
    refine(yR _ rb s l2 ns2 nv2 e2 (n+1) 6 (ae MT) (ae bQ)).mono ?_
    by_cases hn:n+1<6
    ·have HF:=hide (show Za.items 5 tests goals l=Za.rS (ys++[x]) (Za.items (5 - (n+1)) t1 g1 l2.tail)by rw[ae sS,show 5 - n=(5 - (n+1))+1 by omega,Za.Dv (ae HR) hc,Za.Gw])
     rw[if_pos hn,if_pos hn,decide_eq_true hn]
     rintro e wa ⟨rfl,hsa,hka⟩
     have HROWa:=hide ((ae Fl).keep (aJ.ka (ae MT) hka))
     have HSa:=hide hsa
     have HKa:=hide ((ae P7).trans hka)
     have H0a:=hide (ai hka (ae P8) (by simp;omega))
     have H1a:=hide (ai hka (ae D7) (by simp;omega))
     have HOa:=hide (sj (ae mj) hka (by omega) (by decide))
     clear hsa hka
     go_wp2_with fail
     go_roundg (gk - 1)
     case measure=>omega
     case rel=>exact⟨n+1,_,_,t1,g1,l2.tail,ns2,nv2,e2,ae HSa,ae HKa,ae H0a,ae H1a,ae HOa,by omega,by omega,_,ae HF,ae HROWa⟩
    ·have HF:=hide (show Za.items 5 tests goals l= .inl (3,(Za.hd l2).pos)by rw[ae sS,show 5 - n=0 by omega,Za.Du (ae HR) hc];rfl)
     rw[if_neg hn,if_neg hn,decide_eq_false hn]
     rintro e wa ⟨rfl,hsa,hka⟩
     have HSa:=hide hsa
     have HKa:=hide ((ae P7).trans hka)
     have H1a:=hide (ai hka (ae D7) (by simp;omega))
     clear hsa hka y0 y1 y1x hv0 hv1
     have z1:=ag (ae H1a)
     have z1x:=aq (ae H1a)
     have hzz:=af (ae H1a)
     go_wp2_with fail
     refine bodyPost_ret (v:= .tuple #[.agg #[.slice none 0 0,.bool false,.bool false],.bool false]) (by simp[results,Tryz.results40,go_sem,z1]) rfl ?_
     rw[ae HF]
     have R:=bO (ae HSa) (ae HKa) hlt (by omega) (ae H1a) ((((aA.refl _ _).set 0 (.slice none 0 0)).set 1 (.bool false)).set 2 (.bool false))
     exact⟨l2,ns2,nv2,rfl,R.1,rfl,R.2⟩
def S5 (w w':World):Prop:=∀(g:Nat) (cs:Array Value),w.heap[g]?=some (.cells cs 151 (0,0))→(∃k r,cs.toList= .int .i64 k :: r)→w'.heap[g]?=some (.cells cs 151 (0,0))
structure aQ (w w':World):Prop where
 a:aJ w w'
 j:S5 w w'
theorem aQ.trans {u v w:World} (h:aQ u v) (k:aQ v w):aQ u w:=⟨h.a.trans k.a,fun g cs a b=>k.j g cs (h.j g cs a b) b⟩
theorem aQ.below {w w':World} (h:Below w.heap.size w w'):aQ w w':=⟨aJ.below h,fun g _ a _=>(h.block g (Array.getElem?_eq_some_iff.1 a).1).trans a⟩
theorem aQ.alloc (w:World) (o:Obj):aQ w (w.alloc o):=aQ.below ((Below.refl _ _).alloc (Nat.le_refl _) o)
theorem aQ.oX {w w':World} {b:Nat} {cs:Array Value} {T:TypeId} (hb:w.heap[b]?=some (.cells cs T (0,0))) (ho:aA b w w') (hT:T≠76:=by decide) (hJ:T≠151:=by decide):aQ w w':=
 ⟨aJ.only ho (by unfold aL;rw[hb];simpa using hT),fun g cs' hg _=>(ho.block g (fun q=>by subst q;rw[hb]at hg;simp at hg;exact hJ hg.2)).trans hg⟩
theorem aQ.ka {w w':World} {rb:Nat} {s:ByteArray} {l:List Za.Tok} {ns:List ByteArray} {nv:Value} {e:Int} (hs:St w rb s l ns nv e) (hk:KA rb [rb] w w'):aQ w w':=
 ⟨aJ.ka hs hk,fun g cs hg hi=>(hk.block g (Array.getElem?_eq_some_iff.1 hg).1 (fun q=>by
  obtain rfl:g=rb:=by simpa using q
  obtain⟨k,r,hc⟩:=hi
  have:=hs.rd.c0
  simp[World.cell?,hg]at this
  rw[←Array.getElem?_toList,hc]at this
  simp at this) (Or.inr (by unfold aL;rw[hg];simp))).trans hg⟩
theorem aQ.P4 {w w':World} {rb cb:Nat} {s:ByteArray} {l:List Za.Tok} {ns:List ByteArray} {nv:Value} {e:Int} {C:Array Value} (hs:St w rb s l ns nv e) (hb:w.heap[cb]?=some (.cells C 78 (0,0))) (hk:KA rb [rb,cb] w w'):aQ w w':=
 ⟨fun g cs hg hi=>(hk.block g (Array.getElem?_eq_some_iff.1 hg).1 (fun q=>by
  rcases List.mem_cons.1 q with rfl | q
  ·obtain⟨k,r,hc⟩:=hi
   have:=hs.rd.c0
   simp[World.cell?,hg]at this
   rw[←Array.getElem?_toList,hc]at this
   simp at this
  ·obtain rfl:g=cb:=by simpa using q
   rw[hb]at hg
   simp at hg) (Or.inr (by unfold aL;rw[hg];simp))).trans hg,
  fun g cs hg hi=>(hk.block g (Array.getElem?_eq_some_iff.1 hg).1 (fun q=>by
   rcases List.mem_cons.1 q with rfl | q
   ·obtain⟨k,r,hc⟩:=hi
    have:=hs.rd.c0
    simp[World.cell?,hg]at this
    rw[←Array.getElem?_toList,hc]at this
    simp at this
   ·obtain rfl:g=cb:=by simpa using q
    rw[hb]at hg
    simp at hg) (Or.inr (by unfold aL;rw[hg];simp))).trans hg⟩
theorem bW.keep {N:List (List UInt8)} {w w':World} {o:Option Addr} {n:Nat} {ys:List Za.aC} (h:bW N w o n ys) (hk:aQ w w'):bW N w' o n ys:=by
 refine⟨h.1,fun q=> ?_⟩
 obtain⟨g,vs,cs,h1,h2,h3,h4⟩:=h.2 q
 refine⟨g,vs,cs,h1,hk.j g cs h2 ?_,h3,h4.imp fun _ _ r=>r.keep hk.a⟩
 cases vs with
 | nil=>have:=h4.length;simp at this;exact absurd (List.length_eq_zero_iff.1 this.symm) q
 | cons v vs=>
  cases hc:cs.toList with
  | nil=>rw[hc]at h3;simp[pO]at h3
  | cons c r=>
   rw[hc]at h3
   simp only[List.length_cons,Nat.add_mul,Nat.one_mul,List.flatMap_cons,pO,List.cons_append,List.take_succ_cons]at h3
   injection h3 with h3 _
   exact⟨_,r,by rw[h3]⟩
theorem bW.none (N:List (List UInt8)) (w:World):bW N w Option.none 0 []:=⟨rfl,fun q=>absurd rfl q⟩
theorem BG {N:List (List UInt8)} {w:World}:∀(vs:List JV) (ys:List Za.aC),bK (oW N w) vs ys→∀y∈ys,Za.GX y
 | [],[],_,_,h=>by cases h
 | [],_ :: _,h,_,_=>h.elim
 | _ :: _,[],_,_,h=>by cases h
 | v :: vs,y :: ys,h,z,hz=>by
  rcases List.mem_cons.1 hz with rfl | hz
  ·exact h.1.ok
  ·exact BG vs ys h.2 z hz
theorem bW.ok {N:List (List UInt8)} {w:World} {o:Option Addr} {n:Nat} {ys:List Za.aC} (h:bW N w o n ys):∀y∈ys,Za.GX y:=by
 intro y hy
 obtain⟨g,vs,cs,_,_,_,h4⟩:=h.2 (fun e=>by rw[e]at hy;cases hy)
 exact BG vs ys h4 y hy
theorem bW.more {N:List (List UInt8)} {w:World} {o:Option Addr} {n:Nat} {ys:List Za.aC} (h:bW N w o n ys) (M:List (List UInt8)):bW (N++M) w o n ys:=
 ⟨h.1,fun q=>by
  obtain⟨g,vs,cs,h1,h2,h3,h4⟩:=h.2 q
  exact⟨g,vs,cs,h1,h2,h3,h4.imp fun _ _ r=>r.more M⟩⟩
theorem bW.behind {N N':List (List UInt8)} {w w':World} {o o':Option Addr} {n n':Nat} {xs ys:List Za.aC} (h:bW N w o n xs) (k:bW N' w' o' n' ys) (hn:N'=Za.ay N ys):bW N' w o n xs:=by
 obtain⟨M,hM,_⟩:=Za.sw ys k.ok N
 rw[hn]
 unfold Za.ay
 rw[hM]
 exact h.more M
structure P9 (ns ns':List ByteArray) (w:World) (o1:Option Addr) (n1:Nat) (o2:Option Addr) (n2:Nat) (r:List Za.aC×List Za.aC):Prop where
 tests:bW (aR ns') w o1 n1 r.1
 goals:bW (aR ns') w o2 n2 r.2
 nms:aR ns'=Za.ay (Za.ay (aR ns) r.1) r.2
def rM (rb cb:Nat) (h0 h1 h2 h3:Value) (s:ByteArray) (ns:List ByteArray) (r:Za.dH (List Za.aC×List Za.aC)) (w:World) (e:Ending) (w':World):Prop:=match r with
 | .inl (er,pos)=>∃(l':List Za.Tok) (ns':List ByteArray) (nv':Value) (o1:Option Addr) (n1 c1:Nat) (o2:Option Addr) (n2 c2:Nat),
  e= .returned (.bool false)∧St w' rb s l' ns' nv' (er:Int)∧(Za.hd l').pos=pos∧w'.heap[cb]?=some (.cells #[h0,h1,h2,h3,.slice o1 n1 c1,.slice o2 n2 c2] 78 (0,0))∧KA rb [rb,cb] w w'
 | .inr (xy,l1)=>∃(ns':List ByteArray) (nv':Value) (e':Int) (o1:Option Addr) (n1 c1:Nat) (o2:Option Addr) (n2 c2:Nat),
  e= .returned (.bool true)∧P9 ns ns' w' o1 n1 o2 n2 xy∧St w' rb s l1 ns' nv' e'∧w'.heap[cb]?=some (.cells #[h0,h1,h2,h3,.slice o1 n1 c1,.slice o2 n2 c2] 78 (0,0))∧KA rb [rb,cb] w w'
theorem MU {w:World} {b:Nat} {T:TypeId} {c0 c1 c2 c3 c4 c5:Value} (v:Value) (h:w.heap[b]?=some (.cells #[c0,c1,c2,c3,c4,c5] T (0,0))):
 (w.setCell ⟨b,4,none⟩ v).heap[b]?=some (.cells #[c0,c1,c2,c3,v,c5] T (0,0)):=by
 have:=au h 4 v
 simpa using this
theorem ug {w:World} {b:Nat} {T:TypeId} {c0 c1 c2 c3 c4 c5:Value} (v:Value) (h:w.heap[b]?=some (.cells #[c0,c1,c2,c3,c4,c5] T (0,0))):
 (w.setCell ⟨b,5,none⟩ v).heap[b]?=some (.cells #[c0,c1,c2,c3,c4,v] T (0,0)):=by
 have:=au h 5 v
 simpa using this
theorem Fm {w:World} {b:Nat} {T:TypeId} {c0 c1 c2 c3 c4 c5:Value} (v0 v1 v2 v3:Value) (h:w.heap[b]?=some (.cells #[c0,c1,c2,c3,c4,c5] T (0,0))):
 ((((w.setCell ⟨b,0,none⟩ v0).setCell ⟨b,1,none⟩ v1).setCell ⟨b,2,none⟩ v2).setCell ⟨b,3,none⟩ v3).heap[b]?=some (.cells #[v0,v1,v2,v3,c4,c5] T (0,0)):=by
 have:=au (au (au (au h 0 v0) 1 v1) 2 v2) 3 v3
 simpa using this
theorem uh {w:World} {b b':Nat} {x:Obj} (v0 v1 v2:Value) (h:w.heap[b']?=some x) (hne:b'≠b):
 (((w.setCell ⟨b,0,none⟩ v0).setCell ⟨b,1,none⟩ v1).setCell ⟨b,2,none⟩ v2).heap[b']?=some x:=
 aB (aB (aB h hne 0 v0) hne 1 v1) hne 2 v2
theorem lf {w w1 w2:World} {rb cb:Nat} {s:ByteArray} {l:List Za.Tok} {ns:List ByteArray} {nv:Value} {e:Int} {cs:Array Value} (h:St w1 rb s l ns nv e) (hk:KA rb [rb,cb] w w1) (hne:cb≠rb) (hn0:cb≠0) (hc:w1.heap[cb]?=some (.cells cs 78 (0,0))) (ho:aA cb w1 w2):
 St w2 rb s l ns nv e∧KA rb [rb,cb] w w2:=
 ⟨h.only ho hne hn0 (by unfold aL;rw[hc];simp),hk.Pr ho (by simp)⟩
theorem oz {w w1 w2:World} {rb cb b:Nat} {s:ByteArray} {l:List Za.Tok} {ns:List ByteArray} {nv:Value} {e:Int} {cs:Array Value} (h:St w1 rb s l ns nv e) (hk:KA rb [rb,cb] w w1) (hlt:rb<w.heap.size) (hb:w.heap.size≤b) (hc:w1.heap[b]?=some (.cells cs 82 (0,0))) (ho:aA b w1 w2):
 St w2 rb s l ns nv e∧KA rb [rb,cb] w w2:=
 ⟨h.only ho (by omega) (by omega) (by unfold aL;rw[hc];simp),hk.dS ho hb⟩
theorem BH (w:World) (rb cb:Nat) (h0 h1 h2 h3:Value) (s:ByteArray) (l:List Za.Tok) (ns:List ByteArray) (nv:Value) (e0:Int) (h:St w rb s l ns nv e0) (hb:w.heap[cb]?=some (.cells #[h0,h1,h2,h3,.slice none 0 0,.slice none 0 0] 78 (0,0))) (hne:cb≠rb) (hn0:cb≠0):
 Calls Tryz.prog 78 #[.pointer (some ⟨rb,0,none⟩),.pointer (some ⟨cb,0,none⟩)] w fun e w'=>rM rb cb h0 h1 h2 h3 s ns (Za.body l) w e w':=by
 have hlt:=h.lt
 have hlc:=af hb
 have HB:=hide hb
 have I:=hide (pP w rb s l ns nv e0 true true h)
 clear h hb
 generalize hr:Za.items 5 true true l=r at I
 have HR:=hide hr
 clear hr
 rcases r with⟨er,pos⟩ | ⟨⟨xs,t1,g1⟩,l1⟩
 ·have HF:=hide (show Za.body l= .inl (er,pos)from Za.JT (ae HR))
  go_enter Tryz.func78,Tryz.ntmps78
  go_wp2_with fail
  refine(ae I).mono ?_
  rintro e w1 ⟨l',ns',nv',rfl,hs1,hpos,hk1⟩
  have bp:=hide hs1
  have HP:=hide hpos
  have cO:=hide hk1
  have aZ:=hide (ai hk1 (ae HB) (by simp;omega))
  clear hs1 hpos hk1
  go_wp2_with fail
  go_ret
  refine(?_:rM rb cb h0 h1 h2 h3 s ns _ w _ _)
  rw[ae HF]
  exact⟨l',ns',nv',none,0,0,none,0,0,rfl,(ae bp).below ((Below.refl _ _).alloc (Nat.le_refl _) _),ae HP,aw (ae aZ) _,((ae cO).wide).alloc _⟩
 ·go_enter Tryz.func78,Tryz.ntmps78
  go_wp2_with fail
  refine(ae I).mono ?_
  rintro e w1 ⟨ao,n,cap,ns1,nv1,e1,rfl,⟨hi1,nj⟩,hs1,hk1⟩
  have MV:=hide hi1
  have Ea:=hide nj
  clear hi1 nj
  have bp:=hide hs1
  have cO:=hide (hk1.wide (lb:=cb))
  have aZ:=hide (ai hk1 (ae HB) (by simp;omega))
  have vD:rb<w1.heap.size:=hs1.lt
  have Yd:cb<w1.heap.size:=af (ae aZ)
  have Ye:w.heap.size≤w1.heap.size:=hk1.size
  clear hs1 hk1
  cases t1
  ·cases g1
   ·have HF:=hide (show Za.body l= .inl (2,(Za.hd l1).pos)from Za.rF (ae HR) (by simp))
    have bV:=hide ((ae bp).below ((Below.refl _ _).alloc (Nat.le_refl _) (.cells #[.slice ao n cap,.bool false,.bool false] 82)))
    have cQ:=hide ((ae cO).alloc (.cells #[.slice ao n cap,.bool false,.bool false] 82))
    have aX:=hide (aw (ae aZ) (.cells #[.slice ao n cap,.bool false,.bool false] 82))
    have rJ:=hide (heap_alloc_new w1 (.cells #[.slice ao n cap,.bool false,.bool false] 82))
    have Il:=hide ((ae MV).keep (aQ.alloc _ (.cells #[.slice ao n cap,.bool false,.bool false] 82)))
    go_wp2_with fail
    refine(bT _ rb s l1 ns1 nv1 e1 2 (ae bV)).mono ?_
    rintro e wz ⟨rfl,hsz,fF⟩
    have HSz:=hide hsz
    have HKz:=hide ((ae cQ).trans fF.wide)
    have HBz:=hide (ai fF (ae aX) (by simp;omega))
    clear hsz fF
    go_wp2_with fail
    go_ret
    refine(?_:rM rb cb h0 h1 h2 h3 s ns _ w _ _)
    rw[ae HF]
    exact⟨l1,ns1,nv1,none,0,0,none,0,0,rfl,ae HSz,rfl,ae HBz,ae HKz⟩
   ·have HF:=hide (show Za.body l= .inr (([],xs),l1)from Za.wI (ae HR) (by simp))
    have rc:=ag (ae aZ)
    have xc:=aq (ae aZ)
    go_wp2_with fail
    go_ret
    refine(?_:rM rb cb h0 h1 h2 h3 s ns _ w _ _)
    rw[ae HF]
    have R:=lf (ae bp) (ae cO) hne hn0 (ae aZ) ((aA.refl _ _).set 5 (.slice ao n cap))
    exact⟨ns1,nv1,e1,none,0,0,ao,n,cap,rfl,⟨bW.none _ _,(ae MV).keep ((aQ.oX (ae aZ) ((aA.refl cb w1).set 5 (.slice ao n cap))).trans (aQ.alloc _ _)),ae Ea⟩,R.1.below ((Below.refl _ _).alloc (Nat.le_refl _) _),aw (ug (.slice ao n cap) (ae aZ)) _,R.2.alloc _⟩
  ·cases g1
   ·have bV:=hide ((ae bp).below ((Below.refl _ _).alloc (Nat.le_refl _) (.cells #[.slice ao n cap,.bool true,.bool false] 82)))
    have cQ:=hide ((ae cO).alloc (.cells #[.slice ao n cap,.bool true,.bool false] 82))
    have aX:=hide (aw (ae aZ) (.cells #[.slice ao n cap,.bool true,.bool false] 82))
    have rJ:=hide (heap_alloc_new w1 (.cells #[.slice ao n cap,.bool true,.bool false] 82))
    have Il:=hide ((ae MV).keep (aQ.alloc _ (.cells #[.slice ao n cap,.bool true,.bool false] 82)))
    go_wp2_with fail
    refine(bl _ rb s l1 ns1 nv1 e1 _ (ae bV)).mono ?_
    rintro e w9 ⟨rfl,hw⟩
    rw[hw]
    simp only[ByteArray.toList_mk]
    clear hw w9
    generalize hbb:w1.heap.size=bb at*
    generalize hw2:w1.alloc (.cells #[.slice ao n cap,.bool true,.bool false] 82)=w2 at*
    clear hbb hw2
    have r2:=ag (ae rJ)
    have hzl:=af (ae rJ)
    have rc:=ag (ae aX)
    have xc:=aq (ae aX)
    have Qa:=af (ae aX)
    cases oY:Za.sees l1 [124]
    ·have HF:=hide (show Za.body l= .inl (2,(Za.hd l1).pos)from Za.rF (ae HR) (by simp[oY]))
     go_wp2_with fail
     refine(bT _ rb s l1 ns1 nv1 e1 2 (ae bV)).mono ?_
     rintro e wz ⟨rfl,hsz,fF⟩
     have HSz:=hide hsz
     have HKz:=hide ((ae cQ).trans fF.wide)
     have HBz:=hide (ai fF (ae aX) (by simp;omega))
     clear hsz fF
     go_wp2_with fail
     go_ret
     refine(?_:rM rb cb h0 h1 h2 h3 s ns _ w _ _)
     rw[ae HF]
     exact⟨l1,ns1,nv1,none,0,0,none,0,0,rfl,ae HSz,rfl,ae HBz,ae HKz⟩
    ·have hkj:=hide (show (Za.hd l1).kind≠0 by rw[Za.cK oY];omega)
     go_wp2_with fail
     refine(fJ _ rb s l1 ns1 nv1 e1 (ae bV) (ae hkj)).mono ?_
     rintro e w3 ⟨rfl,hs3,hk3⟩
     have dV:=hide hs3
     have Qb:=hide ((ae Il).keep (aQ.ka (ae bV) hk3))
     have dQ:=hide ((ae cQ).trans hk3.wide)
     have bH:=hide (ai hk3 (ae aX) (by simp;omega))
     have BI:=hide (ai hk3 (ae rJ) (by simp;omega))
     clear hs3 hk3 r2 hzl rc xc Qa
     have r3:=ag (ae BI)
     have hz3:=af (ae BI)
     have rc3:=ag (ae bH)
     have xc3:=aq (ae bH)
     have hc3:=af (ae bH)
     have R4:=hide (lf (ae dV) (ae dQ) hne hn0 (ae bH) ((aA.refl _ _).set 4 (.slice ao n cap)))
     have cR:=hide (MU (.slice ao n cap) (ae bH))
     have Qc:=hide ((ae Qb).keep (aQ.oX (ae bH) ((aA.refl cb w3).set 4 (.slice ao n cap))))
     have Im:=hide (aB (ae BI) (show bb≠cb by omega) 4 (.slice ao n cap))
     go_wp2_with fail
     clear r3 hz3 rc3 xc3 hc3
     generalize w3.setCell ⟨cb,4,none⟩ (.slice ao n cap)=w4 at*
     have J:=hide (pP w4 rb s l1.tail ns1 nv1 e1 false true (ae R4).1)
     generalize hr2:Za.items 5 false true l1.tail=r2 at J
     have sJ:=hide hr2
     clear hr2
     refine(ae J).mono ?_
     rcases r2 with⟨er,pos⟩ | ⟨⟨ys,t5,g5⟩,l5⟩
     ·have HF:=hide (show Za.body l= .inl (er,pos)from Za.rT (ae HR) oY (ae sJ))
      rintro e w5 ⟨l',ns',nv',rfl,hs5,hpos,bQ⟩
      have HP:=hide hpos
      clear hpos
      have gT:=hide hs5
      have jh:=hide ((ae R4).2.trans bQ.wide)
      have bS:=hide (ai bQ (ae cR) (by simp;omega))
      have ju:=hide (ai bQ (ae Im) (by simp;omega))
      have r5:=ag (ae ju)
      have x5:=aq (ae ju)
      have Qd:=af (ae ju)
      have rc5:=ag (ae bS)
      have xc5:=aq (ae bS)
      have xe:=af (ae bS)
      clear hs5 bQ
      have R6:=hide (oz (ae gT) (ae jh) hlt (by omega) (ae ju) ((((aA.refl _ _).set 0 (.slice none 0 0)).set 1 (.bool false)).set 2 (.bool false)))
      have mn:=hide (ae R6).1
      have nT:=hide (ae R6).2
      have iA:=hide (uh (.slice none 0 0) (.bool false) (.bool false) (ae bS) (show cb≠bb by omega))
      go_wp2_with fail
      go_ret
      refine(?_:rM rb cb h0 h1 h2 h3 s ns _ w _ _)
      rw[ae HF]
      have R:=lf (ae mn) (ae nT) hne hn0 (ae iA) ((aA.refl _ _).set 5 (.slice none 0 0))
      exact⟨l',ns',nv',ao,n,cap,none,0,0,rfl,R.1,ae HP,ug (.slice none 0 0) (ae iA),R.2⟩
     ·rintro e w5 ⟨ao5,n5,cap5,ns5,nv5,e5,rfl,⟨hi5,zi⟩,hs5,bQ⟩
      have Qe:=hide (bW.behind ((ae Qc).keep (aQ.ka (ae R4).1 bQ)) hi5 zi)
      have Qf:=hide hi5
      have Qg:Hid (aR ns5=Za.ay (Za.ay (aR ns) xs) ys):=hide (by rw[zi,ae Ea])
      clear hi5 zi
      have gT:=hide hs5
      have jh:=hide ((ae R4).2.trans bQ.wide)
      have bS:=hide (ai bQ (ae cR) (by simp;omega))
      have ju:=hide (ai bQ (ae Im) (by simp;omega))
      have r5:=ag (ae ju)
      have x5:=aq (ae ju)
      have Qd:=af (ae ju)
      have rc5:=ag (ae bS)
      have xc5:=aq (ae bS)
      have xe:=af (ae bS)
      clear hs5 bQ
      cases g5
      ·have HF:=hide (show Za.body l= .inl (2,(Za.hd l5).pos)from Za.uF (ae HR) oY (ae sJ))
       have R6:=hide (oz (ae gT) (ae jh) hlt (by omega) (ae ju) ((((aA.refl _ _).set 0 (.slice ao5 n5 cap5)).set 1 (.bool t5)).set 2 (.bool false)))
       have mn:=hide (ae R6).1
       have nT:=hide (ae R6).2
       have iA:=hide (uh (.slice ao5 n5 cap5) (.bool t5) (.bool false) (ae bS) (show cb≠bb by omega))
       go_wp2_with fail
       refine(bT _ rb s l5 ns5 nv5 e5 2 (ae mn)).mono ?_
       rintro e wz ⟨rfl,hsz,fF⟩
       have HSz:=hide hsz
       have HKz:=hide ((ae nT).trans fF.wide)
       have HBz:=hide (ai fF (ae iA) (by simp;omega))
       clear hsz fF
       go_wp2_with fail
       go_ret
       refine(?_:rM rb cb h0 h1 h2 h3 s ns _ w _ _)
       rw[ae HF]
       exact⟨l5,ns5,nv5,ao,n,cap,none,0,0,rfl,ae HSz,rfl,ae HBz,ae HKz⟩
      ·have HF:=hide (show Za.body l= .inr ((xs,ys),l5)from Za.AE (ae HR) oY (ae sJ))
       have R6:=hide (oz (ae gT) (ae jh) hlt (by omega) (ae ju) ((((aA.refl _ _).set 0 (.slice ao5 n5 cap5)).set 1 (.bool t5)).set 2 (.bool true)))
       have mn:=hide (ae R6).1
       have nT:=hide (ae R6).2
       have iA:=hide (uh (.slice ao5 n5 cap5) (.bool t5) (.bool true) (ae bS) (show cb≠bb by omega))
       go_wp2_with fail
       go_ret
       refine(?_:rM rb cb h0 h1 h2 h3 s ns _ w _ _)
       rw[ae HF]
       have R:=lf (ae mn) (ae nT) hne hn0 (ae iA) ((aA.refl _ _).set 5 (.slice ao5 n5 cap5))
       have KK:=(aQ.oX (ae ju) ((((aA.refl _ _).set 0 (.slice ao5 n5 cap5)).set 1 (.bool t5)).set 2 (.bool true))).trans (aQ.oX (ae iA) ((aA.refl _ _).set 5 (.slice ao5 n5 cap5)))
       exact⟨ns5,nv5,e5,ao,n,cap,ao5,n5,cap5,rfl,⟨(ae Qe).keep KK,(ae Qf).keep KK,ae Qg⟩,R.1,(ug (.slice ao5 n5 cap5) (ae iA)),R.2⟩
   ·have bV:=hide ((ae bp).below ((Below.refl _ _).alloc (Nat.le_refl _) (.cells #[.slice ao n cap,.bool true,.bool true] 82)))
    have cQ:=hide ((ae cO).alloc (.cells #[.slice ao n cap,.bool true,.bool true] 82))
    have aX:=hide (aw (ae aZ) (.cells #[.slice ao n cap,.bool true,.bool true] 82))
    have rJ:=hide (heap_alloc_new w1 (.cells #[.slice ao n cap,.bool true,.bool true] 82))
    have Il:=hide ((ae MV).keep (aQ.alloc _ (.cells #[.slice ao n cap,.bool true,.bool true] 82)))
    go_wp2_with fail
    refine(bl _ rb s l1 ns1 nv1 e1 _ (ae bV)).mono ?_
    rintro e w9 ⟨rfl,hw⟩
    rw[hw]
    simp only[ByteArray.toList_mk]
    clear hw w9
    generalize hbb:w1.heap.size=bb at*
    generalize hw2:w1.alloc (.cells #[.slice ao n cap,.bool true,.bool true] 82)=w2 at*
    clear hbb hw2
    have r2:=ag (ae rJ)
    have hzl:=af (ae rJ)
    have rc:=ag (ae aX)
    have xc:=aq (ae aX)
    have Qa:=af (ae aX)
    cases oY:Za.sees l1 [124]
    ·have HF:=hide (show Za.body l= .inr (([],xs),l1)from Za.wI (ae HR) (by simp[oY]))
     go_wp2_with fail
     go_ret
     refine(?_:rM rb cb h0 h1 h2 h3 s ns _ w _ _)
     rw[ae HF]
     have R:=lf (ae bV) (ae cQ) hne hn0 (ae aX) ((aA.refl _ _).set 5 (.slice ao n cap))
     exact⟨ns1,nv1,e1,none,0,0,ao,n,cap,rfl,⟨bW.none _ _,(ae Il).keep (aQ.oX (ae aX) ((aA.refl cb w2).set 5 (.slice ao n cap))),ae Ea⟩,R.1,(ug (.slice ao n cap) (ae aX)),R.2⟩
    ·have hkj:=hide (show (Za.hd l1).kind≠0 by rw[Za.cK oY];omega)
     go_wp2_with fail
     refine(fJ _ rb s l1 ns1 nv1 e1 (ae bV) (ae hkj)).mono ?_
     rintro e w3 ⟨rfl,hs3,hk3⟩
     have dV:=hide hs3
     have Qb:=hide ((ae Il).keep (aQ.ka (ae bV) hk3))
     have dQ:=hide ((ae cQ).trans hk3.wide)
     have bH:=hide (ai hk3 (ae aX) (by simp;omega))
     have BI:=hide (ai hk3 (ae rJ) (by simp;omega))
     clear hs3 hk3 r2 hzl rc xc Qa
     have r3:=ag (ae BI)
     have hz3:=af (ae BI)
     have rc3:=ag (ae bH)
     have xc3:=aq (ae bH)
     have hc3:=af (ae bH)
     have R4:=hide (lf (ae dV) (ae dQ) hne hn0 (ae bH) ((aA.refl _ _).set 4 (.slice ao n cap)))
     have cR:=hide (MU (.slice ao n cap) (ae bH))
     have Qc:=hide ((ae Qb).keep (aQ.oX (ae bH) ((aA.refl cb w3).set 4 (.slice ao n cap))))
     have Im:=hide (aB (ae BI) (show bb≠cb by omega) 4 (.slice ao n cap))
     go_wp2_with fail
     clear r3 hz3 rc3 xc3 hc3
     generalize w3.setCell ⟨cb,4,none⟩ (.slice ao n cap)=w4 at*
     have J:=hide (pP w4 rb s l1.tail ns1 nv1 e1 false true (ae R4).1)
     generalize hr2:Za.items 5 false true l1.tail=r2 at J
     have sJ:=hide hr2
     clear hr2
     refine(ae J).mono ?_
     rcases r2 with⟨er,pos⟩ | ⟨⟨ys,t5,g5⟩,l5⟩
     ·have HF:=hide (show Za.body l= .inl (er,pos)from Za.rT (ae HR) oY (ae sJ))
      rintro e w5 ⟨l',ns',nv',rfl,hs5,hpos,bQ⟩
      have HP:=hide hpos
      clear hpos
      have gT:=hide hs5
      have jh:=hide ((ae R4).2.trans bQ.wide)
      have bS:=hide (ai bQ (ae cR) (by simp;omega))
      have ju:=hide (ai bQ (ae Im) (by simp;omega))
      have r5:=ag (ae ju)
      have x5:=aq (ae ju)
      have Qd:=af (ae ju)
      have rc5:=ag (ae bS)
      have xc5:=aq (ae bS)
      have xe:=af (ae bS)
      clear hs5 bQ
      have R6:=hide (oz (ae gT) (ae jh) hlt (by omega) (ae ju) ((((aA.refl _ _).set 0 (.slice none 0 0)).set 1 (.bool false)).set 2 (.bool false)))
      have mn:=hide (ae R6).1
      have nT:=hide (ae R6).2
      have iA:=hide (uh (.slice none 0 0) (.bool false) (.bool false) (ae bS) (show cb≠bb by omega))
      go_wp2_with fail
      go_ret
      refine(?_:rM rb cb h0 h1 h2 h3 s ns _ w _ _)
      rw[ae HF]
      have R:=lf (ae mn) (ae nT) hne hn0 (ae iA) ((aA.refl _ _).set 5 (.slice none 0 0))
      exact⟨l',ns',nv',ao,n,cap,none,0,0,rfl,R.1,ae HP,ug (.slice none 0 0) (ae iA),R.2⟩
     ·rintro e w5 ⟨ao5,n5,cap5,ns5,nv5,e5,rfl,⟨hi5,zi⟩,hs5,bQ⟩
      have Qe:=hide (bW.behind ((ae Qc).keep (aQ.ka (ae R4).1 bQ)) hi5 zi)
      have Qf:=hide hi5
      have Qg:Hid (aR ns5=Za.ay (Za.ay (aR ns) xs) ys):=hide (by rw[zi,ae Ea])
      clear hi5 zi
      have gT:=hide hs5
      have jh:=hide ((ae R4).2.trans bQ.wide)
      have bS:=hide (ai bQ (ae cR) (by simp;omega))
      have ju:=hide (ai bQ (ae Im) (by simp;omega))
      have r5:=ag (ae ju)
      have x5:=aq (ae ju)
      have Qd:=af (ae ju)
      have rc5:=ag (ae bS)
      have xc5:=aq (ae bS)
      have xe:=af (ae bS)
      clear hs5 bQ
      cases g5
      ·have HF:=hide (show Za.body l= .inl (2,(Za.hd l5).pos)from Za.uF (ae HR) oY (ae sJ))
       have R6:=hide (oz (ae gT) (ae jh) hlt (by omega) (ae ju) ((((aA.refl _ _).set 0 (.slice ao5 n5 cap5)).set 1 (.bool t5)).set 2 (.bool false)))
       have mn:=hide (ae R6).1
       have nT:=hide (ae R6).2
       have iA:=hide (uh (.slice ao5 n5 cap5) (.bool t5) (.bool false) (ae bS) (show cb≠bb by omega))
       go_wp2_with fail
       refine(bT _ rb s l5 ns5 nv5 e5 2 (ae mn)).mono ?_
       rintro e wz ⟨rfl,hsz,fF⟩
       have HSz:=hide hsz
       have HKz:=hide ((ae nT).trans fF.wide)
       have HBz:=hide (ai fF (ae iA) (by simp;omega))
       clear hsz fF
       go_wp2_with fail
       go_ret
       refine(?_:rM rb cb h0 h1 h2 h3 s ns _ w _ _)
       rw[ae HF]
       exact⟨l5,ns5,nv5,ao,n,cap,none,0,0,rfl,ae HSz,rfl,ae HBz,ae HKz⟩
      ·have HF:=hide (show Za.body l= .inr ((xs,ys),l5)from Za.AE (ae HR) oY (ae sJ))
       have R6:=hide (oz (ae gT) (ae jh) hlt (by omega) (ae ju) ((((aA.refl _ _).set 0 (.slice ao5 n5 cap5)).set 1 (.bool t5)).set 2 (.bool true)))
       have mn:=hide (ae R6).1
       have nT:=hide (ae R6).2
       have iA:=hide (uh (.slice ao5 n5 cap5) (.bool t5) (.bool true) (ae bS) (show cb≠bb by omega))
       go_wp2_with fail
       go_ret
       refine(?_:rM rb cb h0 h1 h2 h3 s ns _ w _ _)
       rw[ae HF]
       have R:=lf (ae mn) (ae nT) hne hn0 (ae iA) ((aA.refl _ _).set 5 (.slice ao5 n5 cap5))
       have KK:=(aQ.oX (ae ju) ((((aA.refl _ _).set 0 (.slice ao5 n5 cap5)).set 1 (.bool t5)).set 2 (.bool true))).trans (aQ.oX (ae iA) ((aA.refl _ _).set 5 (.slice ao5 n5 cap5)))
       exact⟨ns5,nv5,e5,ao,n,cap,ao5,n5,cap5,rfl,⟨(ae Qe).keep KK,(ae Qf).keep KK,ae Qg⟩,R.1,(ug (.slice ao5 n5 cap5) (ae iA)),R.2⟩
end Go.Proofs.YthfjnfcekeknlaaGreatDoor
