import Derived.Test.YthfjnfcekeknlabGreatDoorGu14
import Derived.Test.YthfjnfcekeknlabGreatDoorGu15
import Derived.Test.YthfjnfcekeknlabGreatDoorGu16
import Derived.Test.YthfjnfcekeknlabGreatDoorGu18
import Derived.Deep.LoopGhost
set_option maxHeartbeats 8000000
set_option maxRecDepth 100000
namespace Go.Proofs.YthfjnfcekeknlabGreatDoor
open Go.RowKit
theorem FW (f:Nat) (l:List Zf.Tok) (t:Zf.Tm) (l1:List Zf.Tok) (h:Zf.term f l= .inr (t,l1)):t.kind=2∨t.kind=3∨t.kind=4:=by
 cases f with
 | zero=>
  rw[Zf.term]at h
  by_cases hb:Zf.begins (Zf.hd l)=true
  ·rw[if_pos hb]at h;cases h
  ·rw[if_neg hb]at h;cases h
 | succ f=>
  rw[Zf.term]at h
  by_cases hb:Zf.begins (Zf.hd l)=true
  ·rw[if_pos hb]at h
   have hk:(Zf.hd l).kind=2∨(Zf.hd l).kind=3∨(Zf.hd l).kind=4:=by simpa [Zf.begins,or_assoc] using hb
   by_cases hl:(Zf.hd l).kind=4∧6<(Zf.hd l).text.size
   ·rw[if_pos hl]at h;cases h
   ·rw[if_neg hl]at h
    by_cases h2:(Zf.hd l).kind=2
    ·rw[if_pos h2]at h
     by_cases hs:Zf.sees l.tail [40]=true
     ·rw[if_pos hs]at h
      rcases hq:Zf.bN (Zf.term f) 2 l.tail.tail with x | ⟨us,l2⟩
      ·rw[hq]at h;cases h
      ·rw[hq]at h;injection h with h;injection h with h _;subst h;exact Or.inl rfl
     ·rw[if_neg hs]at h;injection h with h;injection h with h _;subst h;exact Or.inl rfl
    ·rw[if_neg h2]at h;injection h with h;injection h with h _;subst h;exact hk
  ·rw[if_neg hb]at h;cases h
theorem Lm (w:World) (rb lb:Nat) (s:ByteArray) (l:List Zf.Tok) (ns:List ByteArray) (nv iv:Value) (e0:Int) (tests goals:Bool) (h:St w rb s l ns nv e0) (hb:w.heap[lb]?=some (.cells #[iv,.bool tests,.bool goals] 80 (0,0))) (hne:lb≠rb) (hn0:lb≠0):
 Calls Tryz.prog 66 #[.pointer (some ⟨rb,0,none⟩),.pointer (some ⟨lb,0,none⟩)] w fun e w'=>nE rb lb iv s ns (Zf.item tests goals l) w e w':=by
 rcases hT:Zf.term 8 l with⟨er,ps⟩ | ⟨t,l1⟩
 ·rw[show Zf.item tests goals l= .inl (er,ps)by unfold Zf.item;rw[hT]]
  exact K7 w rb lb s l ns nv iv e0 tests goals h hb hne hn0 er ps hT
 ·have hk:=FW 8 l t l1 hT
  cases aV:Zf.bH l1
  ·cases heq:Zf.sees l1 [61]
   ·by_cases h3:t.kind=3∧Zf.sees l1 [58,61]=true
    ·obtain⟨h3,has⟩:=h3
     rcases hR:Zf.assignment t goals l1 with⟨er,ps⟩ | ⟨x,l2⟩
     ·rw[show Zf.item tests goals l= .inl (er,ps)by unfold Zf.item;rw[hT];simp only[aV,heq,h3,has,hR];rfl]
      exact DF w rb lb s l ns nv iv e0 tests goals h hb hne hn0 t l1 hT h3 aV heq has er ps hR
     ·rw[show Zf.item tests goals l= .inr ((x,false,goals),l2)by unfold Zf.item;rw[hT];simp only[aV,heq,h3,has,hR];rfl]
      exact Cb w rb lb s l ns nv iv e0 tests goals h hb hne hn0 t l1 hT h3 aV heq has x l2 hR
    ·have hI:Zf.item tests goals l=if t.kind=2∧((tests&&Zf.isInt t)||goals)=true then .inr ((⟨t,[],none,[],none⟩,tests&&Zf.isInt t,goals),l1)else Zf.bad 2 l1:=by
      unfold Zf.item;rw[hT];simp only[aV,heq];rw[if_neg h3];rfl
     have hn:t.kind≠2→Zf.isInt t=false:=fun q=>by simp[Zf.isInt,q]
     rw[hI]
     rcases hk with hk | hk | hk
     ·cases tests
      ·cases goals
       ·rw[if_neg (by simp)]
        exact uT w rb lb s l ns nv iv e0 h hb hne hn0 t l1 hk hT aV heq
       ·rw[if_pos (by simp[hk])]
        exact uS w rb lb s l ns nv iv e0 h hb hne hn0 t l1 hk hT aV heq
      ·cases hi:Zf.isInt t
       ·cases goals
        ·rw[if_neg (by simp)]
         exact vT w rb lb s l ns nv iv e0 h hb hne hn0 t l1 hk hi hT aV heq
        ·rw[if_pos (by simp[hk])]
         exact vS w rb lb s l ns nv iv e0 h hb hne hn0 t l1 hk hi hT aV heq
       ·rw[if_pos (by simp[hk])]
        exact vU w rb lb s l ns nv iv e0 goals h hb hne hn0 t l1 hk hi hT aV heq
     ·have has:Zf.sees l1 [58,61]=false:=by simpa [hk] using h3
      rw[if_neg (by omega)]
      cases tests
      ·exact uR w rb lb s l ns nv iv e0 goals h hb hne hn0 t l1 hk hT aV heq has
      ·exact vV w rb lb s l ns nv iv e0 goals h hb hne hn0 t l1 hk (hn (by omega)) hT aV heq has
     ·rw[if_neg (by omega)]
      cases tests
      ·exact uU w rb lb s l ns nv iv e0 goals h hb hne hn0 t l1 hk hT aV heq
      ·exact vW w rb lb s l ns nv iv e0 goals h hb hne hn0 t l1 hk (hn (by omega)) hT aV heq
   ·rcases hR:Zf.sides t goals l1 with⟨er,ps⟩ | ⟨x,l2⟩
    ·rw[show Zf.item tests goals l= .inl (er,ps)by unfold Zf.item;rw[hT];simp only[aV,heq,hR];rfl]
     exact FU w rb lb s l ns nv iv e0 tests goals h hb hne hn0 t l1 hT aV heq er ps hR
    ·rw[show Zf.item tests goals l= .inr ((x,false,goals),l2)by unfold Zf.item;rw[hT];simp only[aV,heq,hR];rfl]
     exact DC w rb lb s l ns nv iv e0 tests goals h hb hne hn0 t l1 hT aV heq x l2 hR
  ·rcases hR:Zf.sides t tests l1 with⟨er,ps⟩ | ⟨x,l2⟩
   ·rw[show Zf.item tests goals l= .inl (er,ps)by unfold Zf.item;rw[hT];simp only[aV,hR];rfl]
    exact BX w rb lb s l ns nv iv e0 tests goals h hb hne hn0 t l1 hT aV er ps hR
   ·rw[show Zf.item tests goals l= .inr ((x,tests,false),l2)by unfold Zf.item;rw[hT];simp only[aV,hR];rfl]
    exact Am w rb lb s l ns nv iv e0 tests goals h hb hne hn0 t l1 hT aV x l2 hR
end Go.Proofs.YthfjnfcekeknlabGreatDoor
namespace Zf
theorem FX {k:Nat} {t g:Bool} {l:List Tok} {e:Nat×Nat} (h:item t g l= .inl e):items k t g l= .inl e:=by
 unfold items;rw[h]
theorem FY {k:Nat} {t g t1 g1:Bool} {l l1:List Tok} {x:aD} (h:item t g l= .inr ((x,t1,g1),l1)) (hc:sees l1 [44]=false):items k t g l= .inr (([x],t1,g1),l1):=by
 unfold items;rw[h];simp[hc]
theorem DG {t g t1 g1:Bool} {l l1:List Tok} {x:aD} (h:item t g l= .inr ((x,t1,g1),l1)) (hc:sees l1 [44]=true):items 0 t g l=bad 3 l1:=by
 unfold items;rw[h];simp[hc]
theorem DI {k:Nat} {t g t1 g1:Bool} {l l1:List Tok} {x:aD} (h:item t g l= .inr ((x,t1,g1),l1)) (hc:sees l1 [44]=true):items (k+1) t g l=su [x] (items k t1 g1 l1.tail):=by
 rw[items,h]
 simp only[hc,if_true]
 rcases items k t1 g1 l1.tail with e | ⟨⟨us,t,g⟩,l2⟩<;>rfl
end Zf
namespace Go.Proofs.YthfjnfcekeknlabGreatDoor
open Go.RowKit
theorem Tryz.info125:(Tryz.prog.info? 125).map (fun i=>(i.zero,i.size,i.bytes))=some (some (.agg #[.int .i64 0,.int .i64 0,.string ⟨#[]⟩,.slice none 0 0,.string ⟨#[]⟩,.int .i64 0,.int .i64 0,.string ⟨#[]⟩,.slice none 0 0,.string ⟨#[]⟩,.int .i64 0,.int .i64 0,.string ⟨#[]⟩,.slice none 0 0]),14,200):=by kernel_rfl
structure JV where
 a:TV
 b:TV
 c:TV
 sg:ByteArray
 op:ByteArray
def n7 (v:JV):List Value:=[.int .i64 v.a.k,.int .i64 v.a.val,.string v.a.tx,.slice v.a.ao v.a.n v.a.cap,.string v.sg,.int .i64 v.b.k,.int .i64 v.b.val,.string v.b.tx,.slice v.b.ao v.b.n v.b.cap,.string v.op,.int .i64 v.c.k,.int .i64 v.c.val,.string v.c.tx,.slice v.c.ao v.c.n v.c.cap]
theorem FZ (vs:List JV):(vs.flatMap n7).length=vs.length*14:=by
 induction vs with
 | nil=>rfl
 | cons a r ih=>rw[List.flatMap_cons,List.length_append,ih];simp[n7];omega
structure kO (N:List (List UInt8)) (w:World) (v:JV) (x:Zf.aD):Prop where
 left:RA 8 N anyA w v.a x.left
 sign:v.sg.toList=x.sign
 right:∀r,x.right=some r→RA 8 N anyA w v.b r
 op:v.op.toList=x.op
 last:∀z,x.last=some z→RA 8 N anyA w v.c z
theorem kO.keep {N:List (List UInt8)} {w w':World} {v:JV} {x:Zf.aD} (h:kO N w v x) (hk:aK w w'):kO N w' v x:=⟨hk.ra h.left,h.sign,fun r q=>hk.ra (h.right r q),h.op,fun r q=>hk.ra (h.last r q)⟩
theorem kO.more {N:List (List UInt8)} {w:World} {v:JV} {x:Zf.aD} (h:kO N w v x) (M:List (List UInt8)):kO (N++M) w v x:=⟨h.left.more M,h.sign,fun r q=>(h.right r q).more M,h.op,fun r q=>(h.last r q).more M⟩
theorem kO.ok {N:List (List UInt8)} {w:World} {v:JV} {x:Zf.aD} (h:kO N w v x):Zf.Hr x:=⟨h.left.ny,fun r q=>(h.right r q).ny,fun z q=>(h.last z q).ny⟩
theorem o7.r {ns ns':List ByteArray} {w':World} {a b c:TV} {sg op:ByteArray} {x:Zf.aD} (h:o7 ns ns' w' a b c sg op x):kO (aR ns') w' ⟨a,b,c,sg,op⟩ x:=⟨h.left,h.sign,h.right,h.op,h.last⟩
def tE (ns0 ns:List ByteArray) (w:World) (xs:List Value) (ys:List Zf.aD):Prop:=(∃vs:List JV,xs=vs.flatMap n7∧bR (kO (aR ns) w) vs ys)∧aR ns=Zf.ay (aR ns0) ys
theorem tE.keep {ns0 ns:List ByteArray} {w w':World} {xs:List Value} {ys:List Zf.aD} (h:tE ns0 ns w xs ys) (hk:aK w w'):tE ns0 ns w' xs ys:=by
 obtain⟨⟨vs,rfl,ha⟩,hn⟩:=h
 exact⟨⟨vs,rfl,ha.imp fun _ _ q=>q.keep hk⟩,hn⟩
theorem tE.snoc {ns0 ns ns':List ByteArray} {w:World} {xs:List Value} {ys:List Zf.aD} {a b c:TV} {sg op:ByteArray} {x:Zf.aD} (h:tE ns0 ns w xs ys) (q:o7 ns ns' w a b c sg op x):tE ns0 ns' w (xs++n7 ⟨a,b,c,sg,op⟩) (ys++[x]):=by
 obtain⟨⟨vs,rfl,ha⟩,hn⟩:=h
 obtain⟨M,hM,_⟩:=Zf.xe x q.r.ok (aR ns)
 have he:aR ns'=aR ns++M:=q.nms.trans hM
 refine⟨⟨vs++[⟨a,b,c,sg,op⟩],by simp,bR.snoc q.r ?_⟩,?_⟩
 ·rw[he];exact ha.imp fun _ _ r=>r.more M
 ·unfold Zf.ay
  rw[List.foldl_append,q.nms,hn]
  rfl
def cD (N:List (List UInt8)) (w:World) (o:Option Addr) (n:Nat) (ys:List Zf.aD):Prop:=n=ys.length∧(ys≠[]→∃(g:Nat) (vs:List JV) (cs:Array Value),o=some ⟨g,0,none⟩∧w.heap[g]?=some (.cells cs 125 (0,0))∧cs.toList.take (vs.length*14)=vs.flatMap n7∧bR (kO N w) vs ys)
theorem cD.Cc {ns0 ns:List ByteArray} {w:World} {b0 g n cap:Nat} {xs:List Value} {ys:List Zf.aD} (h:tE ns0 ns w xs ys) (ho:w.ownsRow b0 125 14 (.slice (some ⟨g,0,none⟩) n cap) n xs):cD (aR ns) w (some ⟨g,0,none⟩) n ys:=by
 obtain⟨⟨vs,rfl,ha⟩,_⟩:=h
 have hl:=ho.1
 rw[FZ]at hl
 have hl':=ha.length
 rcases ho.2 with⟨q,_⟩ | ⟨g',cap',cur,q,_,hc,_,_,_,ht⟩
 ·cases q
 ·simp only[Value.slice.injEq,Option.some.injEq,Addr.mk.injEq,and_true,true_and]at q
  obtain⟨rfl,rfl⟩:=q
  exact⟨by omega,fun _=>⟨g,vs,cur,rfl,hc,by rw[show vs.length=n by omega];exact ht,ha⟩⟩
def VW (rb:Nat) (s:ByteArray) (ns:List ByteArray) (r:Zf.dP (List Zf.aD×Bool×Bool)) (w:World) (e:Ending) (w':World):Prop:=match r with
 | .inl (er,pos)=>∃(l':List Zf.Tok) (ns':List ByteArray) (nv':Value),e= .returned (.tuple #[.agg #[.slice none 0 0,.bool false,.bool false],.bool false])∧St w' rb s l' ns' nv' (er:Int)∧(Zf.hd l').pos=pos∧KA rb [rb] w w'
 | .inr ((ys,t1,g1),l1)=>∃(ao:Option Addr) (n cap:Nat) (ns':List ByteArray) (nv':Value) (e':Int),e= .returned (.tuple #[.agg #[.slice ao n cap,.bool t1,.bool g1],.bool true])∧(cD (aR ns') w' ao n ys∧aR ns'=Zf.ay (aR ns) ys)∧St w' rb s l1 ns' nv' e'∧KA rb [rb] w w'
def LA (w:World) (rb:Nat) (s:ByteArray) (T G:Bool) (l0:List Zf.Tok) (ns0:List ByteArray) (k:Nat) (wr:World):Prop:=
 ∃(n:Nat) (xs:List Value) (iv:Value) (t g:Bool) (l:List Zf.Tok) (ns:List ByteArray) (nv:Value) (e:Int),St wr rb s l ns nv e∧KA rb [rb] w wr∧
  wr.heap[w.heap.size]?=some (.cells #[iv,.bool t,.bool g] 80 (0,0))∧
  wr.heap[w.heap.size+1]?=some (.cells #[.slice none 0 0,.bool false,.bool false] 80 (0,0))∧
  wr.ownsRow (w.heap.size+2) 125 14 iv n xs∧n≤5∧k+n=6∧∃ys:List Zf.aD,Zf.items 5 T G l0=Zf.su ys (Zf.items (5 - n) t g l)∧tE ns0 ns wr xs ys
theorem aK.QB {w w':World} {rb lb:Nat} {s:ByteArray} {l:List Zf.Tok} {ns:List ByteArray} {nv:Value} {e:Int} {C:Array Value} (hs:St w rb s l ns nv e) (hb:w.heap[lb]?=some (.cells C 80 (0,0))) (hk:KA rb [rb,lb] w w'):aK w w':=fun g cs hg hi=>(hk.block g (Array.getElem?_eq_some_iff.1 hg).1 (fun q=>by
 rcases List.mem_cons.1 q with rfl | q
 ·obtain⟨k,r,hc⟩:=hi
  have:=hs.rd.c0
  simp[World.cell?,hg]at this
  rw[←Array.getElem?_toList,hc]at this
  simp at this
 ·obtain rfl:g=lb:=by simpa using q
  rw[hb]at hg
  simp at hg) (Or.inr (by unfold aM;rw[hg];simp))).trans hg
theorem Ja {w5 w7:World} {lb b0 n:Nat} {av v':Value} {xs:List Value} {X A:Obj} {C:Array Value} (hb0:w7.heap[lb]?=some (.cells C 80 (0,0))) (ho:w5.ownsRow b0 125 14 av n xs) (hg:((w5.alloc X).alloc A).grownBy w7 av.ownBlock):aK w5 (w7.setCell ⟨lb,0,none⟩ v'):=
 (((aK.alloc w5 X).trans (aK.alloc _ A)).trans (aK.grown ((ho.alloc X).alloc A) hg)).trans (aK.only ((aB.refl lb w7).set 0 v') (by unfold aM;rw[hb0];simp))
theorem O7 {rb lb b0:Nat} {w w1:World} {T:TypeId} {sz:Nat} {v:Value} {n:Nat} {xs:List Value} (h:w.ownsRow b0 T sz v n xs) (hk:KA rb [rb,lb] w w1) (hb:rb<b0) (hl:lb<b0) (hT:T≠9):w1.ownsRow b0 T sz v n xs:=
 ⟨h.1,h.2.imp id fun⟨g,cap,cur,a,b,c,d⟩=>⟨g,cap,cur,a,b,(hk.block g (Array.getElem?_eq_some_iff.1 c).1 (by simp;omega) (Or.inr (by unfold aM;rw[c];simpa using hT))).trans c,d⟩⟩
theorem Lp {b0 b1:Nat} {w:World} {T:TypeId} {sz:Nat} {v:Value} {n:Nat} {xs:List Value} (h:w.ownsRow b0 T sz v n xs) (hb:b1≤b0):w.ownsRow b1 T sz v n xs:=
 ⟨h.1,h.2.imp id fun⟨g,cap,cur,a,b,c,d⟩=>⟨g,cap,cur,a,Nat.le_trans hb b,c,d⟩⟩
theorem F4 (W:World) (n:Nat) (A:Array Value) (T:TypeId) (xs:List Value) (hn:n=W.heap.size) (hx:A.toList=xs):∀j u,xs[j]?=some u→(W.alloc (.cells A T)).cell? ((⟨n,0,none⟩:Addr).add j)=some u:=by
 subst hn hx
 intro j u hj
 have:=ah (heap_alloc_new W (.cells A T)) j
 rw[show (⟨W.heap.size,0,none⟩:Addr).add j=⟨W.heap.size,j,none⟩by cases j<;>simp[Addr.add],this]
 simpa using hj
theorem QC (a b c:TV) (op sg:ByteArray):∀u∈([.int .i64 a.k,.int .i64 a.val,.string a.tx,.slice a.ao a.n a.cap,.string sg,.int .i64 b.k,.int .i64 b.val,.string b.tx,.slice b.ao b.n b.cap,.string op,.int .i64 c.k,.int .i64 c.val,.string c.tx,.slice c.ao c.n c.cap]:List Value),u.oneCell'=true:=by
 simp[Value.oneCell']
theorem TH {w:World} {b:Nat} {T:TypeId} {c0 c1 c2:Value} (v:Value) (h:w.heap[b]?=some (.cells #[c0,c1,c2] T (0,0))):
 (w.setCell ⟨b,0,none⟩ v).heap[b]?=some (.cells #[v,c1,c2] T (0,0)):=by
 have:=aw h 0 v
 simpa using this
theorem O9 {w w5 w7:World} {rb:Nat} {s:ByteArray} {l:List Zf.Tok} {ns:List ByteArray} {nv:Value} {e:Int} {n:Nat} {av v':Value} {xs xs':List Value} {X A:Obj} {t g:Value} {C1:Array Value}
 (hS:St w5 rb s l ns nv e) (hK:KA rb [rb] w w5) (hr:rb<w.heap.size)
 (hb0:w5.heap[w.heap.size]?=some (.cells #[av,t,g] 80 (0,0))) (hb1:w5.heap[w.heap.size+1]?=some (.cells C1 80 (0,0)))
 (ho:w5.ownsRow (w.heap.size+2) 125 14 av n xs)
 (hg:((w5.alloc X).alloc A).grownBy w7 av.ownBlock) (ho':w7.ownsRow (w.heap.size+2) 125 14 v' (n+1) xs'):
 St (w7.setCell ⟨w.heap.size,0,none⟩ v') rb s l ns nv e∧KA rb [rb] w (w7.setCell ⟨w.heap.size,0,none⟩ v')∧
 (w7.setCell ⟨w.heap.size,0,none⟩ v').heap[w.heap.size]?=some (.cells #[v',t,g] 80 (0,0))∧(w7.setCell ⟨w.heap.size,0,none⟩ v').heap[w.heap.size+1]?=some (.cells C1 80 (0,0))∧
 (w7.setCell ⟨w.heap.size,0,none⟩ v').ownsRow (w.heap.size+2) 125 14 v' (n+1) xs'∧
 w7.heap[w.heap.size]?=some (.cells #[av,t,g] 80 (0,0)):=by
 have jE:w.heap.size+1<w5.heap.size:=af hb1
 obtain⟨h7,k7⟩:=zh hS hK (Lp ho (by omega)) hr hg
 have hB:Below (w.heap.size+2) w5 w7:=(((Below.refl _ _).alloc (by omega) X).alloc (by simp;omega) A).grown hg (by simp;omega) (fun k q=>(ho.lt k q).1)
 have q0:=(hB.block w.heap.size (by omega)).trans hb0
 have q1:=(hB.block (w.heap.size+1) (by omega)).trans hb1
 obtain⟨h8,k8⟩:=bW h7 k7 hr (Nat.le_refl _) q0 ((aB.refl _ _).set 0 v')
 exact⟨h8,k8,TH v' q0,aF q1 (by omega) 0 v',ownsRow_setCell_below ho' (by show w.heap.size<w.heap.size+2;omega) v',q0⟩
theorem pV (w:World) (rb:Nat) (s:ByteArray) (l:List Zf.Tok) (ns:List ByteArray) (nv:Value) (e0:Int) (tests goals:Bool) (h:St w rb s l ns nv e0):
 Calls Tryz.prog 32 #[.pointer (some ⟨rb,0,none⟩),.agg #[.slice none 0 0,.bool tests,.bool goals]] w fun e w'=>VW rb s ns (Zf.items 5 tests goals l) w e w':=by
 have hlt:=h.lt
 obtain⟨ti,hi,hz0',Lq,FR⟩:=info_parts Tryz.info125
 have HL:=hide (show LA w rb s tests goals l ns 6 ((w.alloc (.cells #[.slice none 0 0,.bool tests,.bool goals] 80)).alloc (.cells #[.slice none 0 0,.bool false,.bool false] 80))from
  ⟨0,[],.slice none 0 0,tests,goals,l,ns,nv,e0,h.below (((Below.refl _ _).alloc (Nat.le_refl _) _).alloc (by simp) _),((KA.refl rb [rb] w).alloc _).alloc _,aA (heap_alloc_new w _) _,by have:=heap_alloc_new (w.alloc (.cells #[.slice none 0 0,.bool tests,.bool goals] 80)) (.cells #[.slice none 0 0,.bool false,.bool false] 80);rw[World.size_alloc]at this;exact this,World.ownsRow_nil _ _ _ _,by omega,by omega,[],(Zf.Kl _).symm,⟨[],rfl,trivial⟩,rfl⟩)
 clear h
 go_enter Tryz.func32,Tryz.ntmps32
 go_wp2_with fail
 go_loopg [] 6 (fun k wr=>LA w rb s tests goals l ns k wr)
 case atStart=>exact ae HL
 case round=>
  clear HL
  obtain⟨n,xs,iv,t,g,l1,ns1,nv1,e1,hs,hk,hb0,hb1,ho,zG,hkn,ys,htot,hrow⟩:=hrel
  have lj:=hide hrow
  have zH:=hide hs
  clear hrow
  have I:=hide (Lm wr rb w.heap.size s l1 ns1 nv1 iv e1 t g hs hb0 (by omega) (by omega))
  have HK:=hide hk
  have aS:=hide hb0
  have bC:=hide hb1
  have HO:=hide ho
  have tG:=hide htot
  have nI:=hs.lt
  clear hs hk hb0 hb1 ho htot
  generalize hr:Zf.item t g l1=r at I
  have HR:=hide hr
  clear hr
  rcases r with⟨er,pos⟩ | ⟨⟨x,t1,g1⟩,l2⟩
  ·have HF:=hide (show Zf.items 5 tests goals l= .inl (er,pos)by rw[ae tG,Zf.FX (ae HR)];rfl)
   go_wp2_with fail
   refine(ae I).mono ?_
   rintro e w5 ⟨a,b,c,sg,op,l',ns',nv',rfl,hs5,hpos,bY⟩
   have ik:=hide hs5
   have HP:=hide hpos
   have jx:=hide ((((ae HK).mono (Y:=[rb,w.heap.size]) (by simp)).trans bY).forget (X:=[rb]) (by simp))
   have tH:=hide (aj bY (ae bC) (by simp;omega))
   have r1:=ah (ae tH)
   have x1:=au (ae tH)
   have hz1:=af (ae tH)
   clear hs5 hpos bY
   go_wp2_with fail
   refine bodyPost_ret (v:= .tuple #[.agg #[.slice none 0 0,.bool false,.bool false],.bool false]) (by simp[results,Tryz.results32,go_sem,hz1,r1]) rfl ?_
   rw[ae HF]
   have R:=bW (ae ik) (ae jx) hlt (by omega) (ae tH) ((((aB.refl _ _).set 0 (.slice none 0 0)).set 1 (.bool false)).set 2 (.bool false))
   exact⟨l',ns',nv',rfl,R.1.below ((Below.refl _ _).alloc (Nat.le_refl _) _),ae HP,R.2.alloc _⟩
  ·go_wp2_with fail
   refine(ae I).mono ?_
   rintro e w5 ⟨a,b,c,sg,op,ns2,nv2,e2,rfl,hit,hs5,QD,bY⟩
   have AK:=hide (((ae lj).keep (aK.QB (ae zH) (ae aS) bY)).snoc hit)
   clear hit
   have ik:=hide hs5
   have jx:=hide ((((ae HK).mono (Y:=[rb,w.heap.size]) (by simp)).trans bY).forget (X:=[rb]) (by simp))
   have kD:=hide QD
   have tH:=hide (aj bY (ae bC) (by simp;omega))
   have Ce:=hide (O7 (ae HO) bY (by omega) (by omega) (by decide))
   have r0:=ah (ae kD)
   have hz0:=af (ae kD)
   have hz1:=af (ae tH)
   clear hs5 QD bY HK aS bC HO lj zH
   go_wp2_with (first | (at_builtin;go_must (refine wpList_append_own _ rfl (.tmp 17) (.tmp 19) 54 rfl (w.heap.size+2) 125 ti (.agg #[.int .i64 0,.int .i64 0,.string ⟨#[]⟩,.slice none 0 0,.string ⟨#[]⟩,.int .i64 0,.int .i64 0,.string ⟨#[]⟩,.slice none 0 0,.string ⟨#[]⟩,.int .i64 0,.int .i64 0,.string ⟨#[]⟩,.slice none 0 0]) 14 200 Tryz.underlying54 hi hz0' Lq FR rfl (by decide) _ n xs rfl (((ae Ce).alloc _).alloc _) ⟨w5.heap.size+1,0,none⟩ 1 1 [.int .i64 a.k,.int .i64 a.val,.string a.tx,.slice a.ao a.n a.cap,.string sg,.int .i64 b.k,.int .i64 b.val,.string b.tx,.slice b.ao b.n b.cap,.string op,.int .i64 c.k,.int .i64 c.val,.string c.tx,.slice c.ao c.n c.cap] rfl rfl (F4 _ _ _ _ _ (by simp) rfl) (QC a b c op sg) (by unfold maxLen;omega) (by omega) (by simp;omega) ?_);go_must (intro v' w7 hown' hgrow _;obtain⟨g',cap',hv,hcm⟩:=ft hown';have mJ:=hide (O9 (ae ik) (ae jx) hlt (ae kD) (ae tH) (ae Ce) hgrow hown');have Lr:=hide (Ja (v':=v') (ae mJ).2.2.2.2.2 (ae Ce) hgrow);have z:=ah (ae mJ).2.2.2.2.2;have zx:=au (ae mJ).2.2.2.2.2;have zz:=af (ae mJ).2.2.2.2.2;rw[hv]at mJ Lr⊢;clear hown' hgrow hv)))
   have F5:=hide ((ae AK).keep (ae Lr))
   have Nu:=hide (ae mJ).1
   have QE:=hide (ae mJ).2.1
   have QF:=hide (ae mJ).2.2.1
   have Ep:=hide (ae mJ).2.2.2.1
   have mH:=hide (ae mJ).2.2.2.2.1
   clear mJ Lr AK z zx zz r0 hz0 hz1 ik jx kD tH Ce
   generalize w7.setCell ⟨w.heap.size,0,none⟩ (.slice (some ⟨g',0,none⟩) (n+1) cap')=w8 at*
   refine(bD _ rb s l2 ns2 nv2 e2 _ (ae Nu)).mono ?_
   rintro e w9 ⟨rfl,hw⟩
   rw[hw]
   simp only[ByteArray.toList_mk]
   clear hw w9
   have y0:=ah (ae QF)
   have y1:=ah (ae Ep)
   have y1x:=au (ae Ep)
   have hv0:=af (ae QF)
   have hv1:=af (ae Ep)
   cases hc:Zf.sees l2 [44]
   ·have HF:=hide (show Zf.items 5 tests goals l= .inr ((ys++[x],t1,g1),l2)by rw[ae tG,Zf.FY (ae HR) hc];rfl)
    go_wp2_with fail
    refine bodyPost_ret (v:= .tuple #[.agg #[.slice (some ⟨g',0,none⟩) (n+1) cap',.bool t1,.bool g1],.bool true]) (by simp[results,Tryz.results32,go_sem,y1]) rfl ?_
    rw[ae HF]
    have RP:=zi (ae Nu) (ae QE) hlt (by omega) (ae Ep) ((((aB.refl _ _).set 0 (.slice (some ⟨g',0,none⟩) (n+1) cap')).set 1 (.bool t1)).set 2 (.bool g1))
    have R:=RP.1
    have HOf:=ownsRow_setCell_below (a:=⟨w.heap.size+1,2,none⟩) (ownsRow_setCell_below (a:=⟨w.heap.size+1,1,none⟩) (ownsRow_setCell_below (a:=⟨w.heap.size+1,0,none⟩) (ae mH) (by show w.heap.size+1<w.heap.size+2;omega) (.slice (some ⟨g',0,none⟩) (n+1) cap')) (by show w.heap.size+1<w.heap.size+2;omega) (.bool t1)) (by show w.heap.size+1<w.heap.size+2;omega) (.bool g1)
    exact⟨some ⟨g',0,none⟩,n+1,cap',ns2,nv2,e2,rfl,⟨cD.Cc ((ae F5).keep RP.2) HOf,(ae F5).2⟩,R.1,R.2⟩
   ·have bY:=hide (show (Zf.hd l2).kind≠0 by rw[Zf.cW hc];omega)
    go_wp2_with fail
    rw[show ((n:Int)+1)=((n+1:Nat):Int)by omega]
    refine(y9 _ rb s l2 ns2 nv2 e2 (n+1) 6 (ae Nu) (ae bY)).mono ?_
    by_cases hn:n+1<6
    ·have HF:=hide (show Zf.items 5 tests goals l=Zf.su (ys++[x]) (Zf.items (5 - (n+1)) t1 g1 l2.tail)by rw[ae tG,show 5 - n=(5 - (n+1))+1 by omega,Zf.DI (ae HR) hc,Zf.G1])
     rw[if_pos hn,if_pos hn,decide_eq_true hn]
     rintro e wa ⟨rfl,hsa,hka⟩
     have HROWa:=hide ((ae F5).keep (aK.ka (ae Nu) hka))
     have HSa:=hide hsa
     have HKa:=hide ((ae QE).trans hka)
     have H0a:=hide (aj hka (ae QF) (by simp;omega))
     have H1a:=hide (aj hka (ae Ep) (by simp;omega))
     have HOa:=hide (sM (ae mH) hka (by omega) (by decide))
     clear hsa hka
     go_wp2_with fail
     go_roundg (gk - 1)
     case measure=>omega
     case rel=>exact⟨n+1,_,_,t1,g1,l2.tail,ns2,nv2,e2,ae HSa,ae HKa,ae H0a,ae H1a,ae HOa,by omega,by omega,_,ae HF,ae HROWa⟩
    ·have HF:=hide (show Zf.items 5 tests goals l= .inl (3,(Zf.hd l2).pos)by rw[ae tG,show 5 - n=0 by omega,Zf.DG (ae HR) hc];rfl)
     rw[if_neg hn,if_neg hn,decide_eq_false hn]
     rintro e wa ⟨rfl,hsa,hka⟩
     have HSa:=hide hsa
     have HKa:=hide ((ae QE).trans hka)
     have H1a:=hide (aj hka (ae Ep) (by simp;omega))
     clear hsa hka y0 y1 y1x hv0 hv1
     have z1:=ah (ae H1a)
     have z1x:=au (ae H1a)
     have hzz:=af (ae H1a)
     go_wp2_with fail
     refine bodyPost_ret (v:= .tuple #[.agg #[.slice none 0 0,.bool false,.bool false],.bool false]) (by simp[results,Tryz.results32,go_sem,z1]) rfl ?_
     rw[ae HF]
     have R:=bW (ae HSa) (ae HKa) hlt (by omega) (ae H1a) ((((aB.refl _ _).set 0 (.slice none 0 0)).set 1 (.bool false)).set 2 (.bool false))
     exact⟨l2,ns2,nv2,rfl,R.1,rfl,R.2⟩
def TI (w w':World):Prop:=∀(g:Nat) (cs:Array Value),w.heap[g]?=some (.cells cs 125 (0,0))→(∃k r,cs.toList= .int .i64 k :: r)→w'.heap[g]?=some (.cells cs 125 (0,0))
structure aQ (w w':World):Prop where
 a:aK w w'
 j:TI w w'
theorem aQ.trans {u v w:World} (h:aQ u v) (k:aQ v w):aQ u w:=⟨h.a.trans k.a,fun g cs a b=>k.j g cs (h.j g cs a b) b⟩
theorem aQ.below {w w':World} (h:Below w.heap.size w w'):aQ w w':=⟨aK.below h,fun g _ a _=>(h.block g (Array.getElem?_eq_some_iff.1 a).1).trans a⟩
theorem aQ.alloc (w:World) (o:Obj):aQ w (w.alloc o):=aQ.below ((Below.refl _ _).alloc (Nat.le_refl _) o)
theorem aQ.pq {w w':World} {b:Nat} {cs:Array Value} {T:TypeId} (hb:w.heap[b]?=some (.cells cs T (0,0))) (ho:aB b w w') (hT:T≠74:=by decide) (hJ:T≠125:=by decide):aQ w w':=
 ⟨aK.only ho (by unfold aM;rw[hb];simpa using hT),fun g cs' hg _=>(ho.block g (fun q=>by subst q;rw[hb]at hg;simp at hg;exact hJ hg.2)).trans hg⟩
theorem aQ.ka {w w':World} {rb:Nat} {s:ByteArray} {l:List Zf.Tok} {ns:List ByteArray} {nv:Value} {e:Int} (hs:St w rb s l ns nv e) (hk:KA rb [rb] w w'):aQ w w':=
 ⟨aK.ka hs hk,fun g cs hg hi=>(hk.block g (Array.getElem?_eq_some_iff.1 hg).1 (fun q=>by
  obtain rfl:g=rb:=by simpa using q
  obtain⟨k,r,hc⟩:=hi
  have:=hs.rd.c0
  simp[World.cell?,hg]at this
  rw[←Array.getElem?_toList,hc]at this
  simp at this) (Or.inr (by unfold aM;rw[hg];simp))).trans hg⟩
theorem aQ.QB {w w':World} {rb cb:Nat} {s:ByteArray} {l:List Zf.Tok} {ns:List ByteArray} {nv:Value} {e:Int} {C:Array Value} (hs:St w rb s l ns nv e) (hb:w.heap[cb]?=some (.cells C 76 (0,0))) (hk:KA rb [rb,cb] w w'):aQ w w':=
 ⟨fun g cs hg hi=>(hk.block g (Array.getElem?_eq_some_iff.1 hg).1 (fun q=>by
  rcases List.mem_cons.1 q with rfl | q
  ·obtain⟨k,r,hc⟩:=hi
   have:=hs.rd.c0
   simp[World.cell?,hg]at this
   rw[←Array.getElem?_toList,hc]at this
   simp at this
  ·obtain rfl:g=cb:=by simpa using q
   rw[hb]at hg
   simp at hg) (Or.inr (by unfold aM;rw[hg];simp))).trans hg,
  fun g cs hg hi=>(hk.block g (Array.getElem?_eq_some_iff.1 hg).1 (fun q=>by
   rcases List.mem_cons.1 q with rfl | q
   ·obtain⟨k,r,hc⟩:=hi
    have:=hs.rd.c0
    simp[World.cell?,hg]at this
    rw[←Array.getElem?_toList,hc]at this
    simp at this
   ·obtain rfl:g=cb:=by simpa using q
    rw[hb]at hg
    simp at hg) (Or.inr (by unfold aM;rw[hg];simp))).trans hg⟩
theorem cD.keep {N:List (List UInt8)} {w w':World} {o:Option Addr} {n:Nat} {ys:List Zf.aD} (h:cD N w o n ys) (hk:aQ w w'):cD N w' o n ys:=by
 refine⟨h.1,fun q=> ?_⟩
 obtain⟨g,vs,cs,h1,h2,h3,h4⟩:=h.2 q
 refine⟨g,vs,cs,h1,hk.j g cs h2 ?_,h3,h4.imp fun _ _ r=>r.keep hk.a⟩
 cases vs with
 | nil=>have:=h4.length;simp at this;exact absurd (List.length_eq_zero_iff.1 this.symm) q
 | cons v vs=>
  cases hc:cs.toList with
  | nil=>rw[hc]at h3;simp[n7]at h3
  | cons c r=>
   rw[hc]at h3
   simp only[List.length_cons,Nat.add_mul,Nat.one_mul,List.flatMap_cons,n7,List.cons_append,List.take_succ_cons]at h3
   injection h3 with h3 _
   exact⟨_,r,by rw[h3]⟩
theorem cD.none (N:List (List UInt8)) (w:World):cD N w Option.none 0 []:=⟨rfl,fun q=>absurd rfl q⟩
theorem Cf {N:List (List UInt8)} {w:World}:∀(vs:List JV) (ys:List Zf.aD),bR (kO N w) vs ys→∀y∈ys,Zf.Hr y
 | [],[],_,_,h=>by cases h
 | [],_ :: _,h,_,_=>h.elim
 | _ :: _,[],_,_,h=>by cases h
 | v :: vs,y :: ys,h,z,hz=>by
  rcases List.mem_cons.1 hz with rfl | hz
  ·exact h.1.ok
  ·exact Cf vs ys h.2 z hz
theorem cD.ok {N:List (List UInt8)} {w:World} {o:Option Addr} {n:Nat} {ys:List Zf.aD} (h:cD N w o n ys):∀y∈ys,Zf.Hr y:=by
 intro y hy
 obtain⟨g,vs,cs,_,_,_,h4⟩:=h.2 (fun e=>by rw[e]at hy;cases hy)
 exact Cf vs ys h4 y hy
theorem cD.more {N:List (List UInt8)} {w:World} {o:Option Addr} {n:Nat} {ys:List Zf.aD} (h:cD N w o n ys) (M:List (List UInt8)):cD (N++M) w o n ys:=
 ⟨h.1,fun q=>by
  obtain⟨g,vs,cs,h1,h2,h3,h4⟩:=h.2 q
  exact⟨g,vs,cs,h1,h2,h3,h4.imp fun _ _ r=>r.more M⟩⟩
theorem cD.behind {N N':List (List UInt8)} {w w':World} {o o':Option Addr} {n n':Nat} {xs ys:List Zf.aD} (h:cD N w o n xs) (k:cD N' w' o' n' ys) (hn:N'=Zf.ay N ys):cD N' w o n xs:=by
 obtain⟨M,hM,_⟩:=Zf.sY ys k.ok N
 rw[hn]
 unfold Zf.ay
 rw[hM]
 exact h.more M
structure QG (ns ns':List ByteArray) (w:World) (o1:Option Addr) (n1:Nat) (o2:Option Addr) (n2:Nat) (r:List Zf.aD×List Zf.aD):Prop where
 tests:cD (aR ns') w o1 n1 r.1
 goals:cD (aR ns') w o2 n2 r.2
 nms:aR ns'=Zf.ay (Zf.ay (aR ns) r.1) r.2
def rW (rb cb:Nat) (h0 h1 h2 h3:Value) (s:ByteArray) (ns:List ByteArray) (r:Zf.dP (List Zf.aD×List Zf.aD)) (w:World) (e:Ending) (w':World):Prop:=match r with
 | .inl (er,pos)=>∃(l':List Zf.Tok) (ns':List ByteArray) (nv':Value) (o1:Option Addr) (n1 c1:Nat) (o2:Option Addr) (n2 c2:Nat),
  e= .returned (.bool false)∧St w' rb s l' ns' nv' (er:Int)∧(Zf.hd l').pos=pos∧w'.heap[cb]?=some (.cells #[h0,h1,h2,h3,.slice o1 n1 c1,.slice o2 n2 c2] 76 (0,0))∧KA rb [rb,cb] w w'
 | .inr (xy,l1)=>∃(ns':List ByteArray) (nv':Value) (e':Int) (o1:Option Addr) (n1 c1:Nat) (o2:Option Addr) (n2 c2:Nat),
  e= .returned (.bool true)∧QG ns ns' w' o1 n1 o2 n2 xy∧St w' rb s l1 ns' nv' e'∧w'.heap[cb]?=some (.cells #[h0,h1,h2,h3,.slice o1 n1 c1,.slice o2 n2 c2] 76 (0,0))∧KA rb [rb,cb] w w'
theorem Nv {w:World} {b:Nat} {T:TypeId} {c0 c1 c2 c3 c4 c5:Value} (v:Value) (h:w.heap[b]?=some (.cells #[c0,c1,c2,c3,c4,c5] T (0,0))):
 (w.setCell ⟨b,4,none⟩ v).heap[b]?=some (.cells #[c0,c1,c2,c3,v,c5] T (0,0)):=by
 have:=aw h 4 v
 simpa using this
theorem uB {w:World} {b:Nat} {T:TypeId} {c0 c1 c2 c3 c4 c5:Value} (v:Value) (h:w.heap[b]?=some (.cells #[c0,c1,c2,c3,c4,c5] T (0,0))):
 (w.setCell ⟨b,5,none⟩ v).heap[b]?=some (.cells #[c0,c1,c2,c3,c4,v] T (0,0)):=by
 have:=aw h 5 v
 simpa using this
theorem F6 {w:World} {b:Nat} {T:TypeId} {c0 c1 c2 c3 c4 c5:Value} (v0 v1 v2 v3:Value) (h:w.heap[b]?=some (.cells #[c0,c1,c2,c3,c4,c5] T (0,0))):
 ((((w.setCell ⟨b,0,none⟩ v0).setCell ⟨b,1,none⟩ v1).setCell ⟨b,2,none⟩ v2).setCell ⟨b,3,none⟩ v3).heap[b]?=some (.cells #[v0,v1,v2,v3,c4,c5] T (0,0)):=by
 have:=aw (aw (aw (aw h 0 v0) 1 v1) 2 v2) 3 v3
 simpa using this
theorem uC {w:World} {b b':Nat} {x:Obj} (v0 v1 v2:Value) (h:w.heap[b']?=some x) (hne:b'≠b):
 (((w.setCell ⟨b,0,none⟩ v0).setCell ⟨b,1,none⟩ v1).setCell ⟨b,2,none⟩ v2).heap[b']?=some x:=
 aF (aF (aF h hne 0 v0) hne 1 v1) hne 2 v2
theorem lQ {w w1 w2:World} {rb cb:Nat} {s:ByteArray} {l:List Zf.Tok} {ns:List ByteArray} {nv:Value} {e:Int} {cs:Array Value} (h:St w1 rb s l ns nv e) (hk:KA rb [rb,cb] w w1) (hne:cb≠rb) (hn0:cb≠0) (hc:w1.heap[cb]?=some (.cells cs 76 (0,0))) (ho:aB cb w1 w2):
 St w2 rb s l ns nv e∧KA rb [rb,cb] w w2:=
 ⟨h.only ho hne hn0 (by unfold aM;rw[hc];simp),hk.PZ ho (by simp)⟩
theorem oM {w w1 w2:World} {rb cb b:Nat} {s:ByteArray} {l:List Zf.Tok} {ns:List ByteArray} {nv:Value} {e:Int} {cs:Array Value} (h:St w1 rb s l ns nv e) (hk:KA rb [rb,cb] w w1) (hlt:rb<w.heap.size) (hb:w.heap.size≤b) (hc:w1.heap[b]?=some (.cells cs 80 (0,0))) (ho:aB b w1 w2):
 St w2 rb s l ns nv e∧KA rb [rb,cb] w w2:=
 ⟨h.only ho (by omega) (by omega) (by unfold aM;rw[hc];simp),hk.eG ho hb⟩
theorem Cg (w:World) (rb cb:Nat) (h0 h1 h2 h3:Value) (s:ByteArray) (l:List Zf.Tok) (ns:List ByteArray) (nv:Value) (e0:Int) (h:St w rb s l ns nv e0) (hb:w.heap[cb]?=some (.cells #[h0,h1,h2,h3,.slice none 0 0,.slice none 0 0] 76 (0,0))) (hne:cb≠rb) (hn0:cb≠0):
 Calls Tryz.prog 64 #[.pointer (some ⟨rb,0,none⟩),.pointer (some ⟨cb,0,none⟩)] w fun e w'=>rW rb cb h0 h1 h2 h3 s ns (Zf.body l) w e w':=by
 have hlt:=h.lt
 have hlc:=af hb
 have HB:=hide hb
 have I:=hide (pV w rb s l ns nv e0 true true h)
 clear h hb
 generalize hr:Zf.items 5 true true l=r at I
 have HR:=hide hr
 clear hr
 rcases r with⟨er,pos⟩ | ⟨⟨xs,t1,g1⟩,l1⟩
 ·have HF:=hide (show Zf.body l= .inl (er,pos)from Zf.Km (ae HR))
  go_enter Tryz.func64,Tryz.ntmps64
  go_wp2_with fail
  refine(ae I).mono ?_
  rintro e w1 ⟨l',ns',nv',rfl,hs1,hpos,hk1⟩
  have bF:=hide hs1
  have HP:=hide hpos
  have df:=hide hk1
  have bC:=hide (aj hk1 (ae HB) (by simp;omega))
  clear hs1 hpos hk1
  go_wp2_with fail
  go_ret
  refine(?_:rW rb cb h0 h1 h2 h3 s ns _ w _ _)
  rw[ae HF]
  exact⟨l',ns',nv',none,0,0,none,0,0,rfl,(ae bF).below ((Below.refl _ _).alloc (Nat.le_refl _) _),ae HP,aA (ae bC) _,((ae df).wide).alloc _⟩
 ·go_enter Tryz.func64,Tryz.ntmps64
  go_wp2_with fail
  refine(ae I).mono ?_
  rintro e w1 ⟨ao,n,cap,ns1,nv1,e1,rfl,⟨hi1,sV⟩,hs1,hk1⟩
  have Nw:=hide hi1
  have zI:=hide sV
  clear hi1 sV
  have bF:=hide hs1
  have df:=hide (hk1.wide (lb:=cb))
  have bC:=hide (aj hk1 (ae HB) (by simp;omega))
  have vP:rb<w1.heap.size:=hs1.lt
  have YP:cb<w1.heap.size:=af (ae bC)
  have YQ:w.heap.size≤w1.heap.size:=hk1.size
  clear hs1 hk1
  cases t1
  ·cases g1
   ·have HF:=hide (show Zf.body l= .inl (2,(Zf.hd l1).pos)from Zf.rM (ae HR) (by simp))
    have cm:=hide ((ae bF).below ((Below.refl _ _).alloc (Nat.le_refl _) (.cells #[.slice ao n cap,.bool false,.bool false] 80)))
    have dt:=hide ((ae df).alloc (.cells #[.slice ao n cap,.bool false,.bool false] 80))
    have aP:=hide (aA (ae bC) (.cells #[.slice ao n cap,.bool false,.bool false] 80))
    have o6:=hide (heap_alloc_new w1 (.cells #[.slice ao n cap,.bool false,.bool false] 80))
    have Jb:=hide ((ae Nw).keep (aQ.alloc _ (.cells #[.slice ao n cap,.bool false,.bool false] 80)))
    go_wp2_with fail
    refine(cg _ rb s l1 ns1 nv1 e1 2 (ae cm)).mono ?_
    rintro e wz ⟨rfl,hsz,fK⟩
    have HSz:=hide hsz
    have HKz:=hide ((ae dt).trans fK.wide)
    have HBz:=hide (aj fK (ae aP) (by simp;omega))
    clear hsz fK
    go_wp2_with fail
    go_ret
    refine(?_:rW rb cb h0 h1 h2 h3 s ns _ w _ _)
    rw[ae HF]
    exact⟨l1,ns1,nv1,none,0,0,none,0,0,rfl,ae HSz,rfl,ae HBz,ae HKz⟩
   ·have HF:=hide (show Zf.body l= .inr (([],xs),l1)from Zf.wR (ae HR) (by simp))
    have rc:=ah (ae bC)
    have xc:=au (ae bC)
    go_wp2_with fail
    go_ret
    refine(?_:rW rb cb h0 h1 h2 h3 s ns _ w _ _)
    rw[ae HF]
    have R:=lQ (ae bF) (ae df) hne hn0 (ae bC) ((aB.refl _ _).set 5 (.slice ao n cap))
    exact⟨ns1,nv1,e1,none,0,0,ao,n,cap,rfl,⟨cD.none _ _,(ae Nw).keep ((aQ.pq (ae bC) ((aB.refl cb w1).set 5 (.slice ao n cap))).trans (aQ.alloc _ _)),ae zI⟩,R.1.below ((Below.refl _ _).alloc (Nat.le_refl _) _),aA (uB (.slice ao n cap) (ae bC)) _,R.2.alloc _⟩
  ·cases g1
   ·have cm:=hide ((ae bF).below ((Below.refl _ _).alloc (Nat.le_refl _) (.cells #[.slice ao n cap,.bool true,.bool false] 80)))
    have dt:=hide ((ae df).alloc (.cells #[.slice ao n cap,.bool true,.bool false] 80))
    have aP:=hide (aA (ae bC) (.cells #[.slice ao n cap,.bool true,.bool false] 80))
    have o6:=hide (heap_alloc_new w1 (.cells #[.slice ao n cap,.bool true,.bool false] 80))
    have Jb:=hide ((ae Nw).keep (aQ.alloc _ (.cells #[.slice ao n cap,.bool true,.bool false] 80)))
    go_wp2_with fail
    refine(bD _ rb s l1 ns1 nv1 e1 _ (ae cm)).mono ?_
    rintro e w9 ⟨rfl,hw⟩
    rw[hw]
    simp only[ByteArray.toList_mk]
    clear hw w9
    generalize hbb:w1.heap.size=bb at*
    generalize hw2:w1.alloc (.cells #[.slice ao n cap,.bool true,.bool false] 80)=w2 at*
    clear hbb hw2
    have r2:=ah (ae o6)
    have hzl:=af (ae o6)
    have rc:=ah (ae aP)
    have xc:=au (ae aP)
    have QH:=af (ae aP)
    cases px:Zf.sees l1 [124]
    ·have HF:=hide (show Zf.body l= .inl (2,(Zf.hd l1).pos)from Zf.rM (ae HR) (by simp[px]))
     go_wp2_with fail
     refine(cg _ rb s l1 ns1 nv1 e1 2 (ae cm)).mono ?_
     rintro e wz ⟨rfl,hsz,fK⟩
     have HSz:=hide hsz
     have HKz:=hide ((ae dt).trans fK.wide)
     have HBz:=hide (aj fK (ae aP) (by simp;omega))
     clear hsz fK
     go_wp2_with fail
     go_ret
     refine(?_:rW rb cb h0 h1 h2 h3 s ns _ w _ _)
     rw[ae HF]
     exact⟨l1,ns1,nv1,none,0,0,none,0,0,rfl,ae HSz,rfl,ae HBz,ae HKz⟩
    ·have hkj:=hide (show (Zf.hd l1).kind≠0 by rw[Zf.cW px];omega)
     go_wp2_with fail
     refine(fN _ rb s l1 ns1 nv1 e1 (ae cm) (ae hkj)).mono ?_
     rintro e w3 ⟨rfl,hs3,hk3⟩
     have eI:=hide hs3
     have QI:=hide ((ae Jb).keep (aQ.ka (ae cm) hk3))
     have eo:=hide ((ae dt).trans hk3.wide)
     have bu:=hide (aj hk3 (ae aP) (by simp;omega))
     have vw:=hide (aj hk3 (ae o6) (by simp;omega))
     clear hs3 hk3 r2 hzl rc xc QH
     have r3:=ah (ae vw)
     have hz3:=af (ae vw)
     have rc3:=ah (ae bu)
     have xc3:=au (ae bu)
     have hc3:=af (ae bu)
     have R4:=hide (lQ (ae eI) (ae eo) hne hn0 (ae bu) ((aB.refl _ _).set 4 (.slice ao n cap)))
     have cu:=hide (Nv (.slice ao n cap) (ae bu))
     have QJ:=hide ((ae QI).keep (aQ.pq (ae bu) ((aB.refl cb w3).set 4 (.slice ao n cap))))
     have zJ:=hide (aF (ae vw) (show bb≠cb by omega) 4 (.slice ao n cap))
     go_wp2_with fail
     clear r3 hz3 rc3 xc3 hc3
     generalize w3.setCell ⟨cb,4,none⟩ (.slice ao n cap)=w4 at*
     have J:=hide (pV w4 rb s l1.tail ns1 nv1 e1 false true (ae R4).1)
     generalize hr2:Zf.items 5 false true l1.tail=r2 at J
     have mI:=hide hr2
     clear hr2
     refine(ae J).mono ?_
     rcases r2 with⟨er,pos⟩ | ⟨⟨ys,t5,g5⟩,l5⟩
     ·have HF:=hide (show Zf.body l= .inl (er,pos)from Zf.sw (ae HR) px (ae mI))
      rintro e w5 ⟨l',ns',nv',rfl,hs5,hpos,bY⟩
      have HP:=hide hpos
      clear hpos
      have ik:=hide hs5
      have jx:=hide ((ae R4).2.trans bY.wide)
      have bj:=hide (aj bY (ae cu) (by simp;omega))
      have jJ:=hide (aj bY (ae zJ) (by simp;omega))
      have r5:=ah (ae jJ)
      have x5:=au (ae jJ)
      have QK:=af (ae jJ)
      have rc5:=ah (ae bj)
      have xc5:=au (ae bj)
      have xu:=af (ae bj)
      clear hs5 bY
      have R6:=hide (oM (ae ik) (ae jx) hlt (by omega) (ae jJ) ((((aB.refl _ _).set 0 (.slice none 0 0)).set 1 (.bool false)).set 2 (.bool false)))
      have mK:=hide (ae R6).1
      have n9:=hide (ae R6).2
      have gZ:=hide (uC (.slice none 0 0) (.bool false) (.bool false) (ae bj) (show cb≠bb by omega))
      go_wp2_with fail
      go_ret
      refine(?_:rW rb cb h0 h1 h2 h3 s ns _ w _ _)
      rw[ae HF]
      have R:=lQ (ae mK) (ae n9) hne hn0 (ae gZ) ((aB.refl _ _).set 5 (.slice none 0 0))
      exact⟨l',ns',nv',ao,n,cap,none,0,0,rfl,R.1,ae HP,uB (.slice none 0 0) (ae gZ),R.2⟩
     ·rintro e w5 ⟨ao5,n5,cap5,ns5,nv5,e5,rfl,⟨hi5,zG⟩,hs5,bY⟩
      have QL:=hide (cD.behind ((ae QJ).keep (aQ.ka (ae R4).1 bY)) hi5 zG)
      have QM:=hide hi5
      have QN:Hid (aR ns5=Zf.ay (Zf.ay (aR ns) xs) ys):=hide (by rw[zG,ae zI])
      clear hi5 zG
      have ik:=hide hs5
      have jx:=hide ((ae R4).2.trans bY.wide)
      have bj:=hide (aj bY (ae cu) (by simp;omega))
      have jJ:=hide (aj bY (ae zJ) (by simp;omega))
      have r5:=ah (ae jJ)
      have x5:=au (ae jJ)
      have QK:=af (ae jJ)
      have rc5:=ah (ae bj)
      have xc5:=au (ae bj)
      have xu:=af (ae bj)
      clear hs5 bY
      cases g5
      ·have HF:=hide (show Zf.body l= .inl (2,(Zf.hd l5).pos)from Zf.uV (ae HR) px (ae mI))
       have R6:=hide (oM (ae ik) (ae jx) hlt (by omega) (ae jJ) ((((aB.refl _ _).set 0 (.slice ao5 n5 cap5)).set 1 (.bool t5)).set 2 (.bool false)))
       have mK:=hide (ae R6).1
       have n9:=hide (ae R6).2
       have gZ:=hide (uC (.slice ao5 n5 cap5) (.bool t5) (.bool false) (ae bj) (show cb≠bb by omega))
       go_wp2_with fail
       refine(cg _ rb s l5 ns5 nv5 e5 2 (ae mK)).mono ?_
       rintro e wz ⟨rfl,hsz,fK⟩
       have HSz:=hide hsz
       have HKz:=hide ((ae n9).trans fK.wide)
       have HBz:=hide (aj fK (ae gZ) (by simp;omega))
       clear hsz fK
       go_wp2_with fail
       go_ret
       refine(?_:rW rb cb h0 h1 h2 h3 s ns _ w _ _)
       rw[ae HF]
       exact⟨l5,ns5,nv5,ao,n,cap,none,0,0,rfl,ae HSz,rfl,ae HBz,ae HKz⟩
      ·have HF:=hide (show Zf.body l= .inr ((xs,ys),l5)from Zf.A2 (ae HR) px (ae mI))
       have R6:=hide (oM (ae ik) (ae jx) hlt (by omega) (ae jJ) ((((aB.refl _ _).set 0 (.slice ao5 n5 cap5)).set 1 (.bool t5)).set 2 (.bool true)))
       have mK:=hide (ae R6).1
       have n9:=hide (ae R6).2
       have gZ:=hide (uC (.slice ao5 n5 cap5) (.bool t5) (.bool true) (ae bj) (show cb≠bb by omega))
       go_wp2_with fail
       go_ret
       refine(?_:rW rb cb h0 h1 h2 h3 s ns _ w _ _)
       rw[ae HF]
       have R:=lQ (ae mK) (ae n9) hne hn0 (ae gZ) ((aB.refl _ _).set 5 (.slice ao5 n5 cap5))
       have KK:=(aQ.pq (ae jJ) ((((aB.refl _ _).set 0 (.slice ao5 n5 cap5)).set 1 (.bool t5)).set 2 (.bool true))).trans (aQ.pq (ae gZ) ((aB.refl _ _).set 5 (.slice ao5 n5 cap5)))
       exact⟨ns5,nv5,e5,ao,n,cap,ao5,n5,cap5,rfl,⟨(ae QL).keep KK,(ae QM).keep KK,ae QN⟩,R.1,(uB (.slice ao5 n5 cap5) (ae gZ)),R.2⟩
   ·have cm:=hide ((ae bF).below ((Below.refl _ _).alloc (Nat.le_refl _) (.cells #[.slice ao n cap,.bool true,.bool true] 80)))
    have dt:=hide ((ae df).alloc (.cells #[.slice ao n cap,.bool true,.bool true] 80))
    have aP:=hide (aA (ae bC) (.cells #[.slice ao n cap,.bool true,.bool true] 80))
    have o6:=hide (heap_alloc_new w1 (.cells #[.slice ao n cap,.bool true,.bool true] 80))
    have Jb:=hide ((ae Nw).keep (aQ.alloc _ (.cells #[.slice ao n cap,.bool true,.bool true] 80)))
    go_wp2_with fail
    refine(bD _ rb s l1 ns1 nv1 e1 _ (ae cm)).mono ?_
    rintro e w9 ⟨rfl,hw⟩
    rw[hw]
    simp only[ByteArray.toList_mk]
    clear hw w9
    generalize hbb:w1.heap.size=bb at*
    generalize hw2:w1.alloc (.cells #[.slice ao n cap,.bool true,.bool true] 80)=w2 at*
    clear hbb hw2
    have r2:=ah (ae o6)
    have hzl:=af (ae o6)
    have rc:=ah (ae aP)
    have xc:=au (ae aP)
    have QH:=af (ae aP)
    cases px:Zf.sees l1 [124]
    ·have HF:=hide (show Zf.body l= .inr (([],xs),l1)from Zf.wR (ae HR) (by simp[px]))
     go_wp2_with fail
     go_ret
     refine(?_:rW rb cb h0 h1 h2 h3 s ns _ w _ _)
     rw[ae HF]
     have R:=lQ (ae cm) (ae dt) hne hn0 (ae aP) ((aB.refl _ _).set 5 (.slice ao n cap))
     exact⟨ns1,nv1,e1,none,0,0,ao,n,cap,rfl,⟨cD.none _ _,(ae Jb).keep (aQ.pq (ae aP) ((aB.refl cb w2).set 5 (.slice ao n cap))),ae zI⟩,R.1,(uB (.slice ao n cap) (ae aP)),R.2⟩
    ·have hkj:=hide (show (Zf.hd l1).kind≠0 by rw[Zf.cW px];omega)
     go_wp2_with fail
     refine(fN _ rb s l1 ns1 nv1 e1 (ae cm) (ae hkj)).mono ?_
     rintro e w3 ⟨rfl,hs3,hk3⟩
     have eI:=hide hs3
     have QI:=hide ((ae Jb).keep (aQ.ka (ae cm) hk3))
     have eo:=hide ((ae dt).trans hk3.wide)
     have bu:=hide (aj hk3 (ae aP) (by simp;omega))
     have vw:=hide (aj hk3 (ae o6) (by simp;omega))
     clear hs3 hk3 r2 hzl rc xc QH
     have r3:=ah (ae vw)
     have hz3:=af (ae vw)
     have rc3:=ah (ae bu)
     have xc3:=au (ae bu)
     have hc3:=af (ae bu)
     have R4:=hide (lQ (ae eI) (ae eo) hne hn0 (ae bu) ((aB.refl _ _).set 4 (.slice ao n cap)))
     have cu:=hide (Nv (.slice ao n cap) (ae bu))
     have QJ:=hide ((ae QI).keep (aQ.pq (ae bu) ((aB.refl cb w3).set 4 (.slice ao n cap))))
     have zJ:=hide (aF (ae vw) (show bb≠cb by omega) 4 (.slice ao n cap))
     go_wp2_with fail
     clear r3 hz3 rc3 xc3 hc3
     generalize w3.setCell ⟨cb,4,none⟩ (.slice ao n cap)=w4 at*
     have J:=hide (pV w4 rb s l1.tail ns1 nv1 e1 false true (ae R4).1)
     generalize hr2:Zf.items 5 false true l1.tail=r2 at J
     have mI:=hide hr2
     clear hr2
     refine(ae J).mono ?_
     rcases r2 with⟨er,pos⟩ | ⟨⟨ys,t5,g5⟩,l5⟩
     ·have HF:=hide (show Zf.body l= .inl (er,pos)from Zf.sw (ae HR) px (ae mI))
      rintro e w5 ⟨l',ns',nv',rfl,hs5,hpos,bY⟩
      have HP:=hide hpos
      clear hpos
      have ik:=hide hs5
      have jx:=hide ((ae R4).2.trans bY.wide)
      have bj:=hide (aj bY (ae cu) (by simp;omega))
      have jJ:=hide (aj bY (ae zJ) (by simp;omega))
      have r5:=ah (ae jJ)
      have x5:=au (ae jJ)
      have QK:=af (ae jJ)
      have rc5:=ah (ae bj)
      have xc5:=au (ae bj)
      have xu:=af (ae bj)
      clear hs5 bY
      have R6:=hide (oM (ae ik) (ae jx) hlt (by omega) (ae jJ) ((((aB.refl _ _).set 0 (.slice none 0 0)).set 1 (.bool false)).set 2 (.bool false)))
      have mK:=hide (ae R6).1
      have n9:=hide (ae R6).2
      have gZ:=hide (uC (.slice none 0 0) (.bool false) (.bool false) (ae bj) (show cb≠bb by omega))
      go_wp2_with fail
      go_ret
      refine(?_:rW rb cb h0 h1 h2 h3 s ns _ w _ _)
      rw[ae HF]
      have R:=lQ (ae mK) (ae n9) hne hn0 (ae gZ) ((aB.refl _ _).set 5 (.slice none 0 0))
      exact⟨l',ns',nv',ao,n,cap,none,0,0,rfl,R.1,ae HP,uB (.slice none 0 0) (ae gZ),R.2⟩
     ·rintro e w5 ⟨ao5,n5,cap5,ns5,nv5,e5,rfl,⟨hi5,zG⟩,hs5,bY⟩
      have QL:=hide (cD.behind ((ae QJ).keep (aQ.ka (ae R4).1 bY)) hi5 zG)
      have QM:=hide hi5
      have QN:Hid (aR ns5=Zf.ay (Zf.ay (aR ns) xs) ys):=hide (by rw[zG,ae zI])
      clear hi5 zG
      have ik:=hide hs5
      have jx:=hide ((ae R4).2.trans bY.wide)
      have bj:=hide (aj bY (ae cu) (by simp;omega))
      have jJ:=hide (aj bY (ae zJ) (by simp;omega))
      have r5:=ah (ae jJ)
      have x5:=au (ae jJ)
      have QK:=af (ae jJ)
      have rc5:=ah (ae bj)
      have xc5:=au (ae bj)
      have xu:=af (ae bj)
      clear hs5 bY
      cases g5
      ·have HF:=hide (show Zf.body l= .inl (2,(Zf.hd l5).pos)from Zf.uV (ae HR) px (ae mI))
       have R6:=hide (oM (ae ik) (ae jx) hlt (by omega) (ae jJ) ((((aB.refl _ _).set 0 (.slice ao5 n5 cap5)).set 1 (.bool t5)).set 2 (.bool false)))
       have mK:=hide (ae R6).1
       have n9:=hide (ae R6).2
       have gZ:=hide (uC (.slice ao5 n5 cap5) (.bool t5) (.bool false) (ae bj) (show cb≠bb by omega))
       go_wp2_with fail
       refine(cg _ rb s l5 ns5 nv5 e5 2 (ae mK)).mono ?_
       rintro e wz ⟨rfl,hsz,fK⟩
       have HSz:=hide hsz
       have HKz:=hide ((ae n9).trans fK.wide)
       have HBz:=hide (aj fK (ae gZ) (by simp;omega))
       clear hsz fK
       go_wp2_with fail
       go_ret
       refine(?_:rW rb cb h0 h1 h2 h3 s ns _ w _ _)
       rw[ae HF]
       exact⟨l5,ns5,nv5,ao,n,cap,none,0,0,rfl,ae HSz,rfl,ae HBz,ae HKz⟩
      ·have HF:=hide (show Zf.body l= .inr ((xs,ys),l5)from Zf.A2 (ae HR) px (ae mI))
       have R6:=hide (oM (ae ik) (ae jx) hlt (by omega) (ae jJ) ((((aB.refl _ _).set 0 (.slice ao5 n5 cap5)).set 1 (.bool t5)).set 2 (.bool true)))
       have mK:=hide (ae R6).1
       have n9:=hide (ae R6).2
       have gZ:=hide (uC (.slice ao5 n5 cap5) (.bool t5) (.bool true) (ae bj) (show cb≠bb by omega))
       go_wp2_with fail
       go_ret
       refine(?_:rW rb cb h0 h1 h2 h3 s ns _ w _ _)
       rw[ae HF]
       have R:=lQ (ae mK) (ae n9) hne hn0 (ae gZ) ((aB.refl _ _).set 5 (.slice ao5 n5 cap5))
       have KK:=(aQ.pq (ae jJ) ((((aB.refl _ _).set 0 (.slice ao5 n5 cap5)).set 1 (.bool t5)).set 2 (.bool true))).trans (aQ.pq (ae gZ) ((aB.refl _ _).set 5 (.slice ao5 n5 cap5)))
       exact⟨ns5,nv5,e5,ao,n,cap,ao5,n5,cap5,rfl,⟨(ae QL).keep KK,(ae QM).keep KK,ae QN⟩,R.1,(uB (.slice ao5 n5 cap5) (ae gZ)),R.2⟩
theorem Jc (w:World) (rb:Nat) (s:ByteArray) (l:List Zf.Tok) (ns:List ByteArray) (nv:Value) (e0:Int) (n:Nat) (h:St w rb s l ns nv e0) (hk:(Zf.hd l).kind≠2):
 Calls Tryz.prog 60 #[.pointer (some ⟨rb,0,none⟩),.int .i64 (n:Int)] w fun e w'=>e= .returned (.bool false)∧St w' rb s l ns nv 2∧KA rb [rb] w w':=by
 have H:=hide h
 obtain⟨⟨c0,c1,c2,c3,c4,c5,f1,f2,f3,f4,f5⟩,own,chain,isn,few,short,signs,pos,lt⟩:=h
 clear own chain isn few short signs pos lt c0 c2 c3 c4 c5 f1 f2 f3 f4 f5
 have n2:(((Zf.hd l).kind:Int) != 2)=true:=by simp;omega
 generalize (Zf.hd l).kind=k at c1 n2
 clear hk
 go_enter Tryz.func60,Tryz.ntmps60
 go_wp2_with (go_at_call 68;refine(cg _ _ _ _ _ _ _ 2 (ae H)).mono ?_;rintro e w1 ⟨rfl,hs,hk⟩;have HS:=hide hs;have HK:=hide hk;clear hs hk)
 go_ret
 exact⟨rfl,ae HS,ae HK⟩
theorem Jd (w:World) (rb:Nat) (s:ByteArray) (l:List Zf.Tok) (ns:List ByteArray) (nv:Value) (e0:Int) (n:Nat) (h:St w rb s l ns nv e0) (hk:(Zf.hd l).kind=2) (hn:12≤n):
 Calls Tryz.prog 60 #[.pointer (some ⟨rb,0,none⟩),.int .i64 (n:Int)] w fun e w'=>e= .returned (.bool false)∧St w' rb s l ns nv 3∧KA rb [rb] w w':=by
 have H:=hide h
 obtain⟨⟨c0,c1,c2,c3,c4,c5,f1,f2,f3,f4,f5⟩,own,chain,isn,few,short,signs,pos,lt⟩:=h
 clear own chain isn few short signs pos lt c0 c2 c3 c4 c5 f1 f2 f3 f4 f5
 rw[hk]at c1
 have hN:decide (12≤(n:Int))=true:=by simp;omega
 clear hk
 go_enter Tryz.func60,Tryz.ntmps60
 go_wp2_with (go_at_call 68;refine(cg _ _ _ _ _ _ _ 3 (ae H)).mono ?_;rintro e w1 ⟨rfl,hs,hk⟩;have HS:=hide hs;have HK:=hide hk;clear hs hk)
 go_ret
 exact⟨rfl,ae HS,ae HK⟩
theorem rf (w:World) (rb:Nat) (s:ByteArray) (l:List Zf.Tok) (ns:List ByteArray) (nv:Value) (e0:Int) (n:Nat) (h:St w rb s l ns nv e0) (hk:(Zf.hd l).kind=2) (hn:n<12):
 Calls Tryz.prog 60 #[.pointer (some ⟨rb,0,none⟩),.int .i64 (n:Int)] w fun e w'=>e= .returned (.bool true)∧w'=w:=by
 obtain⟨⟨c0,c1,c2,c3,c4,c5,f1,f2,f3,f4,f5⟩,own,chain,isn,few,short,signs,pos,lt⟩:=h
 clear own chain isn few short signs pos lt c0 c2 c3 c4 c5 f1 f2 f3 f4 f5
 rw[hk]at c1
 have hN:decide (12≤(n:Int))=false:=by simp;omega
 clear hk
 go_enter Tryz.func60,Tryz.ntmps60
 go_wp2
 go_ret
 exact⟨rfl,rfl⟩
theorem St.uD {w:World} {rb:Nat} {s:ByteArray} {l:List Zf.Tok} {ns:List ByteArray} {nv:Value} {e:Int} (h:St w rb s l ns nv e):St (w.setCell ⟨rb,4,none⟩ (.slice none 0 0)) rb s l [] (.slice none 0 0) e∧KA rb [rb] w (w.setCell ⟨rb,4,none⟩ (.slice none 0 0)):=by
 obtain⟨⟨c0,c1,c2,c3,c4,c5,f1,f2,f3,f4,f5⟩,own,chain,isn,few,short,signs,pos,lt⟩:=h
 refine⟨⟨⟨by go_cell,by go_cell,by go_cell,by go_cell,by go_cell,by go_cell,by go_cell,by go_cell,by go_cell,by go_cell,by go_cell⟩,World.ownsRow_nil _ _ _ _,chain,isn,by simp;omega,short,signs.setCell (by show rb≠0;omega) _,pos,by simpa using lt⟩,(KA.refl _ _ _).fH (by simp) _⟩
structure eH (w:World) (a:TV) (o1:Option Addr) (n1:Nat) (o2:Option Addr) (n2:Nat) (c:Zf.aI):Prop where
 head:RA 8 (Zf.NG c) anyA w a c.head
 tests:cD (Zf.NG c) w o1 n1 c.tests
 goals:cD (Zf.NG c) w o2 n2 c.goals
theorem eH.keep {w w':World} {a:TV} {o1:Option Addr} {n1:Nat} {o2:Option Addr} {n2:Nat} {c:Zf.aI} (h:eH w a o1 n1 o2 n2 c) (hk:aQ w w'):eH w' a o1 n1 o2 n2 c:=⟨hk.a.ra h.head,h.tests.keep hk,h.goals.keep hk⟩
theorem eH.fact {ns':List ByteArray} {w:World} {a:TV} {t:Zf.Tm} (h:RA 8 (aR ns') anyA w a t) (hn:aR ns'=Zf.namesF 8 (aR []) t):eH w a none 0 none 0 ⟨t,[],[]⟩:=
 ⟨by rw[hn]at h;exact h,cD.none _ _,cD.none _ _⟩
theorem eH.body {ns ns':List ByteArray} {w:World} {a:TV} {o1:Option Addr} {n1:Nat} {o2:Option Addr} {n2:Nat} {t:Zf.Tm} {xs ys:List Zf.aD} (h:RA 8 (aR ns) anyA w a t) (hn:aR ns=Zf.namesF 8 (aR []) t) (hb:QG ns ns' w o1 n1 o2 n2 (xs,ys)):eH w a o1 n1 o2 n2 ⟨t,xs,ys⟩:=by
 obtain⟨h1,h2,h3⟩:=hb
 have e:aR ns'=Zf.NG ⟨t,xs,ys⟩:=by rw[h3,hn];rfl
 obtain⟨M,hM,_⟩:=Zf.sY xs h1.ok (aR ns)
 obtain⟨K,hK,_⟩:=Zf.sY ys h2.ok (xs.foldl Zf.aL (aR ns))
 have e2:aR ns'=aR ns++(M++K):=by
  rw[h3]
  unfold Zf.ay
  dsimp only
  rw[hK,hM,List.append_assoc]
 have h':=h.more (M++K)
 rw[←e2,e]at h'
 rw[e]at h1 h2
 exact⟨h',h1,h2⟩
def Ch (rb:Nat) (s:ByteArray) (r:Zf.dP Zf.aI) (w:World) (e:Ending) (w':World):Prop:=match r with
 | .inl (er,pos)=>∃(a:TV) (o1:Option Addr) (n1 c1:Nat) (o2:Option Addr) (n2 c2:Nat) (l':List Zf.Tok) (ns':List ByteArray) (nv':Value),
  e= .returned (.tuple #[.agg #[.int .i64 a.k,.int .i64 a.val,.string a.tx,.slice a.ao a.n a.cap,.slice o1 n1 c1,.slice o2 n2 c2],.bool false])∧St w' rb s l' ns' nv' (er:Int)∧(Zf.hd l').pos=pos∧KA rb [rb] w w'
 | .inr (c,l1)=>∃(a:TV) (o1:Option Addr) (n1 c1:Nat) (o2:Option Addr) (n2 c2:Nat) (ns':List ByteArray) (nv':Value) (e':Int),
  e= .returned (.tuple #[.agg #[.int .i64 a.k,.int .i64 a.val,.string a.tx,.slice a.ao a.n a.cap,.slice o1 n1 c1,.slice o2 n2 c2],.bool true])∧eH w' a o1 n1 o2 n2 c∧St w' rb s l1 ns' nv' e'∧KA rb [rb] w w'
theorem lR {w:World} {rb:Nat} {s:ByteArray} {l:List Zf.Tok} {ns:List ByteArray} {nv:Value} {e:Int} (h:St w rb s l ns nv e) (o:Obj):
 St ((w.alloc o).alloc o) rb s l ns nv e∧KA rb [rb] w ((w.alloc o).alloc o)∧((w.alloc o).alloc o).heap[w.heap.size]?=some o∧((w.alloc o).alloc o).heap[w.heap.size+1]?=some o:=
 ⟨h.below (((Below.refl _ _).alloc (Nat.le_refl _) _).alloc (by simp) _),((KA.refl rb [rb] w).alloc _).alloc _,aA (heap_alloc_new w o) _,by have:=heap_alloc_new (w.alloc o) o;rw[World.size_alloc]at this;exact this⟩
theorem TJ (w:World) (rb:Nat) (s:ByteArray) (l:List Zf.Tok) (ns:List ByteArray) (nv:Value) (e0:Int) (n:Nat) (h:St w rb s l ns nv e0) (hk:(Zf.hd l).kind≠2) (more:Bool):
 Calls Tryz.prog 31 #[.pointer (some ⟨rb,0,none⟩),.int .i64 (n:Int)] w fun e w'=>Ch rb s (Zf.clause more l) w e w':=by
 have HF:=hide (show Zf.clause more l= .inl (2,(Zf.hd l).pos)by rw[Zf.Ds hk];rfl)
 have HQ:=hide hk
 clear hk
 have hlt:=h.lt
 obtain⟨hS,hK,hB0,hBc⟩:=lR h (.cells #[.int .i64 0,.int .i64 0,.string ⟨#[]⟩,.slice none 0 0,.slice none 0 0,.slice none 0 0] 76)
 have HS:=hide hS
 have HK:=hide hK
 have aS:=hide hB0
 have HBc:=hide hBc
 clear hS hK hB0 hBc h
 go_enter Tryz.func31,Tryz.ntmps31
 go_wp2_with fail
 refine(Jc _ rb s l ns nv e0 n (ae HS) (ae HQ)).mono ?_
 rintro e w1 ⟨rfl,hs1,hk1⟩
 have bF:=hide hs1
 have df:=hide ((ae HK).trans hk1)
 have jK:=hide (aj hk1 (ae aS) (by simp;omega))
 have HBc1:=hide (aj hk1 (ae HBc) (by simp;omega))
 clear hs1 hk1
 obtain⟨a,ha⟩:∃a:TV,a=⟨0,0,⟨#[]⟩,none,0,0⟩:=⟨_,rfl⟩
 have r0:=ah (ae jK)
 have x0:=au (ae jK)
 have z0:=af (ae jK)
 have rc:=ah (ae HBc1)
 have zc:=af (ae HBc1)
 go_wp2_with fail
 refine bodyPost_ret (v:= .tuple #[.agg #[.int .i64 0,.int .i64 0,.string ⟨#[]⟩,.slice none 0 0,.slice none 0 0,.slice none 0 0],.bool false]) (by simp[results,Tryz.results31,go_sem,r0]) rfl ?_
 rw[ae HF]
 have R:=bW (ae bF) (ae df) hlt (Nat.le_refl _) (ae jK) (((((((aB.refl _ _).set 0 (.int .i64 a.k)).set 1 (.int .i64 a.val)).set 2 (.string a.tx)).set 3 (.slice a.ao a.n a.cap)).set 4 (.slice none 0 0)).set 5 (.slice none 0 0))
 exact⟨a,none,0,0,none,0,0,l,ns,nv,by rw[ha],by rw[ha]at R;exact R.1,rfl,by rw[ha]at R;exact R.2⟩
theorem TK (w:World) (rb:Nat) (s:ByteArray) (l:List Zf.Tok) (ns:List ByteArray) (nv:Value) (e0:Int) (n:Nat) (h:St w rb s l ns nv e0) (hk:(Zf.hd l).kind=2) (hn:12≤n):
 Calls Tryz.prog 31 #[.pointer (some ⟨rb,0,none⟩),.int .i64 (n:Int)] w fun e w'=>Ch rb s (Zf.clause false l) w e w':=by
 have HF:=hide (show Zf.clause false l= .inl (3,(Zf.hd l).pos)by rw[Zf.Dt hk];rfl)
 have HQ:=hide hk
 clear hk
 have hlt:=h.lt
 obtain⟨hS,hK,hB0,hBc⟩:=lR h (.cells #[.int .i64 0,.int .i64 0,.string ⟨#[]⟩,.slice none 0 0,.slice none 0 0,.slice none 0 0] 76)
 have HS:=hide hS
 have HK:=hide hK
 have aS:=hide hB0
 have HBc:=hide hBc
 clear hS hK hB0 hBc h
 go_enter Tryz.func31,Tryz.ntmps31
 go_wp2_with fail
 refine(Jd _ rb s l ns nv e0 n (ae HS) (ae HQ) hn).mono ?_
 rintro e w1 ⟨rfl,hs1,hk1⟩
 have bF:=hide hs1
 have df:=hide ((ae HK).trans hk1)
 have jK:=hide (aj hk1 (ae aS) (by simp;omega))
 have HBc1:=hide (aj hk1 (ae HBc) (by simp;omega))
 clear hs1 hk1
 obtain⟨a,ha⟩:∃a:TV,a=⟨0,0,⟨#[]⟩,none,0,0⟩:=⟨_,rfl⟩
 have r0:=ah (ae jK)
 have x0:=au (ae jK)
 have z0:=af (ae jK)
 have rc:=ah (ae HBc1)
 have zc:=af (ae HBc1)
 go_wp2_with fail
 refine bodyPost_ret (v:= .tuple #[.agg #[.int .i64 0,.int .i64 0,.string ⟨#[]⟩,.slice none 0 0,.slice none 0 0,.slice none 0 0],.bool false]) (by simp[results,Tryz.results31,go_sem,r0]) rfl ?_
 rw[ae HF]
 have R:=bW (ae bF) (ae df) hlt (Nat.le_refl _) (ae jK) (((((((aB.refl _ _).set 0 (.int .i64 a.k)).set 1 (.int .i64 a.val)).set 2 (.string a.tx)).set 3 (.slice a.ao a.n a.cap)).set 4 (.slice none 0 0)).set 5 (.slice none 0 0))
 exact⟨a,none,0,0,none,0,0,l,ns,nv,by rw[ha],by rw[ha]at R;exact R.1,rfl,by rw[ha]at R;exact R.2⟩
theorem Ls (w:World) (rb:Nat) (s:ByteArray) (l:List Zf.Tok) (ns:List ByteArray) (nv:Value) (e0:Int) (n:Nat) (h:St w rb s l ns nv e0) (hk:(Zf.hd l).kind=2) (hn:n<12) (er ps:Nat) (hT:Zf.term 8 l= .inl (er,ps)):
 Calls Tryz.prog 31 #[.pointer (some ⟨rb,0,none⟩),.int .i64 (n:Int)] w fun e w'=>Ch rb s (Zf.clause true l) w e w':=by
 have HF:=hide (show Zf.clause true l= .inl (er,ps)from Zf.Fl hk hT)
 have HQ:=hide hk
 have I:=hide (fun W (hW:St W rb s l [] (.slice none 0 0) e0)=>term_all 8 W rb s l [] (.slice none 0 0) e0 1 rfl hW)
 rw[hT]at I
 clear hT hk
 have hlt:=h.lt
 obtain⟨hS,hK,hB0,hBc⟩:=lR h (.cells #[.int .i64 0,.int .i64 0,.string ⟨#[]⟩,.slice none 0 0,.slice none 0 0,.slice none 0 0] 76)
 have HS:=hide hS
 have HK:=hide hK
 have aS:=hide hB0
 have HBc:=hide hBc
 clear hS hK hB0 hBc h
 go_enter Tryz.func31,Tryz.ntmps31
 go_wp2_with fail
 refine(rf _ rb s l ns nv e0 n (ae HS) (ae HQ) hn).mono ?_
 rintro e w9 ⟨rfl,hw⟩
 rw[hw]
 clear hw w9
 generalize hw1:((w.alloc (.cells #[.int .i64 0,.int .i64 0,.string ⟨#[]⟩,.slice none 0 0,.slice none 0 0,.slice none 0 0] 76)).alloc (.cells #[.int .i64 0,.int .i64 0,.string ⟨#[]⟩,.slice none 0 0,.slice none 0 0,.slice none 0 0] 76))=w1 at*
 have f4:=(ae HS).rd.f4
 have c4:=(ae HS).rd.c4
 have nI:=(ae HS).lt
 have N:=hide ((ae HS).uD)
 go_wp2_with fail
 clear f4 c4 nI hw1
 have df:=hide ((ae HK).trans (ae N).2)
 have jK:=hide (aF (ae aS) (show w.heap.size≠rb by omega) 4 (.slice none 0 0))
 have HBc1:=hide (aF (ae HBc) (show w.heap.size+1≠rb by omega) 4 (.slice none 0 0))
 generalize w1.setCell ⟨rb,4,none⟩ (.slice none 0 0)=w2 at*
 refine(ae I _ (ae N).1).mono ?_
 rintro e w3 ⟨k,val,tx,ao,an,acap,l',ns',nv',rfl,hs3,hpos,hk3⟩
 obtain⟨a,ha⟩:∃a:TV,a=⟨k,val,tx,ao,an,acap⟩:=⟨_,rfl⟩
 have eI:=hide hs3
 have HP:=hide hpos
 have eo:=hide ((ae df).trans hk3)
 have dF:=hide (aj hk3 (ae jK) (by simp;omega))
 have HBc3:=hide (aj hk3 (ae HBc1) (by simp;omega))
 clear hs3 hpos hk3
 have r0:=ah (ae dF)
 have x0:=au (ae dF)
 have z0:=af (ae dF)
 have rc:=ah (ae HBc3)
 have xc:=au (ae HBc3)
 have zc:=af (ae HBc3)
 go_wp2_with fail
 refine bodyPost_ret (v:= .tuple #[.agg #[.int .i64 k,.int .i64 val,.string tx,.slice ao an acap,.slice none 0 0,.slice none 0 0],.bool false]) (by simp[results,Tryz.results31,go_sem,z0,r0]) rfl ?_
 rw[ae HF]
 have R:=bW (ae eI) (ae eo) hlt (show w.heap.size≤w.heap.size+1 by omega) (ae HBc3) (((((aB.refl _ _).set 0 (.int .i64 k)).set 1 (.int .i64 val)).set 2 (.string tx)).set 3 (.slice ao an acap))
 have qq:=aF (aF (aF (aF (ae dF) (show w.heap.size≠w.heap.size+1 by omega) 0 (.int .i64 k)) (show w.heap.size≠w.heap.size+1 by omega) 1 (.int .i64 val)) (show w.heap.size≠w.heap.size+1 by omega) 2 (.string tx)) (show w.heap.size≠w.heap.size+1 by omega) 3 (.slice ao an acap)
 have R2:=bW R.1 R.2 hlt (Nat.le_refl _) qq (((((((aB.refl _ _).set 0 (.int .i64 k)).set 1 (.int .i64 val)).set 2 (.string tx)).set 3 (.slice ao an acap)).set 4 (.slice none 0 0)).set 5 (.slice none 0 0))
 exact⟨⟨k,val,tx,ao,an,acap⟩,none,0,0,none,0,0,l',ns',nv',rfl,R2.1.below ((Below.refl _ _).alloc (Nat.le_refl _) _),ae HP,R2.2.alloc _⟩
theorem Lt (w:World) (rb:Nat) (s:ByteArray) (l:List Zf.Tok) (ns:List ByteArray) (nv:Value) (e0:Int) (n:Nat) (h:St w rb s l ns nv e0) (hk:(Zf.hd l).kind=2) (hn:n<12) (t:Zf.Tm) (l1:List Zf.Tok) (hT:Zf.term 8 l= .inr (t,l1)) (pW:Zf.sees l1 [58,45]=false):
 Calls Tryz.prog 31 #[.pointer (some ⟨rb,0,none⟩),.int .i64 (n:Int)] w fun e w'=>Ch rb s (Zf.clause true l) w e w':=by
 have HC:=hide (Zf.Du hk hT pW)
 have HQ:=hide hk
 have I:=hide (fun W (hW:St W rb s l [] (.slice none 0 0) e0)=>term_all 8 W rb s l [] (.slice none 0 0) e0 1 rfl hW)
 rw[hT]at I
 clear hT hk
 have hlt:=h.lt
 obtain⟨hS,hK,hB0,hBc⟩:=lR h (.cells #[.int .i64 0,.int .i64 0,.string ⟨#[]⟩,.slice none 0 0,.slice none 0 0,.slice none 0 0] 76)
 have HS:=hide hS
 have HK:=hide hK
 have aS:=hide hB0
 have HBc:=hide hBc
 clear hS hK hB0 hBc h
 go_enter Tryz.func31,Tryz.ntmps31
 go_wp2_with fail
 refine(rf _ rb s l ns nv e0 n (ae HS) (ae HQ) hn).mono ?_
 rintro e w9 ⟨rfl,hw⟩
 rw[hw]
 clear hw w9
 generalize hw1:((w.alloc (.cells #[.int .i64 0,.int .i64 0,.string ⟨#[]⟩,.slice none 0 0,.slice none 0 0,.slice none 0 0] 76)).alloc (.cells #[.int .i64 0,.int .i64 0,.string ⟨#[]⟩,.slice none 0 0,.slice none 0 0,.slice none 0 0] 76))=w1 at*
 have f4:=(ae HS).rd.f4
 have c4:=(ae HS).rd.c4
 have nI:=(ae HS).lt
 have N:=hide ((ae HS).uD)
 go_wp2_with fail
 clear f4 c4 nI hw1
 have df:=hide ((ae HK).trans (ae N).2)
 have jK:=hide (aF (ae aS) (show w.heap.size≠rb by omega) 4 (.slice none 0 0))
 have HBc1:=hide (aF (ae HBc) (show w.heap.size+1≠rb by omega) 4 (.slice none 0 0))
 generalize w1.setCell ⟨rb,4,none⟩ (.slice none 0 0)=w2 at*
 refine(ae I _ (ae N).1).mono ?_
 rintro e w3 ⟨val,tx,ao,acap,ns3,nv3,e3,rfl,mh,hs3,hk3⟩
 have Je:=hide (show RA 8 (aR ns3) anyA w3 ⟨ak t.kind,val,tx,ao,t.args.length,acap⟩ t from (aK.refl w3).ra mh.rep)
 have QO:=hide mh.nms
 clear mh
 have eI:=hide hs3
 have eo:=hide ((ae df).trans hk3)
 have dF:=hide (aj hk3 (ae jK) (by simp;omega))
 have HBc3:=hide (aj hk3 (ae HBc1) (by simp;omega))
 clear hs3 hk3
 generalize ak t.kind=k at*
 generalize t.args.length=an at*
 have rc:=ah (ae HBc3)
 have xc:=au (ae HBc3)
 have zc:=af (ae HBc3)
 have z0:=af (ae dF)
 have QP:w.heap.size<w3.heap.size:=af (ae dF)
 go_wp2_with fail
 clear rc xc zc z0
 have R:=hide (bW (ae eI) (ae eo) hlt (show w.heap.size≤w.heap.size+1 by omega) (ae HBc3) (((((aB.refl _ _).set 0 (.int .i64 k)).set 1 (.int .i64 val)).set 2 (.string tx)).set 3 (.slice ao an acap)))
 have HBc4:=hide (aA (F6 (.int .i64 k) (.int .i64 val) (.string tx) (.slice ao an acap) (ae HBc3)) (.cells #[.int .i64 k,.int .i64 val,.string tx,.slice ao an acap] 74))
 have qq:=hide (aA (aF (aF (aF (aF (ae dF) (show w.heap.size≠w.heap.size+1 by omega) 0 (.int .i64 k)) (show w.heap.size≠w.heap.size+1 by omega) 1 (.int .i64 val)) (show w.heap.size≠w.heap.size+1 by omega) 2 (.string tx)) (show w.heap.size≠w.heap.size+1 by omega) 3 (.slice ao an acap)) (.cells #[.int .i64 k,.int .i64 val,.string tx,.slice ao an acap] 74))
 have iI:=hide ((ae R).1.below ((Below.refl _ _).alloc (Nat.le_refl _) (.cells #[.int .i64 k,.int .i64 val,.string tx,.slice ao an acap] 74)))
 have jX:=hide ((ae R).2.alloc (.cells #[.int .i64 k,.int .i64 val,.string tx,.slice ao an acap] 74))
 have QQ:=hide (((aQ.pq (ae HBc3) (((((aB.refl _ _).set 0 (.int .i64 k)).set 1 (.int .i64 val)).set 2 (.string tx)).set 3 (.slice ao an acap))).trans (aQ.alloc _ (.cells #[.int .i64 k,.int .i64 val,.string tx,.slice ao an acap] 74))).a.ra (ae Je))
 clear R dF HBc3 eI eo Je
 generalize ((((w3.setCell ⟨w.heap.size+1,0,none⟩ (.int .i64 k)).setCell ⟨w.heap.size+1,1,none⟩ (.int .i64 val)).setCell ⟨w.heap.size+1,2,none⟩ (.string tx)).setCell ⟨w.heap.size+1,3,none⟩ (.slice ao an acap)).alloc (.cells #[.int .i64 k,.int .i64 val,.string tx,.slice ao an acap] 74)=w4 at*
 obtain⟨a,ha⟩:∃a:TV,a=⟨k,val,tx,ao,an,acap⟩:=⟨_,rfl⟩
 refine(bD _ rb s l1 ns3 nv3 e3 _ (ae iI)).mono ?_
 rintro e w9 ⟨rfl,hw⟩
 rw[hw]
 simp only[ByteArray.toList_mk]
 rw[pW]
 clear hw w9
 go_wp2_with fail
 refine(bD _ rb s l1 ns3 nv3 e3 _ (ae iI)).mono ?_
 rintro e w9 ⟨rfl,hw⟩
 rw[hw]
 simp only[ByteArray.toList_mk]
 clear hw w9
 cases hst:Zf.sees l1 [46]
 ·have HF:=hide (show Zf.clause true l= .inl (2,(Zf.hd l1).pos)by rw[ae HC,Zf.DW hst];rfl)
  go_wp2_with fail
  refine(dJ _ rb s l1 ns3 nv3 e3 false (ae iI) (fun q=>by cases q)).mono ?_
  rintro e wz ⟨rfl,hsz,fK⟩
  have HSz:=hide hsz
  have HKz:=hide ((ae jX).trans fK)
  have HB0z:=hide (aj fK (ae qq) (by simp;omega))
  have HBcz:=hide (aj fK (ae HBc4) (by simp;omega))
  clear hsz fK
  have r0:=ah (ae HB0z)
  have x0:=au (ae HB0z)
  have z0:=af (ae HB0z)
  have rc:=ah (ae HBcz)
  have zc:=af (ae HBcz)
  go_wp2_with fail
  refine bodyPost_ret (v:= .tuple #[.agg #[.int .i64 k,.int .i64 val,.string tx,.slice ao an acap,.slice none 0 0,.slice none 0 0],.bool false]) (by simp[results,Tryz.results31,go_sem,r0]) rfl ?_
  rw[ae HF]
  have R:=bW (ae HSz) (ae HKz) hlt (Nat.le_refl _) (ae HB0z) (((((((aB.refl _ _).set 0 (.int .i64 k)).set 1 (.int .i64 val)).set 2 (.string tx)).set 3 (.slice ao an acap)).set 4 (.slice none 0 0)).set 5 (.slice none 0 0))
  exact⟨⟨k,val,tx,ao,an,acap⟩,none,0,0,none,0,0,l1,ns3,nv3,rfl,R.1,rfl,R.2⟩
 ·have HF:=hide (show Zf.clause true l= .inr (_,l1.tail)by rw[ae HC,Zf.A1 hst])
  have bY:=hide (show (Zf.hd l1).kind≠0 by rw[Zf.cW hst];omega)
  go_wp2_with fail
  refine(dJ _ rb s l1 ns3 nv3 e3 true (ae iI) (fun _=>ae bY)).mono ?_
  rintro e wz ⟨rfl,hsz,fK⟩
  have HSz:=hide hsz
  have HCLz:=hide (eH.fact ((aQ.ka (ae iI) fK).a.ra (ae QQ)) (ae QO))
  have HKz:=hide ((ae jX).trans fK)
  have HB0z:=hide (aj fK (ae qq) (by simp;omega))
  have HBcz:=hide (aj fK (ae HBc4) (by simp;omega))
  clear hsz fK
  have r0:=ah (ae HB0z)
  have x0:=au (ae HB0z)
  have z0:=af (ae HB0z)
  have rc:=ah (ae HBcz)
  have zc:=af (ae HBcz)
  go_wp2_with fail
  refine bodyPost_ret (v:= .tuple #[.agg #[.int .i64 k,.int .i64 val,.string tx,.slice ao an acap,.slice none 0 0,.slice none 0 0],.bool true]) (by simp[results,Tryz.results31,go_sem,r0]) rfl ?_
  rw[ae HF]
  have R:=bW (ae HSz) (ae HKz) hlt (Nat.le_refl _) (ae HB0z) (((((((aB.refl _ _).set 0 (.int .i64 k)).set 1 (.int .i64 val)).set 2 (.string tx)).set 3 (.slice ao an acap)).set 4 (.slice none 0 0)).set 5 (.slice none 0 0))
  exact⟨⟨k,val,tx,ao,an,acap⟩,none,0,0,none,0,0,ns3,nv3,e3,rfl,(ae HCLz).keep (aQ.pq (ae HB0z) (((((((aB.refl _ _).set 0 (.int .i64 k)).set 1 (.int .i64 val)).set 2 (.string tx)).set 3 (.slice ao an acap)).set 4 (.slice none 0 0)).set 5 (.slice none 0 0))),R.1,R.2⟩
theorem QR (w:World) (rb:Nat) (s:ByteArray) (l:List Zf.Tok) (ns:List ByteArray) (nv:Value) (e0:Int) (n:Nat) (h:St w rb s l ns nv e0) (hk:(Zf.hd l).kind=2) (hn:n<12) (t:Zf.Tm) (l1:List Zf.Tok) (hT:Zf.term 8 l= .inr (t,l1)) (pW:Zf.sees l1 [58,45]=true) (er ps:Nat) (hI:Zf.body l1.tail= .inl (er,ps)):
 Calls Tryz.prog 31 #[.pointer (some ⟨rb,0,none⟩),.int .i64 (n:Int)] w fun e w'=>Ch rb s (Zf.clause true l) w e w':=by
 have HF:=hide (show Zf.clause true l= .inl (er,ps)from Zf.Dv hk hT pW hI)
 have QT:=hide (show (Zf.hd l1).kind≠0 by rw[Zf.cW pW];omega)
 have HI:=hide hI
 clear hI
 have HQ:=hide hk
 have I:=hide (fun W (hW:St W rb s l [] (.slice none 0 0) e0)=>term_all 8 W rb s l [] (.slice none 0 0) e0 1 rfl hW)
 rw[hT]at I
 clear hT hk
 have hlt:=h.lt
 obtain⟨hS,hK,hB0,hBc⟩:=lR h (.cells #[.int .i64 0,.int .i64 0,.string ⟨#[]⟩,.slice none 0 0,.slice none 0 0,.slice none 0 0] 76)
 have HS:=hide hS
 have HK:=hide hK
 have aS:=hide hB0
 have HBc:=hide hBc
 clear hS hK hB0 hBc h
 go_enter Tryz.func31,Tryz.ntmps31
 go_wp2_with fail
 refine(rf _ rb s l ns nv e0 n (ae HS) (ae HQ) hn).mono ?_
 rintro e w9 ⟨rfl,hw⟩
 rw[hw]
 clear hw w9
 generalize hw1:((w.alloc (.cells #[.int .i64 0,.int .i64 0,.string ⟨#[]⟩,.slice none 0 0,.slice none 0 0,.slice none 0 0] 76)).alloc (.cells #[.int .i64 0,.int .i64 0,.string ⟨#[]⟩,.slice none 0 0,.slice none 0 0,.slice none 0 0] 76))=w1 at*
 have f4:=(ae HS).rd.f4
 have c4:=(ae HS).rd.c4
 have nI:=(ae HS).lt
 have N:=hide ((ae HS).uD)
 go_wp2_with fail
 clear f4 c4 nI hw1
 have df:=hide ((ae HK).trans (ae N).2)
 have jK:=hide (aF (ae aS) (show w.heap.size≠rb by omega) 4 (.slice none 0 0))
 have HBc1:=hide (aF (ae HBc) (show w.heap.size+1≠rb by omega) 4 (.slice none 0 0))
 generalize w1.setCell ⟨rb,4,none⟩ (.slice none 0 0)=w2 at*
 refine(ae I _ (ae N).1).mono ?_
 rintro e w3 ⟨val,tx,ao,acap,ns3,nv3,e3,rfl,-,hs3,hk3⟩
 have eI:=hide hs3
 have eo:=hide ((ae df).trans hk3)
 have dF:=hide (aj hk3 (ae jK) (by simp;omega))
 have HBc3:=hide (aj hk3 (ae HBc1) (by simp;omega))
 clear hs3 hk3
 generalize ak t.kind=k at*
 generalize t.args.length=an at*
 have rc:=ah (ae HBc3)
 have xc:=au (ae HBc3)
 have zc:=af (ae HBc3)
 have z0:=af (ae dF)
 have QP:w.heap.size<w3.heap.size:=af (ae dF)
 go_wp2_with fail
 clear rc xc zc z0
 have R:=hide (bW (ae eI) (ae eo) hlt (show w.heap.size≤w.heap.size+1 by omega) (ae HBc3) (((((aB.refl _ _).set 0 (.int .i64 k)).set 1 (.int .i64 val)).set 2 (.string tx)).set 3 (.slice ao an acap)))
 have HBc4:=hide (aA (F6 (.int .i64 k) (.int .i64 val) (.string tx) (.slice ao an acap) (ae HBc3)) (.cells #[.int .i64 k,.int .i64 val,.string tx,.slice ao an acap] 74))
 have qq:=hide (aA (aF (aF (aF (aF (ae dF) (show w.heap.size≠w.heap.size+1 by omega) 0 (.int .i64 k)) (show w.heap.size≠w.heap.size+1 by omega) 1 (.int .i64 val)) (show w.heap.size≠w.heap.size+1 by omega) 2 (.string tx)) (show w.heap.size≠w.heap.size+1 by omega) 3 (.slice ao an acap)) (.cells #[.int .i64 k,.int .i64 val,.string tx,.slice ao an acap] 74))
 have iI:=hide ((ae R).1.below ((Below.refl _ _).alloc (Nat.le_refl _) (.cells #[.int .i64 k,.int .i64 val,.string tx,.slice ao an acap] 74)))
 have jX:=hide ((ae R).2.alloc (.cells #[.int .i64 k,.int .i64 val,.string tx,.slice ao an acap] 74))
 clear R dF HBc3 eI eo
 generalize ((((w3.setCell ⟨w.heap.size+1,0,none⟩ (.int .i64 k)).setCell ⟨w.heap.size+1,1,none⟩ (.int .i64 val)).setCell ⟨w.heap.size+1,2,none⟩ (.string tx)).setCell ⟨w.heap.size+1,3,none⟩ (.slice ao an acap)).alloc (.cells #[.int .i64 k,.int .i64 val,.string tx,.slice ao an acap] 74)=w4 at*
 obtain⟨a,ha⟩:∃a:TV,a=⟨k,val,tx,ao,an,acap⟩:=⟨_,rfl⟩
 refine(bD _ rb s l1 ns3 nv3 e3 _ (ae iI)).mono ?_
 rintro e w9 ⟨rfl,hw⟩
 rw[hw]
 simp only[ByteArray.toList_mk]
 rw[pW]
 clear hw w9
 go_wp2_with fail
 refine(fN _ rb s l1 ns3 nv3 e3 (ae iI) (ae QT)).mono ?_
 rintro e w5 ⟨rfl,hs5,bY⟩
 have ik:=hide hs5
 have jx:=hide ((ae jX).trans bY)
 have kD:=hide (aj bY (ae qq) (by simp;omega))
 have HBc5:=hide (aj bY (ae HBc4) (by simp;omega))
 clear hs5 bY iI jX qq HBc4
 have J:=hide (Cg w5 rb (w.heap.size+1) _ _ _ _ s l1.tail ns3 nv3 e3 (ae ik) (ae HBc5) (by omega) (by omega))
 rw[ae HI]at J
 go_wp2_with fail
 refine(ae J).mono ?_
 rintro e w6 ⟨l6,ns6,nv6,o1,n1,c1,o2,n2,c2,rfl,Jf,hpos,iq,zK⟩
 have HP:=hide hpos
 clear hpos
 have mK:=hide Jf
 have n9:=hide ((((ae jx).mono (Y:=[rb,w.heap.size+1]) (by simp)).trans zK).forget (X:=[rb]) (by simp))
 have vX:=hide (aj zK (ae kD) (by simp;omega))
 have HBc6:=hide iq
 clear Jf zK iq ik jx kD HBc5 J
 have r0:=ah (ae vX)
 have x0:=au (ae vX)
 have z0:=af (ae vX)
 have rc:=ah (ae HBc6)
 have zc:=af (ae HBc6)
 go_wp2_with fail
 refine bodyPost_ret (v:= .tuple #[.agg #[.int .i64 k,.int .i64 val,.string tx,.slice ao an acap,.slice o1 n1 c1,.slice o2 n2 c2],.bool false]) (by simp[results,Tryz.results31,go_sem,r0]) rfl ?_
 rw[ae HF]
 have R:=bW (ae mK) (ae n9) hlt (Nat.le_refl _) (ae vX) (((((((aB.refl _ _).set 0 (.int .i64 k)).set 1 (.int .i64 val)).set 2 (.string tx)).set 3 (.slice ao an acap)).set 4 (.slice o1 n1 c1)).set 5 (.slice o2 n2 c2))
 exact⟨⟨k,val,tx,ao,an,acap⟩,o1,n1,c1,o2,n2,c2,l6,ns6,nv6,rfl,R.1,ae HP,R.2⟩
theorem Lu (w:World) (rb:Nat) (s:ByteArray) (l:List Zf.Tok) (ns:List ByteArray) (nv:Value) (e0:Int) (n:Nat) (h:St w rb s l ns nv e0) (hk:(Zf.hd l).kind=2) (hn:n<12) (t:Zf.Tm) (l1:List Zf.Tok) (hT:Zf.term 8 l= .inr (t,l1)) (pW:Zf.sees l1 [58,45]=true) (tsg gsg:List Zf.aD) (l2:List Zf.Tok) (hI:Zf.body l1.tail= .inr ((tsg,gsg),l2)):
 Calls Tryz.prog 31 #[.pointer (some ⟨rb,0,none⟩),.int .i64 (n:Int)] w fun e w'=>Ch rb s (Zf.clause true l) w e w':=by
 have HC:=hide (Zf.Dw hk hT pW hI)
 have QT:=hide (show (Zf.hd l1).kind≠0 by rw[Zf.cW pW];omega)
 have HI:=hide hI
 clear hI
 have HQ:=hide hk
 have I:=hide (fun W (hW:St W rb s l [] (.slice none 0 0) e0)=>term_all 8 W rb s l [] (.slice none 0 0) e0 1 rfl hW)
 rw[hT]at I
 clear hT hk
 have hlt:=h.lt
 obtain⟨hS,hK,hB0,hBc⟩:=lR h (.cells #[.int .i64 0,.int .i64 0,.string ⟨#[]⟩,.slice none 0 0,.slice none 0 0,.slice none 0 0] 76)
 have HS:=hide hS
 have HK:=hide hK
 have aS:=hide hB0
 have HBc:=hide hBc
 clear hS hK hB0 hBc h
 go_enter Tryz.func31,Tryz.ntmps31
 go_wp2_with fail
 refine(rf _ rb s l ns nv e0 n (ae HS) (ae HQ) hn).mono ?_
 rintro e w9 ⟨rfl,hw⟩
 rw[hw]
 clear hw w9
 generalize hw1:((w.alloc (.cells #[.int .i64 0,.int .i64 0,.string ⟨#[]⟩,.slice none 0 0,.slice none 0 0,.slice none 0 0] 76)).alloc (.cells #[.int .i64 0,.int .i64 0,.string ⟨#[]⟩,.slice none 0 0,.slice none 0 0,.slice none 0 0] 76))=w1 at*
 have f4:=(ae HS).rd.f4
 have c4:=(ae HS).rd.c4
 have nI:=(ae HS).lt
 have N:=hide ((ae HS).uD)
 go_wp2_with fail
 clear f4 c4 nI hw1
 have df:=hide ((ae HK).trans (ae N).2)
 have jK:=hide (aF (ae aS) (show w.heap.size≠rb by omega) 4 (.slice none 0 0))
 have HBc1:=hide (aF (ae HBc) (show w.heap.size+1≠rb by omega) 4 (.slice none 0 0))
 generalize w1.setCell ⟨rb,4,none⟩ (.slice none 0 0)=w2 at*
 refine(ae I _ (ae N).1).mono ?_
 rintro e w3 ⟨val,tx,ao,acap,ns3,nv3,e3,rfl,mh,hs3,hk3⟩
 have Je:=hide (show RA 8 (aR ns3) anyA w3 ⟨ak t.kind,val,tx,ao,t.args.length,acap⟩ t from (aK.refl w3).ra mh.rep)
 have QO:=hide mh.nms
 clear mh
 have eI:=hide hs3
 have eo:=hide ((ae df).trans hk3)
 have dF:=hide (aj hk3 (ae jK) (by simp;omega))
 have HBc3:=hide (aj hk3 (ae HBc1) (by simp;omega))
 clear hs3 hk3
 generalize ak t.kind=k at*
 generalize t.args.length=an at*
 have rc:=ah (ae HBc3)
 have xc:=au (ae HBc3)
 have zc:=af (ae HBc3)
 have z0:=af (ae dF)
 have QP:w.heap.size<w3.heap.size:=af (ae dF)
 go_wp2_with fail
 clear rc xc zc z0
 have R:=hide (bW (ae eI) (ae eo) hlt (show w.heap.size≤w.heap.size+1 by omega) (ae HBc3) (((((aB.refl _ _).set 0 (.int .i64 k)).set 1 (.int .i64 val)).set 2 (.string tx)).set 3 (.slice ao an acap)))
 have HBc4:=hide (aA (F6 (.int .i64 k) (.int .i64 val) (.string tx) (.slice ao an acap) (ae HBc3)) (.cells #[.int .i64 k,.int .i64 val,.string tx,.slice ao an acap] 74))
 have qq:=hide (aA (aF (aF (aF (aF (ae dF) (show w.heap.size≠w.heap.size+1 by omega) 0 (.int .i64 k)) (show w.heap.size≠w.heap.size+1 by omega) 1 (.int .i64 val)) (show w.heap.size≠w.heap.size+1 by omega) 2 (.string tx)) (show w.heap.size≠w.heap.size+1 by omega) 3 (.slice ao an acap)) (.cells #[.int .i64 k,.int .i64 val,.string tx,.slice ao an acap] 74))
 have iI:=hide ((ae R).1.below ((Below.refl _ _).alloc (Nat.le_refl _) (.cells #[.int .i64 k,.int .i64 val,.string tx,.slice ao an acap] 74)))
 have jX:=hide ((ae R).2.alloc (.cells #[.int .i64 k,.int .i64 val,.string tx,.slice ao an acap] 74))
 have QQ:=hide (((aQ.pq (ae HBc3) (((((aB.refl _ _).set 0 (.int .i64 k)).set 1 (.int .i64 val)).set 2 (.string tx)).set 3 (.slice ao an acap))).trans (aQ.alloc _ (.cells #[.int .i64 k,.int .i64 val,.string tx,.slice ao an acap] 74))).a.ra (ae Je))
 clear R dF HBc3 eI eo Je
 generalize ((((w3.setCell ⟨w.heap.size+1,0,none⟩ (.int .i64 k)).setCell ⟨w.heap.size+1,1,none⟩ (.int .i64 val)).setCell ⟨w.heap.size+1,2,none⟩ (.string tx)).setCell ⟨w.heap.size+1,3,none⟩ (.slice ao an acap)).alloc (.cells #[.int .i64 k,.int .i64 val,.string tx,.slice ao an acap] 74)=w4 at*
 obtain⟨a,ha⟩:∃a:TV,a=⟨k,val,tx,ao,an,acap⟩:=⟨_,rfl⟩
 refine(bD _ rb s l1 ns3 nv3 e3 _ (ae iI)).mono ?_
 rintro e w9 ⟨rfl,hw⟩
 rw[hw]
 simp only[ByteArray.toList_mk]
 rw[pW]
 clear hw w9
 go_wp2_with fail
 refine(fN _ rb s l1 ns3 nv3 e3 (ae iI) (ae QT)).mono ?_
 rintro e w5 ⟨rfl,hs5,bY⟩
 have ik:=hide hs5
 have XB:=hide ((aQ.ka (ae iI) bY).a.ra (ae QQ))
 have jx:=hide ((ae jX).trans bY)
 have kD:=hide (aj bY (ae qq) (by simp;omega))
 have HBc5:=hide (aj bY (ae HBc4) (by simp;omega))
 clear hs5 bY iI jX qq HBc4
 have J:=hide (Cg w5 rb (w.heap.size+1) _ _ _ _ s l1.tail ns3 nv3 e3 (ae ik) (ae HBc5) (by omega) (by omega))
 rw[ae HI]at J
 go_wp2_with fail
 refine(ae J).mono ?_
 rintro e w6 ⟨ns6,nv6,e6,o1,n1,c1,o2,n2,c2,rfl,QU,Jf,iq,zK⟩
 have vz:=hide (eH.body ((aQ.QB (ae ik) (ae HBc5) zK).a.ra (ae XB)) (ae QO) QU)
 clear QU
 have mK:=hide Jf
 have n9:=hide ((((ae jx).mono (Y:=[rb,w.heap.size+1]) (by simp)).trans zK).forget (X:=[rb]) (by simp))
 have vX:=hide (aj zK (ae kD) (by simp;omega))
 have HBc6:=hide iq
 clear Jf zK iq ik jx kD HBc5 J
 go_wp2_with fail
 refine(bD _ rb s l2 ns6 nv6 e6 _ (ae mK)).mono ?_
 rintro e w9 ⟨rfl,hw⟩
 rw[hw]
 simp only[ByteArray.toList_mk]
 clear hw w9
 cases hst:Zf.sees l2 [46]
 ·have HF:=hide (show Zf.clause true l= .inl (2,(Zf.hd l2).pos)by rw[ae HC,Zf.DW hst];rfl)
  go_wp2_with fail
  refine(dJ _ rb s l2 ns6 nv6 e6 false (ae mK) (fun q=>by cases q)).mono ?_
  rintro e wz ⟨rfl,hsz,fK⟩
  have HSz:=hide hsz
  have HKz:=hide ((ae n9).trans fK)
  have HB0z:=hide (aj fK (ae vX) (by simp;omega))
  have HBcz:=hide (aj fK (ae HBc6) (by simp;omega))
  clear hsz fK
  have r0:=ah (ae HB0z)
  have x0:=au (ae HB0z)
  have z0:=af (ae HB0z)
  have rc:=ah (ae HBcz)
  have zc:=af (ae HBcz)
  go_wp2_with fail
  refine bodyPost_ret (v:= .tuple #[.agg #[.int .i64 k,.int .i64 val,.string tx,.slice ao an acap,.slice o1 n1 c1,.slice o2 n2 c2],.bool false]) (by simp[results,Tryz.results31,go_sem,r0]) rfl ?_
  rw[ae HF]
  have R:=bW (ae HSz) (ae HKz) hlt (Nat.le_refl _) (ae HB0z) (((((((aB.refl _ _).set 0 (.int .i64 k)).set 1 (.int .i64 val)).set 2 (.string tx)).set 3 (.slice ao an acap)).set 4 (.slice o1 n1 c1)).set 5 (.slice o2 n2 c2))
  exact⟨⟨k,val,tx,ao,an,acap⟩,o1,n1,c1,o2,n2,c2,l2,ns6,nv6,rfl,R.1,rfl,R.2⟩
 ·have HF:=hide (show Zf.clause true l= .inr (_,l2.tail)by rw[ae HC,Zf.A1 hst])
  have bY:=hide (show (Zf.hd l2).kind≠0 by rw[Zf.cW hst];omega)
  go_wp2_with fail
  refine(dJ _ rb s l2 ns6 nv6 e6 true (ae mK) (fun _=>ae bY)).mono ?_
  rintro e wz ⟨rfl,hsz,fK⟩
  have HSz:=hide hsz
  have HCLz:=hide ((ae vz).keep (aQ.ka (ae mK) fK))
  have HKz:=hide ((ae n9).trans fK)
  have HB0z:=hide (aj fK (ae vX) (by simp;omega))
  have HBcz:=hide (aj fK (ae HBc6) (by simp;omega))
  clear hsz fK
  have r0:=ah (ae HB0z)
  have x0:=au (ae HB0z)
  have z0:=af (ae HB0z)
  have rc:=ah (ae HBcz)
  have zc:=af (ae HBcz)
  go_wp2_with fail
  refine bodyPost_ret (v:= .tuple #[.agg #[.int .i64 k,.int .i64 val,.string tx,.slice ao an acap,.slice o1 n1 c1,.slice o2 n2 c2],.bool true]) (by simp[results,Tryz.results31,go_sem,r0]) rfl ?_
  rw[ae HF]
  have R:=bW (ae HSz) (ae HKz) hlt (Nat.le_refl _) (ae HB0z) (((((((aB.refl _ _).set 0 (.int .i64 k)).set 1 (.int .i64 val)).set 2 (.string tx)).set 3 (.slice ao an acap)).set 4 (.slice o1 n1 c1)).set 5 (.slice o2 n2 c2))
  exact⟨⟨k,val,tx,ao,an,acap⟩,o1,n1,c1,o2,n2,c2,ns6,nv6,e6,rfl,(ae HCLz).keep (aQ.pq (ae HB0z) (((((((aB.refl _ _).set 0 (.int .i64 k)).set 1 (.int .i64 val)).set 2 (.string tx)).set 3 (.slice ao an acap)).set 4 (.slice o1 n1 c1)).set 5 (.slice o2 n2 c2))),R.1,R.2⟩
theorem F7 (w:World) (rb:Nat) (s:ByteArray) (l:List Zf.Tok) (ns:List ByteArray) (nv:Value) (e0:Int) (n:Nat) (h:St w rb s l ns nv e0):
 Calls Tryz.prog 31 #[.pointer (some ⟨rb,0,none⟩),.int .i64 (n:Int)] w fun e w'=>Ch rb s (Zf.clause (decide (n<12)) l) w e w':=by
 by_cases hk:(Zf.hd l).kind=2
 ·by_cases hn:n<12
  ·rw[show decide (n<12)=true by simpa using hn]
   rcases hT:Zf.term 8 l with⟨er,ps⟩ | ⟨t,l1⟩
   ·exact Ls w rb s l ns nv e0 n h hk hn er ps hT
   ·cases pW:Zf.sees l1 [58,45]
    ·exact Lt w rb s l ns nv e0 n h hk hn t l1 hT pW
    ·rcases hI:Zf.body l1.tail with⟨er,ps⟩ | ⟨⟨tsg,gsg⟩,l2⟩
     ·exact QR w rb s l ns nv e0 n h hk hn t l1 hT pW er ps hI
     ·exact Lu w rb s l ns nv e0 n h hk hn t l1 hT pW tsg gsg l2 hI
  ·rw[show decide (n<12)=false by simpa using hn]
   exact TK w rb s l ns nv e0 n h hk (by omega)
 ·exact TJ w rb s l ns nv e0 n h hk _
theorem Tryz.info76:(Tryz.prog.info? 76).map (fun i=>(i.zero,i.size,i.bytes))=some (some (.agg #[.int .i64 0,.int .i64 0,.string ⟨#[]⟩,.slice none 0 0,.slice none 0 0,.slice none 0 0]),6,104):=by kernel_rfl
theorem F9 {w:World} {b:Nat} {e:TypeId} {sz:Nat} {v:Value} {n:Nat} {xs:List Value} (h:w.ownsRow b e sz v n xs):∃o cap,v= .slice o n cap:=by
 rcases h.2 with⟨q,rfl⟩ | ⟨g,cap,cur,q,_⟩
 ·exact⟨none,0,q⟩
 ·exact⟨some ⟨g,0,none⟩,cap,q⟩
theorem TL (a:TV) (o1 o2:Option Addr) (n1 c1 n2 c2:Nat):∀u∈([.int .i64 a.k,.int .i64 a.val,.string a.tx,.slice a.ao a.n a.cap,.slice o1 n1 c1,.slice o2 n2 c2]:List Value),u.oneCell'=true:=by
 simp[Value.oneCell']
theorem aQ.grown {w w':World} {b0:Nat} {T:TypeId} {sz:Nat} {av:Value} {n:Nat} {xs:List Value} (ho:w.ownsRow b0 T sz av n xs) (hg:w.grownBy w' av.ownBlock) (hT:T≠74:=by decide) (hJ:T≠125:=by decide):aQ w w':=
 ⟨aK.grown ho hg hT,fun g cs hc _=>(hg.block g (Array.getElem?_eq_some_iff.1 hc).1 (fun q=>by
  rcases ho.2 with⟨rfl,_⟩ | ⟨g',cap,cur,rfl,_,c,_⟩
  ·simp[Value.ownBlock]at q
  ·simp[Value.ownBlock]at q
   subst q
   rw[c]at hc;simp at hc;exact hJ hc.2)).trans hc⟩
structure QV where
 a:TV
 o1:Option Addr
 n1:Nat
 c1:Nat
 o2:Option Addr
 n2:Nat
 c2:Nat
def oh (v:QV):List Value:=[.int .i64 v.a.k,.int .i64 v.a.val,.string v.a.tx,.slice v.a.ao v.a.n v.a.cap,.slice v.o1 v.n1 v.c1,.slice v.o2 v.n2 v.c2]
theorem Ga (vs:List QV):(vs.flatMap oh).length=vs.length*6:=by
 induction vs with
 | nil=>rfl
 | cons a r ih=>rw[List.flatMap_cons,List.length_append,ih];simp[oh];omega
def yB (w:World) (v:QV) (c:Zf.aI):Prop:=eH w v.a v.o1 v.n1 v.o2 v.n2 c
def tI (w:World) (xs:List Value) (ys:List Zf.aI):Prop:=∃vs:List QV,xs=vs.flatMap oh∧bR (yB w) vs ys
theorem tI.keep {w w':World} {xs:List Value} {ys:List Zf.aI} (h:tI w xs ys) (hk:aQ w w'):tI w' xs ys:=by
 obtain⟨vs,rfl,ha⟩:=h
 exact⟨vs,rfl,ha.imp fun _ _ q=>eH.keep q hk⟩
theorem tI.snoc {w:World} {xs:List Value} {ys:List Zf.aI} {v:QV} {x:Zf.aI} (h:tI w xs ys) (q:yB w v x):tI w (xs++oh v) (ys++[x]):=by
 obtain⟨vs,rfl,ha⟩:=h
 exact⟨vs++[v],by simp,bR.snoc q ha⟩
def dh (w:World) (o:Option Addr) (n:Nat) (ys:List Zf.aI):Prop:=n=ys.length∧(ys≠[]→∃(g:Nat) (vs:List QV) (cs:Array Value),o=some ⟨g,0,none⟩∧w.heap[g]?=some (.cells cs 76 (0,0))∧cs.toList.take (vs.length*6)=vs.flatMap oh∧bR (yB w) vs ys)
theorem dh.Cc {w:World} {b0 n cap:Nat} {o:Option Addr} {xs:List Value} {ys:List Zf.aI} (h:tI w xs ys) (ho:w.ownsRow b0 76 6 (.slice o n cap) n xs):dh w o n ys:=by
 obtain⟨vs,rfl,ha⟩:=h
 have hl:=ho.1
 rw[Ga]at hl
 have hl':=ha.length
 refine⟨by omega,fun hne=> ?_⟩
 rcases ho.2 with⟨q,h0⟩ | ⟨g',cap',cur,q,_,hc,_,_,_,ht⟩
 ·exact absurd (List.length_eq_zero_iff.1 (show ys.length=0 by omega)) hne
 ·simp only[Value.slice.injEq,true_and]at q
  obtain⟨rfl,rfl⟩:=q
  exact⟨g',vs,cur,rfl,hc,by rw[show vs.length=n by omega];exact ht,ha⟩
theorem dh.pq {w w':World} {o:Option Addr} {n:Nat} {ys:List Zf.aI} (h:dh w o n ys) {b:Nat} {C:Array Value} {T:TypeId} (hb:w.heap[b]?=some (.cells C T (0,0))) (ho:aB b w w') (hT:T≠74:=by decide) (hJ:T≠125:=by decide) (hC:T≠76:=by decide):dh w' o n ys:=
 ⟨h.1,fun q=>by
  obtain⟨g,vs,cs,h1,h2,h3,h4⟩:=h.2 q
  exact⟨g,vs,cs,h1,(ho.block g (fun e=>by subst e;rw[hb]at h2;simp at h2;exact hC h2.2)).trans h2,h3,h4.imp fun _ _ r=>eH.keep r (aQ.pq hb ho hT hJ)⟩⟩
theorem Lv {w1:World} {s:ByteArray} {L:List Zf.Tok} (aV:dK w1) (h0:0<w1.heap.size) (hL:Zf.ek s L) (hh:Zf.hd L=Zf.next s 0) (hl:L.length≤1000) (hs:s.size≤240):
 St (w1.alloc (.cells #[.string s,.int .i64 ((Zf.next s 0).kind:Int),.int .i64 ((Zf.next s 0).pos:Int),.string (Zf.next s 0).text,.slice none 0 0,.int .i64 0] 71)) w1.heap.size s L [] (.slice none 0 0) 0:=by
 have hb:=heap_alloc_new w1 (.cells #[.string s,.int .i64 ((Zf.next s 0).kind:Int),.int .i64 ((Zf.next s 0).pos:Int),.string (Zf.next s 0).text,.slice none 0 0,.int .i64 0] 71)
 have c:=ah hb
 have f:=au hb
 exact⟨⟨by rw[c];rfl,by rw[c,hh];rfl,by rw[c,hh];rfl,by rw[c,hh];rfl,by rw[c];rfl,by rw[c];rfl,f 1,f 2,f 3,f 4,f 5⟩,World.ownsRow_nil _ _ _ _,hL,⟨0,hh⟩,by simpa using hl,hs,aV.below ((Below.refl _ _).alloc (Nat.le_refl _) _) h0,h0,by simp⟩
def LQ (w:World) (rb:Nat) (s:ByteArray) (L:List Zf.Tok) (k:Nat) (ov:Value) (wr:World):Prop:=
 ∃(n:Nat) (xs:List Value) (l:List Zf.Tok) (ns:List ByteArray) (nv:Value) (e:Int),St wr rb s l ns nv e∧Below w.heap.size w wr∧
  wr.heap[w.heap.size]?=some (.cells #[.slice none 0 0,.int .i64 0,.int .i64 0] 52 (0,0))∧
  wr.ownsRow (rb+1) 76 6 ov n xs∧n≤12∧k+n=13∧∃ys:List Zf.aI,Zf.prog 12 L=Zf.vK ys (Zf.prog (12 - n) l)∧tI wr xs ys
theorem TM {w w5 w7:World} {rb:Nat} {s:ByteArray} {l:List Zf.Tok} {ns:List ByteArray} {nv:Value} {e:Int} {n:Nat} {av:Value} {xs:List Value} {X A Y:Obj}
 (hS:St w5 rb s l ns nv e) (hB:Below w.heap.size w w5) (hw:w.heap.size<rb) (hb:w5.heap[w.heap.size]?=some Y)
 (ho:w5.ownsRow (rb+1) 76 6 av n xs)
 (hg:((w5.alloc X).alloc A).grownBy w7 av.ownBlock):
 St w7 rb s l ns nv e∧Below w.heap.size w w7∧w7.heap[w.heap.size]?=some Y∧aQ w5 w7:=by
 have hlt:=hS.lt
 have h1:Below (rb+1) w5 w7:=(((Below.refl _ _).alloc (by omega) X).alloc (by simp;omega) A).grown hg (by simp;omega) (fun k q=>(ho.lt k q).1)
 have bf:Below w5.heap.size w5 ((w5.alloc X).alloc A):=((Below.refl _ _).alloc (Nat.le_refl _) _).alloc (by simp) _
 have hty:∀k,av.ownBlock=some k→aM ((w5.alloc X).alloc A) k≠some 9:=fun k hk'=>by
  have:=ho.lt k hk'
  rcases ho.2 with⟨rfl,_⟩ | ⟨g,cap,cur,rfl,_,c,_⟩
  ·simp[Value.ownBlock]at hk'
  ·simp[Value.ownBlock]at hk'
   subst hk'
   unfold aM;rw[bf.block g this.2,c];simp
 exact⟨(hS.below bf).grown hg (fun k q=>⟨by have:=(ho.lt k q).1;omega,hty k q⟩),hB.trans (h1.mono (by omega)),(h1.block _ (by omega)).trans hb,((aQ.alloc w5 X).trans (aQ.alloc _ A)).trans (aQ.grown ((ho.alloc X).alloc A) hg)⟩
def VX (r:Zf.dP (List Zf.aI)) (w:World) (e:Ending) (w':World):Prop:=
 ∃(o:Option Addr) (n c:Nat),e= .returned (.agg #[.slice o n c,.int .i64 (Zf.Fm r:Int),.int .i64 (Zf.posOf r:Int)])∧(match r with | .inl _=>n=0 | .inr (ys,_)=>dh w' o n ys)∧Below w.heap.size w w'
theorem Pb (w:World) (s:ByteArray) (L:List Zf.Tok) (hs:s.size≤240) (hL:Zf.ek s L) (hh:Zf.hd L=Zf.next s 0) (hl:L.length≤1000) (aV:dK w) (h0:0<w.heap.size):
 Calls Tryz.prog 20 #[.string s] w fun e w'=>VX (Zf.prog 12 L) w e w':=by
 obtain⟨ti,hi,hz0',Lq,FR⟩:=info_parts Tryz.info76
 have hsz:decide (240<(s.size:Int))=false:=by simp;omega
 have jL:=hide aV
 clear aV
 go_enter Tryz.func20,Tryz.ntmps20
 go_wp2_with fail
 refine(vL s 0 _ (by unfold maxLen;omega) (Nat.zero_le _) ((ae jL).below ((Below.refl _ _).alloc (Nat.le_refl _) _) h0) (by simp)).mono ?_
 rintro e w1 ⟨rfl,hb1⟩
 have Ci:=((ae jL).below ((Below.refl _ _).alloc (Nat.le_refl _) (.cells #[.slice none 0 0,.int .i64 0,.int .i64 0] 52)) h0).below hb1 (by simp)
 have hw1:w.heap.size<w1.heap.size:=by have:=hb1.size;simp at this;omega
 have HL:=hide (show LQ w w1.heap.size s L 13 (.slice none 0 0) (w1.alloc (.cells #[.string s,.int .i64 ((Zf.next s 0).kind:Int),.int .i64 ((Zf.next s 0).pos:Int),.string (Zf.next s 0).text,.slice none 0 0,.int .i64 0] 71))from
  ⟨0,[],L,[],_,0,Lv Ci (by omega) hL hh hl hs,(((Below.refl _ _).alloc (Nat.le_refl _) _).trans (hb1.mono (by simp))).alloc (by omega) _,aA ((hb1.block w.heap.size (by simp)).trans (heap_alloc_new w _)) _,World.ownsRow_nil _ _ _ _,by omega,by omega,[],(Zf.Kn _).symm,[],rfl,trivial⟩)
 clear hb1 Ci jL hL hh hl
 generalize (Zf.next s 0).kind=tk at*
 generalize (Zf.next s 0).pos=tp at*
 generalize (Zf.next s 0).text=tt at*
 go_wp2_with fail
 generalize gY:w1.heap.size=rb at*
 go_loopg [4] 13 (fun k ov wr=>LQ w rb s L k ov wr)
 case atStart=>exact ae HL
 case round=>
  clear HL gY
  obtain⟨n,xs,l,ns,nv,e1,hS,hB,hb0,ho,VY,hkn,ys,htot,hrow⟩:=hrel
  have lj:=hide hrow
  clear hrow
  obtain⟨oo,cp,rfl⟩:=F9 ho
  have HS:=hide hS
  have HB:=hide hB
  have aS:=hide hb0
  have HO:=hide ho
  have tG:=hide htot
  have c1:=hS.rd.c1
  have nI:=hS.lt
  have r0:=ah hb0
  have x0:=au hb0
  have z0:=af hb0
  clear hS hB hb0 ho htot
  by_cases gh:(Zf.hd l).kind=0
  ·have HF:=hide (show Zf.prog 12 L= .inr (ys++[],l)by rw[ae tG,Zf.Ko gh];rfl)
   rw[gh]at c1
   clear gh
   go_wp2_with fail
   refine bodyPost_ret (v:= .agg #[.slice oo n cp,.int .i64 0,.int .i64 0]) (by simp[results,Tryz.results20,go_sem,r0]) rfl ?_
   rw[ae HF]
   have CC:=(dh.Cc (ae lj) (ae HO))
   exact⟨_,_,_,rfl,by rw[List.append_nil];exact CC.pq (ae aS) ((((aB.refl _ _).set 0 (.slice oo n cp)).set 1 (.int .i64 0)).set 2 (.int .i64 0)),(((ae HB).setCell (p:=⟨w.heap.size,0,none⟩) (Nat.le_refl _) _).setCell (p:=⟨w.heap.size,1,none⟩) (Nat.le_refl _) _).setCell (p:=⟨w.heap.size,2,none⟩) (Nat.le_refl _) _⟩
  ·have hq:(((Zf.hd l).kind:Int) != 0)=true:=by simp;omega
   have H0:=hide gh
   have I:=hide (F7 wr rb s l ns nv e1 n (ae HS))
   generalize hC:Zf.clause (decide (n<12)) l=r at I
   have HC:=hide hC
   clear hC gh
   generalize ((Zf.hd l).kind:Int)=q at*
   go_wp2_with fail
   refine(ae I).mono ?_
   clear c1 nI r0 x0 z0 hq
   rcases r with⟨er,pos⟩ | ⟨c,l1⟩
   ·rintro e w5 ⟨a,o1,n1,cc1,o2,n2,cc2,l',ns',nv',rfl,hs5,hpos,bY⟩
    subst hpos
    have HF:=hide (show Zf.prog 12 L= .inl (er,(Zf.hd l').pos)by rw[ae tG,Zf.Kp VY (ae H0) (ae HC)];rfl)
    have bj:=hide ((ae HB).trans (bY.below (by have:=(ae HB).size;omega) (by omega) (by simp;omega)))
    have kD:=hide (aj bY (ae aS) (by simp;omega))
    have c2:=hs5.rd.c2
    have c5:=hs5.rd.c5
    have VZ:=hs5.lt
    have r0:=ah (ae kD)
    have x0:=au (ae kD)
    have z0:=af (ae kD)
    clear hs5 bY
    go_wp2_with fail
    refine bodyPost_ret (v:= .agg #[.slice none 0 0,.int .i64 er,.int .i64 (Zf.hd l').pos]) (by simp[results,Tryz.results20,go_sem,z0,r0]) rfl ?_
    rw[ae HF]
    exact⟨_,_,_,rfl,rfl,((((ae bj).setCell (p:=⟨w.heap.size,0,none⟩) (Nat.le_refl _) _).setCell (p:=⟨w.heap.size,1,none⟩) (Nat.le_refl _) _).setCell (p:=⟨w.heap.size,2,none⟩) (Nat.le_refl _) _).alloc (by simp;omega) _⟩
   ·rintro e w5 ⟨a,o1,n1,cc1,o2,n2,cc2,ns5,nv5,e5,rfl,hcl,hs5,bY⟩
    have AK:=hide (((ae lj).keep (aQ.ka (ae HS) bY)).snoc (v:=⟨a,o1,n1,cc1,o2,n2,cc2⟩) hcl)
    clear hcl
    have ik:=hide hs5
    have bj:=hide ((ae HB).trans (bY.below (by have:=(ae HB).size;omega) (by omega) (by simp;omega)))
    have kD:=hide (aj bY (ae aS) (by simp;omega))
    have Ce:=hide (sM (ae HO) bY (by omega) (by decide))
    have VZ:=hs5.lt
    clear hs5 bY
    go_wp2_with (first | (at_builtin;go_must (refine wpList_append_own _ rfl (.tmp 33) (.tmp 35) 50 rfl (rb+1) 76 ti (.agg #[.int .i64 0,.int .i64 0,.string ⟨#[]⟩,.slice none 0 0,.slice none 0 0,.slice none 0 0]) 6 104 Tryz.underlying50 hi hz0' Lq FR rfl (by decide) _ n xs rfl (((ae Ce).alloc _).alloc _) ⟨w5.heap.size+1,0,none⟩ 1 1 [.int .i64 a.k,.int .i64 a.val,.string a.tx,.slice a.ao a.n a.cap,.slice o1 n1 cc1,.slice o2 n2 cc2] rfl rfl (F4 _ _ _ _ _ (by simp) rfl) (TL a o1 o2 n1 cc1 n2 cc2) (by unfold maxLen;omega) (by omega) (by simp;omega) ?_);go_must (intro v' w7 hown' hgrow _;have AJ:=hide hown';have mJ:=hide (TM (ae ik) (ae bj) hw1 (ae kD) (ae Ce) hgrow);clear hown' hgrow)))
    go_roundg (gk - 1)
    case measure=>omega
    case rel=>
     obtain⟨h12,hm⟩:=Zf.G5 (ae H0) (ae HC)
     exact⟨n+1,_,l1,ns5,nv5,e5,(ae mJ).1,(ae mJ).2.1,(ae mJ).2.2.1,ae AJ,by omega,by omega,ys++[c],by rw[ae tG,hm,Zf.G3],(ae AK).keep (ae mJ).2.2.2⟩
theorem Lx (w:World) (s:ByteArray) (hs:240<s.size):
 Calls Tryz.prog 20 #[.string s] w fun e w'=>e= .returned (.agg #[.slice none 0 0,.int .i64 1,.int .i64 0])∧Below w.heap.size w w':=by
 have hsz:decide (240<(s.size:Int))=true:=by simp;omega
 go_enter Tryz.func20,Tryz.ntmps20
 go_wp2_with fail
 refine bodyPost_ret (v:= .agg #[.slice none 0 0,.int .i64 1,.int .i64 0]) (by simp[results,Tryz.results20,go_sem]) rfl ?_
 exact⟨rfl,((Below.refl _ _).alloc (Nat.le_refl _) _)⟩
end Go.Proofs.YthfjnfcekeknlabGreatDoor
