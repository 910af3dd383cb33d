import Derived.Test.YthfjnfcekeknlaaGreatDoorSu04
import Derived.Maps.AppendAt
import Derived.Deep.AppendLies
import Derived.Deep.LoopGhost
import Derived.Deep.RegionHeld3
import Derived.Deep.RegionLaw
set_option maxHeartbeats 8000000
set_option maxRecDepth 100000
namespace Go.Proofs.YthfjnfcekeknlaaGreatDoor
open Go.RowKit
theorem nQ {w:World} {b:Nat} {cs:Array Value} {T:TypeId} (h:w.heap[b]?=some (.cells cs T (0,0))) (i:Nat) {v:Value} (hv:cs[i]?=some v):w.cell? ⟨b,i,none⟩=some v:=by
 simp[World.cell?,h,hv]
theorem mP {w:World} {b:Nat} {cs:Array Value} {T:TypeId} (h:w.heap[b]?=some (.cells cs T (0,0))) (i:Nat):w.frozen? ⟨b,i,none⟩=false:=by
 simp[World.frozen?,h]
theorem ah {w:World} {b:Nat} {cs:Array Value} {T:TypeId} (h:w.heap[b]?=some (.cells cs T (0,0))):∀i,w.cell? ⟨b,i,none⟩=cs[i]?:=fun i=>by
 simp[World.cell?,h]
theorem ay {w:World} {b:Nat} {cs:Array Value} {T:TypeId} (h:w.heap[b]?=some (.cells cs T (0,0))):∀i,w.frozen? ⟨b,i,none⟩=false:=fun i=>mP h i
theorem NF (w:World) (cs:Array Value) (T:TypeId):(w.alloc (.cells cs T)).heap[w.heap.size]?=some (.cells cs T (0,0)):=heap_alloc_new w _
theorem aB {w:World} {b:Nat} {x:Obj} (h:w.heap[b]?=some x) (o:Obj):(w.alloc o).heap[b]?=some x:=by
 rw[Below.heap_alloc _ _ _ (Array.getElem?_eq_some_iff.1 h).1];exact h
theorem aq {w w':World} {rb b:Nat} {X:List Nat} {cs:Array Value} {T:TypeId} (hk:KA rb X w w') (h:w.heap[b]?=some (.cells cs T (0,0))) (hb:b∉X) (hT:T≠9:=by decide):w'.heap[b]?=some (.cells cs T (0,0)):=
 (hk.block b (Array.getElem?_eq_some_iff.1 h).1 hb (Or.inr (by unfold aP;rw[h];simpa using hT))).trans h
theorem ag {w:World} {b:Nat} {x:Obj} (h:w.heap[b]?=some x):b<w.heap.size:=(Array.getElem?_eq_some_iff.1 h).1
structure aC (b:Nat) (w w':World):Prop where
 os:w'.os=w.os
 tape:w'.tape=w.tape
 output:w'.output=w.output
 size:w'.heap.size=w.heap.size
 block:∀k,k≠b→w'.heap[k]?=w.heap[k]?
 ty:∀k,aP w' k=aP w k
theorem aC.refl (b:Nat) (w:World):aC b w w:=⟨rfl,rfl,rfl,rfl,fun _ _=>rfl,fun _=>rfl⟩
theorem aC.set {b:Nat} {a w:World} (h:aC b a w) (i:Nat) (v:Value):aC b a (w.setCell ⟨b,i,none⟩ v):=
 ⟨h.os,h.tape,h.output,by simp[World.setCell];exact h.size,fun k hk=>(Below.heap_setCell _ _ _ _ hk).trans (h.block k hk),fun k=>(gR _ _ _ _).trans (h.ty k)⟩
theorem St.only {w w':World} {rb:Nat} {s:ByteArray} {l:List Za.aj} {ns:List ByteArray} {nv:Value} {e:Int} {b:Nat} (h:St w rb s l ns nv e) (ho:aC b w w') (hb:b≠rb) (h0:b≠0) (ht:aP w b≠some 9):St w' rb s l ns nv e:=by
 have k:=ho.block
 have c:∀o,w'.cell? ⟨rb,o,none⟩=w.cell? ⟨rb,o,none⟩:=fun o=>World.cell?_of_block (k rb (Ne.symm hb))
 have f:∀o,w'.frozen? ⟨rb,o,none⟩=w.frozen? ⟨rb,o,none⟩:=fun o=>World.frozen?_of_block (k rb (Ne.symm hb))
 have z:∀o,w'.cell? ⟨0,o,none⟩=w.cell? ⟨0,o,none⟩:=fun o=>World.cell?_of_block (k 0 (Ne.symm h0))
 obtain⟨⟨c0,c1,c2,c3,c4,c5,f1,f2,f3,f4,f5⟩,own,chain,isn,few,short,signs,pos,lt⟩:=h
 refine⟨⟨(c 0).trans c0,(c 1).trans c1,(c 2).trans c2,(c 3).trans c3,(c 4).trans c4,(c 5).trans c5,(f 1).trans f1,(f 2).trans f2,(f 3).trans f3,(f 4).trans f4,(f 5).trans f5⟩,⟨own.1,?_⟩,chain,isn,few,short,⟨(z 0).trans signs.s0,(z 1).trans signs.s1,(z 2).trans signs.s2,(z 3).trans signs.s3,(z 4).trans signs.s4⟩,pos,by rw[ho.size];exact lt⟩
 rcases own.2 with q | ⟨g,cap,cur,a,b',c',d⟩
 ·exact Or.inl q
 ·refine Or.inr ⟨g,cap,cur,a,b',?_,d⟩
  rw[k g (fun e=>ht (by rw[←e];unfold aP;rw[c']))]
  exact c'
theorem KA.eI {rb b:Nat} {X:List Nat} {u w w':World} (h:KA rb X u w) (ho:aC b w w') (hb:u.heap.size≤b):KA rb X u w':=
 ⟨ho.os.trans h.os,ho.tape.trans h.tape,ho.output.trans h.output,by rw[ho.size];exact h.size,fun k hk hX ht=>(ho.block k (by omega)).trans (h.block k hk hX ht)⟩
theorem KA.O6 {rb b:Nat} {X:List Nat} {u w w':World} (h:KA rb X u w) (ho:aC b w w') (hb:b∈X):KA rb X u w':=
 h.trans ⟨ho.os,ho.tape,ho.output,by rw[ho.size];exact Nat.le_refl _,fun k _ hX _=>ho.block k (fun e=>hX (e ▸ hb))⟩
theorem O7 {l:List Za.aj} (h:(Za.hd l).kind=5) (g:List UInt8):Za.sees l g=((Za.hd l).text.toList == g):=by simp[Za.sees,h]
theorem NI {l:List Za.aj} (h:(Za.hd l).kind≠5) (g:List UInt8):Za.sees l g=false:=by simp[Za.sees,h]
theorem bK (w:World) (rb:Nat) (s:ByteArray) (l:List Za.aj) (ns:List ByteArray) (nv:Value) (e0:Int) (h:St w rb s l ns nv e0):
 Calls Tryz.prog 133 #[.pointer (some ⟨rb,0,none⟩)] w fun e w'=>e= .returned (.bool (Za.bu l))∧w'=w:=by
 obtain⟨⟨c0,c1,c2,c3,c4,c5,f1,f2,f3,f4,f5⟩,own,chain,isn,few,short,signs,pos,lt⟩:=h
 clear own chain isn few short signs pos lt c0 c2 c4 c5 f1 f2 f3 f4 f5
 by_cases hk:(Za.hd l).kind=5
 ·have HT:=af (show Za.bu l=(((Za.hd l).text.toList == [60])||((Za.hd l).text.toList == [61,60])||((Za.hd l).text.toList == [61,61])||((Za.hd l).text.toList == [92,61]))by simp only[Za.bu,O7 hk])
  rw[hk]at c1
  clear hk
  generalize (Za.hd l).text=tx at*
  cases b1:(tx.toList == [60])
  ·cases b2:(tx.toList == [61,60])
   ·cases b3:(tx.toList == [61,61])
    ·cases b4:(tx.toList == [92,61])
     all_goals
      go_enter Tryz.func133,Tryz.ntmps133
      go_wp2_with fail
      go_ret
      exact⟨cK (by rw[ae HT,b1,b2,b3,b4];rfl),rfl⟩
    ·go_enter Tryz.func133,Tryz.ntmps133
     go_wp2_with fail
     go_ret
     exact⟨cK (by rw[ae HT,b1,b2,b3];rfl),rfl⟩
   ·go_enter Tryz.func133,Tryz.ntmps133
    go_wp2_with fail
    go_ret
    exact⟨cK (by rw[ae HT,b1,b2];rfl),rfl⟩
  ·go_enter Tryz.func133,Tryz.ntmps133
   go_wp2_with fail
   go_ret
   exact⟨cK (by rw[ae HT,b1];rfl),rfl⟩
 ·have HT:=af (show Za.bu l=false by simp[Za.bu,NI hk])
  have fI:(((Za.hd l).kind:Int) != 5)=true:=by simp;omega
  clear hk
  go_enter Tryz.func133,Tryz.ntmps133
  go_wp2_with fail
  go_ret
  exact⟨cK (by rw[ae HT]),rfl⟩
theorem kZ (w:World) (rb:Nat) (s:ByteArray) (l:List Za.aj) (ns:List ByteArray) (nv:Value) (e0:Int) (h:St w rb s l ns nv e0):
 Calls Tryz.prog 177 #[.pointer (some ⟨rb,0,none⟩)] w fun e w'=>e= .returned (.bool (Za.gp l))∧w'=w:=by
 have HT:=af (show Za.gp l=(Za.sees l [43]||Za.sees l [45]||Za.sees l [42])from rfl)
 have H:=af h
 clear h
 cases b1:Za.sees l [43]
 ·cases b2:Za.sees l [45]
  ·go_enter Tryz.func177,Tryz.ntmps177
   go_wp2_with (go_at_call 76;refine(bG _ rb s l ns nv e0 _ (ae H)).mono ?_;rintro e w1 ⟨rfl,hw⟩;rw[hw];clear hw;simp only[ByteArray.toList_mk])
   go_ret
   exact⟨cK (by rw[ae HT,b1,b2];rfl),rfl⟩
  ·go_enter Tryz.func177,Tryz.ntmps177
   go_wp2_with (go_at_call 76;refine(bG _ rb s l ns nv e0 _ (ae H)).mono ?_;rintro e w1 ⟨rfl,hw⟩;rw[hw];clear hw;simp only[ByteArray.toList_mk])
   go_ret
   exact⟨cK (by rw[ae HT,b1,b2];rfl),rfl⟩
 ·go_enter Tryz.func177,Tryz.ntmps177
  go_wp2_with (go_at_call 76;refine(bG _ rb s l ns nv e0 _ (ae H)).mono ?_;rintro e w1 ⟨rfl,hw⟩;rw[hw];clear hw;simp only[ByteArray.toList_mk])
  go_ret
  exact⟨cK (by rw[ae HT,b1];rfl),rfl⟩
theorem jg (w:World) (t:Za.Tm) (val:Int) (tx:ByteArray) (ao:Option Addr) (cap:Nat) (ht:t.kind=2→tx=t.text) (hk:t.kind=2∨t.kind=3∨t.kind=4):
 Calls Tryz.prog 136 #[.agg #[.int .i64 (ak t.kind),.int .i64 val,.string tx,.slice ao t.args.length cap]] w fun e w'=>e= .returned (.bool (Za.isInt t))∧Below w.heap.size w w':=by
 by_cases h2:t.kind=2
 ·have HT:=af (show Za.isInt t=((tx.toList == [105,110,116])&&(t.args.length == 1))by simp[Za.isInt,h2,ht h2])
  have ha:ak t.kind=3:=by rw[h2];rfl
  rw[ha]
  clear ha h2 ht hk
  generalize t.args.length=n at*
  cases b1:(tx.toList == [105,110,116])
  ·go_enter Tryz.func136,Tryz.ntmps136
   go_wp2_with fail
   go_ret
   exact⟨cK (by rw[ae HT,b1];rfl),(Below.refl _ _).alloc (Nat.le_refl _) _⟩
  ·by_cases hn:n=1
   ·have pW:((n:Int) == 1)=true:=by simp;omega
    go_enter Tryz.func136,Tryz.ntmps136
    go_wp2_with fail
    go_ret
    exact⟨cK (by rw[ae HT,b1,hn];rfl),(Below.refl _ _).alloc (Nat.le_refl _) _⟩
   ·have pW:((n:Int) == 1)=false:=by simp;omega
    go_enter Tryz.func136,Tryz.ntmps136
    go_wp2_with fail
    go_ret
    exact⟨cK (by rw[ae HT,b1];simp[hn]),(Below.refl _ _).alloc (Nat.le_refl _) _⟩
 ·have HT:=af (show Za.isInt t=false by simp[Za.isInt,h2])
  have ha:(ak t.kind == 3)=false:=by rcases hk with e | e | e<;>simp_all [ak]
  generalize ak t.kind=q at*
  clear h2 ht hk
  go_enter Tryz.func136,Tryz.ntmps136
  go_wp2_with fail
  go_ret
  exact⟨cK (by rw[ae HT]),(Below.refl _ _).alloc (Nat.le_refl _) _⟩
abbrev TV:=AV
theorem TA.box {f:Nat} {ns ns':List ByteArray} {w W w1:World} {val:Int} {tx:ByteArray} {ao:Option Addr} {cap:Nat} {t:Za.Tm} (h:TA f ns ns' W w1 val tx ao cap t) (hW:w.heap.size<W.heap.size) (v0 v1 v2 v3:Value):
 TA f ns ns' w ((((w1.setCell ⟨w.heap.size,0,none⟩ v0).setCell ⟨w.heap.size,1,none⟩ v1).setCell ⟨w.heap.size,2,none⟩ v2).setCell ⟨w.heap.size,3,none⟩ v3) val tx ao cap t:=by
 refine⟨?_,h.nms⟩
 have r:=h.rep.imp (Q:=fun g=>w.heap.size<g) fun g hg _=>by omega
 exact((((r.set (fun g hg=>by omega) 0 v0).set (fun g hg=>by omega) 1 v1).set (fun g hg=>by omega) 2 v2).set (fun g hg=>by omega) 3 v3).imp fun g hg _=>by omega
def anyA:Nat→Prop:=fun _=>True
structure G1 (ns ns':List ByteArray) (w':World) (b c:TV) (sg op:ByteArray) (x:Za.aH):Prop where
 sign:sg.toList=x.sign
 right:∀r,x.right=some r→RA 8 (aV ns') anyA w' b r
 op:op.toList=x.op
 last:∀z,x.last=some z→RA 8 (aV ns') anyA w' c z
 nms:aV ns'=Za.cG (Za.cG (aV ns) x.right) x.last
theorem aN.ra {w w':World} (h:aN w w') {f:Nat} {N:List (List UInt8)} {P:Nat→Prop} {a:AV} {t:Za.Tm} (q:RA f N P w a t):RA f N anyA w' a t:=q.keep fun g cs _ hc hi=>⟨h g cs hc hi,trivial⟩
theorem aN.refl (w:World):aN w w:=fun _ _ h _=>h
theorem aN.alloc (w:World) (o:Obj):aN w (w.alloc o):=aN.below ((Below.refl _ _).alloc (Nat.le_refl _) o)
theorem aN.only {w w':World} {b:Nat} (ho:aC b w w') (ht:aP w b≠some 76):aN w w':=fun g cs hc _=>(ho.block g (fun q=>by subst q;exact ht (by unfold aP;rw[hc]))).trans hc
def ni (rb:Nat) (s:ByteArray) (a0:TV) (left:Za.Tm) (ns:List ByteArray) (r:Za.dQ Za.aH) (w:World) (e:Ending) (w':World):Prop:=match r with
 | .inl (er,pos)=>∃(a b c:TV) (sg op:ByteArray) (l':List Za.aj) (ns':List ByteArray) (nv':Value),
  e= .returned (.tuple #[.agg #[.int .i64 a.k,.int .i64 a.val,.string a.tx,.slice a.ao a.n a.cap,.string sg,.int .i64 b.k,.int .i64 b.val,.string b.tx,.slice b.ao b.n b.cap,.string op,.int .i64 c.k,.int .i64 c.val,.string c.tx,.slice c.ao c.n c.cap],.bool false])∧St w' rb s l' ns' nv' (er:Int)∧(Za.hd l').pos=pos∧KA rb [rb] w w'
 | .inr (x,l1)=>∃(a b c:TV) (sg op:ByteArray) (ns':List ByteArray) (nv':Value) (e':Int),
  e= .returned (.tuple #[.agg #[.int .i64 a.k,.int .i64 a.val,.string a.tx,.slice a.ao a.n a.cap,.string sg,.int .i64 b.k,.int .i64 b.val,.string b.tx,.slice b.ao b.n b.cap,.string op,.int .i64 c.k,.int .i64 c.val,.string c.tx,.slice c.ao c.n c.cap],.bool true])∧(a=a0∧x.left=left∧G1 ns ns' w' b c sg op x)∧St w' rb s l1 ns' nv' e'∧KA rb [rb] w w'
theorem bW {w w1 w2:World} {rb:Nat} {s:ByteArray} {l:List Za.aj} {ns:List ByteArray} {nv:Value} {e:Int} {b:Nat} {cs:Array Value} {T:TypeId} (h:St w1 rb s l ns nv e) (hk:KA rb [rb] w w1) (hlt:rb<w.heap.size) (hb:w.heap.size≤b) (hc:w1.heap[b]?=some (.cells cs T (0,0))) (ho:aC b w1 w2) (hT:T≠9:=by decide):
 St w2 rb s l ns nv e∧KA rb [rb] w w2:=
 ⟨h.only ho (by omega) (by omega) (by unfold aP;rw[hc];simpa using hT),hk.eI ho hb⟩
theorem yX {w w1 w2:World} {rb:Nat} {s:ByteArray} {l:List Za.aj} {ns:List ByteArray} {nv:Value} {e:Int} {b:Nat} {cs:Array Value} {T:TypeId} (h:St w1 rb s l ns nv e) (hk:KA rb [rb] w w1) (hlt:rb<w.heap.size) (hb:w.heap.size≤b) (hc:w1.heap[b]?=some (.cells cs T (0,0))) (ho:aC b w1 w2) (hT:T≠9:=by decide) (hT':T≠76:=by decide):
 (St w2 rb s l ns nv e∧KA rb [rb] w w2)∧aN w1 w2:=
 ⟨bW h hk hlt hb hc ho hT,aN.only ho (by unfold aP;rw[hc];simpa using hT')⟩
theorem jo (w:World) (rb:Nat) (s:ByteArray) (l:List Za.aj) (ns:List ByteArray) (nv:Value) (e0:Int) (h:St w rb s l ns nv e0):
 Calls Tryz.prog 176 #[.pointer (some ⟨rb,0,none⟩)] w fun e w'=>pT 8 rb s ns (Za.operand l) w e w':=by
 have hb2:Below w.heap.size w (w.alloc boxR):=(Below.refl _ _).alloc (Nat.le_refl _) _
 have H2:=af (h.below hb2)
 have hlt:=h.lt
 have hK0:=af ((KA.refl rb [rb] w).alloc boxR)
 have hB0:=af (NF w #[.int .i64 0,.int .i64 0,.string ⟨#[]⟩,.slice none 0 0] 76)
 have I:=af (fun W (hW:St W rb s l ns nv e0)=>term_all 8 W rb s l ns nv e0 1 rfl hW)
 unfold boxR at H2 hK0
 obtain⟨⟨c0,c1,c2,c3,c4,c5,f1,f2,f3,f4,f5⟩,own,chain,isn,few,short,signs,pos,lt⟩:=h
 clear own chain isn few short signs hb2 c0 c2 c3 c4 c5 f1 f2 f3 f4 f5
 by_cases hk:(Za.hd l).kind=2
 ·have HO:=af (show Za.operand l=Za.bad 2 l by unfold Za.operand;rw[if_pos hk])
  rw[ae HO]
  have fI:(((Za.hd l).kind:Int) == 2)=true:=by simp;omega
  clear hk HO
  go_enter Tryz.func176,Tryz.ntmps176
  go_wp2_with fail
  refine(b8 _ rb s l ns nv e0 2 (ae H2)).mono ?_
  rintro e w1 ⟨rfl,hs,hk⟩
  have HS:=af hs
  have HK:=af ((ae hK0).trans hk)
  have hB:=aq hk (ae hB0) (by simp;omega)
  clear hs hk
  have r0:=nQ (hB) 0 rfl
  have r1:=nQ (hB) 1 rfl
  have r2:=nQ (hB) 2 rfl
  have r3:=nQ (hB) 3 rfl
  have x0:=mP (hB) 0
  have x1:=mP (hB) 1
  have x2:=mP (hB) 2
  have x3:=mP (hB) 3
  have HB:=af hB
  clear hB
  go_wp2_with fail
  have R:=bW (ae HS) (ae HK) hlt (Nat.le_refl _) (ae HB) (((((aC.refl _ _).set 0 (.int .i64 0)).set 1 (.int .i64 0)).set 2 (.string ⟨#[]⟩)).set 3 (.slice none 0 0))
  refine bodyPost_ret (v:= .tuple #[.agg #[.int .i64 0,.int .i64 0,.string ⟨#[]⟩,.slice none 0 0],.bool false]) (by simp[results,Tryz.results176,go_sem,r0,r1,r2,r3]) rfl ?_
  exact⟨_,_,_,_,_,_,l,ns,nv,rfl,R.1,rfl,R.2⟩
 ·have HO:=af (show Za.operand l=Za.term 8 l by unfold Za.operand;rw[if_neg hk])
  rw[ae HO]
  generalize Za.term 8 l=r at I⊢
  have fI:(((Za.hd l).kind:Int) == 2)=false:=by simp;omega
  clear hk HO
  rcases r with⟨er,pos⟩ | ⟨t,l2⟩
  ·go_enter Tryz.func176,Tryz.ntmps176
   go_wp2_with fail
   refine(ae I _ (ae H2)).mono ?_
   rintro e w1 ⟨k,val,tx,ao,n,cap,l',ns',nv',rfl,hs,cu,hk⟩
   have HS:=af hs
   have HP:=af cu
   have HK:=af ((ae hK0).trans hk)
   have hB:=aq hk (ae hB0) (by simp;omega)
   clear hs hk cu
   have r0:=nQ (hB) 0 rfl
   have r1:=nQ (hB) 1 rfl
   have r2:=nQ (hB) 2 rfl
   have r3:=nQ (hB) 3 rfl
   have x0:=mP (hB) 0
   have x1:=mP (hB) 1
   have x2:=mP (hB) 2
   have x3:=mP (hB) 3
   have HB:=af hB
   clear hB
   go_wp2_with fail
   have R:=bW (ae HS) (ae HK) hlt (Nat.le_refl _) (ae HB) (((((aC.refl _ _).set 0 (.int .i64 k)).set 1 (.int .i64 val)).set 2 (.string tx)).set 3 (.slice ao n cap))
   refine bodyPost_ret (v:= .tuple #[.agg #[.int .i64 k,.int .i64 val,.string tx,.slice ao n cap],.bool false]) (by simp[results,Tryz.results176,go_sem,r0,r1,r2,r3]) rfl ?_
   exact⟨_,_,_,_,_,_,l',ns',nv',rfl,R.1,ae HP,R.2⟩
  ·go_enter Tryz.func176,Tryz.ntmps176
   go_wp2_with fail
   refine(ae I _ (ae H2)).mono ?_
   rintro e w1 ⟨val,tx,ao,cap,ns',nv',e',rfl,bj,hs,hk⟩
   have HS:=af hs
   have HP:=af bj
   have HK:=af ((ae hK0).trans hk)
   have hB:=aq hk (ae hB0) (by simp;omega)
   clear hs hk bj
   have r0:=nQ (hB) 0 rfl
   have r1:=nQ (hB) 1 rfl
   have r2:=nQ (hB) 2 rfl
   have r3:=nQ (hB) 3 rfl
   have x0:=mP (hB) 0
   have x1:=mP (hB) 1
   have x2:=mP (hB) 2
   have x3:=mP (hB) 3
   have HB:=af hB
   clear hB
   go_wp2_with fail
   have R:=bW (ae HS) (ae HK) hlt (Nat.le_refl _) (ae HB) (((((aC.refl _ _).set 0 (.int .i64 (ak t.kind))).set 1 (.int .i64 val)).set 2 (.string tx)).set 3 (.slice ao t.args.length cap))
   refine bodyPost_ret (v:= .tuple #[.agg #[.int .i64 (ak t.kind),.int .i64 val,.string tx,.slice ao t.args.length cap],.bool true]) (by simp[results,Tryz.results176,go_sem,r0,r1,r2,r3]) rfl ?_
   exact⟨_,_,_,_,ns',nv',e',rfl,(ae HP).box (by simp) _ _ _ _,R.1,R.2⟩
end Go.Proofs.YthfjnfcekeknlaaGreatDoor
namespace Za
end Za
namespace Go.Proofs.YthfjnfcekeknlaaGreatDoor
open Go.RowKit
theorem G2 {w1:World} {s:ByteArray} {L:List Za.aj} (aW:dM w1) (h0:0<w1.heap.size) (hL:Za.dT s L) (hh:Za.hd L=Za.next s 0) (hl:L.length≤1000) (hs:s.size≤240):
 St (w1.alloc (.cells #[.string s,.int .i64 ((Za.next s 0).kind:Int),.int .i64 ((Za.next s 0).pos:Int),.string (Za.next s 0).text,.slice none 0 0,.int .i64 0] 73)) w1.heap.size s L [] (.slice none 0 0) 0:=by
 have hb:=heap_alloc_new w1 (.cells #[.string s,.int .i64 ((Za.next s 0).kind:Int),.int .i64 ((Za.next s 0).pos:Int),.string (Za.next s 0).text,.slice none 0 0,.int .i64 0] 73)
 have c:=ah hb
 have f:=ay hb
 exact⟨⟨by rw[c];rfl,by rw[c,hh];rfl,by rw[c,hh];rfl,by rw[c,hh];rfl,by rw[c];rfl,by rw[c];rfl,f 1,f 2,f 3,f 4,f 5⟩,World.ownsRow_nil _ _ _ _,hL,⟨0,hh⟩,by simpa using hl,hs,aW.below ((Below.refl _ _).alloc (Nat.le_refl _) _) h0,h0,by simp⟩
theorem gG {w:World} {b:Nat} {e:TypeId} {sz:Nat} {v:Value} {n:Nat} {xs:List Value} (h:w.ownsRow b e sz v n xs):∃o cap,v= .slice o n cap:=by
 rcases h.2 with⟨q,rfl⟩ | ⟨g,cap,cur,q,_⟩
 ·exact⟨none,0,q⟩
 ·exact⟨some ⟨g,0,none⟩,cap,q⟩
theorem aJ (w:World) (b i:Nat) (v:Value) {g:Nat} (h:g≠b):(w.setCell ⟨b,i,none⟩ v).heap[g]?=w.heap[g]?:=Below.heap_setCell _ _ _ _ h
theorem cL (w:World) (p:Addr) (v:Value):(w.setCell p v).heap.size=w.heap.size:=by simp[World.setCell]
theorem ct {b0 b1:Nat} {w:World} {T:TypeId} {sz:Nat} {v:Value} {n:Nat} {xs:List Value} (h:w.ownsRow b1 T sz v n xs) (hb:b0≤b1):w.ownsRow b0 T sz v n xs:=
 ⟨h.1,h.2.imp id fun⟨g,cap,cur,a,b,c,d⟩=>⟨g,cap,cur,a,Nat.le_trans hb b,c,d⟩⟩
theorem NJ (w:World) (rb:Nat) (s:ByteArray) (l:List Za.aj) (ns:List ByteArray) (nv:Value) (e0:Int) (h:St w rb s l ns nv e0) (hk:(Za.hd l).kind=0):
 Calls Tryz.prog 41 #[.pointer (some ⟨rb,0,none⟩)] w fun e w'=>e= .returned (.bool true)∧w'=w:=by
 have c1:=h.rd.c1
 have zr:=h.lt
 rw[hk]at c1
 clear h hk
 go_enter Tryz.func41,Tryz.ntmps41
 go_wp2_with fail
 go_ret
 exact⟨rfl,rfl⟩
theorem NK (w:World) (rb:Nat) (s:ByteArray) (l:List Za.aj) (ns:List ByteArray) (nv:Value) (e0:Int) (h:St w rb s l ns nv e0) (hk:(Za.hd l).kind≠0):
 Calls Tryz.prog 41 #[.pointer (some ⟨rb,0,none⟩)] w fun e w'=>e= .returned (.bool false)∧St w' rb s l ns nv 2∧KA rb [rb] w w':=by
 have c1:=h.rd.c1
 have zr:=h.lt
 have hq:(((Za.hd l).kind:Int) != 0)=true:=by simp;omega
 have H:=af h
 clear h hk
 generalize ((Za.hd l).kind:Int)=gk at*
 go_enter Tryz.func41,Tryz.ntmps41
 go_wp2_with fail
 refine(b8 _ rb s l ns nv e0 2 (ae H)).mono ?_
 rintro e w3 ⟨rfl,hs3,hk3⟩
 have eM:=af hs3
 have eC:=af hk3
 clear hs3 hk3
 go_wp2_with fail
 go_ret
 exact⟨rfl,ae eM,ae eC⟩
theorem qJ {α:Type} {F:α→List Value} {c:Nat} (hF:∀a,(F a).length=c):∀{us:List α} {i:Nat} (h:i<us.length) (j:Nat),j<c→(us.flatMap F)[i*c+j]?=(F us[i])[j]?
 | t :: r,0,_,j,hj=>by rw[List.flatMap_cons,List.getElem?_append_left (by rw[hF];omega)];simp
 | t :: r,i+1,h,j,hj=>by
  rw[List.flatMap_cons,List.getElem?_append_right (by rw[hF,Nat.add_mul];omega),hF]
  rw[show (i+1)*c+j - c=i*c+j by rw[Nat.add_mul];omega]
  simpa using qJ hF (by simpa using h) j hj
def aM (n:Nat):Value:= .int .i64 (n:Int)
theorem infoNd:(Tryz.prog.info? 180).map (fun i=>(i.zero,i.size,i.bytes))=some (some (.agg #[.int .i64 0,.int .i64 0,.string ⟨#[]⟩,.int .i64 0,.slice none 0 0,.int .i64 0,.int .i64 0]),7,80):=by kernel_rfl
theorem infoIn:(Tryz.prog.info? 3).map (fun i=>(i.zero,i.size,i.bytes))=some (some (.int .i64 0),1,8):=by kernel_rfl
theorem iZ (W:World) (n:Nat) (a:Value) (T:TypeId) (hn:n=W.heap.size):∀j u,([a]:List Value)[j]?=some u→(W.alloc (.cells #[a] T)).cell? ((⟨n,0,none⟩:Addr).add j)=some u:=by
 subst hn
 intro j u hj
 match j,hj with
 | 0,hj=>simp at hj;subst hj;simp[Addr.add]
theorem SG (W:World) (n:Nat) (A:Array Value) (T:TypeId) (xs:List Value) (hn:n=W.heap.size) (hx:A.toList=xs):∀j u,xs[j]?=some u→(W.alloc (.cells A T)).cell? ((⟨n,0,none⟩:Addr).add j)=some u:=by
 subst hn hx
 intro j u hj
 have:=ah (heap_alloc_new W (.cells A T)) j
 rw[show (⟨W.heap.size,0,none⟩:Addr).add j=⟨W.heap.size,j,none⟩by cases j<;>simp[Addr.add],this]
 simpa using hj
def jq (a:AV):Int:=if a.k=2 then a.val else 0
theorem qK (w:World) (a:AV):
 Calls Tryz.prog 95 #[.agg #[.int .i64 a.k,.int .i64 a.val,.string a.tx,.slice a.ao a.n a.cap]] w fun e w'=>e= .returned (.agg #[.int .i64 a.k,.int .i64 (jq a),.string a.tx,.int .i64 (a.n:Int)])∧Below w.heap.size w w':=by
 cases hk:(a.k == 2)
 ·have HV:=af (show jq a=0 by unfold jq;rw[if_neg (by simpa using hk)])
  go_enter Tryz.func95,Tryz.ntmps95
  go_wp2_with fail
  refine bodyPost_ret (v:= .agg #[.int .i64 a.k,.int .i64 0,.string a.tx,.int .i64 (a.n:Int)]) (by simp[results,Tryz.results95,go_sem]) rfl ?_
  exact⟨by rw[ae HV],(((Below.refl _ _).alloc (Nat.le_refl _) _).alloc (by simp) _).alloc (by simp;omega) _⟩
 ·have hk2:a.k=2:=by simpa using hk
  have HV:=af (show jq a=a.val by unfold jq;rw[if_pos hk2])
  obtain⟨k,val,tx,ao,n,cap⟩:=a
  dsimp only at hk2 HV⊢
  subst hk2
  clear hk
  go_enter Tryz.func95,Tryz.ntmps95
  go_wp2_with fail
  refine bodyPost_ret (v:= .agg #[.int .i64 2,.int .i64 val,.string tx,.int .i64 (n:Int)]) (by simp[results,Tryz.results95,go_sem]) rfl ?_
  exact⟨by rw[ae HV],(((Below.refl _ _).alloc (Nat.le_refl _) _).alloc (by simp) _).alloc (by simp;omega) _⟩
theorem sY {w:World} {b:Nat} {e:TypeId} {sz:Nat} {v:Value} {n:Nat} {xs:List Value} (h:w.ownsRow b e sz v (n+1) xs):∃g cap,v= .slice (some ⟨g,0,none⟩) (n+1) cap:=by
 rcases h.2 with⟨_,q⟩ | ⟨g,cap,cur,q,_⟩
 ·omega
 ·exact⟨g,cap,q⟩
theorem bR.lr {α β:Type} {R:α→β→Prop}:∀{xs:List α} {ys:List β},bR R xs ys→∀(i:Nat) (h:i<xs.length) (h':i<ys.length),R xs[i] ys[i]
 | _ :: _,_ :: _,q,0,_,_=>q.1
 | _ :: _,_ :: _,q,i+1,h,h'=>bR.lr q.2 i (by simpa using h) (by simpa using h')
theorem NL {us:List AV} {i:Nat} (h:i<us.length) (j:Nat) (hj:j<4):(us.flatMap gM)[i*4+j]?=(gM us[i])[j]?:=qJ (F:=gM) (c:=4) (fun _=>rfl) h j hj
def fU (n:Int):Value:= .int .i64 n
def fH (lb:Nat) (so wo:Option Addr) (k:Nat):Prop:=k=lb∨(∃p,so=some p∧k=p.block)∨(∃p,wo=some p∧k=p.block)
structure mB (w:World) (lb:Nat) (S:List Int) (W:List Nat) (no:Bool) (so:Option Addr) (sc:Nat) (wo:Option Addr) (wc:Nat):Prop where
 blk:w.heap[lb]?=some (.cells #[.slice so S.length sc,.slice wo W.length wc,.bool no] 189 (0,0))
 sown:w.ownsRow (lb+1) 3 1 (.slice so S.length sc) S.length (S.map fU)
 wown:w.ownsRow (lb+1) 3 1 (.slice wo W.length wc) W.length (W.map aM)
 apart:∀p q,so=some p→wo=some q→p.block≠q.block
def dp (w:World) (lb:Nat) (S:List Int) (W:List Nat) (no:Bool) (R:Nat→Prop):Prop:=∃so sc wo wc,mB w lb S W no so sc wo wc∧R=fH lb so wo
theorem mB.rows {w:World} {lb:Nat} {S:List Int} {W:List Nat} {no:Bool} {so:Option Addr} {sc:Nat} {wo:Option Addr} {wc:Nat} (h:mB w lb S W no so sc wo wc):∀k,fH lb so wo k→lb≤k∧k<w.heap.size:=by
 have h1:=ag h.blk
 rintro k (rfl | ⟨p,rfl,rfl⟩ | ⟨p,rfl,rfl⟩)
 ·omega
 ·have:=h.sown.lt p.block rfl;omega
 ·have:=h.wown.lt p.block rfl;omega
theorem mB.keep {w w':World} {lb:Nat} {S:List Int} {W:List Nat} {no:Bool} {so:Option Addr} {sc:Nat} {wo:Option Addr} {wc:Nat} (h:mB w lb S W no so sc wo wc) (hk:∀k,fH lb so wo k→w'.heap[k]?=w.heap[k]?):mB w' lb S W no so sc wo wc:=by
 refine⟨(hk lb (Or.inl rfl)).trans h.blk,ai h.sown (fun g q=>hk g ?_),ai h.wown (fun g q=>hk g ?_),h.apart⟩
 ·cases so with
  | none=>simp[Value.ownBlock]at q
  | some s=>simp[Value.ownBlock]at q;exact Or.inr (Or.inl ⟨s,rfl,q.symm⟩)
 ·cases wo with
  | none=>simp[Value.ownBlock]at q
  | some s=>simp[Value.ownBlock]at q;exact Or.inr (Or.inr ⟨s,rfl,q.symm⟩)
theorem dp.below {w w':World} {lb:Nat} {S:List Int} {W:List Nat} {no:Bool} {R:Nat→Prop} (h:dp w lb S W no R) (hb:Below w.heap.size w w'):dp w' lb S W no R:=by
 obtain⟨so,sc,wo,wc,h,rfl⟩:=h
 exact⟨so,sc,wo,wc,h.keep fun k q=>hb.block k (h.rows k q).2,rfl⟩
theorem yY (w:World) (lb:Nat) (S:List Int) (W:List Nat) (no:Bool) (R:Nat→Prop) (h:dp w lb S W no R):
 Calls Tryz.prog 110 #[.pointer (some ⟨lb,0,none⟩)] w fun e w'=>e= .returned (.int .i64 (if no=true then 2 else if W=[]then 1 else 3))∧w'=w:=by
 obtain⟨so,sc,wo,wc,h,rfl⟩:=h
 have s1:=ah h.blk 1
 have s2:=ah h.blk 2
 have sz:=ag h.blk
 simp only[List.getElem?_toArray,List.getElem?_cons_zero,List.getElem?_cons_succ]at s1 s2
 clear h
 cases no with
 | true=>
  go_enter Tryz.func110,Tryz.ntmps110
  go_wp2_with fail
  go_ret
  exact⟨rfl,rfl⟩
 | false=>
  cases W with
  | nil=>
   go_enter Tryz.func110,Tryz.ntmps110
   go_wp2_with fail
   go_ret
   exact⟨rfl,rfl⟩
  | cons x W=>
   have t1:decide (0<W.length+1)=true:=by simp
   have t2:decide ((0:Int)<(W.length:Int)+1)=true:=by simp
   go_enter Tryz.func110,Tryz.ntmps110
   go_wp2_with fail
   go_ret
   exact⟨by simp,rfl⟩
theorem Bf (w:World) (lb:Nat) (S:List Int) (W:List Nat) (no:Bool) (R:Nat→Prop) (n:Nat) (h:dp w lb S W no R) (hl:W.length≤100000000):
 Calls Tryz.prog 163 #[.pointer (some ⟨lb,0,none⟩),.int .i64 (n:Int)] w fun e w'=>e= .returned (.bool (decide (n∈W)))∧w'=w:=by
 obtain⟨so,sc,wo,wc,h,rfl⟩:=h
 have s1:=ah h.blk 1
 have sz:=ag h.blk
 simp only[List.getElem?_toArray,List.getElem?_cons_zero,List.getElem?_cons_succ]at s1
 have H:=af h
 clear h
 go_enter Tryz.func163,Tryz.ntmps163
 go_wp2_with fail
 go_loopg [12] W.length (fun k iv wr=>∃j:Nat,k+j=W.length∧iv= .int .i64 (j:Int)∧wr=w∧n∉W.take j)
 case atStart=>exact⟨0,by omega,rfl,rfl,by simp⟩
 case round=>
  obtain⟨j,hkj,rfl,rfl,hno⟩:=hrel
  by_cases hlt:j<W.length
  ·obtain⟨g,hg⟩:∃g,wo=some ⟨g,0,none⟩:=by
    rcases(ae H).wown.2 with⟨q,q2⟩ | ⟨g,cp,cur,q,_⟩
    ·omega
    ·simp only[Value.slice.injEq]at q
     exact⟨g,q.1⟩
   subst hg
   have f0:wr.cell? ⟨g,j,none⟩=some (.int .i64 (W[j]:Int)):=by
    rw[(ae H).wown.cellAt j (by omega),List.getElem?_map,List.getElem?_eq_getElem hlt]
    rfl
   have gz:=((ae H).wown.lt g rfl).2
   have i0:(0:Int)≤(j:Int):=by omega
   have i1:(j:Int)<(W.length:Int):=by omega
   by_cases he:W[j]=n
   ·have o5:=af (show n∈W from he ▸ List.getElem_mem hlt)
    rw[he]at f0
    clear he hno hkj
    go_wp2_with fail
    go_ret
    exact⟨by rw[decide_eq_true (ae o5)];rfl,rfl⟩
   ·have gQ:=af hno
    have HE:=af he
    have bh:=af hlt
    have aT:=af hkj
    have t1:(((W[j]:Nat):Int) == ((n:Nat):Int))=false:=by simp;omega
    have HM:=af (show W.take (j+1)=W.take j++[W[j]]by rw[List.take_add_one,List.getElem?_eq_getElem hlt];rfl)
    generalize hm:W[j]=m at*
    clear he hno hkj hm
    go_wp2_with fail
    go_roundg (gk - 1)
    case measure=>have:=ae aT;have:=ae bh;omega
    case rel=>
     refine⟨j+1,by have:=ae aT;have:=ae bh;omega,by go_num,rfl,?_⟩
     rw[ae HM]
     simp only[List.mem_append,List.mem_singleton,not_or]
     exact⟨ae gQ,fun q=>ae HE q.symm⟩
  ·have Fb:n∉W:=by rwa [List.take_of_length_le (by omega)]at hno
   have gQ:=af Fb
   clear hno Fb
   obtain rfl:j=W.length:=by omega
   go_wp2_with fail
   go_ret
   exact⟨by rw[decide_eq_false (ae gQ)];rfl,rfl⟩
theorem mB.SH {w W w1:World} {lb:Nat} {S:List Int} {T:List Nat} {no:Bool} {so:Option Addr} {sc:Nat} {wo:Option Addr} {wc:Nat} (h:mB w lb S T no so sc wo wc) (hW:Below w.heap.size w W) {g cap' n:Nat}
 (hown:w1.ownsRow (lb+1) 3 1 (.slice (some ⟨g,0,none⟩) (T.length+1) cap') (T.length+1) (T.map aM++[aM n])) (hg:W.grownBy w1 (Value.slice wo T.length wc).ownBlock) (hat:(Value.slice wo T.length wc).ownBlock=some g∨w.heap.size≤g):
 mB (w1.setCell ⟨lb,1,none⟩ (.slice (some ⟨g,0,none⟩) (T.length+1) cap')) lb S (T++[n]) no so sc (some ⟨g,0,none⟩) cap'∧au (fH lb so wo) (fH lb so (some ⟨g,0,none⟩)) w (w1.setCell ⟨lb,1,none⟩ (.slice (some ⟨g,0,none⟩) (T.length+1) cap')):=by
 have hz:=hW.size
 have s0:=ag h.blk
 have keep:∀k,k<w.heap.size→k≠lb→(∀p,wo=some p→k≠p.block)→(w1.setCell ⟨lb,1,none⟩ (.slice (some ⟨g,0,none⟩) (T.length+1) cap')).heap[k]?=w.heap[k]?:=fun k h1 h2 h3=>by
  rw[aJ _ _ _ _ h2,hg.block k (by omega) (iY h3),hW.block k h1]
 have row:∀k,fH lb so (some ⟨g,0,none⟩) k→fH lb so wo k∨w.heap.size≤k:=by
  rintro k (e | e | ⟨p,q,e⟩)
  ·exact Or.inl (Or.inl e)
  ·exact Or.inl (Or.inr (Or.inl e))
  ·cases q
   dsimp only at e
   rcases hat with a | a
   ·left
    right
    right
    cases wo with
    | none=>simp[Value.ownBlock]at a
    | some s=>simp[Value.ownBlock]at a;exact⟨s,rfl,by omega⟩
   ·right;omega
 have keepR:∀k,k<w.heap.size→¬fH lb so wo k→(w1.setCell ⟨lb,1,none⟩ (.slice (some ⟨g,0,none⟩) (T.length+1) cap')).heap[k]?=w.heap[k]?:=fun k hk hr=>keep k hk (fun e=>hr (Or.inl e)) (fun p q e=>hr (Or.inr (Or.inr ⟨p,q,e⟩)))
 refine⟨⟨?_,?_,?_,?_⟩,⟨hg.os.trans hW.os,hg.tape.trans hW.tape,hg.output.trans hW.output,by rw[cL];have:=hg.size;omega,keepR,row⟩⟩
 ·have q0:w1.heap[lb]?=some (.cells #[.slice so S.length sc,.slice wo T.length wc,.bool no] 189 (0,0)):=by
   rw[hg.block lb (by omega) (iY (fun p q e=>by have:=h.wown.lt p.block (by rw[q];rfl);omega)),hW.block lb s0]
   exact h.blk
  have:=aA q0 1 (.slice (some ⟨g,0,none⟩) (T.length+1) cap')
  simpa using this
 ·refine ai h.sown (fun k q=>keep k (h.sown.lt k q).2 (by have:=(h.sown.lt k q).1;omega) (fun p e r=> ?_))
  cases so with
  | none=>simp[Value.ownBlock]at q
  | some s=>simp[Value.ownBlock]at q;exact h.apart s p rfl e (by omega)
 ·have:=ai hown (w':=w1.setCell ⟨lb,1,none⟩ (.slice (some ⟨g,0,none⟩) (T.length+1) cap')) (fun k q=>aJ _ _ _ _ (by have:=(hown.lt k q).1;omega))
  simpa using this
 ·intro p q hp hq
  cases hq
  have hsp:=(h.sown.lt p.block (by rw[hp];rfl)).2
  rcases hat with a | a
  ·cases wo with
   | none=>simp[Value.ownBlock]at a
   | some s=>simp[Value.ownBlock]at a;have:=h.apart p s hp rfl;dsimp only;omega
  ·dsimp only;omega
def Fc (T:List Nat) (n:Nat):List Nat:=if n∈T then T else T++[n]
theorem G3 (w:World) (lb:Nat) (S:List Int) (T:List Nat) (no:Bool) (R:Nat→Prop) (n:Nat) (h:dp w lb S T no R) (hl:T.length≤100000000):
 Calls Tryz.prog 189 #[.pointer (some ⟨lb,0,none⟩),.int .i64 (n:Int)] w fun e w'=>e= .returned (.tuple #[])∧∃R',dp w' lb S (Fc T n) no R'∧au R R' w w':=by
 have HF:=af (Bf w lb S T no R n h hl)
 have HA:=af h
 obtain⟨so,sc,wo,wc,h,rfl⟩:=h
 have s1:=ah h.blk 1
 have sf:=ay h.blk 1
 have sz:=ag h.blk
 simp only[List.getElem?_toArray,List.getElem?_cons_zero,List.getElem?_cons_succ]at s1
 have H:=af h
 have sZ:=af (show some lb≠(Value.slice wo T.length wc).ownBlock from fun q=>by have:=(h.wown.lt lb q.symm).1;omega)
 obtain⟨tj,hj,iM,iN,iO⟩:=info_parts infoIn
 clear h
 by_cases hm:n∈T
 ·have HM:=af hm
  rw[decide_eq_true hm]at HF
  clear hm
  go_enter Tryz.func189,Tryz.ntmps189
  go_wp2_with fail
  refine(ae HF).mono ?_
  rintro e w2 ⟨rfl,rfl⟩
  go_wp2_with fail
  go_end0
  refine⟨rfl,_,?_,au.aw (Below.refl _ _)⟩
  unfold Fc
  rw[if_pos (ae HM)]
  exact ae HA
 ·have HM:=af hm
  rw[decide_eq_false hm]at HF
  clear hm
  go_enter Tryz.func189,Tryz.ntmps189
  go_wp2_with fail
  refine(ae HF).mono ?_
  rintro e w2 ⟨rfl,rfl⟩
  go_wp2_with (at_builtin;go_must (refine wpList_append_own_at _ rfl (.tmp 12) (.tmp 14) 25 rfl (lb+1) 3 tj (.int .i64 0) 1 8 Tryz.underlying25 hj iM iN iO rfl (by decide) _ T.length (T.map aM) rfl ((ae H).wown.alloc _) ⟨w2.heap.size,0,none⟩ 1 1 [.int .i64 (n:Int)] rfl rfl (iZ _ _ _ _ rfl) (by simp[Value.oneCell']) (by unfold maxLen;omega) (by omega) (by simp;omega) ?_);go_must (intro v' w7 hown' hgrow _ hat;obtain⟨g',cap',hv'⟩:=sY hown';subst hv';have HN:=af ((ae H).SH ((Below.refl _ _).alloc (Nat.le_refl _) _) (n:=n) hown' hgrow (by rcases hat with q | q;exact Or.inl q.symm;(right;simp[Value.ownBlock]at q;omega)));have k1:=(hgrow.cell_far ⟨lb,1,none⟩ (by simp;omega) (ae sZ)).trans ((World.cell?_alloc_past _ _ _ sz).trans s1);have k3:w7.frozen? ⟨lb,1,none⟩=false:=(by have:=ay (ae HN).1.blk 1;rwa [World.frozen?_setCell]at this);have zz7:lb<w7.heap.size:=(by have:=ag (ae HN).1.blk;rwa [cL]at this);clear hown' hgrow hat))
  go_end0
  refine⟨rfl,_,?_,(ae HN).2⟩
  unfold Fc
  rw[if_neg (ae HM)]
  exact⟨_,_,_,_,(ae HN).1,rfl⟩
theorem mB.bad {w:World} {lb:Nat} {S:List Int} {T:List Nat} {no:Bool} {so:Option Addr} {sc:Nat} {wo:Option Addr} {wc:Nat} (h:mB w lb S T no so sc wo wc):mB (w.setCell ⟨lb,2,none⟩ (.bool true)) lb S T true so sc wo wc∧au (fH lb so wo) (fH lb so wo) w (w.setCell ⟨lb,2,none⟩ (.bool true)):=by
 refine⟨⟨?_,ai h.sown (fun g q=>aJ _ _ _ _ (by have:=(h.sown.lt g q).1;omega)),ai h.wown (fun g q=>aJ _ _ _ _ (by have:=(h.wown.lt g q).1;omega)),h.apart⟩,rfl,rfl,rfl,by rw[cL];exact Nat.le_refl _,fun k _ hr=>aJ _ _ _ _ (fun e=>hr (Or.inl e)),fun _ q=>Or.inl q⟩
 have:=aA h.blk 2 (.bool true)
 simpa using this
theorem dp.rows {w:World} {lb:Nat} {S:List Int} {T:List Nat} {no:Bool} {R:Nat→Prop} (h:dp w lb S T no R):∀k,R k→lb≤k∧k<w.heap.size:=by
 obtain⟨so,sc,wo,wc,h,rfl⟩:=h
 exact h.rows
theorem dp.under {w w' u:World} {lb:Nat} {S:List Int} {T:List Nat} {no:Bool} {R R':Nat→Prop} (h:dp w lb S T no R) (hf:au R R' w w') (hu:Below u.heap.size u w) (hl:u.heap.size≤lb):Below u.heap.size u w':=
 ⟨hf.os.trans hu.os,hf.tape.trans hu.tape,hf.output.trans hu.output,Nat.le_trans hu.size hf.size,fun k hk=>(hf.block k (by have:=hu.size;omega) (fun q=>by have:=(h.rows k q).1;omega)).trans (hu.block k hk)⟩
end Go.Proofs.YthfjnfcekeknlaaGreatDoor
namespace Za
def aD (ns:List (List UInt8)) (xs:List aH):List (List UInt8):=xs.foldl aQ ns
theorem G4 {α:Type} {F:List (List UInt8)→α→List (List UInt8)} {c:Nat} (xs:List α):(∀t∈xs,∀ns,∃M,F ns t=ns++M∧M.length≤c)→∀ns,∃M,xs.foldl F ns=ns++M∧M.length≤xs.length*c:=by
 induction xs with
 | nil=>exact fun _ ns=>⟨[],by simp,by simp⟩
 | cons t ts ih=>
  intro h ns
  obtain⟨M,hM,hl⟩:=h t (by simp) ns
  obtain⟨M2,hM2,hl2⟩:=ih (fun u hu=>h u (by simp[hu])) (F ns t)
  refine⟨M++M2,by rw[List.foldl_cons,hM2,hM,List.append_assoc],?_⟩
  rw[List.length_append,List.length_cons,Nat.add_mul]
  omega
theorem td (xs:List aH) (h:∀x∈xs,G0 x) (ns:List (List UInt8)):∃M,xs.foldl aQ ns=ns++M∧M.length≤xs.length*20000:=
 G4 (F:=aQ) (c:=20000) xs (fun t ht=>xj t (h t ht)) ns
end Za
