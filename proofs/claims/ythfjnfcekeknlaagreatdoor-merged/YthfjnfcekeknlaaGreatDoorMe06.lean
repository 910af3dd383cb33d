import Derived.Test.YthfjnfcekeknlaaGreatDoorMe04
import Derived.Deep.LoopGhost
import Derived.Deep.RegionHeld3
set_option maxHeartbeats 8000000
set_option maxRecDepth 100000
namespace Go.Proofs.YthfjnfcekeknlaaGreatDoor
open Go.RowKit
theorem dp.rows {w:World} {lb:Nat} {S:List Int} {T:List Nat} {no:Bool} {R:Nat→Prop} (h:dp w lb S T no R):∀k,R k→lb≤k∧k<w.heap.size:=by
 obtain⟨so,sc,wo,wc,h,rfl⟩:=h
 exact h.rows
theorem dp.under {w w' u:World} {lb:Nat} {S:List Int} {T:List Nat} {no:Bool} {R R':Nat→Prop} (h:dp w lb S T no R) (hf:au R R' w w') (hu:Below u.heap.size u w) (hl:u.heap.size≤lb):Below u.heap.size u w':=
 ⟨hf.os.trans hu.os,hf.tape.trans hu.tape,hf.output.trans hu.output,Nat.le_trans hu.size hf.size,fun k hk=>(hf.block k (by have:=hu.size;omega) (fun q=>by have:=(h.rows k q).1;omega)).trans (hu.block k hk)⟩
theorem Ie {x y:ByteArray} (h:x.toList=y.toList):x=y:=by
 rw[ByteArray.toList_eq,ByteArray.toList_eq]at h
 exact ByteArray.ext (Array.ext' h)
theorem mI.P6 {w W w1:World} {lb:Nat} {S:List Int} {T:List Nat} {no:Bool} {so:Option Addr} {sc:Nat} {wo:Option Addr} {wc:Nat} (h:mI w lb S T no so sc wo wc) (hW:Below w.heap.size w W) {g cap':Nat} {n:Int}
 (hown:w1.ownsRow (lb+1) 3 1 (.slice (some ⟨g,0,none⟩) (S.length+1) cap') (S.length+1) (S.map fX++[fX n])) (hg:W.grownBy w1 (Value.slice so S.length sc).ownBlock) (hat:(Value.slice so S.length sc).ownBlock=some g∨w.heap.size≤g):
 mI (w1.setCell ⟨lb,0,none⟩ (.slice (some ⟨g,0,none⟩) (S.length+1) cap')) lb (S++[n]) T no (some ⟨g,0,none⟩) cap' wo wc∧au (fJ lb so wo) (fJ lb (some ⟨g,0,none⟩) wo) w (w1.setCell ⟨lb,0,none⟩ (.slice (some ⟨g,0,none⟩) (S.length+1) cap')):=by
 have hz:=hW.size
 have s0:=ag h.blk
 have keep:∀k,k<w.heap.size→k≠lb→(∀p,so=some p→k≠p.block)→(w1.setCell ⟨lb,0,none⟩ (.slice (some ⟨g,0,none⟩) (S.length+1) cap')).heap[k]?=w.heap[k]?:=fun k h1 h2 h3=>by
  rw[aL _ _ _ _ h2,hg.block k (by omega) (jc h3),hW.block k h1]
 have row:∀k,fJ lb (some ⟨g,0,none⟩) wo k→fJ lb so wo k∨w.heap.size≤k:=by
  rintro k (e | ⟨p,q,e⟩ | e)
  ·exact Or.inl (Or.inl e)
  ·cases q
   dsimp only at e
   rcases hat with a | a
   ·left
    right
    left
    cases so with
    | none=>simp[Value.ownBlock]at a
    | some s=>simp[Value.ownBlock]at a;exact⟨s,rfl,by omega⟩
   ·right;omega
  ·exact Or.inl (Or.inr (Or.inr e))
 have keepR:∀k,k<w.heap.size→¬fJ lb so wo k→(w1.setCell ⟨lb,0,none⟩ (.slice (some ⟨g,0,none⟩) (S.length+1) cap')).heap[k]?=w.heap[k]?:=fun k hk hr=>keep k hk (fun e=>hr (Or.inl e)) (fun p q e=>hr (Or.inr (Or.inl ⟨p,q,e⟩)))
 refine⟨⟨?_,?_,?_,?_⟩,⟨hg.os.trans hW.os,hg.tape.trans hW.tape,hg.output.trans hW.output,by rw[cN];have:=hg.size;omega,keepR,row⟩⟩
 ·have q0:w1.heap[lb]?=some (.cells #[.slice so S.length sc,.slice wo T.length wc,.bool no] 189 (0,0)):=by
   rw[hg.block lb (by omega) (jc (fun p q e=>by have:=h.sown.lt p.block (by rw[q];rfl);omega)),hW.block lb s0]
   exact h.blk
  have:=aA q0 0 (.slice (some ⟨g,0,none⟩) (S.length+1) cap')
  simpa using this
 ·have:=ai hown (w':=w1.setCell ⟨lb,0,none⟩ (.slice (some ⟨g,0,none⟩) (S.length+1) cap')) (fun k q=>aL _ _ _ _ (by have:=(hown.lt k q).1;omega))
  simpa using this
 ·refine ai h.wown (fun k q=>keep k (h.wown.lt k q).2 (by have:=(h.wown.lt k q).1;omega) (fun p e r=> ?_))
  cases wo with
  | none=>simp[Value.ownBlock]at q
  | some s=>simp[Value.ownBlock]at q;exact h.apart p s e rfl (by omega)
 ·intro p q hp hq
  cases hp
  have hsp:=(h.wown.lt q.block (by rw[hq];rfl)).2
  rcases hat with a | a
  ·cases so with
   | none=>simp[Value.ownBlock]at a
   | some s=>simp[Value.ownBlock]at a;have:=h.apart s q rfl hq;dsimp only;omega
  ·dsimp only;omega
theorem mI.put {w:World} {lb:Nat} {S:List Int} {T:List Nat} {no:Bool} {g sc:Nat} {wo:Option Addr} {wc:Nat} (h:mI w lb S T no (some ⟨g,0,none⟩) sc wo wc) {i:Nat} (_hi:i<S.length) (n:Int):
 mI (w.setCell ⟨g,i,none⟩ (.int .i64 n)) lb (S.set i n) T no (some ⟨g,0,none⟩) sc wo wc∧au (fJ lb (some ⟨g,0,none⟩) wo) (fJ lb (some ⟨g,0,none⟩) wo) w (w.setCell ⟨g,i,none⟩ (.int .i64 n)):=by
 have hg:=h.sown.lt g rfl
 refine⟨⟨?_,?_,ai h.wown (fun k q=>aL _ _ _ _ (fun e=> ?_)),h.apart⟩,rfl,rfl,rfl,by rw[cN];exact Nat.le_refl _,fun k _ hr=>aL _ _ _ _ (fun e=>hr (Or.inr (Or.inl ⟨_,rfl,e⟩))),fun _ q=>Or.inl q⟩
 ·rw[aL _ _ _ _ (by omega),List.length_set]
  exact h.blk
 ·rcases h.sown.2 with⟨q,_⟩ | ⟨g',cap,cur,q1,q2,q3,q4,q5,q6,q7⟩
  ·cases q
  ·simp only[Value.slice.injEq,Option.some.injEq,Addr.mk.injEq]at q1
   obtain⟨⟨rfl,_,_⟩,_,rfl⟩:=q1
   refine⟨by simp,Or.inr ⟨g,sc,cur.setIfInBounds i (.int .i64 n),by rw[List.length_set],q2,by exact aA q3 i (.int .i64 n),by rw[List.length_set];exact q4,q5,by simp[q6],?_⟩⟩
   rw[List.length_set,List.map_set,←q7,Array.toList_setIfInBounds,Nat.mul_one,List.take_set]
   rfl
 ·cases wo with
  | none=>simp[Value.ownBlock]at q
  | some s=>simp[Value.ownBlock]at q;exact h.apart ⟨g,0,none⟩ s rfl rfl (by dsimp only at e⊢;omega)
end Go.Proofs.YthfjnfcekeknlaaGreatDoor
namespace Zc
def aC (ns:List (List UInt8)) (xs:List aH):List (List UInt8):=xs.foldl aO ns
theorem Ig {α:Type} {F:List (List UInt8)→α→List (List UInt8)} {c:Nat} (xs:List α):(∀t∈xs,∀ns,∃M,F ns t=ns++M∧M.length≤c)→∀ns,∃M,xs.foldl F ns=ns++M∧M.length≤xs.length*c:=by
 induction xs with
 | nil=>exact fun _ ns=>⟨[],by simp,by simp⟩
 | cons t ts ih=>
  intro h ns
  obtain⟨M,hM,hl⟩:=h t (by simp) ns
  obtain⟨M2,hM2,hl2⟩:=ih (fun u hu=>h u (by simp[hu])) (F ns t)
  refine⟨M++M2,by rw[List.foldl_cons,hM2,hM,List.append_assoc],?_⟩
  rw[List.length_append,List.length_cons,Nat.add_mul]
  omega
theorem tE (xs:List aH) (h:∀x∈xs,Ho x) (ns:List (List UInt8)):∃M,xs.foldl aO ns=ns++M∧M.length≤xs.length*20000:=
 Ig (F:=aO) (c:=20000) xs (fun t ht=>xB t (h t ht)) ns
end Zc
namespace Go.Proofs.YthfjnfcekeknlaaGreatDoor
open Go.RowKit
def boxZ:Obj:= .cells #[.int .i64 0,.int .i64 0,.string ⟨#[]⟩,.slice none 0 0,.string ⟨#[]⟩,.int .i64 0,.int .i64 0,.string ⟨#[]⟩,.slice none 0 0,.string ⟨#[]⟩,.int .i64 0,.int .i64 0,.string ⟨#[]⟩,.slice none 0 0] 151
def kF (a:TV):Obj:= .cells #[.int .i64 a.k,.int .i64 a.val,.string a.tx,.slice a.ao a.n a.cap] 76
def lp (a:TV) (tx:ByteArray):Obj:= .cells #[.int .i64 a.k,.int .i64 a.val,.string a.tx,.slice a.ao a.n a.cap,.string tx,.int .i64 0,.int .i64 0,.string ⟨#[]⟩,.slice none 0 0,.string ⟨#[]⟩,.int .i64 0,.int .i64 0,.string ⟨#[]⟩,.slice none 0 0] 151
theorem jV {w:World} {rb:Nat} {s:ByteArray} {l:List Zc.aj} {ns:List ByteArray} {nv:Value} {e0:Int} (a:TV) (tx:ByteArray) (h:St w rb s l ns nv e0):
 St (((w.alloc (kF a)).alloc boxZ).alloc (lp a tx)).drew rb s l ns nv e0∧KA rb [rb] w (((w.alloc (kF a)).alloc boxZ).alloc (lp a tx)).drew∧
 (((w.alloc (kF a)).alloc boxZ).alloc (lp a tx)).drew.heap[w.heap.size+1]?=some (.cells #[.int .i64 0,.int .i64 0,.string ⟨#[]⟩,.slice none 0 0,.string ⟨#[]⟩,.int .i64 0,.int .i64 0,.string ⟨#[]⟩,.slice none 0 0,.string ⟨#[]⟩,.int .i64 0,.int .i64 0,.string ⟨#[]⟩,.slice none 0 0] 151 (0,0))∧
 (((w.alloc (kF a)).alloc boxZ).alloc (lp a tx)).drew.heap[w.heap.size+1+1]?=some (.cells #[.int .i64 a.k,.int .i64 a.val,.string a.tx,.slice a.ao a.n a.cap,.string tx,.int .i64 0,.int .i64 0,.string ⟨#[]⟩,.slice none 0 0,.string ⟨#[]⟩,.int .i64 0,.int .i64 0,.string ⟨#[]⟩,.slice none 0 0] 151 (0,0))∧w.heap.size+1+1<(((w.alloc (kF a)).alloc boxZ).alloc (lp a tx)).drew.heap.size:=by
 refine⟨h.below ((((Below.refl _ _).alloc (Nat.le_refl _) _).alloc (by simp) _).alloc (by simp;omega) _).drew,((((KA.refl rb [rb] w).alloc _).alloc _).alloc _).drew,?_,?_,by show _<(((w.alloc (kF a)).alloc boxZ).alloc (lp a tx)).heap.size;simp⟩
 ·show (((w.alloc (kF a)).alloc boxZ).alloc (lp a tx)).heap[w.heap.size+1]?=_
  refine aB ?_ _
  have:=heap_alloc_new (w.alloc (kF a)) boxZ
  rw[World.size_alloc]at this
  exact this
 ·show (((w.alloc (kF a)).alloc boxZ).alloc (lp a tx)).heap[w.heap.size+1+1]?=_
  have:=heap_alloc_new ((w.alloc (kF a)).alloc boxZ) (lp a tx)
  rw[World.size_alloc,World.size_alloc]at this
  exact this
theorem rI {w w1 w2 w3:World} {rb:Nat} {s:ByteArray} {l:List Zc.aj} {ns:List ByteArray} {nv:Value} {e:Int} {b b':Nat} {cs cs':Array Value} {T T':TypeId} (h:St w1 rb s l ns nv e) (hk:KA rb [rb] w w1) (hlt:rb<w.heap.size) (hb:w.heap.size≤b) (hb':w.heap.size≤b') (hc:w1.heap[b]?=some (.cells cs T (0,0))) (hc':w1.heap[b']?=some (.cells cs' T' (0,0))) (ho:aD b w1 w2) (BJ:aD b' w2 w3) (hT:T≠9:=by decide) (hT':T'≠9:=by decide):
 St w3 rb s l ns nv e∧KA rb [rb] w w3:=by
 have R:=bR h hk hlt hb hc ho hT
 refine⟨R.1.only BJ (by omega) (by omega) ?_,R.2.eI BJ hb'⟩
 rw[ho.ty];unfold aP;rw[hc'];simpa using hT'
theorem empty_list:(⟨#[]⟩:ByteArray).toList=[]:=by rw[ByteArray.toList_mk]
theorem tG {w w1 w2 w3:World} {rb:Nat} {s:ByteArray} {l:List Zc.aj} {ns:List ByteArray} {nv:Value} {e:Int} {b b':Nat} {cs cs':Array Value} {T T':TypeId} (h:St w1 rb s l ns nv e) (hk:KA rb [rb] w w1) (hlt:rb<w.heap.size) (hb:w.heap.size≤b) (hb':w.heap.size≤b') (hc:w1.heap[b]?=some (.cells cs T (0,0))) (hc':w1.heap[b']?=some (.cells cs' T' (0,0))) (ho:aD b w1 w2) (BJ:aD b' w2 w3) (hT:T≠9:=by decide) (hT':T'≠9:=by decide) (hU:T≠76:=by decide) (hU':T'≠76:=by decide):
 (St w3 rb s l ns nv e∧KA rb [rb] w w3)∧aN w1 w3:=
 ⟨rI h hk hlt hb hb' hc hc' ho BJ hT hT',(aN.only ho (by unfold aP;rw[hc];simpa using hU)).trans (aN.only BJ (by rw[ho.ty];unfold aP;rw[hc'];simpa using hU'))⟩
theorem KU {left:Zc.Tm} {l:List Zc.aj}:Zc.sides left false l=Zc.bad 2 l:=rfl
theorem Ih {left:Zc.Tm} {l:List Zc.aj}:Zc.sides left true l=match Zc.term 8 l.tail with
 | .inl e=> .inl e
 | .inr (r,l2)=> .inr (⟨left,(Zc.hd l).text.toList,some r,[],none⟩,l2):=by
 unfold Zc.sides;rw[if_pos rfl]
 rcases Zc.term 8 l.tail with e | ⟨r,l2⟩<;>rfl
theorem pY (w:World) (rb:Nat) (s:ByteArray) (l:List Zc.aj) (ns:List ByteArray) (nv:Value) (e0:Int) (a:TV) (left:Zc.Tm) (fits:Bool) (h:St w rb s l ns nv e0) (h0:(Zc.hd l).kind≠0):
 Calls Tryz.prog 134 #[.pointer (some ⟨rb,0,none⟩),.agg #[.int .i64 a.k,.int .i64 a.val,.string a.tx,.slice a.ao a.n a.cap],.bool fits] w fun e w'=>nA rb s a left ns (Zc.sides left fits l) w e w':=by
 have hlt:=h.lt
 have h0':=af h0
 have I:=af (fun W nv (hW:St W rb s l.tail ns nv e0)=>term_all 8 W rb s l.tail ns nv e0 1 rfl hW)
 obtain⟨hS,hK,hB1,hB2,hz⟩:=jV a (Zc.hd l).text h
 unfold kF boxZ lp at hS hK hB1 hB2 hz
 have HS:=af hS
 have HK:=af hK
 have ba:=af hB1
 have aX:=af hB2
 have HZ:=af hz
 clear hS hK hB1 hB2 hz
 obtain⟨⟨c0,c1,c2,c3,c4,c5,f1,f2,f3,f4,f5⟩,own,chain,isn,few,short,signs,pos,lt⟩:=h
 clear own chain isn few short signs c0 c1 c2 c4 c5 f1 f2 f3 f4 f5 h0
 have hc2:∀o1 o2,((w.alloc o1).alloc o2).cell? ⟨rb,3,none⟩=some (.string (Zc.hd l).text):=fun o1 o2=>by rw[World.cell?_alloc_past _ _ _ (by simp;omega),World.cell?_alloc_past _ _ _ hlt];exact c3
 have hc3:∀o1 o2 o3,(((w.alloc o1).alloc o2).alloc o3).cell? ⟨rb,3,none⟩=some (.string (Zc.hd l).text):=fun o1 o2 o3=>by rw[World.cell?_alloc_past _ _ _ (by simp;omega)];exact hc2 o1 o2
 cases fits
 ·rw[KU]
  clear I
  go_enter Tryz.func134,Tryz.ntmps134
  go_wp2_with fail
  go_big_region
  go_wp2_with fail
  refine(dI _ rb s l ns nv e0 false (ae HS) (fun q=>by cases q)).mono ?_
  rintro e w1 ⟨rfl,hs,hk⟩
  have hb1:=aq hk (ae ba) (by simp;omega)
  have hb2:=aq hk (ae aX) (by simp;omega)
  have bE:=af hs
  have cZ:=af ((ae HK).trans hk)
  clear hs hk hc2 hc3 c3
  have r:=ah hb1
  have x:=ay hb1
  have q:=ah hb2
  have y:=ay hb2
  have HB1':=af hb1
  have HB2':=af hb2
  clear hb1 hb2
  go_wp2_with fail
  have R:=bR (ae bE) (ae cZ) hlt (by omega) (ae HB1') (((((((((((((((aD.refl _ _).set 0 (.int .i64 a.k)).set 1 (.int .i64 a.val)).set 2 (.string a.tx)).set 3 (.slice a.ao a.n a.cap)).set 4 (.string (Zc.hd l).text)).set 5 (.int .i64 0)).set 6 (.int .i64 0)).set 7 (.string ⟨#[]⟩)).set 8 (.slice none 0 0)).set 9 (.string ⟨#[]⟩)).set 10 (.int .i64 0)).set 11 (.int .i64 0)).set 12 (.string ⟨#[]⟩)).set 13 (.slice none 0 0))
  refine bodyPost_ret (v:= .tuple #[.agg #[.int .i64 a.k,.int .i64 a.val,.string a.tx,.slice a.ao a.n a.cap,.string (Zc.hd l).text,.int .i64 0,.int .i64 0,.string ⟨#[]⟩,.slice none 0 0,.string ⟨#[]⟩,.int .i64 0,.int .i64 0,.string ⟨#[]⟩,.slice none 0 0],.bool false]) (by simp[results,Tryz.results134,go_sem,r]) rfl ?_
  exact⟨a,⟨0,0,⟨#[]⟩,none,0,0⟩,⟨0,0,⟨#[]⟩,none,0,0⟩,(Zc.hd l).text,⟨#[]⟩,l,ns,nv,rfl,R.1,rfl,R.2⟩
 ·rw[Ih]
  generalize Zc.term 8 l.tail=r at I⊢
  rcases r with⟨er,pos⟩ | ⟨t,l2⟩
  ·show Calls _ _ _ _ fun e w'=>nA rb s a left ns (.inl (er,pos)) w e w'
   go_enter Tryz.func134,Tryz.ntmps134
   go_wp2_with fail
   go_big_region
   go_wp2_with fail
   refine(dI _ rb s l ns nv e0 true (ae HS) (fun _=>ae h0')).mono ?_
   rintro e w1 ⟨rfl,hs,hk⟩
   have HB1':=af (aq hk (ae ba) (by simp;omega))
   have HB2':=af (aq hk (ae aX) (by simp;omega))
   have bE:=af hs
   have cZ:=af ((ae HK).trans hk)
   clear hs hk hc2 hc3 c3
   go_wp2_with fail
   refine(ae I _ _ (ae bE)).mono ?_
   rintro e w2 ⟨k,val,tx,ao,n,cap,l',ns',nv',rfl,hs2,cm,hk2⟩
   have HP:=af cm
   clear cm
   have hb1:=aq hk2 (ae HB1') (by simp;omega)
   have hb2:=aq hk2 (ae HB2') (by simp;omega)
   have hz1:w.heap.size+1<w2.heap.size:=ag hb1
   have hz2:w.heap.size+1+1<w2.heap.size:=ag hb2
   have bZ:=af hs2
   have dh:=af ((ae cZ).trans hk2)
   clear hs2 hk2
   have r:=ah hb1
   have x:=ay hb1
   have q:=ah hb2
   have y:=ay hb2
   have HB1'':=af hb1
   have HB2'':=af hb2
   clear hb1 hb2
   go_wp2_with fail
   have R:=rI (ae bZ) (ae dh) hlt (by omega) (by omega) (ae HB2'') (ae HB1'') (((((aD.refl _ _).set 5 (.int .i64 k)).set 6 (.int .i64 val)).set 7 (.string tx)).set 8 (.slice ao n cap)) (((((((((((((((aD.refl _ _).set 0 (.int .i64 a.k)).set 1 (.int .i64 a.val)).set 2 (.string a.tx)).set 3 (.slice a.ao a.n a.cap)).set 4 (.string (Zc.hd l).text)).set 5 (.int .i64 k)).set 6 (.int .i64 val)).set 7 (.string tx)).set 8 (.slice ao n cap)).set 9 (.string ⟨#[]⟩)).set 10 (.int .i64 0)).set 11 (.int .i64 0)).set 12 (.string ⟨#[]⟩)).set 13 (.slice none 0 0))
   refine bodyPost_ret (v:= .tuple #[.agg #[.int .i64 a.k,.int .i64 a.val,.string a.tx,.slice a.ao a.n a.cap,.string (Zc.hd l).text,.int .i64 k,.int .i64 val,.string tx,.slice ao n cap,.string ⟨#[]⟩,.int .i64 0,.int .i64 0,.string ⟨#[]⟩,.slice none 0 0],.bool false]) (by simp[results,Tryz.results134,go_sem,hz1,r]) rfl ?_
   exact⟨a,⟨k,val,tx,ao,n,cap⟩,⟨0,0,⟨#[]⟩,none,0,0⟩,(Zc.hd l).text,⟨#[]⟩,l',ns',nv',rfl,R.1.below ((Below.refl _ _).alloc (Nat.le_refl _) _),ae HP,R.2.alloc _⟩
  ·show Calls _ _ _ _ fun e w'=>nA rb s a left ns (.inr (⟨left,(Zc.hd l).text.toList,some t,[],none⟩,l2)) w e w'
   go_enter Tryz.func134,Tryz.ntmps134
   go_wp2_with fail
   go_big_region
   go_wp2_with fail
   refine(dI _ rb s l ns nv e0 true (ae HS) (fun _=>ae h0')).mono ?_
   rintro e w1 ⟨rfl,hs,hk⟩
   have HB1':=af (aq hk (ae ba) (by simp;omega))
   have HB2':=af (aq hk (ae aX) (by simp;omega))
   have bE:=af hs
   have cZ:=af ((ae HK).trans hk)
   clear hs hk hc2 hc3 c3
   go_wp2_with fail
   refine(ae I _ _ (ae bE)).mono ?_
   rintro e w2 ⟨val,tx,ao,cap,ns',nv',e',rfl,bj,hs2,hk2⟩
   have fZ:=af bj
   clear bj
   have hb1:=aq hk2 (ae HB1') (by simp;omega)
   have hb2:=aq hk2 (ae HB2') (by simp;omega)
   have hz1:w.heap.size+1<w2.heap.size:=ag hb1
   have hz2:w.heap.size+1+1<w2.heap.size:=ag hb2
   have bZ:=af hs2
   have dh:=af ((ae cZ).trans hk2)
   clear hs2 hk2
   have r:=ah hb1
   have x:=ay hb1
   have q:=ah hb2
   have y:=ay hb2
   have HB1'':=af hb1
   have HB2'':=af hb2
   clear hb1 hb2
   go_wp2_with fail
   have RK:=tG (ae bZ) (ae dh) hlt (by omega) (by omega) (ae HB2'') (ae HB1'') (((((aD.refl _ _).set 5 (.int .i64 (ak t.kind))).set 6 (.int .i64 val)).set 7 (.string tx)).set 8 (.slice ao t.args.length cap)) (((((((((((((((aD.refl _ _).set 0 (.int .i64 a.k)).set 1 (.int .i64 a.val)).set 2 (.string a.tx)).set 3 (.slice a.ao a.n a.cap)).set 4 (.string (Zc.hd l).text)).set 5 (.int .i64 (ak t.kind))).set 6 (.int .i64 val)).set 7 (.string tx)).set 8 (.slice ao t.args.length cap)).set 9 (.string ⟨#[]⟩)).set 10 (.int .i64 0)).set 11 (.int .i64 0)).set 12 (.string ⟨#[]⟩)).set 13 (.slice none 0 0))
   have R:=RK.1
   refine bodyPost_ret (v:= .tuple #[.agg #[.int .i64 a.k,.int .i64 a.val,.string a.tx,.slice a.ao a.n a.cap,.string (Zc.hd l).text,.int .i64 (ak t.kind),.int .i64 val,.string tx,.slice ao t.args.length cap,.string ⟨#[]⟩,.int .i64 0,.int .i64 0,.string ⟨#[]⟩,.slice none 0 0],.bool true]) (by simp[results,Tryz.results134,go_sem,hz1,r]) rfl ?_
   exact⟨a,⟨ak t.kind,val,tx,ao,t.args.length,cap⟩,⟨0,0,⟨#[]⟩,none,0,0⟩,(Zc.hd l).text,⟨#[]⟩,ns',nv',e',rfl,⟨rfl,rfl,rfl,(fun r q=>by cases q;exact(RK.2.trans (aN.alloc _ _)).ra (ae fZ).rep),empty_list,(fun z q=>by cases q),(ae fZ).nms⟩,R.1.below ((Below.refl _ _).alloc (Nat.le_refl _) _),R.2.alloc _⟩
end Go.Proofs.YthfjnfcekeknlaaGreatDoor
