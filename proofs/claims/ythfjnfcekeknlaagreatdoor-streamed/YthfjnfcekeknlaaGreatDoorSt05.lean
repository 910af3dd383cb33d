import Derived.Test.YthfjnfcekeknlaaGreatDoorSt04
import Derived.Maps.AppendAt
import Derived.Deep.AppendLies
import Derived.Deep.LoopGhost
import Derived.Deep.RegionHeld3
import Derived.Deep.RegionLaw
set_option maxHeartbeats 8000000
set_option maxRecDepth 100000
namespace Go.Proofs.YthfjnfcekeknlaaGreatDoor
open Go.RowKit
theorem A3 (W:World) (o:Obj) (a b c d:Value) (T:TypeId):∀j u,([a,b,c,d]:List Value)[j]?=some u→((W.alloc o).alloc (.cells #[a,b,c,d] T)).cell? ((⟨W.heap.size+1,0,none⟩:Addr).add j)=some u:=by
 intro j u hj
 match j,hj with
 | 0,hj=>simp at hj;subst hj;simp[Addr.add]
 | 1,hj=>simp at hj;subst hj;simp[Addr.add]
 | 2,hj=>simp at hj;subst hj;simp[Addr.add]
 | 3,hj=>simp at hj;subst hj;simp[Addr.add]
theorem A4 (a b:Int) (c:ByteArray) (ao:Option Addr) (n cap:Nat):∀u∈([.int .i64 a,.int .i64 b,.string c,.slice ao n cap]:List Value),u.oneCell'=true:=by
 intro u hu;simp at hu;rcases hu with rfl | rfl | rfl | rfl<;>rfl
theorem yV {w w2 w3:World} {rb:Nat} {s:ByteArray} {l:List Za.Tok} {ns:List ByteArray} {nv:Value} {e:Int} {v:Value} {n:Nat} {xs:List Value} {o1 o2:Obj} {T:TypeId} {sz:Nat} (h:St w2 rb s l ns nv e) (hk:KA rb [rb] w w2) (ho:w2.ownsRow w.heap.size T sz v n xs) (hlt:rb<w.heap.size) (hg:((w2.alloc o1).alloc o2).grownBy w3 v.ownBlock) (hT:T≠9:=by decide):
 St w3 rb s l ns nv e∧KA rb [rb] w w3:=by
 have hb:Below w2.heap.size w2 ((w2.alloc o1).alloc o2):=((Below.refl _ _).alloc (Nat.le_refl _) _).alloc (by simp) _
 have hty:∀k,v.ownBlock=some k→aL ((w2.alloc o1).alloc o2) k≠some 9:=fun k hk'=>by
  have:=ho.lt k hk'
  rcases ho.2 with⟨rfl,_⟩ | ⟨g,cap,cur,rfl,_,c,_⟩
  ·simp[Value.ownBlock]at hk'
  ·simp[Value.ownBlock]at hk'
   subst hk'
   unfold aL;rw[hb.block g this.2,c];simpa using hT
 refine⟨(h.below hb).grown hg (fun k q=>⟨by have:=(ho.lt k q).1;omega,hty k q⟩),((hk.alloc o1).alloc o2).grown hg (fun k q=>Or.inl (ho.lt k q).1)⟩
def ir (f:Nat) (w:World) (ns0 ns:List ByteArray) (v:Value) (wr:World) (us:List AV) (ts:List Za.Tm):Prop:=
 bK (RA f (aR ns) (fun g=>w.heap.size≤g∧some g≠v.ownBlock) wr) us ts∧aR ns=ts.foldl (Za.namesF f) (aR ns0)
theorem ir.keep {f:Nat} {w:World} {ns0 ns:List ByteArray} {v:Value} {wr w2:World} {us:List AV} {ts:List Za.Tm} (h:ir f w ns0 ns v wr us ts) (hk:aJ wr w2):ir f w ns0 ns v w2 us ts:=
 ⟨h.1.imp fun _ _ r=>r.keep fun g cs hp hc hi=>⟨hk g cs hc hi,hp⟩,h.2⟩
theorem ir.next {f rb:Nat} {w:World} {ns0 ns1 ns2:List ByteArray} {v nv:Value} {wr w2:World} {us:List AV} {ts:List Za.Tm} {s:ByteArray} {l:List Za.Tok} {e:Int} {T:TypeId} {sz n:Nat} {xs:List Value} {val:Int} {tx:ByteArray} {ao:Option Addr} {cap:Nat} {t:Za.Tm}
 (h:ir f w ns0 ns1 v wr us ts) (hs:St wr rb s l ns1 nv e) (hk:KA rb [rb] wr w2) (ho:wr.ownsRow w.heap.size T sz v n xs) (hw:w.heap.size≤wr.heap.size) (ht:TA f ns1 ns2 wr w2 val tx ao cap t):
 ir f w ns0 ns2 v w2 (us++[⟨ak t.kind,val,tx,ao,t.args.length,cap⟩]) (ts++[t]):=by
 obtain⟨M,hM,_⟩:=Za.namesF_ext f t ht.rep.mZ (aR ns1)
 have he:aR ns2=aR ns1++M:=ht.nms.trans hM
 refine⟨bK.snoc ?_ ?_,by rw[List.foldl_append,←h.2];exact ht.nms⟩
 ·exact ht.rep.imp fun g hg _=>⟨by omega,fun q=>by have:=(ho.lt g q.symm).2;omega⟩
 ·rw[he]
  exact(h.keep (aJ.ka hs hk)).1.imp fun _ _ r=>r.more M
theorem ir.grown {f:Nat} {w:World} {ns0 ns:List ByteArray} {v v':Value} {w2 w3:World} {us:List AV} {ts:List Za.Tm} {o1 o2:Obj} (h:ir f w ns0 ns v w2 us ts) (hg:((w2.alloc o1).alloc o2).grownBy w3 v.ownBlock) (hat:v'.ownBlock=v.ownBlock∨v'.ownBlock=some ((w2.alloc o1).alloc o2).heap.size):ir f w ns0 ns v' w3 us ts:=by
 have hb:Below w2.heap.size w2 ((w2.alloc o1).alloc o2):=((Below.refl _ _).alloc (Nat.le_refl _) _).alloc (by simp) _
 have hz:w2.heap.size≤((w2.alloc o1).alloc o2).heap.size:=hb.size
 refine⟨h.1.imp fun _ _ r=>r.keep fun g cs hp hc hi=> ?_,h.2⟩
 have hlt:g<w2.heap.size:=(Array.getElem?_eq_some_iff.1 hc).1
 refine⟨((hg.block g (by omega) hp.2).trans (hb.block g hlt)).trans hc,hp.1,fun q=> ?_⟩
 rcases hat with a | a
 ·exact hp.2 (q.trans a)
 ·rw[a]at q
  injection q with q
  omega
theorem ir.done {f:Nat} {w:World} {ns0 ns:List ByteArray} {g cap:Nat} {wr:World} {us:List AV} {ts:List Za.Tm} (h:ir f w ns0 ns (.slice (some ⟨g,0,none⟩) ts.length cap) wr us ts) (ho:wr.ownsRow w.heap.size 76 4 (.slice (some ⟨g,0,none⟩) ts.length cap) ts.length (us.flatMap gq)) (h3:ts.length≤3):AA f ns0 ns w wr (some ⟨g,0,none⟩) ts:=by
 refine⟨fun _=> ?_,h.2,h3⟩
 rcases ho.2 with⟨q,_⟩ | ⟨g',cap',cur,q,hb,hc,_,_,_,ht⟩
 ·cases q
 ·simp only[Value.slice.injEq,Option.some.injEq,Addr.mk.injEq,and_true,true_and]at q
  obtain⟨rfl,rfl⟩:=q
  exact⟨g,us,cur,rfl,hb,hc,by rw[h.1.length];exact ht,h.1.imp fun _ _ r=>r.imp fun _ q _=>q.1⟩
def ArgRel (w:World) (rb:Nat) (s:ByteArray) (f:Nat) (l0:List Za.Tok) (ns0:List ByteArray) (v:Value) (wr:World):Prop:=
 ∃(ts:List Za.Tm) (us:List AV) (l:List Za.Tok) (ns:List ByteArray) (nv:Value) (e:Int),St wr rb s l ns nv e∧wr.ownsRow w.heap.size 76 4 v ts.length (us.flatMap gq)∧ts.length≤2∧
  Za.bG (Za.term f) 2 l0=pre ts (Za.bG (Za.term f) (2 - ts.length) l)∧KA rb [rb] w wr∧ir f w ns0 ns v wr us ts
def lenOf:Value→Nat | .slice _ n _=>n | _=>0
theorem N7 {w:World} {b:Nat} {e:TypeId} {sz:Nat} {v:Value} {n:Nat} {xs:List Value} (h:w.ownsRow b e sz v n xs):lenOf v=n:=by
 rcases h.2 with⟨rfl,q⟩ | ⟨g,cap,cur,rfl,_⟩
 ·exact q.symm
 ·rfl
theorem GY (f:Nat) (IH:qQ f):vz f:=by
 intro w rb s l ns nv e0 d pJ h
 obtain⟨i0,hi,hz0,hz1,hz2⟩:=info_parts Tryz.info76
 have H:=hide h
 have hlt:=h.lt
 cases hs0:Za.sees l [40]
 ·have HO:=hide (show jB f l= .inr ([],l)by unfold jB;rw[hs0];rfl)
  go_enter Tryz.func132,Tryz.ntmps132
  go_wp2_with (go_at_call 76;refine(bl _ rb s l ns nv e0 _ (ae H)).mono ?_;rintro e w1 ⟨rfl,rfl⟩;simp only[ByteArray.toList_mk])
  go_ret2
  refine(?_:tX f rb s ns (jB f l) w1 _ _)
  rw[ae HO]
  exact⟨none,0,ns,nv,e0,rfl,⟨fun q=>absurd rfl q,rfl,by simp⟩,ae H,KA.refl _ _ _⟩
 ·have HO:=hide (show jB f l=Za.bG (Za.term f) 2 l.tail by unfold jB;rw[hs0];rfl)
  have fp:=hide (show (Za.hd l).kind≠0 by rw[Za.cK hs0];omega)
  rw[ae HO]
  clear HO
  go_enter Tryz.func132,Tryz.ntmps132
  go_wp2_with fail
  refine(bl _ rb s l ns nv e0 _ (ae H)).mono ?_
  rintro e w1 ⟨rfl,hw⟩
  rw[hw]
  simp only[ByteArray.toList_mk]
  rw[hs0]
  clear hw w1
  go_wp2_with fail
  refine(fJ _ rb s l ns nv e0 (ae H) (ae fp)).mono ?_
  rintro e w1 ⟨rfl,hs1,hk1⟩
  have bp:=hide hs1
  have cO:=hide hk1
  clear hs1 hk1
  go_wp2_with fail
  go_loopw [6] (fun v wr=>ArgRel w rb s f l.tail ns v wr) (fun v _=>2 - lenOf v)
  case atStart=>exact⟨[],[],l.tail,ns,nv,e0,ae bp,World.ownsRow_nil _ _ _ _,by simp,pre_nil _,ae cO,trivial,rfl⟩
  case round=>
   obtain⟨ts,us,l1,ns1,nv1,e1,hst,hown,hts,hpre,hka,Pp⟩:=hrel
   have U1:=hide Pp
   have HST:=hide hst
   have HOWN:=hide hown
   have HLEN:=hide (N7 hown)
   have EX:=hide hpre
   have A5:=hide hka
   clear hst hown hpre hka Pp
   have I:=hide (IH wr rb s l1 ns1 nv1 e1 d pJ (ae HST))
   generalize hr:Za.term f l1=r at I
   have HR:=hide hr
   clear hr
   rcases r with⟨er,pos⟩ | ⟨t,l2⟩
   ·have HF:Hid (Za.bG (Za.term f) 2 l.tail= .inl (er,pos)):=(ae EX).trans (by rw[Kj (ae HR)];rfl)
    go_wp2_with fail
    refine(ae I).mono ?_
    rintro e w2 ⟨k,val,tx,ao,n,cap,l',ns',nv',rfl,hs2,hpos,hk2⟩
    have bV:=hide hs2
    have HP:=hide hpos
    have cQ:=hide ((ae A5).trans hk2)
    clear hs2 hpos hk2
    go_wp2_with fail
    go_ret2
    refine(?_:tX f rb s ns _ w _ _)
    rw[ae HF]
    exact⟨l',ns',nv',none,0,0,rfl,(ae bV).below ((Below.refl _ _).alloc (Nat.le_refl _) _),ae HP,(ae cQ).alloc _⟩
   ·go_wp2_with fail
    refine(ae I).mono ?_
    rintro e w2 ⟨val,tx,ao,cap,ns2,nv2,e2,rfl,htx,hs2,hk2⟩
    have SV:=hide ((ae U1).next (ae HST) hk2 (ae HOWN) (ae A5).size htx)
    have bV:=hide hs2
    have uJ:=hide (sj (ae HOWN) hk2 hlt (by decide))
    have cQ:=hide ((ae A5).trans hk2)
    have Km:w.heap.size≤w2.heap.size:=(ae cQ).size
    clear hs2 hk2 htx
    go_wp2_with (first | (at_builtin;refine wpList_append_own_at _ rfl (.tmp 23) (.tmp 25) 74 rfl w.heap.size 76 i0 (.agg #[.int .i64 0,.int .i64 0,.string ⟨#[]⟩,.slice none 0 0]) 4 56 Tryz.underlying74 hi hz0 hz1 hz2 rfl (by decide) _ ts.length (us.flatMap gq) rfl (((ae uJ).alloc _).alloc _) ⟨w2.heap.size+1,0,none⟩ 1 1 [.int .i64 (ak t.kind),.int .i64 val,.string tx,.slice ao t.args.length cap] rfl rfl (A3 _ _ _ _ _ _ _) (A4 _ _ _ _ _ _) (by unfold maxLen;omega) (by omega) (by simp;omega) ?_;intro v' w3 hown' hgrow _ hat;have EY:=hide ((ae SV).grown hgrow hat);clear hat;have EZ:=hide hown';have R3:=hide (yV (ae bV) (ae cQ) (ae uJ) hlt hgrow);obtain⟨g',cap',hv,hcm⟩:=ed hown';rw[hv]at EZ EY⊢;clear hown' hgrow hv))
    have dV:=hide (ae R3).1
    have dQ:=hide (ae R3).2
    clear R3
    cases hc:Za.sees l2 [44]
    ·have HF:=hide ((ae EX).trans (by rw[Kk (ae HR) hc]))
     refine(bl _ rb s l2 ns2 nv2 e2 _ (ae dV)).mono ?_
     rintro e w4 ⟨rfl,hw⟩
     rw[hw]
     simp only[ByteArray.toList_mk]
     rw[hc]
     clear hw w4
     go_wp2_with fail
     refine(bl _ rb s l2 ns2 nv2 e2 _ (ae dV)).mono ?_
     rintro e w4 ⟨rfl,hw⟩
     rw[hw]
     simp only[ByteArray.toList_mk]
     clear hw w4
     cases hb:Za.sees l2 [41]
     ·rw[hb]at HF
      go_wp2_with fail
      refine(dA _ rb s l2 ns2 nv2 e2 false (ae dV) (fun q=>by cases q)).mono ?_
      rintro e w4 ⟨rfl,hs4,hk4⟩
      have iw:=hide hs4
      have jH:=hide ((ae dQ).trans hk4)
      clear hs4 hk4
      go_wp2_with fail
      go_ret2
      refine(?_:tX f rb s ns _ w _ _)
      rw[ae HF]
      exact⟨l2,ns2,nv2,_,_,_,rfl,ae iw,rfl,ae jH⟩
     ·rw[hb]at HF
      have bQ:=hide (show (Za.hd l2).kind≠0 by rw[Za.cK hb];omega)
      go_wp2_with fail
      refine(dA _ rb s l2 ns2 nv2 e2 true (ae dV) (fun _=>ae bQ)).mono ?_
      rintro e w4 ⟨rfl,hs4,hk4⟩
      have A6:=hide (aJ.ka (ae dV) hk4)
      have Pq:=hide (sj (ae EZ) hk4 hlt (by decide))
      have iw:=hide hs4
      have jH:=hide ((ae dQ).trans hk4)
      clear hs4 hk4
      go_wp2_with fail
      go_ret2
      refine(?_:tX f rb s ns _ w _ _)
      rw[ae HF]
      exact⟨some ⟨g',0,none⟩,cap',ns2,nv2,e2,by simp,ir.done (by simpa using (ae EY).keep (ae A6)) (by simpa [gq] using ae Pq) (by simp;omega),ae iw,ae jH⟩
    ·have bQ:=hide (show (Za.hd l2).kind≠0 by rw[Za.cK hc];omega)
     refine(bl _ rb s l2 ns2 nv2 e2 _ (ae dV)).mono ?_
     rintro e w4 ⟨rfl,hw⟩
     rw[hw]
     simp only[ByteArray.toList_mk]
     rw[hc]
     clear hw w4
     go_wp2_with fail
     rw[show ((ts.length:Int)+1)=((ts.length+1:Nat):Int)by omega]
     refine(yR _ rb s l2 ns2 nv2 e2 (ts.length+1) 3 (ae dV) (ae bQ)).mono ?_
     by_cases hn:ts.length+1<3
     ·have HF:=hide ((ae EX).trans (by rw[show 2 - ts.length=(2 - (ts.length+1))+1 by omega,GW (ae HR) hc]))
      rw[if_pos hn,if_pos hn,decide_eq_true hn]
      rintro e w4 ⟨rfl,hs4,hk4⟩
      have iw:=hide hs4
      have A6:=hide (aJ.ka (ae dV) hk4)
      have Pq:=hide (sj (ae EZ) hk4 hlt (by decide))
      have jH:=hide ((ae dQ).trans hk4)
      clear hs4 hk4
      go_wp2_with fail
      go_roundw
      case rel=>exact⟨ts++[t],us++[⟨ak t.kind,val,tx,ao,t.args.length,cap⟩],l2.tail,ns2,nv2,e2,ae iw,by simpa [gq] using ae Pq,by simp;omega,by simpa using ae HF,ae jH,(ae EY).keep (ae A6)⟩
      case measure=>show 2 - (ts.length+1)<2 - lenOf _;rw[ae HLEN];omega
     ·have h0:ts.length=2:=by omega
      have HF:=hide ((ae EX).trans (by rw[show 2 - ts.length=0 by omega,GV (ae HR) hc]))
      rw[if_neg hn,if_neg hn,decide_eq_false hn]
      rintro e w4 ⟨rfl,hs4,hk4⟩
      have iw:=hide hs4
      have jH:=hide ((ae dQ).trans hk4)
      clear hs4 hk4 h0
      go_wp2_with fail
      go_ret2
      refine(?_:tX f rb s ns _ w _ _)
      rw[ae HF]
      exact⟨l2,ns2,nv2,_,_,_,rfl,ae iw,rfl,ae jH⟩
theorem term_all:∀f,qQ f
 | 0=>term_none
 | f+1=>GU f (GY f (term_all f))
theorem nE {w:World} {b:Nat} {cs:Array Value} {T:TypeId} (h:w.heap[b]?=some (.cells cs T (0,0))) (i:Nat) {v:Value} (hv:cs[i]?=some v):w.cell? ⟨b,i,none⟩=some v:=by
 simp[World.cell?,h,hv]
theorem mF {w:World} {b:Nat} {cs:Array Value} {T:TypeId} (h:w.heap[b]?=some (.cells cs T (0,0))) (i:Nat):w.frozen? ⟨b,i,none⟩=false:=by
 simp[World.frozen?,h]
theorem ag {w:World} {b:Nat} {cs:Array Value} {T:TypeId} (h:w.heap[b]?=some (.cells cs T (0,0))):∀i,w.cell? ⟨b,i,none⟩=cs[i]?:=fun i=>by
 simp[World.cell?,h]
theorem aq {w:World} {b:Nat} {cs:Array Value} {T:TypeId} (h:w.heap[b]?=some (.cells cs T (0,0))):∀i,w.frozen? ⟨b,i,none⟩=false:=fun i=>mF h i
theorem N8 (w:World) (cs:Array Value) (T:TypeId):(w.alloc (.cells cs T)).heap[w.heap.size]?=some (.cells cs T (0,0)):=heap_alloc_new w _
theorem aw {w:World} {b:Nat} {x:Obj} (h:w.heap[b]?=some x) (o:Obj):(w.alloc o).heap[b]?=some x:=by
 rw[Below.heap_alloc _ _ _ (Array.getElem?_eq_some_iff.1 h).1];exact h
theorem ai {w w':World} {rb b:Nat} {X:List Nat} {cs:Array Value} {T:TypeId} (hk:KA rb X w w') (h:w.heap[b]?=some (.cells cs T (0,0))) (hb:b∉X) (hT:T≠9:=by decide):w'.heap[b]?=some (.cells cs T (0,0)):=
 (hk.block b (Array.getElem?_eq_some_iff.1 h).1 hb (Or.inr (by unfold aL;rw[h];simpa using hT))).trans h
theorem af {w:World} {b:Nat} {x:Obj} (h:w.heap[b]?=some x):b<w.heap.size:=(Array.getElem?_eq_some_iff.1 h).1
structure aA (b:Nat) (w w':World):Prop where
 os:w'.os=w.os
 tape:w'.tape=w.tape
 output:w'.output=w.output
 size:w'.heap.size=w.heap.size
 block:∀k,k≠b→w'.heap[k]?=w.heap[k]?
 ty:∀k,aL w' k=aL w k
theorem aA.refl (b:Nat) (w:World):aA b w w:=⟨rfl,rfl,rfl,rfl,fun _ _=>rfl,fun _=>rfl⟩
theorem aA.set {b:Nat} {a w:World} (h:aA b a w) (i:Nat) (v:Value):aA b a (w.setCell ⟨b,i,none⟩ v):=
 ⟨h.os,h.tape,h.output,by simp[World.setCell];exact h.size,fun k hk=>(Below.heap_setCell _ _ _ _ hk).trans (h.block k hk),fun k=>(gG _ _ _ _).trans (h.ty k)⟩
theorem St.only {w w':World} {rb:Nat} {s:ByteArray} {l:List Za.Tok} {ns:List ByteArray} {nv:Value} {e:Int} {b:Nat} (h:St w rb s l ns nv e) (ho:aA b w w') (hb:b≠rb) (h0:b≠0) (ht:aL w b≠some 9):St w' rb s l ns nv e:=by
 have k:=ho.block
 have c:∀o,w'.cell? ⟨rb,o,none⟩=w.cell? ⟨rb,o,none⟩:=fun o=>World.cell?_of_block (k rb (Ne.symm hb))
 have f:∀o,w'.frozen? ⟨rb,o,none⟩=w.frozen? ⟨rb,o,none⟩:=fun o=>World.frozen?_of_block (k rb (Ne.symm hb))
 have z:∀o,w'.cell? ⟨0,o,none⟩=w.cell? ⟨0,o,none⟩:=fun o=>World.cell?_of_block (k 0 (Ne.symm h0))
 obtain⟨⟨c0,c1,c2,c3,c4,c5,f1,f2,f3,f4,f5⟩,own,chain,isn,few,short,signs,pos,lt⟩:=h
 refine⟨⟨(c 0).trans c0,(c 1).trans c1,(c 2).trans c2,(c 3).trans c3,(c 4).trans c4,(c 5).trans c5,(f 1).trans f1,(f 2).trans f2,(f 3).trans f3,(f 4).trans f4,(f 5).trans f5⟩,⟨own.1,?_⟩,chain,isn,few,short,⟨(z 0).trans signs.s0,(z 1).trans signs.s1,(z 2).trans signs.s2,(z 3).trans signs.s3,(z 4).trans signs.s4⟩,pos,by rw[ho.size];exact lt⟩
 rcases own.2 with q | ⟨g,cap,cur,a,b',c',d⟩
 ·exact Or.inl q
 ·refine Or.inr ⟨g,cap,cur,a,b',?_,d⟩
  rw[k g (fun e=>ht (by rw[←e];unfold aL;rw[c']))]
  exact c'
theorem KA.dS {rb b:Nat} {X:List Nat} {u w w':World} (h:KA rb X u w) (ho:aA b w w') (hb:u.heap.size≤b):KA rb X u w':=
 ⟨ho.os.trans h.os,ho.tape.trans h.tape,ho.output.trans h.output,by rw[ho.size];exact h.size,fun k hk hX ht=>(ho.block k (by omega)).trans (h.block k hk hX ht)⟩
theorem KA.Pr {rb b:Nat} {X:List Nat} {u w w':World} (h:KA rb X u w) (ho:aA b w w') (hb:b∈X):KA rb X u w':=
 h.trans ⟨ho.os,ho.tape,ho.output,by rw[ho.size];exact Nat.le_refl _,fun k _ hX _=>ho.block k (fun e=>hX (e ▸ hb))⟩
theorem Ps {l:List Za.Tok} (h:(Za.hd l).kind=5) (g:List UInt8):Za.sees l g=((Za.hd l).text.toList == g):=by simp[Za.sees,h]
theorem N9 {l:List Za.Tok} (h:(Za.hd l).kind≠5) (g:List UInt8):Za.sees l g=false:=by simp[Za.sees,h]
theorem bC (w:World) (rb:Nat) (s:ByteArray) (l:List Za.Tok) (ns:List ByteArray) (nv:Value) (e0:Int) (h:St w rb s l ns nv e0):
 Calls Tryz.prog 133 #[.pointer (some ⟨rb,0,none⟩)] w fun e w'=>e= .returned (.bool (Za.br l))∧w'=w:=by
 obtain⟨⟨c0,c1,c2,c3,c4,c5,f1,f2,f3,f4,f5⟩,own,chain,isn,few,short,signs,pos,lt⟩:=h
 clear own chain isn few short signs pos lt c0 c2 c4 c5 f1 f2 f3 f4 f5
 by_cases hk:(Za.hd l).kind=5
 ·have HT:=hide (show Za.br l=(((Za.hd l).text.toList == [60])||((Za.hd l).text.toList == [61,60])||((Za.hd l).text.toList == [61,61])||((Za.hd l).text.toList == [92,61]))by simp only[Za.br,Ps hk])
  rw[hk]at c1
  clear hk
  generalize (Za.hd l).text=tx at*
  cases b1:(tx.toList == [60])
  ·cases b2:(tx.toList == [61,60])
   ·cases b3:(tx.toList == [61,61])
    ·cases b4:(tx.toList == [92,61])
     all_goals
      go_enter Tryz.func133,Tryz.ntmps133
      go_wp2_with fail
      go_ret
      exact⟨cu (by rw[ae HT,b1,b2,b3,b4];rfl),rfl⟩
    ·go_enter Tryz.func133,Tryz.ntmps133
     go_wp2_with fail
     go_ret
     exact⟨cu (by rw[ae HT,b1,b2,b3];rfl),rfl⟩
   ·go_enter Tryz.func133,Tryz.ntmps133
    go_wp2_with fail
    go_ret
    exact⟨cu (by rw[ae HT,b1,b2];rfl),rfl⟩
  ·go_enter Tryz.func133,Tryz.ntmps133
   go_wp2_with fail
   go_ret
   exact⟨cu (by rw[ae HT,b1];rfl),rfl⟩
 ·have HT:=hide (show Za.br l=false by simp[Za.br,N9 hk])
  have hk':(((Za.hd l).kind:Int) != 5)=true:=by simp;omega
  clear hk
  go_enter Tryz.func133,Tryz.ntmps133
  go_wp2_with fail
  go_ret
  exact⟨cu (by rw[ae HT]),rfl⟩
theorem kG (w:World) (rb:Nat) (s:ByteArray) (l:List Za.Tok) (ns:List ByteArray) (nv:Value) (e0:Int) (h:St w rb s l ns nv e0):
 Calls Tryz.prog 177 #[.pointer (some ⟨rb,0,none⟩)] w fun e w'=>e= .returned (.bool (Za.gB l))∧w'=w:=by
 have HT:=hide (show Za.gB l=(Za.sees l [43]||Za.sees l [45]||Za.sees l [42])from rfl)
 have H:=hide h
 clear h
 cases b1:Za.sees l [43]
 ·cases b2:Za.sees l [45]
  ·go_enter Tryz.func177,Tryz.ntmps177
   go_wp2_with (go_at_call 76;refine(bl _ rb s l ns nv e0 _ (ae H)).mono ?_;rintro e w1 ⟨rfl,hw⟩;rw[hw];clear hw;simp only[ByteArray.toList_mk])
   go_ret
   exact⟨cu (by rw[ae HT,b1,b2];rfl),rfl⟩
  ·go_enter Tryz.func177,Tryz.ntmps177
   go_wp2_with (go_at_call 76;refine(bl _ rb s l ns nv e0 _ (ae H)).mono ?_;rintro e w1 ⟨rfl,hw⟩;rw[hw];clear hw;simp only[ByteArray.toList_mk])
   go_ret
   exact⟨cu (by rw[ae HT,b1,b2];rfl),rfl⟩
 ·go_enter Tryz.func177,Tryz.ntmps177
  go_wp2_with (go_at_call 76;refine(bl _ rb s l ns nv e0 _ (ae H)).mono ?_;rintro e w1 ⟨rfl,hw⟩;rw[hw];clear hw;simp only[ByteArray.toList_mk])
  go_ret
  exact⟨cu (by rw[ae HT,b1];rfl),rfl⟩
theorem iT (w:World) (t:Za.Tm) (val:Int) (tx:ByteArray) (ao:Option Addr) (cap:Nat) (ht:t.kind=2→tx=t.text) (hk:t.kind=2∨t.kind=3∨t.kind=4):
 Calls Tryz.prog 136 #[.agg #[.int .i64 (ak t.kind),.int .i64 val,.string tx,.slice ao t.args.length cap]] w fun e w'=>e= .returned (.bool (Za.isInt t))∧Below w.heap.size w w':=by
 by_cases h2:t.kind=2
 ·have HT:=hide (show Za.isInt t=((tx.toList == [105,110,116])&&(t.args.length == 1))by simp[Za.isInt,h2,ht h2])
  have ha:ak t.kind=3:=by rw[h2];rfl
  rw[ha]
  clear ha h2 ht hk
  generalize t.args.length=n at*
  cases b1:(tx.toList == [105,110,116])
  ·go_enter Tryz.func136,Tryz.ntmps136
   go_wp2_with fail
   go_ret
   exact⟨cu (by rw[ae HT,b1];rfl),(Below.refl _ _).alloc (Nat.le_refl _) _⟩
  ·by_cases hn:n=1
   ·have hn':((n:Int) == 1)=true:=by simp;omega
    go_enter Tryz.func136,Tryz.ntmps136
    go_wp2_with fail
    go_ret
    exact⟨cu (by rw[ae HT,b1,hn];rfl),(Below.refl _ _).alloc (Nat.le_refl _) _⟩
   ·have hn':((n:Int) == 1)=false:=by simp;omega
    go_enter Tryz.func136,Tryz.ntmps136
    go_wp2_with fail
    go_ret
    exact⟨cu (by rw[ae HT,b1];simp[hn]),(Below.refl _ _).alloc (Nat.le_refl _) _⟩
 ·have HT:=hide (show Za.isInt t=false by simp[Za.isInt,h2])
  have ha:(ak t.kind == 3)=false:=by rcases hk with e | e | e<;>simp_all [ak]
  generalize ak t.kind=q at*
  clear h2 ht hk
  go_enter Tryz.func136,Tryz.ntmps136
  go_wp2_with fail
  go_ret
  exact⟨cu (by rw[ae HT]),(Below.refl _ _).alloc (Nat.le_refl _) _⟩
abbrev TV:=AV
theorem TA.box {f:Nat} {ns ns':List ByteArray} {w W w1:World} {val:Int} {tx:ByteArray} {ao:Option Addr} {cap:Nat} {t:Za.Tm} (h:TA f ns ns' W w1 val tx ao cap t) (hW:w.heap.size<W.heap.size) (v0 v1 v2 v3:Value):
 TA f ns ns' w ((((w1.setCell ⟨w.heap.size,0,none⟩ v0).setCell ⟨w.heap.size,1,none⟩ v1).setCell ⟨w.heap.size,2,none⟩ v2).setCell ⟨w.heap.size,3,none⟩ v3) val tx ao cap t:=by
 refine⟨?_,h.nms⟩
 have r:=h.rep.imp (Q:=fun g=>w.heap.size<g) fun g hg _=>by omega
 exact((((r.set (fun g hg=>by omega) 0 v0).set (fun g hg=>by omega) 1 v1).set (fun g hg=>by omega) 2 v2).set (fun g hg=>by omega) 3 v3).imp fun g hg _=>by omega
def anyA:Nat→Prop:=fun _=>True
structure GZ (ns ns':List ByteArray) (w':World) (b c:TV) (sg op:ByteArray) (x:Za.aC):Prop where
 sign:sg.toList=x.sign
 right:∀r,x.right=some r→RA 8 (aR ns') anyA w' b r
 op:op.toList=x.op
 last:∀z,x.last=some z→RA 8 (aR ns') anyA w' c z
 nms:aR ns'=Za.cg (Za.cg (aR ns) x.right) x.last
theorem aJ.ra {w w':World} (h:aJ w w') {f:Nat} {N:List (List UInt8)} {P:Nat→Prop} {a:AV} {t:Za.Tm} (q:RA f N P w a t):RA f N anyA w' a t:=q.keep fun g cs _ hc hi=>⟨h g cs hc hi,trivial⟩
theorem aJ.refl (w:World):aJ w w:=fun _ _ h _=>h
theorem aJ.alloc (w:World) (o:Obj):aJ w (w.alloc o):=aJ.below ((Below.refl _ _).alloc (Nat.le_refl _) o)
theorem aJ.only {w w':World} {b:Nat} (ho:aA b w w') (ht:aL w b≠some 76):aJ w w':=fun g cs hc _=>(ho.block g (fun q=>by subst q;exact ht (by unfold aL;rw[hc]))).trans hc
def mU (rb:Nat) (s:ByteArray) (a0:TV) (left:Za.Tm) (ns:List ByteArray) (r:Za.dH Za.aC) (w:World) (e:Ending) (w':World):Prop:=match r with
 | .inl (er,pos)=>∃(a b c:TV) (sg op:ByteArray) (l':List Za.Tok) (ns':List ByteArray) (nv':Value),
  e= .returned (.tuple #[.agg #[.int .i64 a.k,.int .i64 a.val,.string a.tx,.slice a.ao a.n a.cap,.string sg,.int .i64 b.k,.int .i64 b.val,.string b.tx,.slice b.ao b.n b.cap,.string op,.int .i64 c.k,.int .i64 c.val,.string c.tx,.slice c.ao c.n c.cap],.bool false])∧St w' rb s l' ns' nv' (er:Int)∧(Za.hd l').pos=pos∧KA rb [rb] w w'
 | .inr (x,l1)=>∃(a b c:TV) (sg op:ByteArray) (ns':List ByteArray) (nv':Value) (e':Int),
  e= .returned (.tuple #[.agg #[.int .i64 a.k,.int .i64 a.val,.string a.tx,.slice a.ao a.n a.cap,.string sg,.int .i64 b.k,.int .i64 b.val,.string b.tx,.slice b.ao b.n b.cap,.string op,.int .i64 c.k,.int .i64 c.val,.string c.tx,.slice c.ao c.n c.cap],.bool true])∧(a=a0∧x.left=left∧GZ ns ns' w' b c sg op x)∧St w' rb s l1 ns' nv' e'∧KA rb [rb] w w'
theorem bO {w w1 w2:World} {rb:Nat} {s:ByteArray} {l:List Za.Tok} {ns:List ByteArray} {nv:Value} {e:Int} {b:Nat} {cs:Array Value} {T:TypeId} (h:St w1 rb s l ns nv e) (hk:KA rb [rb] w w1) (hlt:rb<w.heap.size) (hb:w.heap.size≤b) (hc:w1.heap[b]?=some (.cells cs T (0,0))) (ho:aA b w1 w2) (hT:T≠9:=by decide):
 St w2 rb s l ns nv e∧KA rb [rb] w w2:=
 ⟨h.only ho (by omega) (by omega) (by unfold aL;rw[hc];simpa using hT),hk.dS ho hb⟩
theorem yX {w w1 w2:World} {rb:Nat} {s:ByteArray} {l:List Za.Tok} {ns:List ByteArray} {nv:Value} {e:Int} {b:Nat} {cs:Array Value} {T:TypeId} (h:St w1 rb s l ns nv e) (hk:KA rb [rb] w w1) (hlt:rb<w.heap.size) (hb:w.heap.size≤b) (hc:w1.heap[b]?=some (.cells cs T (0,0))) (ho:aA b w1 w2) (hT:T≠9:=by decide) (hT':T≠76:=by decide):
 (St w2 rb s l ns nv e∧KA rb [rb] w w2)∧aJ w1 w2:=
 ⟨bO h hk hlt hb hc ho hT,aJ.only ho (by unfold aL;rw[hc];simpa using hT')⟩
theorem jc (w:World) (rb:Nat) (s:ByteArray) (l:List Za.Tok) (ns:List ByteArray) (nv:Value) (e0:Int) (h:St w rb s l ns nv e0):
 Calls Tryz.prog 176 #[.pointer (some ⟨rb,0,none⟩)] w fun e w'=>pI 8 rb s ns (Za.operand l) w e w':=by
 have hb2:Below w.heap.size w (w.alloc boxR):=(Below.refl _ _).alloc (Nat.le_refl _) _
 have H2:=hide (h.below hb2)
 have hlt:=h.lt
 have hK0:=hide ((KA.refl rb [rb] w).alloc boxR)
 have hB0:=hide (N8 w #[.int .i64 0,.int .i64 0,.string ⟨#[]⟩,.slice none 0 0] 76)
 have I:=hide (fun W (hW:St W rb s l ns nv e0)=>term_all 8 W rb s l ns nv e0 1 rfl hW)
 unfold boxR at H2 hK0
 obtain⟨⟨c0,c1,c2,c3,c4,c5,f1,f2,f3,f4,f5⟩,own,chain,isn,few,short,signs,pos,lt⟩:=h
 clear own chain isn few short signs hb2 c0 c2 c3 c4 c5 f1 f2 f3 f4 f5
 by_cases hk:(Za.hd l).kind=2
 ·have HO:=hide (show Za.operand l=Za.bad 2 l by unfold Za.operand;rw[if_pos hk])
  rw[ae HO]
  have hk':(((Za.hd l).kind:Int) == 2)=true:=by simp;omega
  clear hk HO
  go_enter Tryz.func176,Tryz.ntmps176
  go_wp2_with fail
  refine(bT _ rb s l ns nv e0 2 (ae H2)).mono ?_
  rintro e w1 ⟨rfl,hs,hk⟩
  have HS:=hide hs
  have HK:=hide ((ae hK0).trans hk)
  have hB:=ai hk (ae hB0) (by simp;omega)
  clear hs hk
  have r0:=nE (hB) 0 rfl
  have r1:=nE (hB) 1 rfl
  have r2:=nE (hB) 2 rfl
  have r3:=nE (hB) 3 rfl
  have x0:=mF (hB) 0
  have x1:=mF (hB) 1
  have x2:=mF (hB) 2
  have x3:=mF (hB) 3
  have HB:=hide hB
  clear hB
  go_wp2_with fail
  have R:=bO (ae HS) (ae HK) hlt (Nat.le_refl _) (ae HB) (((((aA.refl _ _).set 0 (.int .i64 0)).set 1 (.int .i64 0)).set 2 (.string ⟨#[]⟩)).set 3 (.slice none 0 0))
  refine bodyPost_ret (v:= .tuple #[.agg #[.int .i64 0,.int .i64 0,.string ⟨#[]⟩,.slice none 0 0],.bool false]) (by simp[results,Tryz.results176,go_sem,r0,r1,r2,r3]) rfl ?_
  exact⟨_,_,_,_,_,_,l,ns,nv,rfl,R.1,rfl,R.2⟩
 ·have HO:=hide (show Za.operand l=Za.term 8 l by unfold Za.operand;rw[if_neg hk])
  rw[ae HO]
  generalize Za.term 8 l=r at I⊢
  have hk':(((Za.hd l).kind:Int) == 2)=false:=by simp;omega
  clear hk HO
  rcases r with⟨er,pos⟩ | ⟨t,l2⟩
  ·go_enter Tryz.func176,Tryz.ntmps176
   go_wp2_with fail
   refine(ae I _ (ae H2)).mono ?_
   rintro e w1 ⟨k,val,tx,ao,n,cap,l',ns',nv',rfl,hs,hpos,hk⟩
   have HS:=hide hs
   have HP:=hide hpos
   have HK:=hide ((ae hK0).trans hk)
   have hB:=ai hk (ae hB0) (by simp;omega)
   clear hs hk hpos
   have r0:=nE (hB) 0 rfl
   have r1:=nE (hB) 1 rfl
   have r2:=nE (hB) 2 rfl
   have r3:=nE (hB) 3 rfl
   have x0:=mF (hB) 0
   have x1:=mF (hB) 1
   have x2:=mF (hB) 2
   have x3:=mF (hB) 3
   have HB:=hide hB
   clear hB
   go_wp2_with fail
   have R:=bO (ae HS) (ae HK) hlt (Nat.le_refl _) (ae HB) (((((aA.refl _ _).set 0 (.int .i64 k)).set 1 (.int .i64 val)).set 2 (.string tx)).set 3 (.slice ao n cap))
   refine bodyPost_ret (v:= .tuple #[.agg #[.int .i64 k,.int .i64 val,.string tx,.slice ao n cap],.bool false]) (by simp[results,Tryz.results176,go_sem,r0,r1,r2,r3]) rfl ?_
   exact⟨_,_,_,_,_,_,l',ns',nv',rfl,R.1,ae HP,R.2⟩
  ·go_enter Tryz.func176,Tryz.ntmps176
   go_wp2_with fail
   refine(ae I _ (ae H2)).mono ?_
   rintro e w1 ⟨val,tx,ao,cap,ns',nv',e',rfl,htx,hs,hk⟩
   have HS:=hide hs
   have HP:=hide htx
   have HK:=hide ((ae hK0).trans hk)
   have hB:=ai hk (ae hB0) (by simp;omega)
   clear hs hk htx
   have r0:=nE (hB) 0 rfl
   have r1:=nE (hB) 1 rfl
   have r2:=nE (hB) 2 rfl
   have r3:=nE (hB) 3 rfl
   have x0:=mF (hB) 0
   have x1:=mF (hB) 1
   have x2:=mF (hB) 2
   have x3:=mF (hB) 3
   have HB:=hide hB
   clear hB
   go_wp2_with fail
   have R:=bO (ae HS) (ae HK) hlt (Nat.le_refl _) (ae HB) (((((aA.refl _ _).set 0 (.int .i64 (ak t.kind))).set 1 (.int .i64 val)).set 2 (.string tx)).set 3 (.slice ao t.args.length cap))
   refine bodyPost_ret (v:= .tuple #[.agg #[.int .i64 (ak t.kind),.int .i64 val,.string tx,.slice ao t.args.length cap],.bool true]) (by simp[results,Tryz.results176,go_sem,r0,r1,r2,r3]) rfl ?_
   exact⟨_,_,_,_,ns',nv',e',rfl,(ae HP).box (by simp) _ _ _ _,R.1,R.2⟩
end Go.Proofs.YthfjnfcekeknlaaGreatDoor
namespace Za
end Za
namespace Go.Proofs.YthfjnfcekeknlaaGreatDoor
open Go.RowKit
theorem G0 {w1:World} {s:ByteArray} {L:List Za.Tok} (aU:dD w1) (h0:0<w1.heap.size) (hL:Za.dP s L) (hh:Za.hd L=Za.next s 0) (hl:L.length≤1000) (hs:s.size≤240):
 St (w1.alloc (.cells #[.string s,.int .i64 ((Za.next s 0).kind:Int),.int .i64 ((Za.next s 0).pos:Int),.string (Za.next s 0).text,.slice none 0 0,.int .i64 0] 73)) w1.heap.size s L [] (.slice none 0 0) 0:=by
 have hb:=heap_alloc_new w1 (.cells #[.string s,.int .i64 ((Za.next s 0).kind:Int),.int .i64 ((Za.next s 0).pos:Int),.string (Za.next s 0).text,.slice none 0 0,.int .i64 0] 73)
 have c:=ag hb
 have f:=aq hb
 exact⟨⟨by rw[c];rfl,by rw[c,hh];rfl,by rw[c,hh];rfl,by rw[c,hh];rfl,by rw[c];rfl,by rw[c];rfl,f 1,f 2,f 3,f 4,f 5⟩,World.ownsRow_nil _ _ _ _,hL,⟨0,hh⟩,by simpa using hl,hs,aU.below ((Below.refl _ _).alloc (Nat.le_refl _) _) h0,h0,by simp⟩
theorem eP {w:World} {b:Nat} {e:TypeId} {sz:Nat} {v:Value} {n:Nat} {xs:List Value} (h:w.ownsRow b e sz v n xs):∃o cap,v= .slice o n cap:=by
 rcases h.2 with⟨q,rfl⟩ | ⟨g,cap,cur,q,_⟩
 ·exact⟨none,0,q⟩
 ·exact⟨some ⟨g,0,none⟩,cap,q⟩
theorem aF (w:World) (b i:Nat) (v:Value) {g:Nat} (h:g≠b):(w.setCell ⟨b,i,none⟩ v).heap[g]?=w.heap[g]?:=Below.heap_setCell _ _ _ _ h
theorem cC (w:World) (p:Addr) (v:Value):(w.setCell p v).heap.size=w.heap.size:=by simp[World.setCell]
theorem bZ {b0 b1:Nat} {w:World} {T:TypeId} {sz:Nat} {v:Value} {n:Nat} {xs:List Value} (h:w.ownsRow b1 T sz v n xs) (hb:b0≤b1):w.ownsRow b0 T sz v n xs:=
 ⟨h.1,h.2.imp id fun⟨g,cap,cur,a,b,c,d⟩=>⟨g,cap,cur,a,Nat.le_trans hb b,c,d⟩⟩
theorem Oa (w:World) (rb:Nat) (s:ByteArray) (l:List Za.Tok) (ns:List ByteArray) (nv:Value) (e0:Int) (h:St w rb s l ns nv e0) (hk:(Za.hd l).kind=0):
 Calls Tryz.prog 41 #[.pointer (some ⟨rb,0,none⟩)] w fun e w'=>e= .returned (.bool true)∧w'=w:=by
 have c1:=h.rd.c1
 have zr:=h.lt
 rw[hk]at c1
 clear h hk
 go_enter Tryz.func41,Tryz.ntmps41
 go_wp2_with fail
 go_ret
 exact⟨rfl,rfl⟩
theorem Ob (w:World) (rb:Nat) (s:ByteArray) (l:List Za.Tok) (ns:List ByteArray) (nv:Value) (e0:Int) (h:St w rb s l ns nv e0) (hk:(Za.hd l).kind≠0):
 Calls Tryz.prog 41 #[.pointer (some ⟨rb,0,none⟩)] w fun e w'=>e= .returned (.bool false)∧St w' rb s l ns nv 2∧KA rb [rb] w w':=by
 have c1:=h.rd.c1
 have zr:=h.lt
 have hq:(((Za.hd l).kind:Int) != 0)=true:=by simp;omega
 have H:=hide h
 clear h hk
 generalize ((Za.hd l).kind:Int)=gk at*
 go_enter Tryz.func41,Tryz.ntmps41
 go_wp2_with fail
 refine(bT _ rb s l ns nv e0 2 (ae H)).mono ?_
 rintro e w3 ⟨rfl,hs3,hk3⟩
 have dV:=hide hs3
 have dQ:=hide hk3
 clear hs3 hk3
 go_wp2_with fail
 go_ret
 exact⟨rfl,ae dV,ae dQ⟩
theorem qu {α:Type} {F:α→List Value} {c:Nat} (hF:∀a,(F a).length=c):∀{us:List α} {i:Nat} (h:i<us.length) (j:Nat),j<c→(us.flatMap F)[i*c+j]?=(F us[i])[j]?
 | t :: r,0,_,j,hj=>by rw[List.flatMap_cons,List.getElem?_append_left (by rw[hF];omega)];simp
 | t :: r,i+1,h,j,hj=>by
  rw[List.flatMap_cons,List.getElem?_append_right (by rw[hF,Nat.add_mul];omega),hF]
  rw[show (i+1)*c+j - c=i*c+j by rw[Nat.add_mul];omega]
  simpa using qu hF (by simpa using h) j hj
def aI (n:Nat):Value:= .int .i64 (n:Int)
theorem infoNd:(Tryz.prog.info? 180).map (fun i=>(i.zero,i.size,i.bytes))=some (some (.agg #[.int .i64 0,.int .i64 0,.string ⟨#[]⟩,.int .i64 0,.slice none 0 0,.int .i64 0,.int .i64 0]),7,80):=by kernel_rfl
theorem infoIn:(Tryz.prog.info? 3).map (fun i=>(i.zero,i.size,i.bytes))=some (some (.int .i64 0),1,8):=by kernel_rfl
theorem ie (W:World) (n:Nat) (a:Value) (T:TypeId) (hn:n=W.heap.size):∀j u,([a]:List Value)[j]?=some u→(W.alloc (.cells #[a] T)).cell? ((⟨n,0,none⟩:Addr).add j)=some u:=by
 subst hn
 intro j u hj
 match j,hj with
 | 0,hj=>simp at hj;subst hj;simp[Addr.add]
theorem SX (W:World) (n:Nat) (A:Array Value) (T:TypeId) (xs:List Value) (hn:n=W.heap.size) (hx:A.toList=xs):∀j u,xs[j]?=some u→(W.alloc (.cells A T)).cell? ((⟨n,0,none⟩:Addr).add j)=some u:=by
 subst hn hx
 intro j u hj
 have:=ag (heap_alloc_new W (.cells A T)) j
 rw[show (⟨W.heap.size,0,none⟩:Addr).add j=⟨W.heap.size,j,none⟩by cases j<;>simp[Addr.add],this]
 simpa using hj
def jd (a:AV):Int:=if a.k=2 then a.val else 0
theorem qw (w:World) (a:AV):
 Calls Tryz.prog 95 #[.agg #[.int .i64 a.k,.int .i64 a.val,.string a.tx,.slice a.ao a.n a.cap]] w fun e w'=>e= .returned (.agg #[.int .i64 a.k,.int .i64 (jd a),.string a.tx,.int .i64 (a.n:Int)])∧Below w.heap.size w w':=by
 cases hk:(a.k == 2)
 ·have HV:=hide (show jd a=0 by unfold jd;rw[if_neg (by simpa using hk)])
  go_enter Tryz.func95,Tryz.ntmps95
  go_wp2_with fail
  refine bodyPost_ret (v:= .agg #[.int .i64 a.k,.int .i64 0,.string a.tx,.int .i64 (a.n:Int)]) (by simp[results,Tryz.results95,go_sem]) rfl ?_
  exact⟨by rw[ae HV],(((Below.refl _ _).alloc (Nat.le_refl _) _).alloc (by simp) _).alloc (by simp;omega) _⟩
 ·have hk2:a.k=2:=by simpa using hk
  have HV:=hide (show jd a=a.val by unfold jd;rw[if_pos hk2])
  obtain⟨k,val,tx,ao,n,cap⟩:=a
  dsimp only at hk2 HV⊢
  subst hk2
  clear hk
  go_enter Tryz.func95,Tryz.ntmps95
  go_wp2_with fail
  refine bodyPost_ret (v:= .agg #[.int .i64 2,.int .i64 val,.string tx,.int .i64 (n:Int)]) (by simp[results,Tryz.results95,go_sem]) rfl ?_
  exact⟨by rw[ae HV],(((Below.refl _ _).alloc (Nat.le_refl _) _).alloc (by simp) _).alloc (by simp;omega) _⟩
theorem su {w:World} {b:Nat} {e:TypeId} {sz:Nat} {v:Value} {n:Nat} {xs:List Value} (h:w.ownsRow b e sz v (n+1) xs):∃g cap,v= .slice (some ⟨g,0,none⟩) (n+1) cap:=by
 rcases h.2 with⟨_,q⟩ | ⟨g,cap,cur,q,_⟩
 ·omega
 ·exact⟨g,cap,q⟩
theorem bK.jm {α β:Type} {R:α→β→Prop}:∀{xs:List α} {ys:List β},bK R xs ys→∀(i:Nat) (h:i<xs.length) (h':i<ys.length),R xs[i] ys[i]
 | _ :: _,_ :: _,q,0,_,_=>q.1
 | _ :: _,_ :: _,q,i+1,h,h'=>bK.jm q.2 i (by simpa using h) (by simpa using h')
theorem Oc {us:List AV} {i:Nat} (h:i<us.length) (j:Nat) (hj:j<4):(us.flatMap gq)[i*4+j]?=(gq us[i])[j]?:=qu (F:=gq) (c:=4) (fun _=>rfl) h j hj
end Go.Proofs.YthfjnfcekeknlaaGreatDoor
namespace Za
def ay (ns:List (List UInt8)) (xs:List aC):List (List UInt8):=xs.foldl aK ns
theorem G1 {α:Type} {F:List (List UInt8)→α→List (List UInt8)} {c:Nat} (xs:List α):(∀t∈xs,∀ns,∃M,F ns t=ns++M∧M.length≤c)→∀ns,∃M,xs.foldl F ns=ns++M∧M.length≤xs.length*c:=by
 induction xs with
 | nil=>exact fun _ ns=>⟨[],by simp,by simp⟩
 | cons t ts ih=>
  intro h ns
  obtain⟨M,hM,hl⟩:=h t (by simp) ns
  obtain⟨M2,hM2,hl2⟩:=ih (fun u hu=>h u (by simp[hu])) (F ns t)
  refine⟨M++M2,by rw[List.foldl_cons,hM2,hM,List.append_assoc],?_⟩
  rw[List.length_append,List.length_cons,Nat.add_mul]
  omega
theorem sw (xs:List aC) (h:∀x∈xs,GX x) (ns:List (List UInt8)):∃M,xs.foldl aK ns=ns++M∧M.length≤xs.length*20000:=
 G1 (F:=aK) (c:=20000) xs (fun t ht=>wR t (h t ht)) ns
end Za
namespace Za
open Go
structure gX where
 v:ByteArray→ByteArray
 n:ByteArray→ByteArray
def arS:List (List UInt8)→List UInt8
 | []=>[]
 | x :: xs=>40 :: x++xs.flatMap (fun y=>44 :: y)++[41]
def bB (σ:gX):Nat→Tm→List UInt8
 | 0,_=>[]
 | f+1,t=>if t.kind=3 then(σ.v t.text).toList else if t.kind=4 then(σ.n t.text).toList else t.text.toList++arS (t.args.map (bB σ f))
def iI (σ:gX):Nat→Tm→Tm
 | 0,t=>t
 | f+1,t=>if t.kind=3 then⟨3,σ.v t.text,[]⟩else if t.kind=4 then⟨4,σ.n t.text,[]⟩else⟨2,t.text,t.args.map (iI σ f)⟩
def gH (σ:gX):Nat→Tm→Prop
 | 0,_=>False
 | f+1,t=>(t.kind=3∧kC 3 (σ.v t.text).toList)∨(t.kind=4∧kC 4 (σ.n t.text).toList∧(σ.n t.text).size≤6)∨(t.kind=2∧kC 2 t.text.toList∧t.args.length≤3∧∀a∈t.args,gH σ f a)
def stops:List UInt8:=[44,41,61,60,92,124,46,58,43]
def sy (rest:List UInt8):Prop:=∃c r,(rest=c :: r∨rest=32 :: c :: r∨rest=[])∧c∈stops
theorem tY (b:ByteArray):(⟨b.toList.toArray⟩:ByteArray)=b:=by
 rw[ByteArray.toList_eq]
theorem fK (x:List UInt8):(⟨x.toArray⟩:ByteArray).toList=x:=by
 rw[ByteArray.toList_eq]
theorem kH {c:UInt8} (h:c∈stops):Za.blank c.toNat=false∧cV 3 c.toNat=false∧c≠40:=by
 simp only[stops,List.mem_cons,List.not_mem_nil,or_false]at h
 rcases h with rfl | rfl | rfl | rfl | rfl | rfl | rfl | rfl | rfl<;>decide
theorem sy.word {rest:List UInt8} (h:sy rest):∀c r,rest=c :: r→cV 3 c.toNat=false:=by
 obtain⟨c,r,h1 | h1 | h1,h2⟩:=h
 ·intro d q hq
  rw[h1]at hq
  injection hq with e _
  subst e
  exact(kH h2).2.1
 ·intro d q hq
  rw[h1]at hq
  injection hq with e _
  subst e
  decide
 ·intro d q hq
  rw[h1]at hq
  cases hq
theorem gS {l:List Tok} {c d:UInt8} {r g:List UInt8} (h:(hd l).text.toList=c :: r) (hd:c≠d):sees l (d :: g)=false:=by
 unfold sees
 rw[h]
 simp[hd]
theorem sA {l:List Tok} (h:(hd l).kind=0) (g:List UInt8):sees l g=false:=by
 unfold sees
 rw[h]
 rfl
theorem Tk.rest {s:ByteArray} {p:Nat} {l:List Tok} {rest:List UInt8} (h:Tk s p l) (ha:At s p rest) (hr:sy rest):sees l [40]=false:=by
 obtain⟨c,r,h1 | h1 | h1,h2⟩:=hr
 ·subst h1
  obtain⟨q,hq⟩:=h.first ha (kH h2).1
  exact gS hq (kH h2).2.2
 ·subst h1
  obtain⟨k1,k2⟩:=h.blank ha (by decide)
  obtain⟨q,hq⟩:=k1.first k2 (kH h2).1
  exact gS hq (kH h2).2.2
 ·subst h1
  exact sA (h.done ha) _
theorem ek (p:Nat) (x g:List UInt8) (m:List Tok):sees (⟨5,p,⟨x.toArray⟩⟩ :: m) g=(x == g):=by
 show ((5 == 5)&&(⟨x.toArray⟩:ByteArray).toList == g)=_
 rw[fK]
 rfl
theorem Od {a:Nat} (h:a≠58∧a≠61∧a≠92) (c:Nat):cU a c=false:=by
 unfold cU
 simp[h.1,h.2.1,h.2.2]
theorem Tk.one {s:ByteArray} {p:Nat} {l:List Tok} {rest:List UInt8} (a:UInt8) (h:Tk s p l) (ha:At s p (a :: rest)) (hq:(sk a.toNat&&fo a.toNat&&a != 58&&a != 61&&a != 92)=true):l=⟨5,p,⟨#[a]⟩⟩ :: l.tail∧Tk s (p+1) l.tail∧At s (p+1) rest:=by
 simp only[Bool.and_eq_true,bne_iff_ne,ne_eq]at hq
 obtain⟨⟨⟨⟨h1,h2⟩,h3⟩,h4⟩,h5⟩:=hq
 refine h.MB ha h1 h2 (fun c r _=>Od ⟨fun e=>h3 ?_,fun e=>h4 ?_,fun e=>h5 ?_⟩ _)
 ·exact UInt8.toNat_inj.1 e
 ·exact UInt8.toNat_inj.1 e
 ·exact UInt8.toNat_inj.1 e
def Kn (σ:gX) (f:Nat) (t:Tm):Prop:=∀(s:ByteArray) (p:Nat) (l:List Tok) (rest:List UInt8),Tk s p l→At s p (bB σ f t++rest)→sy rest→∃l',term f l= .inr (iI σ f t,l')∧Tk s (p+(bB σ f t).length) l'∧At s (p+(bB σ f t).length) rest
theorem A7 {σ:gX} {f:Nat}:∀(ts:List Tm) (t:Tm) (k:Nat),ts.length≤k→Kn σ f t→(∀u∈ts,Kn σ f u)→∀(s:ByteArray) (p:Nat) (l:List Tok) (rest:List UInt8),Tk s p l→At s p (bB σ f t++(ts.map (bB σ f)).flatMap (fun y=>44 :: y)++41 :: rest)→∃l',bG (term f) k l= .inr (iI σ f t :: ts.map (iI σ f),l')∧Tk s (p+(bB σ f t++(ts.map (bB σ f)).flatMap (fun y=>44 :: y)).length+1) l'∧At s (p+(bB σ f t++(ts.map (bB σ f)).flatMap (fun y=>44 :: y)).length+1) rest
 | [],t,k,_,ht,_,s,p,l,rest,hl,ha=>by
  simp only[List.map_nil,List.flatMap_nil,List.append_nil]at ha⊢
  obtain⟨l1,e1,k1,a1⟩:=ht s p l _ hl ha ⟨41,rest,Or.inl rfl,by decide⟩
  obtain⟨e2,k2,a2⟩:=k1.one 41 a1 (by decide)
  refine⟨l1.tail,?_,k2,a2⟩
  rw[bG,e1]
  dsimp only
  rw[e2]
  rw[show sees (⟨5,p+(bB σ f t).length,⟨#[41]⟩⟩ :: l1.tail) [44]=false from ek _ [41] [44] _,show sees (⟨5,p+(bB σ f t).length,⟨#[41]⟩⟩ :: l1.tail) [41]=true from ek _ [41] [41] _]
  rfl
 | u :: ts,t,k,hk,ht,hu,s,p,l,rest,hl,ha=>by
  cases k with
  | zero=>simp at hk
  | succ k=>
   simp only[List.map_cons,List.flatMap_cons,List.append_assoc,List.cons_append]at ha
   obtain⟨l1,e1,k1,a1⟩:=ht s p l _ hl ha ⟨44,_,Or.inl rfl,by decide⟩
   obtain⟨e2,k2,a2⟩:=k1.one 44 a1 (by decide)
   obtain⟨l3,e3,k3,a3⟩:=A7 ts u k (by simpa using hk) (hu u (by simp)) (fun x hx=>hu x (by simp[hx])) s _ _ rest k2 (by simpa using a2)
   have hz:p+(bB σ f t).length+1+(bB σ f u++(ts.map (bB σ f)).flatMap (fun y=>44 :: y)).length+1=p+(bB σ f t++((u :: ts).map (bB σ f)).flatMap (fun y=>44 :: y)).length+1:=by
    simp;omega
   rw[hz]at k3 a3
   refine⟨l3,?_,k3,a3⟩
   rw[bG,e1]
   dsimp only
   rw[e2]
   rw[if_pos (show sees (⟨5,p+(bB σ f t).length,⟨#[44]⟩⟩ :: l1.tail) [44]=true from ek _ [44] [44] _)]
   show (match bG (term f) k l1.tail with | .inl e=>_ | .inr (ts,l2)=>_)=_
   rw[e3]
   rfl
theorem kJ (σ:gX):∀(f:Nat) (t:Tm),gH σ f t→Kn σ f t
 | 0,_,h=>h.elim
 | f+1,t,h=>by
  intro s p l rest hl ha hr
  rcases h with⟨hk,hw⟩ | ⟨hk,hw,h6⟩ | ⟨hk,hw,h3,hargs⟩
  ·have e0:bB σ (f+1) t=(σ.v t.text).toList:=by unfold bB;rw[if_pos hk]
   have e1:iI σ (f+1) t=⟨3,σ.v t.text,[]⟩:=by unfold iI;rw[if_pos hk]
   rw[e0]at ha⊢
   obtain⟨k1,k2,k3⟩:=hl.word hw ha hr.word
   rw[tY]at k1
   refine⟨l.tail,?_,k2,k3⟩
   rw[e1,k1]
   rfl
  ·have e0:bB σ (f+1) t=(σ.n t.text).toList:=by unfold bB;rw[if_neg (by omega),if_pos hk]
   have e1:iI σ (f+1) t=⟨4,σ.n t.text,[]⟩:=by unfold iI;rw[if_neg (by omega),if_pos hk]
   rw[e0]at ha⊢
   obtain⟨k1,k2,k3⟩:=hl.word hw ha hr.word
   rw[tY]at k1
   refine⟨l.tail,?_,k2,k3⟩
   rw[e1,k1]
   unfold term
   rw[if_pos (show begins (hd (⟨4,p,σ.n t.text⟩ :: l.tail))=true from rfl),if_neg (show¬((hd (⟨4,p,σ.n t.text⟩ :: l.tail)).kind=4∧6<(hd (⟨4,p,σ.n t.text⟩ :: l.tail)).text.size)from fun q=>by have:=q.2;change 6<(σ.n t.text).size at this;omega)]
   rfl
  ·have e0:bB σ (f+1) t=t.text.toList++arS (t.args.map (bB σ f)):=by unfold bB;rw[if_neg (by omega),if_neg (by omega)]
   have e1:iI σ (f+1) t=⟨2,t.text,t.args.map (iI σ f)⟩:=by unfold iI;rw[if_neg (by omega),if_neg (by omega)]
   rw[e0]at ha⊢
   cases hA:t.args with
   | nil=>
    rw[hA]at ha e1
    simp only[List.map_nil,arS,List.append_nil]at ha e1⊢
    obtain⟨k1,k2,k3⟩:=hl.word hw ha hr.word
    rw[tY]at k1
    refine⟨l.tail,?_,k2,k3⟩
    have hs:sees l.tail [40]=false:=k2.rest k3 hr
    rw[e1,k1]
    unfold term
    rw[if_pos (show begins (hd (⟨2,p,t.text⟩ :: l.tail))=true from rfl),if_neg (show¬((hd (⟨2,p,t.text⟩ :: l.tail)).kind=4∧6<(hd (⟨2,p,t.text⟩ :: l.tail)).text.size)from fun q=>by have:=q.1;change 2=4 at this;omega),if_pos (show (hd (⟨2,p,t.text⟩ :: l.tail)).kind=2 from rfl),if_neg (show¬sees (List.tail (⟨2,p,t.text⟩ :: l.tail)) [40]=true from by rw[List.tail_cons,hs];simp)]
    rfl
   | cons u ts=>
    rw[hA]at ha e1 h3
    have hu:=kJ σ f u (hargs u (by rw[hA];simp))
    have hts:=fun x (hx:x∈ts)=>kJ σ f x (hargs x (by rw[hA];simp[hx]))
    simp only[List.map_cons,arS,List.append_assoc,List.cons_append,List.nil_append]at ha
    obtain⟨k1,k2,k3⟩:=hl.word hw ha (fun c r q=>by injection q with q _;subst q;decide)
    rw[tY]at k1
    obtain⟨j1,j2,j3⟩:=k2.one 40 k3 (by decide)
    obtain⟨l3,e3,m3,a3⟩:=A7 ts u 2 (by simpa using h3) hu hts s _ _ rest j2 (by simpa using j3)
    have hz:p+t.text.toList.length+1+(bB σ f u++(ts.map (bB σ f)).flatMap (fun y=>44 :: y)).length+1=p+(t.text.toList++arS ((u :: ts).map (bB σ f))).length:=by
     simp[arS];omega
    rw[hz]at m3 a3
    refine⟨l3,?_,m3,a3⟩
    rw[e1,k1]
    unfold term
    rw[if_pos (show begins (hd (⟨2,p,t.text⟩ :: l.tail))=true from rfl),if_neg (show¬((hd (⟨2,p,t.text⟩ :: l.tail)).kind=4∧6<(hd (⟨2,p,t.text⟩ :: l.tail)).text.size)from fun q=>by have:=q.1;change 2=4 at this;omega),if_pos (show (hd (⟨2,p,t.text⟩ :: l.tail)).kind=2 from rfl),if_pos (show sees (List.tail (⟨2,p,t.text⟩ :: l.tail)) [40]=true from by rw[List.tail_cons,j1];exact ek _ [40] [40] _)]
    show (match bG (term f) 2 l.tail.tail with | .inl e=>_ | .inr (ts,l2)=>_)=_
    rw[e3]
    rfl
end Za
