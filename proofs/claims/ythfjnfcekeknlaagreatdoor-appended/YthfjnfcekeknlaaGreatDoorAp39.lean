import Derived.Test.YthfjnfcekeknlaaGreatDoorAp37
import Derived.Test.YthfjnfcekeknlaaGreatDoorAp38
import Derived.Test.YthfjnfcekeknlaaGreatDoorCards
import Derived.Test.YthfjnfcekeknlaaGreatDoorTie
import Derived.WalkKit
import Derived.ProofKit
import Derived.OpenShut
import Derived.Carry
import Derived.Deep.DeepHandedRow
import Derived.Deep.Slices
import Derived.Lib.LaidTab
import Derived.Lib.SmallJoins
set_option maxHeartbeats 8000000
set_option maxRecDepth 100000
namespace Go.Proofs.YthfjnfcekeknlaaGreatDoor
open Go.RowKit
theorem ui.keep {cls:List Za.aL} {F:List Nat} {script:List (Int×Int)} {S0:b8} {b b':Nat} {e:Ending} {w' w2:World} (h:ui cls F script S0 b e w') (hb:b'≤b) (hk:∀k,b≤k→w2.heap[k]?=w'.heap[k]?):ui cls F script S0 b' e w2:=by
 have row:∀{Y:TypeId} {o:Option Addr} {n cap:Nat} {xs:List Value},w'.ownsRow b Y 1 (.slice o n cap) n xs→w2.ownsRow b' Y 1 (.slice o n cap) n xs:=fun {Y o n cap xs} q=>cf (ai q fun k r=>hk k (q.lt k r).1) hb
 obtain⟨j,S,L,lo,lc,h1,⟨h2,xo,xc,go,gc,yo,yc,h3,h4,h5,h6,h7,h8⟩ | ⟨pg,pc,i,en,z,h2,h3,h4,h5,h6⟩⟩:=h
 ·exact⟨j,S,L,lo,lc,h1,Or.inl ⟨h2,xo,xc,go,gc,yo,yc,h3,row h4,row h5,row h6,row h7,h8⟩⟩
 ·exact⟨j,S,L,lo,lc,h1,Or.inr ⟨pg,pc,i,en,z,h2,h3,h4,h5,row h6⟩⟩
theorem ui.five {cls:List Za.aL} {F:List Nat} {script:List (Int×Int)} {S0:b8} {b:Nat} {e:Ending} {w':World} (h:ui cls F script S0 b e w'):∃(en:Int) (lo:Option Addr) (ln lc:Nat) (xo:Option Addr) (xn xc:Nat) (go:Option Addr) (gn gc:Nat) (yo:Option Addr) (yn yc:Nat),e= .returned (.agg #[.int .i64 en,.slice lo ln lc,.slice xo xn xc,.slice go gn gc,.slice yo yn yc]):=by
 obtain⟨j,S,L,lo,lc,h1,⟨h2,xo,xc,go,gc,yo,yc,h3,_⟩ | ⟨pg,pc,i,en,z,h2,h3,h4,h5,h6⟩⟩:=h
 ·exact⟨_,_,_,_,_,_,_,_,_,_,_,_,_,h3⟩
 ·exact⟨_,_,_,_,_,_,_,_,_,_,_,_,_,h5⟩
structure Gi (sp:ByteArray) (LP:List Za.aj) (sq:ByteArray) (LQ:List Za.aj):Prop where
 pe:∀e,Za.prog 12 LP= .inl e→e.1≠0
 qe:∀e,Za.query LQ= .inl e→e.1≠0
 p:∀cls l,sp.size≤240→Za.prog 12 LP= .inr (cls,l)→(∀c∈cls,Za.jH c∧∀x∈c.goals,Za.iW x)∧cls.length≤12
 q:∀ys l,sq.size≤96→Za.query LQ= .inr (ys,l)→(∀x∈ys,Za.iW x)∧ys.length≤6∧(Za.aC [] ys).length≤100∧∀x∈ys,∀η:List UInt8→Za.U,(∀y∈Za.aC [] ys,Za.size (η y)=1)→Za.size (Za.bJ η 8 x.left)≤300∧(∀r,x.right=some r→Za.size (Za.bJ η 8 r)≤300)∧(∀z,x.last=some z→Za.size (Za.bJ η 8 z)≤300)
def ml (s:ByteArray) (L:List Za.aj):Nat:=if 96<s.size then 1 else(match Za.query L with
 | .inl e=>e.1
 | .inr _=>0)
def j9 (s:ByteArray) (L:List Za.aj):Nat:=if 240<s.size then 1 else Za.ER (Za.prog 12 L)
def RZ (sp:ByteArray) (LP:List Za.aj) (sq:ByteArray) (LQ:List Za.aj) (script:List (Int×Int)) (w:World) (e:Ending) (w':World):Prop:=
 (∃er:Nat,er≠0∧er=(if j9 sp LP≠0 then j9 sp LP else if 100<script.length then 1 else ml sq LQ)∧e= .returned (.tuple #[.agg #[.int .i64 0,.slice none 0 0,.slice none 0 0,.slice none 0 0,.slice none 0 0],.int .i64 (er:Int)])∧Below w.heap.size w w')∨
 (j9 sp LP=0∧script.length≤100∧ml sq LQ=0∧∃(cls:List Za.aL) (l1:List Za.aj) (ys:List Za.aH) (l2:List Za.aj) (F:List Nat) (S0:b8) (R:Value),Za.prog 12 LP= .inr (cls,l1)∧Za.query LQ= .inr (ys,l2)∧CS (Za.aC [] ys) ys F S0∧e= .returned (.tuple #[R,.int .i64 0])∧ui cls F script S0 w.heap.size (.returned R) w'∧Below w.heap.size w w')
theorem SY (w:World) (s:ByteArray) (L:List Za.aj) (hL:Za.dY s L) (hh:Za.hd L=Za.next s 0) (hl:s.size≤240→L.length≤1000) (aW:dH w) (h0:0<w.heap.size) (he:∀e,Za.prog 12 L= .inl e→e.1≠0):
 Calls Tryz.prog 26 #[.string s] w fun e w'=>∃(o:Option Addr) (n c p:Nat),e= .returned (.agg #[.slice o n c,.int .i64 (j9 s L:Int),.int .i64 (p:Int)])∧(j9 s L=0→s.size≤240∧∃cls l1,Za.prog 12 L= .inr (cls,l1)∧cX w' o n cls)∧Below w.heap.size w w':=by
 by_cases hs:240<s.size
 ·refine(L5 w s hs).mono ?_
  rintro e w' ⟨rfl,hb⟩
  have:j9 s L=1:=by unfold j9;rw[if_pos hs]
  exact⟨none,0,0,0,by rw[this];rfl,fun q=>by omega,hb⟩
 ·refine(N6 w s L (by omega) hL hh (hl (by omega)) aW h0).mono ?_
  rintro e w' ⟨o,n,c,rfl,hr,hb⟩
  have e1:j9 s L=Za.ER (Za.prog 12 L):=by unfold j9;rw[if_neg hs]
  refine⟨o,n,c,Za.posOf (Za.prog 12 L),by rw[e1],fun q=>⟨by omega,?_⟩,hb⟩
  rw[e1]at q
  cases hp:Za.prog 12 L with
  | inl x=>rw[hp]at q;exact absurd q (he x hp)
  | inr x=>
   obtain⟨cls,l1⟩:=x
   rw[hp]at hr
   exact⟨cls,l1,rfl,hr⟩
theorem R5 (w:World) (s:ByteArray) (L:List Za.aj) (hL:Za.dY s L) (hh:Za.hd L=Za.next s 0) (hl:s.size≤96→L.length≤1000) (aW:dH w) (h0:0<w.heap.size) (he:∀e,Za.query L= .inl e→e.1≠0):
 Calls Tryz.prog 27 #[.string s] w fun e w'=>∃(o:Option Addr) (n c:Nat),e= .returned (.agg #[.slice o n c,.int .i64 (ml s L:Int)])∧(ml s L=0→s.size≤96∧∃ys l1,Za.query L= .inr (ys,l1)∧b6 (Za.aC [] ys) w' o n ys)∧Below w.heap.size w w':=by
 by_cases hs:96<s.size
 ·refine(Ot w s hs).mono ?_
  rintro e w' ⟨rfl,hb⟩
  have:ml s L=1:=by unfold ml;rw[if_pos hs]
  exact⟨none,0,0,by rw[this];rfl,fun q=>by omega,hb⟩
 ·refine(RT w s L (by omega) hL hh (hl (by omega)) aW h0).mono ?_
  rintro e w' ⟨o,n,c,er,rfl,hr,hb⟩
  cases hp:Za.query L with
  | inl x=>
   obtain⟨x1,x2⟩:=x
   rw[hp]at hr
   have e1:ml s L=x1:=by unfold ml;rw[if_neg hs,hp]
   have OM:er=x1:=hr
   exact⟨o,n,c,by rw[e1,OM],fun q=>by rw[e1]at q;exact absurd q (he _ hp),hb⟩
  | inr x=>
   obtain⟨ys,l1⟩:=x
   rw[hp]at hr
   have e1:ml s L=0:=by unfold ml;rw[if_neg hs,hp]
   obtain⟨rfl,hi⟩:=hr
   exact⟨o,n,c,by rw[e1],fun _=>⟨by omega,ys,l1,rfl,hi⟩,hb⟩
theorem Oy (w:World) (sp:ByteArray) (LP:List Za.aj) (sq:ByteArray) (LQ:List Za.aj) (script:List (Int×Int)) (so:Option Addr) (sc:Nat) (hP:Za.dY sp LP) (hPh:Za.hd LP=Za.next sp 0) (hPl:sp.size≤240→LP.length≤1000) (hQ:Za.dY sq LQ) (hQh:Za.hd LQ=Za.next sq 0) (hQl:sq.size≤96→LQ.length≤1000) (aW:dH w) (h0:0<w.heap.size) (CN:Pow w) (aF:Gi sp LP sq LQ) (hsc:pC w so script) (mF:∀p∈script,(-9223372036854775808≤p.1∧p.1≤9223372036854775807)∧(-9223372036854775808≤p.2∧p.2≤9223372036854775807)):
 Calls Tryz.prog 15 #[.string sp,.string sq,.slice so script.length sc] w fun e w'=>RZ sp LP sq LQ script w e w':=by
 have hb0:=(Below.refl w.heap.size w).alloc (Nat.le_refl _) (.cells #[.int .i64 0,.slice none 0 0,.slice none 0 0,.slice none 0 0,.slice none 0 0] 32)
 have IP:=af (SY _ sp LP hP hPh hPl (aW.below hb0 h0) (by simp) aF.pe)
 have IQ:=af (fun W (hu:Below w.heap.size w W)=>R5 W sq LQ hQ hQh hQl (aW.below hu h0) (Nat.lt_of_lt_of_le h0 hu.size) aF.qe)
 have Ji:=af (heap_alloc_new w (.cells #[.int .i64 0,.slice none 0 0,.slice none 0 0,.slice none 0 0,.slice none 0 0] 32))
 have aX:=af hb0
 have qO:=af aF
 have Eo:=af CN
 have Sa:=af hsc
 have zt:=af mF
 clear hb0 hP hPh hPl hQ hQh hQl aW CN aF hsc mF
 generalize UF:j9 sp LP=ep at*
 generalize heq:ml sq LQ=eq at*
 have M5:=af UF
 have UG:=af heq
 clear UF heq
 go_enter Tryz.func15,Tryz.ntmps15
 go_wp2_with fail
 refine(ae IP).mono ?_
 rintro e w1 ⟨o1,n1,c1,p1,rfl,oq,hb1⟩
 have L6:=(ae aX).trans (hb1.mono (ae aX).size)
 have hz1:=(hb1.block w.heap.size (by simp)).trans (ae Ji)
 have hbA:=L6.alloc L6.size (.cells #[.slice o1 n1 c1,.int .i64 (ep:Int),.int .i64 (p1:Int)] 52)
 have hzA:=aB hz1 (.cells #[.slice o1 n1 c1,.int .i64 (ep:Int),.int .i64 (p1:Int)] 52)
 have haA:=heap_alloc_new w1 (.cells #[.slice o1 n1 c1,.int .i64 (ep:Int),.int .i64 (p1:Int)] 52)
 have IQ1:=af (ae IQ _ hbA)
 have Ht:=af oq
 have Sb:=af hzA
 have GN:=af haA
 have xR:=af hbA
 have z1w:w.heap.size<w1.heap.size:=ag hz1
 clear oq hb1 L6 hz1 hbA hzA haA IP IQ
 go_wp2_with fail
 refine(ae IQ1).mono ?_
 rintro e w2 ⟨o2,n2,c2,rfl,jw,hb2⟩
 have uh:=(ae xR).trans (hb2.mono (ae xR).size)
 have hz2:=(hb2.block _ (ag (ae Sb))).trans (ae Sb)
 have ha2:=(hb2.block _ (ag (ae GN))).trans (ae GN)
 have hbB:=uh.alloc uh.size (.cells #[.slice o2 n2 c2,.int .i64 (eq:Int)] 56)
 have hzB:=aB hz2 (.cells #[.slice o2 n2 c2,.int .i64 (eq:Int)] 56)
 have haB:=aB ha2 (.cells #[.slice o2 n2 c2,.int .i64 (eq:Int)] 56)
 have hqB:=heap_alloc_new w2 (.cells #[.slice o2 n2 c2,.int .i64 (eq:Int)] 56)
 have tI:=ag ha2
 have gh:ep=0→sp.size≤240∧∃cls l1,Za.prog 12 LP= .inr (cls,l1)∧cX (w2.alloc (.cells #[.slice o2 n2 c2,.int .i64 (eq:Int)] 56)) o1 n1 cls:=fun q=>by
  obtain⟨q1,cls,l1,q2,q3⟩:=ae Ht q
  exact⟨q1,cls,l1,q2,((ed.below ((Below.refl _ w1).alloc (Nat.le_refl _) _)).trans ((ed.below hb2).trans (ed.below ((Below.refl _ w2).alloc (Nat.le_refl _) _)))).cls q3⟩
 have UH:eq=0→sq.size≤96∧∃ys l1,Za.query LQ= .inr (ys,l1)∧b6 (Za.aC [] ys) (w2.alloc (.cells #[.slice o2 n2 c2,.int .i64 (eq:Int)] 56)) o2 n2 ys:=fun q=>by
  obtain⟨q1,ys,l1,q2,q3⟩:=jw q
  exact⟨q1,ys,l1,q2,q3.keep (aT.alloc _ _)⟩
 have vF:=af gh
 have M6:=af UH
 generalize hw3:w2.alloc (.cells #[.slice o2 n2 c2,.int .i64 (eq:Int)] 56)=w3 at*
 have a0:=ah haB 0
 have a1:=ah haB 1
 have q0:=ah hqB 0
 have q1:=ah hqB 1
 have az:=ag haB
 have qz:=ag hqB
 have z0:=ah hzB
 have zx:=ay hzB
 have zz:=ag hzB
 simp only[List.getElem?_toArray,List.getElem?_cons_zero,List.getElem?_cons_succ]at a0 a1 q0 q1
 have oh:=af hbB
 have MZ:=af hzB
 clear jw hb2 uh hz2 ha2 hbB hzB haB hqB gh UH IQ1 Ht Sb GN xR Ji aX
 by_cases h1:ep=0
 ·have t1:((ep:Int) != 0)=false:=by rw[h1];rfl
  have t1':((ep:Int) == 0)=true:=by rw[h1];rfl
  by_cases h2:100<script.length
  ·have t2:decide (100<(script.length:Int))=true:=by simp;omega
   have HE:=af (show (1:Nat)=(if j9 sp LP≠0 then j9 sp LP else if 100<script.length then 1 else ml sq LQ)by rw[ae M5,if_neg (by omega),if_pos h2])
   clear h1 h2
   go_wp2_with fail
   refine bodyPost_ret (v:= .tuple #[.agg #[.int .i64 0,.slice none 0 0,.slice none 0 0,.slice none 0 0,.slice none 0 0],.int .i64 1]) (by simp[results,Tryz.results15,go_sem,z0]) rfl ?_
   exact Or.inl ⟨1,by omega,ae HE,rfl,(((((ae oh).setCell (Nat.le_refl _) _).setCell (Nat.le_refl _) _).setCell (Nat.le_refl _) _).setCell (Nat.le_refl _) _).setCell (Nat.le_refl _) _⟩
  ·have t2:decide (100<(script.length:Int))=false:=by simp;omega
   by_cases h3:eq=0
   ·have t3:((eq:Int) != 0)=false:=by rw[h3];rfl
    have t3':((eq:Int) == 0)=true:=by rw[h3];rfl
    obtain⟨hs1,cls,l1,CR,gh⟩:=ae vF h1
    obtain⟨hs2,ys,l2,Sc,hit⟩:=ae M6 h3
    obtain⟨okp,cl12⟩:=(ae qO).p cls l1 hs1 CR
    obtain⟨okq,il6,nl,szq⟩:=(ae qO).q ys l2 hs2 Sc
    have th:n1=cls.length:=gh.1
    subst th
    have Sd:Uz w3 cls o1 ys (Za.aC [] ys) o2 n2 script so:=⟨gh,okp,cl12,hit,okq,il6,⟨[],by simp⟩,nl,szq,fun hne=>by
     obtain⟨g,off,q1,q2,q3⟩:=ae Sa hne
     exact⟨g,off,q1,Nat.lt_of_lt_of_le q2 (ae oh).size,fun i hi=>⟨((ae oh).cell (p:=⟨g,off+i*2,none⟩) q2).trans (q3 i hi).1,((ae oh).cell (p:=⟨g,off+i*2+1,none⟩) q2).trans (q3 i hi).2⟩⟩,by omega,ae zt,(ae Eo).below (ae oh)⟩
    have IY:=af (Jr w3 cls o1 c1 ys (Za.aC [] ys) o2 n2 c2 script so sc Sd)
    have dB:=af (show∀(R:Value) (F:List Nat) (S0:b8) (w4 w5:World),CS (Za.aC [] ys) ys F S0→ui cls F script S0 w3.heap.size (.returned R) w4→(∀k,w3.heap.size≤k→w5.heap[k]?=w4.heap[k]?)→Below w.heap.size w w5→RZ sp LP sq LQ script w (.returned (.tuple #[R,.int .i64 0])) w5 from fun R F S0 w4 w5 k1 k2 k3 k4=>Or.inr ⟨by rw[ae M5];exact h1,by omega,by rw[ae UG];exact h3,cls,l1,ys,l2,F,S0,R,CR,Sc,k1,rfl,k2.keep (ae oh).size k3,k4⟩)
    clear h1 h2 h3 hs1 CR gh hs2 Sc hit okp cl12 okq il6 nl szq Sd vF M6
    go_wp2_with fail
    refine(ae IY).mono ?_
    rintro e w4 ⟨F,S0,xq,C3,hb4⟩
    obtain⟨en,lo,ln,lc,xo,xn,xc,go,gn,gc,yo,yn,yc,rfl⟩:=C3.five
    have M7:=(hb4.block _ zz).trans (ae MZ)
    have y0:=ah M7
    have yx:=ay M7
    have yz:=ag M7
    have CP:=(ae oh).trans (hb4.mono (ae oh).size)
    have cK:=af CP
    have XQ:=af C3
    have zg:=af xq
    clear M7 CP hb4 C3 xq IY
    go_wp2_with fail
    refine bodyPost_ret (v:= .tuple #[.agg #[.int .i64 en,.slice lo ln lc,.slice xo xn xc,.slice go gn gc,.slice yo yn yc],.int .i64 0]) (by simp[results,Tryz.results15,go_sem,y0]) rfl ?_
    refine ae dB _ F S0 w4 _ (ae zg) (ae XQ) (fun k hk=> ?_) ((((((ae cK).setCell (Nat.le_refl _) _).setCell (Nat.le_refl _) _).setCell (Nat.le_refl _) _).setCell (Nat.le_refl _) _).setCell (Nat.le_refl _) _)
    have q:k≠w.heap.size:=by omega
    rw[aJ _ _ _ _ q,aJ _ _ _ _ q,aJ _ _ _ _ q,aJ _ _ _ _ q,aJ _ _ _ _ q]
   ·have t3:((eq:Int) != 0)=true:=by simp;omega
    have t3':((eq:Int) == 0)=false:=by simp;omega
    have HE:=af (show eq=(if j9 sp LP≠0 then j9 sp LP else if 100<script.length then 1 else ml sq LQ)by rw[ae M5,ae UG,if_neg (by omega),if_neg h2])
    have qN:=af h3
    clear h1 h2 h3 vF M6
    go_wp2_with fail
    go_region
    all_goals
     go_wp2_with fail
     refine bodyPost_ret (v:= .tuple #[.agg #[.int .i64 0,.slice none 0 0,.slice none 0 0,.slice none 0 0,.slice none 0 0],.int .i64 (eq:Int)]) (by simp[results,Tryz.results15,go_sem,z0]) rfl ?_
     exact Or.inl ⟨eq,ae qN,ae HE,rfl,by first | exact((((((ae oh).setCell (Nat.le_refl _) _).setCell (Nat.le_refl _) _).setCell (Nat.le_refl _) _).setCell (Nat.le_refl _) _).setCell (Nat.le_refl _) _).drew | exact(((((ae oh).drew.setCell (Nat.le_refl _) _).setCell (Nat.le_refl _) _).setCell (Nat.le_refl _) _).setCell (Nat.le_refl _) _).setCell (Nat.le_refl _) _⟩
 ·have t1:((ep:Int) != 0)=true:=by simp;omega
  have t1':((ep:Int) == 0)=false:=by simp;omega
  have HE:=af (show ep=(if j9 sp LP≠0 then j9 sp LP else if 100<script.length then 1 else ml sq LQ)by rw[ae M5,if_pos h1])
  have qN:=af h1
  clear h1 vF M6
  go_wp2_with fail
  go_region
  all_goals
   go_wp2_with fail
   refine bodyPost_ret (v:= .tuple #[.agg #[.int .i64 0,.slice none 0 0,.slice none 0 0,.slice none 0 0,.slice none 0 0],.int .i64 (ep:Int)]) (by simp[results,Tryz.results15,go_sem,z0]) rfl ?_
   exact Or.inl ⟨ep,ae qN,ae HE,rfl,by first | exact((((((ae oh).setCell (Nat.le_refl _) _).setCell (Nat.le_refl _) _).setCell (Nat.le_refl _) _).setCell (Nat.le_refl _) _).setCell (Nat.le_refl _) _).drew | exact(((((ae oh).drew.setCell (Nat.le_refl _) _).setCell (Nat.le_refl _) _).setCell (Nat.le_refl _) _).setCell (Nat.le_refl _) _).setCell (Nat.le_refl _) _⟩
end Go.Proofs.YthfjnfcekeknlaaGreatDoor
namespace Za
open Go.Proofs.YthfjnfcekeknlaaGreatDoor (dA)
def ik (s:Nat) (N:List (List UInt8)) (items:List aH):MS:=⟨(List.range N.length).map fun k=> .v ([],s+k),items.map (MG.of fun y=> .v ([],s+N.idxOf y)),s+N.length⟩
end Za
namespace Go.Proofs.YthfjnfcekeknlaaGreatDoor
open Go.RowKit
open Za (U Vr aL)
theorem L8 {cls:List aL} {V:List Nat} {S:b8} {i:Nat} {p en:Int} (aF:∀c∈cls,Za.jH c) (h:xS V S) (hg:I7 cls S i p en):Za.Es cls (jl V S) i p en:=by
 obtain⟨g,gV,hc⟩:=hg
 have jZ:g∈S.G:=List.mem_of_getElem? gV
 have gw:=h.wf.gw g jZ
 have hai:(jl V S).gs[i]?=some (eI S.fr S.T g):=by show (S.G.map _)[i]?=_;rw[List.getElem?_map,gV];rfl
 have lU:Za.bB (Za.PQ (·<S.D.length)) (S.T g.l):=(h.wf.uk gw.ll).mono fun x hx=>⟨hx.1,hx.2.1⟩
 refine⟨_,hai,?_⟩
 rcases hc with⟨hs,he,rn,hr,e9,hno⟩ | ⟨hs,rn,zn,hr,e9,hz,hw,hv⟩ | ⟨hs,he,tx,us,bh,tY,rs,r1,r2,r3⟩
 ·left
  refine⟨hs,he,fun θ=> ?_⟩
  show Za.sub θ (S.T g.l)≠Za.sub θ (ct S.T g.r)
  rw[hr,gj]
  exact hno θ
 ·right;left
  obtain⟨ew,ev⟩:=CX (T:=S.T) (op:=g.op.toList) hr (fun q=>(hz q).1)
  refine⟨hs,?_,?_⟩
  ·show (Za.e7 g.op.toList (ct S.T g.r) (ct S.T g.z)).wt=[]
   rw[ew];exact hw
  ·show (en=5∧eP g.op.toList (ct S.T g.r) (ct S.T g.z)=none)∨(en=4∧∃x,eP g.op.toList (ct S.T g.r) (ct S.T g.z)=some x∧_)
   rw[ev]
   exact hv
 ·right;right
  rw[bh]at r2 lU
  refine⟨he,_,_,⟨hs,tx,us,bh,tY,rfl,rfl⟩,fun t c ht hc=> ?_⟩
  show (Za.bU S.D.length (S.T g.l) c).1=2
  rw[bh]
  have np:t<rs.length:=by omega
  obtain⟨q1,q2,_⟩:=uq r2 lU aF np hc
  rw[q1]
  unfold Za.l9 at r3
  have q3:=List.any_eq_false.1 r3 rs[t] (List.getElem_mem np)
  have q4:rs[t].1≠3:=by simpa using q3
  obtain⟨_,c',V',F',T',_,XR⟩:=r2 t rs[t] (List.getElem?_eq_getElem np)
  rcases XR with⟨_,k,_⟩ | ⟨_,_,_,_,_,k,_⟩
  ·rcases Aw (Za.matU 8 c'.head (.n 1 tx 0 us) ⟨[],Za.Wn.none⟩).w with e | e | e<;>rw[e]at k
   ·exact absurd k q2
   ·exact k
   ·exact absurd k q4
  ·rcases Aw (Za.iJ (cP T' (V'++F') (Za.NG c')) c'.tests)with e | e | e<;>rw[e]at k
   ·exact absurd k q2
   ·exact k
   ·exact absurd k q4
theorem uV (V:List Nat) (S:b8):Za.jk (jl V S).gs=cu S.fr S.G S.G.length:=by
 unfold Za.jk cu jl
 dsimp only
 rw[List.length_map]
 refine List.filter_congr fun i _=> ?_
 rw[List.getElem?_map]
 cases S.G[i]? with
 | none=>rfl
 | some g=>simp[eI]
theorem Oz (V:List Nat) (S:b8):Za.wG (jl V S).gs=gG S.fr S.G:=by
 unfold Za.wG gG
 rw[uV]
 have:(jl V S).gs=[]↔S.G=[]:=List.map_eq_nil_iff
 by_cases q:S.G=[]
 ·rw[if_pos q,if_pos (this.2 q)]
 ·rw[if_neg q,if_neg (fun e=>q (this.1 e))]
theorem big_z:Za.big Za.zU=false:=by decide
theorem uu (T:Nat→U) (x:Int):fY T x=Za.big (ct T x):=by
 unfold fY Za.big ct
 by_cases q:x= -1
 ·rw[if_pos q,decide_eq_false (fun e=>e.1 q)];exact big_z.symm
 ·rw[if_neg q]
  exact decide_eq_decide.2 ⟨fun e=>e.2,fun e=>⟨q,e⟩⟩
theorem EG {V:List Nat} {S:b8} (h:xS V S):Za.qE (jl V S)=mR V S:=by
 unfold Za.qE mR jl
 dsimp only
 rw[List.length_map,List.any_map,List.any_map,List.any_map]
 have e1:V.any (Za.big∘S.T)=V.any (fY S.T∘fun n:Nat=>(n:Int)):=by
  congr 1
  funext v
  show Za.big (S.T v)=fY S.T (v:Int)
  rw[uu,gj]
 have e2:S.G.any (Za.mh∘eI S.fr S.T)=S.G.any (ji S.D S.fr S.T):=by
  have key:∀g∈S.G,Za.mh (eI S.fr S.T g)=ji S.D S.fr S.T g:=fun g hg=>by
   have gw:=h.wf.gw g hg
   unfold Za.mh ji iK
   by_cases q:g.sg.toList=[]
   ·rw[if_pos (show (eI S.fr S.T g).sg=[]from q),if_pos q]
    have hf:=h.wf.ok.lt gw.ll
    rw[List.getElem?_eq_getElem hf]
    dsimp only[Option.elim]
    rw[List.any_map]
    have ht:=h.wf.sto.tr g.l
    have ea:Za.ga (aY S.D) (S.fr g.l)=S.D[S.fr g.l].args:=jN hf
    show (match S.T g.l with
     | .v _=>false
     | .n _ _ _ us=>us.any Za.big)=_
    generalize S.T g.l=x at ht
    cases ht with
    | var h1 h2=>rw[←ea,h2];rfl
    | @node _ k tx num us h1 h2 h3=>
     dsimp only
     rw[ea]at h2 h3
     have eu:us=S.D[S.fr g.l].args.map S.T:=by
      apply List.ext_getElem (by rw[List.length_map,h2])
      intro j j1 j2
      rw[List.getElem_map]
      have ja:j<S.D[S.fr g.l].args.length:=by simpa using j2
      exact(h3 j _ _ (List.getElem?_eq_getElem ja) (List.getElem?_eq_getElem j1)).one (h.wf.sto.tr _)
     rw[eu,List.any_map]
     congr 1
     funext v
     show Za.big (S.T v)=fY S.T (v:Int)
     rw[uu,gj]
   ·rw[if_neg (show¬(eI S.fr S.T g).sg=[]from q),if_neg q]
    show (Za.big (S.T g.l)||Za.big (ct S.T g.r)||Za.big (ct S.T g.z))=_
    simp only[List.any_cons,List.any_nil,Bool.or_false,uu,gj,Bool.or_assoc]
  have:∀l:List Gl,(∀g∈l,g∈S.G)→l.any (Za.mh∘eI S.fr S.T)=l.any (ji S.D S.fr S.T):=by
   intro l
   induction l with
   | nil=>intro _;rfl
   | cons g l ih=>
    intro hl
    rw[List.any_cons,List.any_cons,ih (fun x hx=>hl x (by simp[hx]))]
    show (Za.mh (eI S.fr S.T g)||_)=_
    rw[key g (hl g (by simp))]
  exact this S.G fun g hg=>hg
 rw[e1,e2]
theorem EH (T:Nat→U) (V:List Nat):Za.kB (V.map T)=eE T V:=by
 unfold Za.kB eE
 rw[List.foldl_map]
 rfl
theorem OA {V:List Nat} {S:b8} (h:xS V S) (N:List Vr):Za.rM N (jl V S).gs=kA S.T N S.G:=by
 have nz:∀(N:List Vr) (x:Int),Za.aV N (ct S.T x)=iA S.T N x:=fun N x=>by
  unfold ct iA
  by_cases q:x= -1
  ·rw[if_pos q,if_pos q];rfl
  ·rw[if_neg q,if_neg q]
 have key:∀g∈S.G,∀a,Za.mi a (eI S.fr S.T g)=stepG S.T a g:=fun g hg a=>by
  have gw:=h.wf.gw g hg
  have en:∀N,Za.jI N (eI S.fr S.T g)=Jd S.T N g:=fun N=>by
   unfold Za.jI Jd
   show Za.aV (Za.aV (Za.aV N (S.T g.l)) (ct S.T g.r)) (ct S.T g.z)=_
   rw[nz,nz]
   have:iA S.T N (g.l:Int)=Za.aV N (S.T g.l):=by rw[←nz,gj]
   rw[this]
  have et:∀N,Za.uS N (eI S.fr S.T g)=Er S.T N g:=fun N=>by
   unfold Za.uS Er
   show Za.mU (Za.bP Lib.itoa N (S.T g.l)) g.sg.toList (Za.bP Lib.itoa N (ct S.T g.r)) g.op.toList (Za.bP Lib.itoa N (ct S.T g.z))=_
   unfold Za.mU
   by_cases q:g.sg.toList=[]
   ·rw[if_pos q,if_pos q]
   ·rw[if_neg q,if_neg q]
    obtain⟨n,hn,_⟩:=gw.rr q
    have e1:ct S.T g.r=S.T g.r.toNat:=by rw[hn,gj];rfl
    rw[e1]
    by_cases o:g.op.toList=[]
    ·rw[if_pos o,if_pos o]
    ·rw[if_neg o,if_neg o]
     obtain⟨m,hm,_⟩:=gw.zz o
     have e2:ct S.T g.z=S.T g.z.toNat:=by rw[hm,gj];rfl
     rw[e2]
  unfold Za.mi stepG
  rw[en,et]
 unfold Za.rM kA jl
 dsimp only
 rw[List.foldl_map]
 have:∀(l:List Gl) (a:List (List UInt8)×List Vr),(∀g∈l,g∈S.G)→l.foldl (fun x y=>Za.mi x (eI S.fr S.T y)) a=l.foldl (stepG S.T) a:=by
  intro l
  induction l with
  | nil=>intro a _;rfl
  | cons g l ih=>
   intro a hl
   rw[List.foldl_cons,List.foldl_cons,key g (hl g (by simp))]
   exact ih _ fun x hx=>hl x (by simp[hx])
 exact this S.G _ fun g hg=>hg
theorem C9 {cls:List aL} {V:List Nat} {script:List (Int×Int)} {S0:b8} (aF:∀c∈cls,Za.jH c) (h0:xS V S0) {j:Nat} {S:b8} {L:List Int} (h:yD cls V script S0 j S L):Za.mW cls script (jl V S0) j (jl V S) L∧xS V S:=by
 induction h with
 | start=>exact⟨.start,h0⟩
 | @step j S S' L pg pc z i h hs hi hg hl ih=>
  obtain⟨i1,i2⟩:=ih
  obtain⟨k1,k2⟩:=CZ aF i2 hg
  exact⟨.step i1 hs (by rw[uV];exact hi) k1 (by rw[EG k2];exact hl),k2⟩
theorem Jv {items:List Za.aH} {F:List Nat} {S:b8} (h:CS (Za.aC [] items) items F S) (hi:∀x∈items,Za.iW x):xS F S∧Za.eG (fun k=>(F[k - 1]?).getD 0) (fun k=>1≤k∧k<1+(Za.aC [] items).length) (Za.ik 1 (Za.aC [] items) items) (jl F S):=by
 have dh:=h.gl
 have zk:∀{xs:List Za.aH} {gs:List Gl},bO (mD S.T S.D.length (cP S.T F (Za.aC [] items))) xs gs→(∀x∈xs,Za.iW x)→∀g∈gs,mf S.T S.D.length g∧g.nd=[]:=by
  intro xs
  induction xs with
  | nil=>
   intro gs ha _ g hg
   cases gs with
   | nil=>cases hg
   | cons y ys=>exact ha.elim
  | cons x xs ih=>
   intro gs ha hx g hg
   cases gs with
   | nil=>cases hg
   | cons y ys=>
    rcases List.mem_cons.1 hg with q | q
    ·rw[q];exact⟨ha.1.gw (hx x (by simp)),ha.1.nd⟩
    ·exact ih ha.2 (fun z hz=>hx z (by simp[hz])) g q
 have hv:∀f∈F,S.T f= .v ([],f):=fun f hf=>(pn (D:=[]) (E:=S.D) (by rw[List.nil_append];exact h.ok) (by rw[List.nil_append];exact h.sto) h.nd h.nv f hf).2.2
 have hF:∀k (hk:k<F.length),(F[(1+k) - 1]?).getD 0=F[k]:=fun k hk=>by
  rw[Nat.add_sub_cancel_left,List.getElem?_eq_getElem hk];rfl
 refine⟨⟨⟨h.sto,h.ok,fun g hg=>(zk dh hi g hg).1,fun g hg v hv=>(by rw[(zk dh hi g hg).2]at hv;cases hv)⟩,fun g hg v hv=>(by rw[(zk dh hi g hg).2]at hv;cases hv),h.lt⟩,⟨fun i j hPi hPj Rv=> ?_,fun k hk=>hk.2,fun k hk=> ?_,fun u hu=> ?_,fun g hg=> ?_,?_,?_⟩⟩
 ·have jv:=h.ln
  show (F[i - 1]?).getD 0<(F[j - 1]?).getD 0
  rw[List.getElem?_eq_getElem (show i - 1<F.length by omega),List.getElem?_eq_getElem (show j - 1<F.length by omega)]
  exact List.pairwise_iff_getElem.1 h.nv.ord _ _ _ _ (by omega)
 ·have jv:=h.ln
  show (F[k - 1]?).getD 0<S.D.length
  rw[List.getElem?_eq_getElem (show k - 1<F.length by omega)]
  exact h.lt _ (List.getElem_mem _)
 ·obtain⟨k,hk,rfl⟩:=List.mem_map.1 hu
  have:=List.mem_range.1 hk
  exact .v ⟨rfl,by show 1≤1+k;omega,by show 1+k<_;omega⟩
 ·obtain⟨x,hx,rfl⟩:=List.mem_map.1 hg
  obtain⟨ns,hn⟩:=Za.ft items [] x hx
  refine Za.MV (hi x hx).ok ns fun y hy=> .v ⟨rfl,by show 1≤1+_;omega,?_⟩
  have:=List.idxOf_lt_length_of_mem (hn y hy)
  show 1+(Za.aC [] items).idxOf y<_
  omega
 ·show F.map S.T=((List.range _).map _).map _
  rw[List.map_map]
  apply List.ext_getElem (by simp[h.ln])
  intro k k1 k2
  have hk:k<F.length:=by simpa using k1
  rw[List.getElem_map,List.getElem_map,List.getElem_range,hv _ (List.getElem_mem hk)]
  show U.v ([],F[k])= .v ([],(F[(1+k) - 1]?).getD 0)
  rw[hF k hk]
 ·show S.G.map _=(items.map _).map _
  rw[List.map_map]
  refine wM dh fun x hx y hy=> ?_
  rw[EA hy (hi x hx).ok]
  obtain⟨ns,hn⟩:=Za.ft items [] x hx
  refine Za.Jj (hi x hx).ok ns fun w hw=> ?_
  have vG:=List.idxOf_lt_length_of_mem (hn w hw)
  have hk:(Za.aC [] items).idxOf w<F.length:=by rw[h.ln];exact vG
  show cP S.T F (Za.aC [] items) w=U.v ([],(F[(1+(Za.aC [] items).idxOf w) - 1]?).getD 0)
  rw[hF _ hk]
  unfold cP
  rw[List.getElem?_eq_getElem hk]
  exact hv _ (List.getElem_mem hk)
end Go.Proofs.YthfjnfcekeknlaaGreatDoor
namespace Za
theorem qm (sd:Nat):∀(f:Nat) (t:Tm) (ns:List (List UInt8)),wfK f t→(namesF f ns t).length≤ns.length+size (pM f sd t)
 | f+1,t,ns,hw=>by
  unfold namesF pM bJ
  by_cases k3:t.kind=3
  ·rw[if_pos k3,if_pos k3]
   rw[size]
   unfold ek
   split
   ·omega
   ·simp
  ·rw[if_neg k3,if_neg k3]
   by_cases k4:t.kind=4
   ·rw[if_pos k4,if_pos k4];omega
   ·rw[if_neg k4,if_neg k4,size]
    have key:∀(ts:List Tm) (ns:List (List UInt8)),(∀u∈ts,wfK f u)→(ts.foldl (namesF f) ns).length≤ns.length+sizeL (ts.map (bJ (fun x=> .v (x,sd)) f)):=by
     intro ts
     induction ts with
     | nil=>intro ns _;simp[sizeL]
     | cons u ts ih=>
      intro ns hu
      have h1:=qm sd f u ns (hu u (by simp))
      have h2:=ih (namesF f ns u) (fun v hv=>hu v (by simp[hv]))
      rw[List.foldl_cons,List.map_cons,sizeL]
      unfold pM at h1
      omega
    have:=key t.args ns hw.2.2.2
    omega
theorem Gj {x:aH} {ns:List (List UInt8)} (hl:wfK 8 x.left) (hr:∀r,x.right=some r→wfK 8 r) (hz:∀z,x.last=some z→wfK 8 z):(aP ns x).length≤ns.length+zY x:=by
 have h1:=qm 0 8 x.left ns hl
 unfold aP zY jx
 have nO:∀(o:Option Tm) (ns:List (List UInt8)),(∀r,o=some r→wfK 8 r)→(cD ns o).length≤ns.length+o.elim 0 (fun t=>size (pM 8 0 t)):=fun o ns ho=>by
  cases o with
  | none=>simp[cD]
  | some r=>exact qm 0 8 r ns (ho r rfl)
 have h2:=nO x.right (namesF 8 ns x.left) hr
 have h3:=nO x.last (cD (namesF 8 ns x.left) x.right) hz
 omega
theorem namesL_lsz:∀(xs:List aH) (ns:List (List UInt8)),(∀x∈xs,wfK 8 x.left∧(∀r,x.right=some r→wfK 8 r)∧(∀z,x.last=some z→wfK 8 z))→(aC ns xs).length≤ns.length+ou xs
 | [],ns,_=>by simp[aC,ou]
 | x :: xs,ns,h=>by
  have h0:=h x (by simp)
  have h1:=Gj (ns:=ns) h0.1 h0.2.1 h0.2.2
  have h2:=namesL_lsz xs (aP ns x) (fun y hy=>h y (by simp[hy]))
  rw[qw]
  have:ou (x :: xs)=zY x+ou xs:=by simp[ou]
  omega
theorem iC.wf {x:aH} (h:iC x):wfK 8 x.left∧(∀r,x.right=some r→wfK 8 r)∧(∀z,x.last=some z→wfK 8 z):=⟨h.wl,h.wr,fun z q=>by rw[h.la]at q;cases q⟩
theorem iW.wf {x:aH} (h:iW x):wfK 8 x.left∧(∀r,x.right=some r→wfK 8 r)∧(∀z,x.last=some z→wfK 8 z):=by
 refine⟨h.ok.wl,fun r q=> ?_,fun z q=> ?_⟩
 ·by_cases k:x.sign=[]
  ·rw[h.ok.r0 k]at q;cases q
  ·obtain⟨r',e,w⟩:=h.ok.r1 k
   rw[e]at q;cases q;exact w
 ·by_cases k:x.op=[]
  ·rw[h.ok.z0 k]at q;cases q
  ·obtain⟨r',e,w⟩:=h.ok.z1 k
   rw[e]at q;cases q;exact w
theorem Gk {θ:Vr→U} (h:∀x,size (θ x)=1):∀u,size (sub θ u)=size u:=by
 refine U.ind (fun x=> ?_) (fun k tx num ss ih=> ?_)
 ·rw[sub,h,size]
 ·rw[dX,size,size]
  have key:∀(ss:List U),(∀a∈ss,size (sub θ a)=size a)→sizeL (ss.map (sub θ))=sizeL ss:=by
   intro ss
   induction ss with
   | nil=>intro _;rfl
   | cons a ss ih2=>
    intro hs
    rw[List.map_cons,sizeL,sizeL,hs a (by simp),ih2 (fun b hb=>hs b (by simp[hb]))]
  rw[key ss ih]
theorem yJ {η:List UInt8→U} {t:Tm} (hw:wfK 8 t) (ns:List (List UInt8)) (h:∀y∈namesF 8 ns t,size (η y)=1):size (bJ η 8 t)=jx t:=by
 rw[ig (θ:=fun y=>if y∈namesF 8 ns t then η y else .v ([],0)) 8 t ns hw (fun y hy=>(if_pos hy).symm),uC _ 0 8 t hw]
 refine Gk (fun x=> ?_) _
 split
 ·rename_i q;exact h _ q
 ·rfl
theorem Sg {x:aH} {xs:List aH} (h:x∈xs):zY x≤ou xs:=by
 unfold ou
 induction xs with
 | nil=>cases h
 | cons y ys ih=>
  rw[List.map_cons,List.sum_cons]
  rcases List.mem_cons.1 h with rfl | h
  ·omega
  ·have:=ih h;omega
theorem Jw {f:Nat} {l l1:List aj} {t:Tm} (h:term f l= .inr (t,l1)):t.kind=(hd l).kind:=by
 cases f with
 | zero=>unfold term at h;split at h<;>cases h
 | succ f=>
  unfold term at h
  split at h
  ·split at h
   ·cases h
   ·split at h
    ·rename_i k
     split at h
     ·cases hq:bL (term f) 2 l.tail.tail with
      | inl e=>rw[hq]at h;cases h
      | inr q=>rw[hq]at h;cases h;exact k.symm
     ·cases h;exact k.symm
    ·cases h;rfl
  ·cases h
theorem OB {l l2:List aj} {ts gs:List aH} (h:body l= .inr ((ts,gs),l2)):(∀x∈ts,iC x)∧(∀x∈gs,iW x)∧ts.length≤6∧gs.length≤6∧ou ts+ou gs+l2.length≤l.length:=by
 unfold body at h
 cases hq:items 5 true true l with
 | inl e=>rw[hq]at h;cases h
 | inr q=>
  obtain⟨⟨xs,t,g⟩,l1⟩:=q
  rw[hq]at h
  dsimp only at h
  obtain⟨h1,h2,h3,h4,h5⟩:=items_is _ _ _ _ _ _ _ _ hq
  split at h
  ·rename_i ht
   have s2:=dJ ht.2
   cases jw:items 5 false true l1.tail with
   | inl e=>rw[jw]at h;cases h
   | inr q2=>
    obtain⟨⟨ys,t2,g2⟩,l3⟩:=q2
    rw[jw]at h
    dsimp only at h
    obtain⟨k1,k2,k3,k4,k5⟩:=items_is _ _ _ _ _ _ _ _ jw
    split at h
    ·rename_i hg
     cases h
     exact⟨(h1 ht.1).2,(k2 hg).2,h5,k5,by omega⟩
    ·cases h
  ·split at h
   ·rename_i hg
    cases h
    refine⟨(fun x hx=>by cases hx),(h2 hg).2,by simp,h5,?_⟩
    have:ou []=0:=rfl
    omega
   ·cases h
theorem zZ {b:Bool} {l l1:List aj} {c:aL} (h:clause b l= .inr (c,l1)) (hl:l.length≤1000):b=true∧(c.tests=[]→jH c)∧(∀x∈c.goals,iW x)∧l1.length≤l.length:=by
 unfold clause at h
 split at h
 ·rename_i hk
  split at h
  ·rename_i hb
   cases hq:term 8 l with
   | inl e=>rw[hq]at h;cases h
   | inr q=>
    obtain⟨t,l2⟩:=q
    rw[hq]at h
    dsimp only at h
    have wt:=wfK_term 8 l t l2 hq
    have st:=rR hq
    have kt:=(Jw hq).trans hk
    have hh:(namesF 8 [] t).length≤jx t:=by have:=qm 0 8 t [] wt;simpa [jx] using this
    have stop_is:∀{x:aL} {l3:List aj},stop x l3= .inr (c,l1)→c=x∧l1.length≤l3.length:=fun {x l3} q=>by
     unfold stop at q
     split at q
     ·cases q
      exact⟨rfl,by rw[List.length_tail];omega⟩
     ·cases q
    split at h
    ·rename_i hs
     have s2:=dJ hs
     cases jw:body l2.tail with
     | inl e=>rw[jw]at h;cases h
     | inr q2=>
      obtain⟨⟨ts,gs⟩,l3⟩:=q2
      rw[jw]at h
      obtain⟨k1,k2,k3,k4,k5⟩:=OB jw
      obtain⟨rfl,jB⟩:=stop_is h
      refine⟨hb,fun h0=>⟨kt,wt,k1,k3,fun x hx=>(k2 x hx).ok,k4,?_,h0⟩,k2,by omega⟩
      have n1:=namesL_lsz ts (namesF 8 [] t) (fun x hx=>(k1 x hx).wf)
      have n2:=namesL_lsz gs (aC (namesF 8 [] t) ts) (fun x hx=>(k2 x hx).wf)
      show (aC (aC (namesF 8 [] t) ts) gs).length≤100000
      omega
    ·obtain⟨rfl,jB⟩:=stop_is h
     refine⟨hb,fun h0=>⟨kt,wt,(fun x hx=>by cases hx),by simp,(fun x hx=>by cases hx),by simp,?_,h0⟩,(fun x hx=>by cases hx),by omega⟩
     show (namesF 8 [] t).length≤100000
     omega
  ·cases h
 ·cases h
theorem prog_is:∀(k:Nat) (l l1:List aj) (cls:List aL),prog k l= .inr (cls,l1)→l.length≤1000→(∀c∈cls,(c.tests=[]→jH c)∧∀x∈c.goals,iW x)∧cls.length≤k:=by
 intro k
 induction k with
 | zero=>
  intro l l1 cls h hl
  unfold prog at h
  split at h
  ·cases h
   exact⟨(fun c hc=>by cases hc),by simp⟩
  ·cases hq:clause false l with
   | inl e=>rw[hq]at h;cases h
   | inr q=>
    have:=(zZ (c:=q.1) (l1:=q.2) hq hl).1
    cases this
 | succ k ih=>
  intro l l1 cls h hl
  unfold prog at h
  split at h
  ·cases h
   exact⟨(fun c hc=>by cases hc),by simp⟩
  ·cases hq:clause true l with
   | inl e=>rw[hq]at h;cases h
   | inr q=>
    obtain⟨c,l2⟩:=q
    rw[hq]at h
    dsimp only at h
    obtain⟨_,h1,h2,h3⟩:=zZ hq hl
    cases jw:prog k l2 with
    | inl e=>rw[jw]at h;cases h
    | inr q2=>
     obtain⟨cs,l3⟩:=q2
     rw[jw]at h
     cases h
     obtain⟨k1,k2⟩:=ih l2 l1 cs jw (by omega)
     refine⟨fun d hd=> ?_,by simp;omega⟩
     rcases List.mem_cons.1 hd with rfl | hd
     ·exact⟨h1,h2⟩
     ·exact k1 d hd
end Za
namespace Go.Proofs.YthfjnfcekeknlaaGreatDoor
open Go.RowKit
theorem SZ {sp:ByteArray} {LP:List Za.aj} {sq:ByteArray} {LQ:List Za.aj} (hPl:sp.size≤240→LP.length≤1000) (hQ:Za.dY sq LQ) (hQh:Za.hd LQ=Za.next sq 0) (ht:∀cls l,Za.prog 12 LP= .inr (cls,l)→∀c∈cls,c.tests=[]):Gi sp LP sq LQ:=by
 refine⟨Za.nz_prog 12 LP,Za.LY LQ,fun cls l hs h=>⟨fun c hc=>⟨((Za.prog_is 12 LP l cls h (hPl hs)).1 c hc).1 (ht cls l h c hc),((Za.prog_is 12 LP l cls h (hPl hs)).1 c hc).2⟩,(Za.prog_is 12 LP l cls h (hPl hs)).2⟩,fun ys l hs h=> ?_⟩
 have hlen:LQ.length≤97:=by have:=Za.dY.len sq.size 0 LQ hQ hQh (by omega);omega
 unfold Za.query at h
 cases hq:Za.items 5 false true LQ with
 | inl e=>rw[hq]at h;cases h
 | inr q=>
  obtain⟨⟨xs,t,g⟩,l1⟩:=q
  rw[hq]at h
  dsimp only at h
  obtain⟨h1,h2,h3,h4,h5⟩:=Za.items_is _ _ _ _ _ _ _ _ hq
  split at h
  ·cases h
   have dh:=(h2 (h3 rfl rfl)).2
   have hn:=Za.namesL_lsz ys [] (fun x hx=>(dh x hx).wf)
   simp only[List.length_nil,Nat.zero_add]at hn
   refine⟨dh,h5,by omega,fun x hx η hη=> ?_⟩
   have hi:=Za.Sg hx
   have wf:=(dh x hx).wf
   obtain⟨ns',hs'⟩:=Za.ft ys [] x hx
   unfold Za.zY at hi
   have eL:∀y∈Za.namesF 8 ns' x.left,Za.size (η y)=1:=fun y hy=>hη y (hs' y (by
    obtain⟨K1,e1⟩:=lD x.right (Za.namesF 8 ns' x.left)
    obtain⟨K2,e2⟩:=lD x.last (Za.cD (Za.namesF 8 ns' x.left) x.right)
    unfold Za.aP
    rw[e2,e1]
    simp[hy]))
   refine⟨by rw[Za.yJ wf.1 ns' eL];omega,fun r q=> ?_,fun z q=> ?_⟩
   ·rw[Za.yJ (wf.2.1 r q) (Za.namesF 8 ns' x.left) (fun y hy=>hη y (hs' y (by
     obtain⟨K2,e2⟩:=lD x.last (Za.cD (Za.namesF 8 ns' x.left) x.right)
     unfold Za.aP
     rw[e2,q]
     exact List.mem_append_left _ hy)))]
    rw[q]at hi
    simp only[Option.elim]at hi
    omega
   ·rw[Za.yJ (wf.2.2 z q) (Za.cD (Za.namesF 8 ns' x.left) x.right) (fun y hy=>hη y (hs' y (by
     unfold Za.aP
     rw[q]
     exact hy)))]
    rw[q]at hi
    simp only[Option.elim]at hi
    omega
  ·cases h
end Go.Proofs.YthfjnfcekeknlaaGreatDoor
namespace Go.Proofs.YthfjnfcekeknlaaGreatDoor
open Go.RowKit
open Za (U Vr aL)
def Da (w:World) (b:Nat) (R:Value) (en:Int) (log:List Int) (vals gols:List (List UInt8)) (wts:List Bool):Prop:=
 ∃(lo:Option Addr) (lc:Nat) (xo:Option Addr) (xc:Nat) (go:Option Addr) (gc:Nat) (yo:Option Addr) (yc:Nat),R= .agg #[.int .i64 en,.slice lo log.length lc,.slice xo vals.length xc,.slice go gols.length gc,.slice yo wts.length yc]∧w.ownsRow b 3 1 (.slice lo log.length lc) log.length (log.map fV)∧w.ownsRow b 9 1 (.slice xo vals.length xc) vals.length (vals.map iw)∧w.ownsRow b 9 1 (.slice go gols.length gc) gols.length (gols.map iw)∧w.ownsRow b 4 1 (.slice yo wts.length yc) wts.length (wts.map fun b=> .bool b)∧(∀k,rowOf xo k→¬rowOf go k)
theorem OC {cls:List aL} {F:List Nat} {script:List (Int×Int)} {S0:b8} {b:Nat} {R:Value} {w':World} (aF:∀c∈cls,Za.jH c) (h0:xS F S0) (h:ui cls F script S0 b (.returned R) w'):∃en log vals gols wts,Za.nU cls script (jl F S0) en log vals gols wts∧Da w' b R en log vals gols wts:=by
 obtain⟨j,S,L,lo,lc,h1,⟨h2,xo,xc,go,gc,yo,yc,h3,h4,h5,h6,h7,h8⟩ | ⟨pg,pc,i,en,z,h2,h3,h4,h5,h6⟩⟩:=h
 ·obtain⟨m1,m2⟩:=C9 aF h0 h1
  refine⟨_,L,(eE S.T F).1,(kA S.T (eE S.T F).2 S.G).1,S.G.map (fun g=> !fK S.fr g),⟨j,_,L,m1,Or.inl ⟨by rw[uV];exact h2,(Oz F S).symm,rfl,?_,?_,?_⟩⟩,⟨lo,lc,xo,xc,go,gc,yo,yc,?_,h4,?_,?_,?_,h8⟩⟩
  ·show _=(Za.kB (F.map S.T)).1
   rw[EH]
  ·show _=(Za.rM (Za.kB (F.map S.T)).2 (jl F S).gs).1
   rw[EH,OA m2]
  ·show _=(S.G.map _).map _
   rw[List.map_map]
   rfl
  ·injection h3 with h3
   rw[h3,CI,CJ,List.length_map]
  ·rw[CI];exact h5
  ·rw[CJ];exact h6
  ·rw[List.length_map,List.map_map];exact h7
 ·obtain⟨m1,m2⟩:=C9 aF h0 h1
  refine⟨en,L++[z],[],[],[],⟨j,_,L,m1,Or.inr ⟨pg,pc,i,z,h2,by rw[uV];exact h3,?_,rfl,rfl,rfl,rfl⟩⟩,⟨lo,lc,none,0,none,0,none,0,?_,h6,World.ownsRow_nil _ _ _ _,World.ownsRow_nil _ _ _ _,World.ownsRow_nil _ _ _ _,(fun k ⟨_,q,_⟩=>by cases q)⟩⟩
  ·rcases h4 with⟨k1,_,k3⟩ | ⟨k1,S',k2,k3⟩
   ·exact Or.inl ⟨L8 aF m2 k1,k3⟩
   ·obtain⟨q1,q2⟩:=CZ aF m2 k2
    exact Or.inr ⟨k1,_,q1,by rw[EG q2];exact k3⟩
  ·injection h5
def Sh (sp:ByteArray) (LP:List Za.aj) (sq:ByteArray) (LQ:List Za.aj) (script:List (Int×Int)) (w:World) (e:Ending) (w':World):Prop:=
 (∃er:Nat,er≠0∧er=(if j9 sp LP≠0 then j9 sp LP else if 100<script.length then 1 else ml sq LQ)∧e= .returned (.tuple #[.agg #[.int .i64 0,.slice none 0 0,.slice none 0 0,.slice none 0 0,.slice none 0 0],.int .i64 (er:Int)])∧Below w.heap.size w w')∨
 (j9 sp LP=0∧script.length≤100∧ml sq LQ=0∧∃(cls:List aL) (l1:List Za.aj) (ys:List Za.aH) (l2:List Za.aj) (R:Value),Za.prog 12 LP= .inr (cls,l1)∧Za.query LQ= .inr (ys,l2)∧(∀c∈cls,Za.jH c)∧(∀x∈ys,Za.iW x)∧e= .returned (.tuple #[R,.int .i64 0])∧Below w.heap.size w w'∧∃(r:Nat→Nat) (P:Nat→Prop) (S0:Za.MS) (en:Int) (log:List Int) (vals gols:List (List UInt8)) (wts:List Bool),Za.eG r P (Za.ik 1 (Za.aC [] ys) ys) S0∧Za.nU cls script S0 en log vals gols wts∧Da w' w.heap.size R en log vals gols wts)
theorem OD {sp:ByteArray} {LP:List Za.aj} {sq:ByteArray} {LQ:List Za.aj} {script:List (Int×Int)} {w:World} {e:Ending} {w':World} (aF:Gi sp LP sq LQ) (h:RZ sp LP sq LQ script w e w'):Sh sp LP sq LQ script w e w':=by
 rcases h with h | ⟨h1,h2,h3,cls,l1,ys,l2,F,S0,R,h4,h5,h6,h7,h8,h9⟩
 ·exact Or.inl h
 ·have hsp:sp.size≤240:=by
   unfold j9 at h1
   split at h1
   ·cases h1
   ·omega
  have XS:sq.size≤96:=by
   unfold ml at h3
   split at h3
   ·cases h3
   ·omega
  have hk:∀c∈cls,Za.jH c:=fun c hc=>((aF.p cls l1 hsp h4).1 c hc).1
  have hy:=(aF.q ys l2 XS h5).1
  obtain⟨p1,p2⟩:=Jv h6 hy
  obtain⟨en,log,vals,gols,wts,q1,q2⟩:=OC hk p1 h8
  exact Or.inr ⟨h1,h2,h3,cls,l1,ys,l2,R,h4,h5,hk,hy,h7,h9,_,_,_,en,log,vals,gols,wts,p2,q1,q2⟩
theorem Sh.ends {sp:ByteArray} {LP:List Za.aj} {sq:ByteArray} {LQ:List Za.aj} {script:List (Int×Int)} {w:World} {e:Ending} {w':World} (h:Sh sp LP sq LQ script w e w') {cls:List aL} {l1:List Za.aj} {ys:List Za.aH} {l2:List Za.aj} (hp:j9 sp LP=0) (hs:script.length≤100) (hq:ml sq LQ=0) (hc:Za.prog 12 LP= .inr (cls,l1)) (hy:Za.query LQ= .inr (ys,l2)) {en:Int} {log:List Int} {vals gols:List (List UInt8)} {wts:List Bool} (he:Za.nU cls script (Za.ik 1 (Za.aC [] ys) ys) en log vals gols wts):∃R,e= .returned (.tuple #[R,.int .i64 0])∧Da w' w.heap.size R en log vals gols wts∧Below w.heap.size w w':=by
 rcases h with⟨er,h1,h2,_⟩ | ⟨h1,h2,h3,cls',l1',ys',l2',R,h4,h5,hk,hg,h7,h9,r,P,S0,en',log',vals',gols',wts',q1,q2,q3⟩
 ·exfalso
  rw[hp,hq]at h2
  rw[if_neg (by simp),if_neg (by omega)]at h2
  exact h1 h2
 ·rw[hc]at h4
  rw[hy]at h5
  cases h4
  cases h5
  obtain⟨rfl,rfl,rfl,rfl,rfl⟩:=he.same hk q1 q2
  exact⟨R,h7,q3,h9⟩
end Go.Proofs.YthfjnfcekeknlaaGreatDoor
namespace Go.Proofs.YthfjnfcekeknlaaGreatDoor
open Go.RowKit
structure wR (w:World):Prop where
 sg:dH w
 pos:0<w.heap.size
 pow:Pow w
theorem wR.below {w w':World} (h:wR w) (hb:Below w.heap.size w w'):wR w':=⟨h.sg.below hb h.pos,Nat.lt_of_lt_of_le h.pos hb.size,h.pow.below hb⟩
theorem runK (W:World) (he:wR W) {cs:List Za.aL} {x:Za.aH} {xs:List Za.aH} {sp sq:ByteArray} {script:List (Int×Int)} {so:Option Addr} {sc:Nat} (hp:sp=⟨(Za.prS cs).toArray⟩) (xq:sp.size≤240) (gh:cs.length≤12) (hc:∀c∈cs,Za.xZ Za.idS c) (hcm:cs.map (Za.A8 Za.idS)=cs) (Ej:∀c∈cs,c.tests=[]) (hq:sq=⟨(Za.jn Za.idS false (x :: xs)).toArray⟩) (ur:sq.size≤96) (nW:xs.length≤5) (hx:Za.iT Za.idS x) (hy:∀y∈xs,Za.iT Za.idS y) (Ee:(x :: xs).map (Za.sR Za.idS)=x :: xs)
 (hsc:pC W so script) (mF:∀p∈script,(-9223372036854775808≤p.1∧p.1≤9223372036854775807)∧(-9223372036854775808≤p.2∧p.2≤9223372036854775807)) (pO:script.length≤100) {en:Int} {log:List Int} {vals gols:List (List UInt8)} {wts:List Bool} (hend:Za.nU cs script (Za.ik 1 (Za.aC [] (x :: xs)) (x :: xs)) en log vals gols wts):
 Calls Tryz.prog 15 #[.string sp,.string sq,.slice so script.length sc] W fun e w'=>∃R,e= .returned (.tuple #[R,.int .i64 0])∧Da w' W.heap.size R en log vals gols wts∧Below W.heap.size W w':=by
 obtain⟨LP,hP,hPh,hPl⟩:=Za.DB sp
 obtain⟨LQ,hQ,hQh,hQl⟩:=Za.DB sq
 obtain⟨l1,e1⟩:=Za.RU hp gh hc hP hPh
 obtain⟨l2,e2⟩:=Za.Ow hq nW hx hy hQ hQh
 rw[hcm]at e1
 have aF:=SZ (sp:=sp) (LP:=LP) hPl hQ hQh (fun cls l h=>by rw[e1]at h;cases h;exact Ej)
 rw[Ee]at e2
 refine(Oy W sp LP sq LQ script so sc hP hPh hPl hQ hQh (fun h=>hQl (by omega)) he.sg he.pos he.pow aF hsc mF).mono fun e w' h=> ?_
 refine(OD aF h).ends ?_ pO ?_ e1 e2 hend
 ·unfold j9
  rw[if_neg (by omega),e1]
  rfl
 ·unfold ml
  rw[if_neg (by omega),e2]
end Go.Proofs.YthfjnfcekeknlaaGreatDoor
namespace Go.Proofs.YthfjnfcekeknlaaGreatDoor
open Go.ChangeShapes Go.WideShapes Go.ChangeAt Go.RowKit
theorem lawOwn:ownKnob Tryz.prog.godebug=Option.none:=by kernel_rfl
theorem lawLaid:laidOutB Tryz.prog=true:=by kernel_rfl
theorem gSigns:Tryz.prog.globalNamed "parley/scan.longSigns"=some 0:=by kernel_rfl
theorem gSignsType:(Tryz.prog.globals[0]?).map (·.type)=some 238:=by kernel_rfl
theorem cellsSigns:Tryz.prog.cellsOf 238=5:=by kernel_rfl
theorem cellsStr:Tryz.prog.cellsOf 9=1:=by kernel_rfl
theorem cellsInt:Tryz.prog.cellsOf 3=1:=by kernel_rfl
theorem Ai {H:Type} {enc:TypeId×Value→H} {P:Program} {w:World} {base:Nat} {sp:Nat→Bool} {held:Bool} {fuel:Nat} {t e:TypeId} {n:Nat} {cs:List Value} {zs:List (List UInt8)} {p:List MemPlace}
 (ht:P.underlying t=some (.array n e)) (he:P.underlying e=some .string) (hce:P.cellsOf e=1) (Ej:P.cellsOf t=n)
 (h:DataW.trod enc P w base sp held fuel t cs=some (.agg (zs.map fun z=> .lit (.string z)),p)):cs=zs.map fun z=>Value.string ⟨z.toArray⟩:=by
 cases fuel with
 | zero=>simp[DataW.trod]at h
 | succ fuel=>
  simp only[DataW.trod,ht,hce,Ej,Nat.mul_one]at h
  split at h
  ·rename_i hl
   obtain⟨xs,hm,hx⟩:=Option.map_eq_some_iff.1 h
   have UI:xs.map (·.1)=zs.map fun z=>(DataW.lit (.string z):DataW H):=by
    have:=congrArg Prod.fst hx
    simpa using this
   have nW:xs.length=n:=by simpa using Lib.mapM_length hm
   have hzl:zs.length=n:=by
    have:=congrArg List.length UI
    simp at this
    omega
   apply List.ext_getElem?
   intro i
   by_cases hi:i<n
   ·obtain⟨b,hb,hf⟩:=Lib.mapM_at hm i i (by simp[hi])
    obtain⟨z,hc,rfl,_⟩:=DataW.trod_string he hf
    have h1:cs[i]?=some (.string z):=by
     have:=congrArg (·[0]?) hc
     simpa [List.getElem?_take,List.getElem?_drop] using this
    have h2:(xs.map (·.1))[i]?=some (DataW.lit (.string z.data.toList):DataW H):=by simp[hb]
    rw[UI]at h2
    simp only[List.getElem?_map,Option.map_eq_some_iff,DataW.lit.injEq,Lit.string.injEq]at h2
    obtain⟨z',hz',hzz⟩:=h2
    rw[h1,List.getElem?_map,hz',hzz]
    rfl
   ·rw[List.getElem?_eq_none (by omega),List.getElem?_eq_none (by simp;omega)]
  ·cases h
theorem Db {W:World} (h:laidMetH Tryz.prog Rows.appendedRow.laid W):dH W∧0<W.heap.size:=by
 have h':laidMet Tryz.prog Rows.appendedRow.laid W:=h
 obtain⟨ps,⟨_,_,_,_,_,_,_,_,_,_,⟨_,_,_,_,_,_,_,_,_,_,⟨_,_,_,_,_,_,_,_,_,_,⟨g,t,cs,fuel,p,q,hg,ht,rf,hd,_,_⟩,_⟩,_⟩,_⟩,_⟩:=h'
 obtain rfl:=Option.some.inj (gSigns.symm.trans hg)
 obtain rfl:=Option.some.inj (gSignsType.symm.trans ht)
 have e:=Ai (zs:=[[58,45],[58,61],[61,61],[92,61],[61,60]]) Tryz.underlying238 Tryz.underlying9 cellsStr cellsSigns hd
 have c:=World.var?_cell gSigns rf
 obtain rfl:cs=#[.string ⟨#[58,45]⟩,.string ⟨#[58,61]⟩,.string ⟨#[61,61]⟩,.string ⟨#[92,61]⟩,.string ⟨#[61,60]⟩]:=by
  apply Array.toList_inj.1
  rw[e];rfl
 refine⟨⟨c 0,c 1,c 2,c 3,c 4⟩,?_⟩
 rcases Nat.eq_zero_or_pos W.heap.size with hz | hz
 ·have:=c 0
  simp[World.cell?,Array.size_eq_zero_iff.1 hz]at this
 ·exact hz
theorem gPow:Tryz.prog.globalNamed "internal/strconv.uint64pow10"=some 1:=by kernel_rfl
theorem gPowType:(Tryz.prog.globals[1]?).map (·.type)=some 276:=by kernel_rfl
theorem cellsPow:Tryz.prog.cellsOf 276=20:=by kernel_rfl
theorem cellsU64:Tryz.prog.cellsOf 264=1:=by kernel_rfl
theorem Si {W:World} (h:laidMetH Tryz.prog Rows.appendedRow.laid W):Pow W:=by
 have h':laidMet Tryz.prog Rows.appendedRow.laid W:=h
 obtain⟨ps,⟨_,_,_,_,_,_,_,_,_,_,⟨_,_,_,_,_,_,_,_,_,_,⟨g,t,cs,fuel,p,q,hg,ht,rf,hd,_,_⟩,_⟩,_⟩,_⟩:=h'
 obtain rfl:=Option.some.inj (gPow.symm.trans hg)
 obtain rfl:=Option.some.inj (gPowType.symm.trans ht)
 unfold Pow Lib.TabIs
 rw[rf,←Lib.cells_of_tab (zs:=Lib.pow10Tab) Tryz.underlying276 Tryz.underlying264 cellsU64 cellsPow hd]
theorem Sj {W:World} (h:laidMetH Tryz.prog Rows.appendedRow.laid W):wR W:=⟨(Db h).1,(Db h).2,Si h⟩
theorem Jx {H:Type} {enc:TypeId×Value→H} {W:World} {fuel:Nat} {a0:Option Addr} {len cap:Nat} {x:DataW H×List MemPlace}
 (h:DataW.trod enc Tryz.prog W 0 (fun _=>true) true fuel 25 [.slice a0 len cap]=some x) (hlt:∀q∈x.2,q.block<W.heap.size):wy W a0 len:=by
 rcases Deep.open_slice Tryz.underlying25 h with⟨hcs,_⟩ | ⟨a,len',cap',m,n,D,Pl,hcs,_,hl,hm,zf,hx,fy⟩
 ·simp at hcs
  refine⟨by rw[hcs.2.1];exact Nat.zero_le _,Or.inl hcs.2.1⟩
 ·simp at hcs
  obtain⟨rfl,rfl,rfl⟩:=hcs
  refine⟨by omega,?_⟩
  rcases Nat.eq_zero_or_pos len with h0 | h0
  ·exact Or.inl h0
  ·right
   simp only[if_true]at zf
   subst zf
   rw[cellsInt]at fy hx
   have ce:∀i,i<len→∃k:Int,W.cell? (a.add (i+0))=some (.int .i64 k)∧-9223372036854775808≤k∧k≤9223372036854775807:=by
    intro i hi
    obtain⟨cs',h1,h2⟩:=fy i (by omega)
    obtain⟨k,rfl,_,hw⟩:=DataW.trod_int Tryz.underlying3 h2
    obtain⟨_,_,hc⟩:=World.cells?_some h1
    have e0:=hc 0 (by omega)
    rw[Deep.add_add,Nat.mul_one]at e0
    simp only[Lit.wf,Bool.and_eq_true,decide_eq_true_eq]at hw
    exact⟨k,e0,hw.1,hw.2⟩
   obtain⟨b,off,spot⟩:=a
   have hspot:spot=Option.none:=by
    obtain⟨_,e0,_⟩:=ce 0 h0
    simpa [Addr.add] using World.cell?_spot e0
   subst hspot
   have hb:b<W.heap.size:=by
    refine hlt (.cell b off) ?_
    rw[hx]
    exact List.mem_append_left _ (MemPlace.mem_row.2 ⟨0,by omega,by simp⟩)
   refine⟨b,off,rfl,hb,fun i hi=> ?_⟩
   obtain⟨k,e0,e1⟩:=ce i hi
   rw[add_plain]at e0
   exact⟨k,e0,e1⟩
def Az (cs:Array Value):Obj→Obj
 | .cells _ t frozen=> .cells cs t frozen
 | o=>o
noncomputable def uv (os:Os):World:=
 {World.holding Tryz.prog os ⟨#[],#[],[]⟩with heap:=((((World.holding Tryz.prog os ⟨#[],#[],[]⟩).heap.modify 0 (Az #[.string ⟨#[58,45]⟩,.string ⟨#[58,61]⟩,.string ⟨#[61,61]⟩,.string ⟨#[92,61]⟩,.string ⟨#[61,60]⟩])).modify 1 (Az #[.int .u64 1,.int .u64 10,.int .u64 100,.int .u64 1000,.int .u64 10000,.int .u64 100000,.int .u64 1000000,.int .u64 10000000,.int .u64 100000000,.int .u64 1000000000,.int .u64 10000000000,.int .u64 100000000000,.int .u64 1000000000000,.int .u64 10000000000000,.int .u64 100000000000000,.int .u64 1000000000000000,.int .u64 10000000000000000,.int .u64 100000000000000000,.int .u64 1000000000000000000,.int .u64 10000000000000000000])).modify 2 (Az #[.int .u8 0,.int .u8 1,.int .u8 28,.int .u8 2,.int .u8 29,.int .u8 14,.int .u8 24,.int .u8 3,.int .u8 30,.int .u8 22,.int .u8 20,.int .u8 15,.int .u8 25,.int .u8 17,.int .u8 4,.int .u8 8,.int .u8 31,.int .u8 27,.int .u8 13,.int .u8 23,.int .u8 21,.int .u8 19,.int .u8 16,.int .u8 7,.int .u8 26,.int .u8 12,.int .u8 18,.int .u8 6,.int .u8 11,.int .u8 5,.int .u8 10,.int .u8 9])).modify 3 (Az #[.int .u8 0,.int .u8 1,.int .u8 56,.int .u8 2,.int .u8 57,.int .u8 49,.int .u8 28,.int .u8 3,.int .u8 61,.int .u8 58,.int .u8 42,.int .u8 50,.int .u8 38,.int .u8 29,.int .u8 17,.int .u8 4,.int .u8 62,.int .u8 47,.int .u8 59,.int .u8 36,.int .u8 45,.int .u8 43,.int .u8 51,.int .u8 22,.int .u8 53,.int .u8 39,.int .u8 33,.int .u8 30,.int .u8 24,.int .u8 18,.int .u8 12,.int .u8 5,.int .u8 63,.int .u8 55,.int .u8 48,.int .u8 27,.int .u8 60,.int .u8 41,.int .u8 37,.int .u8 16,.int .u8 46,.int .u8 35,.int .u8 44,.int .u8 21,.int .u8 52,.int .u8 32,.int .u8 23,.int .u8 11,.int .u8 54,.int .u8 26,.int .u8 40,.int .u8 15,.int .u8 34,.int .u8 20,.int .u8 31,.int .u8 10,.int .u8 25,.int .u8 14,.int .u8 19,.int .u8 9,.int .u8 13,.int .u8 8,.int .u8 7,.int .u8 6])}
theorem cellsPick:Tryz.prog.cellsOf 62=2:=by kernel_rfl
theorem EI {α:Type} {P:Nat→α→Prop}:∀n:Nat,(∀i,i<n→∃x,P i x)→∃l:List α,l.length=n∧∀i (h:i<l.length),P i l[i]
 | 0,_=>⟨[],rfl,fun i h=>by cases h⟩
 | n+1,h=>by
  obtain⟨l,h1,h2⟩:=EI n (fun i hi=>h i (by omega))
  obtain⟨x,hx⟩:=h n (by omega)
  refine⟨l++[x],by simp[h1],fun i hi=> ?_⟩
  by_cases q:i<l.length
  ·rw[List.getElem_append_left q];exact h2 i q
  ·have:i=n:=by simp at hi;omega
   subst this
   rw[List.getElem_append_right (by omega)]
   simpa [h1] using hx
theorem Gm {H:Type} {enc:TypeId×Value→H} {W:World} {base:Nat} {sp:Nat→Bool} {held:Bool} {n:Nat} {cs:List Value} {y:DataW H×List MemPlace} (h:DataW.trod enc Tryz.prog W base sp held n 62 cs=some y):
 ∃(a b:Int),cs=[.int .i64 a,.int .i64 b]∧(-9223372036854775808≤a∧a≤9223372036854775807)∧(-9223372036854775808≤b∧b≤9223372036854775807):=by
 obtain⟨y0,y1,n',_,hl,g0,g1⟩:=trod_struct2 Tryz.underlying62 h
 rw[cellsPick]at hl
 match cs,hl with
 | [v0,v1],_=>
  simp only[cellsInt,List.drop_zero,List.drop_succ_cons,List.take_succ_cons,List.take_zero]at g0 g1
  obtain⟨a,ha,_,wa⟩:=DataW.trod_int Tryz.underlying3 g0
  obtain⟨b,hb,_,wb⟩:=DataW.trod_int Tryz.underlying3 g1
  simp only[Lit.wf,Bool.and_eq_true,decide_eq_true_eq]at wa wb
  obtain rfl:v0= .int .i64 a:=by simpa using ha
  obtain rfl:v1= .int .i64 b:=by simpa using hb
  exact⟨a,b,rfl,wa,wb⟩
theorem L9 {H:Type} {enc:TypeId×Value→H} {W:World} {fuel:Nat} {a0:Option Addr} {len cap:Nat} {x:DataW H×List MemPlace}
 (h:DataW.trod enc Tryz.prog W 0 (fun _=>true) true fuel 26 [.slice a0 len cap]=some x) (hlt:∀q∈x.2,q.block<W.heap.size):ql W a0 len cap:=by
 rcases Deep.open_slice Tryz.underlying26 h with⟨hcs,_⟩ | ⟨a,len',cap',m,n,D,Pl,hcs,_,hl,hm,zf,hx,fy⟩
 ·simp at hcs
  obtain⟨rfl,rfl,rfl⟩:=hcs
  exact⟨[],rfl,Nat.le_refl _,Nat.zero_le _,fun q=>absurd rfl q,fun p hp=>by cases hp⟩
 ·simp at hcs
  obtain⟨rfl,rfl,rfl⟩:=hcs
  simp only[if_true]at zf
  subst zf
  rw[cellsPick]at fy hx
  have ce:∀i,i<len→∃q:Int×Int,W.cell? (a.add (i*2+0))=some (.int .i64 q.1)∧W.cell? (a.add (i*2+1))=some (.int .i64 q.2)∧(-9223372036854775808≤q.1∧q.1≤9223372036854775807)∧(-9223372036854775808≤q.2∧q.2≤9223372036854775807):=by
   intro i hi
   obtain⟨cs',h1,h2⟩:=fy i (by omega)
   obtain⟨k1,k2,rfl,b1,b2⟩:=Gm h2
   obtain⟨_,_,hc⟩:=World.cells?_some h1
   have e0:=hc 0 (by omega)
   have e1:=hc 1 (by omega)
   rw[Deep.add_add]at e0 e1
   exact⟨(k1,k2),e0,e1,b1,b2⟩
  obtain⟨script,h1,h2⟩:=EI len ce
  refine⟨script,h1,hl,by omega,fun q=> ?_,fun p hp=> ?_⟩
  ·have h0:0<len:=by rw[←h1];exact List.length_pos_iff.2 q
   obtain⟨b,off,spot⟩:=a
   have hspot:spot=Option.none:=by
    obtain⟨_,e0,_⟩:=ce 0 h0
    simpa [Addr.add] using World.cell?_spot e0
   subst hspot
   have hb:b<W.heap.size:=by
    refine hlt (.cell b off) ?_
    rw[hx]
    exact List.mem_append_left _ (MemPlace.mem_row.2 ⟨0,by omega,by simp⟩)
   refine⟨b,off,rfl,hb,fun i hi=> ?_⟩
   obtain⟨e0,e1,_⟩:=h2 i hi
   rw[add_plain]at e0 e1
   exact⟨e0,e1⟩
  ·obtain⟨i,hi,rfl⟩:=List.mem_iff_getElem.1 hp
   obtain⟨_,_,e2⟩:=h2 i hi
   exact e2
end Go.Proofs.YthfjnfcekeknlaaGreatDoor
namespace Za
open Go.Proofs.YthfjnfcekeknlaaGreatDoor (dA ir)
theorem Aa {f:Nat→Nat}:∀n:Nat,(∃t,t<n∧f t=1)→∃t,t<n∧f t=1∧∀t',t'<t→f t'≠1
 | 0,⟨t,h,_⟩=>absurd h (Nat.not_lt_zero _)
 | n+1,⟨t,h,e⟩=>by
  by_cases q:∃t,t<n∧f t=1
  ·obtain⟨t,h1,h2,h3⟩:=Aa n q
   exact⟨t,by omega,h2,h3⟩
  ·refine⟨t,h,e,fun t' np e'=>q ⟨t',by omega,e'⟩⟩
theorem uw {n bg t:Nat} (hn:0<n):ir (List.range n) bg t=(bg+t) % n:=by
 unfold ir
 rw[List.length_range,List.getElem?_range (Nat.mod_lt _ hn)]
 rfl
theorem OE {n bg k:Nat} (hb:bg<n) (hk:k<n):∃t,t<n∧(bg+t) % n=k:=by
 by_cases q:bg≤k
 ·exact⟨k - bg,by omega,by rw[show bg+(k - bg)=k by omega,Nat.mod_eq_of_lt hk]⟩
 ·refine⟨k+n - bg,by omega,?_⟩
  rw[show bg+(k+n - bg)=k+n by omega,Nat.add_mod_right,Nat.mod_eq_of_lt hk]
theorem Dc {cls:List aL} {tx:List UInt8} {us:List U} (hown:cr cls tx us.length cls.length=List.range cls.length) {S:MS} {i:Nat} {g:MG} (hg:S.gs[i]?=some g) (aW:g.sg=[]) (ha:g.a= .n 1 tx 0 us) (tY:tx≠[116,114,117,101]) (p:Int) (hy:∃(k:Nat) (c:aL),cls[k]?=some c∧(bU S.lim g.a c).1=1):
 ∃(k:Nat) (c:aL),cls[k]?=some c∧(bU S.lim g.a c).1=1∧∀(F:List Nat) (S':MS),F.length+(NH c).length=(NG c).length→F.Pairwise (·<·)→(∀f∈F,S.lim≤f∧f<S'.lim)→S.lim≤S'.lim→S'.vs=S.vs→S'.gs=S.gs.eraseIdx i++c.goals.map (MG.of (cJ g.a c fun k=>(F[k]?).getD 0))→nj cls S S' i p ((k+1:Nat):Int):=by
 obtain⟨k0,c0,hc0,fw⟩:=hy
 have XT:k0<cls.length:=(List.getElem?_eq_some_iff.1 hc0).1
 have hn:0<cls.length:=by omega
 let f:Nat→Nat:=fun t=>match cls[(dA p cls.length+t) % cls.length]? with
  | some c=>(bU S.lim g.a c).1
  | none=>0
 obtain⟨t0,h1,h2⟩:=OE (Go.Proofs.YthfjnfcekeknlaaGreatDoor.tX p cls.length hn) XT
 obtain⟨t,h3,h4,h5⟩:=Aa (f:=f) cls.length ⟨t0,h1,by show (match cls[(dA p cls.length+t0) % cls.length]? with | some c=>(bU S.lim g.a c).1 | none=>0)=1;rw[h2,hc0];exact fw⟩
 have XU:(dA p cls.length+t) % cls.length<cls.length:=Nat.mod_lt _ hn
 have gh:=List.getElem?_eq_getElem XU
 have h4':(bU S.lim g.a cls[(dA p cls.length+t) % cls.length]).1=1:=by
  have h4':(match cls[(dA p cls.length+t) % cls.length]? with | some c=>(bU S.lim g.a c).1 | none=>0)=1:=h4
  rw[gh]at h4'
  exact h4'
 refine⟨(dA p cls.length+t) % cls.length,_,gh,h4',fun F S' q1 q2 q3 q4 q5 q6=>⟨q4,g,hg,Or.inr (Or.inr (Or.inr (Or.inr (Or.inl ⟨cls.length,_,⟨aW,tx,us,ha,fun q=>tY q.1,by rw[hown,List.length_range],rfl⟩,t,_,F,h3,fun t' c' np hc'=> ?_,?_,h4',?_,q1,q2,q3,q5,q6⟩))))⟩⟩
 ·rw[hown,uw hn]at hc'
  have:=h5 t' np
  have e:f t'=(bU S.lim g.a c').1:=by
   show (match cls[(dA p cls.length+t') % cls.length]? with | some c=>(bU S.lim g.a c).1 | none=>0)=_
   rw[hc']
  rw[←e];exact this
 ·rw[hown,uw hn];exact gh
 ·rw[hown,uw hn]
theorem Jy (N:List Vr):∀l,bP Go.Lib.itoa N (lsU l)=txL l
 | []=>by rw[lsU,nlU,lK];rfl
 | d :: l=>by
  rw[lsU,mj,lK,if_neg (by decide),List.map_cons,List.map_cons,List.map_nil,Jy N l,lG,lK,if_pos rfl,txL]
  have:Go.Lib.itoa (d:Int)=iP d:=by
   unfold Go.Lib.itoa iP
   simp
  rw[this]
  simp[argS]
theorem Dd (N:List Vr):∀l,aV N (lsU l)=N
 | []=>by rw[lsU,nlU,fN];rfl
 | d :: l=>by
  rw[lsU,mj,fN]
  show aV (aV N (lG d)) (lsU l)=N
  rw[lG,fN]
  exact Dd N l
theorem Sk (l:List Nat):kB [lsU l]=([txL l],[]):=by
 show ([]++[bP Go.Lib.itoa (aV [] (lsU l)) (lsU l)],aV [] (lsU l))=_
 rw[Dd,Jy]
 rfl
theorem EJ {D:Nat→Bool} {b:List Nat}:∀(l:List Nat) (i:Nat),(∀k,i≤k→k≤i+l.length→D k=true)→dU D (some (lsU b)) l i=lsU (l++b)
 | [],i,h=>by
  show (if D i=true then lsU b else vn (1+i))=_
  rw[if_pos (h i (Nat.le_refl _) (Nat.le_refl _))]
  rfl
 | d :: l,i,h=>by
  rw[dU,if_pos (h i (Nat.le_refl _) (by omega)),EJ l (i+1) (fun k h1 h2=>h k (by omega) (by rw[List.length_cons];omega))]
  rfl
theorem gW.ok.all {s:gW} {c0:Nat} (h:s.ok c0) (hi:s.its=[]) {b:List Nat} (hf:s.fin=some (lsU b)):dU s.D s.fin s.hs 0=lsU (s.hs++b):=by
 rw[hf]
 refine EJ _ _ fun k _ hk=> ?_
 cases q:s.D k with
 | true=>rfl
 | false=>
  have:=(h.eq k).2 ⟨by unfold isEq;rw[hf];simp;omega,q⟩
  rw[hi]at this
  cases this
theorem names_tL:∀(l:List Nat) (f:Nat) (ns:List (List UInt8)),namesF f ns (tL l)=ns
 | _,0,ns=>by unfold namesF;rfl
 | [],f+1,ns=>by unfold namesF;rfl
 | d :: l,f+1,ns=>by
  unfold namesF
  show namesF f (namesF f ns (tD d)) (tL l)=ns
  have:namesF f ns (tD d)=ns:=by
   cases f with
   | zero=>unfold namesF;rfl
   | succ f=>unfold namesF;rfl
  rw[this]
  exact names_tL l f ns
def nApp:List UInt8:=[97,112,112]
def app1:aL:=⟨tF nApp tNil (tV 89) (tV 90),[],[⟨tV 90,[61],some (tV 89),[],none⟩]⟩
def app2:aL:=⟨tF nApp (tC (tV 72) (tV 88)) (tV 89) (tV 90),[],[⟨tV 90,[61],some (tC (tV 72) (tV 87)),[],none⟩,⟨tF nApp (tV 88) (tV 89) (tV 87),[],none,[],none⟩]⟩
theorem Sl (f:Nat):gp idS (f+1) tNil:=ok_L [] (f+1) (fun d hd=>by cases hd) (by simp)
theorem Sm {f:Nat} {a b:Tm} (ha:gp idS f a) (hb:gp idS f b):gp idS (f+1) (tC a b):=C8 (x:=[99]) (rS (by simp) (by decide)) (by simp) (fun t ht=>by
 simp only[List.mem_cons,List.not_mem_nil,or_false]at ht
 rcases ht with rfl | rfl
 ·exact ha
 ·exact hb)
theorem Ma {x:List UInt8} {f:Nat} {a b c:Tm} (hx:jK 2 x) (ha:gp idS f a) (hb:gp idS f b) (hc:gp idS f c):gp idS (f+1) (tF x a b c):=C8 hx (by simp) (fun t ht=>by
 simp only[List.mem_cons,List.not_mem_nil,or_false]at ht
 rcases ht with rfl | rfl | rfl
 ·exact ha
 ·exact hb
 ·exact hc)
theorem ls_nv:∀(l:List Nat) (y:Vr),lsU l≠ .v y
 | [],y,q=>by cases q
 | d :: l,y,q=>by cases q
theorem nApp_word:jK 2 nApp:=rS (by decide) (by decide)
theorem app_ok:∀c∈[app1,app2],xZ idS c:=by
 intro c hc
 simp only[List.mem_cons,List.not_mem_nil,or_false]at hc
 rcases hc with rfl | rfl
 ·refine⟨Ma nApp_word (Sl 6) (lh (by decide)) (lh (by decide)),rfl,Or.inl rfl,fun x hx=> ?_,by simp[app1],fun q=>by cases q⟩
  obtain rfl:=List.mem_singleton.1 hx
  exact .eq _ _ (lh (by decide)) (lh (by decide))
 ·refine⟨Ma nApp_word (Sm (lh (by decide)) (lh (by decide))) (lh (by decide)) (lh (by decide)),rfl,Or.inl rfl,fun x hx=> ?_,by simp[app2],fun q=>by cases q⟩
  simp only[app2,List.mem_cons,List.not_mem_nil,or_false]at hx
  rcases hx with rfl | rfl
  ·exact .eq _ _ (lh (by decide)) (Sm (lh (by decide)) (lh (by decide)))
  ·exact .call _ (Ma nApp_word (lh (by decide)) (lh (by decide)) (lh (by decide))) rfl (by unfold isInt tF;simp)
theorem app_mp:[app1,app2].map (A8 idS)=[app1,app2]:=rfl
theorem Sn (f:Nat):bD idS (f+1) tNil=[110]:=yI f [110] []
theorem S3 (f:Nat) (a b:Tm):bD idS (f+1) (tC a b)=[99,40]++(bD idS f a++([44]++(bD idS f b++[41]))):=by
 refine(yI f [99] [a,b]).trans ?_
 simp[arS]
theorem V6 (f:Nat) (x:List UInt8) (a b c:Tm):bD idS (f+1) (tF x a b c)=x++([40]++(bD idS f a++([44]++(bD idS f b++([44]++(bD idS f c++[41])))))):=by
 refine(yI f x [a,b,c]).trans ?_
 simp[arS]
theorem app_pr:prS [app1,app2]=[97,112,112,40,110,44,89,44,90,41,58,45,90,61,89,46,32,97,112,112,40,99,40,72,44,88,41,44,89,44,90,41,58,45,90,61,99,40,72,44,87,41,44,97,112,112,40,88,44,89,44,87,41,46]:=by
 simp only[prS,rW,app1,app2,jn,jS,V6,S3,RY,Sn,sp,nl,List.flatMap_cons,List.flatMap_nil]
 rfl
def eQ (a b:List Nat) (k:Nat):U:= .n 1 nApp 0 [lsU a,lsU b,vn k]
theorem app_own:cr [app1,app2] nApp 3 2=List.range 2:=by
 simp[cr,app1,app2,yr,tF,nApp,List.range,List.range.loop]
theorem wS (b:List Nat) (k:Nat):matU 8 app1.head (eQ [] b k) ⟨[],Wn.none⟩=⟨[([89],lsU b),([90],vn k)],Wn.none⟩:=by
 simp[matU,cR,iB,bM.meet,app1,eQ,tF,tNil,tV,nApp,lsU,nlU]
theorem Jz (d:Nat) (a b:List Nat) (k:Nat):(matU 8 app1.head (eQ (d :: a) b k) ⟨[],Wn.none⟩).w.says=2:=by
 simp[matU,cR,iB,bM.meet,app1,eQ,tF,tNil,tV,nApp,lsU,mj,Wn.bad,Wn.says]
theorem Mb (b:List Nat) (k:Nat):(matU 8 app2.head (eQ [] b k) ⟨[],Wn.none⟩).w.says=2:=by
 simp[matU,cR,iB,bM.meet,app2,eQ,tF,tC,tV,nApp,lsU,nlU,Wn.bad,Wn.says]
theorem nL (d:Nat) (a b:List Nat) (k:Nat):matU 8 app2.head (eQ (d :: a) b k) ⟨[],Wn.none⟩=⟨[([72],lG d),([88],lsU a),([89],lsU b),([90],vn k)],Wn.none⟩:=by
 simp[matU,cR,iB,bM.meet,app2,eQ,tF,tC,tV,nApp,lsU,mj]
theorem none_says:Wn.none.says=1:=rfl
theorem JB {lim:Nat} {u:U} {c:aL} (h:(matU 8 c.head u ⟨[],Wn.none⟩).w.says=2):(bU lim u c).1=2:=by
 unfold bU
 rw[if_pos (by omega)]
 exact h
theorem EK {lim:Nat} {u:U} {c:aL} {st:List (List UInt8×U)} (h:matU 8 c.head u ⟨[],Wn.none⟩=⟨st,Wn.none⟩) (ht:c.tests=[]):(bU lim u c).1=1:=by
 unfold bU
 rw[h,if_neg (by rw[none_says];simp),ht]
 rfl
theorem NH1:NH app1=[[89],[90]]:=by simp[NH,app1,tF,tNil,tV,namesF,ek]
theorem NG1:NG app1=[[89],[90]]:=by
 unfold NG NT
 rw[NH1]
 simp[app1,aC,aP,cD,tV,namesF,ek]
theorem NH2:NH app2=[[72],[88],[89],[90]]:=by simp[NH,app2,tF,tC,tV,namesF,ek]
theorem NG2:NG app2=[[72],[88],[89],[90],[87]]:=by
 unfold NG NT
 rw[NH2]
 simp[app2,aC,aP,cD,tF,tC,tV,namesF,ek]
theorem EL (η:List UInt8→U) (a:Tm):MG.of η ⟨a,[],none,[],none⟩=MG.rd (bJ η 8 a) [] zU [] zU:=rfl
theorem S4 (η:List UInt8→U) (f:Nat) (a b:Tm):bJ η (f+1) (tC a b)=mj (bJ η f a) (bJ η f b):=Gh η f [99] [a,b]
theorem Sp (η:List UInt8→U) (f:Nat) (x:List UInt8) (a b c:Tm):bJ η (f+1) (tF x a b c)= .n 1 x 0 [bJ η f a,bJ η f b,bJ η f c]:=Gh η f x [a,b,c]
theorem app1_g:app1.goals=[⟨tV 90,[61],some (tV 89),[],none⟩]:=rfl
theorem app2_g:app2.goals=[⟨tV 90,[61],some (tC (tV 72) (tV 87)),[],none⟩,⟨tF nApp (tV 88) (tV 89) (tV 87),[],none,[],none⟩]:=rfl
theorem of_eq (η:List UInt8→U) (a b:Tm):MG.of η ⟨a,[61],some b,[],none⟩=MG.rd (bJ η 8 a) [61] (bJ η 8 b) [] zU:=rfl
theorem Sq (b:List Nat) (k:Nat) (o:Nat→Nat):app1.goals.map (MG.of (cJ (eQ [] b k) app1 o))=[MG.rd (vn k) [61] (lsU b) [] zU]:=by
 have e1:cJ (eQ [] b k) app1 o [90]=vn k:=by
  unfold cJ
  rw[NH1,wS]
  simp
 have e2:cJ (eQ [] b k) app1 o [89]=lsU b:=by
  unfold cJ
  rw[NH1,wS]
  simp
 rw[app1_g]
 simp only[List.map_cons,List.map_nil,of_eq,L0,e1,e2]
theorem Sr (d:Nat) (a b:List Nat) (k f:Nat):app2.goals.map (MG.of (cJ (eQ (d :: a) b k) app2 fun i=>([f][i]?).getD 0))=[MG.rd (vn k) [61] (mj (lG d) (vn f)) [] zU,MG.rd (eQ a b f) [] zU [] zU]:=by
 have eZ:cJ (eQ (d :: a) b k) app2 (fun i=>([f][i]?).getD 0) [90]=vn k:=by
  unfold cJ
  rw[NH2,nL]
  simp
 have eH:cJ (eQ (d :: a) b k) app2 (fun i=>([f][i]?).getD 0) [72]=lG d:=by
  unfold cJ
  rw[NH2,nL]
  simp
 have eX:cJ (eQ (d :: a) b k) app2 (fun i=>([f][i]?).getD 0) [88]=lsU a:=by
  unfold cJ
  rw[NH2,nL]
  simp
 have eY:cJ (eQ (d :: a) b k) app2 (fun i=>([f][i]?).getD 0) [89]=lsU b:=by
  unfold cJ
  rw[NH2,nL]
  simp
 have eW:cJ (eQ (d :: a) b k) app2 (fun i=>([f][i]?).getD 0) [87]=vn f:=by
  unfold cJ
  rw[NH2,NG2,if_neg (by decide)]
  rfl
 rw[app2_g]
 simp only[List.map_cons,List.map_nil,of_eq,EL,S4,Sp,L0,eZ,eH,eX,eY,eW]
 rfl
theorem OG {x:Vr} {a b:List Nat} {k:Nat} (h:has x (eQ a b k)):x=([],k):=by
 unfold eQ at h
 simp only[has,sD,or_false]at h
 rcases h with h | h | h
 ·exact absurd h (gnd_ls a x)
 ·exact absurd h (gnd_ls b x)
 ·exact(show ([],k)=x from h).symm
theorem EM {a b:List Nat} {k:Nat} (ha:a.length≤15) (hb:b.length≤15):mh (MG.rd (eQ a b k) [] zU [] zU)=false:=by
 show [lsU a,lsU b,vn k].any big=false
 simp only[List.any_cons,List.any_nil,Bool.or_false,Bool.or_eq_false_iff]
 exact⟨pG (by rw[size_ls];omega),pG (by rw[size_ls];omega),pG (by unfold vn;rw[size];omega)⟩
structure rT (a b:List Nat) (script:List (Int×Int)) (S0:MS) (j:Nat) (s:gW) (c0:Nat) (L:List Int) (r:List Nat):Prop where
 run:mW [app1,app2] script S0 j (s.st (2+s.hs.length)) L
 ok:s.ok c0
 is:a=s.hs++r
 jm:(s.fin=none∧s.call=eQ r b (1+s.hs.length)∧L.count 1=0∧j=c0+s.hs.length)∨(s.fin=some (lsU b)∧r=[]∧L.count 1=1∧j=c0+s.hs.length+1)
 len:L.length=j
 n0:L.count 0=c0
 n2:L.count 2=s.hs.length
theorem rT.end {a b:List Nat} {script:List (Int×Int)} {S0:MS} {j:Nat} {s:gW} {c0:Nat} {L:List Int} {r:List Nat} (h:rT a b script S0 j s c0 L r):(s.its=[]↔j=2*a.length+2)∧j≤2*a.length+2∧(s.its=[]→s.fin=some (lsU b)∧s.hs=a∧c0=a.length+1∧L.count 1=1):=by
 have jv:=h.ok.ln
 have xt:a.length=s.hs.length+r.length:=by rw[h.is,List.length_append]
 rcases h.jm with⟨hf,_,h1,hj⟩ | ⟨hf,hr,h1,hj⟩
 ·have hne:s.its≠[]:=fun q=>by
   have:=h.ok.cl.2 hf
   rw[q]at this
   cases this
  have hp:0<s.its.length:=List.length_pos_iff.2 hne
  exact⟨⟨fun q=>absurd q hne,fun q=>by omega⟩,by omega,fun q=>absurd q hne⟩
 ·subst hr
  have UJ:s.hs=a:=by rw[h.is];simp
  have hh:s.hs.length=a.length:=by rw[UJ]
  refine⟨⟨fun q=> ?_,fun q=> ?_⟩,by omega,fun q=>⟨hf,UJ,?_,h1⟩⟩
  ·rw[q]at jv;simp at jv;omega
  ·exact List.length_eq_zero_iff.1 (by omega)
  ·rw[q]at jv;simp at jv;omega
theorem rT.step {a b:List Nat} {script:List (Int×Int)} {S0:MS} {j:Nat} {s:gW} {c0:Nat} {L:List Int} {r:List Nat} (ha:a.length≤5) (hb:b.length≤5) (h:rT a b script S0 j s c0 L r) (hs:j<script.length) (hj:j<2*a.length+2):∃s' c0' L' r',rT a b script S0 (j+1) s' c0' L' r':=by
 have xt:a.length=s.hs.length+r.length:=by rw[h.is,List.length_append]
 have hne:s.its≠[]:=fun q=>by have:=h.end.1.1 q;omega
 obtain⟨pg,pc⟩:Int×Int:=script[j]
 obtain⟨⟨pg,pc⟩,hsj⟩:∃q:Int×Int,script[j]?=some q:=⟨_,List.getElem?_eq_getElem hs⟩
 obtain⟨hp,M8⟩:=s.pick (2+s.hs.length) pg hne
 generalize dA pg s.its.length=p at hp M8
 obtain⟨o,ho⟩:∃o,s.its[p]?=some o:=⟨_,List.getElem?_eq_getElem hp⟩
 cases o with
 | some k=>
  obtain⟨s',h1,h2,h3,h4,h5⟩:=h.ok.solve ho [app1,app2] (2+s.hs.length) pc
  refine⟨s',c0+1,L++[0],r,⟨?_,h2,by rw[h3];exact h.is,?_,by rw[List.length_append,h.len];rfl,by rw[List.count_append,h.n0];rfl,by rw[List.count_append,h.n2,h3];rfl⟩⟩
  ·rw[h3];exact .step h.run hsj M8 h1 (h2.small _)
  ·rw[h3,h4,h5,List.count_append]
   rcases h.jm with⟨q1,q2,q3,q4⟩ | ⟨q1,q2,q3,q4⟩
   ·exact Or.inl ⟨q1,q2,by rw[q3];rfl,by omega⟩
   ·exact Or.inr ⟨q1,q2,by rw[q3];rfl,by omega⟩
 | none=>
  have hfn:=h.ok.cl.1 (List.mem_of_getElem? ho)
  obtain⟨q1,q2,q3,q4⟩:s.fin=none∧s.call=eQ r b (1+s.hs.length)∧L.count 1=0∧j=c0+s.hs.length:=by
   rcases h.jm with q | ⟨q,_⟩
   ·exact q
   ·rw[hfn]at q;cases q
  have gV:(s.st (2+s.hs.length)).gs[p]?=some (MG.rd (eQ r b (1+s.hs.length)) [] zU [] zU):=by
   show (s.its.map s.sB)[p]?=_
   rw[List.getElem?_map,ho]
   show some (MG.rd s.call [] zU [] zU)=_
   rw[q2]
  cases r with
  | nil=>
   obtain⟨k,c,hk,hy,hst⟩:=Dc (cls:=[app1,app2]) (tx:=nApp) (us:=[lsU [],lsU b,vn (1+s.hs.length)]) app_own gV rfl rfl (by decide) pc ⟨0,app1,rfl,EK (wS b _) rfl⟩
   have fw:k=0∧c=app1:=by
    match k,hk with
    | 0,hk=>exact⟨rfl,by injection hk with hk;exact hk.symm⟩
    | 1,hk=>
     injection hk with hk
     subst hk
     have:(bU (s.st (2+s.hs.length)).lim (eQ [] b (1+s.hs.length)) app2).1=1:=hy
     rw[JB (Mb b _)]at this
     omega
   obtain⟨rfl,rfl⟩:=fw
   obtain⟨s',h1,h2,h3,h4⟩:=h.ok.close ho (u:=lsU b) ⟨gnd_ls b,ls_nv b,by rw[size_ls];omega⟩
   refine⟨s',c0,L++[1],[],⟨?_,h1,by rw[h2];exact h.is,Or.inr ⟨h3,rfl,by rw[List.count_append,q3];rfl,by rw[h2];omega⟩,by rw[List.length_append,h.len];rfl,by rw[List.count_append,h.n0];rfl,by rw[List.count_append,h.n2,h2];rfl⟩⟩
   rw[h2]
   refine .step h.run hsj M8 (hst [] (s'.st (2+s.hs.length)) (by rw[NH1,NG1];rfl) List.Pairwise.nil (fun f hf=>by cases hf) (Nat.le_refl _) (h4 _).1 ?_) (h1.small _)
   rw[(h4 _).2]
   congr 1
   exact(Sq b _ _).symm
  | cons d r=>
   obtain⟨k,c,hk,hy,hst⟩:=Dc (cls:=[app1,app2]) (tx:=nApp) (us:=[lsU (d :: r),lsU b,vn (1+s.hs.length)]) app_own gV rfl rfl (by decide) pc ⟨1,app2,rfl,EK (nL d r b _) rfl⟩
   have fw:k=1∧c=app2:=by
    match k,hk with
    | 1,hk=>exact⟨rfl,by injection hk with hk;exact hk.symm⟩
    | 0,hk=>
     injection hk with hk
     subst hk
     have:(bU (s.st (2+s.hs.length)).lim (eQ (d :: r) b (1+s.hs.length)) app1).1=1:=hy
     rw[JB (Jz d r b _)]at this
     omega
   obtain⟨rfl,rfl⟩:=fw
   have e9:r.length≤4:=by rw[List.length_cons]at xt;omega
   obtain⟨s',h1,h2,h3,h4,h5⟩:=h.ok.more ho d (eQ r b (2+s.hs.length)) (by rw[List.length_cons]at xt;omega) (fun i hi q=>by have:=congrArg Prod.snd (OG q);have:1+i=2+s.hs.length:=this;omega) (EM (by omega) (by omega))
   have hl2:s'.hs.length=s.hs.length+1:=by rw[h2];simp
   refine⟨s',c0,L++[2],r,⟨?_,h1,by rw[h2,h.is];simp,Or.inl ⟨h3,by rw[h4,hl2];congr 1;omega,by rw[List.count_append,q3];rfl,by omega⟩,by rw[List.length_append,h.len];rfl,by rw[List.count_append,h.n0];rfl,by rw[List.count_append,h.n2,hl2];rfl⟩⟩
   refine .step h.run hsj M8 (hst [2+s.hs.length] (s'.st (2+s'.hs.length)) (by rw[NH2,NG2];rfl) (by simp) (fun f hf=> ?_) ?_ (h5 _).1 ?_) (h1.small _)
   ·rw[List.mem_singleton.1 hf]
    exact⟨Nat.le_refl _,by show 2+s.hs.length<2+s'.hs.length;omega⟩
   ·show 2+s.hs.length≤2+s'.hs.length
    omega
   ·rw[(h5 _).2]
    congr 1
    exact(Sr d r b _ _).symm
theorem gol_len:∀(gs:List MG) (a:List (List UInt8)×List Vr),(gs.foldl mi a).1.length=a.1.length+gs.length
 | [],a=>rfl
 | g :: gs,a=>by
  rw[List.foldl_cons,gol_len gs,List.length_cons]
  show (a.1++[_]).length+gs.length=_
  rw[List.length_append]
  simp
  omega
theorem OH (x:List UInt8) (a b:List Nat) (v:UInt8):aC [] [qC x (tL a) (tL b) v]=[[v]]:=by
 show aP [] (qC x (tL a) (tL b) v)=_
 show namesF 8 [] (tF x (tL a) (tL b) (tV v))=_
 unfold namesF
 show namesF 7 (namesF 7 (namesF 7 [] (tL a)) (tL b)) (tV v)=_
 rw[names_tL,names_tL]
 unfold namesF
 show ek [] (⟨[v].toArray⟩:ByteArray).toList=_
 rw[fM]
 rfl
theorem OI (x:List UInt8) {a b:List Nat} (ha:a.length<7) (hb:b.length<7) (v:UInt8):ik 1 (aC [] [qC x (tL a) (tL b) v]) [qC x (tL a) (tL b) v]=⟨[vn 1],[MG.rd (.n 1 x 0 [lsU a,lsU b,vn 1]) [] zU [] zU],2⟩:=by
 rw[OH]
 unfold ik
 rw[List.map_cons,List.map_nil,show qC x (tL a) (tL b) v=⟨tF x (tL a) (tL b) (tV v),[],none,[],none⟩from rfl,EL,Sp,L3 _ a 7 ha,L3 _ b 7 hb,L0]
 congr 1
 simp[vn]
theorem JC (a b:List Nat) (ha:a.length≤5) (hb:b.length≤5) (script:List (Int×Int)):rT a b script (ik 1 (aC [] [qC nApp (tL a) (tL b) 90]) [qC nApp (tL a) (tL b) 90]) 0 ⟨[],none,fun _=>false,[none],eQ a b 1⟩ 0 [] a:=by
 have e:(⟨[],none,fun _=>false,[none],eQ a b 1⟩:gW).st 2=ik 1 (aC [] [qC nApp (tL a) (tL b) 90]) [qC nApp (tL a) (tL b) 90]:=by
  rw[OI nApp (by omega) (by omega)]
  rfl
 refine⟨?_,⟨by simp,fun i=> ?_,by simp,(fun i hi=>by cases hi),(fun u q=>by cases q),by simp,(fun _ i hi=>by simp at hi),fun _=>EM (by omega) (by omega),rfl⟩,rfl,Or.inl ⟨rfl,rfl,rfl,rfl⟩,rfl,rfl,rfl⟩
 ·show mW _ _ _ 0 ((⟨[],none,fun _=>false,[none],eQ a b 1⟩:gW).st 2) []
  rw[e]
  exact .start
 ·unfold isEq
  simp
theorem ux (a b:List Nat) (ha:a.length≤5) (hb:b.length≤5) (script:List (Int×Int)):∀j,j≤script.length→j≤2*a.length+2→∃s c0 L r,rT a b script (ik 1 (aC [] [qC nApp (tL a) (tL b) 90]) [qC nApp (tL a) (tL b) 90]) j s c0 L r
 | 0,_,_=>⟨_,_,_,_,JC a b ha hb script⟩
 | j+1,h1,h2=>by
  obtain⟨s,c0,L,r,h⟩:=ux a b ha hb script j (by omega) (by omega)
  exact h.step ha hb (by omega) (by omega)
theorem JD (a b:List Nat) (ha:a.length≤5) (hb:b.length≤5) (script:List (Int×Int)) (hs:script.length<2*a.length+2):∃log vals gols wts,nU [app1,app2] script (ik 1 (aC [] [qC nApp (tL a) (tL b) 90]) [qC nApp (tL a) (tL b) 90]) 3 log vals gols wts∧log.length=script.length∧0<gols.length∧wts.length=gols.length:=by
 obtain⟨s,c0,L,r,h⟩:=ux a b ha hb script script.length (Nat.le_refl _) (by omega)
 have hne:s.its≠[]:=fun q=>by have:=h.end.1.1 q;omega
 have hp:0<s.its.length:=List.length_pos_iff.2 hne
 have dh:(s.st (2+s.hs.length)).gs.length=s.its.length:=List.length_map ..
 have hr:=s.fK (2+s.hs.length)
 refine⟨L,_,_,_,⟨_,_,L,h.run,Or.inl ⟨Or.inl rfl,?_,rfl,rfl,rfl,rfl⟩⟩,h.len,?_,?_⟩
 ·unfold wG
  rw[if_neg (fun q=>by rw[q]at dh;simp at dh;omega),if_neg (fun q=>by rw[hr]at q;have:=congrArg List.length q;rw[List.length_range]at this;simp only[List.length_nil]at this;omega)]
 ·unfold rM
  rw[gol_len,dh]
  simp
  omega
 ·unfold rM
  rw[gol_len,List.length_map]
  simp
theorem Mc (a b:List Nat) (ha:a.length≤5) (hb:b.length≤5) (script:List (Int×Int)) (hs:2*a.length+2≤script.length):∃log,nU [app1,app2] script (ik 1 (aC [] [qC nApp (tL a) (tL b) 90]) [qC nApp (tL a) (tL b) 90]) 1 log [txL (a++b)] [] []∧log.length=2*a.length+2∧log.count 2=a.length∧log.count 1=1∧log.count 0=a.length+1:=by
 obtain⟨s,c0,L,r,h⟩:=ux a b ha hb script (2*a.length+2) hs (Nat.le_refl _)
 have hi:s.its=[]:=h.end.1.2 rfl
 obtain⟨e1,e2,e3,e4⟩:=h.end.2.2 hi
 have hg:(s.st (2+s.hs.length)).gs=[]:=by
  show s.its.map s.sB=[]
  rw[hi];rfl
 have hv:(s.st (2+s.hs.length)).vs=[lsU (a++b)]:=by
  show [dU s.D s.fin s.hs 0]=_
  rw[h.ok.all hi e1,e2]
 refine⟨L,⟨_,_,L,h.run,Or.inl ⟨Or.inr (by rw[hg];rfl),by rw[hg];rfl,rfl,by rw[hv,Sk],by rw[hg];rfl,by rw[hg];rfl⟩⟩,h.len,by rw[h.n2,e2],e4,by rw[h.n0,e3]⟩
end Za
namespace Go.Proofs.YthfjnfcekeknlaaGreatDoor
open Go.RowKit
def apB:ByteArray:=⟨#[97,112,112,40,110,44,89,44,90,41,58,45,90,61,89,46,32,97,112,112,40,99,40,72,44,88,41,44,89,44,90,41,58,45,90,61,99,40,72,44,87,41,44,97,112,112,40,88,44,89,44,87,41,46]⟩
def qB (x:List UInt8) (a b:List Nat):ByteArray:=⟨x.toArray⟩++⟨(Za.txL a).toArray⟩++⟨#[44]⟩++⟨(Za.txL b).toArray⟩++⟨#[44,90,41]⟩
theorem S5 (x:List UInt8) {a b:List Nat} (ha:a.length<7) (hb:b.length<7):qB (x++[40]) a b=⟨(Za.jn Za.idS false [Za.qC x (Za.tL a) (Za.tL b) 90]).toArray⟩:=by
 rw[Za.V5,Za.pr_L a 7 ha,Za.pr_L b 7 hb]
 unfold qB
 rw[show (⟨#[44]⟩:ByteArray)=⟨[44].toArray⟩from rfl,show (⟨#[44,90,41]⟩:ByteArray)=⟨[44,90,41].toArray⟩from rfl,eM,eM,eM,eM]
theorem OJ (x:List UInt8) {a b:List Nat} (da:∀d∈a,d<10) (db:∀d∈b,d<10):(qB x a b).size=x.length+5*a.length+5*b.length+6:=by
 unfold qB
 simp only[ByteArray.size_append]
 have e:∀l:List UInt8,(⟨l.toArray⟩:ByteArray).size=l.length:=fun l=>by simp[ByteArray.size]
 rw[show (⟨#[44]⟩:ByteArray)=⟨[44].toArray⟩from rfl,show (⟨#[44,90,41]⟩:ByteArray)=⟨[44,90,41].toArray⟩from rfl,e,e,e,e,e,Za.txL_len a da,Za.txL_len b db]
 simp only[List.length_cons,List.length_nil]
 omega
theorem wT (w:World) (x:ByteArray) (T:TypeId):nQ (w.alloc (.cells #[.string x] T)) (some ⟨w.heap.size,0,none⟩) [x]:=fun _=>⟨w.heap.size,rfl,by simp,fun i hi=>by
 have hi':i<1:=hi
 obtain rfl:i=0:=by omega
 exact ah (heap_alloc_new w (.cells #[.string x] T)) 0⟩
theorem V7 (W:World) (he:wR W) {a b:List Nat} (la:a.length≤5) (lb:b.length≤5) (da:∀d∈a,d<10) (db:∀d∈b,d<10) {script:List (Int×Int)} {so:Option Addr} (sc:Nat) (hsc:pC W so script) (mF:∀p∈script,(-9223372036854775808≤p.1∧p.1≤9223372036854775807)∧(-9223372036854775808≤p.2∧p.2≤9223372036854775807)) (pO:script.length≤100) {en:Int} {log:List Int} {vals gols:List (List UInt8)} {wts:List Bool} (hend:Za.nU [Za.app1,Za.app2] script (Za.ik 1 (Za.aC [] [Za.qC Za.nApp (Za.tL a) (Za.tL b) 90]) [Za.qC Za.nApp (Za.tL a) (Za.tL b) 90]) en log vals gols wts):
 Calls Tryz.prog 15 #[.string apB,.string (qB [97,112,112,40] a b),.slice so script.length sc] W fun e w'=>∃R,e= .returned (.tuple #[R,.int .i64 0])∧Da w' W.heap.size R en log vals gols wts∧Below W.heap.size W w':=by
 refine runK W he (by rw[Za.app_pr];rfl) (by decide) (by decide) Za.app_ok Za.app_mp (fun c hc=>by simp only[List.mem_cons,List.not_mem_nil,or_false]at hc;rcases hc with rfl | rfl<;>rfl) (S5 Za.nApp (by omega) (by omega)) (by rw[OJ _ da db];simp only[Za.nApp,List.length_append,List.length_cons,List.length_nil];omega) (by simp) (Za.XP Za.nApp_word (by decide) (Za.ok_L a 7 da (by omega)) (Za.ok_L b 7 db (by omega)) (by decide)) (fun y hy=>by cases hy) ?_ hsc mF pO hend
 show [(⟨Za.gm Za.idS 8 (Za.tF Za.nApp (Za.tL a) (Za.tL b) (Za.tV 90)),[],none,[],none⟩:Za.aH)]=_
 have:Za.gm Za.idS 8 (Za.tF Za.nApp (Za.tL a) (Za.tL b) (Za.tV 90))=Za.tF Za.nApp (Za.tL a) (Za.tL b) (Za.tV 90):=by
  refine(Za.V4 7 Za.nApp [Za.tL a,Za.tL b,Za.tV 90]).trans ?_
  rw[List.map_cons,List.map_cons,List.map_cons,List.map_nil,Za.mp_L a 7 (by omega),Za.mp_L b 7 (by omega)]
  rfl
 rw[this]
 rfl
theorem Aj (W:World) (he:wR W) {a0 a1 a2:Option Addr} {l0 l1 l2 c0 c1 c2:Nat} (h0:wy W a0 l0) (h1:wy W a1 l1) (h2:ql W a2 l2 c2):
 Calls Tryz.prog 8 #[.slice a0 l0 c0,.slice a1 l1 c1,.slice a2 l2 c2] W fun e w'=>e= .returned (.bool true)∧Below W.heap.size W w':=by
 have IN0:=af (Cr W a0 l0 c0 5 h0 (by omega))
 have IN1:=af (fun W' (hb:Below W.heap.size W W')=>Cr W' a1 l1 c1 5 (h1.below hb) (by omega))
 have IS:=af (fun W' (hb:Below W.heap.size W W')=>SX W' a2 l2 c2 (h2.below hb))
 have HE:=af he
 clear he h0 h1 h2
 go_enter Tryz.func8,Tryz.ntmps8
 go_wp2_with fail
 refine(ae IN0).mono ?_
 rintro e w1 ⟨a,oa,ca,rfl,la,da,owa,hb1⟩
 have bj:=af hb1
 have IN:=af (ae IN1 _ hb1)
 have D5:=af da
 have Ss:=af owa
 clear IN0 IN1 hb1 da owa
 go_wp2_with fail
 refine(ae IN).mono ?_
 rintro e w2 ⟨b,ob,cb,rfl,lb,db,owb,hb2⟩
 have hbB:=(ae bj).trans (hb2.mono (ae bj).size)
 have IS2:=af (ae IS _ hbB)
 have M9:=af db
 have Na:=af owb
 have Gp:=af (ai (ae Ss) fun k r=>hb2.block k ((ae Ss).lt k r).2)
 have aZ:=af hbB
 clear IN IS hb2 hbB db owb Ss bj
 go_wp2_with fail
 refine(ae IS2).mono ?_
 rintro e w3 ⟨⟨m,c3,rfl,hm,M0⟩,rfl⟩
 obtain⟨script,rfl,_,_,hsc,mF⟩:=M0
 have Sa:=af hsc
 have zt:=af mF
 have IWA:=af (wI w3 a oa ca (l7.Cs (ae Gp)) (fun d hd=>by have:=ae D5 d hd;omega) (by omega))
 have IWB:=af (fun W' (hb:Below w3.heap.size w3 W')=>wI W' b ob cb ((l7.Cs (ae Na)).below hb) (fun d hd=>by have:=ae M9 d hd;omega) (by omega))
 have IRU:=af (fun W' (hb:Below w3.heap.size w3 W') en log vals gols wts=>V7 W' ((ae HE).below ((ae aZ).trans (hb.mono (ae aZ).size))) la lb (ae D5) (ae M9) c3 ((ae Sa).below hb) (ae zt) hm (en:=en) (log:=log) (vals:=vals) (gols:=gols) (wts:=wts))
 have xa:=Za.txL_len a (ae D5)
 have xb:=Za.txL_len b (ae M9)
 have xa':(Za.txL a).length≤100:=by omega
 have xb':(Za.txL b).length≤100:=by omega
 clear hsc mF xa xb IS2
 have key:(script.length<2*a.length+2∧∃log vals gols wts,Za.nU [Za.app1,Za.app2] script (Za.ik 1 (Za.aC [] [Za.qC Za.nApp (Za.tL a) (Za.tL b) 90]) [Za.qC Za.nApp (Za.tL a) (Za.tL b) 90]) 3 log vals gols wts∧log.length=script.length∧0<gols.length∧wts.length=gols.length)∨(2*a.length+2≤script.length∧∃log,Za.nU [Za.app1,Za.app2] script (Za.ik 1 (Za.aC [] [Za.qC Za.nApp (Za.tL a) (Za.tL b) 90]) [Za.qC Za.nApp (Za.tL a) (Za.tL b) 90]) 1 log [Za.txL (a++b)] [] []∧log.length=2*a.length+2∧log.count 2=a.length∧log.count 1=1∧log.count 0=a.length+1):=by
  by_cases q:script.length<2*a.length+2
  ·exact Or.inl ⟨q,Za.JD a b la lb script q⟩
  ·exact Or.inr ⟨by omega,Za.Mc a b la lb script (by omega)⟩
 rcases key with⟨hq,log,vals,gols,wts,hend,k1,k2,k3⟩ | ⟨hq,log,hend,k1,k2,k3,k4⟩
 ·have IRN:=af (fun W' hb=>ae IRU W' hb _ _ _ _ _ hend)
  have cO:=af k1
  have dK:=af k3
  have HQ:decide (script.length<2*a.length+2)=true:=by simpa using hq
  clear IRU hend k1 k3
  go_wp2_with fail
  refine(ae IWA).mono ?_
  rintro e w4 ⟨rfl,hb4⟩
  have cK:=af hb4
  have IWB4:=af (ae IWB w4 hb4)
  clear IWA IWB hb4
  go_wp2_with fail
  refine(ae IWB4).mono ?_
  rintro e w5 ⟨rfl,bt⟩
  have bH:=af ((ae cK).trans (bt.mono (ae cK).size))
  clear bt IWB4
  go_wp2_with fail
  refine(ae IRN w5 (ae bH)).mono ?_
  rintro e w6 ⟨R,rfl,⟨lo,lc,xo,xc,go,gc,yo,yc,rfl,_⟩,fI⟩
  have gQ:=af (((ae bH).trans (fI.mono (ae bH).size)).alloc ((ae bH).trans (fI.mono (ae bH).size)).size (.cells #[.int .i64 3,.slice lo log.length lc,.slice xo vals.length xc,.slice go gols.length gc,.slice yo wts.length yc] 32))
  have ISH:=af (Ru (w6.alloc (.cells #[.int .i64 3,.slice lo log.length lc,.slice xo vals.length xc,.slice go gols.length gc,.slice yo wts.length yc] 32)) lo log.length lc xo vals.length xc go gols.length gc yo yc k2)
  rw[ae dK,ae cO]at gQ ISH
  rw[ae dK,ae cO]
  clear fI IRN
  go_wp2_with fail
  refine(ae ISH).mono ?_
  rintro e w7 ⟨rfl,Cx⟩
  have js:=af ((ae aZ).trans (((ae gQ).trans (Cx.mono (ae gQ).size)).mono (ae aZ).size))
  clear Cx
  go_wp2_with fail
  go_ret
  exact⟨rfl,ae js⟩
 ·have IRN:=af (fun W' hb=>ae IRU W' hb _ _ _ _ _ hend)
  have HK:=af (And.intro k1 (And.intro k2 (And.intro k3 k4)))
  have HQ:decide (script.length<2*a.length+2)=false:=by simpa using hq
  clear IRU hend k1 k2 k3 k4
  go_wp2_with fail
  refine(ae IWA).mono ?_
  rintro e w4 ⟨rfl,hb4⟩
  have cK:=af hb4
  have IWB4:=af (ae IWB w4 hb4)
  clear IWA IWB hb4
  go_wp2_with fail
  refine(ae IWB4).mono ?_
  rintro e w5 ⟨rfl,bt⟩
  have bH:=af ((ae cK).trans (bt.mono (ae cK).size))
  clear bt IWB4
  go_wp2_with fail
  refine(ae IRN w5 (ae bH)).mono ?_
  rintro e w6 ⟨R,rfl,⟨lo,lc,xo,xc,go,gc,yo,yc,rfl,r1,r2,_⟩,fI⟩
  have hbA:=((ae bH).trans (fI.mono (ae bH).size)).alloc ((ae bH).trans (fI.mono (ae bH).size)).size (.cells #[.int .i64 1,.slice lo log.length lc,.slice xo 1 xc,.slice go 0 gc,.slice yo 0 yc] 32)
  have Md:=(Below.refl w6.heap.size w6).alloc (Nat.le_refl _) (.cells #[.int .i64 1,.slice lo log.length lc,.slice xo 1 xc,.slice go 0 gc,.slice yo 0 yc] 32)
  have gR:=heap_alloc_new w6 (.cells #[.int .i64 1,.slice lo log.length lc,.slice xo 1 xc,.slice go 0 gc,.slice yo 0 yc] 32)
  have xO:=af ((l7.qV r1).below Md)
  have Ps:=af ((nQ.qV (ys:=[Za.txL (a++b)]) r2).below Md)
  have js:=af hbA
  have UK:=af gR
  clear fI hbA IRN r1 r2 Md gR
  go_upto_region 8 with fail
  generalize w6.alloc (.cells #[.int .i64 1,.slice lo log.length lc,.slice xo 1 xc,.slice go 0 gc,.slice yo 0 yc] 32)=w7 at*
  generalize w6.heap.size=rb at*
  have gR:=ae UK
  have f0:=ah gR 0
  have f1:=ah gR 1
  have f2:=ah gR 2
  have f3:=ah gR 3
  have f4:=ah gR 4
  simp only[List.getElem?_toArray,List.getElem?_cons_zero,List.getElem?_cons_succ]at f0 f1 f2 f3 f4
  have rz:rb<w7.heap.size:=ag gR
  have V8:=af (show∀d∈a++b,d<1000000000 from fun d hd=>by
   rcases List.mem_append.1 hd with q | q
   ·have:=ae D5 d q;omega
   ·have:=ae M9 d q;omega)
  have fT:(a++b).length≤10:=by rw[List.length_append];omega
  have IJ:=af (fun W' (hb:Below w7.heap.size w7 W')=>Ob W' a b oa ob ca cb _ _ (ai (ae Gp) fun k r=>((hb.block k (Nat.lt_of_lt_of_le ((ae Gp).lt k r).2 (ae js).size)).trans ((ae js).block k ((ae Gp).lt k r).2))) (ai (ae Na) fun k r=>((hb.block k (Nat.lt_of_lt_of_le ((ae Na).lt k r).2 (ae js).size)).trans ((ae js).block k ((ae Na).lt k r).2))) (by omega) (by omega))
  have IWJ:=af (fun(W':World) (o:Option Addr) (c n:Nat) (h:W'.ownsRow n 3 1 (.slice o (a++b).length c) (a++b).length ((a++b).map aM)) (W2:World) (hb:Below W'.heap.size W' W2)=>wI W2 (a++b) o c ((l7.Cs h).below hb) (ae V8) (by omega))
  generalize Za.txL (a++b)=X at*
  generalize hab:a++b=ab at*
  have Yt:=af hab
  have IDN:=af (fun(W':World) (hb:Below w7.heap.size w7 W') (vo:Option Addr) (vc:Nat) (hv:nQ W' vo [⟨X.toArray⟩])=>(SV W' [⟨X.toArray⟩] lo log.length lc xo xc go gc yo yc vo vc ((ae Ps).below hb) hv (by simp)).mono (fun e w' (h:e= .returned (.bool true)∧Below W'.heap.size W' w')=>(show e= .returned (.bool true)∧Below w7.heap.size w7 w' from ⟨h.1,hb.trans (h.2.mono hb.size)⟩)))
  have HZ:=af gR
  clear gR hab cK bH UK
  go_cut [12] (fun dv wx=>dv= .bool true∧Below w7.heap.size w7 wx)
  case first=>
   go_region_with (first
    | (go_at_call 19;refine(ae IJ _ (by first | exact Below.refl _ _ | exact(Below.refl _ _).drew | exact(Below.refl _ _).drew.drew | exact(Below.refl _ _).drew.drew.drew | exact(Below.refl _ _).drew.drew.drew.drew)).mono ?_;rintro e w8 ⟨oj,cj,rfl,owj,qW⟩;have Ab:Below w7.heap.size w7 w8:=(by first | exact qW | exact(Below.refl _ _).drew.trans qW | exact(Below.refl _ _).drew.drew.trans qW | exact(Below.refl _ _).drew.drew.drew.trans qW | exact(Below.refl _ _).drew.drew.drew.drew.trans qW);have g0:=(Ab.cell (p:=⟨rb,0,none⟩) rz).trans f0;have g1:=(Ab.cell (p:=⟨rb,1,none⟩) rz).trans f1;have g2:=(Ab.cell (p:=⟨rb,2,none⟩) rz).trans f2;have g3:=(Ab.cell (p:=⟨rb,3,none⟩) rz).trans f3;have g4:=(Ab.cell (p:=⟨rb,4,none⟩) rz).trans f4;have rz8:rb<w8.heap.size:=Nat.lt_of_lt_of_le rz Ab.size;have Ja:=af Ab;have XV:=af owj;clear qW owj Ab)
    | (go_at_call 16;refine(ae IWJ w8 oj cj _ (ae XV) _ (by first | exact Below.refl _ _ | exact(Below.refl _ _).drew | exact(Below.refl _ _).drew.drew | exact(Below.refl _ _).drew.drew.drew | exact(Below.refl _ _).drew.drew.drew.drew)).mono ?_;rintro e w9 ⟨rfl,kM⟩;have Ac:Below w7.heap.size w7 w9:=(ae Ja).trans ((show Below w8.heap.size w8 w9 from by first | exact kM | exact(Below.refl _ _).drew.trans kM | exact(Below.refl _ _).drew.drew.trans kM | exact(Below.refl _ _).drew.drew.drew.trans kM | exact(Below.refl _ _).drew.drew.drew.drew.trans kM).mono (ae Ja).size);have k0:=(Ac.cell (p:=⟨rb,0,none⟩) rz).trans f0;have k1:=(Ac.cell (p:=⟨rb,1,none⟩) rz).trans f1;have k2:=(Ac.cell (p:=⟨rb,2,none⟩) rz).trans f2;have k3:=(Ac.cell (p:=⟨rb,3,none⟩) rz).trans f3;have k4:=(Ac.cell (p:=⟨rb,4,none⟩) rz).trans f4;have rz9:rb<w9.heap.size:=Nat.lt_of_lt_of_le rz Ac.size;have kK:=af Ac;clear kM Ac)
    | (go_at_call 18;refine(ae IDN _ (by first | exact(ae kK).alloc (ae kK).size _ | exact((ae kK).alloc (ae kK).size _).drew | exact((ae kK).alloc (ae kK).size _).drew.drew | exact(ae kK).drew.alloc (ae kK).size _ | exact((ae kK).drew.alloc (ae kK).size _).drew | exact(ae kK).drew.drew.alloc (ae kK).size _) _ _ (by first | exact wT _ _ _ | exact(wT _ _ _).below (Below.refl _ _).drew | exact(wT _ _ _).below (Below.refl _ _).drew.drew)).mono ?_;rintro e wA ⟨rfl,hbA⟩;have xR:=af hbA;clear hbA))
   all_goals
    go_wp2_with fail
    go_meet
    exact⟨rfl,by first | exact ae xR | exact(ae xR).drew⟩
  case rest=>
   obtain⟨rfl,dZ⟩:=hcut
   obtain⟨k1,k2,k3,k4⟩:=ae HK
   have je:log.length≤1000000:=by omega
   have IC:=af (fun(W':World) (hb:Below w7.heap.size w7 W') z=>(Rs W' log z lo lc ((ae xO).below hb) je).mono (fun e w' (h:e= .returned (.int .i64 (log.count z:Int))∧Below W'.heap.size W' w')=>(show e= .returned (.int .i64 (log.count z:Int))∧Below w7.heap.size w7 w' from ⟨h.1,hb.trans (h.2.mono hb.size)⟩)))
   have IC2:=af (fun W' hb=>ae IC W' hb 2)
   have IC1:=af (fun W' hb=>ae IC W' hb 1)
   have IC0:=af (fun W' hb=>ae IC W' hb 0)
   rw[k2]at IC2
   rw[k3]at IC1
   rw[k4,show ((a.length+1:Nat):Int)=(a.length:Int)+1 by omega]at IC0
   have t1:((log.length:Int) == 2*(a.length:Int)+2)=true:=by rw[k1];simp
   have nY:=af dZ
   have g1:=(dZ.cell (p:=⟨rb,1,none⟩) rz).trans f1
   have rzx:rb<wc.heap.size:=Nat.lt_of_lt_of_le rz dZ.size
   have HT:=af (ae aZ)
   clear k1 k2 k3 k4 dZ IC
   go_wp2_with fail
   refine(ae IC2 _ (ae nY)).mono ?_
   rintro e wd ⟨rfl,xQ⟩
   have h1:=(xQ.cell (p:=⟨rb,1,none⟩) rz).trans f1
   have rzd:rb<wd.heap.size:=Nat.lt_of_lt_of_le rz xQ.size
   have XW:=af xQ
   clear xQ
   go_wp2_with fail
   refine(ae IC1 _ (ae XW)).mono ?_
   rintro e we ⟨rfl,aS⟩
   have i1:=(aS.cell (p:=⟨rb,1,none⟩) rz).trans f1
   have rze:rb<we.heap.size:=Nat.lt_of_lt_of_le rz aS.size
   have cm:=af aS
   clear aS
   go_wp2_with fail
   refine(ae IC0 _ (ae cm)).mono ?_
   rintro e wf ⟨rfl,UL⟩
   have XX:=af ((ae aZ).trans (((ae js).trans (UL.mono (ae js).size)).mono (ae aZ).size))
   clear UL
   go_wp2_with fail
   go_ret
   exact⟨rfl,ae XX⟩
end Go.Proofs.YthfjnfcekeknlaaGreatDoor
