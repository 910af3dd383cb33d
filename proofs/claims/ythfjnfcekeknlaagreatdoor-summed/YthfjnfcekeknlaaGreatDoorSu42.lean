import Derived.Test.YthfjnfcekeknlaaGreatDoorSu40
import Derived.Test.YthfjnfcekeknlaaGreatDoorSu41
set_option maxHeartbeats 8000000
set_option maxRecDepth 100000
namespace Go.Proofs.YthfjnfcekeknlaaGreatDoor
open Go.RowKit
theorem ui.keep {cls:List Za.aL} {F:List Nat} {script:List (Int×Int)} {S0:cq} {b b':Nat} {e:Ending} {w' w2:World} (h:ui cls F script S0 b e w') (hb:b'≤b) (hk:∀k,b≤k→w2.heap[k]?=w'.heap[k]?):ui cls F script S0 b' e w2:=by
 have row:∀{Y:TypeId} {o:Option Addr} {n cap:Nat} {xs:List Value},w'.ownsRow b Y 1 (.slice o n cap) n xs→w2.ownsRow b' Y 1 (.slice o n cap) n xs:=fun {Y o n cap xs} q=>ct (ai q fun k r=>hk k (q.lt k r).1) hb
 obtain⟨j,S,L,lo,lc,h1,⟨h2,xo,xc,go,gc,yo,yc,h3,h4,h5,h6,h7,h8⟩ | ⟨pg,pc,i,en,z,h2,h3,h4,h5,h6⟩⟩:=h
 ·exact⟨j,S,L,lo,lc,h1,Or.inl ⟨h2,xo,xc,go,gc,yo,yc,h3,row h4,row h5,row h6,row h7,h8⟩⟩
 ·exact⟨j,S,L,lo,lc,h1,Or.inr ⟨pg,pc,i,en,z,h2,h3,h4,h5,row h6⟩⟩
theorem ui.five {cls:List Za.aL} {F:List Nat} {script:List (Int×Int)} {S0:cq} {b:Nat} {e:Ending} {w':World} (h:ui cls F script S0 b e w'):∃(en:Int) (lo:Option Addr) (ln lc:Nat) (xo:Option Addr) (xn xc:Nat) (go:Option Addr) (gn gc:Nat) (yo:Option Addr) (yn yc:Nat),e= .returned (.agg #[.int .i64 en,.slice lo ln lc,.slice xo xn xc,.slice go gn gc,.slice yo yn yc]):=by
 obtain⟨j,S,L,lo,lc,h1,⟨h2,xo,xc,go,gc,yo,yc,h3,_⟩ | ⟨pg,pc,i,en,z,h2,h3,h4,h5,h6⟩⟩:=h
 ·exact⟨_,_,_,_,_,_,_,_,_,_,_,_,_,h3⟩
 ·exact⟨_,_,_,_,_,_,_,_,_,_,_,_,_,h5⟩
structure Gj (sp:ByteArray) (LP:List Za.aj) (sq:ByteArray) (LQ:List Za.aj):Prop where
 pe:∀e,Za.prog 12 LP= .inl e→e.1≠0
 qe:∀e,Za.query LQ= .inl e→e.1≠0
 p:∀cls l,sp.size≤240→Za.prog 12 LP= .inr (cls,l)→(∀c∈cls,Za.jK c∧∀x∈c.goals,Za.i7 x)∧cls.length≤12
 q:∀ys l,sq.size≤96→Za.query LQ= .inr (ys,l)→(∀x∈ys,Za.i7 x)∧ys.length≤6∧(Za.aD [] ys).length≤100∧∀x∈ys,∀η:List UInt8→Za.U,(∀y∈Za.aD [] ys,Za.size (η y)=1)→Za.size (Za.bJ η 8 x.left)≤300∧(∀r,x.right=some r→Za.size (Za.bJ η 8 r)≤300)∧(∀z,x.last=some z→Za.size (Za.bJ η 8 z)≤300)
def mr (s:ByteArray) (L:List Za.aj):Nat:=if 96<s.size then 1 else(match Za.query L with
 | .inl e=>e.1
 | .inr _=>0)
def kq (s:ByteArray) (L:List Za.aj):Nat:=if 240<s.size then 1 else Za.ES (Za.prog 12 L)
def Sb (sp:ByteArray) (LP:List Za.aj) (sq:ByteArray) (LQ:List Za.aj) (script:List (Int×Int)) (w:World) (e:Ending) (w':World):Prop:=
 (∃er:Nat,er≠0∧er=(if kq sp LP≠0 then kq sp LP else if 100<script.length then 1 else mr sq LQ)∧e= .returned (.tuple #[.agg #[.int .i64 0,.slice none 0 0,.slice none 0 0,.slice none 0 0,.slice none 0 0],.int .i64 (er:Int)])∧Below w.heap.size w w')∨
 (kq sp LP=0∧script.length≤100∧mr sq LQ=0∧∃(cls:List Za.aL) (l1:List Za.aj) (ys:List Za.aH) (l2:List Za.aj) (F:List Nat) (S0:cq) (R:Value),Za.prog 12 LP= .inr (cls,l1)∧Za.query LQ= .inr (ys,l2)∧CI (Za.aD [] ys) ys F S0∧e= .returned (.tuple #[R,.int .i64 0])∧ui cls F script S0 w.heap.size (.returned R) w'∧Below w.heap.size w w')
theorem S7 (w:World) (s:ByteArray) (L:List Za.aj) (hL:Za.dT s L) (hh:Za.hd L=Za.next s 0) (hl:s.size≤240→L.length≤1000) (aW:dM w) (h0:0<w.heap.size) (he:∀e,Za.prog 12 L= .inl e→e.1≠0):
 Calls Tryz.prog 26 #[.string s] w fun e w'=>∃(o:Option Addr) (n c p:Nat),e= .returned (.agg #[.slice o n c,.int .i64 (kq s L:Int),.int .i64 (p:Int)])∧(kq s L=0→s.size≤240∧∃cls l1,Za.prog 12 L= .inr (cls,l1)∧dh w' o n cls)∧Below w.heap.size w w':=by
 by_cases hs:240<s.size
 ·refine(L4 w s hs).mono ?_
  rintro e w' ⟨rfl,hb⟩
  have:kq s L=1:=by unfold kq;rw[if_pos hs]
  exact⟨none,0,0,0,by rw[this];rfl,fun q=>by omega,hb⟩
 ·refine(N6 w s L (by omega) hL hh (hl (by omega)) aW h0).mono ?_
  rintro e w' ⟨o,n,c,rfl,hr,hb⟩
  have e1:kq s L=Za.ES (Za.prog 12 L):=by unfold kq;rw[if_neg hs]
  refine⟨o,n,c,Za.posOf (Za.prog 12 L),by rw[e1],fun q=>⟨by omega,?_⟩,hb⟩
  rw[e1]at q
  cases hp:Za.prog 12 L with
  | inl x=>rw[hp]at q;exact absurd q (he x hp)
  | inr x=>
   obtain⟨cls,l1⟩:=x
   rw[hp]at hr
   exact⟨cls,l1,rfl,hr⟩
theorem Sc (w:World) (s:ByteArray) (L:List Za.aj) (hL:Za.dT s L) (hh:Za.hd L=Za.next s 0) (hl:s.size≤96→L.length≤1000) (aW:dM w) (h0:0<w.heap.size) (he:∀e,Za.query L= .inl e→e.1≠0):
 Calls Tryz.prog 27 #[.string s] w fun e w'=>∃(o:Option Addr) (n c:Nat),e= .returned (.agg #[.slice o n c,.int .i64 (mr s L:Int)])∧(mr s L=0→s.size≤96∧∃ys l1,Za.query L= .inr (ys,l1)∧cm (Za.aD [] ys) w' o n ys)∧Below w.heap.size w w':=by
 by_cases hs:96<s.size
 ·refine(Ou w s hs).mono ?_
  rintro e w' ⟨rfl,hb⟩
  have:mr s L=1:=by unfold mr;rw[if_pos hs]
  exact⟨none,0,0,by rw[this];rfl,fun q=>by omega,hb⟩
 ·refine(Sa w s L (by omega) hL hh (hl (by omega)) aW h0).mono ?_
  rintro e w' ⟨o,n,c,er,rfl,hr,hb⟩
  cases hp:Za.query L with
  | inl x=>
   obtain⟨x1,x2⟩:=x
   rw[hp]at hr
   have e1:mr s L=x1:=by unfold mr;rw[if_neg hs,hp]
   have OS:er=x1:=hr
   exact⟨o,n,c,by rw[e1,OS],fun q=>by rw[e1]at q;exact absurd q (he _ hp),hb⟩
  | inr x=>
   obtain⟨ys,l1⟩:=x
   rw[hp]at hr
   have e1:mr s L=0:=by unfold mr;rw[if_neg hs,hp]
   obtain⟨rfl,hi⟩:=hr
   exact⟨o,n,c,by rw[e1],fun _=>⟨by omega,ys,l1,rfl,hi⟩,hb⟩
theorem Oy (w:World) (sp:ByteArray) (LP:List Za.aj) (sq:ByteArray) (LQ:List Za.aj) (script:List (Int×Int)) (so:Option Addr) (sc:Nat) (hP:Za.dT sp LP) (hPh:Za.hd LP=Za.next sp 0) (hPl:sp.size≤240→LP.length≤1000) (hQ:Za.dT sq LQ) (hQh:Za.hd LQ=Za.next sq 0) (hQl:sq.size≤96→LQ.length≤1000) (aW:dM w) (h0:0<w.heap.size) (CE:Pow w) (aF:Gj sp LP sq LQ) (hsc:qE w so script) (kP:∀p∈script,(-9223372036854775808≤p.1∧p.1≤9223372036854775807)∧(-9223372036854775808≤p.2∧p.2≤9223372036854775807)):
 Calls Tryz.prog 15 #[.string sp,.string sq,.slice so script.length sc] w fun e w'=>Sb sp LP sq LQ script w e w':=by
 have hb0:=(Below.refl w.heap.size w).alloc (Nat.le_refl _) (.cells #[.int .i64 0,.slice none 0 0,.slice none 0 0,.slice none 0 0,.slice none 0 0] 32)
 have IP:=af (S7 _ sp LP hP hPh hPl (aW.below hb0 h0) (by simp) aF.pe)
 have IQ:=af (fun W (hu:Below w.heap.size w W)=>Sc W sq LQ hQ hQh hQl (aW.below hu h0) (Nat.lt_of_lt_of_le h0 hu.size) aF.qe)
 have Ju:=af (heap_alloc_new w (.cells #[.int .i64 0,.slice none 0 0,.slice none 0 0,.slice none 0 0,.slice none 0 0] 32))
 have aY:=af hb0
 have qM:=af aF
 have Em:=af CE
 have RM:=af hsc
 have zh:=af kP
 clear hb0 hP hPh hPl hQ hQh hQl aW CE aF hsc kP
 generalize UN:kq sp LP=ep at*
 generalize heq:mr sq LQ=eq at*
 have M8:=af UN
 have UO:=af heq
 clear UN heq
 go_enter Tryz.func15,Tryz.ntmps15
 go_wp2_with fail
 refine(ae IP).mono ?_
 rintro e w1 ⟨o1,n1,c1,p1,rfl,oC,hb1⟩
 have L5:=(ae aY).trans (hb1.mono (ae aY).size)
 have hz1:=(hb1.block w.heap.size (by simp)).trans (ae Ju)
 have hbA:=L5.alloc L5.size (.cells #[.slice o1 n1 c1,.int .i64 (ep:Int),.int .i64 (p1:Int)] 52)
 have hzA:=aB hz1 (.cells #[.slice o1 n1 c1,.int .i64 (ep:Int),.int .i64 (p1:Int)] 52)
 have haA:=heap_alloc_new w1 (.cells #[.slice o1 n1 c1,.int .i64 (ep:Int),.int .i64 (p1:Int)] 52)
 have IQ1:=af (ae IQ _ hbA)
 have Hz:=af oC
 have Sd:=af hzA
 have GV:=af haA
 have xQ:=af hbA
 have z1w:w.heap.size<w1.heap.size:=ag hz1
 clear oC hb1 L5 hz1 hbA hzA haA IP IQ
 go_wp2_with fail
 refine(ae IQ1).mono ?_
 rintro e w2 ⟨o2,n2,c2,rfl,jy,hb2⟩
 have uh:=(ae xQ).trans (hb2.mono (ae xQ).size)
 have hz2:=(hb2.block _ (ag (ae Sd))).trans (ae Sd)
 have ha2:=(hb2.block _ (ag (ae GV))).trans (ae GV)
 have hbB:=uh.alloc uh.size (.cells #[.slice o2 n2 c2,.int .i64 (eq:Int)] 56)
 have hzB:=aB hz2 (.cells #[.slice o2 n2 c2,.int .i64 (eq:Int)] 56)
 have haB:=aB ha2 (.cells #[.slice o2 n2 c2,.int .i64 (eq:Int)] 56)
 have hqB:=heap_alloc_new w2 (.cells #[.slice o2 n2 c2,.int .i64 (eq:Int)] 56)
 have tJ:=ag ha2
 have gf:ep=0→sp.size≤240∧∃cls l1,Za.prog 12 LP= .inr (cls,l1)∧dh (w2.alloc (.cells #[.slice o2 n2 c2,.int .i64 (eq:Int)] 56)) o1 n1 cls:=fun q=>by
  obtain⟨q1,cls,l1,q2,q3⟩:=ae Hz q
  exact⟨q1,cls,l1,q2,((eG.below ((Below.refl _ w1).alloc (Nat.le_refl _) _)).trans ((eG.below hb2).trans (eG.below ((Below.refl _ w2).alloc (Nat.le_refl _) _)))).cls q3⟩
 have UQ:eq=0→sq.size≤96∧∃ys l1,Za.query LQ= .inr (ys,l1)∧cm (Za.aD [] ys) (w2.alloc (.cells #[.slice o2 n2 c2,.int .i64 (eq:Int)] 56)) o2 n2 ys:=fun q=>by
  obtain⟨q1,ys,l1,q2,q3⟩:=jy q
  exact⟨q1,ys,l1,q2,q3.keep (aU.alloc _ _)⟩
 have vK:=af gf
 have M9:=af UQ
 generalize hw3:w2.alloc (.cells #[.slice o2 n2 c2,.int .i64 (eq:Int)] 56)=w3 at*
 have a0:=ah haB 0
 have a1:=ah haB 1
 have q0:=ah hqB 0
 have q1:=ah hqB 1
 have az:=ag haB
 have qz:=ag hqB
 have z0:=ah hzB
 have zx:=ay hzB
 have zz:=ag hzB
 simp only[List.getElem?_toArray,List.getElem?_cons_zero,List.getElem?_cons_succ]at a0 a1 q0 q1
 have oB:=af hbB
 have M6:=af hzB
 clear jy hb2 uh hz2 ha2 hbB hzB haB hqB gf UQ IQ1 Hz Sd GV xQ Ju aY
 by_cases h1:ep=0
 ·have t1:((ep:Int) != 0)=false:=by rw[h1];rfl
  have t1':((ep:Int) == 0)=true:=by rw[h1];rfl
  by_cases h2:100<script.length
  ·have t2:decide (100<(script.length:Int))=true:=by simp;omega
   have HE:=af (show (1:Nat)=(if kq sp LP≠0 then kq sp LP else if 100<script.length then 1 else mr sq LQ)by rw[ae M8,if_neg (by omega),if_pos h2])
   clear h1 h2
   go_wp2_with fail
   refine bodyPost_ret (v:= .tuple #[.agg #[.int .i64 0,.slice none 0 0,.slice none 0 0,.slice none 0 0,.slice none 0 0],.int .i64 1]) (by simp[results,Tryz.results15,go_sem,z0]) rfl ?_
   exact Or.inl ⟨1,by omega,ae HE,rfl,(((((ae oB).setCell (Nat.le_refl _) _).setCell (Nat.le_refl _) _).setCell (Nat.le_refl _) _).setCell (Nat.le_refl _) _).setCell (Nat.le_refl _) _⟩
  ·have t2:decide (100<(script.length:Int))=false:=by simp;omega
   by_cases h3:eq=0
   ·have t3:((eq:Int) != 0)=false:=by rw[h3];rfl
    have t3':((eq:Int) == 0)=true:=by rw[h3];rfl
    obtain⟨hs1,cls,l1,xR,gf⟩:=ae vK h1
    obtain⟨hs2,ys,l2,Sg,hit⟩:=ae M9 h3
    obtain⟨okp,cl12⟩:=(ae qM).p cls l1 hs1 xR
    obtain⟨okq,il6,nl,szq⟩:=(ae qM).q ys l2 hs2 Sg
    have lG:n1=cls.length:=gf.1
    subst lG
    have Sh:UG w3 cls o1 ys (Za.aD [] ys) o2 n2 script so:=⟨gf,okp,cl12,hit,okq,il6,⟨[],by simp⟩,nl,szq,fun hne=>by
     obtain⟨g,off,q1,q2,q3⟩:=ae RM hne
     exact⟨g,off,q1,Nat.lt_of_lt_of_le q2 (ae oB).size,fun i hi=>⟨((ae oB).cell (p:=⟨g,off+i*2,none⟩) q2).trans (q3 i hi).1,((ae oB).cell (p:=⟨g,off+i*2+1,none⟩) q2).trans (q3 i hi).2⟩⟩,by omega,ae zh,(ae Em).below (ae oB)⟩
    have IY:=af (Jv w3 cls o1 c1 ys (Za.aD [] ys) o2 n2 c2 script so sc Sh)
    have dE:=af (show∀(R:Value) (F:List Nat) (S0:cq) (w4 w5:World),CI (Za.aD [] ys) ys F S0→ui cls F script S0 w3.heap.size (.returned R) w4→(∀k,w3.heap.size≤k→w5.heap[k]?=w4.heap[k]?)→Below w.heap.size w w5→Sb sp LP sq LQ script w (.returned (.tuple #[R,.int .i64 0])) w5 from fun R F S0 w4 w5 k1 k2 k3 k4=>Or.inr ⟨by rw[ae M8];exact h1,by omega,by rw[ae UO];exact h3,cls,l1,ys,l2,F,S0,R,xR,Sg,k1,rfl,k2.keep (ae oB).size k3,k4⟩)
    clear h1 h2 h3 hs1 xR gf hs2 Sg hit okp cl12 okq il6 nl szq Sh vK M9
    go_wp2_with fail
    refine(ae IY).mono ?_
    rintro e w4 ⟨F,S0,rU,CT,hb4⟩
    obtain⟨en,lo,ln,lc,xo,xn,xc,go,gn,gc,yo,yn,yc,rfl⟩:=CT.five
    have Na:=(hb4.block _ zz).trans (ae M6)
    have y0:=ah Na
    have yx:=ay Na
    have yz:=ag Na
    have CG:=(ae oB).trans (hb4.mono (ae oB).size)
    have dr:=af CG
    have XU:=af CT
    have vB:=af rU
    clear Na CG hb4 CT rU IY
    go_wp2_with fail
    refine bodyPost_ret (v:= .tuple #[.agg #[.int .i64 en,.slice lo ln lc,.slice xo xn xc,.slice go gn gc,.slice yo yn yc],.int .i64 0]) (by simp[results,Tryz.results15,go_sem,y0]) rfl ?_
    refine ae dE _ F S0 w4 _ (ae vB) (ae XU) (fun k hk=> ?_) ((((((ae dr).setCell (Nat.le_refl _) _).setCell (Nat.le_refl _) _).setCell (Nat.le_refl _) _).setCell (Nat.le_refl _) _).setCell (Nat.le_refl _) _)
    have q:k≠w.heap.size:=by omega
    rw[aJ _ _ _ _ q,aJ _ _ _ _ q,aJ _ _ _ _ q,aJ _ _ _ _ q,aJ _ _ _ _ q]
   ·have t3:((eq:Int) != 0)=true:=by simp;omega
    have t3':((eq:Int) == 0)=false:=by simp;omega
    have HE:=af (show eq=(if kq sp LP≠0 then kq sp LP else if 100<script.length then 1 else mr sq LQ)by rw[ae M8,ae UO,if_neg (by omega),if_neg h2])
    have qL:=af h3
    clear h1 h2 h3 vK M9
    go_wp2_with fail
    go_region
    all_goals
     go_wp2_with fail
     refine bodyPost_ret (v:= .tuple #[.agg #[.int .i64 0,.slice none 0 0,.slice none 0 0,.slice none 0 0,.slice none 0 0],.int .i64 (eq:Int)]) (by simp[results,Tryz.results15,go_sem,z0]) rfl ?_
     exact Or.inl ⟨eq,ae qL,ae HE,rfl,by first | exact((((((ae oB).setCell (Nat.le_refl _) _).setCell (Nat.le_refl _) _).setCell (Nat.le_refl _) _).setCell (Nat.le_refl _) _).setCell (Nat.le_refl _) _).drew | exact(((((ae oB).drew.setCell (Nat.le_refl _) _).setCell (Nat.le_refl _) _).setCell (Nat.le_refl _) _).setCell (Nat.le_refl _) _).setCell (Nat.le_refl _) _⟩
 ·have t1:((ep:Int) != 0)=true:=by simp;omega
  have t1':((ep:Int) == 0)=false:=by simp;omega
  have HE:=af (show ep=(if kq sp LP≠0 then kq sp LP else if 100<script.length then 1 else mr sq LQ)by rw[ae M8,if_pos h1])
  have qL:=af h1
  clear h1 vK M9
  go_wp2_with fail
  go_region
  all_goals
   go_wp2_with fail
   refine bodyPost_ret (v:= .tuple #[.agg #[.int .i64 0,.slice none 0 0,.slice none 0 0,.slice none 0 0,.slice none 0 0],.int .i64 (ep:Int)]) (by simp[results,Tryz.results15,go_sem,z0]) rfl ?_
   exact Or.inl ⟨ep,ae qL,ae HE,rfl,by first | exact((((((ae oB).setCell (Nat.le_refl _) _).setCell (Nat.le_refl _) _).setCell (Nat.le_refl _) _).setCell (Nat.le_refl _) _).setCell (Nat.le_refl _) _).drew | exact(((((ae oB).drew.setCell (Nat.le_refl _) _).setCell (Nat.le_refl _) _).setCell (Nat.le_refl _) _).setCell (Nat.le_refl _) _).setCell (Nat.le_refl _) _⟩
end Go.Proofs.YthfjnfcekeknlaaGreatDoor
namespace Za
open Go.Proofs.YthfjnfcekeknlaaGreatDoor (dL)
def kQ (s:Nat) (N:List (List UInt8)) (items:List aH):MS:=⟨(List.range N.length).map fun k=> .v ([],s+k),items.map (MG.of fun y=> .v ([],s+N.idxOf y)),s+N.length⟩
end Za
namespace Go.Proofs.YthfjnfcekeknlaaGreatDoor
open Go.RowKit
open Za (U Vr aL)
theorem L6 {cls:List aL} {V:List Nat} {S:cq} {i:Nat} {p en:Int} (aF:∀c∈cls,Za.jK c) (h:xS V S) (hg:Jd cls S i p en):Za.Ep cls (jt V S) i p en:=by
 obtain⟨g,fj,hc⟩:=hg
 have ko:g∈S.G:=List.mem_of_getElem? fj
 have gw:=h.wf.gw g ko
 have hai:(jt V S).gs[i]?=some (eU S.fr S.T g):=by show (S.G.map _)[i]?=_;rw[List.getElem?_map,fj];rfl
 have l7:Za.bE (Za.PQ (·<S.D.length)) (S.T g.l):=(h.wf.uk gw.ll).mono fun x hx=>⟨hx.1,hx.2.1⟩
 refine⟨_,hai,?_⟩
 rcases hc with⟨hs,he,rn,hr,fy,hno⟩ | ⟨hs,rn,zn,hr,fy,hz,hw,hv⟩ | ⟨hs,he,tx,us,bj,tY,rs,r1,r2,r3⟩
 ·left
  refine⟨hs,he,fun θ=> ?_⟩
  show Za.sub θ (S.T g.l)≠Za.sub θ (cD S.T g.r)
  rw[hr,gj]
  exact hno θ
 ·right;left
  obtain⟨ew,ev⟩:=CN (T:=S.T) (op:=g.op.toList) hr (fun q=>(hz q).1)
  refine⟨hs,?_,?_⟩
  ·show (Za.dZ g.op.toList (cD S.T g.r) (cD S.T g.z)).wt=[]
   rw[ew];exact hw
  ·show (en=5∧dX g.op.toList (cD S.T g.r) (cD S.T g.z)=none)∨(en=4∧∃x,dX g.op.toList (cD S.T g.r) (cD S.T g.z)=some x∧_)
   rw[ev]
   exact hv
 ·right;right
  rw[bj]at r2 l7
  refine⟨he,_,_,⟨hs,tx,us,bj,tY,rfl,rfl⟩,fun t c ht hc=> ?_⟩
  show (Za.bY S.D.length (S.T g.l) c).1=2
  rw[bj]
  have nu:t<rs.length:=by omega
  obtain⟨q1,q2,_⟩:=uo r2 l7 aF nu hc
  rw[q1]
  unfold Za.mj at r3
  have q3:=List.any_eq_false.1 r3 rs[t] (List.getElem_mem nu)
  have q4:rs[t].1≠3:=by simpa using q3
  obtain⟨_,c',V',F',T',_,XV⟩:=r2 t rs[t] (List.getElem?_eq_getElem nu)
  rcases XV with⟨_,k,_⟩ | ⟨_,_,_,_,_,k,_⟩
  ·rcases Ap (Za.matU 8 c'.head (.n 1 tx 0 us) ⟨[],Za.Wn.none⟩).w with e | e | e<;>rw[e]at k
   ·exact absurd k q2
   ·exact k
   ·exact absurd k q4
  ·rcases Ap (Za.iR (cQ T' (V'++F') (Za.NG c')) c'.tests)with e | e | e<;>rw[e]at k
   ·exact absurd k q2
   ·exact k
   ·exact absurd k q4
theorem uY (V:List Nat) (S:cq):Za.js (jt V S).gs=cE S.fr S.G S.G.length:=by
 unfold Za.js cE jt
 dsimp only
 rw[List.length_map]
 refine List.filter_congr fun i _=> ?_
 rw[List.getElem?_map]
 cases S.G[i]? with
 | none=>rfl
 | some g=>simp[eU]
theorem Oz (V:List Nat) (S:cq):Za.yu (jt V S).gs=gJ S.fr S.G:=by
 unfold Za.yu gJ
 rw[uY]
 have:(jt V S).gs=[]↔S.G=[]:=List.map_eq_nil_iff
 by_cases q:S.G=[]
 ·rw[if_pos q,if_pos (this.2 q)]
 ·rw[if_neg q,if_neg (fun e=>q (this.1 e))]
theorem big_z:Za.big Za.zU=false:=by decide
theorem ur (T:Nat→U) (x:Int):fX T x=Za.big (cD T x):=by
 unfold fX Za.big cD
 by_cases q:x= -1
 ·rw[if_pos q,decide_eq_false (fun e=>e.1 q)];exact big_z.symm
 ·rw[if_neg q]
  exact decide_eq_decide.2 ⟨fun e=>e.2,fun e=>⟨q,e⟩⟩
theorem ED {V:List Nat} {S:cq} (h:xS V S):Za.qD (jt V S)=mU V S:=by
 unfold Za.qD mU jt
 dsimp only
 rw[List.length_map,List.any_map,List.any_map,List.any_map]
 have e1:V.any (Za.big∘S.T)=V.any (fX S.T∘fun n:Nat=>(n:Int)):=by
  congr 1
  funext v
  show Za.big (S.T v)=fX S.T (v:Int)
  rw[ur,gj]
 have e2:S.G.any (Za.lp∘eU S.fr S.T)=S.G.any (jr S.D S.fr S.T):=by
  have key:∀g∈S.G,Za.lp (eU S.fr S.T g)=jr S.D S.fr S.T g:=fun g hg=>by
   have gw:=h.wf.gw g hg
   unfold Za.lp jr iT
   by_cases q:g.sg.toList=[]
   ·rw[if_pos (show (eU S.fr S.T g).sg=[]from q),if_pos q]
    have hf:=h.wf.ok.lt gw.ll
    rw[List.getElem?_eq_getElem hf]
    dsimp only[Option.elim]
    rw[List.any_map]
    have ht:=h.wf.sto.tr g.l
    have ea:Za.ga (aX S.D) (S.fr g.l)=S.D[S.fr g.l].args:=jS hf
    show (match S.T g.l with
     | .v _=>false
     | .n _ _ _ us=>us.any Za.big)=_
    generalize S.T g.l=x at ht
    cases ht with
    | var h1 h2=>rw[←ea,h2];rfl
    | @node _ k tx num us h1 h2 h3=>
     dsimp only
     rw[ea]at h2 h3
     have eu:us=S.D[S.fr g.l].args.map S.T:=by
      apply List.ext_getElem (by rw[List.length_map,h2])
      intro j j1 j2
      rw[List.getElem_map]
      have ja:j<S.D[S.fr g.l].args.length:=by simpa using j2
      exact(h3 j _ _ (List.getElem?_eq_getElem ja) (List.getElem?_eq_getElem j1)).one (h.wf.sto.tr _)
     rw[eu,List.any_map]
     congr 1
     funext v
     show Za.big (S.T v)=fX S.T (v:Int)
     rw[ur,gj]
   ·rw[if_neg (show¬(eU S.fr S.T g).sg=[]from q),if_neg q]
    show (Za.big (S.T g.l)||Za.big (cD S.T g.r)||Za.big (cD S.T g.z))=_
    simp only[List.any_cons,List.any_nil,Bool.or_false,ur,gj,Bool.or_assoc]
  have:∀l:List Gl,(∀g∈l,g∈S.G)→l.any (Za.lp∘eU S.fr S.T)=l.any (jr S.D S.fr S.T):=by
   intro l
   induction l with
   | nil=>intro _;rfl
   | cons g l ih=>
    intro hl
    rw[List.any_cons,List.any_cons,ih (fun x hx=>hl x (by simp[hx]))]
    show (Za.lp (eU S.fr S.T g)||_)=_
    rw[key g (hl g (by simp))]
  exact this S.G fun g hg=>hg
 rw[e1,e2]
theorem EE (T:Nat→U) (V:List Nat):Za.kF (V.map T)=eP T V:=by
 unfold Za.kF eP
 rw[List.foldl_map]
 rfl
theorem OA {V:List Nat} {S:cq} (h:xS V S) (N:List Vr):Za.wJ N (jt V S).gs=kE S.T N S.G:=by
 have nz:∀(N:List Vr) (x:Int),Za.ba N (cD S.T x)=iD S.T N x:=fun N x=>by
  unfold cD iD
  by_cases q:x= -1
  ·rw[if_pos q,if_pos q];rfl
  ·rw[if_neg q,if_neg q]
 have key:∀g∈S.G,∀a,Za.nk a (eU S.fr S.T g)=stepG S.T a g:=fun g hg a=>by
  have gw:=h.wf.gw g hg
  have en:∀N,Za.jM N (eU S.fr S.T g)=Jj S.T N g:=fun N=>by
   unfold Za.jM Jj
   show Za.ba (Za.ba (Za.ba N (S.T g.l)) (cD S.T g.r)) (cD S.T g.z)=_
   rw[nz,nz]
   have:iD S.T N (g.l:Int)=Za.ba N (S.T g.l):=by rw[←nz,gj]
   rw[this]
  have et:∀N,Za.uT N (eU S.fr S.T g)=Eo S.T N g:=fun N=>by
   unfold Za.uT Eo
   show Za.mW (Za.bU Lib.itoa N (S.T g.l)) g.sg.toList (Za.bU Lib.itoa N (cD S.T g.r)) g.op.toList (Za.bU Lib.itoa N (cD S.T g.z))=_
   unfold Za.mW
   by_cases q:g.sg.toList=[]
   ·rw[if_pos q,if_pos q]
   ·rw[if_neg q,if_neg q]
    obtain⟨n,hn,_⟩:=gw.rr q
    have e1:cD S.T g.r=S.T g.r.toNat:=by rw[hn,gj];rfl
    rw[e1]
    by_cases o:g.op.toList=[]
    ·rw[if_pos o,if_pos o]
    ·rw[if_neg o,if_neg o]
     obtain⟨m,hm,_⟩:=gw.zz o
     have e2:cD S.T g.z=S.T g.z.toNat:=by rw[hm,gj];rfl
     rw[e2]
  unfold Za.nk stepG
  rw[en,et]
 unfold Za.wJ kE jt
 dsimp only
 rw[List.foldl_map]
 have:∀(l:List Gl) (a:List (List UInt8)×List Vr),(∀g∈l,g∈S.G)→l.foldl (fun x y=>Za.nk x (eU S.fr S.T y)) a=l.foldl (stepG S.T) a:=by
  intro l
  induction l with
  | nil=>intro a _;rfl
  | cons g l ih=>
   intro a hl
   rw[List.foldl_cons,List.foldl_cons,key g (hl g (by simp))]
   exact ih _ fun x hx=>hl x (by simp[hx])
 exact this S.G _ fun g hg=>hg
theorem CY {cls:List aL} {V:List Nat} {script:List (Int×Int)} {S0:cq} (aF:∀c∈cls,Za.jK c) (h0:xS V S0) {j:Nat} {S:cq} {L:List Int} (h:yE cls V script S0 j S L):Za.nY cls script (jt V S0) j (jt V S) L∧xS V S:=by
 induction h with
 | start=>exact⟨.start,h0⟩
 | @step j S S' L pg pc z i h hs hi hg hl ih=>
  obtain⟨i1,i2⟩:=ih
  obtain⟨k1,k2⟩:=CO aF i2 hg
  exact⟨.step i1 hs (by rw[uY];exact hi) k1 (by rw[ED k2];exact hl),k2⟩
theorem Jz {items:List Za.aH} {F:List Nat} {S:cq} (h:CI (Za.aD [] items) items F S) (hi:∀x∈items,Za.i7 x):xS F S∧Za.eQ (fun k=>(F[k - 1]?).getD 0) (fun k=>1≤k∧k<1+(Za.aD [] items).length) (Za.kQ 1 (Za.aD [] items) items) (jt F S):=by
 have dK:=h.gl
 have vH:∀{xs:List Za.aH} {gs:List Gl},bR (mH S.T S.D.length (cQ S.T F (Za.aD [] items))) xs gs→(∀x∈xs,Za.i7 x)→∀g∈gs,ml S.T S.D.length g∧g.nd=[]:=by
  intro xs
  induction xs with
  | nil=>
   intro gs ha _ g hg
   cases gs with
   | nil=>cases hg
   | cons y ys=>exact ha.elim
  | cons x xs ih=>
   intro gs ha hx g hg
   cases gs with
   | nil=>cases hg
   | cons y ys=>
    rcases List.mem_cons.1 hg with q | q
    ·rw[q];exact⟨ha.1.gw (hx x (by simp)),ha.1.nd⟩
    ·exact ih ha.2 (fun z hz=>hx z (by simp[hz])) g q
 have hv:∀f∈F,S.T f= .v ([],f):=fun f hf=>(pE (D:=[]) (E:=S.D) (by rw[List.nil_append];exact h.ok) (by rw[List.nil_append];exact h.sto) h.nd h.nv f hf).2.2
 have hF:∀k (hk:k<F.length),(F[(1+k) - 1]?).getD 0=F[k]:=fun k hk=>by
  rw[Nat.add_sub_cancel_left,List.getElem?_eq_getElem hk];rfl
 refine⟨⟨⟨h.sto,h.ok,fun g hg=>(vH dK hi g hg).1,fun g hg v hv=>(by rw[(vH dK hi g hg).2]at hv;cases hv)⟩,fun g hg v hv=>(by rw[(vH dK hi g hg).2]at hv;cases hv),h.lt⟩,⟨fun i j hPi hPj Jp=> ?_,fun k hk=>hk.2,fun k hk=> ?_,fun u hu=> ?_,fun g hg=> ?_,?_,?_⟩⟩
 ·have jm:=h.ln
  show (F[i - 1]?).getD 0<(F[j - 1]?).getD 0
  rw[List.getElem?_eq_getElem (show i - 1<F.length by omega),List.getElem?_eq_getElem (show j - 1<F.length by omega)]
  exact List.pairwise_iff_getElem.1 h.nv.ord _ _ _ _ (by omega)
 ·have jm:=h.ln
  show (F[k - 1]?).getD 0<S.D.length
  rw[List.getElem?_eq_getElem (show k - 1<F.length by omega)]
  exact h.lt _ (List.getElem_mem _)
 ·obtain⟨k,hk,rfl⟩:=List.mem_map.1 hu
  have:=List.mem_range.1 hk
  exact .v ⟨rfl,by show 1≤1+k;omega,by show 1+k<_;omega⟩
 ·obtain⟨x,hx,rfl⟩:=List.mem_map.1 hg
  obtain⟨ns,hn⟩:=Za.fx items [] x hx
  refine Za.MX (hi x hx).ok ns fun y hy=> .v ⟨rfl,by show 1≤1+_;omega,?_⟩
  have:=List.idxOf_lt_length_of_mem (hn y hy)
  show 1+(Za.aD [] items).idxOf y<_
  omega
 ·show F.map S.T=((List.range _).map _).map _
  rw[List.map_map]
  apply List.ext_getElem (by simp[h.ln])
  intro k k1 k2
  have hk:k<F.length:=by simpa using k1
  rw[List.getElem_map,List.getElem_map,List.getElem_range,hv _ (List.getElem_mem hk)]
  show U.v ([],F[k])= .v ([],(F[(1+k) - 1]?).getD 0)
  rw[hF k hk]
 ·show S.G.map _=(items.map _).map _
  rw[List.map_map]
  refine wL dK fun x hx y hy=> ?_
  rw[Ew hy (hi x hx).ok]
  obtain⟨ns,hn⟩:=Za.fx items [] x hx
  refine Za.Jo (hi x hx).ok ns fun w hw=> ?_
  have vL:=List.idxOf_lt_length_of_mem (hn w hw)
  have hk:(Za.aD [] items).idxOf w<F.length:=by rw[h.ln];exact vL
  show cQ S.T F (Za.aD [] items) w=U.v ([],(F[(1+(Za.aD [] items).idxOf w) - 1]?).getD 0)
  rw[hF _ hk]
  unfold cQ
  rw[List.getElem?_eq_getElem hk]
  exact hv _ (List.getElem_mem hk)
end Go.Proofs.YthfjnfcekeknlaaGreatDoor
namespace Za
theorem qp (sd:Nat):∀(f:Nat) (t:Tm) (ns:List (List UInt8)),wfK f t→(namesF f ns t).length≤ns.length+size (pQ f sd t)
 | f+1,t,ns,hw=>by
  unfold namesF pQ bJ
  by_cases k3:t.kind=3
  ·rw[if_pos k3,if_pos k3]
   rw[size]
   unfold eK
   split
   ·omega
   ·simp
  ·rw[if_neg k3,if_neg k3]
   by_cases k4:t.kind=4
   ·rw[if_pos k4,if_pos k4];omega
   ·rw[if_neg k4,if_neg k4,size]
    have key:∀(ts:List Tm) (ns:List (List UInt8)),(∀u∈ts,wfK f u)→(ts.foldl (namesF f) ns).length≤ns.length+sizeL (ts.map (bJ (fun x=> .v (x,sd)) f)):=by
     intro ts
     induction ts with
     | nil=>intro ns _;simp[sizeL]
     | cons u ts ih=>
      intro ns hu
      have h1:=qp sd f u ns (hu u (by simp))
      have h2:=ih (namesF f ns u) (fun v hv=>hu v (by simp[hv]))
      rw[List.foldl_cons,List.map_cons,sizeL]
      unfold pQ at h1
      omega
    have:=key t.args ns hw.2.2.2
    omega
theorem Gk {x:aH} {ns:List (List UInt8)} (hl:wfK 8 x.left) (hr:∀r,x.right=some r→wfK 8 r) (hz:∀z,x.last=some z→wfK 8 z):(aQ ns x).length≤ns.length+zS x:=by
 have h1:=qp 0 8 x.left ns hl
 unfold aQ zS jz
 have nO:∀(o:Option Tm) (ns:List (List UInt8)),(∀r,o=some r→wfK 8 r)→(cG ns o).length≤ns.length+o.elim 0 (fun t=>size (pQ 8 0 t)):=fun o ns ho=>by
  cases o with
  | none=>simp[cG]
  | some r=>exact qp 0 8 r ns (ho r rfl)
 have h2:=nO x.right (namesF 8 ns x.left) hr
 have h3:=nO x.last (cG (namesF 8 ns x.left) x.right) hz
 omega
theorem namesL_lsz:∀(xs:List aH) (ns:List (List UInt8)),(∀x∈xs,wfK 8 x.left∧(∀r,x.right=some r→wfK 8 r)∧(∀z,x.last=some z→wfK 8 z))→(aD ns xs).length≤ns.length+oF xs
 | [],ns,_=>by simp[aD,oF]
 | x :: xs,ns,h=>by
  have h0:=h x (by simp)
  have h1:=Gk (ns:=ns) h0.1 h0.2.1 h0.2.2
  have h2:=namesL_lsz xs (aQ ns x) (fun y hy=>h y (by simp[hy]))
  rw[qy]
  have:oF (x :: xs)=zS x+oF xs:=by simp[oF]
  omega
theorem iG.wf {x:aH} (h:iG x):wfK 8 x.left∧(∀r,x.right=some r→wfK 8 r)∧(∀z,x.last=some z→wfK 8 z):=⟨h.wl,h.wr,fun z q=>by rw[h.la]at q;cases q⟩
theorem i7.wf {x:aH} (h:i7 x):wfK 8 x.left∧(∀r,x.right=some r→wfK 8 r)∧(∀z,x.last=some z→wfK 8 z):=by
 refine⟨h.ok.wl,fun r q=> ?_,fun z q=> ?_⟩
 ·by_cases k:x.sign=[]
  ·rw[h.ok.r0 k]at q;cases q
  ·obtain⟨r',e,w⟩:=h.ok.r1 k
   rw[e]at q;cases q;exact w
 ·by_cases k:x.op=[]
  ·rw[h.ok.z0 k]at q;cases q
  ·obtain⟨r',e,w⟩:=h.ok.z1 k
   rw[e]at q;cases q;exact w
theorem Gm {θ:Vr→U} (h:∀x,size (θ x)=1):∀u,size (sub θ u)=size u:=by
 refine U.ind (fun x=> ?_) (fun k tx num ss ih=> ?_)
 ·rw[sub,h,size]
 ·rw[dR,size,size]
  have key:∀(ss:List U),(∀a∈ss,size (sub θ a)=size a)→sizeL (ss.map (sub θ))=sizeL ss:=by
   intro ss
   induction ss with
   | nil=>intro _;rfl
   | cons a ss ih2=>
    intro hs
    rw[List.map_cons,sizeL,sizeL,hs a (by simp),ih2 (fun b hb=>hs b (by simp[hb]))]
  rw[key ss ih]
theorem yH {η:List UInt8→U} {t:Tm} (hw:wfK 8 t) (ns:List (List UInt8)) (h:∀y∈namesF 8 ns t,size (η y)=1):size (bJ η 8 t)=jz t:=by
 rw[ik (θ:=fun y=>if y∈namesF 8 ns t then η y else .v ([],0)) 8 t ns hw (fun y hy=>(if_pos hy).symm),uD _ 0 8 t hw]
 refine Gm (fun x=> ?_) _
 split
 ·rename_i q;exact h _ q
 ·rfl
theorem Si {x:aH} {xs:List aH} (h:x∈xs):zS x≤oF xs:=by
 unfold oF
 induction xs with
 | nil=>cases h
 | cons y ys ih=>
  rw[List.map_cons,List.sum_cons]
  rcases List.mem_cons.1 h with rfl | h
  ·omega
  ·have:=ih h;omega
theorem JB {f:Nat} {l l1:List aj} {t:Tm} (h:term f l= .inr (t,l1)):t.kind=(hd l).kind:=by
 cases f with
 | zero=>unfold term at h;split at h<;>cases h
 | succ f=>
  unfold term at h
  split at h
  ·split at h
   ·cases h
   ·split at h
    ·rename_i k
     split at h
     ·cases hq:bM (term f) 2 l.tail.tail with
      | inl e=>rw[hq]at h;cases h
      | inr q=>rw[hq]at h;cases h;exact k.symm
     ·cases h;exact k.symm
    ·cases h;rfl
  ·cases h
theorem OB {l l2:List aj} {ts gs:List aH} (h:body l= .inr ((ts,gs),l2)):(∀x∈ts,iG x)∧(∀x∈gs,i7 x)∧ts.length≤6∧gs.length≤6∧oF ts+oF gs+l2.length≤l.length:=by
 unfold body at h
 cases hq:items 5 true true l with
 | inl e=>rw[hq]at h;cases h
 | inr q=>
  obtain⟨⟨xs,t,g⟩,l1⟩:=q
  rw[hq]at h
  dsimp only at h
  obtain⟨h1,h2,h3,h4,h5⟩:=items_is _ _ _ _ _ _ _ _ hq
  split at h
  ·rename_i ht
   have s2:=dO ht.2
   cases jy:items 5 false true l1.tail with
   | inl e=>rw[jy]at h;cases h
   | inr q2=>
    obtain⟨⟨ys,t2,g2⟩,l3⟩:=q2
    rw[jy]at h
    dsimp only at h
    obtain⟨k1,k2,k3,k4,k5⟩:=items_is _ _ _ _ _ _ _ _ jy
    split at h
    ·rename_i hg
     cases h
     exact⟨(h1 ht.1).2,(k2 hg).2,h5,k5,by omega⟩
    ·cases h
  ·split at h
   ·rename_i hg
    cases h
    refine⟨(fun x hx=>by cases hx),(h2 hg).2,by simp,h5,?_⟩
    have:oF []=0:=rfl
    omega
   ·cases h
theorem zT {b:Bool} {l l1:List aj} {c:aL} (h:clause b l= .inr (c,l1)) (hl:l.length≤1000):b=true∧(c.tests=[]→jK c)∧(∀x∈c.goals,i7 x)∧l1.length≤l.length:=by
 unfold clause at h
 split at h
 ·rename_i hk
  split at h
  ·rename_i hb
   cases hq:term 8 l with
   | inl e=>rw[hq]at h;cases h
   | inr q=>
    obtain⟨t,l2⟩:=q
    rw[hq]at h
    dsimp only at h
    have wt:=wfK_term 8 l t l2 hq
    have st:=rP hq
    have kt:=(JB hq).trans hk
    have hh:(namesF 8 [] t).length≤jz t:=by have:=qp 0 8 t [] wt;simpa [jz] using this
    have stop_is:∀{x:aL} {l3:List aj},stop x l3= .inr (c,l1)→c=x∧l1.length≤l3.length:=fun {x l3} q=>by
     unfold stop at q
     split at q
     ·cases q
      exact⟨rfl,by rw[List.length_tail];omega⟩
     ·cases q
    split at h
    ·rename_i hs
     have s2:=dO hs
     cases jy:body l2.tail with
     | inl e=>rw[jy]at h;cases h
     | inr q2=>
      obtain⟨⟨ts,gs⟩,l3⟩:=q2
      rw[jy]at h
      obtain⟨k1,k2,k3,k4,k5⟩:=OB jy
      obtain⟨rfl,jE⟩:=stop_is h
      refine⟨hb,fun h0=>⟨kt,wt,k1,k3,fun x hx=>(k2 x hx).ok,k4,?_,h0⟩,k2,by omega⟩
      have n1:=namesL_lsz ts (namesF 8 [] t) (fun x hx=>(k1 x hx).wf)
      have n2:=namesL_lsz gs (aD (namesF 8 [] t) ts) (fun x hx=>(k2 x hx).wf)
      show (aD (aD (namesF 8 [] t) ts) gs).length≤100000
      omega
    ·obtain⟨rfl,jE⟩:=stop_is h
     refine⟨hb,fun h0=>⟨kt,wt,(fun x hx=>by cases hx),by simp,(fun x hx=>by cases hx),by simp,?_,h0⟩,(fun x hx=>by cases hx),by omega⟩
     show (namesF 8 [] t).length≤100000
     omega
  ·cases h
 ·cases h
theorem prog_is:∀(k:Nat) (l l1:List aj) (cls:List aL),prog k l= .inr (cls,l1)→l.length≤1000→(∀c∈cls,(c.tests=[]→jK c)∧∀x∈c.goals,i7 x)∧cls.length≤k:=by
 intro k
 induction k with
 | zero=>
  intro l l1 cls h hl
  unfold prog at h
  split at h
  ·cases h
   exact⟨(fun c hc=>by cases hc),by simp⟩
  ·cases hq:clause false l with
   | inl e=>rw[hq]at h;cases h
   | inr q=>
    have:=(zT (c:=q.1) (l1:=q.2) hq hl).1
    cases this
 | succ k ih=>
  intro l l1 cls h hl
  unfold prog at h
  split at h
  ·cases h
   exact⟨(fun c hc=>by cases hc),by simp⟩
  ·cases hq:clause true l with
   | inl e=>rw[hq]at h;cases h
   | inr q=>
    obtain⟨c,l2⟩:=q
    rw[hq]at h
    dsimp only at h
    obtain⟨_,h1,h2,h3⟩:=zT hq hl
    cases jy:prog k l2 with
    | inl e=>rw[jy]at h;cases h
    | inr q2=>
     obtain⟨cs,l3⟩:=q2
     rw[jy]at h
     cases h
     obtain⟨k1,k2⟩:=ih l2 l1 cs jy (by omega)
     refine⟨fun d hd=> ?_,by simp;omega⟩
     rcases List.mem_cons.1 hd with rfl | hd
     ·exact⟨h1,h2⟩
     ·exact k1 d hd
end Za
namespace Go.Proofs.YthfjnfcekeknlaaGreatDoor
open Go.RowKit
theorem S9 {sp:ByteArray} {LP:List Za.aj} {sq:ByteArray} {LQ:List Za.aj} (hPl:sp.size≤240→LP.length≤1000) (hQ:Za.dT sq LQ) (hQh:Za.hd LQ=Za.next sq 0) (ht:∀cls l,Za.prog 12 LP= .inr (cls,l)→∀c∈cls,c.tests=[]):Gj sp LP sq LQ:=by
 refine⟨Za.nz_prog 12 LP,Za.L3 LQ,fun cls l hs h=>⟨fun c hc=>⟨((Za.prog_is 12 LP l cls h (hPl hs)).1 c hc).1 (ht cls l h c hc),((Za.prog_is 12 LP l cls h (hPl hs)).1 c hc).2⟩,(Za.prog_is 12 LP l cls h (hPl hs)).2⟩,fun ys l hs h=> ?_⟩
 have hlen:LQ.length≤97:=by have:=Za.dT.len sq.size 0 LQ hQ hQh (by omega);omega
 unfold Za.query at h
 cases hq:Za.items 5 false true LQ with
 | inl e=>rw[hq]at h;cases h
 | inr q=>
  obtain⟨⟨xs,t,g⟩,l1⟩:=q
  rw[hq]at h
  dsimp only at h
  obtain⟨h1,h2,h3,h4,h5⟩:=Za.items_is _ _ _ _ _ _ _ _ hq
  split at h
  ·cases h
   have dK:=(h2 (h3 rfl rfl)).2
   have hn:=Za.namesL_lsz ys [] (fun x hx=>(dK x hx).wf)
   simp only[List.length_nil,Nat.zero_add]at hn
   refine⟨dK,h5,by omega,fun x hx η hη=> ?_⟩
   have hi:=Za.Si hx
   have wf:=(dK x hx).wf
   obtain⟨ns',hs'⟩:=Za.fx ys [] x hx
   unfold Za.zS at hi
   have eL:∀y∈Za.namesF 8 ns' x.left,Za.size (η y)=1:=fun y hy=>hη y (hs' y (by
    obtain⟨K1,e1⟩:=lK x.right (Za.namesF 8 ns' x.left)
    obtain⟨K2,e2⟩:=lK x.last (Za.cG (Za.namesF 8 ns' x.left) x.right)
    unfold Za.aQ
    rw[e2,e1]
    simp[hy]))
   refine⟨by rw[Za.yH wf.1 ns' eL];omega,fun r q=> ?_,fun z q=> ?_⟩
   ·rw[Za.yH (wf.2.1 r q) (Za.namesF 8 ns' x.left) (fun y hy=>hη y (hs' y (by
     obtain⟨K2,e2⟩:=lK x.last (Za.cG (Za.namesF 8 ns' x.left) x.right)
     unfold Za.aQ
     rw[e2,q]
     exact List.mem_append_left _ hy)))]
    rw[q]at hi
    simp only[Option.elim]at hi
    omega
   ·rw[Za.yH (wf.2.2 z q) (Za.cG (Za.namesF 8 ns' x.left) x.right) (fun y hy=>hη y (hs' y (by
     unfold Za.aQ
     rw[q]
     exact hy)))]
    rw[q]at hi
    simp only[Option.elim]at hi
    omega
  ·cases h
end Go.Proofs.YthfjnfcekeknlaaGreatDoor
namespace Go.Proofs.YthfjnfcekeknlaaGreatDoor
open Go.RowKit
open Za (U Vr aL)
def CZ (w:World) (b:Nat) (R:Value) (en:Int) (log:List Int) (vals gols:List (List UInt8)) (wts:List Bool):Prop:=
 ∃(lo:Option Addr) (lc:Nat) (xo:Option Addr) (xc:Nat) (go:Option Addr) (gc:Nat) (yo:Option Addr) (yc:Nat),R= .agg #[.int .i64 en,.slice lo log.length lc,.slice xo vals.length xc,.slice go gols.length gc,.slice yo wts.length yc]∧w.ownsRow b 3 1 (.slice lo log.length lc) log.length (log.map fU)∧w.ownsRow b 9 1 (.slice xo vals.length xc) vals.length (vals.map iB)∧w.ownsRow b 9 1 (.slice go gols.length gc) gols.length (gols.map iB)∧w.ownsRow b 4 1 (.slice yo wts.length yc) wts.length (wts.map fun b=> .bool b)∧(∀k,rowOf xo k→¬rowOf go k)
theorem OC {cls:List aL} {F:List Nat} {script:List (Int×Int)} {S0:cq} {b:Nat} {R:Value} {w':World} (aF:∀c∈cls,Za.jK c) (h0:xS F S0) (h:ui cls F script S0 b (.returned R) w'):∃en log vals gols wts,Za.rJ cls script (jt F S0) en log vals gols wts∧CZ w' b R en log vals gols wts:=by
 obtain⟨j,S,L,lo,lc,h1,⟨h2,xo,xc,go,gc,yo,yc,h3,h4,h5,h6,h7,h8⟩ | ⟨pg,pc,i,en,z,h2,h3,h4,h5,h6⟩⟩:=h
 ·obtain⟨m1,m2⟩:=CY aF h0 h1
  refine⟨_,L,(eP S.T F).1,(kE S.T (eP S.T F).2 S.G).1,S.G.map (fun g=> !gh S.fr g),⟨j,_,L,m1,Or.inl ⟨by rw[uY];exact h2,(Oz F S).symm,rfl,?_,?_,?_⟩⟩,⟨lo,lc,xo,xc,go,gc,yo,yc,?_,h4,?_,?_,?_,h8⟩⟩
  ·show _=(Za.kF (F.map S.T)).1
   rw[EE]
  ·show _=(Za.wJ (Za.kF (F.map S.T)).2 (jt F S).gs).1
   rw[EE,OA m2]
  ·show _=(S.G.map _).map _
   rw[List.map_map]
   rfl
  ·injection h3 with h3
   rw[h3,Cw,Cx,List.length_map]
  ·rw[Cw];exact h5
  ·rw[Cx];exact h6
  ·rw[List.length_map,List.map_map];exact h7
 ·obtain⟨m1,m2⟩:=CY aF h0 h1
  refine⟨en,L++[z],[],[],[],⟨j,_,L,m1,Or.inr ⟨pg,pc,i,z,h2,by rw[uY];exact h3,?_,rfl,rfl,rfl,rfl⟩⟩,⟨lo,lc,none,0,none,0,none,0,?_,h6,World.ownsRow_nil _ _ _ _,World.ownsRow_nil _ _ _ _,World.ownsRow_nil _ _ _ _,(fun k ⟨_,q,_⟩=>by cases q)⟩⟩
  ·rcases h4 with⟨k1,_,k3⟩ | ⟨k1,S',k2,k3⟩
   ·exact Or.inl ⟨L6 aF m2 k1,k3⟩
   ·obtain⟨q1,q2⟩:=CO aF m2 k2
    exact Or.inr ⟨k1,_,q1,by rw[ED q2];exact k3⟩
  ·injection h5
def Sj (sp:ByteArray) (LP:List Za.aj) (sq:ByteArray) (LQ:List Za.aj) (script:List (Int×Int)) (w:World) (e:Ending) (w':World):Prop:=
 (∃er:Nat,er≠0∧er=(if kq sp LP≠0 then kq sp LP else if 100<script.length then 1 else mr sq LQ)∧e= .returned (.tuple #[.agg #[.int .i64 0,.slice none 0 0,.slice none 0 0,.slice none 0 0,.slice none 0 0],.int .i64 (er:Int)])∧Below w.heap.size w w')∨
 (kq sp LP=0∧script.length≤100∧mr sq LQ=0∧∃(cls:List aL) (l1:List Za.aj) (ys:List Za.aH) (l2:List Za.aj) (R:Value),Za.prog 12 LP= .inr (cls,l1)∧Za.query LQ= .inr (ys,l2)∧(∀c∈cls,Za.jK c)∧(∀x∈ys,Za.i7 x)∧e= .returned (.tuple #[R,.int .i64 0])∧Below w.heap.size w w'∧∃(r:Nat→Nat) (P:Nat→Prop) (S0:Za.MS) (en:Int) (log:List Int) (vals gols:List (List UInt8)) (wts:List Bool),Za.eQ r P (Za.kQ 1 (Za.aD [] ys) ys) S0∧Za.rJ cls script S0 en log vals gols wts∧CZ w' w.heap.size R en log vals gols wts)
theorem OD {sp:ByteArray} {LP:List Za.aj} {sq:ByteArray} {LQ:List Za.aj} {script:List (Int×Int)} {w:World} {e:Ending} {w':World} (aF:Gj sp LP sq LQ) (h:Sb sp LP sq LQ script w e w'):Sj sp LP sq LQ script w e w':=by
 rcases h with h | ⟨h1,h2,h3,cls,l1,ys,l2,F,S0,R,h4,h5,h6,h7,h8,h9⟩
 ·exact Or.inl h
 ·have hsp:sp.size≤240:=by
   unfold kq at h1
   split at h1
   ·cases h1
   ·omega
  have XW:sq.size≤96:=by
   unfold mr at h3
   split at h3
   ·cases h3
   ·omega
  have hk:∀c∈cls,Za.jK c:=fun c hc=>((aF.p cls l1 hsp h4).1 c hc).1
  have hy:=(aF.q ys l2 XW h5).1
  obtain⟨p1,p2⟩:=Jz h6 hy
  obtain⟨en,log,vals,gols,wts,q1,q2⟩:=OC hk p1 h8
  exact Or.inr ⟨h1,h2,h3,cls,l1,ys,l2,R,h4,h5,hk,hy,h7,h9,_,_,_,en,log,vals,gols,wts,p2,q1,q2⟩
theorem Sj.ends {sp:ByteArray} {LP:List Za.aj} {sq:ByteArray} {LQ:List Za.aj} {script:List (Int×Int)} {w:World} {e:Ending} {w':World} (h:Sj sp LP sq LQ script w e w') {cls:List aL} {l1:List Za.aj} {ys:List Za.aH} {l2:List Za.aj} (hp:kq sp LP=0) (hs:script.length≤100) (hq:mr sq LQ=0) (hc:Za.prog 12 LP= .inr (cls,l1)) (hy:Za.query LQ= .inr (ys,l2)) {en:Int} {log:List Int} {vals gols:List (List UInt8)} {wts:List Bool} (he:Za.rJ cls script (Za.kQ 1 (Za.aD [] ys) ys) en log vals gols wts):∃R,e= .returned (.tuple #[R,.int .i64 0])∧CZ w' w.heap.size R en log vals gols wts∧Below w.heap.size w w':=by
 rcases h with⟨er,h1,h2,_⟩ | ⟨h1,h2,h3,cls',l1',ys',l2',R,h4,h5,hk,hg,h7,h9,r,P,S0,en',log',vals',gols',wts',q1,q2,q3⟩
 ·exfalso
  rw[hp,hq]at h2
  rw[if_neg (by simp),if_neg (by omega)]at h2
  exact h1 h2
 ·rw[hc]at h4
  rw[hy]at h5
  cases h4
  cases h5
  obtain⟨rfl,rfl,rfl,rfl,rfl⟩:=he.same hk q1 q2
  exact⟨R,h7,q3,h9⟩
end Go.Proofs.YthfjnfcekeknlaaGreatDoor
