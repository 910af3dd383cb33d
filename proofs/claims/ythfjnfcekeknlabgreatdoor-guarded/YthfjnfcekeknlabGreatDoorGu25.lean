import Derived.Test.YthfjnfcekeknlabGreatDoorGu19
import Derived.Test.YthfjnfcekeknlabGreatDoorGu24
import Derived.Deep.LoopGhost
import Derived.Maps.AppendAt
import Derived.OwnWalk
set_option maxHeartbeats 8000000
set_option maxRecDepth 100000
namespace Zf
def yE (tx:List UInt8) (m:Nat) (c:aI):Bool:=decide (c.head.text.toList=tx)&&decide (c.head.args.length=m)
def bM (cls:List aI) (tx:List UInt8) (m j:Nat):List Nat:=(List.range j).filter fun i=>match cls[i]? with
 | some c=>yE tx m c
 | none=>false
theorem Jz (cls:List aI) (tx:List UInt8) (m j:Nat) (h:j<cls.length):bM cls tx m (j+1)=bM cls tx m j++(if yE tx m cls[j]=true then [j]else []):=by
 unfold bM
 rw[List.range_succ,List.filter_append]
 congr 1
 simp only[List.filter_cons,List.filter_nil,List.getElem?_eq_getElem h]
theorem CI (cls:List aI) (tx:List UInt8) (m j:Nat):(bM cls tx m j).length≤j:=by
 have:=List.length_filter_le (fun i=>match cls[i]? with
  | some c=>yE tx m c
  | none=>false) (List.range j)
 rwa [List.length_range]at this
end Zf
namespace Go.Proofs.YthfjnfcekeknlabGreatDoor
open Go.RowKit
def UX (w:World) (cls:List Zf.aI) (tx:List UInt8) (m:Nat) (L:Array Value) (k:Nat) (av iv:Value) (wr:World):Prop:=
 ∃j:Nat,k+j=cls.length∧iv= .int .i64 (j:Int)∧wr.ownsRow (w.heap.size+1) 3 1 av (Zf.bM cls tx m j).length ((Zf.bM cls tx m j).map aJ)∧Below w.heap.size w wr∧wr.heap[w.heap.size]?=some (.cells L 144 (0,0))
theorem Ap (w:World) (mb:Nat) (cs:Array Value) (D:List Ng) (nO:Option Addr) (nC:Nat) (fr:Nat→Nat) (n:Nat) (d:Ng) (cls:List Zf.aI) (clo:Option Addr) (clc:Nat) (hs:bG w mb 1 cs 88 D nO nC) (hok:bZ D fr) (hn:n<D.length) (hd:D[fr n]?=some d) (hk:d.k=3) (h0:cs[0]?=some (.slice clo cls.length clc)) (hcl:dh w clo cls.length cls) (hkc:∀c∈cls,c.head.kind=2) (hl:cls.length≤12):
 Calls Tryz.prog 158 #[.pointer (some ⟨mb,0,none⟩),.int .i64 (n:Int)] w fun e w'=>∃oo oc,e= .returned (.slice oo (Zf.bM cls d.tx.toList d.args.length cls.length).length oc)∧w'.ownsRow w.heap.size 3 1 (.slice oo (Zf.bM cls d.tx.toList d.args.length cls.length).length oc) (Zf.bM cls d.tx.toList d.args.length cls.length).length ((Zf.bM cls d.tx.toList d.args.length cls.length).map aJ)∧Below w.heap.size w w':=by
 obtain⟨k,hop⟩:=hok.hop n hn
 have hnd:=hok.nd (fr n) (hok.lt hn)
 have hdd:D[fr n]'(hok.lt hn)=d:=(List.getElem?_eq_some_iff.1 hd).2
 rw[hdd]at hnd
 obtain⟨dv,dc,dl⟩:=hnd.c hk
 have HL:=hide (dS w mb 1 cs _ D nO nC n (fr n) k d hs hop hd)
 rw[hk,dv,dc]at HL
 have f0:=(ah hs.blk 0).trans h0
 have mz:=af hs.blk
 have vz:=hide hcl
 have XW:=hide hkc
 obtain⟨tj,hj,hy0,hy1,hy2⟩:=info_parts infoIn
 generalize d.args.length=dm at*
 generalize d.tx=dtx at*
 clear hs hok hn hd hk h0 hcl hkc hop hnd hdd dv dc dl d
 go_enter Tryz.func158,Tryz.ntmps158
 go_wp2_with fail
 refine(ae HL).mono ?_
 rintro e w2 ⟨rfl,hb2⟩
 have f2:=(hb2.cell (p:=⟨mb,0,none⟩) mz).trans f0
 have mz2:mb<w2.heap.size:=Nat.lt_of_lt_of_le mz hb2.size
 have aP:=hide hb2
 have z2:=hb2.size
 clear hb2 HL f0
 have HST:=hide (show UX w2 cls dtx.toList dm #[.int .i64 3,.int .i64 0,.string dtx,.int .i64 (dm:Int)] cls.length (.slice none 0 0) (.int .i64 0) (w2.alloc (.cells #[.int .i64 3,.int .i64 0,.string dtx,.int .i64 (dm:Int)] 144))from ⟨0,by omega,rfl,by simpa [Zf.bM] using World.ownsRow_nil _ _ _ _,(Below.refl _ _).alloc (Nat.le_refl _) _,heap_alloc_new _ _⟩)
 go_wp2_with fail
 go_loopg [6,19] cls.length (fun k av iv wr=>UX w2 cls dtx.toList dm #[.int .i64 3,.int .i64 0,.string dtx,.int .i64 (dm:Int)] k av iv wr)
 case atStart=>exact ae HST
 case round=>
  clear HST
  obtain⟨j,hkj,rfl,how,aT,hlb⟩:=hrel
  obtain⟨oo,oc,rfl⟩:=gH how
  by_cases hlt:j<cls.length
  ·obtain⟨g,vs,ca,hao,fw,mh,mF⟩:=(ae vz).2 (fun q=>by rw[q]at hlt;simp at hlt)
   subst hao
   have jh:j<vs.length:=by have:=mF.length;omega
   have dO:Below w.heap.size w wr:=(ae aP).trans (aT.mono z2)
   have hcw:wr.heap[g]?=some (.cells ca 76 (0,0)):=(dO.block g (af fw)).trans fw
   have fc:∀i,i<6→wr.cell? ⟨g,j*6+i,none⟩=(oh vs[j])[i]?:=fun i hi=>by
    rw[ah hcw,←Array.getElem?_toList,←Cm jh i hi,←mh,List.getElem?_take_of_lt (by omega)]
   have e0:=fc 0 (by omega)
   have e1:=fc 1 (by omega)
   have e2:=fc 2 (by omega)
   have e3:=fc 3 (by omega)
   have e4:=fc 4 (by omega)
   have e5:=fc 5 (by omega)
   simp only[oh,List.getElem?_cons_zero,List.getElem?_cons_succ,Nat.add_zero]at e0 e1 e2 e3 e4 e5
   have zV:eH w vs[j].a vs[j].o1 vs[j].n1 vs[j].o2 vs[j].n2 cls[j]:=mF.at j jh hlt
   obtain⟨⟨ha1,ha2,XX,XY,UY,XZ⟩,X0⟩:=zV.head
   have hk2:=ae XW _ (List.getElem_mem hlt)
   have UZ:vs[j].a.k=3:=by rw[ha1,hk2];rfl
   have U0:=UY hk2
   rw[UZ]at e0
   rw[U0]at e2
   rw[ha2]at e3
   have gz:g<wr.heap.size:=af hcw
   have lz:w2.heap.size<wr.heap.size:=af hlb
   have i0:(0:Int)≤(j:Int):=by omega
   have i1:(j:Int)<(cls.length:Int):=by omega
   have fx:=hide (Zf.Jz cls dtx.toList dm j hlt)
   have hle:=Zf.CI cls dtx.toList dm j
   have We:(Zf.bM cls dtx.toList dm j).length≤1000000:=by omega
   have l0:=ah hlb 0
   have l1:=ah hlb 1
   have l2:=ah hlb 2
   have l3:=ah hlb 3
   simp only[List.getElem?_toArray,List.getElem?_cons_zero,List.getElem?_cons_succ]at l0 l1 l2 l3
   have LA:=hide (fun W=>qC W ⟨3,vs[j].a.val,cls[j].head.text,vs[j].a.ao,cls[j].head.args.length,vs[j].a.cap⟩)
   have HOW:=hide how
   have cC:=hide aT
   have Ef:=hide hlb
   have aW:=hide hkj
   have ba:=hide hlt
   generalize Zf.bM cls dtx.toList dm j=Z at*
   generalize vs[j]=v at*
   have hcs:Zf.yE dtx.toList dm cls[j]=(decide (cls[j].head.text.toList=dtx.toList)&&decide (cls[j].head.args.length=dm)):=rfl
   generalize hq:Zf.yE dtx.toList dm cls[j]=q at*
   generalize cls[j].head.text=htx at*
   generalize cls[j].head.args.length=hm at*
   obtain⟨⟨ak0,av0,ax0,ao0,an0,ac0⟩,o1,n1,c1,o2,n2,c2⟩:=v
   dsimp only at e0 e1 e2 e3 e4 e5 LA
   have Ez:=hide hcs
   clear how aT hlb hkj hlt fc hle dO hcw mh mF fw zV ha1 ha2 XX XY UY hk2 UZ U0 XZ X0 hq hcs jh
   have hlv:jq ⟨3,av0,htx,ao0,hm,ac0⟩=0:=rfl
   rw[hlv]at LA
   clear hlv
   cases q with
   | true=>
    have hh:=(ae Ez).symm
    simp only[Bool.and_eq_true,decide_eq_true_eq]at hh
    obtain⟨Rq,rfl⟩:=hh
    have t1:(htx.toList == dtx.toList)=true:=by rw[Rq];simp
    have t2:htx=dtx:=by
     exact Hu Rq
    subst t2
    clear Rq Ez
    rw[if_pos rfl]at fx
    go_wp2_with fail
    go_region_with (go_at_call 78;refine(ae LA _).mono ?_;rintro e w5 ⟨rfl,bf⟩;have m0:=(bf.cell (p:=⟨w2.heap.size,0,none⟩) (by simp;omega)).trans ((World.cell?_alloc_past _ _ _ lz).trans l0);have m1:=(bf.cell (p:=⟨w2.heap.size,1,none⟩) (by simp;omega)).trans ((World.cell?_alloc_past _ _ _ lz).trans l1);have m2:=(bf.cell (p:=⟨w2.heap.size,2,none⟩) (by simp;omega)).trans ((World.cell?_alloc_past _ _ _ lz).trans l2);have m3:=(bf.cell (p:=⟨w2.heap.size,3,none⟩) (by simp;omega)).trans ((World.cell?_alloc_past _ _ _ lz).trans l3);have nJ:Below wr.heap.size wr w5:=(by first | exact((Below.refl _ wr).alloc (Nat.le_refl _) _).trans (bf.mono (by simp)) | exact(((Below.refl _ wr).alloc (Nat.le_refl _) _).drew).trans (bf.mono (by simp)));have bj:=hide ((ae cC).trans (nJ.mono (ae cC).size));have CJ:=hide ((nJ.block _ lz).trans (ae Ef));have mi:=hide (ai (ae HOW) (fun k q=>nJ.block k ((ae HOW).lt k q).2));have z5:w2.heap.size<w5.heap.size:=Nat.lt_of_lt_of_le lz nJ.size;clear bf nJ)
    all_goals
     go_wp2_with (at_builtin;go_must (refine wpList_append_own_at _ rfl (.tmp 29) (.tmp 31) 25 rfl (w2.heap.size+1) 3 tj (.int .i64 0) 1 8 Tryz.underlying25 hj hy0 hy1 hy2 rfl (by decide) _ Z.length (Z.map aJ) rfl ((ae mi).alloc _) ⟨w5.heap.size,0,none⟩ 1 1 [.int .i64 (j:Int)] rfl rfl (ju _ _ _ _ rfl) (by simp[Value.oneCell']) (by unfold maxLen;omega) (by omega) (by simp;omega) ?_);go_must (intro v' w7 hown' hgrow _ _;have mH:=hide hown';have o9:=hide (((ae bj).alloc (ae bj).size _).grown hgrow (by have:=(ae bj).size;simp;omega) (fun k q=>by have:=((ae mi).lt k q).1;omega));have X3:=hide ((hgrow.block w2.heap.size (by simp;omega) (fun q=>by have:=((ae mi).lt w2.heap.size q.symm).1;omega)).trans ((Below.heap_alloc _ _ _ z5).trans (ae CJ)));clear hown' hgrow))
     go_roundg (gk - 1)
     case measure=>have:=ae aW;have:=ae ba;omega
     case rel=>exact⟨j+1,by have:=ae aW;have:=ae ba;omega,by go_num,by rw[ae fx];have:=ae mH;simpa [aJ] using this,ae o9,ae X3⟩
   | false=>
    have hh:=(ae Ez).symm
    rw[if_neg (by simp),List.append_nil]at fx
    have X4:htx.toList≠dtx.toList∨(htx=dtx∧hm≠dm):=by
     by_cases e1:htx.toList=dtx.toList
     ·right
      refine⟨Hu e1,fun e2=> ?_⟩
      simp[e1,e2]at hh
     ·exact Or.inl e1
    clear hh Ez
    rcases X4 with hh | ⟨rfl,hh⟩
    ·have t1:(htx.toList == dtx.toList)=false:=by simpa using hh
     clear hh
     go_wp2_with fail
     go_region_with (go_at_call 78;refine(ae LA _).mono ?_;rintro e w5 ⟨rfl,bf⟩;have m0:=(bf.cell (p:=⟨w2.heap.size,0,none⟩) (by simp;omega)).trans ((World.cell?_alloc_past _ _ _ lz).trans l0);have m1:=(bf.cell (p:=⟨w2.heap.size,1,none⟩) (by simp;omega)).trans ((World.cell?_alloc_past _ _ _ lz).trans l1);have m2:=(bf.cell (p:=⟨w2.heap.size,2,none⟩) (by simp;omega)).trans ((World.cell?_alloc_past _ _ _ lz).trans l2);have m3:=(bf.cell (p:=⟨w2.heap.size,3,none⟩) (by simp;omega)).trans ((World.cell?_alloc_past _ _ _ lz).trans l3);have nJ:Below wr.heap.size wr w5:=(by first | exact((Below.refl _ wr).alloc (Nat.le_refl _) _).trans (bf.mono (by simp)) | exact(((Below.refl _ wr).alloc (Nat.le_refl _) _).drew).trans (bf.mono (by simp)));have bj:=hide ((ae cC).trans (nJ.mono (ae cC).size));have CJ:=hide ((nJ.block _ lz).trans (ae Ef));have mi:=hide (ai (ae HOW) (fun k q=>nJ.block k ((ae HOW).lt k q).2));have z5:w2.heap.size<w5.heap.size:=Nat.lt_of_lt_of_le lz nJ.size;clear bf nJ)
     all_goals
      go_wp2_with fail
      go_roundg (gk - 1)
      case measure=>have:=ae aW;have:=ae ba;omega
      case rel=>exact⟨j+1,by have:=ae aW;have:=ae ba;omega,by go_num,by rw[ae fx];exact ae mi,ae bj,ae CJ⟩
    ·have t1:((hm:Int) == (dm:Int))=false:=by simp;omega
     have t3:(hm == dm)=false:=by simpa using hh
     clear hh
     go_wp2_with fail
     go_region_with (go_at_call 78;refine(ae LA _).mono ?_;rintro e w5 ⟨rfl,bf⟩;have m0:=(bf.cell (p:=⟨w2.heap.size,0,none⟩) (by simp;omega)).trans ((World.cell?_alloc_past _ _ _ lz).trans l0);have m1:=(bf.cell (p:=⟨w2.heap.size,1,none⟩) (by simp;omega)).trans ((World.cell?_alloc_past _ _ _ lz).trans l1);have m2:=(bf.cell (p:=⟨w2.heap.size,2,none⟩) (by simp;omega)).trans ((World.cell?_alloc_past _ _ _ lz).trans l2);have m3:=(bf.cell (p:=⟨w2.heap.size,3,none⟩) (by simp;omega)).trans ((World.cell?_alloc_past _ _ _ lz).trans l3);have nJ:Below wr.heap.size wr w5:=(by first | exact((Below.refl _ wr).alloc (Nat.le_refl _) _).trans (bf.mono (by simp)) | exact(((Below.refl _ wr).alloc (Nat.le_refl _) _).drew).trans (bf.mono (by simp)));have bj:=hide ((ae cC).trans (nJ.mono (ae cC).size));have CJ:=hide ((nJ.block _ lz).trans (ae Ef));have mi:=hide (ai (ae HOW) (fun k q=>nJ.block k ((ae HOW).lt k q).2));have z5:w2.heap.size<w5.heap.size:=Nat.lt_of_lt_of_le lz nJ.size;clear bf nJ)
     all_goals
      go_wp2_with fail
      go_roundg (gk - 1)
      case measure=>have:=ae aW;have:=ae ba;omega
      case rel=>exact⟨j+1,by have:=ae aW;have:=ae ba;omega,by go_num,by rw[ae fx];exact ae mi,ae bj,ae CJ⟩
  ·obtain rfl:j=cls.length:=by omega
   have HOW:=hide (bV how (Nat.le_trans z2 (Nat.le_succ _)))
   have cC:=hide ((ae aP).trans (aT.mono z2))
   clear how aT hkj hlb
   go_wp2_with fail
   go_ret
   exact⟨oo,oc,rfl,ae HOW,ae cC⟩
end Go.Proofs.YthfjnfcekeknlabGreatDoor
namespace Zf
structure jN (c:aI):Prop where
 hk:c.head.kind=2
 wl:wfK 8 c.head
 ts:∀x∈c.tests,gW x
 tl:c.tests.length≤6
 gs:∀x∈c.goals,tP x
 gl:c.goals.length≤6
 nl:(NG c).length≤100000
 t0:∀x∈c.tests,(x.right≠none∧(x.sign=[61,60]∨x.sign=[60]))
end Zf
namespace Go.Proofs.YthfjnfcekeknlabGreatDoor
open Go.RowKit
def ez (w w':World):Prop:=∀(g:Nat) (ys:Array Value) (S:TypeId),w.heap[g]?=some (.cells ys S (0,0))→(S=76∨S=125∨S=74)→w'.heap[g]?=some (.cells ys S (0,0))
theorem ez.trans {a b c:World} (h:ez a b) (k:ez b c):ez a c:=fun g ys S hg hS=>k g ys S (h g ys S hg hS) hS
theorem ez.below {w w':World} (h:Below w.heap.size w w'):ez w w':=fun g _ _ hg _=>(h.block g (af hg)).trans hg
theorem ez.U1 {w w':World} (h:ez w w'):aQ w w':=⟨fun g cs hg _=>h g cs _ hg (Or.inr (Or.inr rfl)),fun g cs hg _=>h g cs _ hg (Or.inr (Or.inl rfl))⟩
theorem ez.cls {w w':World} (h:ez w w') {o:Option Addr} {n:Nat} {ys:List Zf.aI} (hc:dh w o n ys):dh w' o n ys:=⟨hc.1,fun q=>by
 obtain⟨g,vs,cs,h1,h2,h3,h4⟩:=hc.2 q
 exact⟨g,vs,cs,h1,h g cs _ h2 (Or.inl rfl),h3,h4.imp fun _ _ q=>eH.keep q h.U1⟩⟩
theorem ez.lK {R R':Nat→Prop} {w w':World} (hf:aq R R' w w') (hn:∀(g:Nat) (ys:Array Value) (S:TypeId),w.heap[g]?=some (.cells ys S (0,0))→(S=76∨S=125∨S=74)→¬R g):ez w w':=fun g ys S hg hS=>(hf.block g (af hg) (hn g ys S hg hS)).trans hg
theorem Wk (cs:Array Value) (y a b:Value):(((cs.setIfInBounds 3 y).setIfInBounds 1 a).setIfInBounds 3 b)=(cs.setIfInBounds 1 a).setIfInBounds 3 b:=by
 apply Array.ext_getElem?
 intro i
 simp only[Array.getElem?_setIfInBounds,Array.size_setIfInBounds]
 by_cases h1:1=i
 ·subst h1;simp
 ·by_cases h3:3=i
  ·subst h3;simp
  ·simp[h1,h3]
def Rs (P:Nat→Prop) (mb:Nat) (cs:Array Value) (D:List Ng) (V:List Nat) (nO vo:Option Addr) (fr:Nat→Nat) (TT:Nat→Zf.U) (G:List Gl) (i which:Nat) (c:Zf.aI) (w:World) (e:Ending) (w':World):Prop:=
 ∃(E:List Ng) (F:List Nat) (no':Option Addr) (nc':Nat) (T':Nat→Zf.U) (Gn:List Gl) (po':Option Addr) (pc':Nat),e= .returned (.int .i64 ((which+1:Nat):Int))∧cR w' mb ((cs.setIfInBounds 1 (.slice no' (D++E).length nc')).setIfInBounds 3 (.slice po' (G.eraseIdx i++Gn).length pc')) (D++E) no' nc' fr (G.eraseIdx i++Gn) po' pc'∧aY w' (D++E) P∧Zf.dI (aX (D++E)) fr T'∧(∀m,m<D.length→T' m=TT m)∧dD D.length E∧fe D.length E F∧(V++F).length=(Zf.NG c).length∧(∀n∈V++F,n<(D++E).length)∧bR (mL T' (D++E).length (bT T' (V++F) (Zf.NG c))) c.goals Gn∧E.length≤118098∧aq (fun k=>cI mb nO k∨rowOf vo k) (fun k=>cI mb no' k∨rowOf po' k) w w'
theorem Gr (w:World) (mb:Nat) (cs:Array Value) (D:List Ng) (V:List Nat) (nO:Option Addr) (nC:Nat) (vo:Option Addr) (vc:Nat) (fr:Nat→Nat) (TT:Nat→Zf.U) (P:Nat→Prop) (G:List Gl) (po:Option Addr) (pc i which:Nat) (cls:List Zf.aI) (clo:Option Addr) (clc:Nat) (hm:cR w mb cs D nO nC fr G po pc) (har:aY w D (fun g=>P g∧¬rowOf vo g)) (fD:Zf.dI (aX D) fr TT) (hV:w.ownsRow 0 3 1 (.slice vo V.length vc) V.length (V.map aJ)) (hVl:∀n∈V,n<D.length) (Jy:∀g∈G,∀k,rowOf g.no k→¬rowOf vo k) (hP:∀g,w.heap.size≤g→P g) (h0:cs[0]?=some (.slice clo cls.length clc)) (hcl:dh w clo cls.length cls) (EA:which<cls.length) (hcc:cls.length≤12) (hok:Zf.jN cls[which]) (hVn:V.length=(Zf.NT cls[which]).length) (hD:D.length+4000000≤1000000000) (hGl:G.length≤1000000):
 Calls Tryz.prog 160 #[.pointer (some ⟨mb,0,none⟩),.int .i64 (i:Int),.int .i64 (which:Int),.agg #[.slice vo V.length vc]] w fun e w'=>Rs P mb cs D V nO vo fr TT G i which cls[which] w e w':=by
 have hb0:=(Below.refl w.heap.size w).alloc (Nat.le_refl _) (.cells #[.slice vo V.length vc] 90)
 obtain⟨g,vs,ca,hao,fw,mh,mF⟩:=hcl.2 (fun q=>by rw[q]at EA;simp at EA)
 subst hao
 have jh:which<vs.length:=by have:=mF.length;omega
 have f5:w.cell? ⟨g,which*6+5,none⟩=(oh vs[which])[5]?:=by
  rw[ah fw,←Array.getElem?_toList,←Cm jh 5 (by omega),←mh,List.getElem?_take_of_lt (by omega)]
 simp only[oh,List.getElem?_cons_zero,List.getElem?_cons_succ]at f5
 have gz:=af fw
 have zV:eH w vs[which].a vs[which].o1 vs[which].n1 vs[which].o2 vs[which].n2 cls[which]:=mF.at which jh EA
 have f0:=(ah hm.st.blk 0).trans h0
 have mz:=af hm.st.blk
 have IL:=hide (tK _ mb cs D nO nC fr G po pc i (hm.below hb0) hGl)
 have hw0:w.heap.size<(w.alloc (.cells #[.slice vo V.length vc] 90)).heap.size:=by simp
 have xO:fy P (w.alloc (.cells #[.slice vo V.length vc] 90)) mb 1 cs 88 w.heap.size D V nO nC vo vc fr TT:=⟨⟨hm.st.below hb0,⟨heap_alloc_new w _,ai hV (fun g q=>hb0.block g (hV.lt g q).2)⟩,by decide,by decide,har.below hb0⟩,hm.ok,fD,hVl⟩
 have IJ:=hide (show∀(w2:World) (po1:Option Addr) (pc1:Nat),cR w2 mb (cs.setIfInBounds 3 (.slice po1 (G.eraseIdx i).length pc1)) D nO nC fr (G.eraseIdx i) po1 pc1→aq (fun k=>k=mb) (fun k=>k=mb∨rowOf po1 k) (w.alloc (.cells #[.slice vo V.length vc] 90)) w2→Calls Tryz.prog 34 #[.pointer (some ⟨mb,0,none⟩),.slice vs[which].o2 vs[which].n2 vs[which].c2,.pointer (some ⟨w.heap.size,0,none⟩)] w2 fun e w'=>e= .returned (.tuple #[])∧Rs P mb cs D V nO vo fr TT G i which cls[which] w (.returned (.int .i64 ((which+1:Nat):Int))) w' from fun w2 po1 pc1 hm2 hf2=>by
  have fQ:∀(k:Nat) (ys:Array Value) (S:TypeId),(w.alloc (.cells #[.slice vo V.length vc] 90)).heap[k]?=some (.cells ys S (0,0))→S≠88→w2.heap[k]?=some (.cells ys S (0,0)):=fun k ys S hk hS=>(hf2.block k (af hk) (fun e=>by
   rw[e,xO.ad.st.blk]at hk
   simp only[Option.some.injEq,Obj.cells.injEq]at hk
   exact hS hk.2.1.symm)).trans hk
  have Wl:=xO.Jx hm2.st (fun k ys S hk hS=>(fQ k ys S hk (by rcases hS with q | q<;>(rw[q];decide))).trans hk.symm)
  have NL:ez w w2:=(ez.below hb0).trans fun k ys S hk hS=>fQ k ys S hk (by rcases hS with q | q | q<;>(rw[q];decide))
  have Wm:=zV.keep NL.U1
  have hz:=hf2.size
  refine(CF w2 mb _ w.heap.size D V nO nC vo vc fr TT P (G.eraseIdx i) po1 pc1 (Zf.NG cls[which]) (Zf.NT cls[which]) cls[which].goals vs[which].o2 vs[which].n2 vs[which].c2 Wl hm2 (fun x hx=>Jy x (List.mem_of_mem_eraseIdx hx)) (fun q hq=>hP q (by omega)) Wm.goals hok.gs hVn ⟨[],by rw[List.append_nil];rfl⟩ hok.nl (Nat.le_trans hok.gl (by omega)) hD (Nat.le_trans (List.length_eraseIdx_le _ _) hGl)).mono ?_
  rintro e w3 ⟨rfl,E,F,no',nc',vo',vc',T',Gn,po',pc',hjo⟩
  have fE:=hjo.mc
  have ecs:((cs.setIfInBounds 3 (.slice po1 (G.eraseIdx i).length pc1)).setIfInBounds 1 (.slice no' (D++E).length nc')).setIfInBounds 3 (.slice po' (G.eraseIdx i++Gn).length pc')=(cs.setIfInBounds 1 (.slice no' (D++E).length nc')).setIfInBounds 3 (.slice po' (G.eraseIdx i++Gn).length pc'):=by
   exact Wk _ _ _ _
  rw[ecs]at fE
  refine⟨rfl,E,F,no',nc',T',Gn,po',pc',rfl,fE,hjo.ms.ad.args.keep (fun g _ hp hg=>⟨hg,hp.1⟩),hjo.ms.to,hjo.old,hjo.nd,hjo.nv,hjo.ln,hjo.ms.lt,hjo.gl,Nat.le_trans hjo.el (by have:=hok.gl;omega),?_⟩
  have hp1:∀k,rowOf po1 k→k=mb∨w.heap.size≤k:=fun k q=>by
   rcases hf2.row k (Or.inr q)with e | e
   ·exact Or.inl e
   ·right;omega
  refine⟨hjo.fg.os.trans (hf2.os.trans hb0.os),hjo.fg.tape.trans (hf2.tape.trans hb0.tape),hjo.fg.output.trans (hf2.output.trans hb0.output),by have:=hjo.fg.size;omega,fun k hk hr=> ?_,fun k q=> ?_⟩
  ·rw[hjo.fg.block k (by omega) ?_,hf2.block k (by omega) (fun e=>hr (Or.inl (Or.inl e))),hb0.block k hk]
   rintro((e | e | e | e) | e)
   ·exact hr (Or.inl (Or.inl e))
   ·exact hr (Or.inl (Or.inr e))
   ·omega
   ·exact hr (Or.inr e)
   ·rcases hp1 k e with e | e
    ·exact hr (Or.inl (Or.inl e))
    ·omega
  ·have q2:uF mb no' w.heap.size vo' po' k:=by
    rcases q with(q | q) | q
    ·exact Or.inl (Or.inl q)
    ·exact Or.inl (Or.inr (Or.inl q))
    ·exact Or.inr q
   rcases hjo.fg.row k q2 with((e | e | e | e) | e) | e
   ·exact Or.inl (Or.inl (Or.inl e))
   ·exact Or.inl (Or.inl (Or.inr e))
   ·right;omega
   ·exact Or.inl (Or.inr e)
   ·rcases hp1 k e with e | e
    ·exact Or.inl (Or.inl (Or.inl e))
    ·exact Or.inr e
   ·right;omega)
 have i0:(0:Int)≤(which:Int):=by omega
 have i1:(which:Int)<(cls.length:Int):=by omega
 have Y7:=hide EA
 generalize vs[which]=v at*
 obtain⟨⟨ak0,av0,ax0,ao0,an0,ac0⟩,o1,n1,c1,o2,n2,c2⟩:=v
 dsimp only at f5 IJ
 have U2:=hide (ae IJ)
 generalize hcw:cls[which]=cw at*
 clear hcw IJ hm har fD hV hVl Jy hP h0 hcl hok hVn hD hb0 fw mh mF zV xO jh hw0
 go_enter Tryz.func160,Tryz.ntmps160
 go_wp2_with fail
 refine(ae IL).mono ?_
 rintro e w2 ⟨rfl,po1,pc1,m2,fr2⟩
 have I2:=hide (ae U2 w2 po1 pc1 m2 fr2)
 clear m2 fr2 IL U2
 go_wp2_with fail
 refine(ae I2).mono ?_
 rintro e w3 ⟨rfl,h3⟩
 have H3:=hide h3
 clear h3 I2
 go_wp2_with fail
 go_ret
 exact ae H3
theorem xQ {P:Program} (w:World) (t ty e:TypeId) (i:TypeInfo) (ht:P.underlying t=some (.slice e)) (hi:P.info? e=some i) (base:Option Addr) (sLen sCap:Nat) (hle:sLen≤sCap):(Builtin.append_ #[t,t] ty #[.slice base sLen sCap,.slice none 0 0]).run P w= .ok (.slice base sLen sCap) w:=by
 cases base<;>simp[Builtin.append_,run_underlying ht,sizeOf,typeInfo,hi,hle,Builtin.lenOf,Builtin.firstCells,loadCells,storeCells]
theorem DL {ops:Array Oper} {rest:List Oper} {o:Oper} {a:Act} {Q:Exit→Act→World→Prop} {w:World} (hgd:o.guard=none) (s x:Operand)
 (ho:o.op= .call {callee:= .builtin .append,args:=#[s,x],argTypes:=#[25,25]})
 (base b2:Nat) (v:Value) (n:Nat) (xs:List Nat) (hs:a.eval s=v) (hown:w.ownsRow base 3 1 v n (xs.map aJ))
 (so:Option Addr) (m c:Nat) (ys:List Nat) (hx:a.eval x= .slice so m c) (hy:w.ownsRow b2 3 1 (.slice so m c) m (ys.map aJ))
 (hn:n+m≤1000000000) (hbase:base≤w.heap.size)
 (h:∀v' w',w'.ownsRow base 3 1 v' (n+m) ((xs++ys).map aJ)→w.grownBy w' v.ownBlock→(v'.ownBlock=v.ownBlock∨v'.ownBlock=some w.heap.size)→wpList Tryz.prog ops Q rest (a.put o.dst v') w'):
 wpList Tryz.prog ops Q (o :: rest) a w:=by
 obtain⟨tj,hj,hy0,hy1,hy2⟩:=info_parts infoIn
 rcases hy.2 with⟨q,q0⟩ | ⟨g,cap,cur,q,q1,q2,q3,q4,q5,q6⟩
 ·simp only[Value.slice.injEq]at q
  obtain⟨rfl,rfl,rfl⟩:=q
  have hys:ys=[]:=by
   have:=hy.1
   simp at this
   exact this
  subst hys
  obtain⟨vo,vc,rfl⟩:=gH hown
  have hle:n≤vc:=by
   rcases hown.2 with⟨r,r0⟩ | ⟨g,cap,cur,r,_,_,r3,_⟩
   ·omega
   ·simp only[Value.slice.injEq]at r
    omega
  refine wpList_plain hgd fun K hK=> ?_
  have hr:=xQ (P:=Tryz.prog) w 25 o.type 3 tj Tryz.underlying25 hj vo n vc hle
  unfold Oper.wp execOp
  simp only[ho,resolve,invoke,builtin,Sem.run_bind,Sem.run_pure,Result.andThen_ok,List.map_toArray,List.map_cons,List.map_nil,hs,hx,hr]
  exact hK _ _ (h _ _ (by simpa using hown) (World.grownBy.refl _ _) (Or.inl rfl))
 ·simp only[Value.slice.injEq]at q
  obtain⟨rfl,_,rfl⟩:=q
  refine wpList_append_own_at w hgd s x 25 ho base 3 tj (.int .i64 0) 1 8 Tryz.underlying25 hj hy0 hy1 hy2 rfl (by decide) v n (xs.map aJ) hs hown ⟨g,0,none⟩ m c (ys.map aJ) hx (by have:=hy.1;simpa using this) (fun j u hj=> ?_) (fun u hu=> ?_) (by unfold maxLen;omega) (by omega) hbase (fun v' w' h1 h2 _ h4=>h v' w' (by rw[List.map_append];exact h1) h2 h4)
  ·have hjl:j<(ys.map aJ).length:=(List.getElem?_eq_some_iff.1 hj).1
   have:(⟨g,0,none⟩:Addr).add j=⟨g,j,none⟩:=by cases j<;>simp[Addr.add]
   rw[this,hy.cellAt j (by have:=hy.1;simp at this hjl;omega)]
   exact hj
  ·obtain⟨y,_,rfl⟩:=List.mem_map.1 hu
   rfl
end Go.Proofs.YthfjnfcekeknlabGreatDoor
namespace Zf
def uG (TT:Nat→U) (u:U) (c:aI) (V:List Nat):Prop:=V.length=(namesF 8 [] c.head).length∧∀(i:Nat) (x:List UInt8) (m:Nat),(namesF 8 [] c.head)[i]?=some x→V[i]?=some m→∃q,(matU 8 c.head u ⟨[],Wn.none⟩).st.find? (fun q=>q.1 == x)=some q∧TT m=q.2
end Zf
namespace Go.Proofs.YthfjnfcekeknlabGreatDoor
open Go.RowKit
def qu (u:Zf.U) (b:Nat) (c:Zf.aI) (V F:List Nat) (T':Nat→Zf.U) (says:Nat) (ws:List Nat):Prop:=
 ((Zf.matU 8 c.head u ⟨[],Zf.Wn.none⟩).w.says≠1∧says=(Zf.matU 8 c.head u ⟨[],Zf.Wn.none⟩).w.says∧ws=(Zf.matU 8 c.head u ⟨[],Zf.Wn.none⟩).w.wt)∨
 ((Zf.matU 8 c.head u ⟨[],Zf.Wn.none⟩).w.says=1∧Zf.uG T' u c V∧(V++F).length=(Zf.NT c).length∧(∀f∈F,b≤f∧T' f= .v ([],f))∧F.Pairwise (·<·)∧says=(Zf.fP (bT T' (V++F) (Zf.NG c)) c.tests).says∧ws=Zf.kj (V++F) V.length (Zf.fP (bT T' (V++F) (Zf.NG c)) c.tests).wt)
def NM (PP:Nat→Prop) (mb:Nat) (cs:Array Value) (D:List Ng) (nO:Option Addr) (fr:Nat→Nat) (TT:Nat→Zf.U) (n:Nat) (c:Zf.aI) (w:World) (e:Ending) (w':World):Prop:=
 ∃(says:Nat) (ws:List Nat) (oo:Option Addr) (oc:Nat) (vo':Option Addr) (vl vc':Nat) (E:List Ng) (V F:List Nat) (no':Option Addr) (nc':Nat) (T':Nat→Zf.U),e= .returned (.agg #[.int .i64 (says:Int),.slice oo ws.length oc,.slice vo' vl vc'])∧w'.ownsRow w.heap.size 3 1 (.slice oo ws.length oc) ws.length (ws.map aJ)∧qu (TT n) D.length c V F T' says ws∧ws.length≤12000000∧(∀v∈ws,v<(D++E).length)∧
  bG w' mb 1 (cs.setIfInBounds 1 (.slice no' (D++E).length nc')) 88 (D++E) no' nc'∧bZ (D++E) fr∧Zf.dI (aX (D++E)) fr T'∧(∀m,m<D.length→T' m=TT m)∧dD D.length E∧E.length≤78732∧aY w' (D++E) (fun g=>PP g∧¬rowOf vo' g)∧aq (cI mb nO) (cI mb no') w w'∧
  (says=1→(∀m∈V,m<D.length)∧vl=(V++F).length∧w'.ownsRow 0 3 1 (.slice vo' (V++F).length vc') (V++F).length ((V++F).map aJ)∧(∀k,rowOf vo' k→cI mb nO k∨w.heap.size≤k)∧(∀n∈V++F,n<(D++E).length)∧(V++F).length=(Zf.NT c).length∧fe D.length E F)
theorem AO (l:Zf.Wn):l.says=1∨l.says=2∨l.says=3:=by
 unfold Zf.Wn.says
 split
 ·exact Or.inr (Or.inl rfl)
 ·split
  ·exact Or.inl rfl
  ·exact Or.inr (Or.inr rfl)
theorem bZ.kP {D:List Ng} {fr:Nat→Nat} {T:Nat→Zf.U} (ok:bZ D fr) (hS:Zf.dI (aX D) fr T):∀n,n<D.length→Zf.bB (fun x=>x.1=[]∧x.2<D.length∧fr x.2=x.2) (T n):=
 hS.kP (fun n hn=>ok.lt hn) (fun n hn a ha=>by rw[jS hn]at ha;exact(ok.nd n hn).inn a ha)
theorem pD {D E:List Ng} {F:List Nat} {fr:Nat→Nat} {T':Nat→Zf.U} (ok:bZ (D++E) fr) (hS:Zf.dI (aX (D++E)) fr T') (nd:dD D.length E) (nv:fe D.length E F):∀f∈F,D.length≤f∧f<(D++E).length∧T' f= .v ([],f):=fun f hf=>by
 obtain⟨h1,d,h2,h3⟩:=nv.var f hf
 have hl:f<(D++E).length:=by
  have:=(List.getElem?_eq_some_iff.1 h2).1
  rw[List.length_append];omega
 have hd:(D++E)[f]=d:=by rw[List.getElem_append_right h1];exact(List.getElem?_eq_some_iff.1 h2).2
 have ct:fr f=f:=(ok.self hl).2 (nd.at h1 hl).1
 have hv:=hS.var (n:=f) (by rw[ct,mf hl,hd];exact(ok.nd f hl |> fun q=>by rw[hd]at q;exact q.lab.2 h3))
 rw[ct]at hv
 exact⟨h1,hl,hv⟩
theorem LZ (w:World) (mb:Nat) (cs:Array Value) (D:List Ng) (nO:Option Addr) (nC:Nat) (fr:Nat→Nat) (TT:Nat→Zf.U) (PP:Nat→Prop) (a:AV) (o1 o2:Option Addr) (n1 c1 n2 c2 n:Nat) (c:Zf.aI) (hG:gj w w.heap.size mb 1 cs 88 D nO nC fr TT PP) (hPP:∀g,w.heap.size≤g→PP g) (hc:eH w a o1 n1 o2 n2 c) (ok:Zf.jN c) (hn:n<D.length) (hsz:Zf.size (TT n)≤300) (hD:D.length+100000≤1000000000):
 Calls Tryz.prog 159 #[.pointer (some ⟨mb,1,none⟩),.agg #[.int .i64 a.k,.int .i64 a.val,.string a.tx,.slice a.ao a.n a.cap,.slice o1 n1 c1,.slice o2 n2 c2],.int .i64 (n:Int)] w fun e w'=>NM PP mb cs D nO fr TT n c w e w':=by
 have hsm:=Zf.uv (B:=300) 8 c.head (TT n) ⟨[],Zf.Wn.none⟩ ok.wl hsz (by omega) (fun q hq=>by cases hq)
 have q3:3 ^ 8=6561:=by decide
 rw[q3]at hsm
 have X5:=Zf.mV 8 c.head (TT n) ⟨[],Zf.Wn.none⟩ (hG.ok.kP hG.to n hn) ⟨(fun q hq=>by cases hq),Zf.dH _⟩
 obtain⟨KT,hKT⟩:=Zf.iU c.tests (Zf.namesF 8 [] c.head)
 obtain⟨KG,hKG⟩:=Zf.iU c.goals (Zf.NT c)
 have hNT:Zf.NT c=Zf.namesF 8 [] c.head++KT:=hKT
 have hNG:Zf.NG c=Zf.NT c++KG:=hKG
 by_cases hy:(Zf.matU 8 c.head (TT n) ⟨[],Zf.Wn.none⟩).w.says=1
 ·refine(Gf w mb 1 cs 88 D nO nC fr TT PP a o1 o2 n1 c1 n2 c2 n (Zf.NG c) KG c.head c.tests hG hPP (by decide) (by decide) (by decide) (by decide) (by decide) (by decide) hc.head hc.tests hNG ok.wl ok.ts ok.tl hn hsz hD hy ok.t0).mono ?_
  rintro e w' ⟨V,hVl,hVD,hVq,l,E,F,no',nc',vo',vc',T',oo,oc,rfl,rfl,Jn,NC,hro,hs,hok,fD,har,hlt,hold,hnd,fS,iB,hel,kU⟩
  have hnn:=pD hok fD hnd fS
  have Gs:∀y∈Zf.NT c,∃m∈V++F,bT T' (V++F) (Zf.NG c) y=T' m:=fun y hy=>xw hy hNG iB
  have hsize:∀m∈V++F,Zf.size (T' m)≤300:=fun m hm=>by
   rcases List.mem_append.1 hm with q | q
   ·rw[hold m (hVD m q)]
    obtain⟨i,hi,rfl⟩:=List.getElem_of_mem q
    obtain⟨r,h1,h2⟩:=hVq i (Zf.namesF 8 [] c.head)[i] V[i] (List.getElem?_eq_getElem (by omega)) (List.getElem?_eq_getElem hi)
    rw[h2]
    exact hsm.1 r (List.mem_of_find?_eq_some h1)
   ·rw[(hnn m q).2.2]
    simp[Zf.size]
  have hlen:(Zf.fP (bT T' (V++F) (Zf.NG c)) c.tests).wt.length≤c.tests.length*2000000:=Zf.Pd c.tests (Zf.namesF 8 [] c.head) ok.ts fun y hy=>by
   obtain⟨m,hm,he⟩:=Gs y hy
   rw[he]
   exact hsize m hm
  have Wo:=Zf.yC (η:=bT T' (V++F) (Zf.NG c)) c.tests (Zf.namesF 8 [] c.head) ok.ts fun y hy=>by
   obtain⟨m,hm,he⟩:=Gs y hy
   rw[he]
   exact hok.kP fD m (hlt m hm)
  refine⟨_,_,oo,oc,vo',_,vc',E,V,F,no',nc',T',rfl,Jn,Or.inr ⟨hy,⟨hVl,fun i x m h1 h2=>by rw[hold m (hVD m (List.mem_of_getElem? h2))];exact hVq i x m h1 h2⟩,iB,fun f hf=>⟨(hnn f hf).1,(hnn f hf).2.2⟩,fS.ord,rfl,rfl⟩,?_,?_,hs,hok,fD,hold,hnd,hel,har,kU,fun _=>⟨hVD,rfl,NC,hro,hlt,iB,fS⟩⟩
  ·have h1:(Zf.kj (V++F) V.length (Zf.fP (bT T' (V++F) (Zf.NG c)) c.tests).wt).length≤(Zf.fP (bT T' (V++F) (Zf.NG c)) c.tests).wt.length:=List.length_filter_le _ _
   have h2:=ok.tl
   omega
  ·intro v hv
   obtain⟨x,hx,rfl⟩:=Wo v (List.mem_filter.1 hv).1
   exact hx.2.1
 ·refine(Ji w mb 1 cs 88 D nO nC fr TT PP a o1 o2 n1 c1 n2 c2 n (Zf.NG c) (KT++KG) c.head hG hc.head (by rw[hNG,hNT,List.append_assoc]) ok.wl hn hsz hy).mono ?_
  rintro e w' ⟨wo,wc,rfl,ho,hb⟩
  refine⟨_,_,wo,wc,none,0,0,[],[],[],nO,nC,TT,rfl,ho,Or.inl ⟨hy,rfl,rfl⟩,?_,?_,?_,by simpa using hG.ok,by simpa using hG.to,fun _ _=>rfl,(fun i d hd=>by simp at hd),by simp,?_,aq.of_below hb,fun q=>absurd q hy⟩
  ·have:=hsm.2
   simp only[Zf.Wn.none,List.length_nil]at this⊢
   omega
  ·intro v hv
   obtain⟨x,hx,rfl⟩:=X5.2 v hv
   simpa using hx.2.1
  ·rw[List.append_nil,ml hG.st.cel]
   exact hG.st.below hb
  ·rw[List.append_nil]
   exact(hG.ar.below hb).keep fun g _ hp hg=>⟨hg,hp,fun⟨_,q,_⟩=>by cases q⟩
end Go.Proofs.YthfjnfcekeknlabGreatDoor
namespace Zf
def cK (rs:List (Nat×List Nat)):List Nat:=rs.flatMap fun r=>if r.1=3 then r.2 else []
def mr (rs:List (Nat×List Nat)):Bool:=rs.any fun r=>r.1 == 3
theorem pZ (rs:List (Nat×List Nat)) (r:Nat×List Nat):cK (rs++[r])=cK rs++(if r.1=3 then r.2 else []):=by simp[cK]
theorem zW (rs:List (Nat×List Nat)) (r:Nat×List Nat):mr (rs++[r])=(mr rs||(r.1 == 3)):=by simp[mr]
end Zf
namespace Go.Proofs.YthfjnfcekeknlabGreatDoor
open Go.RowKit
theorem cR.asked {w w':World} {mb:Nat} {cs:Array Value} {D D':List Ng} {nO no':Option Addr} {nC nc':Nat} {fr:Nat→Nat} {G:List Gl} {po:Option Addr} {pc:Nat} (h:cR w mb cs D nO nC fr G po pc) (hs:bG w' mb 1 (cs.setIfInBounds 1 (.slice no' D'.length nc')) 88 D' no' nc') (ok:bZ D' fr) (hl:D.length≤D'.length) {R':Nat→Prop} (hf:aq (cI mb nO) R' w w'):cR w' mb (cs.setIfInBounds 1 (.slice no' D'.length nc')) D' no' nc' fr G po pc:=by
 have keep:∀(k:Nat) (ys:Array Value) (S:TypeId),w.heap[k]?=some (.cells ys S (0,0))→S≠88→S≠147→w'.heap[k]?=w.heap[k]?:=fun k ys S hk h1 h2=>(h.st.oF hf hk h1 h2).trans hk.symm
 refine⟨hs,ok,by rw[Array.getElem?_setIfInBounds_ne (by omega)];exact h.c3,ai h.pool fun g q=> ?_,fun g hg=>ai (h.nds g hg) fun k q=> ?_,fun g hg v hv=>Nat.lt_of_lt_of_le (h.nlt g hg v hv) hl,h.nl⟩
 ·obtain⟨cur,hc⟩:=aH h.pool (aG q)
  exact keep g _ _ hc (by decide) (by decide)
 ·obtain⟨cur,hc⟩:=aH (h.nds g hg) (aG q)
  exact keep k _ _ hc (by decide) (by decide)
def gu (own:List Nat) (bg t:Nat):Nat:=(own[(bg+t) % own.length]?).getD 0
def nK (cls:List Zf.aI) (own:List Nat) (bg:Nat) (u:Zf.U) (b:Nat) (rs:List (Nat×List Nat)):Prop:=∀(t:Nat) (r:Nat×List Nat),rs[t]?=some r→r.1≠1∧∃(c:Zf.aI) (V F:List Nat) (T':Nat→Zf.U),cls[gu own bg t]?=some c∧qu u b c V F T' r.1 r.2
structure CK (P:Nat→Prop) (w:World) (mb:Nat) (cs:Array Value) (D:List Ng) (nO:Option Addr) (fr:Nat→Nat) (TT:Nat→Zf.U) (G:List Gl) (po:Option Addr) (pc:Nat) (cls:List Zf.aI) (own:List Nat) (bg n:Nat) (E:List Ng) (no1:Option Addr) (nc1:Nat) (T1:Nat→Zf.U) (rs:List (Nat×List Nat)) (oo:Option Addr) (oc:Nat) (wr:World):Prop where
 ow:wr.ownsRow w.heap.size 3 1 (.slice oo (Zf.cK rs).length oc) (Zf.cK rs).length ((Zf.cK rs).map aJ)
 tr:nK cls own bg (TT n) D.length rs
 mc:cR wr mb (cs.setIfInBounds 1 (.slice no1 (D++E).length nc1)) (D++E) no1 nc1 fr G po pc
 ar:aY wr (D++E) (fun g=>P g∧¬rowOf oo g)
 to:Zf.dI (aX (D++E)) fr T1
 old:∀m,m<D.length→T1 m=TT m
 nd:dD D.length E
 el:E.length≤rs.length*78732
 lt:∀v∈Zf.cK rs,v<(D++E).length
 ln:(Zf.cK rs).length≤rs.length*12000000
 fg:aq (cI mb nO) (fun k=>cI mb no1 k∨rowOf oo k) w wr
def U3 (P:Nat→Prop) (w:World) (mb:Nat) (cs:Array Value) (D:List Ng) (nO:Option Addr) (fr:Nat→Nat) (TT:Nat→Zf.U) (G:List Gl) (po:Option Addr) (pc:Nat) (cls:List Zf.aI) (own:List Nat) (bg n:Nat) (k:Nat) (wv av iv:Value) (wr:World):Prop:=
 ∃(rs:List (Nat×List Nat)) (E:List Ng) (no1:Option Addr) (nc1:Nat) (T1:Nat→Zf.U) (oo:Option Addr) (oc:Nat),k+rs.length=own.length∧iv= .int .i64 (rs.length:Int)∧wv= .bool (Zf.mr rs)∧av= .slice oo (Zf.cK rs).length oc∧CK P w mb cs D nO fr TT G po pc cls own bg n E no1 nc1 T1 rs oo oc wr
def nS (P:Nat→Prop) (mb:Nat) (cs:Array Value) (D:List Ng) (nO:Option Addr) (fr:Nat→Nat) (TT:Nat→Zf.U) (G:List Gl) (po:Option Addr) (pc:Nat) (cls:List Zf.aI) (own:List Nat) (bg n i:Nat) (gi:Gl) (w:World) (e:Ending) (w':World):Prop:=
 (∃(rs:List (Nat×List Nat)) (c:Zf.aI) (V F:List Nat) (T2:Nat→Zf.U) (ws:List Nat) (E:List Ng) (F':List Nat) (no':Option Addr) (nc':Nat) (T':Nat→Zf.U) (Gn:List Gl) (po':Option Addr) (pc':Nat),rs.length<own.length∧nK cls own bg (TT n) D.length rs∧cls[gu own bg rs.length]?=some c∧qu (TT n) D.length c V F T2 1 ws∧e= .returned (.int .i64 ((gu own bg rs.length+1:Nat):Int))∧
  cR w' mb ((cs.setIfInBounds 1 (.slice no' (D++E).length nc')).setIfInBounds 3 (.slice po' (G.eraseIdx i++Gn).length pc')) (D++E) no' nc' fr (G.eraseIdx i++Gn) po' pc'∧aY w' (D++E) P∧Zf.dI (aX (D++E)) fr T'∧(∀m,m<D.length→T' m=TT m)∧(∀m∈V++F,T' m=T2 m)∧dD D.length E∧(V++F++F').length=(Zf.NG c).length∧(∀f∈F++F',D.length≤f∧T' f= .v ([],f))∧(F++F').Pairwise (·<·)∧(∀m∈V++F++F',m<(D++E).length)∧bR (mL T' (D++E).length (bT T' (V++F++F') (Zf.NG c))) c.goals Gn∧E.length≤1100000∧aq (cI mb nO) (fun k=>cI mb no' k∨rowOf po' k) w w')∨
 (∃(rs:List (Nat×List Nat)),rs.length=own.length∧nK cls own bg (TT n) D.length rs∧Zf.mr rs=false∧e= .returned (.int .i64 (-2))∧(∃cs2:Array Value,w'.heap[mb]?=some (.cells (cs2.setIfInBounds 5 (.int .i64 4)) 88 (0,0))∧∃no1 n1 nc1,cs2=cs.setIfInBounds 1 (.slice no1 n1 nc1))∧aq (cI mb nO) (fun k=>k=mb) w w')∨
 (∃(rs:List (Nat×List Nat)) (E:List Ng) (no1:Option Addr) (nc1:Nat) (T1:Nat→Zf.U) (oo:Option Addr) (oc:Nat),rs.length=own.length∧nK cls own bg (TT n) D.length rs∧Zf.mr rs=true∧e= .returned (.int .i64 (-1))∧cR w' mb (cs.setIfInBounds 1 (.slice no1 (D++E).length nc1)) (D++E) no1 nc1 fr (G.set i {gi with wt:=true,no:=oo,nc:=oc,nd:=Zf.cK rs}) po pc∧aY w' (D++E) P∧Zf.dI (aX (D++E)) fr T1∧(∀m,m<D.length→T1 m=TT m)∧dD D.length E∧E.length≤1100000∧(∀k,rowOf oo k→w.heap.size≤k)∧aq (fun k=>cI mb nO k∨rowOf po k) (fun k=>cI mb no1 k∨rowOf po k) w w')
theorem qu.low {u:Zf.U} {b b':Nat} (hb:b'≤b) {c:Zf.aI} {V F:List Nat} {T':Nat→Zf.U} {says:Nat} {ws:List Nat} (h:qu u b c V F T' says ws):qu u b' c V F T' says ws:=by
 rcases h with h | ⟨h1,h2,h3,h4,h5⟩
 ·exact Or.inl h
 ·exact Or.inr ⟨h1,h2,h3,fun f hf=>⟨Nat.le_trans hb (h4 f hf).1,(h4 f hf).2⟩,h5⟩
theorem cF {w:World} {b:Nat} {S:TypeId} {sz:Nat} {o:Option Addr} {n cap:Nat} {xs:List Value} (h:w.ownsRow b S sz (.slice o n cap) n xs) {k:Nat} (hk:rowOf o k):b≤k∧k<w.heap.size:=by
 obtain⟨p,hp,hq⟩:=hk
 exact h.lt k (by rw[hp,hq];rfl)
theorem cR.grown {w w':World} {mb:Nat} {cs:Array Value} {D:List Ng} {nO:Option Addr} {nC:Nat} {fr:Nat→Nat} {G:List Gl} {po:Option Addr} {pc:Nat} (h:cR w mb cs D nO nC fr G po pc) {b n oc:Nat} {oo:Option Addr} {xs:List Value} (ho:w.ownsRow b 3 1 (.slice oo n oc) n xs) (hg:w.grownBy w' (Value.slice oo n oc).ownBlock) (tN:∀g∈G,∀k,rowOf g.no k→¬rowOf oo k):cR w' mb cs D nO nC fr G po pc:=by
 have keep:∀(k:Nat) (ys:Array Value) (S:TypeId),w.heap[k]?=some (.cells ys S (0,0))→S≠3→w'.heap[k]?=w.heap[k]?:=fun k ys S hk hS=>hg.block k (af hk) (bX (aN ho hk hS))
 refine⟨⟨(keep mb _ _ h.st.blk (by decide)).trans h.st.blk,h.st.cel,ai h.st.own fun g q=> ?_,h.st.ty⟩,h.ok,h.c3,ai h.pool fun g q=> ?_,fun g hg'=>ai (h.nds g hg') fun k q=> ?_,h.nlt,h.nl⟩
 ·obtain⟨cur,hc⟩:=aH h.st.own (aG q)
  exact keep g _ _ hc (by decide)
 ·obtain⟨cur,hc⟩:=aH h.pool (aG q)
  exact keep g _ _ hc (by decide)
 ·obtain⟨cur,hc⟩:=aH (h.nds g hg') (aG q)
  exact hg.block k (af hc) (bX (tN g hg' k (aG q)))
theorem CK.next {P:Nat→Prop} {w:World} {mb:Nat} {cs:Array Value} {D:List Ng} {nO:Option Addr} {fr:Nat→Nat} {TT:Nat→Zf.U} {G:List Gl} {po:Option Addr} {pc:Nat} {cls:List Zf.aI} {own:List Nat} {bg n:Nat} {E:List Ng} {no1:Option Addr} {nc1:Nat} {T1:Nat→Zf.U} {rs:List (Nat×List Nat)} {oo:Option Addr} {oc:Nat} {wr:World} (h:CK P w mb cs D nO fr TT G po pc cls own bg n E no1 nc1 T1 rs oo oc wr)
 (tN:∀g∈G,∀k,rowOf g.no k→k<w.heap.size) {says:Nat} {ws:List Nat} {c:Zf.aI} {V F:List Nat} {E2:List Ng} {no2:Option Addr} {nc2:Nat} {T2:Nat→Zf.U} {vo':Option Addr} (hc:cls[gu own bg rs.length]?=some c) (ha:qu (T1 n) (D++E).length c V F T2 says ws) (hn:n<D.length) (hs1:says≠1) (hlen:ws.length≤12000000) (hlt:∀v∈ws,v<((D++E)++E2).length) {w2:World} (hst:bG w2 mb 1 ((cs.setIfInBounds 1 (.slice no1 (D++E).length nc1)).setIfInBounds 1 (.slice no2 ((D++E)++E2).length nc2)) 88 ((D++E)++E2) no2 nc2) (hok:bZ ((D++E)++E2) fr) (fD:Zf.dI (aX ((D++E)++E2)) fr T2) (hold:∀m,m<(D++E).length→T2 m=T1 m) (hnd:dD (D++E).length E2) (hel:E2.length≤78732) (har:aY w2 ((D++E)++E2) (fun g=>(P g∧¬rowOf oo g)∧¬rowOf vo' g)) (kU:aq (cI mb no1) (cI mb no2) wr w2)
 {w9:World} (hb:Below w2.heap.size w2 w9) {oo':Option Addr} {oc':Nat} {w':World} (hrow:w'.ownsRow w.heap.size 3 1 (.slice oo' (Zf.cK (rs++[(says,ws)])).length oc') (Zf.cK (rs++[(says,ws)])).length ((Zf.cK (rs++[(says,ws)])).map aJ)) (hgr:w9.grownBy w' (Value.slice oo (Zf.cK rs).length oc).ownBlock) (hat:∀k,rowOf oo' k→rowOf oo k∨w9.heap.size≤k):
 CK P w mb cs D nO fr TT G po pc cls own bg n (E++E2) no2 nc2 T2 (rs++[(says,ws)]) oo' oc' w':=by
 have hz1:=h.fg.size
 have hz2:=kU.size
 have Y8:=hb.size
 have hz':=hgr.size
 have ow2:w9.ownsRow w.heap.size 3 1 (.slice oo (Zf.cK rs).length oc) (Zf.cK rs).length ((Zf.cK rs).map aJ):=ai h.ow fun g q=>by
  obtain⟨cur,p6⟩:=aH h.ow (aG q)
  have h1:=h.mc.st.oF kU p6 (by decide) (by decide)
  rw[hb.block g (af h1),h1,p6]
 have fE:=(((h.mc.asked hst hok (dV _ _) kU).below hb).grown ow2 hgr (fun g hg k hk hk2=>by
  have h1:=tN g hg k hk
  have h2:=(cF h.ow hk2).1
  omega))
 have hu:T1 n=TT n:=h.old n hn
 rw[hu]at ha
 refine⟨hrow,fun t r hr=> ?_,by rw[←List.append_assoc];rw[set_set]at fE;exact fE,?_,by rw[←List.append_assoc];exact fD,fun m hm=> ?_,h.nd.app (by have:=hnd;rwa [List.length_append]at this),?_,?_,?_,?_⟩
 ·by_cases q:t<rs.length
  ·rw[List.getElem?_append_left q]at hr
   exact h.tr t r hr
  ·rw[List.getElem?_append_right (by omega)]at hr
   obtain rfl:t=rs.length:=by
    have:=(List.getElem?_eq_some_iff.1 hr).1
    simp at this
    omega
   simp at hr
   subst hr
   exact⟨hs1,c,V,F,T2,hc,ha.low (by rw[List.length_append];omega)⟩
 ·rw[←List.append_assoc]
  refine har.keep fun g ys hp hg=> ?_
  have Rt:=(hb.block g (af hg)).trans hg
  refine⟨(hgr.block g (af Rt) (bX hp.1.2)).trans Rt,hp.1.1,fun q=> ?_⟩
  rcases hat g q with e | e
  ·exact hp.1.2 e
  ·have:=af Rt;omega
 ·rw[hold m (by rw[List.length_append];omega),h.old m hm]
 ·have:=h.el
  rw[List.length_append,List.length_append,Nat.add_mul]
  simp only[List.length_cons,List.length_nil]
  omega
 ·intro v hv
  rw[←List.append_assoc]
  rw[Zf.pZ]at hv
  rcases List.mem_append.1 hv with q | q
  ·exact Nat.lt_of_lt_of_le (h.lt v q) (dV _ _)
  ·split at q
   ·exact hlt v q
   ·cases q
 ·have h1:=h.ln
  have h2:(if(says,ws).1=3 then(says,ws).2 else []).length≤ws.length:=by
   split
   ·exact Nat.le_refl _
   ·exact Nat.zero_le _
  have h3:(rs++[(says,ws)]).length=rs.length+1:=by simp
  rw[Zf.pZ,List.length_append,h3]
  generalize (if(says,ws).1=3 then(says,ws).2 else []).length=z at*
  omega
 ·have Cr:∀k,cI mb no1 k→cI mb nO k∨w.heap.size≤k:=fun k q=>h.fg.row k (Or.inl q)
  have U4:∀k,rowOf oo k→w.heap.size≤k:=fun k q=>(cF h.ow q).1
  refine⟨hgr.os.trans (hb.os.trans (kU.os.trans h.fg.os)),hgr.tape.trans (hb.tape.trans (kU.tape.trans h.fg.tape)),hgr.output.trans (hb.output.trans (kU.output.trans h.fg.output)),by omega,fun k hk hr=> ?_,fun k q=> ?_⟩
  ·rw[hgr.block k (by omega) (bX fun q=>by have:=U4 k q;omega),hb.block k (by omega),kU.block k (by omega) ?_,h.fg.block k hk hr]
   intro q
   rcases Cr k q with e | e
   ·exact hr e
   ·omega
  ·rcases q with q | q
   ·rcases kU.row k q with e | e
    ·exact Cr k e
    ·right;omega
   ·rcases hat k q with e | e
    ·exact Or.inr (U4 k e)
    ·right;omega
def si (w w':World):Prop:=∀(g:Nat) (ys:Array Value) (S:TypeId),w.heap[g]?=some (.cells ys S (0,0))→S≠224→w'.heap[g]?=w.heap[g]?
theorem si.row {w w':World} (h:si w w') {b:Nat} {S:TypeId} {sz:Nat} {o:Option Addr} {n cap:Nat} {xs:List Value} (ho:w.ownsRow b S sz (.slice o n cap) n xs) (hS:S≠224):w'.ownsRow b S sz (.slice o n cap) n xs:=ai ho fun g q=>by
 obtain⟨cur,hc⟩:=aH ho (aG q)
 exact h g _ _ hc hS
theorem si.st {w w':World} (h:si w w') {mb:Nat} {cs:Array Value} {D:List Ng} {no:Option Addr} {nc:Nat} (hs:bG w mb 1 cs 88 D no nc):bG w' mb 1 cs 88 D no nc:=⟨(h mb _ _ hs.blk (by decide)).trans hs.blk,hs.cel,h.row hs.own (by decide),hs.ty⟩
theorem si.args {w w':World} (h:si w w') {D:List Ng} {P:Nat→Prop} (ha:aY w D P):aY w' D P:=ha.keep fun g _ hp hg=>⟨(h g _ _ hg (by decide)).trans hg,hp⟩
theorem si.alloc (w:World) (o:Obj):si w (w.alloc o):=fun _ _ _ hg _=>Below.heap_alloc _ _ _ (af hg)
theorem si.LH {w:World} {ab:Nat} {C:Array Value} (hb:w.heap[ab]?=some (.cells C 224 (0,0))) (v0 v1 v2:Value):si w (((w.setCell ⟨ab,0,none⟩ v0).setCell ⟨ab,1,none⟩ v1).setCell ⟨ab,2,none⟩ v2):=fun g ys S hg hS=>ir w v0 v1 v2 (fun e=>by
 rw[e,hb]at hg
 simp only[Option.some.injEq,Obj.cells.injEq]at hg
 exact hS hg.2.1.symm)
theorem NM.base {PP:Nat→Prop} {mb:Nat} {cs:Array Value} {D:List Ng} {nO:Option Addr} {fr:Nat→Nat} {TT:Nat→Zf.U} {n:Nat} {c:Zf.aI} {w W:World} {e:Ending} {w':World} (hb:Below w.heap.size w W) (h:NM PP mb cs D nO fr TT n c W e w'):NM PP mb cs D nO fr TT n c w e w'∧∃R',aq (cI mb nO) R' W w':=by
 obtain⟨says,ws,oo,oc,vo',vl,vc',E,V,F,no',nc',T',h1,h2,h3,h4,h5,h6,h7,h8,h9,h10,h11,h12,h13,h14⟩:=h
 exact⟨⟨says,ws,oo,oc,vo',vl,vc',E,V,F,no',nc',T',h1,bV h2 hb.size,h3,h4,h5,h6,h7,h8,h9,h10,h11,h12,(aq.of_below hb).trans h13,fun q=>by
  obtain⟨k1,k2,k3,k4,k5⟩:=h14 q
  exact⟨k1,k2,k3,fun k r=>(k4 k r).imp id fun s=>Nat.le_trans hb.size s,k5⟩⟩,_,h13⟩
theorem CK.fin {P:Nat→Prop} {w:World} {mb:Nat} {cs:Array Value} {D:List Ng} {nO:Option Addr} {fr:Nat→Nat} {TT:Nat→Zf.U} {G:List Gl} {po:Option Addr} {pc:Nat} {cls:List Zf.aI} {own:List Nat} {bg n:Nat} {E:List Ng} {no1:Option Addr} {nc1:Nat} {T1:Nat→Zf.U} {rs:List (Nat×List Nat)} {oo:Option Addr} {oc:Nat} {wr:World} (h:CK P w mb cs D nO fr TT G po pc cls own bg n E no1 nc1 T1 rs oo oc wr)
 (hrl:rs.length<own.length) (ho:own.length≤12) {ws:List Nat} {c:Zf.aI} {V F:List Nat} {E2:List Ng} {no2:Option Addr} {nc2:Nat} {T2:Nat→Zf.U} {vo2:Option Addr} (hc:cls[gu own bg rs.length]?=some c) (ha:qu (T1 n) (D++E).length c V F T2 1 ws) (hn:n<D.length) (hok:bZ ((D++E)++E2) fr) (fD:Zf.dI (aX ((D++E)++E2)) fr T2) (hold:∀m,m<(D++E).length→T2 m=T1 m) (hnd:dD (D++E).length E2) (hel:E2.length≤78732) {w9:World} (kU:aq (cI mb no1) (cI mb no2) wr w9)
 (Rj:∀k,rowOf vo2 k→cI mb no1 k∨wr.heap.size≤k) (hlt:∀m∈V++F,m<((D++E)++E2).length) (fS:fe (D++E).length E2 F) {i:Nat} {gi:Gl} {e:Ending} {w':World} (hp:Rs P mb ((cs.setIfInBounds 1 (.slice no1 (D++E).length nc1)).setIfInBounds 1 (.slice no2 ((D++E)++E2).length nc2)) ((D++E)++E2) (V++F) no2 vo2 fr T2 G i (gu own bg rs.length) c w9 e w'):
 nS P mb cs D nO fr TT G po pc cls own bg n i gi w e w':=by
 obtain⟨E3,F3,no3,nc3,T3,Gn,po3,pc3,rfl,Ru,Wp,Rv,Gt,Rw,Rx,Wq,Ws,Wt,YU,yF⟩:=hp
 rw[set_set,set_set]at Ru
 have hu:T1 n=TT n:=h.old n hn
 rw[hu]at ha
 have hz1:=h.fg.size
 have hz2:=kU.size
 have eA:(D++E++E2++E3)=D++(E++E2++E3):=by simp
 have Wu:bZ (D++E++E2++E3) fr:=Ru.ok
 have hnewF:∀f∈F,(D++E).length≤f∧f<(D++E++E2).length∧T2 f= .v ([],f):=pD hok fD hnd fS
 have hnewF3:=pD Wu Rv Rw Rx
 have nd1:dD (D.length+E.length) E2:=by have:=hnd;rwa [List.length_append]at this
 have nd2:dD (D.length+(E++E2).length) E3:=by
  have:=Rw
  rwa [List.length_append,List.length_append,Nat.add_assoc,←List.length_append]at this
 refine Or.inl ⟨rs,c,V,F,T2,ws,E++E2++E3,F3,no3,nc3,T3,Gn,po3,pc3,hrl,h.tr,hc,ha.low (dV _ _),rfl,by rw[←eA];exact Ru,by rw[←eA];exact Wp,by rw[←eA];exact Rv,fun m hm=> ?_,fun m hm=>Gt m (hlt m hm),(h.nd.app nd1).app nd2,Wq,fun f hf=> ?_,?_,by rw[←eA];exact Ws,by rw[←eA];exact Wt,?_,?_⟩
 ·rw[Gt m (by rw[List.length_append,List.length_append];omega),hold m (by rw[List.length_append];omega),h.old m hm]
 ·rcases List.mem_append.1 hf with q | q
  ·obtain⟨q1,q2,q3⟩:=hnewF f q
   refine⟨by rw[List.length_append]at q1;omega,?_⟩
   rw[Gt f q2,q3]
  ·obtain⟨q1,q2,q3⟩:=hnewF3 f q
   exact⟨by rw[List.length_append,List.length_append]at q1;omega,q3⟩
 ·rw[List.pairwise_append]
  refine⟨fS.ord,Rx.ord,fun x hx y hy=> ?_⟩
  have:=(hnewF x hx).2.1
  have:=(hnewF3 y hy).1
  omega
 ·have h1:=h.el
  have h2:rs.length*78732≤11*78732:=Nat.mul_le_mul_right _ (by omega)
  rw[List.length_append,List.length_append]
  omega
 ·have Cr:∀k,cI mb no1 k→cI mb nO k∨w.heap.size≤k:=fun k q=>h.fg.row k (Or.inl q)
  have hs2:∀k,cI mb no2 k→cI mb nO k∨w.heap.size≤k:=fun k q=>by
   rcases kU.row k q with e | e
   ·exact Cr k e
   ·right;omega
  have hv2:∀k,rowOf vo2 k→cI mb nO k∨w.heap.size≤k:=fun k q=>by
   rcases Rj k q with e | e
   ·exact Cr k e
   ·right;omega
  have hz3:=yF.size
  refine⟨yF.os.trans (kU.os.trans h.fg.os),yF.tape.trans (kU.tape.trans h.fg.tape),yF.output.trans (kU.output.trans h.fg.output),by omega,fun k hk hr=> ?_,fun k q=> ?_⟩
  ·rw[yF.block k (by omega) ?_,kU.block k (by omega) ?_,h.fg.block k hk hr]
   ·intro q
    rcases Cr k q with e | e
    ·exact hr e
    ·omega
   ·rintro(q | q)
    ·rcases hs2 k q with e | e
     ·exact hr e
     ·omega
    ·rcases hv2 k q with e | e
     ·exact hr e
     ·omega
  ·rcases yF.row k q with(e | e) | e
   ·exact hs2 k e
   ·exact hv2 k e
   ·right;omega
theorem DM (w:World) (p:Int):
 Calls Tryz.prog 36 #[.int .i64 p,.int .i64 0] w fun e w'=>e= .returned (.int .i64 0)∧w'=w:=by
 go_enter Tryz.func36,Tryz.ntmps36
 go_wp2_with fail
 go_ret
 exact⟨rfl,rfl⟩
def dB (p:Int) (n:Nat):Nat:=if n=0 then 0 else(p % (n:Int)).toNat
theorem zX (w:World) (p:Int) (n:Nat) (hl:n≤1000000000) (h1: -9223372036854775808≤p) (h2:p≤9223372036854775807):
 Calls Tryz.prog 36 #[.int .i64 p,.int .i64 (n:Int)] w fun e w'=>e= .returned (.int .i64 (dB p n:Int))∧w'=w:=by
 by_cases q:n=0
 ·subst q
  refine(DM w p).mono ?_
  rintro e w' ⟨rfl,rfl⟩
  exact⟨rfl,rfl⟩
 ·refine(xH w p n (by omega) hl h1 h2).mono ?_
  rintro e w' ⟨rfl,rfl⟩
  unfold dB
  rw[if_neg q,Int.toNat_of_nonneg (Int.emod_nonneg p (show (n:Int)≠0 by omega))]
  exact⟨rfl,rfl⟩
theorem tQ (p:Int) (n:Nat) (h:0<n):dB p n<n:=by
 unfold dB
 rw[if_neg (by omega)]
 have b1:=Int.emod_nonneg p (show (n:Int)≠0 by omega)
 have b2:=Int.emod_lt_of_pos p (show (0:Int)<(n:Int)by omega)
 omega
theorem nS.from {P:Nat→Prop} {mb:Nat} {cs:Array Value} {D:List Ng} {nO:Option Addr} {fr:Nat→Nat} {TT:Nat→Zf.U} {G:List Gl} {po:Option Addr} {pc:Nat} {cls:List Zf.aI} {own:List Nat} {bg n i:Nat} {gi:Gl} {w w1:World} {e:Ending} {w':World} (hb:Below w.heap.size w w1) (h:nS P mb cs D nO fr TT G po pc cls own bg n i gi w1 e w'):nS P mb cs D nO fr TT G po pc cls own bg n i gi w e w':=by
 rcases h with⟨rs,c,V,F,T2,ws,E,F',no',nc',T',Gn,po',pc',h1,h2,h3,h4,h5,h6,h7,h8,h9,h10,h11,h12,h13,h14,h15,h16,h17,h18⟩ | ⟨rs,h1,h2,h3,h4,h5,h6⟩ | ⟨rs,E,no1,nc1,T1,oo,oc,h1,h2,h3,h4,h5,h6,h7,h8,h9,h10,h11,h12⟩
 ·exact Or.inl ⟨rs,c,V,F,T2,ws,E,F',no',nc',T',Gn,po',pc',h1,h2,h3,h4,h5,h6,h7,h8,h9,h10,h11,h12,h13,h14,h15,h16,h17,(aq.of_below hb).trans h18⟩
 ·exact Or.inr (Or.inl ⟨rs,h1,h2,h3,h4,h5,(aq.of_below hb).trans h6⟩)
 ·exact Or.inr (Or.inr ⟨rs,E,no1,nc1,T1,oo,oc,h1,h2,h3,h4,h5,h6,h7,h8,h9,h10,fun k q=>Nat.le_trans hb.size (h11 k q),(aq.of_below hb).trans h12⟩)
theorem Pj {cls:List Zf.aI} {tx:List UInt8} {m j:Nat}:∀x∈Zf.bM cls tx m j,x<cls.length:=fun x hx=>by
 have:=(List.mem_filter.1 hx).2
 cases q:cls[x]? with
 | none=>rw[q]at this;cases this
 | some c=>exact(List.getElem?_eq_some_iff.1 q).1
theorem nS.int {P:Nat→Prop} {mb:Nat} {cs:Array Value} {D:List Ng} {nO:Option Addr} {fr:Nat→Nat} {TT:Nat→Zf.U} {G:List Gl} {po:Option Addr} {pc:Nat} {cls:List Zf.aI} {own:List Nat} {bg n i:Nat} {gi:Gl} {w:World} {e:Ending} {w':World} (h:nS P mb cs D nO fr TT G po pc cls own bg n i gi w e w'):∃z:Int,e= .returned (.int .i64 z):=by
 rcases h with⟨_,_,_,_,_,_,_,_,_,_,_,_,_,_,_,_,_,_,rfl,_⟩ | ⟨_,_,_,_,rfl,_⟩ | ⟨_,_,_,_,_,_,_,_,_,_,rfl,_⟩
 ·exact⟨_,rfl⟩
 ·exact⟨_,rfl⟩
 ·exact⟨_,rfl⟩
theorem L3 (w:World) (mb:Nat) (cs:Array Value) (D:List Ng) (nO:Option Addr) (nC:Nat) (fr:Nat→Nat) (TT:Nat→Zf.U) (P:Nat→Prop) (G:List Gl) (po:Option Addr) (pc:Nat) (cls:List Zf.aI) (clo:Option Addr) (clc n:Nat) (d:Ng) (i:Nat) (gi:Gl) (p:Int) (hm:cR w mb cs D nO nC fr G po pc) (har:aY w D P) (fD:Zf.dI (aX D) fr TT) (hP:∀g,w.heap.size≤g→P g) (h0:cs[0]?=some (.slice clo cls.length clc)) (hcl:dh w clo cls.length cls) (mW:∀c∈cls,Zf.jN c) (hcc:cls.length≤12) (hi:i<G.length) (iK:G[i]=gi) (hn:n<D.length) (hd:D[fr n]?=some d) (hk:d.k=3) (hsz:Zf.size (TT n)≤300) (hp1: -9223372036854775808≤p) (hp2:p≤9223372036854775807) (hD:D.length+6000000≤1000000000) (hGl:G.length≤1000000) (xu:5<cs.size):
 Calls Tryz.prog 119 #[.pointer (some ⟨mb,0,none⟩),.int .i64 (i:Int),.int .i64 (n:Int),.int .i64 p] w fun e w'=>nS P mb cs D nO fr TT G po pc cls (Zf.bM cls d.tx.toList d.args.length cls.length) (dB p (Zf.bM cls d.tx.toList d.args.length cls.length).length) n i gi w e w':=by
 have IQ:=hide (Ap w mb cs D nO nC fr n d cls clo clc hm.st hm.ok hn hd hk h0 hcl (fun c hc=>(mW c hc).hk) hcc)
 have hol:=Zf.CI cls d.tx.toList d.args.length cls.length
 have hlt:=Pj (cls:=cls) (tx:=d.tx.toList) (m:=d.args.length) (j:=cls.length)
 generalize Zf.bM cls d.tx.toList d.args.length cls.length=own at*
 have Wv:own.length≤12:=by omega
 have hbg:=tQ p own.length
 have IB:=hide (fun W=>zX W p own.length (by omega) hp1 hp2)
 generalize dB p own.length=bg at*
 clear hd hk d
 have Ww:=hide hlt
 have H0:=hide h0
 have HM:=hide hm
 have nX:=hide har
 have Ry:=hide fD
 have HP:=hide hP
 have vz:=hide hcl
 have Rz:=hide mW
 have X6:=hide iK
 have HN:=hide hn
 have jv:=hide hsz
 have HD:=hide hD
 have mz:=af hm.st.blk
 have U5:=hide (show∀g∈G,∀k,rowOf g.no k→k<w.heap.size from fun g hg k hk=>(cF (hm.nds g hg) hk).2)
 clear hlt hm har fD hP hcl mW iK hn hsz hp1 hp2 hD hol h0
 go_enter Tryz.func119,Tryz.ntmps119
 go_wp2_with fail
 refine(ae IQ).mono ?_
 rintro e w1 ⟨yo,yc,rfl,ow1,hb1⟩
 have z1:=hb1.size
 have L4:=hide ow1
 have bC:=hide hb1
 have HST:=hide (show U3 P w1 mb cs D nO fr TT G po pc cls own bg n own.length (.bool false) (.slice none 0 0) (.int .i64 0) w1 from by
  have Qd:=(ae HM).below hb1
  refine⟨[],[],nO,nC,TT,none,0,by simp,rfl,rfl,rfl,⟨by simpa [Zf.cK] using World.ownsRow_nil _ _ _ _,(fun t r hr=>by simp at hr),?_,?_,by simpa using ae Ry,fun _ _=>rfl,(fun i d hd=>by simp at hd),by simp,(fun v hv=>by simp[Zf.cK]at hv),by simp[Zf.cK],⟨rfl,rfl,rfl,Nat.le_refl _,fun _ _ _=>rfl,fun k q=> ?_⟩⟩⟩
  ·rw[List.append_nil,ml Qd.st.cel];exact Qd
  ·rw[List.append_nil]
   exact((ae nX).below hb1).keep fun g _ hp hg=>⟨hg,hp,fun⟨_,q,_⟩=>by cases q⟩
  ·rcases q with q | ⟨_,q,_⟩
   ·exact Or.inl q
   ·cases q)
 clear ow1 hb1 IQ
 go_wp2_with fail
 refine(ae IB _).mono ?_
 rintro e w1 ⟨rfl,rfl⟩
 go_wp2_with fail
 go_loopg [11,12,25] own.length (fun k wv av iv wr=>U3 P w1 mb cs D nO fr TT G po pc cls own bg n k wv av iv wr)
 case atStart=>exact ae HST
 case round=>
  clear HST IB
  obtain⟨rs,E,no1,nc1,T1,oo,oc,hkj,rfl,rfl,rfl,fw⟩:=hrel
  by_cases hlt:rs.length<own.length
  ·have hbl:bg<own.length:=hbg (by omega)
   have t0:decide (rs.length<own.length)=true:=by simpa using hlt
   have Gu:(bg+rs.length) % own.length<own.length:=Nat.mod_lt _ (by omega)
   have rX:own[(bg+rs.length) % own.length]<cls.length:=ae Ww _ (List.getElem_mem Gu)
   have RD:gu own bg rs.length=own[(bg+rs.length) % own.length]:=by unfold gu;rw[List.getElem?_eq_getElem Gu];rfl
   have NL:ez w1 wr:=fun g ys S hg hS=>((ae HM).below (ae bC)).st.oF fw.fg hg (by rcases hS with q | q | q<;>(rw[q];decide)) (by rcases hS with q | q | q<;>(rw[q];decide))
   have L5:dh wr clo cls.length cls:=NL.cls ((ez.below (ae bC)).cls (ae vz))
   obtain⟨g,hg⟩:∃g,yo=some ⟨g,0,none⟩:=by
    rcases(ae L4).2 with⟨q,q2⟩ | ⟨g,cp,cur,q,_⟩
    ·omega
    ·simp only[Value.slice.injEq]at q
     exact⟨g,q.1⟩
   subst hg
   have Gv:wr.ownsRow w.heap.size 3 1 (.slice (some ⟨g,0,none⟩) own.length yc) own.length (own.map aJ):=ai (ae L4) fun k q=>by
    obtain⟨cur,p6⟩:=aH (ae L4) (aG q)
    exact(((ae HM).below (ae bC)).st.oF fw.fg p6 (by decide) (by decide)).trans p6.symm
   have YV:=hide Gv
   have gz:=(Gv.lt g rfl).2
   have fq:wr.cell? ⟨g,(bg+rs.length) % own.length,none⟩=some (.int .i64 (own[(bg+rs.length) % own.length]:Int)):=by
    rw[Gv.cellAt _ (by omega),List.getElem?_map,List.getElem?_eq_getElem Gu]
    rfl
   have IC:=hide (fun W=>xH W ((bg:Int)+(rs.length:Int)) own.length (by omega) (by omega) (by omega) (by omega))
   have e0:((bg:Int)+(rs.length:Int)) % (own.length:Int)=(((bg+rs.length) % own.length:Nat):Int):=by rw[Int.natCast_emod,Int.natCast_add]
   rw[e0]at IC
   generalize hq:(bg+rs.length) % own.length=q at*
   generalize EA:own[q]=which at*
   obtain⟨gc,vs,ca,RF,hcb,hct,hcall⟩:=L5.2 (fun e=>by rw[e]at rX;simp at rX)
   have jh:which<vs.length:=by have:=hcall.length;omega
   have fc:∀i,i<6→wr.cell? ⟨gc,which*6+i,none⟩=(oh vs[which])[i]?:=fun i hi=>by
    rw[ah hcb,←Array.getElem?_toList,←Cm jh i hi,←hct,List.getElem?_take_of_lt (by omega)]
   have f0:=fc 0 (by omega)
   have f1:=fc 1 (by omega)
   have f2:=fc 2 (by omega)
   have f3:=fc 3 (by omega)
   have f4:=fc 4 (by omega)
   have f5:=fc 5 (by omega)
   simp only[oh,List.getElem?_cons_zero,List.getElem?_cons_succ,Nat.add_zero]at f0 f1 f2 f3 f4 f5
   have gcz:=af hcb
   have zV:eH wr vs[which].a vs[which].o1 vs[which].n1 vs[which].o2 vs[which].n2 cls[which]:=hcall.at which jh rX
   have hDE:(D++E).length+5000000≤1000000000:=by
    have h1:=fw.el
    have h2:=ae HD
    have h3:rs.length*78732≤12*78732:=Nat.mul_le_mul_right _ (by omega)
    rw[List.length_append]
    omega
   have hT1:T1 n=TT n:=fw.old n (ae HN)
   have hnDE:n<(D++E).length:=Nat.lt_of_lt_of_le (ae HN) (dV _ _)
   have IA:=hide (fun W (hu:Below wr.heap.size wr W)=>(LZ W mb (cs.setIfInBounds 1 (.slice no1 (D++E).length nc1)) (D++E) no1 nc1 fr T1 (fun g=>P g∧¬rowOf oo g) vs[which].a vs[which].o1 vs[which].o2 vs[which].n1 vs[which].c1 vs[which].n2 vs[which].c2 n cls[which] ⟨fw.mc.st.below hu,fw.mc.ok,fw.to,fw.ar.below hu,Nat.le_refl _⟩ (fun g hg=>⟨ae HP g (by have:=hu.size;have:=fw.fg.size;omega),fun q=>by have:=(cF fw.ow q).2;have:=hu.size;omega⟩) (zV.keep (aQ.below hu)) (ae Rz _ (List.getElem_mem rX)) hnDE (by rw[hT1];exact ae jv) (by omega)).mono (fun e w' q=>q.base hu))
   have m0:wr.cell? ⟨mb,0,none⟩=some (.slice clo cls.length clc):=(ah fw.mc.st.blk 0).trans (by rw[Array.getElem?_setIfInBounds_ne (by omega)];exact ae H0)
   have mzr:=af fw.mc.st.blk
   rw[RF]at m0
   generalize vs[which]=v at*
   obtain⟨⟨ak0,av0,ax0,ao0,an0,ac0⟩,o1,n1,c1,o2,n2,c2⟩:=v
   dsimp only at f0 f1 f2 f3 f4 f5 IA
   have i0:(0:Int)≤(q:Int):=by omega
   have i1:(q:Int)<(own.length:Int):=by omega
   have k0:(0:Int)≤(which:Int):=by omega
   have k1:(which:Int)<(cls.length:Int):=by omega
   have iM:=hide fw
   have Wx:=hide L5
   have vB:=hide rX
   have RG:=hide RD
   have X7:=hide hDE
   have ba:=hide hlt
   have aW:=hide hkj
   have Qn:=hide hT1
   have Eb:=hide RF
   have hrl:rs.length≤12:=by omega
   clear fw L5 NL Gv hcb hct hcall jh fc zV hDE hT1 hnDE RD hlt hkj RF e0 hq EA Gu
   go_wp2_with fail
   refine(ae IC _).mono ?_
   rintro e wr ⟨rfl,rfl⟩
   go_wp2_with fail
   go_region_with (go_at_call 159;refine(ae IA _ (by first | exact Below.refl _ _ | exact(Below.refl _ _).drew | exact((Below.refl _ _).alloc (Nat.le_refl _) _).drew | exact(Below.refl _ _).alloc (Nat.le_refl _) _ | exact(Below.refl _ _).drew.alloc (Nat.le_refl _) _)).mono ?_;rintro y w2 ⟨⟨says,ws,xo,xc,vo2,vl,vc2,E2,V,F,no2,nc2,T2,rfl,U6,qw,L6,RH,RI,Gw,Gx,Gy,L8,L9,RJ,Ma,Cn⟩,R9,hfgW⟩;first | (have ab:=((ae iM).mc.st.below (by first | exact((Below.refl _ _).alloc (Nat.le_refl _) _).drew | exact(Below.refl _ _).alloc (Nat.le_refl _) _)).oF hfgW (heap_alloc_new wr _) (by decide) (by decide);have b0:=ah ab 0;have b1:=ah ab 1;have b2:=ah ab 2;have y0:=au ab 0;have y1:=au ab 1;have y2:=au ab 2;have abz:=af ab;simp only[List.getElem?_toArray,List.getElem?_cons_zero,List.getElem?_cons_succ]at b0 b1 b2) | skip)
   all_goals
    first
     | (have tk:=si.LH ab (.int .i64 (says:Int)) (.slice xo ws.length xc) (.slice vo2 vl vc2)
        have hab:=aw (aw (aw ab 0 (.int .i64 (says:Int))) 1 (.slice xo ws.length xc)) 2 (.slice vo2 vl vc2)
        have zY:=((Ma.eN (Nat.le_refl _) 0 (.int .i64 (says:Int))).eN (Nat.le_refl _) 1 (.slice xo ws.length xc)).eN (Nat.le_refl _) 2 (.slice vo2 vl vc2)
        clear ab b0 b1 b2 y0 y1 y2 abz
        generalize (((w2.setCell ⟨wr.heap.size,0,none⟩ (.int .i64 (says:Int))).setCell ⟨wr.heap.size,1,none⟩ (.slice xo ws.length xc)).setCell ⟨wr.heap.size,2,none⟩ (.slice vo2 vl vc2))=w9 at*)
     | (have tk:=si.alloc w2 (.cells #[.int .i64 (says:Int),.slice xo ws.length xc,.slice vo2 vl vc2] 224)
        have hab:=heap_alloc_new w2 (.cells #[.int .i64 (says:Int),.slice xo ws.length xc,.slice vo2 vl vc2] 224)
        have zY:=Ma.trans (aq.of_below ((Below.refl _ _).alloc (Nat.le_refl _) (.cells #[.int .i64 (says:Int),.slice xo ws.length xc,.slice vo2 vl vc2] 224)))
        generalize w2.alloc (.cells #[.int .i64 (says:Int),.slice xo ws.length xc,.slice vo2 vl vc2] 224)=w9 at*)
    have c0:=ah hab 0
    have c1:=ah hab 1
    have c2:=ah hab 2
    have abz:=af hab
    simp only[List.getElem?_toArray,List.getElem?_cons_zero,List.getElem?_cons_succ,List.setIfInBounds_toArray,List.set_cons_zero,List.set_cons_succ]at c0 c1 c2
    have st9:=tk.st RI
    have ar9:=tk.args RJ
    have xo9:=tk.row U6 (by decide)
    have NN:=hide L6
    have jy:=hide (show says≠1→∀(oo':Option Addr) (oc':Nat) (w':World),w'.ownsRow w1.heap.size 3 1 (.slice oo' (Zf.cK (rs++[(says,ws)])).length oc') (Zf.cK (rs++[(says,ws)])).length ((Zf.cK (rs++[(says,ws)])).map aJ)→w9.grownBy w' (Value.slice oo (Zf.cK rs).length oc).ownBlock→(∀k,rowOf oo' k→rowOf oo k∨w9.heap.size≤k)→CK P w1 mb cs D nO fr TT G po pc cls own bg n (E++E2) no2 nc2 T2 (rs++[(says,ws)]) oo' oc' w' from fun hs1 oo' oc' w' k1 k2 k3=>(ae iM).next (fun g hg k hk=>Nat.lt_of_lt_of_le (ae U5 g hg k hk) z1) (by rw[ae RG];exact List.getElem?_eq_getElem (ae vB)) qw (ae HN) hs1 L6 RH st9 Gw Gx Gy L8 L9 ar9 zY (Below.refl _ _) k1 k2 k3)
    have zZ:=hide (show w9.ownsRow w1.heap.size 3 1 (.slice oo (Zf.cK rs).length oc) (Zf.cK rs).length ((Zf.cK rs).map aJ)from ai (ae iM).ow fun k q=>by
     obtain⟨cur,p6⟩:=aH (ae iM).ow (aG q)
     exact((ae iM).mc.st.oF zY p6 (by decide) (by decide)).trans p6.symm)
    have RM:=hide xo9
    have U7:=hide (show w1.heap.size≤w9.heap.size from Nat.le_trans (ae iM).fg.size zY.size)
    have NP:=hide (show says=1→vl=(V++F).length∧Calls Tryz.prog 160 #[.pointer (some ⟨mb,0,none⟩),.int .i64 (i:Int),.int .i64 (which:Int),.agg #[.slice vo2 vl vc2]] w9 fun e w'=>nS P mb cs D nO fr TT G po pc cls own bg n i gi w e w' from fun hs1=>by
     subst hs1
     obtain⟨j1,rfl,j3,j4,j5,j6,j7⟩:=Cn rfl
     refine⟨rfl,?_⟩
     have X8:=(ae iM).mc.asked st9 Gw (dV _ _) zY
     have Wy:ez wr w9:=fun g ys S hg hS=>(ae iM).mc.st.oF zY hg (by rcases hS with q | q | q<;>(rw[q];decide)) (by rcases hS with q | q | q<;>(rw[q];decide))
     have Wz:=Gr w9 mb _ ((D++E)++E2) (V++F) no2 nc2 vo2 vc2 fr T2 P G po pc i which cls clo clc X8 (ar9.keep fun g _ hp hg=>⟨hg,hp.1.1,hp.2⟩) Gx (tk.row j3 (by decide)) j5 (fun x hx k hk hk2=>by
      have q1:=ae U5 x hx k hk
      rcases j4 k hk2 with(e | e) | e
      ·obtain⟨cur,p6⟩:=aH ((ae iM).mc.nds x hx) hk
       rw[e,(ae iM).mc.st.blk]at p6
       simp only[Option.some.injEq,Obj.cells.injEq]at p6
       exact absurd p6.2.1 (by decide)
      ·obtain⟨cur,p6⟩:=aH ((ae iM).mc.nds x hx) hk
       exact aN (ae iM).mc.st.own p6 (by decide) e
      ·have:=(ae iM).fg.size;omega) (fun g hg=>ae HP g (by have:=ae U7;omega)) (by rw[set_set,Array.getElem?_setIfInBounds_ne (by omega)];exact ae H0) (Wy.cls (ae Wx)) (ae vB) hcc (ae Rz _ (List.getElem_mem (ae vB))) j6 (by have:=ae X7;have hq:(D++E++E2).length=(D++E).length+E2.length:=List.length_append;omega) hGl
     refine Wz.mono fun e w' hp=> ?_
     have ho:=ae RG
     exact((ae iM).fin (ae ba) Wv (by rw[ho];exact List.getElem?_eq_getElem (ae vB)) qw (ae HN) Gw Gx Gy L8 L9 zY j4 j5 j7 (by rw[ho];exact hp)).from (ae bC))
    have hs3:says=1∨says=2∨says=3:=by
     rcases qw with⟨_,q,_⟩ | ⟨_,_,_,_,_,q,_⟩
     ·rw[q];exact AO _
     ·rw[q];exact AO _
    clear st9 ar9 xo9 tk RI RJ U6 zY Ma hfgW qw L6 RH Gw Gx Gy L8 L9 Cn hab
    rcases hs3 with rfl | rfl | rfl
    ·have hcm:=(ae NP rfl).2
     have IM:=hide hcm
     clear hcm NP jy zZ RM
     go_wp2_with fail
     refine(ae IM).mono ?_
     intro y w10 h10
     obtain⟨z10,rfl⟩:=h10.int
     have xR:=hide h10
     clear h10 IM
     go_wp2_with fail
     go_ret
     exact ae xR
    ·have hnd:Zf.cK (rs++[(2,ws)])=Zf.cK rs:=by rw[Zf.pZ];simp
     have JB:Zf.mr (rs++[(2,ws)])=Zf.mr rs:=by rw[Zf.zW];simp
     have hnx:=ae jy (by omega) oo oc w9 (by rw[hnd];exact ae zZ) (World.grownBy.refl _ _) (fun k q=>Or.inl q)
     have RN:=hide hnx
     have zD:=hide hnd
     have RQ:=hide JB
     clear hnx hnd JB NP jy zZ RM
     go_wp2_with fail
     go_roundg (gk - 1)
     case measure=>have:=ae aW;have:=ae ba;omega
     case rel=>exact⟨rs++[(2,ws)],_,_,_,_,_,_,by have:=ae aW;have:=ae ba;simp;omega,by rw[List.length_append];go_num,by rw[ae RQ],by rw[ae zD],ae RN⟩
    ·have hnd:Zf.cK (rs++[(3,ws)])=Zf.cK rs++ws:=by rw[Zf.pZ];simp
     have JB:Zf.mr (rs++[(3,ws)])=true:=by rw[Zf.zW];simp
     have hnn:(Zf.cK rs).length+ws.length≤1000000000:=by
      have h1:=(ae iM).ln
      have h2:rs.length*12000000≤12*12000000:=Nat.mul_le_mul_right _ hrl
      have h3:=ae NN
      omega
     have zD:=hide hnd
     have RQ:=hide JB
     have jD:=hide hnn
     clear hnd JB hnn NP
     go_wp2_with (at_builtin;go_must (refine DL rfl (.tmp 61) (.tmp 63) rfl w1.heap.size wr.heap.size (.slice oo (Zf.cK rs).length oc) (Zf.cK rs).length (Zf.cK rs) rfl (ae zZ) xo ws.length xc ws rfl (ae RM) (ae jD) (ae U7) ?_);go_must (intro v' w12 hown' hgrow hat;obtain⟨oo',oc',hv'⟩:=gH hown';subst hv';have WC:=hide (show w12.ownsRow w1.heap.size 3 1 (.slice oo' (Zf.cK (rs++[(3,ws)])).length oc') (Zf.cK (rs++[(3,ws)])).length ((Zf.cK (rs++[(3,ws)])).map aJ)from by rw[ae zD,List.length_append];exact hown');have RN:=hide (ae jy (by omega) oo' oc' w12 (ae WC) hgrow (fun k q=>by rcases hat with e | e;exact Or.inl (aG (by rw[←e];obtain⟨pp,hp,hk⟩:=q;rw[hp,hk];rfl));(right;obtain⟨pp,hp,hk⟩:=q;rw[hp]at e;have e2:pp.block=w9.heap.size:=(by simpa [Value.ownBlock] using e);omega)));clear hown' hgrow hat))
     go_roundg (gk - 1)
     case measure=>have:=ae aW;have:=ae ba;omega
     case rel=>exact⟨rs++[(3,ws)],_,_,_,_,_,_,by have:=ae aW;have:=ae ba;simp;omega,by rw[List.length_append];go_num,by rw[ae RQ],by rw[ae zD,List.length_append],ae RN⟩
  ·have hrl:rs.length=own.length:=by omega
   have t0:decide (rs.length<own.length)=false:=by simp;omega
   have iM:=hide fw
   have vD:=hide hrl
   cases Gz:Zf.mr rs with
   | false=>
    have IFL:=hide (vZ wr mb _ 4 fw.mc.st.blk (by simpa using xu))
    have vE:=hide (aw fw.mc.st.blk 5 (.int .i64 4))
    have Mb:=hide Gz
    clear fw hkj hlt hrl Gz
    go_wp2_with fail
    refine(ae IFL).mono ?_
    rintro y w3 ⟨rfl,rfl⟩
    go_wp2_with fail
    go_ret
    refine(Or.inr (Or.inl ⟨rs,ae vD,(ae iM).tr,ae Mb,rfl,⟨_,ae vE,no1,_,nc1,rfl⟩,?_⟩):nS P mb cs D nO fr TT G po pc cls own bg n i gi w _ _)
    have hf:=(ae iM).fg
    have hz:=(ae bC).size
    refine(aq.of_below (ae bC)).trans ⟨hf.os,hf.tape,hf.output,by rw[bS];exact hf.size,fun k hk hr=> ?_,fun k q=>Or.inl (Or.inl q)⟩
    rw[aC _ _ _ _ (fun e=>hr (Or.inl e)),hf.block k hk hr]
   | true=>
    have hD2:(Zf.cK rs).length≤1000000000:=by
     have h1:=fw.ln
     have h2:rs.length*12000000≤12*12000000:=Nat.mul_le_mul_right _ (by omega)
     omega
    have IW:=hide (Cv wr mb _ (D++E) no1 nc1 fr G po pc i gi (Zf.cK rs) oo oc fw.mc hi (ae X6) (bV fw.ow (Nat.zero_le _)) fw.lt hD2)
    have Mb:=hide Gz
    clear fw hkj hlt hrl Gz hD2
    go_wp2_with fail
    refine(ae IW).mono ?_
    rintro y w3 ⟨rfl,mc3,fr3⟩
    have Ri:=hide mc3
    have vq:=hide fr3
    clear mc3 fr3 IW
    go_wp2_with fail
    go_ret
    have hf:=(ae iM).fg
    have hpo:=(ae iM).mc
    have hel:=(ae iM).el
    have h12:rs.length*78732≤12*78732:=Nat.mul_le_mul_right _ (by have:=ae vD;omega)
    refine(Or.inr (Or.inr ⟨rs,E,no1,nc1,T1,oo,oc,ae vD,(ae iM).tr,ae Mb,rfl,ae Ri,?_,(ae iM).to,(ae iM).old,(ae iM).nd,by omega,fun k q=>Nat.le_trans (ae bC).size (cF (ae iM).ow q).1,?_⟩):nS P mb cs D nO fr TT G po pc cls own bg n i gi w _ _)
    ·exact(ae iM).ar.keep fun g _ hp hg=>⟨((ae vq).block g (af hg) (aN hpo.pool hg (by decide))).trans hg,hp.1⟩
    ·refine(aq.of_below (ae bC)).trans ⟨(ae vq).os.trans hf.os,(ae vq).tape.trans hf.tape,(ae vq).output.trans hf.output,Nat.le_trans hf.size (ae vq).size,fun k hk hr=> ?_,fun k q=> ?_⟩
     ·rw[(ae vq).block k (Nat.lt_of_lt_of_le hk hf.size) (fun e=>hr (Or.inr e)),hf.block k hk (fun e=>hr (Or.inl e))]
     ·rcases q with q | q
      ·rcases hf.row k (Or.inl q)with e | e
       ·exact Or.inl (Or.inl e)
       ·exact Or.inr e
      ·exact Or.inl (Or.inr q)
end Go.Proofs.YthfjnfcekeknlabGreatDoor
