import Derived.Test.YthfjnfcekeknlaaGreatDoorAp26
import Derived.Test.YthfjnfcekeknlaaGreatDoorAp29
import Derived.Deep.LoopGhost
import Derived.Maps.AppendAt
import Derived.OwnWalk
import Derived.Lib.SlBytesRow
set_option maxHeartbeats 8000000
set_option maxRecDepth 100000
namespace Za
def yr (tx:List UInt8) (m:Nat) (c:aL):Bool:=decide (c.head.text.toList=tx)&&decide (c.head.args.length=m)
def cr (cls:List aL) (tx:List UInt8) (m j:Nat):List Nat:=(List.range j).filter fun i=>match cls[i]? with
 | some c=>yr tx m c
 | none=>false
theorem I3 (cls:List aL) (tx:List UInt8) (m j:Nat) (h:j<cls.length):cr cls tx m (j+1)=cr cls tx m j++(if yr tx m cls[j]=true then [j]else []):=by
 unfold cr
 rw[List.range_succ,List.filter_append]
 congr 1
 simp only[List.filter_cons,List.filter_nil,List.getElem?_eq_getElem h]
theorem Cp (cls:List aL) (tx:List UInt8) (m j:Nat):(cr cls tx m j).length≤j:=by
 have:=List.length_filter_le (fun i=>match cls[i]? with
  | some c=>yr tx m c
  | none=>false) (List.range j)
 rwa [List.length_range]at this
end Za
namespace Go.Proofs.YthfjnfcekeknlaaGreatDoor
open Go.RowKit
def T7 (w:World) (cls:List Za.aL) (tx:List UInt8) (m:Nat) (L:Array Value) (k:Nat) (av iv:Value) (wr:World):Prop:=
 ∃j:Nat,k+j=cls.length∧iv= .int .i64 (j:Int)∧wr.ownsRow (w.heap.size+1) 3 1 av (Za.cr cls tx m j).length ((Za.cr cls tx m j).map aM)∧Below w.heap.size w wr∧wr.heap[w.heap.size]?=some (.cells L 177 (0,0))
theorem Af (w:World) (mb:Nat) (cs:Array Value) (D:List Ng) (nO:Option Addr) (nC:Nat) (fr:Nat→Nat) (n:Nat) (d:Ng) (cls:List Za.aL) (clo:Option Addr) (clc:Nat) (hs:bG w mb 1 cs 91 D nO nC) (aF:bW D fr) (hn:n<D.length) (hd:D[fr n]?=some d) (hk:d.k=3) (h0:cs[0]?=some (.slice clo cls.length clc)) (gh:cX w clo cls.length cls) (Eg:∀c∈cls,c.head.kind=2) (hl:cls.length≤12):
 Calls Tryz.prog 181 #[.pointer (some ⟨mb,0,none⟩),.int .i64 (n:Int)] w fun e w'=>∃oo oc,e= .returned (.slice oo (Za.cr cls d.tx.toList d.args.length cls.length).length oc)∧w'.ownsRow w.heap.size 3 1 (.slice oo (Za.cr cls d.tx.toList d.args.length cls.length).length oc) (Za.cr cls d.tx.toList d.args.length cls.length).length ((Za.cr cls d.tx.toList d.args.length cls.length).map aM)∧Below w.heap.size w w':=by
 obtain⟨k,hop⟩:=aF.hop n hn
 have dx:=aF.nd (fr n) (aF.lt hn)
 have hdd:D[fr n]'(aF.lt hn)=d:=(List.getElem?_eq_some_iff.1 hd).2
 rw[hdd]at dx
 obtain⟨dv,dc,dl⟩:=dx.c hk
 have HL:=af (eK w mb 1 cs _ D nO nC n (fr n) k d hs hop hd)
 rw[hk,dv,dc]at HL
 have f0:=(ah hs.blk 0).trans h0
 have mz:=ag hs.blk
 have vF:=af gh
 have WV:=af Eg
 obtain⟨tj,hj,jo,jq,jr⟩:=info_parts infoIn
 generalize d.args.length=dm at*
 generalize d.tx=dtx at*
 clear hs aF hn hd hk h0 gh Eg hop dx hdd dv dc dl d
 go_enter Tryz.func181,Tryz.ntmps181
 go_wp2_with fail
 refine(ae HL).mono ?_
 rintro e w2 ⟨rfl,hb2⟩
 have f2:=(hb2.cell (p:=⟨mb,0,none⟩) mz).trans f0
 have mz2:mb<w2.heap.size:=Nat.lt_of_lt_of_le mz hb2.size
 have aZ:=af hb2
 have z2:=hb2.size
 clear hb2 HL f0
 have HST:=af (show T7 w2 cls dtx.toList dm #[.int .i64 3,.int .i64 0,.string dtx,.int .i64 (dm:Int)] cls.length (.slice none 0 0) (.int .i64 0) (w2.alloc (.cells #[.int .i64 3,.int .i64 0,.string dtx,.int .i64 (dm:Int)] 177))from ⟨0,by omega,rfl,by simpa [Za.cr] using World.ownsRow_nil _ _ _ _,(Below.refl _ _).alloc (Nat.le_refl _) _,heap_alloc_new _ _⟩)
 go_wp2_with fail
 go_loopg [6,19] cls.length (fun k av iv wr=>T7 w2 cls dtx.toList dm #[.int .i64 3,.int .i64 0,.string dtx,.int .i64 (dm:Int)] k av iv wr)
 case atStart=>exact ae HST
 case round=>
  clear HST
  obtain⟨j,hkj,rfl,how,aS,dS⟩:=hrel
  obtain⟨oo,oc,rfl⟩:=gC how
  by_cases hlt:j<cls.length
  ·obtain⟨g,vs,ca,hao,fo,lS,mq⟩:=(ae vF).2 (fun q=>by rw[q]at hlt;simp at hlt)
   subst hao
   have kG:j<vs.length:=by have:=mq.length;omega
   have dL:Below w.heap.size w wr:=(ae aZ).trans (aS.mono z2)
   have hcw:wr.heap[g]?=some (.cells ca 78 (0,0)):=(dL.block g (ag fo)).trans fo
   have fc:∀i,i<6→wr.cell? ⟨g,j*6+i,none⟩=(n9 vs[j])[i]?:=fun i hi=>by
    rw[ah hcw,←Array.getElem?_toList,←B7 kG i hi,←lS,List.getElem?_take_of_lt (by omega)]
   have e0:=fc 0 (by omega)
   have e1:=fc 1 (by omega)
   have e2:=fc 2 (by omega)
   have e3:=fc 3 (by omega)
   have e4:=fc 4 (by omega)
   have e5:=fc 5 (by omega)
   simp only[n9,List.getElem?_cons_zero,List.getElem?_cons_succ,Nat.add_zero]at e0 e1 e2 e3 e4 e5
   have zL:ej w vs[j].a vs[j].o1 vs[j].n1 vs[j].o2 vs[j].n2 cls[j]:=mq.at j kG hlt
   obtain⟨⟨ha1,ha2,WW,WX,T8,WY⟩,WZ⟩:=zL.head
   have hk2:=ae WV _ (List.getElem_mem hlt)
   have T9:vs[j].a.k=3:=by rw[ha1,hk2];rfl
   have Ua:=T8 hk2
   rw[T9]at e0
   rw[Ua]at e2
   rw[ha2]at e3
   have gz:g<wr.heap.size:=ag hcw
   have lz:w2.heap.size<wr.heap.size:=ag dS
   have i0:(0:Int)≤(j:Int):=by omega
   have i1:(j:Int)<(cls.length:Int):=by omega
   have fp:=af (Za.I3 cls dtx.toList dm j hlt)
   have hle:=Za.Cp cls dtx.toList dm j
   have Ve:(Za.cr cls dtx.toList dm j).length≤1000000:=by omega
   have l0:=ah dS 0
   have l1:=ah dS 1
   have l2:=ah dS 2
   have l3:=ah dS 3
   simp only[List.getElem?_toArray,List.getElem?_cons_zero,List.getElem?_cons_succ]at l0 l1 l2 l3
   have LA:=af (fun W=>qM W ⟨3,vs[j].a.val,cls[j].head.text,vs[j].a.ao,cls[j].head.args.length,vs[j].a.cap⟩)
   have HOW:=af how
   have cm:=af aS
   have Bw:=af dS
   have bf:=af hkj
   have bp:=af hlt
   generalize Za.cr cls dtx.toList dm j=Z at*
   generalize vs[j]=v at*
   have hcs:Za.yr dtx.toList dm cls[j]=(decide (cls[j].head.text.toList=dtx.toList)&&decide (cls[j].head.args.length=dm)):=rfl
   generalize hq:Za.yr dtx.toList dm cls[j]=q at*
   generalize cls[j].head.text=bh at*
   generalize cls[j].head.args.length=hm at*
   obtain⟨⟨ak0,av0,ax0,ao0,an0,ac0⟩,o1,n1,c1,o2,n2,c2⟩:=v
   dsimp only at e0 e1 e2 e3 e4 e5 LA
   have Eh:=af hcs
   clear how aS dS hkj hlt fc hle dL hcw lS mq fo zL ha1 ha2 WW WX T8 hk2 T9 Ua WY WZ hq hcs kG
   have hlv:jh ⟨3,av0,bh,ao0,hm,ac0⟩=0:=rfl
   rw[hlv]at LA
   clear hlv
   cases q with
   | true=>
    have hh:=(ae Eh).symm
    simp only[Bool.and_eq_true,decide_eq_true_eq]at hh
    obtain⟨Qu,rfl⟩:=hh
    have t1:(bh.toList == dtx.toList)=true:=by rw[Qu];simp
    have t2:bh=dtx:=by
     exact Hg Qu
    subst t2
    clear Qu Eh
    rw[if_pos rfl]at fp
    go_wp2_with fail
    go_region_with (go_at_call 95;refine(ae LA _).mono ?_;rintro e w5 ⟨rfl,bt⟩;have m0:=(bt.cell (p:=⟨w2.heap.size,0,none⟩) (by simp;omega)).trans ((World.cell?_alloc_past _ _ _ lz).trans l0);have m1:=(bt.cell (p:=⟨w2.heap.size,1,none⟩) (by simp;omega)).trans ((World.cell?_alloc_past _ _ _ lz).trans l1);have m2:=(bt.cell (p:=⟨w2.heap.size,2,none⟩) (by simp;omega)).trans ((World.cell?_alloc_past _ _ _ lz).trans l2);have m3:=(bt.cell (p:=⟨w2.heap.size,3,none⟩) (by simp;omega)).trans ((World.cell?_alloc_past _ _ _ lz).trans l3);have nG:Below wr.heap.size wr w5:=(by first | exact((Below.refl _ wr).alloc (Nat.le_refl _) _).trans (bt.mono (by simp)) | exact(((Below.refl _ wr).alloc (Nat.le_refl _) _).drew).trans (bt.mono (by simp)));have bH:=af ((ae cm).trans (nG.mono (ae cm).size));have Cq:=af ((nG.block _ lz).trans (ae Bw));have lT:=af (ai (ae HOW) (fun k q=>nG.block k ((ae HOW).lt k q).2));have z5:w2.heap.size<w5.heap.size:=Nat.lt_of_lt_of_le lz nG.size;clear bt nG)
    all_goals
     go_wp2_with (at_builtin;go_must (refine wpList_append_own_at _ rfl (.tmp 29) (.tmp 31) 25 rfl (w2.heap.size+1) 3 tj (.int .i64 0) 1 8 Tryz.underlying25 hj jo jq jr rfl (by decide) _ Z.length (Z.map aM) rfl ((ae lT).alloc _) ⟨w5.heap.size,0,none⟩ 1 1 [.int .i64 (j:Int)] rfl rfl (iU _ _ _ _ rfl) (by simp[Value.oneCell']) (by unfold maxLen;omega) (by omega) (by simp;omega) ?_);go_must (intro v' w7 hown' hgrow _ _;have mA:=af hown';have js:=af (((ae bH).alloc (ae bH).size _).grown hgrow (by have:=(ae bH).size;simp;omega) (fun k q=>by have:=((ae lT).lt k q).1;omega));have W5:=af ((hgrow.block w2.heap.size (by simp;omega) (fun q=>by have:=((ae lT).lt w2.heap.size q.symm).1;omega)).trans ((Below.heap_alloc _ _ _ z5).trans (ae Cq)));clear hown' hgrow))
     go_roundg (gk - 1)
     case measure=>have:=ae bf;have:=ae bp;omega
     case rel=>exact⟨j+1,by have:=ae bf;have:=ae bp;omega,by go_num,by rw[ae fp];have:=ae mA;simpa [aM] using this,ae js,ae W5⟩
   | false=>
    have hh:=(ae Eh).symm
    rw[if_neg (by simp),List.append_nil]at fp
    have W6:bh.toList≠dtx.toList∨(bh=dtx∧hm≠dm):=by
     by_cases e1:bh.toList=dtx.toList
     ·right
      refine⟨Hg e1,fun e2=> ?_⟩
      simp[e1,e2]at hh
     ·exact Or.inl e1
    clear hh Eh
    rcases W6 with hh | ⟨rfl,hh⟩
    ·have t1:(bh.toList == dtx.toList)=false:=by simpa using hh
     clear hh
     go_wp2_with fail
     go_region_with (go_at_call 95;refine(ae LA _).mono ?_;rintro e w5 ⟨rfl,bt⟩;have m0:=(bt.cell (p:=⟨w2.heap.size,0,none⟩) (by simp;omega)).trans ((World.cell?_alloc_past _ _ _ lz).trans l0);have m1:=(bt.cell (p:=⟨w2.heap.size,1,none⟩) (by simp;omega)).trans ((World.cell?_alloc_past _ _ _ lz).trans l1);have m2:=(bt.cell (p:=⟨w2.heap.size,2,none⟩) (by simp;omega)).trans ((World.cell?_alloc_past _ _ _ lz).trans l2);have m3:=(bt.cell (p:=⟨w2.heap.size,3,none⟩) (by simp;omega)).trans ((World.cell?_alloc_past _ _ _ lz).trans l3);have nG:Below wr.heap.size wr w5:=(by first | exact((Below.refl _ wr).alloc (Nat.le_refl _) _).trans (bt.mono (by simp)) | exact(((Below.refl _ wr).alloc (Nat.le_refl _) _).drew).trans (bt.mono (by simp)));have bH:=af ((ae cm).trans (nG.mono (ae cm).size));have Cq:=af ((nG.block _ lz).trans (ae Bw));have lT:=af (ai (ae HOW) (fun k q=>nG.block k ((ae HOW).lt k q).2));have z5:w2.heap.size<w5.heap.size:=Nat.lt_of_lt_of_le lz nG.size;clear bt nG)
     all_goals
      go_wp2_with fail
      go_roundg (gk - 1)
      case measure=>have:=ae bf;have:=ae bp;omega
      case rel=>exact⟨j+1,by have:=ae bf;have:=ae bp;omega,by go_num,by rw[ae fp];exact ae lT,ae bH,ae Cq⟩
    ·have t1:((hm:Int) == (dm:Int))=false:=by simp;omega
     have t3:(hm == dm)=false:=by simpa using hh
     clear hh
     go_wp2_with fail
     go_region_with (go_at_call 95;refine(ae LA _).mono ?_;rintro e w5 ⟨rfl,bt⟩;have m0:=(bt.cell (p:=⟨w2.heap.size,0,none⟩) (by simp;omega)).trans ((World.cell?_alloc_past _ _ _ lz).trans l0);have m1:=(bt.cell (p:=⟨w2.heap.size,1,none⟩) (by simp;omega)).trans ((World.cell?_alloc_past _ _ _ lz).trans l1);have m2:=(bt.cell (p:=⟨w2.heap.size,2,none⟩) (by simp;omega)).trans ((World.cell?_alloc_past _ _ _ lz).trans l2);have m3:=(bt.cell (p:=⟨w2.heap.size,3,none⟩) (by simp;omega)).trans ((World.cell?_alloc_past _ _ _ lz).trans l3);have nG:Below wr.heap.size wr w5:=(by first | exact((Below.refl _ wr).alloc (Nat.le_refl _) _).trans (bt.mono (by simp)) | exact(((Below.refl _ wr).alloc (Nat.le_refl _) _).drew).trans (bt.mono (by simp)));have bH:=af ((ae cm).trans (nG.mono (ae cm).size));have Cq:=af ((nG.block _ lz).trans (ae Bw));have lT:=af (ai (ae HOW) (fun k q=>nG.block k ((ae HOW).lt k q).2));have z5:w2.heap.size<w5.heap.size:=Nat.lt_of_lt_of_le lz nG.size;clear bt nG)
     all_goals
      go_wp2_with fail
      go_roundg (gk - 1)
      case measure=>have:=ae bf;have:=ae bp;omega
      case rel=>exact⟨j+1,by have:=ae bf;have:=ae bp;omega,by go_num,by rw[ae fp];exact ae lT,ae bH,ae Cq⟩
  ·obtain rfl:j=cls.length:=by omega
   have HOW:=af (cf how (Nat.le_trans z2 (Nat.le_succ _)))
   have cm:=af ((ae aZ).trans (aS.mono z2))
   clear how aS hkj dS
   go_wp2_with fail
   go_ret
   exact⟨oo,oc,rfl,ae HOW,ae cm⟩
end Go.Proofs.YthfjnfcekeknlaaGreatDoor
namespace Za
structure jH (c:aL):Prop where
 hk:c.head.kind=2
 wl:wfK 8 c.head
 ts:∀x∈c.tests,iC x
 tl:c.tests.length≤6
 gs:∀x∈c.goals,tW x
 gl:c.goals.length≤6
 nl:(NG c).length≤100000
 t0:c.tests=[]
end Za
namespace Go.Proofs.YthfjnfcekeknlaaGreatDoor
open Go.RowKit
def ed (w w':World):Prop:=∀(g:Nat) (ys:Array Value) (S:TypeId),w.heap[g]?=some (.cells ys S (0,0))→(S=78∨S=151∨S=76)→w'.heap[g]?=some (.cells ys S (0,0))
theorem ed.trans {a b c:World} (h:ed a b) (k:ed b c):ed a c:=fun g ys S hg hS=>k g ys S (h g ys S hg hS) hS
theorem ed.below {w w':World} (h:Below w.heap.size w w'):ed w w':=fun g _ _ hg _=>(h.block g (ag hg)).trans hg
theorem ed.Ub {w w':World} (h:ed w w'):aT w w':=⟨fun g cs hg _=>h g cs _ hg (Or.inr (Or.inr rfl)),fun g cs hg _=>h g cs _ hg (Or.inr (Or.inl rfl))⟩
theorem ed.cls {w w':World} (h:ed w w') {o:Option Addr} {n:Nat} {ys:List Za.aL} (hc:cX w o n ys):cX w' o n ys:=⟨hc.1,fun q=>by
 obtain⟨g,vs,cs,h1,h2,h3,h4⟩:=hc.2 q
 exact⟨g,vs,cs,h1,h g cs _ h2 (Or.inl rfl),h3,h4.imp fun _ _ q=>ej.keep q h.Ub⟩⟩
theorem ed.lO {R R':Nat→Prop} {w w':World} (hf:au R R' w w') (hn:∀(g:Nat) (ys:Array Value) (S:TypeId),w.heap[g]?=some (.cells ys S (0,0))→(S=78∨S=151∨S=76)→¬R g):ed w w':=fun g ys S hg hS=>(hf.block g (ag hg) (hn g ys S hg hS)).trans hg
theorem Vj (cs:Array Value) (y a b:Value):(((cs.setIfInBounds 3 y).setIfInBounds 1 a).setIfInBounds 3 b)=(cs.setIfInBounds 1 a).setIfInBounds 3 b:=by
 apply Array.ext_getElem?
 intro i
 simp only[Array.getElem?_setIfInBounds,Array.size_setIfInBounds]
 by_cases h1:1=i
 ·subst h1;simp
 ·by_cases h3:3=i
  ·subst h3;simp
  ·simp[h1,h3]
def Qv (P:Nat→Prop) (mb:Nat) (cs:Array Value) (D:List Ng) (V:List Nat) (nO vo:Option Addr) (fr:Nat→Nat) (TT:Nat→Za.U) (G:List Gl) (i which:Nat) (c:Za.aL) (w:World) (e:Ending) (w':World):Prop:=
 ∃(E:List Ng) (F:List Nat) (no':Option Addr) (nc':Nat) (T':Nat→Za.U) (Gn:List Gl) (po':Option Addr) (pc':Nat),e= .returned (.int .i64 ((which+1:Nat):Int))∧cN w' mb ((cs.setIfInBounds 1 (.slice no' (D++E).length nc')).setIfInBounds 3 (.slice po' (G.eraseIdx i++Gn).length pc')) (D++E) no' nc' fr (G.eraseIdx i++Gn) po' pc'∧a8 w' (D++E) P∧Za.dD (aY (D++E)) fr T'∧(∀m,m<D.length→T' m=TT m)∧dG D.length E∧fC D.length E F∧(V++F).length=(Za.NG c).length∧(∀n∈V++F,n<(D++E).length)∧bO (mD T' (D++E).length (cP T' (V++F) (Za.NG c))) c.goals Gn∧E.length≤118098∧au (fun k=>cE mb nO k∨rowOf vo k) (fun k=>cE mb no' k∨rowOf po' k) w w'
theorem FM (w:World) (mb:Nat) (cs:Array Value) (D:List Ng) (V:List Nat) (nO:Option Addr) (nC:Nat) (vo:Option Addr) (vc:Nat) (fr:Nat→Nat) (TT:Nat→Za.U) (P:Nat→Prop) (G:List Gl) (po:Option Addr) (pc i which:Nat) (cls:List Za.aL) (clo:Option Addr) (clc:Nat) (hm:cN w mb cs D nO nC fr G po pc) (bA:a8 w D (fun g=>P g∧¬rowOf vo g)) (fz:Za.dD (aY D) fr TT) (hV:w.ownsRow 0 3 1 (.slice vo V.length vc) V.length (V.map aM)) (hVl:∀n∈V,n<D.length) (I0:∀g∈G,∀k,rowOf g.no k→¬rowOf vo k) (hP:∀g,w.heap.size≤g→P g) (h0:cs[0]?=some (.slice clo cls.length clc)) (gh:cX w clo cls.length cls) (Ei:which<cls.length) (hcc:cls.length≤12) (aF:Za.jH cls[which]) (hVn:V.length=(Za.NT cls[which]).length) (hD:D.length+4000000≤1000000000) (hGl:G.length≤1000000):
 Calls Tryz.prog 183 #[.pointer (some ⟨mb,0,none⟩),.int .i64 (i:Int),.int .i64 (which:Int),.agg #[.slice vo V.length vc]] w fun e w'=>Qv P mb cs D V nO vo fr TT G i which cls[which] w e w':=by
 have hb0:=(Below.refl w.heap.size w).alloc (Nat.le_refl _) (.cells #[.slice vo V.length vc] 93)
 obtain⟨g,vs,ca,hao,fo,lS,mq⟩:=gh.2 (fun q=>by rw[q]at Ei;simp at Ei)
 subst hao
 have kG:which<vs.length:=by have:=mq.length;omega
 have f5:w.cell? ⟨g,which*6+5,none⟩=(n9 vs[which])[5]?:=by
  rw[ah fo,←Array.getElem?_toList,←B7 kG 5 (by omega),←lS,List.getElem?_take_of_lt (by omega)]
 simp only[n9,List.getElem?_cons_zero,List.getElem?_cons_succ]at f5
 have gz:=ag fo
 have zL:ej w vs[which].a vs[which].o1 vs[which].n1 vs[which].o2 vs[which].n2 cls[which]:=mq.at which kG Ei
 have f0:=(ah hm.st.blk 0).trans h0
 have mz:=ag hm.st.blk
 have IL:=af (tR _ mb cs D nO nC fr G po pc i (hm.below hb0) hGl)
 have hw0:w.heap.size<(w.alloc (.cells #[.slice vo V.length vc] 93)).heap.size:=by simp
 have xK:gK P (w.alloc (.cells #[.slice vo V.length vc] 93)) mb 1 cs 91 w.heap.size D V nO nC vo vc fr TT:=⟨⟨hm.st.below hb0,⟨heap_alloc_new w _,ai hV (fun g q=>hb0.block g (hV.lt g q).2)⟩,by decide,by decide,bA.below hb0⟩,hm.ok,fz,hVl⟩
 have IJ:=af (show∀(w2:World) (po1:Option Addr) (pc1:Nat),cN w2 mb (cs.setIfInBounds 3 (.slice po1 (G.eraseIdx i).length pc1)) D nO nC fr (G.eraseIdx i) po1 pc1→au (fun k=>k=mb) (fun k=>k=mb∨rowOf po1 k) (w.alloc (.cells #[.slice vo V.length vc] 93)) w2→Calls Tryz.prog 42 #[.pointer (some ⟨mb,0,none⟩),.slice vs[which].o2 vs[which].n2 vs[which].c2,.pointer (some ⟨w.heap.size,0,none⟩)] w2 fun e w'=>e= .returned (.tuple #[])∧Qv P mb cs D V nO vo fr TT G i which cls[which] w (.returned (.int .i64 ((which+1:Nat):Int))) w' from fun w2 po1 pc1 pV hf2=>by
  have gf:∀(k:Nat) (ys:Array Value) (S:TypeId),(w.alloc (.cells #[.slice vo V.length vc] 93)).heap[k]?=some (.cells ys S (0,0))→S≠91→w2.heap[k]?=some (.cells ys S (0,0)):=fun k ys S hk hS=>(hf2.block k (ag hk) (fun e=>by
   rw[e,xK.ad.st.blk]at hk
   simp only[Option.some.injEq,Obj.cells.injEq]at hk
   exact hS hk.2.1.symm)).trans hk
  have Vk:=xK.IX pV.st (fun k ys S hk hS=>(gf k ys S hk (by rcases hS with q | q<;>(rw[q];decide))).trans hk.symm)
  have MJ:ed w w2:=(ed.below hb0).trans fun k ys S hk hS=>gf k ys S hk (by rcases hS with q | q | q<;>(rw[q];decide))
  have Vl:=zL.keep MJ.Ub
  have hz:=hf2.size
  refine(Cm w2 mb _ w.heap.size D V nO nC vo vc fr TT P (G.eraseIdx i) po1 pc1 (Za.NG cls[which]) (Za.NT cls[which]) cls[which].goals vs[which].o2 vs[which].n2 vs[which].c2 Vk pV (fun x hx=>I0 x (List.mem_of_mem_eraseIdx hx)) (fun q hq=>hP q (by omega)) Vl.goals aF.gs hVn ⟨[],by rw[List.append_nil];rfl⟩ aF.nl (Nat.le_trans aF.gl (by omega)) hD (Nat.le_trans (List.length_eraseIdx_le _ _) hGl)).mono ?_
  rintro e w3 ⟨rfl,E,F,no',nc',vo',vc',T',Gn,po',pc',dT⟩
  have fA:=dT.mc
  have ecs:((cs.setIfInBounds 3 (.slice po1 (G.eraseIdx i).length pc1)).setIfInBounds 1 (.slice no' (D++E).length nc')).setIfInBounds 3 (.slice po' (G.eraseIdx i++Gn).length pc')=(cs.setIfInBounds 1 (.slice no' (D++E).length nc')).setIfInBounds 3 (.slice po' (G.eraseIdx i++Gn).length pc'):=by
   exact Vj _ _ _ _
  rw[ecs]at fA
  refine⟨rfl,E,F,no',nc',T',Gn,po',pc',rfl,fA,dT.ms.ad.args.keep (fun g _ hp hg=>⟨hg,hp.1⟩),dT.ms.to,dT.old,dT.nd,dT.nv,dT.ln,dT.ms.lt,dT.gl,Nat.le_trans dT.el (by have:=aF.gl;omega),?_⟩
  have oq:∀k,rowOf po1 k→k=mb∨w.heap.size≤k:=fun k q=>by
   rcases hf2.row k (Or.inr q)with e | e
   ·exact Or.inl e
   ·right;omega
  refine⟨dT.fg.os.trans (hf2.os.trans hb0.os),dT.fg.tape.trans (hf2.tape.trans hb0.tape),dT.fg.output.trans (hf2.output.trans hb0.output),by have:=dT.fg.size;omega,fun k hk hr=> ?_,fun k q=> ?_⟩
  ·rw[dT.fg.block k (by omega) ?_,hf2.block k (by omega) (fun e=>hr (Or.inl (Or.inl e))),hb0.block k hk]
   rintro((e | e | e | e) | e)
   ·exact hr (Or.inl (Or.inl e))
   ·exact hr (Or.inl (Or.inr e))
   ·omega
   ·exact hr (Or.inr e)
   ·rcases oq k e with e | e
    ·exact hr (Or.inl (Or.inl e))
    ·omega
  ·have q2:uO mb no' w.heap.size vo' po' k:=by
    rcases q with(q | q) | q
    ·exact Or.inl (Or.inl q)
    ·exact Or.inl (Or.inr (Or.inl q))
    ·exact Or.inr q
   rcases dT.fg.row k q2 with((e | e | e | e) | e) | e
   ·exact Or.inl (Or.inl (Or.inl e))
   ·exact Or.inl (Or.inl (Or.inr e))
   ·right;omega
   ·exact Or.inl (Or.inr e)
   ·rcases oq k e with e | e
    ·exact Or.inl (Or.inl (Or.inl e))
    ·exact Or.inr e
   ·right;omega)
 have i0:(0:Int)≤(which:Int):=by omega
 have i1:(which:Int)<(cls.length:Int):=by omega
 have Yk:=af Ei
 generalize vs[which]=v at*
 obtain⟨⟨ak0,av0,ax0,ao0,an0,ac0⟩,o1,n1,c1,o2,n2,c2⟩:=v
 dsimp only at f5 IJ
 have Uc:=af (ae IJ)
 generalize hcw:cls[which]=cw at*
 clear hcw IJ hm bA fz hV hVl I0 hP h0 gh aF hVn hD hb0 fo lS mq zL xK kG hw0
 go_enter Tryz.func183,Tryz.ntmps183
 go_wp2_with fail
 refine(ae IL).mono ?_
 rintro e w2 ⟨rfl,po1,pc1,m2,fr2⟩
 have I2:=af (ae Uc w2 po1 pc1 m2 fr2)
 clear m2 fr2 IL Uc
 go_wp2_with fail
 refine(ae I2).mono ?_
 rintro e w3 ⟨rfl,h3⟩
 have H3:=af h3
 clear h3 I2
 go_wp2_with fail
 go_ret
 exact ae H3
theorem xM {P:Program} (w:World) (t ty e:TypeId) (i:TypeInfo) (ht:P.underlying t=some (.slice e)) (hi:P.info? e=some i) (base:Option Addr) (sLen sCap:Nat) (hle:sLen≤sCap):(Builtin.append_ #[t,t] ty #[.slice base sLen sCap,.slice none 0 0]).run P w= .ok (.slice base sLen sCap) w:=by
 cases base<;>simp[Builtin.append_,run_underlying ht,sizeOf,typeInfo,hi,hle,Builtin.lenOf,Builtin.firstCells,loadCells,storeCells]
theorem qy {ops:Array Oper} {rest:List Oper} {o:Oper} {a:Act} {Q:Exit→Act→World→Prop} {w:World} (hgd:o.guard=none) (s x:Operand)
 (ho:o.op= .call {callee:= .builtin .append,args:=#[s,x],argTypes:=#[25,25]})
 (base b2:Nat) (v:Value) (n:Nat) (xs:List Nat) (hs:a.eval s=v) (hown:w.ownsRow base 3 1 v n (xs.map aM))
 (so:Option Addr) (m c:Nat) (ys:List Nat) (hx:a.eval x= .slice so m c) (hy:w.ownsRow b2 3 1 (.slice so m c) m (ys.map aM))
 (hn:n+m≤1000000000) (hbase:base≤w.heap.size)
 (h:∀v' w',w'.ownsRow base 3 1 v' (n+m) ((xs++ys).map aM)→w.grownBy w' v.ownBlock→(v'.ownBlock=v.ownBlock∨v'.ownBlock=some w.heap.size)→wpList Tryz.prog ops Q rest (a.put o.dst v') w'):
 wpList Tryz.prog ops Q (o :: rest) a w:=by
 obtain⟨tj,hj,jo,jq,jr⟩:=info_parts infoIn
 rcases hy.2 with⟨q,q0⟩ | ⟨g,cap,cur,q,q1,q2,q3,q4,q5,q6⟩
 ·simp only[Value.slice.injEq]at q
  obtain⟨rfl,rfl,rfl⟩:=q
  have MK:ys=[]:=by
   have:=hy.1
   simp at this
   exact this
  subst MK
  obtain⟨vo,vc,rfl⟩:=gC hown
  have hle:n≤vc:=by
   rcases hown.2 with⟨r,r0⟩ | ⟨g,cap,cur,r,_,_,r3,_⟩
   ·omega
   ·simp only[Value.slice.injEq]at r
    omega
  refine wpList_plain hgd fun K hK=> ?_
  have hr:=xM (P:=Tryz.prog) w 25 o.type 3 tj Tryz.underlying25 hj vo n vc hle
  unfold Oper.wp execOp
  simp only[ho,resolve,invoke,builtin,Sem.run_bind,Sem.run_pure,Result.andThen_ok,List.map_toArray,List.map_cons,List.map_nil,hs,hx,hr]
  exact hK _ _ (h _ _ (by simpa using hown) (World.grownBy.refl _ _) (Or.inl rfl))
 ·simp only[Value.slice.injEq]at q
  obtain⟨rfl,_,rfl⟩:=q
  refine wpList_append_own_at w hgd s x 25 ho base 3 tj (.int .i64 0) 1 8 Tryz.underlying25 hj jo jq jr rfl (by decide) v n (xs.map aM) hs hown ⟨g,0,none⟩ m c (ys.map aM) hx (by have:=hy.1;simpa using this) (fun j u hj=> ?_) (fun u hu=> ?_) (by unfold maxLen;omega) (by omega) hbase (fun v' w' h1 h2 _ h4=>h v' w' (by rw[List.map_append];exact h1) h2 h4)
  ·have Qw:j<(ys.map aM).length:=(List.getElem?_eq_some_iff.1 hj).1
   have:(⟨g,0,none⟩:Addr).add j=⟨g,j,none⟩:=by cases j<;>simp[Addr.add]
   rw[this,hy.cellAt j (by have:=hy.1;simp at this Qw;omega)]
   exact hj
  ·obtain⟨y,_,rfl⟩:=List.mem_map.1 hu
   rfl
end Go.Proofs.YthfjnfcekeknlaaGreatDoor
namespace Za
def iP (n:Nat):List UInt8:=Go.Lib.decDigits n
def txL:List Nat→List UInt8
 | []=>[110]
 | d :: l=>[99,40]++iP d++[44]++txL l++[41]
theorem mP {n:Nat} (h:n<10):iP n=[UInt8.ofNat (48+n)]:=by unfold iP;rw[Go.Lib.decDigits,dif_pos h]
theorem rI {n:Nat} (h:¬n<10):iP n=iP (n / 10)++[UInt8.ofNat (48+n % 10)]:=by
 unfold iP
 rw[Go.Lib.decDigits,dif_neg h]
theorem txL_len:∀l:List Nat,(∀d∈l,d<10)→(txL l).length=5*l.length+1
 | [],_=>rfl
 | d :: l,h=>by
  rw[txL,mP (h d (by simp))]
  simp only[List.length_append,List.length_cons,List.length_nil,txL_len l (fun e he=>h e (by simp[he]))]
  omega
end Za
namespace Go.Proofs.YthfjnfcekeknlaaGreatDoor
open Go.RowKit
def wy (w:World) (o:Option Addr) (n:Nat):Prop:=n≤maxLen∧(n=0∨∃b off,o=some ⟨b,off,none⟩∧b<w.heap.size∧∀i,i<n→∃v:Int,w.cell? ⟨b,off+i,none⟩=some (.int .i64 v)∧-9223372036854775808≤v∧v≤9223372036854775807)
theorem wy.below {w w':World} {o:Option Addr} {n:Nat} (h:wy w o n) (hb:Below w.heap.size w w'):wy w' o n:=by
 refine⟨h.1,h.2.imp id fun⟨b,off,h1,h2,h3⟩=>⟨b,off,h1,Nat.lt_of_lt_of_le h2 hb.size,fun i hi=> ?_⟩⟩
 obtain⟨v,h4,h5⟩:=h3 i hi
 exact⟨v,(hb.cell (p:=⟨b,off+i,none⟩) h2).trans h4,h5⟩
def zM (c:Int) (n:Nat):Nat:=((if c<0 then -(c+1)else c) % (n:Int)).toNat
theorem Qx (c:Int) {n:Nat} (h:0<n):zM c n<n:=by
 unfold zM
 have h1:=Int.emod_nonneg (if c<0 then -(c+1)else c) (b:=(n:Int)) (by omega)
 have h2:=Int.emod_lt_of_pos (if c<0 then -(c+1)else c) (b:=(n:Int)) (by omega)
 omega
theorem SS (w:World) (c:Int) (n:Nat) (hn:0<n) (pT:n≤1000000000) (h1: -9223372036854775808≤c) (h2:c≤9223372036854775807):
 Calls Tryz.prog 22 #[.int .i64 c,.int .i64 (n:Int)] w fun e w'=>e= .returned (.int .i64 (zM c n:Int))∧w'=w:=by
 by_cases hc:c<0
 ·have t1:decide (c<0)=true:=by simpa using hc
  have q1:=Int.emod_nonneg (-(c+1)) (b:=(n:Int)) (by omega)
  have hp:(zM c n:Int)=(-(c+1)) % (n:Int):=by unfold zM;rw[if_pos hc,Int.toNat_of_nonneg q1]
  rw[hp]
  clear hp q1
  go_enter Tryz.func22,Tryz.ntmps22
  go_wp2_with fail
  go_ret
  refine⟨?_,rfl⟩
  show Ending.returned (.int .i64 (-(c+1).tmod (n:Int)))=_
  rw[←Int.neg_tmod,Int.tmod_eq_emod_of_nonneg (by omega)]
 ·have t1:decide (c<0)=false:=by simpa using hc
  have q1:=Int.emod_nonneg c (b:=(n:Int)) (by omega)
  have hp:(zM c n:Int)=c % (n:Int):=by unfold zM;rw[if_neg hc,Int.toNat_of_nonneg q1]
  rw[hp]
  clear hp q1
  go_enter Tryz.func22,Tryz.ntmps22
  go_wp2_with fail
  go_ret
  exact⟨rfl,rfl⟩
def W7 (m:Nat) (w:World) (e:Ending) (w':World):Prop:=∃(l:List Nat) (o:Option Addr) (c:Nat),e= .returned (.slice o l.length c)∧l.length≤m∧(∀d∈l,d<10)∧w'.ownsRow w.heap.size 3 1 (.slice o l.length c) l.length (l.map aM)∧Below w.heap.size w w'
def W8 (w:World) (n m k:Nat) (av iv:Value) (wr:World):Prop:=∃(l:List Nat),k+l.length=min n m∧iv= .int .i64 (l.length:Int)∧(∀d∈l,d<10)∧wr.ownsRow w.heap.size 3 1 av l.length (l.map aM)∧Below w.heap.size w wr
theorem Cr (w:World) (o:Option Addr) (n c m:Nat) (hr:wy w o n) (hm:m≤10):
 Calls Tryz.prog 13 #[.slice o n c,.int .i64 (m:Int)] w fun e w'=>W7 m w e w':=by
 obtain⟨tj,hj,jo,jq,jr⟩:=info_parts infoIn
 have oX:n≤9223372036854775807:=by have:=hr.1;unfold maxLen at this;omega
 have HR:=af hr.2
 clear hr
 go_enter Tryz.func13,Tryz.ntmps13
 go_wp2_with fail
 go_loopg [5,6] (min n m) (fun k av iv wr=>W8 w n m k av iv wr)
 case atStart=>exact⟨[],by simp,rfl,(fun d hd=>by cases hd),by simpa using World.ownsRow_nil _ _ _ _,Below.refl _ _⟩
 case round=>
  obtain⟨l,hkj,rfl,hd,how,aS⟩:=hrel
  obtain⟨oo,oc,rfl⟩:=gC how
  generalize hj':l.length=j at*
  have HJ:=af hj'
  by_cases hlt:j<min n m
  ·obtain⟨b,off,rfl,vB,hce⟩:=(ae HR).resolve_left (by omega)
   obtain⟨v,hv,PK,hv2⟩:=hce j (by omega)
   have f0:wr.cell? ⟨b,off+j,none⟩=some (.int .i64 v):=(aS.cell (p:=⟨b,off+j,none⟩) vB).trans hv
   have gz:b<wr.heap.size:=Nat.lt_of_lt_of_le vB aS.size
   have i0:(0:Int)≤(j:Int):=by omega
   have i1:(j:Int)<(n:Int):=by omega
   have i2:(j:Int)<(m:Int):=by omega
   have i3:j≤100:=by omega
   have t1:decide ((j:Int)<(n:Int))=true:=by simpa using i1
   have t2:decide ((j:Int)<(m:Int))=true:=by simpa using i2
   have t3:decide (j<n)=true:=by simp;omega
   have t4:decide (j<m)=true:=by simp;omega
   have IP:=af (SS wr v 10 (by omega) (by omega) PK hv2)
   have HP:=af (Qx v (n:=10) (by omega))
   have HW:=af how
   have cm:=af aS
   have bf:=af hkj
   have bp:=af hlt
   have HD:=af hd
   have zb:=aS.size
   generalize zM v 10=q at*
   clear how aS hkj hlt hd hce hv hj' i2
   go_wp2_with fail
   refine(ae IP).mono ?_
   rintro e w5 ⟨rfl,rfl⟩
   go_wp2_with (at_builtin;go_must (refine wpList_append_own_at _ rfl (.tmp 24) (.tmp 26) 25 rfl w.heap.size 3 tj (.int .i64 0) 1 8 Tryz.underlying25 hj jo jq jr rfl (by decide) _ j (l.map aM) rfl ((ae HW).alloc _) ⟨w5.heap.size,0,none⟩ 1 1 [.int .i64 (q:Int)] rfl rfl (iU _ _ _ _ rfl) (by simp[Value.oneCell']) (by unfold maxLen;omega) (by omega) (by simp;omega) ?_;intro v9 w9 h1 h2 _ _;have W9:=af h1;have kK:=af (((ae cm).alloc zb _).grown h2 (by simp;omega) (fun k r=>((ae HW).lt k r).1));clear h1 h2))
   go_roundg (gk - 1)
   case measure=>have:=ae bf;have:=ae bp;omega
   case rel=>
    refine⟨l++[q],by have:=ae bf;have:=ae bp;have:=ae HJ;simp;omega,by rw[List.length_append,ae HJ];go_num,fun d hd=> ?_,?_,?_⟩
    ·rcases List.mem_append.1 hd with hd | hd
     ·exact ae HD d hd
     ·rw[List.mem_singleton.1 hd];exact ae HP
    ·have:=ae W9
     rw[List.length_append,ae HJ]
     simpa [aM] using this
    ·exact ae kK
  ·have HW:=af how
   have cm:=af aS
   have HD:=af hd
   have Ef:j≤m:=by omega
   by_cases q:j<n
   ·have t1:decide ((j:Int)<(n:Int))=true:=by simpa using q
    have t2:decide ((j:Int)<(m:Int))=false:=by simp;omega
    have t3:decide (j<n)=true:=by simp;omega
    have t4:decide (j<m)=false:=by simp;omega
    clear how aS hkj hlt hd hj'
    go_wp2_with fail
    go_ret
    exact⟨l,oo,oc,by rw[ae HJ];rfl,by rw[ae HJ];exact Ef,ae HD,by rw[ae HJ];exact ae HW,ae cm⟩
   ·have t1:decide ((j:Int)<(n:Int))=false:=by simp;omega
    have t3:decide (j<n)=false:=by simp;omega
    clear how aS hkj hlt hd hj'
    go_wp2_with fail
    go_ret
    exact⟨l,oo,oc,by rw[ae HJ];rfl,by rw[ae HJ];exact Ef,ae HD,by rw[ae HJ];exact ae HW,ae cm⟩
theorem Ob (w:World) (a b:List Nat) (oa ob:Option Addr) (ca cb ba bb:Nat) (ha:w.ownsRow ba 3 1 (.slice oa a.length ca) a.length (a.map aM)) (hb:w.ownsRow bb 3 1 (.slice ob b.length cb) b.length (b.map aM)) (la:a.length≤1000) (lb:b.length≤1000):
 Calls Tryz.prog 19 #[.slice oa a.length ca,.slice ob b.length cb] w fun e w'=>∃(o:Option Addr) (c:Nat),e= .returned (.slice o (a++b).length c)∧w'.ownsRow w.heap.size 3 1 (.slice o (a++b).length c) (a++b).length ((a++b).map aM)∧Below w.heap.size w w':=by
 have HA:=af ha
 have HB:=af hb
 have HL:=af (show (a++b).length=a.length+b.length from List.length_append)
 clear ha hb
 generalize DU:a.length=na at*
 generalize dS:b.length=nb at*
 have Yl:=af DU
 have Bw:=af dS
 clear DU dS
 go_enter Tryz.func19,Tryz.ntmps19
 go_wp2_with (at_builtin;first
  | (refine qy rfl (.tmp 9) (.tmp 10) rfl w.heap.size bb _ _ _ rfl (ae Mn) ob nb cb b rfl (ai (ae HB) fun k r=>(ae bj).block k ((ae HB).lt k r).2) (by omega) (ae bj).size ?_;intro v2 w2 h1 h2 _;have vt:=af h1;have aZ:=af ((ae bj).grown h2 (ae bj).size (fun k r=>((ae Mn).lt k r).1));clear h1 h2)
  | (go_must (refine qy rfl (.tmp 6) (.tmp 7) rfl w.heap.size ba (.slice none 0 0) 0 [] rfl (World.ownsRow_nil _ _ _ _) oa na ca a rfl (ae HA) (by omega) (Nat.le_refl _) ?_;intro v1 w1 h1 h2 _;have Mn:=af h1;have bj:=af ((Below.refl w.heap.size w).grown h2 (Nat.le_refl _) (fun k r=>by cases r));clear h1 h2)))
 have h2:=ae vt
 rw[Nat.zero_add,List.nil_append,←ae HL]at h2
 obtain⟨o2,c2,rfl⟩:=gC h2
 have Xa:=af h2
 clear h2 vt
 go_ret
 exact⟨o2,c2,rfl,ae Xa,ae aZ⟩
end Go.Proofs.YthfjnfcekeknlaaGreatDoor
namespace Za
theorem wB {n:Nat} (h:n<1000000000):(iP n).length≤100:=by
 have key:∀k n,n<10 ^ (k+1)→(iP n).length≤k+1:=fun k=>by
  induction k with
  | zero=>intro n h;rw[mP (by omega)];simp
  | succ k ih=>
   intro n h
   by_cases q:n<10
   ·rw[mP q];simp
   ·rw[rI q,List.length_append]
    have:=ih (n / 10) (by rw[Nat.pow_succ]at h;omega)
    simp
    omega
 have:=key 8 n (by omega)
 omega
end Za
namespace Go.Proofs.YthfjnfcekeknlaaGreatDoor
open Go.RowKit
def l7 (w:World) (o:Option Addr) (xs:List Int):Prop:=xs≠[]→∃g,o=some ⟨g,0,none⟩∧g<w.heap.size∧∀i (h:i<xs.length),w.cell? ⟨g,i,none⟩=some (.int .i64 xs[i])
theorem l7.below {w w':World} {o:Option Addr} {xs:List Int} (h:l7 w o xs) (hb:Below w.heap.size w w'):l7 w' o xs:=fun q=>by
 obtain⟨g,h1,h2,h3⟩:=h q
 exact⟨g,h1,Nat.lt_of_lt_of_le h2 hb.size,fun i hi=>(hb.cell (p:=⟨g,i,none⟩) h2).trans (h3 i hi)⟩
theorem l7.qV {w:World} {b:Nat} {T:TypeId} {o:Option Addr} {c:Nat} {ys:List Int} (h:w.ownsRow b T 1 (.slice o ys.length c) ys.length (ys.map fV)):l7 w o ys:=fun q=>by
 rcases h.2 with⟨q1,q0⟩ | ⟨g,cp,cur,q1,_⟩
 ·exact absurd (List.length_eq_zero_iff.1 q0) q
 ·simp only[Value.slice.injEq]at q1
  have hg:=q1.1
  subst hg
  refine⟨g,rfl,(h.lt g rfl).2,fun i hi=> ?_⟩
  rw[h.cellAt i (by omega),List.getElem?_map,List.getElem?_eq_getElem hi]
  rfl
theorem l7.Cs {w:World} {b:Nat} {T:TypeId} {o:Option Addr} {c:Nat} {ys:List Nat} (h:w.ownsRow b T 1 (.slice o ys.length c) ys.length (ys.map aM)):l7 w o (ys.map fun(n:Nat)=>(n:Int)):=by
 refine l7.qV (b:=b) (T:=T) (c:=c) ?_
 rw[List.length_map,List.map_map]
 exact h
def nQ (w:World) (o:Option Addr) (xs:List ByteArray):Prop:=xs≠[]→∃g,o=some ⟨g,0,none⟩∧g<w.heap.size∧∀i (h:i<xs.length),w.cell? ⟨g,i,none⟩=some (.string xs[i])
theorem nQ.below {w w':World} {o:Option Addr} {xs:List ByteArray} (h:nQ w o xs) (hb:Below w.heap.size w w'):nQ w' o xs:=fun q=>by
 obtain⟨g,h1,h2,h3⟩:=h q
 exact⟨g,h1,Nat.lt_of_lt_of_le h2 hb.size,fun i hi=>(hb.cell (p:=⟨g,i,none⟩) h2).trans (h3 i hi)⟩
theorem nQ.qV {w:World} {b:Nat} {T:TypeId} {o:Option Addr} {c:Nat} {ys:List (List UInt8)} (h:w.ownsRow b T 1 (.slice o ys.length c) ys.length (ys.map fun x=>Value.string ⟨x.toArray⟩)):nQ w o (ys.map fun x=>(⟨x.toArray⟩:ByteArray)):=fun q=>by
 rcases h.2 with⟨q1,q0⟩ | ⟨g,cp,cur,q1,_⟩
 ·rw[List.length_eq_zero_iff.1 q0]at q
  exact absurd rfl q
 ·simp only[Value.slice.injEq]at q1
  have hg:=q1.1
  subst hg
  refine⟨g,rfl,(h.lt g rfl).2,fun i hi=> ?_⟩
  rw[List.length_map]at hi
  rw[h.cellAt i (by omega),List.getElem?_map,List.getElem?_eq_getElem hi]
  simp
theorem SU (w:World) (T:TypeId) (x:UInt8):(convert 60 9 (.slice (some ⟨w.heap.size,0,none⟩) 1 1)).run Tryz.prog (w.alloc (.cells #[.int .u8 (x.toNat:Int)] T))= .ok (.string ⟨#[x]⟩) (w.alloc (.cells #[.int .u8 (x.toNat:Int)] T)):=by
 have hb:Lib.Bytes (w.alloc (.cells #[.int .u8 (x.toNat:Int)] T)) w.heap.size 0 ⟨#[x]⟩:=fun i hi=>by
  have hi':i<1:=hi
  obtain rfl:i=0:=by omega
  exact ah (heap_alloc_new w (.cells #[.int .u8 (x.toNat:Int)] T)) 0
 exact Lib.run_convert_whole (P:=Tryz.prog) _ 60 5 9 Tryz.underlying60 Tryz.underlying5 Tryz.underlying9 w.heap.size 0 ⟨#[x]⟩ hb 1
theorem decimalK:∀(n:Nat),n<1000000000→∀w:World,Calls Tryz.prog 21 #[.int .i64 (n:Int)] w fun e w'=>e= .returned (.string ⟨(Za.iP n).toArray⟩)∧Below w.heap.size w w':=by
 intro n
 induction n using Nat.strongRecOn with
 | ind n ih=>
  intro hn w
  have e8:(((UInt8.ofNat (48+n % 10)).toNat:Nat):Int)=48+(n:Int) % 10:=by rw[UInt8.toNat_ofNat'];omega
  have kc:=SU w 5 (UInt8.ofNat (48+n % 10))
  rw[e8]at kc
  have cm:=af ((Below.refl w.heap.size w).alloc (Nat.le_refl _) (.cells #[.int .u8 (48+(n:Int) % 10)] 5))
  have HM:=af (show n<10→48+n=48+n % 10 by omega)
  clear e8
  by_cases h:n<10
  ·have t1:decide ((n:Int)<10)=true:=by simp;omega
   have t2:decide (n<10)=true:=by simp;omega
   rw[Za.mP h,ae HM h]
   clear ih
   generalize UInt8.ofNat (48+n % 10)=x8 at*
   go_enter Tryz.func21,Tryz.ntmps21
   go_wp2_with fail
   go_ret
   exact⟨rfl,ae cm⟩
  ·have t1:decide ((n:Int)<10)=false:=by simp;omega
   have t2:decide (n<10)=false:=by simp;omega
   have IH:=af (fun W=>ih (n / 10) (by omega) (by omega) W)
   have zo:=Za.wB (n:=n / 10) (by omega)
   rw[show ((n / 10:Nat):Int)=(n:Int) / 10 by omega]at IH
   rw[Za.rI h]
   generalize Za.iP (n / 10)=X at*
   generalize UInt8.ofNat (48+n % 10)=x8 at*
   clear ih HM
   go_enter Tryz.func21,Tryz.ntmps21
   go_wp2_with fail
   refine(ae IH _).mono ?_
   rintro e w5 ⟨rfl,bt⟩
   have bH:=af ((ae cm).trans (bt.mono (ae cm).size))
   clear bt
   go_wp2_with fail
   go_ret
   refine⟨?_,ae bH⟩
   rw[←eM]
   rfl
end Go.Proofs.YthfjnfcekeknlaaGreatDoor
namespace Za
def uP (TT:Nat→U) (u:U) (c:aL) (V:List Nat):Prop:=V.length=(namesF 8 [] c.head).length∧∀(i:Nat) (x:List UInt8) (m:Nat),(namesF 8 [] c.head)[i]?=some x→V[i]?=some m→∃q,(matU 8 c.head u ⟨[],Wn.none⟩).st.find? (fun q=>q.1 == x)=some q∧TT m=q.2
end Za
namespace Go.Proofs.YthfjnfcekeknlaaGreatDoor
open Go.RowKit
def qA (u:Za.U) (b:Nat) (c:Za.aL) (V F:List Nat) (T':Nat→Za.U) (says:Nat) (ws:List Nat):Prop:=
 ((Za.matU 8 c.head u ⟨[],Za.Wn.none⟩).w.says≠1∧says=(Za.matU 8 c.head u ⟨[],Za.Wn.none⟩).w.says∧ws=(Za.matU 8 c.head u ⟨[],Za.Wn.none⟩).w.wt)∨
 ((Za.matU 8 c.head u ⟨[],Za.Wn.none⟩).w.says=1∧Za.uP T' u c V∧(V++F).length=(Za.NT c).length∧(∀f∈F,b≤f∧T' f= .v ([],f))∧F.Pairwise (·<·)∧says=(Za.iJ (cP T' (V++F) (Za.NG c)) c.tests).says∧ws=Za.jW (V++F) V.length (Za.iJ (cP T' (V++F) (Za.NG c)) c.tests).wt)
def ML (PP:Nat→Prop) (mb:Nat) (cs:Array Value) (D:List Ng) (nO:Option Addr) (fr:Nat→Nat) (TT:Nat→Za.U) (n:Nat) (c:Za.aL) (w:World) (e:Ending) (w':World):Prop:=
 ∃(says:Nat) (ws:List Nat) (oo:Option Addr) (oc:Nat) (vo':Option Addr) (vl vc':Nat) (E:List Ng) (V F:List Nat) (no':Option Addr) (nc':Nat) (T':Nat→Za.U),e= .returned (.agg #[.int .i64 (says:Int),.slice oo ws.length oc,.slice vo' vl vc'])∧w'.ownsRow w.heap.size 3 1 (.slice oo ws.length oc) ws.length (ws.map aM)∧qA (TT n) D.length c V F T' says ws∧ws.length≤12000000∧(∀v∈ws,v<(D++E).length)∧
  bG w' mb 1 (cs.setIfInBounds 1 (.slice no' (D++E).length nc')) 91 (D++E) no' nc'∧bW (D++E) fr∧Za.dD (aY (D++E)) fr T'∧(∀m,m<D.length→T' m=TT m)∧dG D.length E∧E.length≤78732∧a8 w' (D++E) (fun g=>PP g∧¬rowOf vo' g)∧au (cE mb nO) (cE mb no') w w'∧
  (says=1→(∀m∈V,m<D.length)∧vl=(V++F).length∧w'.ownsRow 0 3 1 (.slice vo' (V++F).length vc') (V++F).length ((V++F).map aM)∧(∀k,rowOf vo' k→cE mb nO k∨w.heap.size≤k)∧(∀n∈V++F,n<(D++E).length)∧(V++F).length=(Za.NT c).length∧fC D.length E F)
theorem Aw (l:Za.Wn):l.says=1∨l.says=2∨l.says=3:=by
 unfold Za.Wn.says
 split
 ·exact Or.inr (Or.inl rfl)
 ·split
  ·exact Or.inl rfl
  ·exact Or.inr (Or.inr rfl)
theorem bW.kJ {D:List Ng} {fr:Nat→Nat} {T:Nat→Za.U} (ok:bW D fr) (hS:Za.dD (aY D) fr T):∀n,n<D.length→Za.bB (fun x=>x.1=[]∧x.2<D.length∧fr x.2=x.2) (T n):=
 hS.kJ (fun n hn=>ok.lt hn) (fun n hn a ha=>by rw[jN hn]at ha;exact(ok.nd n hn).inn a ha)
theorem pn {D E:List Ng} {F:List Nat} {fr:Nat→Nat} {T':Nat→Za.U} (ok:bW (D++E) fr) (hS:Za.dD (aY (D++E)) fr T') (nd:dG D.length E) (nv:fC D.length E F):∀f∈F,D.length≤f∧f<(D++E).length∧T' f= .v ([],f):=fun f hf=>by
 obtain⟨h1,d,h2,h3⟩:=nv.var f hf
 have hl:f<(D++E).length:=by
  have:=(List.getElem?_eq_some_iff.1 h2).1
  rw[List.length_append];omega
 have hd:(D++E)[f]=d:=by rw[List.getElem_append_right h1];exact(List.getElem?_eq_some_iff.1 h2).2
 have cU:fr f=f:=(ok.self hl).2 (nd.at h1 hl).1
 have hv:=hS.var (n:=f) (by rw[cU,lN hl,hd];exact(ok.nd f hl |> fun q=>by rw[hd]at q;exact q.fT.2 h3))
 rw[cU]at hv
 exact⟨h1,hl,hv⟩
theorem La (w:World) (mb:Nat) (cs:Array Value) (D:List Ng) (nO:Option Addr) (nC:Nat) (fr:Nat→Nat) (TT:Nat→Za.U) (PP:Nat→Prop) (a:AV) (o1 o2:Option Addr) (n1 c1 n2 c2 n:Nat) (c:Za.aL) (hG:gq w w.heap.size mb 1 cs 91 D nO nC fr TT PP) (hPP:∀g,w.heap.size≤g→PP g) (hc:ej w a o1 n1 o2 n2 c) (ok:Za.jH c) (hn:n<D.length) (hsz:Za.size (TT n)≤300) (hD:D.length+100000≤1000000000):
 Calls Tryz.prog 182 #[.pointer (some ⟨mb,1,none⟩),.agg #[.int .i64 a.k,.int .i64 a.val,.string a.tx,.slice a.ao a.n a.cap,.slice o1 n1 c1,.slice o2 n2 c2],.int .i64 (n:Int)] w fun e w'=>ML PP mb cs D nO fr TT n c w e w':=by
 have hsm:=Za.uD (B:=300) 8 c.head (TT n) ⟨[],Za.Wn.none⟩ ok.wl hsz (by omega) (fun q hq=>by cases hq)
 have q3:3 ^ 8=6561:=by decide
 rw[q3]at hsm
 have Xb:=Za.mO 8 c.head (TT n) ⟨[],Za.Wn.none⟩ (hG.ok.kJ hG.to n hn) ⟨(fun q hq=>by cases hq),Za.dC _⟩
 obtain⟨KT,hKT⟩:=Za.jQ c.tests (Za.namesF 8 [] c.head)
 obtain⟨KG,hKG⟩:=Za.jQ c.goals (Za.NT c)
 have hNT:Za.NT c=Za.namesF 8 [] c.head++KT:=hKT
 have hNG:Za.NG c=Za.NT c++KG:=hKG
 by_cases hy:(Za.matU 8 c.head (TT n) ⟨[],Za.Wn.none⟩).w.says=1
 ·refine(FD w mb 1 cs 91 D nO nC fr TT PP a o1 o2 n1 c1 n2 c2 n (Za.NG c) KG c.head c.tests hG hPP (by decide) (by decide) (by decide) (by decide) (by decide) (by decide) hc.head hc.tests hNG ok.wl ok.ts ok.tl hn hsz hD hy ok.t0).mono ?_
  rintro e w' ⟨V,hVl,hVD,hVq,l,E,F,no',nc',vo',vc',T',oo,oc,rfl,rfl,Qn,MC,hro,hs,aF,fz,bA,hlt,hold,dx,gM,jv,fy,kL⟩
  have oX:=pn aF fz dx gM
  have FO:∀y∈Za.NT c,∃m∈V++F,cP T' (V++F) (Za.NG c) y=T' m:=fun y hy=>Ih hy hNG jv
  have hsize:∀m∈V++F,Za.size (T' m)≤300:=fun m hm=>by
   rcases List.mem_append.1 hm with q | q
   ·rw[hold m (hVD m q)]
    obtain⟨i,hi,rfl⟩:=List.getElem_of_mem q
    obtain⟨r,h1,h2⟩:=hVq i (Za.namesF 8 [] c.head)[i] V[i] (List.getElem?_eq_getElem (by omega)) (List.getElem?_eq_getElem hi)
    rw[h2]
    exact hsm.1 r (List.mem_of_find?_eq_some h1)
   ·rw[(oX m q).2.2]
    simp[Za.size]
  have hlen:(Za.iJ (cP T' (V++F) (Za.NG c)) c.tests).wt.length≤c.tests.length*2000000:=Za.N5 c.tests (Za.namesF 8 [] c.head) ok.ts fun y hy=>by
   obtain⟨m,hm,he⟩:=FO y hy
   rw[he]
   exact hsize m hm
  have Vm:=Za.yl (η:=cP T' (V++F) (Za.NG c)) c.tests (Za.namesF 8 [] c.head) ok.ts fun y hy=>by
   obtain⟨m,hm,he⟩:=FO y hy
   rw[he]
   exact aF.kJ fz m (hlt m hm)
  refine⟨_,_,oo,oc,vo',_,vc',E,V,F,no',nc',T',rfl,Qn,Or.inr ⟨hy,⟨hVl,fun i x m h1 h2=>by rw[hold m (hVD m (List.mem_of_getElem? h2))];exact hVq i x m h1 h2⟩,jv,fun f hf=>⟨(oX f hf).1,(oX f hf).2.2⟩,gM.ord,rfl,rfl⟩,?_,?_,hs,aF,fz,hold,dx,fy,bA,kL,fun _=>⟨hVD,rfl,MC,hro,hlt,jv,gM⟩⟩
  ·have h1:(Za.jW (V++F) V.length (Za.iJ (cP T' (V++F) (Za.NG c)) c.tests).wt).length≤(Za.iJ (cP T' (V++F) (Za.NG c)) c.tests).wt.length:=List.length_filter_le _ _
   have h2:=ok.tl
   omega
  ·intro v hv
   obtain⟨x,hx,rfl⟩:=Vm v (List.mem_filter.1 hv).1
   exact hx.2.1
 ·refine(Ii w mb 1 cs 91 D nO nC fr TT PP a o1 o2 n1 c1 n2 c2 n (Za.NG c) (KT++KG) c.head hG hc.head (by rw[hNG,hNT,List.append_assoc]) ok.wl hn hsz hy).mono ?_
  rintro e w' ⟨wo,wc,rfl,ho,hb⟩
  refine⟨_,_,wo,wc,none,0,0,[],[],[],nO,nC,TT,rfl,ho,Or.inl ⟨hy,rfl,rfl⟩,?_,?_,?_,by simpa using hG.ok,by simpa using hG.to,fun _ _=>rfl,(fun i d hd=>by simp at hd),by simp,?_,au.aw hb,fun q=>absurd q hy⟩
  ·have:=hsm.2
   simp only[Za.Wn.none,List.length_nil]at this⊢
   omega
  ·intro v hv
   obtain⟨x,hx,rfl⟩:=Xb.2 v hv
   simpa using hx.2.1
  ·rw[List.append_nil,lV hG.st.cel]
   exact hG.st.below hb
  ·rw[List.append_nil]
   exact(hG.ar.below hb).keep fun g _ hp hg=>⟨hg,hp,fun⟨_,q,_⟩=>by cases q⟩
end Go.Proofs.YthfjnfcekeknlaaGreatDoor
namespace Za
def cC (rs:List (Nat×List Nat)):List Nat:=rs.flatMap fun r=>if r.1=3 then r.2 else []
def l9 (rs:List (Nat×List Nat)):Bool:=rs.any fun r=>r.1 == 3
theorem qc (rs:List (Nat×List Nat)) (r:Nat×List Nat):cC (rs++[r])=cC rs++(if r.1=3 then r.2 else []):=by simp[cC]
theorem zN (rs:List (Nat×List Nat)) (r:Nat×List Nat):l9 (rs++[r])=(l9 rs||(r.1 == 3)):=by simp[l9]
end Za
namespace Go.Proofs.YthfjnfcekeknlaaGreatDoor
open Go.RowKit
theorem cN.asked {w w':World} {mb:Nat} {cs:Array Value} {D D':List Ng} {nO no':Option Addr} {nC nc':Nat} {fr:Nat→Nat} {G:List Gl} {po:Option Addr} {pc:Nat} (h:cN w mb cs D nO nC fr G po pc) (hs:bG w' mb 1 (cs.setIfInBounds 1 (.slice no' D'.length nc')) 91 D' no' nc') (ok:bW D' fr) (hl:D.length≤D'.length) {R':Nat→Prop} (hf:au (cE mb nO) R' w w'):cN w' mb (cs.setIfInBounds 1 (.slice no' D'.length nc')) D' no' nc' fr G po pc:=by
 have keep:∀(k:Nat) (ys:Array Value) (S:TypeId),w.heap[k]?=some (.cells ys S (0,0))→S≠91→S≠180→w'.heap[k]?=w.heap[k]?:=fun k ys S hk h1 h2=>(h.st.rF hf hk h1 h2).trans hk.symm
 refine⟨hs,ok,by rw[Array.getElem?_setIfInBounds_ne (by omega)];exact h.c3,ai h.pool fun g q=> ?_,fun g hg=>ai (h.nds g hg) fun k q=> ?_,fun g hg v hv=>Nat.lt_of_lt_of_le (h.nlt g hg v hv) hl,h.nl⟩
 ·obtain⟨cur,hc⟩:=aK h.pool (aI q)
  exact keep g _ _ hc (by decide) (by decide)
 ·obtain⟨cur,hc⟩:=aK (h.nds g hg) (aI q)
  exact keep k _ _ hc (by decide) (by decide)
def ir (own:List Nat) (bg t:Nat):Nat:=(own[(bg+t) % own.length]?).getD 0
def nH (cls:List Za.aL) (own:List Nat) (bg:Nat) (u:Za.U) (b:Nat) (rs:List (Nat×List Nat)):Prop:=∀(t:Nat) (r:Nat×List Nat),rs[t]?=some r→r.1≠1∧∃(c:Za.aL) (V F:List Nat) (T':Nat→Za.U),cls[ir own bg t]?=some c∧qA u b c V F T' r.1 r.2
structure Ct (P:Nat→Prop) (w:World) (mb:Nat) (cs:Array Value) (D:List Ng) (nO:Option Addr) (fr:Nat→Nat) (TT:Nat→Za.U) (G:List Gl) (po:Option Addr) (pc:Nat) (cls:List Za.aL) (own:List Nat) (bg n:Nat) (E:List Ng) (no1:Option Addr) (nc1:Nat) (T1:Nat→Za.U) (rs:List (Nat×List Nat)) (oo:Option Addr) (oc:Nat) (wr:World):Prop where
 ow:wr.ownsRow w.heap.size 3 1 (.slice oo (Za.cC rs).length oc) (Za.cC rs).length ((Za.cC rs).map aM)
 tr:nH cls own bg (TT n) D.length rs
 mc:cN wr mb (cs.setIfInBounds 1 (.slice no1 (D++E).length nc1)) (D++E) no1 nc1 fr G po pc
 ar:a8 wr (D++E) (fun g=>P g∧¬rowOf oo g)
 to:Za.dD (aY (D++E)) fr T1
 old:∀m,m<D.length→T1 m=TT m
 nd:dG D.length E
 el:E.length≤rs.length*78732
 lt:∀v∈Za.cC rs,v<(D++E).length
 ln:(Za.cC rs).length≤rs.length*12000000
 fg:au (cE mb nO) (fun k=>cE mb no1 k∨rowOf oo k) w wr
def Ud (P:Nat→Prop) (w:World) (mb:Nat) (cs:Array Value) (D:List Ng) (nO:Option Addr) (fr:Nat→Nat) (TT:Nat→Za.U) (G:List Gl) (po:Option Addr) (pc:Nat) (cls:List Za.aL) (own:List Nat) (bg n:Nat) (k:Nat) (wv av iv:Value) (wr:World):Prop:=
 ∃(rs:List (Nat×List Nat)) (E:List Ng) (no1:Option Addr) (nc1:Nat) (T1:Nat→Za.U) (oo:Option Addr) (oc:Nat),k+rs.length=own.length∧iv= .int .i64 (rs.length:Int)∧wv= .bool (Za.l9 rs)∧av= .slice oo (Za.cC rs).length oc∧Ct P w mb cs D nO fr TT G po pc cls own bg n E no1 nc1 T1 rs oo oc wr
def nR (P:Nat→Prop) (mb:Nat) (cs:Array Value) (D:List Ng) (nO:Option Addr) (fr:Nat→Nat) (TT:Nat→Za.U) (G:List Gl) (po:Option Addr) (pc:Nat) (cls:List Za.aL) (own:List Nat) (bg n i:Nat) (gi:Gl) (w:World) (e:Ending) (w':World):Prop:=
 (∃(rs:List (Nat×List Nat)) (c:Za.aL) (V F:List Nat) (T2:Nat→Za.U) (ws:List Nat) (E:List Ng) (F':List Nat) (no':Option Addr) (nc':Nat) (T':Nat→Za.U) (Gn:List Gl) (po':Option Addr) (pc':Nat),rs.length<own.length∧nH cls own bg (TT n) D.length rs∧cls[ir own bg rs.length]?=some c∧qA (TT n) D.length c V F T2 1 ws∧e= .returned (.int .i64 ((ir own bg rs.length+1:Nat):Int))∧
  cN w' mb ((cs.setIfInBounds 1 (.slice no' (D++E).length nc')).setIfInBounds 3 (.slice po' (G.eraseIdx i++Gn).length pc')) (D++E) no' nc' fr (G.eraseIdx i++Gn) po' pc'∧a8 w' (D++E) P∧Za.dD (aY (D++E)) fr T'∧(∀m,m<D.length→T' m=TT m)∧(∀m∈V++F,T' m=T2 m)∧dG D.length E∧(V++F++F').length=(Za.NG c).length∧(∀f∈F++F',D.length≤f∧T' f= .v ([],f))∧(F++F').Pairwise (·<·)∧(∀m∈V++F++F',m<(D++E).length)∧bO (mD T' (D++E).length (cP T' (V++F++F') (Za.NG c))) c.goals Gn∧E.length≤1100000∧au (cE mb nO) (fun k=>cE mb no' k∨rowOf po' k) w w')∨
 (∃(rs:List (Nat×List Nat)),rs.length=own.length∧nH cls own bg (TT n) D.length rs∧Za.l9 rs=false∧e= .returned (.int .i64 (-2))∧(∃cs2:Array Value,w'.heap[mb]?=some (.cells (cs2.setIfInBounds 5 (.int .i64 4)) 91 (0,0))∧∃no1 n1 nc1,cs2=cs.setIfInBounds 1 (.slice no1 n1 nc1))∧au (cE mb nO) (fun k=>k=mb) w w')∨
 (∃(rs:List (Nat×List Nat)) (E:List Ng) (no1:Option Addr) (nc1:Nat) (T1:Nat→Za.U) (oo:Option Addr) (oc:Nat),rs.length=own.length∧nH cls own bg (TT n) D.length rs∧Za.l9 rs=true∧e= .returned (.int .i64 (-1))∧cN w' mb (cs.setIfInBounds 1 (.slice no1 (D++E).length nc1)) (D++E) no1 nc1 fr (G.set i {gi with wt:=true,no:=oo,nc:=oc,nd:=Za.cC rs}) po pc∧a8 w' (D++E) P∧Za.dD (aY (D++E)) fr T1∧(∀m,m<D.length→T1 m=TT m)∧dG D.length E∧E.length≤1100000∧(∀k,rowOf oo k→w.heap.size≤k)∧au (fun k=>cE mb nO k∨rowOf po k) (fun k=>cE mb no1 k∨rowOf po k) w w')
theorem qA.low {u:Za.U} {b b':Nat} (hb:b'≤b) {c:Za.aL} {V F:List Nat} {T':Nat→Za.U} {says:Nat} {ws:List Nat} (h:qA u b c V F T' says ws):qA u b' c V F T' says ws:=by
 rcases h with h | ⟨h1,h2,h3,h4,h5⟩
 ·exact Or.inl h
 ·exact Or.inr ⟨h1,h2,h3,fun f hf=>⟨Nat.le_trans hb (h4 f hf).1,(h4 f hf).2⟩,h5⟩
theorem b9 {w:World} {b:Nat} {S:TypeId} {sz:Nat} {o:Option Addr} {n cap:Nat} {xs:List Value} (h:w.ownsRow b S sz (.slice o n cap) n xs) {k:Nat} (hk:rowOf o k):b≤k∧k<w.heap.size:=by
 obtain⟨p,hp,hq⟩:=hk
 exact h.lt k (by rw[hp,hq];rfl)
theorem cN.grown {w w':World} {mb:Nat} {cs:Array Value} {D:List Ng} {nO:Option Addr} {nC:Nat} {fr:Nat→Nat} {G:List Gl} {po:Option Addr} {pc:Nat} (h:cN w mb cs D nO nC fr G po pc) {b n oc:Nat} {oo:Option Addr} {xs:List Value} (ho:w.ownsRow b 3 1 (.slice oo n oc) n xs) (hg:w.grownBy w' (Value.slice oo n oc).ownBlock) (tT:∀g∈G,∀k,rowOf g.no k→¬rowOf oo k):cN w' mb cs D nO nC fr G po pc:=by
 have keep:∀(k:Nat) (ys:Array Value) (S:TypeId),w.heap[k]?=some (.cells ys S (0,0))→S≠3→w'.heap[k]?=w.heap[k]?:=fun k ys S hk hS=>hg.block k (ag hk) (bT (aQ ho hk hS))
 refine⟨⟨(keep mb _ _ h.st.blk (by decide)).trans h.st.blk,h.st.cel,ai h.st.own fun g q=> ?_,h.st.ty⟩,h.ok,h.c3,ai h.pool fun g q=> ?_,fun g oQ=>ai (h.nds g oQ) fun k q=> ?_,h.nlt,h.nl⟩
 ·obtain⟨cur,hc⟩:=aK h.st.own (aI q)
  exact keep g _ _ hc (by decide)
 ·obtain⟨cur,hc⟩:=aK h.pool (aI q)
  exact keep g _ _ hc (by decide)
 ·obtain⟨cur,hc⟩:=aK (h.nds g oQ) (aI q)
  exact hg.block k (ag hc) (bT (tT g oQ k (aI q)))
theorem Ct.next {P:Nat→Prop} {w:World} {mb:Nat} {cs:Array Value} {D:List Ng} {nO:Option Addr} {fr:Nat→Nat} {TT:Nat→Za.U} {G:List Gl} {po:Option Addr} {pc:Nat} {cls:List Za.aL} {own:List Nat} {bg n:Nat} {E:List Ng} {no1:Option Addr} {nc1:Nat} {T1:Nat→Za.U} {rs:List (Nat×List Nat)} {oo:Option Addr} {oc:Nat} {wr:World} (h:Ct P w mb cs D nO fr TT G po pc cls own bg n E no1 nc1 T1 rs oo oc wr)
 (tT:∀g∈G,∀k,rowOf g.no k→k<w.heap.size) {says:Nat} {ws:List Nat} {c:Za.aL} {V F:List Nat} {E2:List Ng} {no2:Option Addr} {nc2:Nat} {T2:Nat→Za.U} {vo':Option Addr} (hc:cls[ir own bg rs.length]?=some c) (ha:qA (T1 n) (D++E).length c V F T2 says ws) (hn:n<D.length) (hs1:says≠1) (hlen:ws.length≤12000000) (hlt:∀v∈ws,v<((D++E)++E2).length) {w2:World} (hst:bG w2 mb 1 ((cs.setIfInBounds 1 (.slice no1 (D++E).length nc1)).setIfInBounds 1 (.slice no2 ((D++E)++E2).length nc2)) 91 ((D++E)++E2) no2 nc2) (aF:bW ((D++E)++E2) fr) (fz:Za.dD (aY ((D++E)++E2)) fr T2) (hold:∀m,m<(D++E).length→T2 m=T1 m) (dx:dG (D++E).length E2) (fy:E2.length≤78732) (bA:a8 w2 ((D++E)++E2) (fun g=>(P g∧¬rowOf oo g)∧¬rowOf vo' g)) (kL:au (cE mb no1) (cE mb no2) wr w2)
 {w9:World} (hb:Below w2.heap.size w2 w9) {oo':Option Addr} {oc':Nat} {w':World} (hrow:w'.ownsRow w.heap.size 3 1 (.slice oo' (Za.cC (rs++[(says,ws)])).length oc') (Za.cC (rs++[(says,ws)])).length ((Za.cC (rs++[(says,ws)])).map aM)) (hgr:w9.grownBy w' (Value.slice oo (Za.cC rs).length oc).ownBlock) (hat:∀k,rowOf oo' k→rowOf oo k∨w9.heap.size≤k):
 Ct P w mb cs D nO fr TT G po pc cls own bg n (E++E2) no2 nc2 T2 (rs++[(says,ws)]) oo' oc' w':=by
 have hz1:=h.fg.size
 have hz2:=kL.size
 have Ym:=hb.size
 have hz':=hgr.size
 have ow2:w9.ownsRow w.heap.size 3 1 (.slice oo (Za.cC rs).length oc) (Za.cC rs).length ((Za.cC rs).map aM):=ai h.ow fun g q=>by
  obtain⟨cur,qd⟩:=aK h.ow (aI q)
  have h1:=h.mc.st.rF kL qd (by decide) (by decide)
  rw[hb.block g (ag h1),h1,qd]
 have fA:=(((h.mc.asked hst aF (dQ _ _) kL).below hb).grown ow2 hgr (fun g hg k hk hk2=>by
  have h1:=tT g hg k hk
  have h2:=(b9 h.ow hk2).1
  omega))
 have hu:T1 n=TT n:=h.old n hn
 rw[hu]at ha
 refine⟨hrow,fun t r hr=> ?_,by rw[←List.append_assoc];rw[set_set]at fA;exact fA,?_,by rw[←List.append_assoc];exact fz,fun m hm=> ?_,h.nd.app (by have:=dx;rwa [List.length_append]at this),?_,?_,?_,?_⟩
 ·by_cases q:t<rs.length
  ·rw[List.getElem?_append_left q]at hr
   exact h.tr t r hr
  ·rw[List.getElem?_append_right (by omega)]at hr
   obtain rfl:t=rs.length:=by
    have:=(List.getElem?_eq_some_iff.1 hr).1
    simp at this
    omega
   simp at hr
   subst hr
   exact⟨hs1,c,V,F,T2,hc,ha.low (by rw[List.length_append];omega)⟩
 ·rw[←List.append_assoc]
  refine bA.keep fun g ys hp hg=> ?_
  have Qy:=(hb.block g (ag hg)).trans hg
  refine⟨(hgr.block g (ag Qy) (bT hp.1.2)).trans Qy,hp.1.1,fun q=> ?_⟩
  rcases hat g q with e | e
  ·exact hp.1.2 e
  ·have:=ag Qy;omega
 ·rw[hold m (by rw[List.length_append];omega),h.old m hm]
 ·have:=h.el
  rw[List.length_append,List.length_append,Nat.add_mul]
  simp only[List.length_cons,List.length_nil]
  omega
 ·intro v hv
  rw[←List.append_assoc]
  rw[Za.qc]at hv
  rcases List.mem_append.1 hv with q | q
  ·exact Nat.lt_of_lt_of_le (h.lt v q) (dQ _ _)
  ·split at q
   ·exact hlt v q
   ·cases q
 ·have h1:=h.ln
  have h2:(if(says,ws).1=3 then(says,ws).2 else []).length≤ws.length:=by
   split
   ·exact Nat.le_refl _
   ·exact Nat.zero_le _
  have h3:(rs++[(says,ws)]).length=rs.length+1:=by simp
  rw[Za.qc,List.length_append,h3]
  generalize (if(says,ws).1=3 then(says,ws).2 else []).length=z at*
  omega
 ·have Ca:∀k,cE mb no1 k→cE mb nO k∨w.heap.size≤k:=fun k q=>h.fg.row k (Or.inl q)
  have Ue:∀k,rowOf oo k→w.heap.size≤k:=fun k q=>(b9 h.ow q).1
  refine⟨hgr.os.trans (hb.os.trans (kL.os.trans h.fg.os)),hgr.tape.trans (hb.tape.trans (kL.tape.trans h.fg.tape)),hgr.output.trans (hb.output.trans (kL.output.trans h.fg.output)),by omega,fun k hk hr=> ?_,fun k q=> ?_⟩
  ·rw[hgr.block k (by omega) (bT fun q=>by have:=Ue k q;omega),hb.block k (by omega),kL.block k (by omega) ?_,h.fg.block k hk hr]
   intro q
   rcases Ca k q with e | e
   ·exact hr e
   ·omega
  ·rcases q with q | q
   ·rcases kL.row k q with e | e
    ·exact Ca k e
    ·right;omega
   ·rcases hat k q with e | e
    ·exact Or.inr (Ue k e)
    ·right;omega
def sA (w w':World):Prop:=∀(g:Nat) (ys:Array Value) (S:TypeId),w.heap[g]?=some (.cells ys S (0,0))→S≠245→w'.heap[g]?=w.heap[g]?
theorem sA.row {w w':World} (h:sA w w') {b:Nat} {S:TypeId} {sz:Nat} {o:Option Addr} {n cap:Nat} {xs:List Value} (ho:w.ownsRow b S sz (.slice o n cap) n xs) (hS:S≠245):w'.ownsRow b S sz (.slice o n cap) n xs:=ai ho fun g q=>by
 obtain⟨cur,hc⟩:=aK ho (aI q)
 exact h g _ _ hc hS
theorem sA.st {w w':World} (h:sA w w') {mb:Nat} {cs:Array Value} {D:List Ng} {no:Option Addr} {nc:Nat} (hs:bG w mb 1 cs 91 D no nc):bG w' mb 1 cs 91 D no nc:=⟨(h mb _ _ hs.blk (by decide)).trans hs.blk,hs.cel,h.row hs.own (by decide),hs.ty⟩
theorem sA.args {w w':World} (h:sA w w') {D:List Ng} {P:Nat→Prop} (ha:a8 w D P):a8 w' D P:=ha.keep fun g _ hp hg=>⟨(h g _ _ hg (by decide)).trans hg,hp⟩
theorem sA.alloc (w:World) (o:Obj):sA w (w.alloc o):=fun _ _ _ hg _=>Below.heap_alloc _ _ _ (ag hg)
theorem sA.KU {w:World} {ab:Nat} {C:Array Value} (hb:w.heap[ab]?=some (.cells C 245 (0,0))) (v0 v1 v2:Value):sA w (((w.setCell ⟨ab,0,none⟩ v0).setCell ⟨ab,1,none⟩ v1).setCell ⟨ab,2,none⟩ v2):=fun g ys S hg hS=>lY w v0 v1 v2 (fun e=>by
 rw[e,hb]at hg
 simp only[Option.some.injEq,Obj.cells.injEq]at hg
 exact hS hg.2.1.symm)
theorem ML.base {PP:Nat→Prop} {mb:Nat} {cs:Array Value} {D:List Ng} {nO:Option Addr} {fr:Nat→Nat} {TT:Nat→Za.U} {n:Nat} {c:Za.aL} {w W:World} {e:Ending} {w':World} (hb:Below w.heap.size w W) (h:ML PP mb cs D nO fr TT n c W e w'):ML PP mb cs D nO fr TT n c w e w'∧∃R',au (cE mb nO) R' W w':=by
 obtain⟨says,ws,oo,oc,vo',vl,vc',E,V,F,no',nc',T',h1,h2,h3,h4,h5,h6,h7,h8,h9,h10,h11,h12,h13,h14⟩:=h
 exact⟨⟨says,ws,oo,oc,vo',vl,vc',E,V,F,no',nc',T',h1,cf h2 hb.size,h3,h4,h5,h6,h7,h8,h9,h10,h11,h12,(au.aw hb).trans h13,fun q=>by
  obtain⟨k1,k2,k3,k4,k5⟩:=h14 q
  exact⟨k1,k2,k3,fun k r=>(k4 k r).imp id fun s=>Nat.le_trans hb.size s,k5⟩⟩,_,h13⟩
theorem Ct.fin {P:Nat→Prop} {w:World} {mb:Nat} {cs:Array Value} {D:List Ng} {nO:Option Addr} {fr:Nat→Nat} {TT:Nat→Za.U} {G:List Gl} {po:Option Addr} {pc:Nat} {cls:List Za.aL} {own:List Nat} {bg n:Nat} {E:List Ng} {no1:Option Addr} {nc1:Nat} {T1:Nat→Za.U} {rs:List (Nat×List Nat)} {oo:Option Addr} {oc:Nat} {wr:World} (h:Ct P w mb cs D nO fr TT G po pc cls own bg n E no1 nc1 T1 rs oo oc wr)
 (e9:rs.length<own.length) (ho:own.length≤12) {ws:List Nat} {c:Za.aL} {V F:List Nat} {E2:List Ng} {no2:Option Addr} {nc2:Nat} {T2:Nat→Za.U} {vo2:Option Addr} (hc:cls[ir own bg rs.length]?=some c) (ha:qA (T1 n) (D++E).length c V F T2 1 ws) (hn:n<D.length) (aF:bW ((D++E)++E2) fr) (fz:Za.dD (aY ((D++E)++E2)) fr T2) (hold:∀m,m<(D++E).length→T2 m=T1 m) (dx:dG (D++E).length E2) (fy:E2.length≤78732) {w9:World} (kL:au (cE mb no1) (cE mb no2) wr w9)
 (Qk:∀k,rowOf vo2 k→cE mb no1 k∨wr.heap.size≤k) (hlt:∀m∈V++F,m<((D++E)++E2).length) (gM:fC (D++E).length E2 F) {i:Nat} {gi:Gl} {e:Ending} {w':World} (hp:Qv P mb ((cs.setIfInBounds 1 (.slice no1 (D++E).length nc1)).setIfInBounds 1 (.slice no2 ((D++E)++E2).length nc2)) ((D++E)++E2) (V++F) no2 vo2 fr T2 G i (ir own bg rs.length) c w9 e w'):
 nR P mb cs D nO fr TT G po pc cls own bg n i gi w e w':=by
 obtain⟨E3,F3,no3,nc3,T3,Gn,po3,pc3,rfl,Qz,Vn,QA,FP,QB,QC,Vo,Vp,Vq,X3,yt⟩:=hp
 rw[set_set,set_set]at Qz
 have hu:T1 n=TT n:=h.old n hn
 rw[hu]at ha
 have hz1:=h.fg.size
 have hz2:=kL.size
 have eA:(D++E++E2++E3)=D++(E++E2++E3):=by simp
 have Vs:bW (D++E++E2++E3) fr:=Qz.ok
 have hnewF:∀f∈F,(D++E).length≤f∧f<(D++E++E2).length∧T2 f= .v ([],f):=pn aF fz dx gM
 have hnewF3:=pn Vs QA QB QC
 have nd1:dG (D.length+E.length) E2:=by have:=dx;rwa [List.length_append]at this
 have nd2:dG (D.length+(E++E2).length) E3:=by
  have:=QB
  rwa [List.length_append,List.length_append,Nat.add_assoc,←List.length_append]at this
 refine Or.inl ⟨rs,c,V,F,T2,ws,E++E2++E3,F3,no3,nc3,T3,Gn,po3,pc3,e9,h.tr,hc,ha.low (dQ _ _),rfl,by rw[←eA];exact Qz,by rw[←eA];exact Vn,by rw[←eA];exact QA,fun m hm=> ?_,fun m hm=>FP m (hlt m hm),(h.nd.app nd1).app nd2,Vo,fun f hf=> ?_,?_,by rw[←eA];exact Vp,by rw[←eA];exact Vq,?_,?_⟩
 ·rw[FP m (by rw[List.length_append,List.length_append];omega),hold m (by rw[List.length_append];omega),h.old m hm]
 ·rcases List.mem_append.1 hf with q | q
  ·obtain⟨q1,q2,q3⟩:=hnewF f q
   refine⟨by rw[List.length_append]at q1;omega,?_⟩
   rw[FP f q2,q3]
  ·obtain⟨q1,q2,q3⟩:=hnewF3 f q
   exact⟨by rw[List.length_append,List.length_append]at q1;omega,q3⟩
 ·rw[List.pairwise_append]
  refine⟨gM.ord,QC.ord,fun x hx y hy=> ?_⟩
  have:=(hnewF x hx).2.1
  have:=(hnewF3 y hy).1
  omega
 ·have h1:=h.el
  have h2:rs.length*78732≤11*78732:=Nat.mul_le_mul_right _ (by omega)
  rw[List.length_append,List.length_append]
  omega
 ·have Ca:∀k,cE mb no1 k→cE mb nO k∨w.heap.size≤k:=fun k q=>h.fg.row k (Or.inl q)
  have hs2:∀k,cE mb no2 k→cE mb nO k∨w.heap.size≤k:=fun k q=>by
   rcases kL.row k q with e | e
   ·exact Ca k e
   ·right;omega
  have hv2:∀k,rowOf vo2 k→cE mb nO k∨w.heap.size≤k:=fun k q=>by
   rcases Qk k q with e | e
   ·exact Ca k e
   ·right;omega
  have hz3:=yt.size
  refine⟨yt.os.trans (kL.os.trans h.fg.os),yt.tape.trans (kL.tape.trans h.fg.tape),yt.output.trans (kL.output.trans h.fg.output),by omega,fun k hk hr=> ?_,fun k q=> ?_⟩
  ·rw[yt.block k (by omega) ?_,kL.block k (by omega) ?_,h.fg.block k hk hr]
   ·intro q
    rcases Ca k q with e | e
    ·exact hr e
    ·omega
   ·rintro(q | q)
    ·rcases hs2 k q with e | e
     ·exact hr e
     ·omega
    ·rcases hv2 k q with e | e
     ·exact hr e
     ·omega
  ·rcases yt.row k q with(e | e) | e
   ·exact hs2 k e
   ·exact hv2 k e
   ·right;omega
end Go.Proofs.YthfjnfcekeknlaaGreatDoor
