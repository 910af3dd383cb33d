import Derived.Test.YthfjnfcekeknlaaGreatDoorSu26
import Derived.Test.YthfjnfcekeknlaaGreatDoorSu29
import Derived.Deep.LoopGhost
import Derived.Maps.AppendAt
import Derived.OwnWalk
set_option maxHeartbeats 8000000
set_option maxRecDepth 100000
namespace Za
def yr (tx:List UInt8) (m:Nat) (c:aL):Bool:=decide (c.head.text.toList=tx)&&decide (c.head.args.length=m)
def cC (cls:List aL) (tx:List UInt8) (m j:Nat):List Nat:=(List.range j).filter fun i=>match cls[i]? with
 | some c=>yr tx m c
 | none=>false
theorem I9 (cls:List aL) (tx:List UInt8) (m j:Nat) (h:j<cls.length):cC cls tx m (j+1)=cC cls tx m j++(if yr tx m cls[j]=true then [j]else []):=by
 unfold cC
 rw[List.range_succ,List.filter_append]
 congr 1
 simp only[List.filter_cons,List.filter_nil,List.getElem?_eq_getElem h]
theorem Cj (cls:List aL) (tx:List UInt8) (m j:Nat):(cC cls tx m j).length≤j:=by
 have:=List.length_filter_le (fun i=>match cls[i]? with
  | some c=>yr tx m c
  | none=>false) (List.range j)
 rwa [List.length_range]at this
end Za
namespace Go.Proofs.YthfjnfcekeknlaaGreatDoor
open Go.RowKit
def Ue (w:World) (cls:List Za.aL) (tx:List UInt8) (m:Nat) (L:Array Value) (k:Nat) (av iv:Value) (wr:World):Prop:=
 ∃j:Nat,k+j=cls.length∧iv= .int .i64 (j:Int)∧wr.ownsRow (w.heap.size+1) 3 1 av (Za.cC cls tx m j).length ((Za.cC cls tx m j).map aM)∧Below w.heap.size w wr∧wr.heap[w.heap.size]?=some (.cells L 177 (0,0))
theorem Ab (w:World) (mb:Nat) (cs:Array Value) (D:List Ng) (nO:Option Addr) (nC:Nat) (fr:Nat→Nat) (n:Nat) (d:Ng) (cls:List Za.aL) (clo:Option Addr) (clc:Nat) (hs:bI w mb 1 cs 91 D nO nC) (aF:b6 D fr) (hn:n<D.length) (hd:D[fr n]?=some d) (hk:d.k=3) (h0:cs[0]?=some (.slice clo cls.length clc)) (gf:dh w clo cls.length cls) (Ec:∀c∈cls,c.head.kind=2) (hl:cls.length≤12):
 Calls Tryz.prog 181 #[.pointer (some ⟨mb,0,none⟩),.int .i64 (n:Int)] w fun e w'=>∃oo oc,e= .returned (.slice oo (Za.cC cls d.tx.toList d.args.length cls.length).length oc)∧w'.ownsRow w.heap.size 3 1 (.slice oo (Za.cC cls d.tx.toList d.args.length cls.length).length oc) (Za.cC cls d.tx.toList d.args.length cls.length).length ((Za.cC cls d.tx.toList d.args.length cls.length).map aM)∧Below w.heap.size w w':=by
 obtain⟨k,hop⟩:=aF.hop n hn
 have dC:=aF.nd (fr n) (aF.lt hn)
 have hdd:D[fr n]'(aF.lt hn)=d:=(List.getElem?_eq_some_iff.1 hd).2
 rw[hdd]at dC
 obtain⟨dv,dc,dl⟩:=dC.c hk
 have HL:=af (eY w mb 1 cs _ D nO nC n (fr n) k d hs hop hd)
 rw[hk,dv,dc]at HL
 have f0:=(ah hs.blk 0).trans h0
 have mz:=ag hs.blk
 have vK:=af gf
 have W5:=af Ec
 obtain⟨tj,hj,iM,iN,iO⟩:=info_parts infoIn
 generalize d.args.length=dm at*
 generalize d.tx=dtx at*
 clear hs aF hn hd hk h0 gf Ec hop dC hdd dv dc dl d
 go_enter Tryz.func181,Tryz.ntmps181
 go_wp2_with fail
 refine(ae HL).mono ?_
 rintro e w2 ⟨rfl,hb2⟩
 have f2:=(hb2.cell (p:=⟨mb,0,none⟩) mz).trans f0
 have mz2:mb<w2.heap.size:=Nat.lt_of_lt_of_le mz hb2.size
 have bf:=af hb2
 have z2:=hb2.size
 clear hb2 HL f0
 have HST:=af (show Ue w2 cls dtx.toList dm #[.int .i64 3,.int .i64 0,.string dtx,.int .i64 (dm:Int)] cls.length (.slice none 0 0) (.int .i64 0) (w2.alloc (.cells #[.int .i64 3,.int .i64 0,.string dtx,.int .i64 (dm:Int)] 177))from ⟨0,by omega,rfl,by simpa [Za.cC] using World.ownsRow_nil _ _ _ _,(Below.refl _ _).alloc (Nat.le_refl _) _,heap_alloc_new _ _⟩)
 go_wp2_with fail
 go_loopg [6,19] cls.length (fun k av iv wr=>Ue w2 cls dtx.toList dm #[.int .i64 3,.int .i64 0,.string dtx,.int .i64 (dm:Int)] k av iv wr)
 case atStart=>exact ae HST
 case round=>
  clear HST
  obtain⟨j,hkj,rfl,how,aO,eR⟩:=hrel
  obtain⟨oo,oc,rfl⟩:=gG how
  by_cases hlt:j<cls.length
  ·obtain⟨g,vs,ca,hao,fu,lY,my⟩:=(ae vK).2 (fun q=>by rw[q]at hlt;simp at hlt)
   subst hao
   have kL:j<vs.length:=by have:=my.length;omega
   have dP:Below w.heap.size w wr:=(ae bf).trans (aO.mono z2)
   have hcw:wr.heap[g]?=some (.cells ca 78 (0,0)):=(dP.block g (ag fu)).trans fu
   have fc:∀i,i<6→wr.cell? ⟨g,j*6+i,none⟩=(oz vs[j])[i]?:=fun i hi=>by
    rw[ah hcw,←Array.getElem?_toList,←B1 kL i hi,←lY,List.getElem?_take_of_lt (by omega)]
   have e0:=fc 0 (by omega)
   have e1:=fc 1 (by omega)
   have e2:=fc 2 (by omega)
   have e3:=fc 3 (by omega)
   have e4:=fc 4 (by omega)
   have e5:=fc 5 (by omega)
   simp only[oz,List.getElem?_cons_zero,List.getElem?_cons_succ,Nat.add_zero]at e0 e1 e2 e3 e4 e5
   have zF:eJ w vs[j].a vs[j].o1 vs[j].n1 vs[j].o2 vs[j].n2 cls[j]:=my.at j kL hlt
   obtain⟨⟨ha1,ha2,W6,W7,Uf,W8⟩,W9⟩:=zF.head
   have hk2:=ae W5 _ (List.getElem_mem hlt)
   have Ug:vs[j].a.k=3:=by rw[ha1,hk2];rfl
   have Uh:=Uf hk2
   rw[Ug]at e0
   rw[Uh]at e2
   rw[ha2]at e3
   have gz:g<wr.heap.size:=ag hcw
   have lz:w2.heap.size<wr.heap.size:=ag eR
   have i0:(0:Int)≤(j:Int):=by omega
   have i1:(j:Int)<(cls.length:Int):=by omega
   have fw:=af (Za.I9 cls dtx.toList dm j hlt)
   have hle:=Za.Cj cls dtx.toList dm j
   have Vm:(Za.cC cls dtx.toList dm j).length≤1000000:=by omega
   have l0:=ah eR 0
   have l1:=ah eR 1
   have l2:=ah eR 2
   have l3:=ah eR 3
   simp only[List.getElem?_toArray,List.getElem?_cons_zero,List.getElem?_cons_succ]at l0 l1 l2 l3
   have LA:=af (fun W=>qK W ⟨3,vs[j].a.val,cls[j].head.text,vs[j].a.ao,cls[j].head.args.length,vs[j].a.cap⟩)
   have HOW:=af how
   have bT:=af aO
   have DR:=af eR
   have aT:=af hkj
   have bh:=af hlt
   generalize Za.cC cls dtx.toList dm j=Z at*
   generalize vs[j]=v at*
   have hcs:Za.yr dtx.toList dm cls[j]=(decide (cls[j].head.text.toList=dtx.toList)&&decide (cls[j].head.args.length=dm)):=rfl
   generalize hq:Za.yr dtx.toList dm cls[j]=q at*
   generalize cls[j].head.text=bj at*
   generalize cls[j].head.args.length=hm at*
   obtain⟨⟨ak0,av0,ax0,ao0,an0,ac0⟩,o1,n1,c1,o2,n2,c2⟩:=v
   dsimp only at e0 e1 e2 e3 e4 e5 LA
   have Ed:=af hcs
   clear how aO eR hkj hlt fc hle dP hcw lY my fu zF ha1 ha2 W6 W7 Uf hk2 Ug Uh W8 W9 hq hcs kL
   have hlv:jq ⟨3,av0,bj,ao0,hm,ac0⟩=0:=rfl
   rw[hlv]at LA
   clear hlv
   cases q with
   | true=>
    have hh:=(ae Ed).symm
    simp only[Bool.and_eq_true,decide_eq_true_eq]at hh
    obtain⟨Qz,rfl⟩:=hh
    have t1:(bj.toList == dtx.toList)=true:=by rw[Qz];simp
    have t2:bj=dtx:=by
     exact Hl Qz
    subst t2
    clear Qz Ed
    rw[if_pos rfl]at fw
    go_wp2_with fail
    go_region_with (go_at_call 95;refine(ae LA _).mono ?_;rintro e w5 ⟨rfl,bF⟩;have m0:=(bF.cell (p:=⟨w2.heap.size,0,none⟩) (by simp;omega)).trans ((World.cell?_alloc_past _ _ _ lz).trans l0);have m1:=(bF.cell (p:=⟨w2.heap.size,1,none⟩) (by simp;omega)).trans ((World.cell?_alloc_past _ _ _ lz).trans l1);have m2:=(bF.cell (p:=⟨w2.heap.size,2,none⟩) (by simp;omega)).trans ((World.cell?_alloc_past _ _ _ lz).trans l2);have m3:=(bF.cell (p:=⟨w2.heap.size,3,none⟩) (by simp;omega)).trans ((World.cell?_alloc_past _ _ _ lz).trans l3);have nK:Below wr.heap.size wr w5:=(by first | exact((Below.refl _ wr).alloc (Nat.le_refl _) _).trans (bF.mono (by simp)) | exact(((Below.refl _ wr).alloc (Nat.le_refl _) _).drew).trans (bF.mono (by simp)));have bO:=af ((ae bT).trans (nK.mono (ae bT).size));have Ck:=af ((nK.block _ lz).trans (ae DR));have lZ:=af (ai (ae HOW) (fun k q=>nK.block k ((ae HOW).lt k q).2));have z5:w2.heap.size<w5.heap.size:=Nat.lt_of_lt_of_le lz nK.size;clear bF nK)
    all_goals
     go_wp2_with (at_builtin;go_must (refine wpList_append_own_at _ rfl (.tmp 29) (.tmp 31) 25 rfl (w2.heap.size+1) 3 tj (.int .i64 0) 1 8 Tryz.underlying25 hj iM iN iO rfl (by decide) _ Z.length (Z.map aM) rfl ((ae lZ).alloc _) ⟨w5.heap.size,0,none⟩ 1 1 [.int .i64 (j:Int)] rfl rfl (iZ _ _ _ _ rfl) (by simp[Value.oneCell']) (by unfold maxLen;omega) (by omega) (by simp;omega) ?_);go_must (intro v' w7 hown' hgrow _ _;have mD:=af hown';have mE:=af (((ae bO).alloc (ae bO).size _).grown hgrow (by have:=(ae bO).size;simp;omega) (fun k q=>by have:=((ae lZ).lt k q).1;omega));have Xa:=af ((hgrow.block w2.heap.size (by simp;omega) (fun q=>by have:=((ae lZ).lt w2.heap.size q.symm).1;omega)).trans ((Below.heap_alloc _ _ _ z5).trans (ae Ck)));clear hown' hgrow))
     go_roundg (gk - 1)
     case measure=>have:=ae aT;have:=ae bh;omega
     case rel=>exact⟨j+1,by have:=ae aT;have:=ae bh;omega,by go_num,by rw[ae fw];have:=ae mD;simpa [aM] using this,ae mE,ae Xa⟩
   | false=>
    have hh:=(ae Ed).symm
    rw[if_neg (by simp),List.append_nil]at fw
    have Xb:bj.toList≠dtx.toList∨(bj=dtx∧hm≠dm):=by
     by_cases e1:bj.toList=dtx.toList
     ·right
      refine⟨Hl e1,fun e2=> ?_⟩
      simp[e1,e2]at hh
     ·exact Or.inl e1
    clear hh Ed
    rcases Xb with hh | ⟨rfl,hh⟩
    ·have t1:(bj.toList == dtx.toList)=false:=by simpa using hh
     clear hh
     go_wp2_with fail
     go_region_with (go_at_call 95;refine(ae LA _).mono ?_;rintro e w5 ⟨rfl,bF⟩;have m0:=(bF.cell (p:=⟨w2.heap.size,0,none⟩) (by simp;omega)).trans ((World.cell?_alloc_past _ _ _ lz).trans l0);have m1:=(bF.cell (p:=⟨w2.heap.size,1,none⟩) (by simp;omega)).trans ((World.cell?_alloc_past _ _ _ lz).trans l1);have m2:=(bF.cell (p:=⟨w2.heap.size,2,none⟩) (by simp;omega)).trans ((World.cell?_alloc_past _ _ _ lz).trans l2);have m3:=(bF.cell (p:=⟨w2.heap.size,3,none⟩) (by simp;omega)).trans ((World.cell?_alloc_past _ _ _ lz).trans l3);have nK:Below wr.heap.size wr w5:=(by first | exact((Below.refl _ wr).alloc (Nat.le_refl _) _).trans (bF.mono (by simp)) | exact(((Below.refl _ wr).alloc (Nat.le_refl _) _).drew).trans (bF.mono (by simp)));have bO:=af ((ae bT).trans (nK.mono (ae bT).size));have Ck:=af ((nK.block _ lz).trans (ae DR));have lZ:=af (ai (ae HOW) (fun k q=>nK.block k ((ae HOW).lt k q).2));have z5:w2.heap.size<w5.heap.size:=Nat.lt_of_lt_of_le lz nK.size;clear bF nK)
     all_goals
      go_wp2_with fail
      go_roundg (gk - 1)
      case measure=>have:=ae aT;have:=ae bh;omega
      case rel=>exact⟨j+1,by have:=ae aT;have:=ae bh;omega,by go_num,by rw[ae fw];exact ae lZ,ae bO,ae Ck⟩
    ·have t1:((hm:Int) == (dm:Int))=false:=by simp;omega
     have t3:(hm == dm)=false:=by simpa using hh
     clear hh
     go_wp2_with fail
     go_region_with (go_at_call 95;refine(ae LA _).mono ?_;rintro e w5 ⟨rfl,bF⟩;have m0:=(bF.cell (p:=⟨w2.heap.size,0,none⟩) (by simp;omega)).trans ((World.cell?_alloc_past _ _ _ lz).trans l0);have m1:=(bF.cell (p:=⟨w2.heap.size,1,none⟩) (by simp;omega)).trans ((World.cell?_alloc_past _ _ _ lz).trans l1);have m2:=(bF.cell (p:=⟨w2.heap.size,2,none⟩) (by simp;omega)).trans ((World.cell?_alloc_past _ _ _ lz).trans l2);have m3:=(bF.cell (p:=⟨w2.heap.size,3,none⟩) (by simp;omega)).trans ((World.cell?_alloc_past _ _ _ lz).trans l3);have nK:Below wr.heap.size wr w5:=(by first | exact((Below.refl _ wr).alloc (Nat.le_refl _) _).trans (bF.mono (by simp)) | exact(((Below.refl _ wr).alloc (Nat.le_refl _) _).drew).trans (bF.mono (by simp)));have bO:=af ((ae bT).trans (nK.mono (ae bT).size));have Ck:=af ((nK.block _ lz).trans (ae DR));have lZ:=af (ai (ae HOW) (fun k q=>nK.block k ((ae HOW).lt k q).2));have z5:w2.heap.size<w5.heap.size:=Nat.lt_of_lt_of_le lz nK.size;clear bF nK)
     all_goals
      go_wp2_with fail
      go_roundg (gk - 1)
      case measure=>have:=ae aT;have:=ae bh;omega
      case rel=>exact⟨j+1,by have:=ae aT;have:=ae bh;omega,by go_num,by rw[ae fw];exact ae lZ,ae bO,ae Ck⟩
  ·obtain rfl:j=cls.length:=by omega
   have HOW:=af (ct how (Nat.le_trans z2 (Nat.le_succ _)))
   have bT:=af ((ae bf).trans (aO.mono z2))
   clear how aO hkj eR
   go_wp2_with fail
   go_ret
   exact⟨oo,oc,rfl,ae HOW,ae bT⟩
end Go.Proofs.YthfjnfcekeknlaaGreatDoor
namespace Za
structure jK (c:aL):Prop where
 hk:c.head.kind=2
 wl:wfK 8 c.head
 ts:∀x∈c.tests,iG x
 tl:c.tests.length≤6
 gs:∀x∈c.goals,tW x
 gl:c.goals.length≤6
 nl:(NG c).length≤100000
 t0:c.tests=[]
end Za
namespace Go.Proofs.YthfjnfcekeknlaaGreatDoor
open Go.RowKit
def eG (w w':World):Prop:=∀(g:Nat) (ys:Array Value) (S:TypeId),w.heap[g]?=some (.cells ys S (0,0))→(S=78∨S=151∨S=76)→w'.heap[g]?=some (.cells ys S (0,0))
theorem eG.trans {a b c:World} (h:eG a b) (k:eG b c):eG a c:=fun g ys S hg hS=>k g ys S (h g ys S hg hS) hS
theorem eG.below {w w':World} (h:Below w.heap.size w w'):eG w w':=fun g _ _ hg _=>(h.block g (ag hg)).trans hg
theorem eG.Ui {w w':World} (h:eG w w'):aU w w':=⟨fun g cs hg _=>h g cs _ hg (Or.inr (Or.inr rfl)),fun g cs hg _=>h g cs _ hg (Or.inr (Or.inl rfl))⟩
theorem eG.cls {w w':World} (h:eG w w') {o:Option Addr} {n:Nat} {ys:List Za.aL} (hc:dh w o n ys):dh w' o n ys:=⟨hc.1,fun q=>by
 obtain⟨g,vs,cs,h1,h2,h3,h4⟩:=hc.2 q
 exact⟨g,vs,cs,h1,h g cs _ h2 (Or.inl rfl),h3,h4.imp fun _ _ q=>eJ.keep q h.Ui⟩⟩
theorem eG.lV {R R':Nat→Prop} {w w':World} (hf:au R R' w w') (hn:∀(g:Nat) (ys:Array Value) (S:TypeId),w.heap[g]?=some (.cells ys S (0,0))→(S=78∨S=151∨S=76)→¬R g):eG w w':=fun g ys S hg hS=>(hf.block g (ag hg) (hn g ys S hg hS)).trans hg
theorem Vs (cs:Array Value) (y a b:Value):(((cs.setIfInBounds 3 y).setIfInBounds 1 a).setIfInBounds 3 b)=(cs.setIfInBounds 1 a).setIfInBounds 3 b:=by
 apply Array.ext_getElem?
 intro i
 simp only[Array.getElem?_setIfInBounds,Array.size_setIfInBounds]
 by_cases h1:1=i
 ·subst h1;simp
 ·by_cases h3:3=i
  ·subst h3;simp
  ·simp[h1,h3]
def QA (P:Nat→Prop) (mb:Nat) (cs:Array Value) (D:List Ng) (V:List Nat) (nO vo:Option Addr) (fr:Nat→Nat) (TT:Nat→Za.U) (G:List Gl) (i which:Nat) (c:Za.aL) (w:World) (e:Ending) (w':World):Prop:=
 ∃(E:List Ng) (F:List Nat) (no':Option Addr) (nc':Nat) (T':Nat→Za.U) (Gn:List Gl) (po':Option Addr) (pc':Nat),e= .returned (.int .i64 ((which+1:Nat):Int))∧cP w' mb ((cs.setIfInBounds 1 (.slice no' (D++E).length nc')).setIfInBounds 3 (.slice po' (G.eraseIdx i++Gn).length pc')) (D++E) no' nc' fr (G.eraseIdx i++Gn) po' pc'∧aZ w' (D++E) P∧Za.dG (aX (D++E)) fr T'∧(∀m,m<D.length→T' m=TT m)∧dJ D.length E∧fF D.length E F∧(V++F).length=(Za.NG c).length∧(∀n∈V++F,n<(D++E).length)∧bR (mH T' (D++E).length (cQ T' (V++F) (Za.NG c))) c.goals Gn∧E.length≤118098∧au (fun k=>cH mb nO k∨rowOf vo k) (fun k=>cH mb no' k∨rowOf po' k) w w'
theorem FO (w:World) (mb:Nat) (cs:Array Value) (D:List Ng) (V:List Nat) (nO:Option Addr) (nC:Nat) (vo:Option Addr) (vc:Nat) (fr:Nat→Nat) (TT:Nat→Za.U) (P:Nat→Prop) (G:List Gl) (po:Option Addr) (pc i which:Nat) (cls:List Za.aL) (clo:Option Addr) (clc:Nat) (hm:cP w mb cs D nO nC fr G po pc) (bC:aZ w D (fun g=>P g∧¬rowOf vo g)) (fD:Za.dG (aX D) fr TT) (hV:w.ownsRow 0 3 1 (.slice vo V.length vc) V.length (V.map aM)) (hVl:∀n∈V,n<D.length) (I7:∀g∈G,∀k,rowOf g.no k→¬rowOf vo k) (hP:∀g,w.heap.size≤g→P g) (h0:cs[0]?=some (.slice clo cls.length clc)) (gf:dh w clo cls.length cls) (Ee:which<cls.length) (hcc:cls.length≤12) (aF:Za.jK cls[which]) (hVn:V.length=(Za.NT cls[which]).length) (hD:D.length+4000000≤1000000000) (hGl:G.length≤1000000):
 Calls Tryz.prog 183 #[.pointer (some ⟨mb,0,none⟩),.int .i64 (i:Int),.int .i64 (which:Int),.agg #[.slice vo V.length vc]] w fun e w'=>QA P mb cs D V nO vo fr TT G i which cls[which] w e w':=by
 have hb0:=(Below.refl w.heap.size w).alloc (Nat.le_refl _) (.cells #[.slice vo V.length vc] 93)
 obtain⟨g,vs,ca,hao,fu,lY,my⟩:=gf.2 (fun q=>by rw[q]at Ee;simp at Ee)
 subst hao
 have kL:which<vs.length:=by have:=my.length;omega
 have f5:w.cell? ⟨g,which*6+5,none⟩=(oz vs[which])[5]?:=by
  rw[ah fu,←Array.getElem?_toList,←B1 kL 5 (by omega),←lY,List.getElem?_take_of_lt (by omega)]
 simp only[oz,List.getElem?_cons_zero,List.getElem?_cons_succ]at f5
 have gz:=ag fu
 have zF:eJ w vs[which].a vs[which].o1 vs[which].n1 vs[which].o2 vs[which].n2 cls[which]:=my.at which kL Ee
 have f0:=(ah hm.st.blk 0).trans h0
 have mz:=ag hm.st.blk
 have IL:=af (tR _ mb cs D nO nC fr G po pc i (hm.below hb0) hGl)
 have hw0:w.heap.size<(w.alloc (.cells #[.slice vo V.length vc] 93)).heap.size:=by simp
 have xJ:gN P (w.alloc (.cells #[.slice vo V.length vc] 93)) mb 1 cs 91 w.heap.size D V nO nC vo vc fr TT:=⟨⟨hm.st.below hb0,⟨heap_alloc_new w _,ai hV (fun g q=>hb0.block g (hV.lt g q).2)⟩,by decide,by decide,bC.below hb0⟩,hm.ok,fD,hVl⟩
 have IJ:=af (show∀(w2:World) (po1:Option Addr) (pc1:Nat),cP w2 mb (cs.setIfInBounds 3 (.slice po1 (G.eraseIdx i).length pc1)) D nO nC fr (G.eraseIdx i) po1 pc1→au (fun k=>k=mb) (fun k=>k=mb∨rowOf po1 k) (w.alloc (.cells #[.slice vo V.length vc] 93)) w2→Calls Tryz.prog 42 #[.pointer (some ⟨mb,0,none⟩),.slice vs[which].o2 vs[which].n2 vs[which].c2,.pointer (some ⟨w.heap.size,0,none⟩)] w2 fun e w'=>e= .returned (.tuple #[])∧QA P mb cs D V nO vo fr TT G i which cls[which] w (.returned (.int .i64 ((which+1:Nat):Int))) w' from fun w2 po1 pc1 pY hf2=>by
  have fZ:∀(k:Nat) (ys:Array Value) (S:TypeId),(w.alloc (.cells #[.slice vo V.length vc] 93)).heap[k]?=some (.cells ys S (0,0))→S≠91→w2.heap[k]?=some (.cells ys S (0,0)):=fun k ys S hk hS=>(hf2.block k (ag hk) (fun e=>by
   rw[e,xJ.ad.st.blk]at hk
   simp only[Option.some.injEq,Obj.cells.injEq]at hk
   exact hS hk.2.1.symm)).trans hk
  have Vt:=xJ.I6 pY.st (fun k ys S hk hS=>(fZ k ys S hk (by rcases hS with q | q<;>(rw[q];decide))).trans hk.symm)
  have MK:eG w w2:=(eG.below hb0).trans fun k ys S hk hS=>fZ k ys S hk (by rcases hS with q | q | q<;>(rw[q];decide))
  have Vu:=zF.keep MK.Ui
  have hz:=hf2.size
  refine(Cg w2 mb _ w.heap.size D V nO nC vo vc fr TT P (G.eraseIdx i) po1 pc1 (Za.NG cls[which]) (Za.NT cls[which]) cls[which].goals vs[which].o2 vs[which].n2 vs[which].c2 Vt pY (fun x hx=>I7 x (List.mem_of_mem_eraseIdx hx)) (fun q hq=>hP q (by omega)) Vu.goals aF.gs hVn ⟨[],by rw[List.append_nil];rfl⟩ aF.nl (Nat.le_trans aF.gl (by omega)) hD (Nat.le_trans (List.length_eraseIdx_le _ _) hGl)).mono ?_
  rintro e w3 ⟨rfl,E,F,no',nc',vo',vc',T',Gn,po',pc',ej⟩
  have fE:=ej.mc
  have ecs:((cs.setIfInBounds 3 (.slice po1 (G.eraseIdx i).length pc1)).setIfInBounds 1 (.slice no' (D++E).length nc')).setIfInBounds 3 (.slice po' (G.eraseIdx i++Gn).length pc')=(cs.setIfInBounds 1 (.slice no' (D++E).length nc')).setIfInBounds 3 (.slice po' (G.eraseIdx i++Gn).length pc'):=by
   exact Vs _ _ _ _
  rw[ecs]at fE
  refine⟨rfl,E,F,no',nc',T',Gn,po',pc',rfl,fE,ej.ms.ad.args.keep (fun g _ hp hg=>⟨hg,hp.1⟩),ej.ms.to,ej.old,ej.nd,ej.nv,ej.ln,ej.ms.lt,ej.gl,Nat.le_trans ej.el (by have:=aF.gl;omega),?_⟩
  have oC:∀k,rowOf po1 k→k=mb∨w.heap.size≤k:=fun k q=>by
   rcases hf2.row k (Or.inr q)with e | e
   ·exact Or.inl e
   ·right;omega
  refine⟨ej.fg.os.trans (hf2.os.trans hb0.os),ej.fg.tape.trans (hf2.tape.trans hb0.tape),ej.fg.output.trans (hf2.output.trans hb0.output),by have:=ej.fg.size;omega,fun k hk hr=> ?_,fun k q=> ?_⟩
  ·rw[ej.fg.block k (by omega) ?_,hf2.block k (by omega) (fun e=>hr (Or.inl (Or.inl e))),hb0.block k hk]
   rintro((e | e | e | e) | e)
   ·exact hr (Or.inl (Or.inl e))
   ·exact hr (Or.inl (Or.inr e))
   ·omega
   ·exact hr (Or.inr e)
   ·rcases oC k e with e | e
    ·exact hr (Or.inl (Or.inl e))
    ·omega
  ·have q2:uP mb no' w.heap.size vo' po' k:=by
    rcases q with(q | q) | q
    ·exact Or.inl (Or.inl q)
    ·exact Or.inl (Or.inr (Or.inl q))
    ·exact Or.inr q
   rcases ej.fg.row k q2 with((e | e | e | e) | e) | e
   ·exact Or.inl (Or.inl (Or.inl e))
   ·exact Or.inl (Or.inl (Or.inr e))
   ·right;omega
   ·exact Or.inl (Or.inr e)
   ·rcases oC k e with e | e
    ·exact Or.inl (Or.inl (Or.inl e))
    ·exact Or.inr e
   ·right;omega)
 have i0:(0:Int)≤(which:Int):=by omega
 have i1:(which:Int)<(cls.length:Int):=by omega
 have Yw:=af Ee
 generalize vs[which]=v at*
 obtain⟨⟨ak0,av0,ax0,ao0,an0,ac0⟩,o1,n1,c1,o2,n2,c2⟩:=v
 dsimp only at f5 IJ
 have Uj:=af (ae IJ)
 generalize hcw:cls[which]=cw at*
 clear hcw IJ hm bC fD hV hVl I7 hP h0 gf aF hVn hD hb0 fu lY my zF xJ kL hw0
 go_enter Tryz.func183,Tryz.ntmps183
 go_wp2_with fail
 refine(ae IL).mono ?_
 rintro e w2 ⟨rfl,po1,pc1,m2,fr2⟩
 have I2:=af (ae Uj w2 po1 pc1 m2 fr2)
 clear m2 fr2 IL Uj
 go_wp2_with fail
 refine(ae I2).mono ?_
 rintro e w3 ⟨rfl,h3⟩
 have H3:=af h3
 clear h3 I2
 go_wp2_with fail
 go_ret
 exact ae H3
theorem xL {P:Program} (w:World) (t ty e:TypeId) (i:TypeInfo) (ht:P.underlying t=some (.slice e)) (hi:P.info? e=some i) (base:Option Addr) (sLen sCap:Nat) (hle:sLen≤sCap):(Builtin.append_ #[t,t] ty #[.slice base sLen sCap,.slice none 0 0]).run P w= .ok (.slice base sLen sCap) w:=by
 cases base<;>simp[Builtin.append_,run_underlying ht,sizeOf,typeInfo,hi,hle,Builtin.lenOf,Builtin.firstCells,loadCells,storeCells]
theorem Dp {ops:Array Oper} {rest:List Oper} {o:Oper} {a:Act} {Q:Exit→Act→World→Prop} {w:World} (hgd:o.guard=none) (s x:Operand)
 (ho:o.op= .call {callee:= .builtin .append,args:=#[s,x],argTypes:=#[25,25]})
 (base b2:Nat) (v:Value) (n:Nat) (xs:List Nat) (hs:a.eval s=v) (hown:w.ownsRow base 3 1 v n (xs.map aM))
 (so:Option Addr) (m c:Nat) (ys:List Nat) (hx:a.eval x= .slice so m c) (hy:w.ownsRow b2 3 1 (.slice so m c) m (ys.map aM))
 (hn:n+m≤1000000000) (hbase:base≤w.heap.size)
 (h:∀v' w',w'.ownsRow base 3 1 v' (n+m) ((xs++ys).map aM)→w.grownBy w' v.ownBlock→(v'.ownBlock=v.ownBlock∨v'.ownBlock=some w.heap.size)→wpList Tryz.prog ops Q rest (a.put o.dst v') w'):
 wpList Tryz.prog ops Q (o :: rest) a w:=by
 obtain⟨tj,hj,iM,iN,iO⟩:=info_parts infoIn
 rcases hy.2 with⟨q,q0⟩ | ⟨g,cap,cur,q,q1,q2,q3,q4,q5,q6⟩
 ·simp only[Value.slice.injEq]at q
  obtain⟨rfl,rfl,rfl⟩:=q
  have ML:ys=[]:=by
   have:=hy.1
   simp at this
   exact this
  subst ML
  obtain⟨vo,vc,rfl⟩:=gG hown
  have hle:n≤vc:=by
   rcases hown.2 with⟨r,r0⟩ | ⟨g,cap,cur,r,_,_,r3,_⟩
   ·omega
   ·simp only[Value.slice.injEq]at r
    omega
  refine wpList_plain hgd fun K hK=> ?_
  have hr:=xL (P:=Tryz.prog) w 25 o.type 3 tj Tryz.underlying25 hj vo n vc hle
  unfold Oper.wp execOp
  simp only[ho,resolve,invoke,builtin,Sem.run_bind,Sem.run_pure,Result.andThen_ok,List.map_toArray,List.map_cons,List.map_nil,hs,hx,hr]
  exact hK _ _ (h _ _ (by simpa using hown) (World.grownBy.refl _ _) (Or.inl rfl))
 ·simp only[Value.slice.injEq]at q
  obtain⟨rfl,_,rfl⟩:=q
  refine wpList_append_own_at w hgd s x 25 ho base 3 tj (.int .i64 0) 1 8 Tryz.underlying25 hj iM iN iO rfl (by decide) v n (xs.map aM) hs hown ⟨g,0,none⟩ m c (ys.map aM) hx (by have:=hy.1;simpa using this) (fun j u hj=> ?_) (fun u hu=> ?_) (by unfold maxLen;omega) (by omega) hbase (fun v' w' h1 h2 _ h4=>h v' w' (by rw[List.map_append];exact h1) h2 h4)
  ·have QB:j<(ys.map aM).length:=(List.getElem?_eq_some_iff.1 hj).1
   have:(⟨g,0,none⟩:Addr).add j=⟨g,j,none⟩:=by cases j<;>simp[Addr.add]
   rw[this,hy.cellAt j (by have:=hy.1;simp at this QB;omega)]
   exact hj
  ·obtain⟨y,_,rfl⟩:=List.mem_map.1 hu
   rfl
end Go.Proofs.YthfjnfcekeknlaaGreatDoor
namespace Za
def uQ (TT:Nat→U) (u:U) (c:aL) (V:List Nat):Prop:=V.length=(namesF 8 [] c.head).length∧∀(i:Nat) (x:List UInt8) (m:Nat),(namesF 8 [] c.head)[i]?=some x→V[i]?=some m→∃q,(matU 8 c.head u ⟨[],Wn.none⟩).st.find? (fun q=>q.1 == x)=some q∧TT m=q.2
end Za
namespace Go.Proofs.YthfjnfcekeknlaaGreatDoor
open Go.RowKit
def qB (u:Za.U) (b:Nat) (c:Za.aL) (V F:List Nat) (T':Nat→Za.U) (says:Nat) (ws:List Nat):Prop:=
 ((Za.matU 8 c.head u ⟨[],Za.Wn.none⟩).w.says≠1∧says=(Za.matU 8 c.head u ⟨[],Za.Wn.none⟩).w.says∧ws=(Za.matU 8 c.head u ⟨[],Za.Wn.none⟩).w.wt)∨
 ((Za.matU 8 c.head u ⟨[],Za.Wn.none⟩).w.says=1∧Za.uQ T' u c V∧(V++F).length=(Za.NT c).length∧(∀f∈F,b≤f∧T' f= .v ([],f))∧F.Pairwise (·<·)∧says=(Za.iR (cQ T' (V++F) (Za.NG c)) c.tests).says∧ws=Za.kj (V++F) V.length (Za.iR (cQ T' (V++F) (Za.NG c)) c.tests).wt)
def MM (PP:Nat→Prop) (mb:Nat) (cs:Array Value) (D:List Ng) (nO:Option Addr) (fr:Nat→Nat) (TT:Nat→Za.U) (n:Nat) (c:Za.aL) (w:World) (e:Ending) (w':World):Prop:=
 ∃(says:Nat) (ws:List Nat) (oo:Option Addr) (oc:Nat) (vo':Option Addr) (vl vc':Nat) (E:List Ng) (V F:List Nat) (no':Option Addr) (nc':Nat) (T':Nat→Za.U),e= .returned (.agg #[.int .i64 (says:Int),.slice oo ws.length oc,.slice vo' vl vc'])∧w'.ownsRow w.heap.size 3 1 (.slice oo ws.length oc) ws.length (ws.map aM)∧qB (TT n) D.length c V F T' says ws∧ws.length≤12000000∧(∀v∈ws,v<(D++E).length)∧
  bI w' mb 1 (cs.setIfInBounds 1 (.slice no' (D++E).length nc')) 91 (D++E) no' nc'∧b6 (D++E) fr∧Za.dG (aX (D++E)) fr T'∧(∀m,m<D.length→T' m=TT m)∧dJ D.length E∧E.length≤78732∧aZ w' (D++E) (fun g=>PP g∧¬rowOf vo' g)∧au (cH mb nO) (cH mb no') w w'∧
  (says=1→(∀m∈V,m<D.length)∧vl=(V++F).length∧w'.ownsRow 0 3 1 (.slice vo' (V++F).length vc') (V++F).length ((V++F).map aM)∧(∀k,rowOf vo' k→cH mb nO k∨w.heap.size≤k)∧(∀n∈V++F,n<(D++E).length)∧(V++F).length=(Za.NT c).length∧fF D.length E F)
theorem Ap (l:Za.Wn):l.says=1∨l.says=2∨l.says=3:=by
 unfold Za.Wn.says
 split
 ·exact Or.inr (Or.inl rfl)
 ·split
  ·exact Or.inl rfl
  ·exact Or.inr (Or.inr rfl)
theorem b6.kN {D:List Ng} {fr:Nat→Nat} {T:Nat→Za.U} (ok:b6 D fr) (hS:Za.dG (aX D) fr T):∀n,n<D.length→Za.bE (fun x=>x.1=[]∧x.2<D.length∧fr x.2=x.2) (T n):=
 hS.kN (fun n hn=>ok.lt hn) (fun n hn a ha=>by rw[jS hn]at ha;exact(ok.nd n hn).inn a ha)
theorem pE {D E:List Ng} {F:List Nat} {fr:Nat→Nat} {T':Nat→Za.U} (ok:b6 (D++E) fr) (hS:Za.dG (aX (D++E)) fr T') (nd:dJ D.length E) (nv:fF D.length E F):∀f∈F,D.length≤f∧f<(D++E).length∧T' f= .v ([],f):=fun f hf=>by
 obtain⟨h1,d,h2,h3⟩:=nv.var f hf
 have hl:f<(D++E).length:=by
  have:=(List.getElem?_eq_some_iff.1 h2).1
  rw[List.length_append];omega
 have hd:(D++E)[f]=d:=by rw[List.getElem_append_right h1];exact(List.getElem?_eq_some_iff.1 h2).2
 have cW:fr f=f:=(ok.self hl).2 (nd.at h1 hl).1
 have hv:=hS.var (n:=f) (by rw[cW,lU hl,hd];exact(ok.nd f hl |> fun q=>by rw[hd]at q;exact q.fY.2 h3))
 rw[cW]at hv
 exact⟨h1,hl,hv⟩
theorem Lb (w:World) (mb:Nat) (cs:Array Value) (D:List Ng) (nO:Option Addr) (nC:Nat) (fr:Nat→Nat) (TT:Nat→Za.U) (PP:Nat→Prop) (a:AV) (o1 o2:Option Addr) (n1 c1 n2 c2 n:Nat) (c:Za.aL) (hG:gA w w.heap.size mb 1 cs 91 D nO nC fr TT PP) (hPP:∀g,w.heap.size≤g→PP g) (hc:eJ w a o1 n1 o2 n2 c) (ok:Za.jK c) (hn:n<D.length) (hsz:Za.size (TT n)≤300) (hD:D.length+100000≤1000000000):
 Calls Tryz.prog 182 #[.pointer (some ⟨mb,1,none⟩),.agg #[.int .i64 a.k,.int .i64 a.val,.string a.tx,.slice a.ao a.n a.cap,.slice o1 n1 c1,.slice o2 n2 c2],.int .i64 (n:Int)] w fun e w'=>MM PP mb cs D nO fr TT n c w e w':=by
 have hsm:=Za.uE (B:=300) 8 c.head (TT n) ⟨[],Za.Wn.none⟩ ok.wl hsz (by omega) (fun q hq=>by cases hq)
 have q3:3 ^ 8=6561:=by decide
 rw[q3]at hsm
 have Xc:=Za.mR 8 c.head (TT n) ⟨[],Za.Wn.none⟩ (hG.ok.kN hG.to n hn) ⟨(fun q hq=>by cases hq),Za.dF _⟩
 obtain⟨KT,hKT⟩:=Za.jV c.tests (Za.namesF 8 [] c.head)
 obtain⟨KG,hKG⟩:=Za.jV c.goals (Za.NT c)
 have hNT:Za.NT c=Za.namesF 8 [] c.head++KT:=hKT
 have hNG:Za.NG c=Za.NT c++KG:=hKG
 by_cases hy:(Za.matU 8 c.head (TT n) ⟨[],Za.Wn.none⟩).w.says=1
 ·refine(FE w mb 1 cs 91 D nO nC fr TT PP a o1 o2 n1 c1 n2 c2 n (Za.NG c) KG c.head c.tests hG hPP (by decide) (by decide) (by decide) (by decide) (by decide) (by decide) hc.head hc.tests hNG ok.wl ok.ts ok.tl hn hsz hD hy ok.t0).mono ?_
  rintro e w' ⟨V,hVl,hVD,hVq,l,E,F,no',nc',vo',vc',T',oo,oc,rfl,rfl,Qs,MD,hro,hs,aF,fD,bC,hlt,hold,dC,gP,jm,fC,kO⟩
  have o7:=pE aF fD dC gP
  have FP:∀y∈Za.NT c,∃m∈V++F,cQ T' (V++F) (Za.NG c) y=T' m:=fun y hy=>Io hy hNG jm
  have hsize:∀m∈V++F,Za.size (T' m)≤300:=fun m hm=>by
   rcases List.mem_append.1 hm with q | q
   ·rw[hold m (hVD m q)]
    obtain⟨i,hi,rfl⟩:=List.getElem_of_mem q
    obtain⟨r,h1,h2⟩:=hVq i (Za.namesF 8 [] c.head)[i] V[i] (List.getElem?_eq_getElem (by omega)) (List.getElem?_eq_getElem hi)
    rw[h2]
    exact hsm.1 r (List.mem_of_find?_eq_some h1)
   ·rw[(o7 m q).2.2]
    simp[Za.size]
  have hlen:(Za.iR (cQ T' (V++F) (Za.NG c)) c.tests).wt.length≤c.tests.length*2000000:=Za.N5 c.tests (Za.namesF 8 [] c.head) ok.ts fun y hy=>by
   obtain⟨m,hm,he⟩:=FP y hy
   rw[he]
   exact hsize m hm
  have Vv:=Za.yl (η:=cQ T' (V++F) (Za.NG c)) c.tests (Za.namesF 8 [] c.head) ok.ts fun y hy=>by
   obtain⟨m,hm,he⟩:=FP y hy
   rw[he]
   exact aF.kN fD m (hlt m hm)
  refine⟨_,_,oo,oc,vo',_,vc',E,V,F,no',nc',T',rfl,Qs,Or.inr ⟨hy,⟨hVl,fun i x m h1 h2=>by rw[hold m (hVD m (List.mem_of_getElem? h2))];exact hVq i x m h1 h2⟩,jm,fun f hf=>⟨(o7 f hf).1,(o7 f hf).2.2⟩,gP.ord,rfl,rfl⟩,?_,?_,hs,aF,fD,hold,dC,fC,bC,kO,fun _=>⟨hVD,rfl,MD,hro,hlt,jm,gP⟩⟩
  ·have h1:(Za.kj (V++F) V.length (Za.iR (cQ T' (V++F) (Za.NG c)) c.tests).wt).length≤(Za.iR (cQ T' (V++F) (Za.NG c)) c.tests).wt.length:=List.length_filter_le _ _
   have h2:=ok.tl
   omega
  ·intro v hv
   obtain⟨x,hx,rfl⟩:=Vv v (List.mem_filter.1 hv).1
   exact hx.2.1
 ·refine(Ip w mb 1 cs 91 D nO nC fr TT PP a o1 o2 n1 c1 n2 c2 n (Za.NG c) (KT++KG) c.head hG hc.head (by rw[hNG,hNT,List.append_assoc]) ok.wl hn hsz hy).mono ?_
  rintro e w' ⟨wo,wc,rfl,ho,hb⟩
  refine⟨_,_,wo,wc,none,0,0,[],[],[],nO,nC,TT,rfl,ho,Or.inl ⟨hy,rfl,rfl⟩,?_,?_,?_,by simpa using hG.ok,by simpa using hG.to,fun _ _=>rfl,(fun i d hd=>by simp at hd),by simp,?_,au.aw hb,fun q=>absurd q hy⟩
  ·have:=hsm.2
   simp only[Za.Wn.none,List.length_nil]at this⊢
   omega
  ·intro v hv
   obtain⟨x,hx,rfl⟩:=Xc.2 v hv
   simpa using hx.2.1
  ·rw[List.append_nil,l9 hG.st.cel]
   exact hG.st.below hb
  ·rw[List.append_nil]
   exact(hG.ar.below hb).keep fun g _ hp hg=>⟨hg,hp,fun⟨_,q,_⟩=>by cases q⟩
end Go.Proofs.YthfjnfcekeknlaaGreatDoor
namespace Za
def cF (rs:List (Nat×List Nat)):List Nat:=rs.flatMap fun r=>if r.1=3 then r.2 else []
def mj (rs:List (Nat×List Nat)):Bool:=rs.any fun r=>r.1 == 3
theorem qg (rs:List (Nat×List Nat)) (r:Nat×List Nat):cF (rs++[r])=cF rs++(if r.1=3 then r.2 else []):=by simp[cF]
theorem zG (rs:List (Nat×List Nat)) (r:Nat×List Nat):mj (rs++[r])=(mj rs||(r.1 == 3)):=by simp[mj]
end Za
namespace Go.Proofs.YthfjnfcekeknlaaGreatDoor
open Go.RowKit
theorem cP.asked {w w':World} {mb:Nat} {cs:Array Value} {D D':List Ng} {nO no':Option Addr} {nC nc':Nat} {fr:Nat→Nat} {G:List Gl} {po:Option Addr} {pc:Nat} (h:cP w mb cs D nO nC fr G po pc) (hs:bI w' mb 1 (cs.setIfInBounds 1 (.slice no' D'.length nc')) 91 D' no' nc') (ok:b6 D' fr) (hl:D.length≤D'.length) {R':Nat→Prop} (hf:au (cH mb nO) R' w w'):cP w' mb (cs.setIfInBounds 1 (.slice no' D'.length nc')) D' no' nc' fr G po pc:=by
 have keep:∀(k:Nat) (ys:Array Value) (S:TypeId),w.heap[k]?=some (.cells ys S (0,0))→S≠91→S≠180→w'.heap[k]?=w.heap[k]?:=fun k ys S hk h1 h2=>(h.st.rC hf hk h1 h2).trans hk.symm
 refine⟨hs,ok,by rw[Array.getElem?_setIfInBounds_ne (by omega)];exact h.c3,ai h.pool fun g q=> ?_,fun g hg=>ai (h.nds g hg) fun k q=> ?_,fun g hg v hv=>Nat.lt_of_lt_of_le (h.nlt g hg v hv) hl,h.nl⟩
 ·obtain⟨cur,hc⟩:=aK h.pool (aI q)
  exact keep g _ _ hc (by decide) (by decide)
 ·obtain⟨cur,hc⟩:=aK (h.nds g hg) (aI q)
  exact keep k _ _ hc (by decide) (by decide)
def gY (own:List Nat) (bg t:Nat):Nat:=(own[(bg+t) % own.length]?).getD 0
def nL (cls:List Za.aL) (own:List Nat) (bg:Nat) (u:Za.U) (b:Nat) (rs:List (Nat×List Nat)):Prop:=∀(t:Nat) (r:Nat×List Nat),rs[t]?=some r→r.1≠1∧∃(c:Za.aL) (V F:List Nat) (T':Nat→Za.U),cls[gY own bg t]?=some c∧qB u b c V F T' r.1 r.2
structure Cl (P:Nat→Prop) (w:World) (mb:Nat) (cs:Array Value) (D:List Ng) (nO:Option Addr) (fr:Nat→Nat) (TT:Nat→Za.U) (G:List Gl) (po:Option Addr) (pc:Nat) (cls:List Za.aL) (own:List Nat) (bg n:Nat) (E:List Ng) (no1:Option Addr) (nc1:Nat) (T1:Nat→Za.U) (rs:List (Nat×List Nat)) (oo:Option Addr) (oc:Nat) (wr:World):Prop where
 ow:wr.ownsRow w.heap.size 3 1 (.slice oo (Za.cF rs).length oc) (Za.cF rs).length ((Za.cF rs).map aM)
 tr:nL cls own bg (TT n) D.length rs
 mc:cP wr mb (cs.setIfInBounds 1 (.slice no1 (D++E).length nc1)) (D++E) no1 nc1 fr G po pc
 ar:aZ wr (D++E) (fun g=>P g∧¬rowOf oo g)
 to:Za.dG (aX (D++E)) fr T1
 old:∀m,m<D.length→T1 m=TT m
 nd:dJ D.length E
 el:E.length≤rs.length*78732
 lt:∀v∈Za.cF rs,v<(D++E).length
 ln:(Za.cF rs).length≤rs.length*12000000
 fg:au (cH mb nO) (fun k=>cH mb no1 k∨rowOf oo k) w wr
def Uk (P:Nat→Prop) (w:World) (mb:Nat) (cs:Array Value) (D:List Ng) (nO:Option Addr) (fr:Nat→Nat) (TT:Nat→Za.U) (G:List Gl) (po:Option Addr) (pc:Nat) (cls:List Za.aL) (own:List Nat) (bg n:Nat) (k:Nat) (wv av iv:Value) (wr:World):Prop:=
 ∃(rs:List (Nat×List Nat)) (E:List Ng) (no1:Option Addr) (nc1:Nat) (T1:Nat→Za.U) (oo:Option Addr) (oc:Nat),k+rs.length=own.length∧iv= .int .i64 (rs.length:Int)∧wv= .bool (Za.mj rs)∧av= .slice oo (Za.cF rs).length oc∧Cl P w mb cs D nO fr TT G po pc cls own bg n E no1 nc1 T1 rs oo oc wr
def nT (P:Nat→Prop) (mb:Nat) (cs:Array Value) (D:List Ng) (nO:Option Addr) (fr:Nat→Nat) (TT:Nat→Za.U) (G:List Gl) (po:Option Addr) (pc:Nat) (cls:List Za.aL) (own:List Nat) (bg n i:Nat) (gi:Gl) (w:World) (e:Ending) (w':World):Prop:=
 (∃(rs:List (Nat×List Nat)) (c:Za.aL) (V F:List Nat) (T2:Nat→Za.U) (ws:List Nat) (E:List Ng) (F':List Nat) (no':Option Addr) (nc':Nat) (T':Nat→Za.U) (Gn:List Gl) (po':Option Addr) (pc':Nat),rs.length<own.length∧nL cls own bg (TT n) D.length rs∧cls[gY own bg rs.length]?=some c∧qB (TT n) D.length c V F T2 1 ws∧e= .returned (.int .i64 ((gY own bg rs.length+1:Nat):Int))∧
  cP w' mb ((cs.setIfInBounds 1 (.slice no' (D++E).length nc')).setIfInBounds 3 (.slice po' (G.eraseIdx i++Gn).length pc')) (D++E) no' nc' fr (G.eraseIdx i++Gn) po' pc'∧aZ w' (D++E) P∧Za.dG (aX (D++E)) fr T'∧(∀m,m<D.length→T' m=TT m)∧(∀m∈V++F,T' m=T2 m)∧dJ D.length E∧(V++F++F').length=(Za.NG c).length∧(∀f∈F++F',D.length≤f∧T' f= .v ([],f))∧(F++F').Pairwise (·<·)∧(∀m∈V++F++F',m<(D++E).length)∧bR (mH T' (D++E).length (cQ T' (V++F++F') (Za.NG c))) c.goals Gn∧E.length≤1100000∧au (cH mb nO) (fun k=>cH mb no' k∨rowOf po' k) w w')∨
 (∃(rs:List (Nat×List Nat)),rs.length=own.length∧nL cls own bg (TT n) D.length rs∧Za.mj rs=false∧e= .returned (.int .i64 (-2))∧(∃cs2:Array Value,w'.heap[mb]?=some (.cells (cs2.setIfInBounds 5 (.int .i64 4)) 91 (0,0))∧∃no1 n1 nc1,cs2=cs.setIfInBounds 1 (.slice no1 n1 nc1))∧au (cH mb nO) (fun k=>k=mb) w w')∨
 (∃(rs:List (Nat×List Nat)) (E:List Ng) (no1:Option Addr) (nc1:Nat) (T1:Nat→Za.U) (oo:Option Addr) (oc:Nat),rs.length=own.length∧nL cls own bg (TT n) D.length rs∧Za.mj rs=true∧e= .returned (.int .i64 (-1))∧cP w' mb (cs.setIfInBounds 1 (.slice no1 (D++E).length nc1)) (D++E) no1 nc1 fr (G.set i {gi with wt:=true,no:=oo,nc:=oc,nd:=Za.cF rs}) po pc∧aZ w' (D++E) P∧Za.dG (aX (D++E)) fr T1∧(∀m,m<D.length→T1 m=TT m)∧dJ D.length E∧E.length≤1100000∧(∀k,rowOf oo k→w.heap.size≤k)∧au (fun k=>cH mb nO k∨rowOf po k) (fun k=>cH mb no1 k∨rowOf po k) w w')
theorem qB.low {u:Za.U} {b b':Nat} (hb:b'≤b) {c:Za.aL} {V F:List Nat} {T':Nat→Za.U} {says:Nat} {ws:List Nat} (h:qB u b c V F T' says ws):qB u b' c V F T' says ws:=by
 rcases h with h | ⟨h1,h2,h3,h4,h5⟩
 ·exact Or.inl h
 ·exact Or.inr ⟨h1,h2,h3,fun f hf=>⟨Nat.le_trans hb (h4 f hf).1,(h4 f hf).2⟩,h5⟩
theorem cr {w:World} {b:Nat} {S:TypeId} {sz:Nat} {o:Option Addr} {n cap:Nat} {xs:List Value} (h:w.ownsRow b S sz (.slice o n cap) n xs) {k:Nat} (hk:rowOf o k):b≤k∧k<w.heap.size:=by
 obtain⟨p,hp,hq⟩:=hk
 exact h.lt k (by rw[hp,hq];rfl)
theorem cP.grown {w w':World} {mb:Nat} {cs:Array Value} {D:List Ng} {nO:Option Addr} {nC:Nat} {fr:Nat→Nat} {G:List Gl} {po:Option Addr} {pc:Nat} (h:cP w mb cs D nO nC fr G po pc) {b n oc:Nat} {oo:Option Addr} {xs:List Value} (ho:w.ownsRow b 3 1 (.slice oo n oc) n xs) (hg:w.grownBy w' (Value.slice oo n oc).ownBlock) (tT:∀g∈G,∀k,rowOf g.no k→¬rowOf oo k):cP w' mb cs D nO nC fr G po pc:=by
 have keep:∀(k:Nat) (ys:Array Value) (S:TypeId),w.heap[k]?=some (.cells ys S (0,0))→S≠3→w'.heap[k]?=w.heap[k]?:=fun k ys S hk hS=>hg.block k (ag hk) (bX (aR ho hk hS))
 refine⟨⟨(keep mb _ _ h.st.blk (by decide)).trans h.st.blk,h.st.cel,ai h.st.own fun g q=> ?_,h.st.ty⟩,h.ok,h.c3,ai h.pool fun g q=> ?_,fun g oX=>ai (h.nds g oX) fun k q=> ?_,h.nlt,h.nl⟩
 ·obtain⟨cur,hc⟩:=aK h.st.own (aI q)
  exact keep g _ _ hc (by decide)
 ·obtain⟨cur,hc⟩:=aK h.pool (aI q)
  exact keep g _ _ hc (by decide)
 ·obtain⟨cur,hc⟩:=aK (h.nds g oX) (aI q)
  exact hg.block k (ag hc) (bX (tT g oX k (aI q)))
theorem Cl.next {P:Nat→Prop} {w:World} {mb:Nat} {cs:Array Value} {D:List Ng} {nO:Option Addr} {fr:Nat→Nat} {TT:Nat→Za.U} {G:List Gl} {po:Option Addr} {pc:Nat} {cls:List Za.aL} {own:List Nat} {bg n:Nat} {E:List Ng} {no1:Option Addr} {nc1:Nat} {T1:Nat→Za.U} {rs:List (Nat×List Nat)} {oo:Option Addr} {oc:Nat} {wr:World} (h:Cl P w mb cs D nO fr TT G po pc cls own bg n E no1 nc1 T1 rs oo oc wr)
 (tT:∀g∈G,∀k,rowOf g.no k→k<w.heap.size) {says:Nat} {ws:List Nat} {c:Za.aL} {V F:List Nat} {E2:List Ng} {no2:Option Addr} {nc2:Nat} {T2:Nat→Za.U} {vo':Option Addr} (hc:cls[gY own bg rs.length]?=some c) (ha:qB (T1 n) (D++E).length c V F T2 says ws) (hn:n<D.length) (hs1:says≠1) (hlen:ws.length≤12000000) (hlt:∀v∈ws,v<((D++E)++E2).length) {w2:World} (hst:bI w2 mb 1 ((cs.setIfInBounds 1 (.slice no1 (D++E).length nc1)).setIfInBounds 1 (.slice no2 ((D++E)++E2).length nc2)) 91 ((D++E)++E2) no2 nc2) (aF:b6 ((D++E)++E2) fr) (fD:Za.dG (aX ((D++E)++E2)) fr T2) (hold:∀m,m<(D++E).length→T2 m=T1 m) (dC:dJ (D++E).length E2) (fC:E2.length≤78732) (bC:aZ w2 ((D++E)++E2) (fun g=>(P g∧¬rowOf oo g)∧¬rowOf vo' g)) (kO:au (cH mb no1) (cH mb no2) wr w2)
 {w9:World} (hb:Below w2.heap.size w2 w9) {oo':Option Addr} {oc':Nat} {w':World} (hrow:w'.ownsRow w.heap.size 3 1 (.slice oo' (Za.cF (rs++[(says,ws)])).length oc') (Za.cF (rs++[(says,ws)])).length ((Za.cF (rs++[(says,ws)])).map aM)) (hgr:w9.grownBy w' (Value.slice oo (Za.cF rs).length oc).ownBlock) (hat:∀k,rowOf oo' k→rowOf oo k∨w9.heap.size≤k):
 Cl P w mb cs D nO fr TT G po pc cls own bg n (E++E2) no2 nc2 T2 (rs++[(says,ws)]) oo' oc' w':=by
 have hz1:=h.fg.size
 have hz2:=kO.size
 have Yx:=hb.size
 have hz':=hgr.size
 have ow2:w9.ownsRow w.heap.size 3 1 (.slice oo (Za.cF rs).length oc) (Za.cF rs).length ((Za.cF rs).map aM):=ai h.ow fun g q=>by
  obtain⟨cur,qh⟩:=aK h.ow (aI q)
  have h1:=h.mc.st.rC kO qh (by decide) (by decide)
  rw[hb.block g (ag h1),h1,qh]
 have fE:=(((h.mc.asked hst aF (dW _ _) kO).below hb).grown ow2 hgr (fun g hg k hk hk2=>by
  have h1:=tT g hg k hk
  have h2:=(cr h.ow hk2).1
  omega))
 have hu:T1 n=TT n:=h.old n hn
 rw[hu]at ha
 refine⟨hrow,fun t r hr=> ?_,by rw[←List.append_assoc];rw[set_set]at fE;exact fE,?_,by rw[←List.append_assoc];exact fD,fun m hm=> ?_,h.nd.app (by have:=dC;rwa [List.length_append]at this),?_,?_,?_,?_⟩
 ·by_cases q:t<rs.length
  ·rw[List.getElem?_append_left q]at hr
   exact h.tr t r hr
  ·rw[List.getElem?_append_right (by omega)]at hr
   obtain rfl:t=rs.length:=by
    have:=(List.getElem?_eq_some_iff.1 hr).1
    simp at this
    omega
   simp at hr
   subst hr
   exact⟨hs1,c,V,F,T2,hc,ha.low (by rw[List.length_append];omega)⟩
 ·rw[←List.append_assoc]
  refine bC.keep fun g ys hp hg=> ?_
  have QC:=(hb.block g (ag hg)).trans hg
  refine⟨(hgr.block g (ag QC) (bX hp.1.2)).trans QC,hp.1.1,fun q=> ?_⟩
  rcases hat g q with e | e
  ·exact hp.1.2 e
  ·have:=ag QC;omega
 ·rw[hold m (by rw[List.length_append];omega),h.old m hm]
 ·have:=h.el
  rw[List.length_append,List.length_append,Nat.add_mul]
  simp only[List.length_cons,List.length_nil]
  omega
 ·intro v hv
  rw[←List.append_assoc]
  rw[Za.qg]at hv
  rcases List.mem_append.1 hv with q | q
  ·exact Nat.lt_of_lt_of_le (h.lt v q) (dW _ _)
  ·split at q
   ·exact hlt v q
   ·cases q
 ·have h1:=h.ln
  have h2:(if(says,ws).1=3 then(says,ws).2 else []).length≤ws.length:=by
   split
   ·exact Nat.le_refl _
   ·exact Nat.zero_le _
  have h3:(rs++[(says,ws)]).length=rs.length+1:=by simp
  rw[Za.qg,List.length_append,h3]
  generalize (if(says,ws).1=3 then(says,ws).2 else []).length=z at*
  omega
 ·have B4:∀k,cH mb no1 k→cH mb nO k∨w.heap.size≤k:=fun k q=>h.fg.row k (Or.inl q)
  have Ul:∀k,rowOf oo k→w.heap.size≤k:=fun k q=>(cr h.ow q).1
  refine⟨hgr.os.trans (hb.os.trans (kO.os.trans h.fg.os)),hgr.tape.trans (hb.tape.trans (kO.tape.trans h.fg.tape)),hgr.output.trans (hb.output.trans (kO.output.trans h.fg.output)),by omega,fun k hk hr=> ?_,fun k q=> ?_⟩
  ·rw[hgr.block k (by omega) (bX fun q=>by have:=Ul k q;omega),hb.block k (by omega),kO.block k (by omega) ?_,h.fg.block k hk hr]
   intro q
   rcases B4 k q with e | e
   ·exact hr e
   ·omega
  ·rcases q with q | q
   ·rcases kO.row k q with e | e
    ·exact B4 k e
    ·right;omega
   ·rcases hat k q with e | e
    ·exact Or.inr (Ul k e)
    ·right;omega
def sw (w w':World):Prop:=∀(g:Nat) (ys:Array Value) (S:TypeId),w.heap[g]?=some (.cells ys S (0,0))→S≠245→w'.heap[g]?=w.heap[g]?
theorem sw.row {w w':World} (h:sw w w') {b:Nat} {S:TypeId} {sz:Nat} {o:Option Addr} {n cap:Nat} {xs:List Value} (ho:w.ownsRow b S sz (.slice o n cap) n xs) (hS:S≠245):w'.ownsRow b S sz (.slice o n cap) n xs:=ai ho fun g q=>by
 obtain⟨cur,hc⟩:=aK ho (aI q)
 exact h g _ _ hc hS
theorem sw.st {w w':World} (h:sw w w') {mb:Nat} {cs:Array Value} {D:List Ng} {no:Option Addr} {nc:Nat} (hs:bI w mb 1 cs 91 D no nc):bI w' mb 1 cs 91 D no nc:=⟨(h mb _ _ hs.blk (by decide)).trans hs.blk,hs.cel,h.row hs.own (by decide),hs.ty⟩
theorem sw.args {w w':World} (h:sw w w') {D:List Ng} {P:Nat→Prop} (ha:aZ w D P):aZ w' D P:=ha.keep fun g _ hp hg=>⟨(h g _ _ hg (by decide)).trans hg,hp⟩
theorem sw.alloc (w:World) (o:Obj):sw w (w.alloc o):=fun _ _ _ hg _=>Below.heap_alloc _ _ _ (ag hg)
theorem sw.KV {w:World} {ab:Nat} {C:Array Value} (hb:w.heap[ab]?=some (.cells C 245 (0,0))) (v0 v1 v2:Value):sw w (((w.setCell ⟨ab,0,none⟩ v0).setCell ⟨ab,1,none⟩ v1).setCell ⟨ab,2,none⟩ v2):=fun g ys S hg hS=>mh w v0 v1 v2 (fun e=>by
 rw[e,hb]at hg
 simp only[Option.some.injEq,Obj.cells.injEq]at hg
 exact hS hg.2.1.symm)
theorem MM.base {PP:Nat→Prop} {mb:Nat} {cs:Array Value} {D:List Ng} {nO:Option Addr} {fr:Nat→Nat} {TT:Nat→Za.U} {n:Nat} {c:Za.aL} {w W:World} {e:Ending} {w':World} (hb:Below w.heap.size w W) (h:MM PP mb cs D nO fr TT n c W e w'):MM PP mb cs D nO fr TT n c w e w'∧∃R',au (cH mb nO) R' W w':=by
 obtain⟨says,ws,oo,oc,vo',vl,vc',E,V,F,no',nc',T',h1,h2,h3,h4,h5,h6,h7,h8,h9,h10,h11,h12,h13,h14⟩:=h
 exact⟨⟨says,ws,oo,oc,vo',vl,vc',E,V,F,no',nc',T',h1,ct h2 hb.size,h3,h4,h5,h6,h7,h8,h9,h10,h11,h12,(au.aw hb).trans h13,fun q=>by
  obtain⟨k1,k2,k3,k4,k5⟩:=h14 q
  exact⟨k1,k2,k3,fun k r=>(k4 k r).imp id fun s=>Nat.le_trans hb.size s,k5⟩⟩,_,h13⟩
theorem Cl.fin {P:Nat→Prop} {w:World} {mb:Nat} {cs:Array Value} {D:List Ng} {nO:Option Addr} {fr:Nat→Nat} {TT:Nat→Za.U} {G:List Gl} {po:Option Addr} {pc:Nat} {cls:List Za.aL} {own:List Nat} {bg n:Nat} {E:List Ng} {no1:Option Addr} {nc1:Nat} {T1:Nat→Za.U} {rs:List (Nat×List Nat)} {oo:Option Addr} {oc:Nat} {wr:World} (h:Cl P w mb cs D nO fr TT G po pc cls own bg n E no1 nc1 T1 rs oo oc wr)
 (fy:rs.length<own.length) (ho:own.length≤12) {ws:List Nat} {c:Za.aL} {V F:List Nat} {E2:List Ng} {no2:Option Addr} {nc2:Nat} {T2:Nat→Za.U} {vo2:Option Addr} (hc:cls[gY own bg rs.length]?=some c) (ha:qB (T1 n) (D++E).length c V F T2 1 ws) (hn:n<D.length) (aF:b6 ((D++E)++E2) fr) (fD:Za.dG (aX ((D++E)++E2)) fr T2) (hold:∀m,m<(D++E).length→T2 m=T1 m) (dC:dJ (D++E).length E2) (fC:E2.length≤78732) {w9:World} (kO:au (cH mb no1) (cH mb no2) wr w9)
 (Qp:∀k,rowOf vo2 k→cH mb no1 k∨wr.heap.size≤k) (hlt:∀m∈V++F,m<((D++E)++E2).length) (gP:fF (D++E).length E2 F) {i:Nat} {gi:Gl} {e:Ending} {w':World} (hp:QA P mb ((cs.setIfInBounds 1 (.slice no1 (D++E).length nc1)).setIfInBounds 1 (.slice no2 ((D++E)++E2).length nc2)) ((D++E)++E2) (V++F) no2 vo2 fr T2 G i (gY own bg rs.length) c w9 e w'):
 nT P mb cs D nO fr TT G po pc cls own bg n i gi w e w':=by
 obtain⟨E3,F3,no3,nc3,T3,Gn,po3,pc3,rfl,QD,Vw,QE,FQ,QF,QG,Vx,Vy,Vz,Yd,yt⟩:=hp
 rw[set_set,set_set]at QD
 have hu:T1 n=TT n:=h.old n hn
 rw[hu]at ha
 have hz1:=h.fg.size
 have hz2:=kO.size
 have eA:(D++E++E2++E3)=D++(E++E2++E3):=by simp
 have VA:b6 (D++E++E2++E3) fr:=QD.ok
 have hnewF:∀f∈F,(D++E).length≤f∧f<(D++E++E2).length∧T2 f= .v ([],f):=pE aF fD dC gP
 have hnewF3:=pE VA QE QF QG
 have nd1:dJ (D.length+E.length) E2:=by have:=dC;rwa [List.length_append]at this
 have nd2:dJ (D.length+(E++E2).length) E3:=by
  have:=QF
  rwa [List.length_append,List.length_append,Nat.add_assoc,←List.length_append]at this
 refine Or.inl ⟨rs,c,V,F,T2,ws,E++E2++E3,F3,no3,nc3,T3,Gn,po3,pc3,fy,h.tr,hc,ha.low (dW _ _),rfl,by rw[←eA];exact QD,by rw[←eA];exact Vw,by rw[←eA];exact QE,fun m hm=> ?_,fun m hm=>FQ m (hlt m hm),(h.nd.app nd1).app nd2,Vx,fun f hf=> ?_,?_,by rw[←eA];exact Vy,by rw[←eA];exact Vz,?_,?_⟩
 ·rw[FQ m (by rw[List.length_append,List.length_append];omega),hold m (by rw[List.length_append];omega),h.old m hm]
 ·rcases List.mem_append.1 hf with q | q
  ·obtain⟨q1,q2,q3⟩:=hnewF f q
   refine⟨by rw[List.length_append]at q1;omega,?_⟩
   rw[FQ f q2,q3]
  ·obtain⟨q1,q2,q3⟩:=hnewF3 f q
   exact⟨by rw[List.length_append,List.length_append]at q1;omega,q3⟩
 ·rw[List.pairwise_append]
  refine⟨gP.ord,QG.ord,fun x hx y hy=> ?_⟩
  have:=(hnewF x hx).2.1
  have:=(hnewF3 y hy).1
  omega
 ·have h1:=h.el
  have h2:rs.length*78732≤11*78732:=Nat.mul_le_mul_right _ (by omega)
  rw[List.length_append,List.length_append]
  omega
 ·have B4:∀k,cH mb no1 k→cH mb nO k∨w.heap.size≤k:=fun k q=>h.fg.row k (Or.inl q)
  have hs2:∀k,cH mb no2 k→cH mb nO k∨w.heap.size≤k:=fun k q=>by
   rcases kO.row k q with e | e
   ·exact B4 k e
   ·right;omega
  have hv2:∀k,rowOf vo2 k→cH mb nO k∨w.heap.size≤k:=fun k q=>by
   rcases Qp k q with e | e
   ·exact B4 k e
   ·right;omega
  have hz3:=yt.size
  refine⟨yt.os.trans (kO.os.trans h.fg.os),yt.tape.trans (kO.tape.trans h.fg.tape),yt.output.trans (kO.output.trans h.fg.output),by omega,fun k hk hr=> ?_,fun k q=> ?_⟩
  ·rw[yt.block k (by omega) ?_,kO.block k (by omega) ?_,h.fg.block k hk hr]
   ·intro q
    rcases B4 k q with e | e
    ·exact hr e
    ·omega
   ·rintro(q | q)
    ·rcases hs2 k q with e | e
     ·exact hr e
     ·omega
    ·rcases hv2 k q with e | e
     ·exact hr e
     ·omega
  ·rcases yt.row k q with(e | e) | e
   ·exact hs2 k e
   ·exact hv2 k e
   ·right;omega
end Go.Proofs.YthfjnfcekeknlaaGreatDoor
