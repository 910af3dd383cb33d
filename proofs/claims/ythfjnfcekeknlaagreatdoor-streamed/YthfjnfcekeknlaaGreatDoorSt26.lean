import Derived.Test.YthfjnfcekeknlaaGreatDoorSt21
import Derived.Test.YthfjnfcekeknlaaGreatDoorSt25
import Derived.Deep.LoopGhost
import Derived.Maps.AppendAt
import Derived.OwnWalk
set_option maxHeartbeats 8000000
set_option maxRecDepth 100000
namespace Za
def yh (tx:List UInt8) (m:Nat) (c:aG):Bool:=decide (c.head.text.toList=tx)&&decide (c.head.args.length=m)
def bL (cls:List aG) (tx:List UInt8) (m j:Nat):List Nat:=(List.range j).filter fun i=>match cls[i]? with
 | some c=>yh tx m c
 | none=>false
theorem Ja (cls:List aG) (tx:List UInt8) (m j:Nat) (h:j<cls.length):bL cls tx m (j+1)=bL cls tx m j++(if yh tx m cls[j]=true then [j]else []):=by
 unfold bL
 rw[List.range_succ,List.filter_append]
 congr 1
 simp only[List.filter_cons,List.filter_nil,List.getElem?_eq_getElem h]
theorem Ch (cls:List aG) (tx:List UInt8) (m j:Nat):(bL cls tx m j).length≤j:=by
 have:=List.length_filter_le (fun i=>match cls[i]? with
  | some c=>yh tx m c
  | none=>false) (List.range j)
 rwa [List.length_range]at this
end Za
namespace Go.Proofs.YthfjnfcekeknlaaGreatDoor
open Go.RowKit
def Um (w:World) (cls:List Za.aG) (tx:List UInt8) (m:Nat) (L:Array Value) (k:Nat) (av iv:Value) (wr:World):Prop:=
 ∃j:Nat,k+j=cls.length∧iv= .int .i64 (j:Int)∧wr.ownsRow (w.heap.size+1) 3 1 av (Za.bL cls tx m j).length ((Za.bL cls tx m j).map aI)∧Below w.heap.size w wr∧wr.heap[w.heap.size]?=some (.cells L 177 (0,0))
theorem Aa (w:World) (mb:Nat) (cs:Array Value) (D:List Ng) (nO:Option Addr) (nC:Nat) (fr:Nat→Nat) (n:Nat) (d:Ng) (cls:List Za.aG) (clo:Option Addr) (clc:Nat) (hs:bt w mb 1 cs 91 D nO nC) (hok:bR D fr) (hn:n<D.length) (hd:D[fr n]?=some d) (hk:d.k=3) (h0:cs[0]?=some (.slice clo cls.length clc)) (hcl:cP w clo cls.length cls) (hkc:∀c∈cls,c.head.kind=2) (hl:cls.length≤12):
 Calls Tryz.prog 181 #[.pointer (some ⟨mb,0,none⟩),.int .i64 (n:Int)] w fun e w'=>∃oo oc,e= .returned (.slice oo (Za.bL cls d.tx.toList d.args.length cls.length).length oc)∧w'.ownsRow w.heap.size 3 1 (.slice oo (Za.bL cls d.tx.toList d.args.length cls.length).length oc) (Za.bL cls d.tx.toList d.args.length cls.length).length ((Za.bL cls d.tx.toList d.args.length cls.length).map aI)∧Below w.heap.size w w':=by
 obtain⟨k,hop⟩:=hok.hop n hn
 have hnd:=hok.nd (fr n) (hok.lt hn)
 have hdd:D[fr n]'(hok.lt hn)=d:=(List.getElem?_eq_some_iff.1 hd).2
 rw[hdd]at hnd
 obtain⟨dv,dc,dl⟩:=hnd.c hk
 have HL:=hide (eo w mb 1 cs _ D nO nC n (fr n) k d hs hop hd)
 rw[hk,dv,dc]at HL
 have f0:=(ag hs.blk 0).trans h0
 have mz:=af hs.blk
 have uX:=hide hcl
 have Xc:=hide hkc
 obtain⟨tj,hj,hy0,hy1,hy2⟩:=info_parts infoIn
 generalize d.args.length=dm at*
 generalize d.tx=dtx at*
 clear hs hok hn hd hk h0 hcl hkc hop hnd hdd dv dc dl d
 go_enter Tryz.func181,Tryz.ntmps181
 go_wp2_with fail
 refine(ae HL).mono ?_
 rintro e w2 ⟨rfl,hb2⟩
 have f2:=(hb2.cell (p:=⟨mb,0,none⟩) mz).trans f0
 have mz2:mb<w2.heap.size:=Nat.lt_of_lt_of_le mz hb2.size
 have aX:=hide hb2
 have z2:=hb2.size
 clear hb2 HL f0
 have HST:=hide (show Um w2 cls dtx.toList dm #[.int .i64 3,.int .i64 0,.string dtx,.int .i64 (dm:Int)] cls.length (.slice none 0 0) (.int .i64 0) (w2.alloc (.cells #[.int .i64 3,.int .i64 0,.string dtx,.int .i64 (dm:Int)] 177))from ⟨0,by omega,rfl,by simpa [Za.bL] using World.ownsRow_nil _ _ _ _,(Below.refl _ _).alloc (Nat.le_refl _) _,heap_alloc_new _ _⟩)
 go_wp2_with fail
 go_loopg [6,19] cls.length (fun k av iv wr=>Um w2 cls dtx.toList dm #[.int .i64 3,.int .i64 0,.string dtx,.int .i64 (dm:Int)] k av iv wr)
 case atStart=>exact ae HST
 case round=>
  clear HST
  obtain⟨j,hkj,rfl,how,aM,hlb⟩:=hrel
  obtain⟨oo,oc,rfl⟩:=eP how
  by_cases hlt:j<cls.length
  ·obtain⟨g,vs,ca,hao,fe,lL,mf⟩:=(ae uX).2 (fun q=>by rw[q]at hlt;simp at hlt)
   subst hao
   have ko:j<vs.length:=by have:=mf.length;omega
   have cY:Below w.heap.size w wr:=(ae aX).trans (aM.mono z2)
   have hcw:wr.heap[g]?=some (.cells ca 78 (0,0)):=(cY.block g (af fe)).trans fe
   have fc:∀i,i<6→wr.cell? ⟨g,j*6+i,none⟩=(nU vs[j])[i]?:=fun i hi=>by
    rw[ag hcw,←Array.getElem?_toList,←BO ko i hi,←lL,List.getElem?_take_of_lt (by omega)]
   have e0:=fc 0 (by omega)
   have e1:=fc 1 (by omega)
   have e2:=fc 2 (by omega)
   have e3:=fc 3 (by omega)
   have e4:=fc 4 (by omega)
   have e5:=fc 5 (by omega)
   simp only[nU,List.getElem?_cons_zero,List.getElem?_cons_succ,Nat.add_zero]at e0 e1 e2 e3 e4 e5
   have zH:dU w vs[j].a vs[j].o1 vs[j].n1 vs[j].o2 vs[j].n2 cls[j]:=mf.at j ko hlt
   obtain⟨⟨ha1,ha2,Xd,Xe,Un,Xf⟩,Xg⟩:=zH.head
   have hk2:=ae Xc _ (List.getElem_mem hlt)
   have Uo:vs[j].a.k=3:=by rw[ha1,hk2];rfl
   have Uq:=Un hk2
   rw[Uo]at e0
   rw[Uq]at e2
   rw[ha2]at e3
   have gz:g<wr.heap.size:=af hcw
   have lz:w2.heap.size<wr.heap.size:=af hlb
   have i0:(0:Int)≤(j:Int):=by omega
   have i1:(j:Int)<(cls.length:Int):=by omega
   have fh:=hide (Za.Ja cls dtx.toList dm j hlt)
   have hle:=Za.Ch cls dtx.toList dm j
   have Vn:(Za.bL cls dtx.toList dm j).length≤1000000:=by omega
   have l0:=ag hlb 0
   have l1:=ag hlb 1
   have l2:=ag hlb 2
   have l3:=ag hlb 3
   simp only[List.getElem?_toArray,List.getElem?_cons_zero,List.getElem?_cons_succ]at l0 l1 l2 l3
   have LA:=hide (fun W=>qw W ⟨3,vs[j].a.val,cls[j].head.text,vs[j].a.ao,cls[j].head.args.length,vs[j].a.cap⟩)
   have HOW:=hide how
   have bJ:=hide aM
   have y7:=hide hlb
   have aP:=hide hkj
   have aY:=hide hlt
   generalize Za.bL cls dtx.toList dm j=Z at*
   generalize vs[j]=v at*
   have hcs:Za.yh dtx.toList dm cls[j]=(decide (cls[j].head.text.toList=dtx.toList)&&decide (cls[j].head.args.length=dm)):=rfl
   generalize hq:Za.yh dtx.toList dm cls[j]=q at*
   generalize cls[j].head.text=htx at*
   generalize cls[j].head.args.length=hm at*
   obtain⟨⟨ak0,av0,ax0,ao0,an0,ac0⟩,o1,n1,c1,o2,n2,c2⟩:=v
   dsimp only at e0 e1 e2 e3 e4 e5 LA
   have Ef:=hide hcs
   clear how aM hlb hkj hlt fc hle cY hcw lL mf fe zH ha1 ha2 Xd Xe Un hk2 Uo Uq Xf Xg hq hcs ko
   have hlv:jd ⟨3,av0,htx,ao0,hm,ac0⟩=0:=rfl
   rw[hlv]at LA
   clear hlv
   cases q with
   | true=>
    have hh:=(ae Ef).symm
    simp only[Bool.and_eq_true,decide_eq_true_eq]at hh
    obtain⟨QL,rfl⟩:=hh
    have t1:(htx.toList == dtx.toList)=true:=by rw[QL];simp
    have t2:htx=dtx:=by
     exact Hj QL
    subst t2
    clear QL Ef
    rw[if_pos rfl]at fh
    go_wp2_with fail
    go_region_with (go_at_call 95;refine(ae LA _).mono ?_;rintro e w5 ⟨rfl,bu⟩;have m0:=(bu.cell (p:=⟨w2.heap.size,0,none⟩) (by simp;omega)).trans ((World.cell?_alloc_past _ _ _ lz).trans l0);have m1:=(bu.cell (p:=⟨w2.heap.size,1,none⟩) (by simp;omega)).trans ((World.cell?_alloc_past _ _ _ lz).trans l1);have m2:=(bu.cell (p:=⟨w2.heap.size,2,none⟩) (by simp;omega)).trans ((World.cell?_alloc_past _ _ _ lz).trans l2);have m3:=(bu.cell (p:=⟨w2.heap.size,3,none⟩) (by simp;omega)).trans ((World.cell?_alloc_past _ _ _ lz).trans l3);have nt:Below wr.heap.size wr w5:=(by first | exact((Below.refl _ wr).alloc (Nat.le_refl _) _).trans (bu.mono (by simp)) | exact(((Below.refl _ wr).alloc (Nat.le_refl _) _).drew).trans (bu.mono (by simp)));have bS:=hide ((ae bJ).trans (nt.mono (ae bJ).size));have Ci:=hide ((nt.block _ lz).trans (ae y7));have lM:=hide (ah (ae HOW) (fun k q=>nt.block k ((ae HOW).lt k q).2));have z5:w2.heap.size<w5.heap.size:=Nat.lt_of_lt_of_le lz nt.size;clear bu nt)
    all_goals
     go_wp2_with (at_builtin;go_must (refine wpList_append_own_at _ rfl (.tmp 29) (.tmp 31) 25 rfl (w2.heap.size+1) 3 tj (.int .i64 0) 1 8 Tryz.underlying25 hj hy0 hy1 hy2 rfl (by decide) _ Z.length (Z.map aI) rfl ((ae lM).alloc _) ⟨w5.heap.size,0,none⟩ 1 1 [.int .i64 (j:Int)] rfl rfl (ie _ _ _ _ rfl) (by simp[Value.oneCell']) (by unfold maxLen;omega) (by omega) (by simp;omega) ?_);go_must (intro v' w7 hown' hgrow _ _;have mj:=hide hown';have ml:=hide (((ae bS).alloc (ae bS).size _).grown hgrow (by have:=(ae bS).size;simp;omega) (fun k q=>by have:=((ae lM).lt k q).1;omega));have Xh:=hide ((hgrow.block w2.heap.size (by simp;omega) (fun q=>by have:=((ae lM).lt w2.heap.size q.symm).1;omega)).trans ((Below.heap_alloc _ _ _ z5).trans (ae Ci)));clear hown' hgrow))
     go_roundg (gk - 1)
     case measure=>have:=ae aP;have:=ae aY;omega
     case rel=>exact⟨j+1,by have:=ae aP;have:=ae aY;omega,by go_num,by rw[ae fh];have:=ae mj;simpa [aI] using this,ae ml,ae Xh⟩
   | false=>
    have hh:=(ae Ef).symm
    rw[if_neg (by simp),List.append_nil]at fh
    have Xi:htx.toList≠dtx.toList∨(htx=dtx∧hm≠dm):=by
     by_cases e1:htx.toList=dtx.toList
     ·right
      refine⟨Hj e1,fun e2=> ?_⟩
      simp[e1,e2]at hh
     ·exact Or.inl e1
    clear hh Ef
    rcases Xi with hh | ⟨rfl,hh⟩
    ·have t1:(htx.toList == dtx.toList)=false:=by simpa using hh
     clear hh
     go_wp2_with fail
     go_region_with (go_at_call 95;refine(ae LA _).mono ?_;rintro e w5 ⟨rfl,bu⟩;have m0:=(bu.cell (p:=⟨w2.heap.size,0,none⟩) (by simp;omega)).trans ((World.cell?_alloc_past _ _ _ lz).trans l0);have m1:=(bu.cell (p:=⟨w2.heap.size,1,none⟩) (by simp;omega)).trans ((World.cell?_alloc_past _ _ _ lz).trans l1);have m2:=(bu.cell (p:=⟨w2.heap.size,2,none⟩) (by simp;omega)).trans ((World.cell?_alloc_past _ _ _ lz).trans l2);have m3:=(bu.cell (p:=⟨w2.heap.size,3,none⟩) (by simp;omega)).trans ((World.cell?_alloc_past _ _ _ lz).trans l3);have nt:Below wr.heap.size wr w5:=(by first | exact((Below.refl _ wr).alloc (Nat.le_refl _) _).trans (bu.mono (by simp)) | exact(((Below.refl _ wr).alloc (Nat.le_refl _) _).drew).trans (bu.mono (by simp)));have bS:=hide ((ae bJ).trans (nt.mono (ae bJ).size));have Ci:=hide ((nt.block _ lz).trans (ae y7));have lM:=hide (ah (ae HOW) (fun k q=>nt.block k ((ae HOW).lt k q).2));have z5:w2.heap.size<w5.heap.size:=Nat.lt_of_lt_of_le lz nt.size;clear bu nt)
     all_goals
      go_wp2_with fail
      go_roundg (gk - 1)
      case measure=>have:=ae aP;have:=ae aY;omega
      case rel=>exact⟨j+1,by have:=ae aP;have:=ae aY;omega,by go_num,by rw[ae fh];exact ae lM,ae bS,ae Ci⟩
    ·have t1:((hm:Int) == (dm:Int))=false:=by simp;omega
     have t3:(hm == dm)=false:=by simpa using hh
     clear hh
     go_wp2_with fail
     go_region_with (go_at_call 95;refine(ae LA _).mono ?_;rintro e w5 ⟨rfl,bu⟩;have m0:=(bu.cell (p:=⟨w2.heap.size,0,none⟩) (by simp;omega)).trans ((World.cell?_alloc_past _ _ _ lz).trans l0);have m1:=(bu.cell (p:=⟨w2.heap.size,1,none⟩) (by simp;omega)).trans ((World.cell?_alloc_past _ _ _ lz).trans l1);have m2:=(bu.cell (p:=⟨w2.heap.size,2,none⟩) (by simp;omega)).trans ((World.cell?_alloc_past _ _ _ lz).trans l2);have m3:=(bu.cell (p:=⟨w2.heap.size,3,none⟩) (by simp;omega)).trans ((World.cell?_alloc_past _ _ _ lz).trans l3);have nt:Below wr.heap.size wr w5:=(by first | exact((Below.refl _ wr).alloc (Nat.le_refl _) _).trans (bu.mono (by simp)) | exact(((Below.refl _ wr).alloc (Nat.le_refl _) _).drew).trans (bu.mono (by simp)));have bS:=hide ((ae bJ).trans (nt.mono (ae bJ).size));have Ci:=hide ((nt.block _ lz).trans (ae y7));have lM:=hide (ah (ae HOW) (fun k q=>nt.block k ((ae HOW).lt k q).2));have z5:w2.heap.size<w5.heap.size:=Nat.lt_of_lt_of_le lz nt.size;clear bu nt)
     all_goals
      go_wp2_with fail
      go_roundg (gk - 1)
      case measure=>have:=ae aP;have:=ae aY;omega
      case rel=>exact⟨j+1,by have:=ae aP;have:=ae aY;omega,by go_num,by rw[ae fh];exact ae lM,ae bS,ae Ci⟩
  ·obtain rfl:j=cls.length:=by omega
   have HOW:=hide (bZ how (Nat.le_trans z2 (Nat.le_succ _)))
   have bJ:=hide ((ae aX).trans (aM.mono z2))
   clear how aM hkj hlb
   go_wp2_with fail
   go_ret
   exact⟨oo,oc,rfl,ae HOW,ae bJ⟩
end Go.Proofs.YthfjnfcekeknlaaGreatDoor
namespace Za
structure jx (c:aG):Prop where
 hk:c.head.kind=2
 wl:wfK 8 c.head
 ts:∀x∈c.tests,gZ x
 tl:c.tests.length≤6
 gs:∀x∈c.goals,td x
 gl:c.goals.length≤6
 nl:(NG c).length≤100000
 t0:c.tests=[]
end Za
namespace Go.Proofs.YthfjnfcekeknlaaGreatDoor
open Go.RowKit
def dR (w w':World):Prop:=∀(g:Nat) (ys:Array Value) (S:TypeId),w.heap[g]?=some (.cells ys S (0,0))→(S=78∨S=151∨S=76)→w'.heap[g]?=some (.cells ys S (0,0))
theorem dR.trans {a b c:World} (h:dR a b) (k:dR b c):dR a c:=fun g ys S hg hS=>k g ys S (h g ys S hg hS) hS
theorem dR.below {w w':World} (h:Below w.heap.size w w'):dR w w':=fun g _ _ hg _=>(h.block g (af hg)).trans hg
theorem dR.Ur {w w':World} (h:dR w w'):aQ w w':=⟨fun g cs hg _=>h g cs _ hg (Or.inr (Or.inr rfl)),fun g cs hg _=>h g cs _ hg (Or.inr (Or.inl rfl))⟩
theorem dR.cls {w w':World} (h:dR w w') {o:Option Addr} {n:Nat} {ys:List Za.aG} (hc:cP w o n ys):cP w' o n ys:=⟨hc.1,fun q=>by
 obtain⟨g,vs,cs,h1,h2,h3,h4⟩:=hc.2 q
 exact⟨g,vs,cs,h1,h g cs _ h2 (Or.inl rfl),h3,h4.imp fun _ _ q=>dU.keep q h.Ur⟩⟩
theorem dR.lI {R R':Nat→Prop} {w w':World} (hf:aj R R' w w') (hn:∀(g:Nat) (ys:Array Value) (S:TypeId),w.heap[g]?=some (.cells ys S (0,0))→(S=78∨S=151∨S=76)→¬R g):dR w w':=fun g ys S hg hS=>(hf.block g (af hg) (hn g ys S hg hS)).trans hg
theorem Vt (cs:Array Value) (y a b:Value):(((cs.setIfInBounds 3 y).setIfInBounds 1 a).setIfInBounds 3 b)=(cs.setIfInBounds 1 a).setIfInBounds 3 b:=by
 apply Array.ext_getElem?
 intro i
 simp only[Array.getElem?_setIfInBounds,Array.size_setIfInBounds]
 by_cases h1:1=i
 ·subst h1;simp
 ·by_cases h3:3=i
  ·subst h3;simp
  ·simp[h1,h3]
def QM (P:Nat→Prop) (mb:Nat) (cs:Array Value) (D:List Ng) (V:List Nat) (nO vo:Option Addr) (fr:Nat→Nat) (TT:Nat→Za.U) (G:List Gl) (i which:Nat) (c:Za.aG) (w:World) (e:Ending) (w':World):Prop:=
 ∃(E:List Ng) (F:List Nat) (no':Option Addr) (nc':Nat) (T':Nat→Za.U) (Gn:List Gl) (po':Option Addr) (pc':Nat),e= .returned (.int .i64 ((which+1:Nat):Int))∧cG w' mb ((cs.setIfInBounds 1 (.slice no' (D++E).length nc')).setIfInBounds 3 (.slice po' (G.eraseIdx i++Gn).length pc')) (D++E) no' nc' fr (G.eraseIdx i++Gn) po' pc'∧aW w' (D++E) P∧Za.dw (aV (D++E)) fr T'∧(∀m,m<D.length→T' m=TT m)∧dB D.length E∧fA D.length E F∧(V++F).length=(Za.NG c).length∧(∀n∈V++F,n<(D++E).length)∧bK (mq T' (D++E).length (cH T' (V++F) (Za.NG c))) c.goals Gn∧E.length≤118098∧aj (fun k=>cm mb nO k∨rowOf vo k) (fun k=>cm mb no' k∨rowOf po' k) w w'
theorem FI (w:World) (mb:Nat) (cs:Array Value) (D:List Ng) (V:List Nat) (nO:Option Addr) (nC:Nat) (vo:Option Addr) (vc:Nat) (fr:Nat→Nat) (TT:Nat→Za.U) (P:Nat→Prop) (G:List Gl) (po:Option Addr) (pc i which:Nat) (cls:List Za.aG) (clo:Option Addr) (clc:Nat) (hm:cG w mb cs D nO nC fr G po pc) (har:aW w D (fun g=>P g∧¬rowOf vo g)) (fu:Za.dw (aV D) fr TT) (hV:w.ownsRow 0 3 1 (.slice vo V.length vc) V.length (V.map aI)) (hVl:∀n∈V,n<D.length) (I9:∀g∈G,∀k,rowOf g.no k→¬rowOf vo k) (hP:∀g,w.heap.size≤g→P g) (h0:cs[0]?=some (.slice clo cls.length clc)) (hcl:cP w clo cls.length cls) (Eg:which<cls.length) (hcc:cls.length≤12) (hok:Za.jx cls[which]) (hVn:V.length=(Za.NT cls[which]).length) (hD:D.length+4000000≤1000000000) (hGl:G.length≤1000000):
 Calls Tryz.prog 183 #[.pointer (some ⟨mb,0,none⟩),.int .i64 (i:Int),.int .i64 (which:Int),.agg #[.slice vo V.length vc]] w fun e w'=>QM P mb cs D V nO vo fr TT G i which cls[which] w e w':=by
 have hb0:=(Below.refl w.heap.size w).alloc (Nat.le_refl _) (.cells #[.slice vo V.length vc] 93)
 obtain⟨g,vs,ca,hao,fe,lL,mf⟩:=hcl.2 (fun q=>by rw[q]at Eg;simp at Eg)
 subst hao
 have ko:which<vs.length:=by have:=mf.length;omega
 have f5:w.cell? ⟨g,which*6+5,none⟩=(nU vs[which])[5]?:=by
  rw[ag fe,←Array.getElem?_toList,←BO ko 5 (by omega),←lL,List.getElem?_take_of_lt (by omega)]
 simp only[nU,List.getElem?_cons_zero,List.getElem?_cons_succ]at f5
 have gz:=af fe
 have zH:dU w vs[which].a vs[which].o1 vs[which].n1 vs[which].o2 vs[which].n2 cls[which]:=mf.at which ko Eg
 have f0:=(ag hm.st.blk 0).trans h0
 have mz:=af hm.st.blk
 have IL:=hide (sW _ mb cs D nO nC fr G po pc i (hm.below hb0) hGl)
 have hw0:w.heap.size<(w.alloc (.cells #[.slice vo V.length vc] 93)).heap.size:=by simp
 have xC:gu P (w.alloc (.cells #[.slice vo V.length vc] 93)) mb 1 cs 91 w.heap.size D V nO nC vo vc fr TT:=⟨⟨hm.st.below hb0,⟨heap_alloc_new w _,ah hV (fun g q=>hb0.block g (hV.lt g q).2)⟩,by decide,by decide,har.below hb0⟩,hm.ok,fu,hVl⟩
 have IJ:=hide (show∀(w2:World) (po1:Option Addr) (pc1:Nat),cG w2 mb (cs.setIfInBounds 3 (.slice po1 (G.eraseIdx i).length pc1)) D nO nC fr (G.eraseIdx i) po1 pc1→aj (fun k=>k=mb) (fun k=>k=mb∨rowOf po1 k) (w.alloc (.cells #[.slice vo V.length vc] 93)) w2→Calls Tryz.prog 42 #[.pointer (some ⟨mb,0,none⟩),.slice vs[which].o2 vs[which].n2 vs[which].c2,.pointer (some ⟨w.heap.size,0,none⟩)] w2 fun e w'=>e= .returned (.tuple #[])∧QM P mb cs D V nO vo fr TT G i which cls[which] w (.returned (.int .i64 ((which+1:Nat):Int))) w' from fun w2 po1 pc1 hm2 hf2=>by
  have fS:∀(k:Nat) (ys:Array Value) (S:TypeId),(w.alloc (.cells #[.slice vo V.length vc] 93)).heap[k]?=some (.cells ys S (0,0))→S≠91→w2.heap[k]?=some (.cells ys S (0,0)):=fun k ys S hk hS=>(hf2.block k (af hk) (fun e=>by
   rw[e,xC.ad.st.blk]at hk
   simp only[Option.some.injEq,Obj.cells.injEq]at hk
   exact hS hk.2.1.symm)).trans hk
  have Vu:=xC.I8 hm2.st (fun k ys S hk hS=>(fS k ys S hk (by rcases hS with q | q<;>(rw[q];decide))).trans hk.symm)
  have M6:dR w w2:=(dR.below hb0).trans fun k ys S hk hS=>fS k ys S hk (by rcases hS with q | q | q<;>(rw[q];decide))
  have Vv:=zH.keep M6.Ur
  have hz:=hf2.size
  refine(Cc w2 mb _ w.heap.size D V nO nC vo vc fr TT P (G.eraseIdx i) po1 pc1 (Za.NG cls[which]) (Za.NT cls[which]) cls[which].goals vs[which].o2 vs[which].n2 vs[which].c2 Vu hm2 (fun x hx=>I9 x (List.mem_of_mem_eraseIdx hx)) (fun q hq=>hP q (by omega)) Vv.goals hok.gs hVn ⟨[],by rw[List.append_nil];rfl⟩ hok.nl (Nat.le_trans hok.gl (by omega)) hD (Nat.le_trans (List.length_eraseIdx_le _ _) hGl)).mono ?_
  rintro e w3 ⟨rfl,E,F,no',nc',vo',vc',T',Gn,po',pc',hjo⟩
  have fw:=hjo.mc
  have ecs:((cs.setIfInBounds 3 (.slice po1 (G.eraseIdx i).length pc1)).setIfInBounds 1 (.slice no' (D++E).length nc')).setIfInBounds 3 (.slice po' (G.eraseIdx i++Gn).length pc')=(cs.setIfInBounds 1 (.slice no' (D++E).length nc')).setIfInBounds 3 (.slice po' (G.eraseIdx i++Gn).length pc'):=by
   exact Vt _ _ _ _
  rw[ecs]at fw
  refine⟨rfl,E,F,no',nc',T',Gn,po',pc',rfl,fw,hjo.ms.ad.args.keep (fun g _ hp hg=>⟨hg,hp.1⟩),hjo.ms.to,hjo.old,hjo.nd,hjo.nv,hjo.ln,hjo.ms.lt,hjo.gl,Nat.le_trans hjo.el (by have:=hok.gl;omega),?_⟩
  have hp1:∀k,rowOf po1 k→k=mb∨w.heap.size≤k:=fun k q=>by
   rcases hf2.row k (Or.inr q)with e | e
   ·exact Or.inl e
   ·right;omega
  refine⟨hjo.fg.os.trans (hf2.os.trans hb0.os),hjo.fg.tape.trans (hf2.tape.trans hb0.tape),hjo.fg.output.trans (hf2.output.trans hb0.output),by have:=hjo.fg.size;omega,fun k hk hr=> ?_,fun k q=> ?_⟩
  ·rw[hjo.fg.block k (by omega) ?_,hf2.block k (by omega) (fun e=>hr (Or.inl (Or.inl e))),hb0.block k hk]
   rintro((e | e | e | e) | e)
   ·exact hr (Or.inl (Or.inl e))
   ·exact hr (Or.inl (Or.inr e))
   ·omega
   ·exact hr (Or.inr e)
   ·rcases hp1 k e with e | e
    ·exact hr (Or.inl (Or.inl e))
    ·omega
  ·have q2:um mb no' w.heap.size vo' po' k:=by
    rcases q with(q | q) | q
    ·exact Or.inl (Or.inl q)
    ·exact Or.inl (Or.inr (Or.inl q))
    ·exact Or.inr q
   rcases hjo.fg.row k q2 with((e | e | e | e) | e) | e
   ·exact Or.inl (Or.inl (Or.inl e))
   ·exact Or.inl (Or.inl (Or.inr e))
   ·right;omega
   ·exact Or.inl (Or.inr e)
   ·rcases hp1 k e with e | e
    ·exact Or.inl (Or.inl (Or.inl e))
    ·exact Or.inr e
   ·right;omega)
 have i0:(0:Int)≤(which:Int):=by omega
 have i1:(which:Int)<(cls.length:Int):=by omega
 have Yy:=hide Eg
 generalize vs[which]=v at*
 obtain⟨⟨ak0,av0,ax0,ao0,an0,ac0⟩,o1,n1,c1,o2,n2,c2⟩:=v
 dsimp only at f5 IJ
 have Us:=hide (ae IJ)
 generalize hcw:cls[which]=cw at*
 clear hcw IJ hm har fu hV hVl I9 hP h0 hcl hok hVn hD hb0 fe lL mf zH xC ko hw0
 go_enter Tryz.func183,Tryz.ntmps183
 go_wp2_with fail
 refine(ae IL).mono ?_
 rintro e w2 ⟨rfl,po1,pc1,m2,fr2⟩
 have I2:=hide (ae Us w2 po1 pc1 m2 fr2)
 clear m2 fr2 IL Us
 go_wp2_with fail
 refine(ae I2).mono ?_
 rintro e w3 ⟨rfl,h3⟩
 have H3:=hide h3
 clear h3 I2
 go_wp2_with fail
 go_ret
 exact ae H3
theorem pT {P:Program} (w:World) (t ty e:TypeId) (i:TypeInfo) (ht:P.underlying t=some (.slice e)) (hi:P.info? e=some i) (base:Option Addr) (sLen sCap:Nat) (hle:sLen≤sCap):(Builtin.append_ #[t,t] ty #[.slice base sLen sCap,.slice none 0 0]).run P w= .ok (.slice base sLen sCap) w:=by
 cases base<;>simp[Builtin.append_,run_underlying ht,sizeOf,typeInfo,hi,hle,Builtin.lenOf,Builtin.firstCells,loadCells,storeCells]
theorem Dw {ops:Array Oper} {rest:List Oper} {o:Oper} {a:Act} {Q:Exit→Act→World→Prop} {w:World} (hgd:o.guard=none) (s x:Operand)
 (ho:o.op= .call {callee:= .builtin .append,args:=#[s,x],argTypes:=#[25,25]})
 (base b2:Nat) (v:Value) (n:Nat) (xs:List Nat) (hs:a.eval s=v) (hown:w.ownsRow base 3 1 v n (xs.map aI))
 (so:Option Addr) (m c:Nat) (ys:List Nat) (hx:a.eval x= .slice so m c) (hy:w.ownsRow b2 3 1 (.slice so m c) m (ys.map aI))
 (hn:n+m≤1000000000) (hbase:base≤w.heap.size)
 (h:∀v' w',w'.ownsRow base 3 1 v' (n+m) ((xs++ys).map aI)→w.grownBy w' v.ownBlock→(v'.ownBlock=v.ownBlock∨v'.ownBlock=some w.heap.size)→wpList Tryz.prog ops Q rest (a.put o.dst v') w'):
 wpList Tryz.prog ops Q (o :: rest) a w:=by
 obtain⟨tj,hj,hy0,hy1,hy2⟩:=info_parts infoIn
 rcases hy.2 with⟨q,q0⟩ | ⟨g,cap,cur,q,q1,q2,q3,q4,q5,q6⟩
 ·simp only[Value.slice.injEq]at q
  obtain⟨rfl,rfl,rfl⟩:=q
  have hys:ys=[]:=by
   have:=hy.1
   simp at this
   exact this
  subst hys
  obtain⟨vo,vc,rfl⟩:=eP hown
  have hle:n≤vc:=by
   rcases hown.2 with⟨r,r0⟩ | ⟨g,cap,cur,r,_,_,r3,_⟩
   ·omega
   ·simp only[Value.slice.injEq]at r
    omega
  refine wpList_plain hgd fun K hK=> ?_
  have hr:=pT (P:=Tryz.prog) w 25 o.type 3 tj Tryz.underlying25 hj vo n vc hle
  unfold Oper.wp execOp
  simp only[ho,resolve,invoke,builtin,Sem.run_bind,Sem.run_pure,Result.andThen_ok,List.map_toArray,List.map_cons,List.map_nil,hs,hx,hr]
  exact hK _ _ (h _ _ (by simpa using hown) (World.grownBy.refl _ _) (Or.inl rfl))
 ·simp only[Value.slice.injEq]at q
  obtain⟨rfl,_,rfl⟩:=q
  refine wpList_append_own_at w hgd s x 25 ho base 3 tj (.int .i64 0) 1 8 Tryz.underlying25 hj hy0 hy1 hy2 rfl (by decide) v n (xs.map aI) hs hown ⟨g,0,none⟩ m c (ys.map aI) hx (by have:=hy.1;simpa using this) (fun j u hj=> ?_) (fun u hu=> ?_) (by unfold maxLen;omega) (by omega) hbase (fun v' w' h1 h2 _ h4=>h v' w' (by rw[List.map_append];exact h1) h2 h4)
  ·have hjl:j<(ys.map aI).length:=(List.getElem?_eq_some_iff.1 hj).1
   have:(⟨g,0,none⟩:Addr).add j=⟨g,j,none⟩:=by cases j<;>simp[Addr.add]
   rw[this,hy.cellAt j (by have:=hy.1;simp at this hjl;omega)]
   exact hj
  ·obtain⟨y,_,rfl⟩:=List.mem_map.1 hu
   rfl
end Go.Proofs.YthfjnfcekeknlaaGreatDoor
namespace Za
def uo (TT:Nat→U) (u:U) (c:aG) (V:List Nat):Prop:=V.length=(namesF 8 [] c.head).length∧∀(i:Nat) (x:List UInt8) (m:Nat),(namesF 8 [] c.head)[i]?=some x→V[i]?=some m→∃q,(matU 8 c.head u ⟨[],Wn.none⟩).st.find? (fun q=>q.1 == x)=some q∧TT m=q.2
end Za
namespace Go.Proofs.YthfjnfcekeknlaaGreatDoor
open Go.RowKit
def qi (u:Za.U) (b:Nat) (c:Za.aG) (V F:List Nat) (T':Nat→Za.U) (says:Nat) (ws:List Nat):Prop:=
 ((Za.matU 8 c.head u ⟨[],Za.Wn.none⟩).w.says≠1∧says=(Za.matU 8 c.head u ⟨[],Za.Wn.none⟩).w.says∧ws=(Za.matU 8 c.head u ⟨[],Za.Wn.none⟩).w.wt)∨
 ((Za.matU 8 c.head u ⟨[],Za.Wn.none⟩).w.says=1∧Za.uo T' u c V∧(V++F).length=(Za.NT c).length∧(∀f∈F,b≤f∧T' f= .v ([],f))∧F.Pairwise (·<·)∧says=(Za.iB (cH T' (V++F) (Za.NG c)) c.tests).says∧ws=Za.jK (V++F) V.length (Za.iB (cH T' (V++F) (Za.NG c)) c.tests).wt)
def M7 (PP:Nat→Prop) (mb:Nat) (cs:Array Value) (D:List Ng) (nO:Option Addr) (fr:Nat→Nat) (TT:Nat→Za.U) (n:Nat) (c:Za.aG) (w:World) (e:Ending) (w':World):Prop:=
 ∃(says:Nat) (ws:List Nat) (oo:Option Addr) (oc:Nat) (vo':Option Addr) (vl vc':Nat) (E:List Ng) (V F:List Nat) (no':Option Addr) (nc':Nat) (T':Nat→Za.U),e= .returned (.agg #[.int .i64 (says:Int),.slice oo ws.length oc,.slice vo' vl vc'])∧w'.ownsRow w.heap.size 3 1 (.slice oo ws.length oc) ws.length (ws.map aI)∧qi (TT n) D.length c V F T' says ws∧ws.length≤12000000∧(∀v∈ws,v<(D++E).length)∧
  bt w' mb 1 (cs.setIfInBounds 1 (.slice no' (D++E).length nc')) 91 (D++E) no' nc'∧bR (D++E) fr∧Za.dw (aV (D++E)) fr T'∧(∀m,m<D.length→T' m=TT m)∧dB D.length E∧E.length≤78732∧aW w' (D++E) (fun g=>PP g∧¬rowOf vo' g)∧aj (cm mb nO) (cm mb no') w w'∧
  (says=1→(∀m∈V,m<D.length)∧vl=(V++F).length∧w'.ownsRow 0 3 1 (.slice vo' (V++F).length vc') (V++F).length ((V++F).map aI)∧(∀k,rowOf vo' k→cm mb nO k∨w.heap.size≤k)∧(∀n∈V++F,n<(D++E).length)∧(V++F).length=(Za.NT c).length∧fA D.length E F)
theorem Al (l:Za.Wn):l.says=1∨l.says=2∨l.says=3:=by
 unfold Za.Wn.says
 split
 ·exact Or.inr (Or.inl rfl)
 ·split
  ·exact Or.inl rfl
  ·exact Or.inr (Or.inr rfl)
theorem bR.kx {D:List Ng} {fr:Nat→Nat} {T:Nat→Za.U} (ok:bR D fr) (hS:Za.dw (aV D) fr T):∀n,n<D.length→Za.bj (fun x=>x.1=[]∧x.2<D.length∧fr x.2=x.2) (T n):=
 hS.kx (fun n hn=>ok.lt hn) (fun n hn a ha=>by rw[jC hn]at ha;exact(ok.nd n hn).inn a ha)
theorem o6 {D E:List Ng} {F:List Nat} {fr:Nat→Nat} {T':Nat→Za.U} (ok:bR (D++E) fr) (hS:Za.dw (aV (D++E)) fr T') (nd:dB D.length E) (nv:fA D.length E F):∀f∈F,D.length≤f∧f<(D++E).length∧T' f= .v ([],f):=fun f hf=>by
 obtain⟨h1,d,h2,h3⟩:=nv.var f hf
 have hl:f<(D++E).length:=by
  have:=(List.getElem?_eq_some_iff.1 h2).1
  rw[List.length_append];omega
 have hd:(D++E)[f]=d:=by rw[List.getElem_append_right h1];exact(List.getElem?_eq_some_iff.1 h2).2
 have cL:fr f=f:=(ok.self hl).2 (nd.at h1 hl).1
 have hv:=hS.var (n:=f) (by rw[cL,lH hl,hd];exact(ok.nd f hl |> fun q=>by rw[hd]at q;exact q.lab.2 h3))
 rw[cL]at hv
 exact⟨h1,hl,hv⟩
theorem Lf (w:World) (mb:Nat) (cs:Array Value) (D:List Ng) (nO:Option Addr) (nC:Nat) (fr:Nat→Nat) (TT:Nat→Za.U) (PP:Nat→Prop) (a:AV) (o1 o2:Option Addr) (n1 c1 n2 c2 n:Nat) (c:Za.aG) (hG:fW w w.heap.size mb 1 cs 91 D nO nC fr TT PP) (hPP:∀g,w.heap.size≤g→PP g) (hc:dU w a o1 n1 o2 n2 c) (ok:Za.jx c) (hn:n<D.length) (hsz:Za.size (TT n)≤300) (hD:D.length+100000≤1000000000):
 Calls Tryz.prog 182 #[.pointer (some ⟨mb,1,none⟩),.agg #[.int .i64 a.k,.int .i64 a.val,.string a.tx,.slice a.ao a.n a.cap,.slice o1 n1 c1,.slice o2 n2 c2],.int .i64 (n:Int)] w fun e w'=>M7 PP mb cs D nO fr TT n c w e w':=by
 have hsm:=Za.tW (B:=300) 8 c.head (TT n) ⟨[],Za.Wn.none⟩ ok.wl hsz (by omega) (fun q hq=>by cases hq)
 have q3:3 ^ 8=6561:=by decide
 rw[q3]at hsm
 have Xj:=Za.mH 8 c.head (TT n) ⟨[],Za.Wn.none⟩ (hG.ok.kx hG.to n hn) ⟨(fun q hq=>by cases hq),Za.dt _⟩
 obtain⟨KT,hKT⟩:=Za.jF c.tests (Za.namesF 8 [] c.head)
 obtain⟨KG,hKG⟩:=Za.jF c.goals (Za.NT c)
 have hNT:Za.NT c=Za.namesF 8 [] c.head++KT:=hKT
 have hNG:Za.NG c=Za.NT c++KG:=hKG
 by_cases hy:(Za.matU 8 c.head (TT n) ⟨[],Za.Wn.none⟩).w.says=1
 ·refine(Fw w mb 1 cs 91 D nO nC fr TT PP a o1 o2 n1 c1 n2 c2 n (Za.NG c) KG c.head c.tests hG hPP (by decide) (by decide) (by decide) (by decide) (by decide) (by decide) hc.head hc.tests hNG ok.wl ok.ts ok.tl hn hsz hD hy ok.t0).mono ?_
  rintro e w' ⟨V,hVl,hVD,hVq,l,E,F,no',nc',vo',vc',T',oo,oc,rfl,rfl,QE,MW,hro,hs,hok,fu,har,hlt,hold,hnd,gD,lT,hel,ky⟩
  have hnn:=o6 hok fu hnd gD
  have FJ:∀y∈Za.NT c,∃m∈V++F,cH T' (V++F) (Za.NG c) y=T' m:=fun y hy=>Ip hy hNG lT
  have hsize:∀m∈V++F,Za.size (T' m)≤300:=fun m hm=>by
   rcases List.mem_append.1 hm with q | q
   ·rw[hold m (hVD m q)]
    obtain⟨i,hi,rfl⟩:=List.getElem_of_mem q
    obtain⟨r,h1,h2⟩:=hVq i (Za.namesF 8 [] c.head)[i] V[i] (List.getElem?_eq_getElem (by omega)) (List.getElem?_eq_getElem hi)
    rw[h2]
    exact hsm.1 r (List.mem_of_find?_eq_some h1)
   ·rw[(hnn m q).2.2]
    simp[Za.size]
  have hlen:(Za.iB (cH T' (V++F) (Za.NG c)) c.tests).wt.length≤c.tests.length*2000000:=Za.Ov c.tests (Za.namesF 8 [] c.head) ok.ts fun y hy=>by
   obtain⟨m,hm,he⟩:=FJ y hy
   rw[he]
   exact hsize m hm
  have Vw:=Za.ye (η:=cH T' (V++F) (Za.NG c)) c.tests (Za.namesF 8 [] c.head) ok.ts fun y hy=>by
   obtain⟨m,hm,he⟩:=FJ y hy
   rw[he]
   exact hok.kx fu m (hlt m hm)
  refine⟨_,_,oo,oc,vo',_,vc',E,V,F,no',nc',T',rfl,QE,Or.inr ⟨hy,⟨hVl,fun i x m h1 h2=>by rw[hold m (hVD m (List.mem_of_getElem? h2))];exact hVq i x m h1 h2⟩,lT,fun f hf=>⟨(hnn f hf).1,(hnn f hf).2.2⟩,gD.ord,rfl,rfl⟩,?_,?_,hs,hok,fu,hold,hnd,hel,har,ky,fun _=>⟨hVD,rfl,MW,hro,hlt,lT,gD⟩⟩
  ·have h1:(Za.jK (V++F) V.length (Za.iB (cH T' (V++F) (Za.NG c)) c.tests).wt).length≤(Za.iB (cH T' (V++F) (Za.NG c)) c.tests).wt.length:=List.length_filter_le _ _
   have h2:=ok.tl
   omega
  ·intro v hv
   obtain⟨x,hx,rfl⟩:=Vw v (List.mem_filter.1 hv).1
   exact hx.2.1
 ·refine(Iq w mb 1 cs 91 D nO nC fr TT PP a o1 o2 n1 c1 n2 c2 n (Za.NG c) (KT++KG) c.head hG hc.head (by rw[hNG,hNT,List.append_assoc]) ok.wl hn hsz hy).mono ?_
  rintro e w' ⟨wo,wc,rfl,ho,hb⟩
  refine⟨_,_,wo,wc,none,0,0,[],[],[],nO,nC,TT,rfl,ho,Or.inl ⟨hy,rfl,rfl⟩,?_,?_,?_,by simpa using hG.ok,by simpa using hG.to,fun _ _=>rfl,(fun i d hd=>by simp at hd),by simp,?_,aj.of_below hb,fun q=>absurd q hy⟩
  ·have:=hsm.2
   simp only[Za.Wn.none,List.length_nil]at this⊢
   omega
  ·intro v hv
   obtain⟨x,hx,rfl⟩:=Xj.2 v hv
   simpa using hx.2.1
  ·rw[List.append_nil,lO hG.st.cel]
   exact hG.st.below hb
  ·rw[List.append_nil]
   exact(hG.ar.below hb).keep fun g _ hp hg=>⟨hg,hp,fun⟨_,q,_⟩=>by cases q⟩
end Go.Proofs.YthfjnfcekeknlaaGreatDoor
namespace Za
def cf (rs:List (Nat×List Nat)):List Nat:=rs.flatMap fun r=>if r.1=3 then r.2 else []
def lW (rs:List (Nat×List Nat)):Bool:=rs.any fun r=>r.1 == 3
theorem pU (rs:List (Nat×List Nat)) (r:Nat×List Nat):cf (rs++[r])=cf rs++(if r.1=3 then r.2 else []):=by simp[cf]
theorem zI (rs:List (Nat×List Nat)) (r:Nat×List Nat):lW (rs++[r])=(lW rs||(r.1 == 3)):=by simp[lW]
end Za
namespace Go.Proofs.YthfjnfcekeknlaaGreatDoor
open Go.RowKit
theorem cG.asked {w w':World} {mb:Nat} {cs:Array Value} {D D':List Ng} {nO no':Option Addr} {nC nc':Nat} {fr:Nat→Nat} {G:List Gl} {po:Option Addr} {pc:Nat} (h:cG w mb cs D nO nC fr G po pc) (hs:bt w' mb 1 (cs.setIfInBounds 1 (.slice no' D'.length nc')) 91 D' no' nc') (ok:bR D' fr) (hl:D.length≤D'.length) {R':Nat→Prop} (hf:aj (cm mb nO) R' w w'):cG w' mb (cs.setIfInBounds 1 (.slice no' D'.length nc')) D' no' nc' fr G po pc:=by
 have keep:∀(k:Nat) (ys:Array Value) (S:TypeId),w.heap[k]?=some (.cells ys S (0,0))→S≠91→S≠180→w'.heap[k]?=w.heap[k]?:=fun k ys S hk h1 h2=>(h.st.qW hf hk h1 h2).trans hk.symm
 refine⟨hs,ok,by rw[Array.getElem?_setIfInBounds_ne (by omega)];exact h.c3,ah h.pool fun g q=> ?_,fun g hg=>ah (h.nds g hg) fun k q=> ?_,fun g hg v hv=>Nat.lt_of_lt_of_le (h.nlt g hg v hv) hl,h.nl⟩
 ·obtain⟨cur,hc⟩:=aH h.pool (aD q)
  exact keep g _ _ hc (by decide) (by decide)
 ·obtain⟨cur,hc⟩:=aH (h.nds g hg) (aD q)
  exact keep k _ _ hc (by decide) (by decide)
def fV (own:List Nat) (bg t:Nat):Nat:=(own[(bg+t) % own.length]?).getD 0
def nu (cls:List Za.aG) (own:List Nat) (bg:Nat) (u:Za.U) (b:Nat) (rs:List (Nat×List Nat)):Prop:=∀(t:Nat) (r:Nat×List Nat),rs[t]?=some r→r.1≠1∧∃(c:Za.aG) (V F:List Nat) (T':Nat→Za.U),cls[fV own bg t]?=some c∧qi u b c V F T' r.1 r.2
structure Cj (P:Nat→Prop) (w:World) (mb:Nat) (cs:Array Value) (D:List Ng) (nO:Option Addr) (fr:Nat→Nat) (TT:Nat→Za.U) (G:List Gl) (po:Option Addr) (pc:Nat) (cls:List Za.aG) (own:List Nat) (bg n:Nat) (E:List Ng) (no1:Option Addr) (nc1:Nat) (T1:Nat→Za.U) (rs:List (Nat×List Nat)) (oo:Option Addr) (oc:Nat) (wr:World):Prop where
 ow:wr.ownsRow w.heap.size 3 1 (.slice oo (Za.cf rs).length oc) (Za.cf rs).length ((Za.cf rs).map aI)
 tr:nu cls own bg (TT n) D.length rs
 mc:cG wr mb (cs.setIfInBounds 1 (.slice no1 (D++E).length nc1)) (D++E) no1 nc1 fr G po pc
 ar:aW wr (D++E) (fun g=>P g∧¬rowOf oo g)
 to:Za.dw (aV (D++E)) fr T1
 old:∀m,m<D.length→T1 m=TT m
 nd:dB D.length E
 el:E.length≤rs.length*78732
 lt:∀v∈Za.cf rs,v<(D++E).length
 ln:(Za.cf rs).length≤rs.length*12000000
 fg:aj (cm mb nO) (fun k=>cm mb no1 k∨rowOf oo k) w wr
def Ut (P:Nat→Prop) (w:World) (mb:Nat) (cs:Array Value) (D:List Ng) (nO:Option Addr) (fr:Nat→Nat) (TT:Nat→Za.U) (G:List Gl) (po:Option Addr) (pc:Nat) (cls:List Za.aG) (own:List Nat) (bg n:Nat) (k:Nat) (wv av iv:Value) (wr:World):Prop:=
 ∃(rs:List (Nat×List Nat)) (E:List Ng) (no1:Option Addr) (nc1:Nat) (T1:Nat→Za.U) (oo:Option Addr) (oc:Nat),k+rs.length=own.length∧iv= .int .i64 (rs.length:Int)∧wv= .bool (Za.lW rs)∧av= .slice oo (Za.cf rs).length oc∧Cj P w mb cs D nO fr TT G po pc cls own bg n E no1 nc1 T1 rs oo oc wr
def nI (P:Nat→Prop) (mb:Nat) (cs:Array Value) (D:List Ng) (nO:Option Addr) (fr:Nat→Nat) (TT:Nat→Za.U) (G:List Gl) (po:Option Addr) (pc:Nat) (cls:List Za.aG) (own:List Nat) (bg n i:Nat) (gi:Gl) (w:World) (e:Ending) (w':World):Prop:=
 (∃(rs:List (Nat×List Nat)) (c:Za.aG) (V F:List Nat) (T2:Nat→Za.U) (ws:List Nat) (E:List Ng) (F':List Nat) (no':Option Addr) (nc':Nat) (T':Nat→Za.U) (Gn:List Gl) (po':Option Addr) (pc':Nat),rs.length<own.length∧nu cls own bg (TT n) D.length rs∧cls[fV own bg rs.length]?=some c∧qi (TT n) D.length c V F T2 1 ws∧e= .returned (.int .i64 ((fV own bg rs.length+1:Nat):Int))∧
  cG w' mb ((cs.setIfInBounds 1 (.slice no' (D++E).length nc')).setIfInBounds 3 (.slice po' (G.eraseIdx i++Gn).length pc')) (D++E) no' nc' fr (G.eraseIdx i++Gn) po' pc'∧aW w' (D++E) P∧Za.dw (aV (D++E)) fr T'∧(∀m,m<D.length→T' m=TT m)∧(∀m∈V++F,T' m=T2 m)∧dB D.length E∧(V++F++F').length=(Za.NG c).length∧(∀f∈F++F',D.length≤f∧T' f= .v ([],f))∧(F++F').Pairwise (·<·)∧(∀m∈V++F++F',m<(D++E).length)∧bK (mq T' (D++E).length (cH T' (V++F++F') (Za.NG c))) c.goals Gn∧E.length≤1100000∧aj (cm mb nO) (fun k=>cm mb no' k∨rowOf po' k) w w')∨
 (∃(rs:List (Nat×List Nat)),rs.length=own.length∧nu cls own bg (TT n) D.length rs∧Za.lW rs=false∧e= .returned (.int .i64 (-2))∧(∃cs2:Array Value,w'.heap[mb]?=some (.cells (cs2.setIfInBounds 5 (.int .i64 4)) 91 (0,0))∧∃no1 n1 nc1,cs2=cs.setIfInBounds 1 (.slice no1 n1 nc1))∧aj (cm mb nO) (fun k=>k=mb) w w')∨
 (∃(rs:List (Nat×List Nat)) (E:List Ng) (no1:Option Addr) (nc1:Nat) (T1:Nat→Za.U) (oo:Option Addr) (oc:Nat),rs.length=own.length∧nu cls own bg (TT n) D.length rs∧Za.lW rs=true∧e= .returned (.int .i64 (-1))∧cG w' mb (cs.setIfInBounds 1 (.slice no1 (D++E).length nc1)) (D++E) no1 nc1 fr (G.set i {gi with wt:=true,no:=oo,nc:=oc,nd:=Za.cf rs}) po pc∧aW w' (D++E) P∧Za.dw (aV (D++E)) fr T1∧(∀m,m<D.length→T1 m=TT m)∧dB D.length E∧E.length≤1100000∧(∀k,rowOf oo k→w.heap.size≤k)∧aj (fun k=>cm mb nO k∨rowOf po k) (fun k=>cm mb no1 k∨rowOf po k) w w')
theorem qi.low {u:Za.U} {b b':Nat} (hb:b'≤b) {c:Za.aG} {V F:List Nat} {T':Nat→Za.U} {says:Nat} {ws:List Nat} (h:qi u b c V F T' says ws):qi u b' c V F T' says ws:=by
 rcases h with h | ⟨h1,h2,h3,h4,h5⟩
 ·exact Or.inl h
 ·exact Or.inr ⟨h1,h2,h3,fun f hf=>⟨Nat.le_trans hb (h4 f hf).1,(h4 f hf).2⟩,h5⟩
theorem bY {w:World} {b:Nat} {S:TypeId} {sz:Nat} {o:Option Addr} {n cap:Nat} {xs:List Value} (h:w.ownsRow b S sz (.slice o n cap) n xs) {k:Nat} (hk:rowOf o k):b≤k∧k<w.heap.size:=by
 obtain⟨p,hp,hq⟩:=hk
 exact h.lt k (by rw[hp,hq];rfl)
theorem cG.grown {w w':World} {mb:Nat} {cs:Array Value} {D:List Ng} {nO:Option Addr} {nC:Nat} {fr:Nat→Nat} {G:List Gl} {po:Option Addr} {pc:Nat} (h:cG w mb cs D nO nC fr G po pc) {b n oc:Nat} {oo:Option Addr} {xs:List Value} (ho:w.ownsRow b 3 1 (.slice oo n oc) n xs) (hg:w.grownBy w' (Value.slice oo n oc).ownBlock) (sY:∀g∈G,∀k,rowOf g.no k→¬rowOf oo k):cG w' mb cs D nO nC fr G po pc:=by
 have keep:∀(k:Nat) (ys:Array Value) (S:TypeId),w.heap[k]?=some (.cells ys S (0,0))→S≠3→w'.heap[k]?=w.heap[k]?:=fun k ys S hk hS=>hg.block k (af hk) (bP (aN ho hk hS))
 refine⟨⟨(keep mb _ _ h.st.blk (by decide)).trans h.st.blk,h.st.cel,ah h.st.own fun g q=> ?_,h.st.ty⟩,h.ok,h.c3,ah h.pool fun g q=> ?_,fun g hg'=>ah (h.nds g hg') fun k q=> ?_,h.nlt,h.nl⟩
 ·obtain⟨cur,hc⟩:=aH h.st.own (aD q)
  exact keep g _ _ hc (by decide)
 ·obtain⟨cur,hc⟩:=aH h.pool (aD q)
  exact keep g _ _ hc (by decide)
 ·obtain⟨cur,hc⟩:=aH (h.nds g hg') (aD q)
  exact hg.block k (af hc) (bP (sY g hg' k (aD q)))
theorem Cj.next {P:Nat→Prop} {w:World} {mb:Nat} {cs:Array Value} {D:List Ng} {nO:Option Addr} {fr:Nat→Nat} {TT:Nat→Za.U} {G:List Gl} {po:Option Addr} {pc:Nat} {cls:List Za.aG} {own:List Nat} {bg n:Nat} {E:List Ng} {no1:Option Addr} {nc1:Nat} {T1:Nat→Za.U} {rs:List (Nat×List Nat)} {oo:Option Addr} {oc:Nat} {wr:World} (h:Cj P w mb cs D nO fr TT G po pc cls own bg n E no1 nc1 T1 rs oo oc wr)
 (sY:∀g∈G,∀k,rowOf g.no k→k<w.heap.size) {says:Nat} {ws:List Nat} {c:Za.aG} {V F:List Nat} {E2:List Ng} {no2:Option Addr} {nc2:Nat} {T2:Nat→Za.U} {vo':Option Addr} (hc:cls[fV own bg rs.length]?=some c) (ha:qi (T1 n) (D++E).length c V F T2 says ws) (hn:n<D.length) (hs1:says≠1) (hlen:ws.length≤12000000) (hlt:∀v∈ws,v<((D++E)++E2).length) {w2:World} (hst:bt w2 mb 1 ((cs.setIfInBounds 1 (.slice no1 (D++E).length nc1)).setIfInBounds 1 (.slice no2 ((D++E)++E2).length nc2)) 91 ((D++E)++E2) no2 nc2) (hok:bR ((D++E)++E2) fr) (fu:Za.dw (aV ((D++E)++E2)) fr T2) (hold:∀m,m<(D++E).length→T2 m=T1 m) (hnd:dB (D++E).length E2) (hel:E2.length≤78732) (har:aW w2 ((D++E)++E2) (fun g=>(P g∧¬rowOf oo g)∧¬rowOf vo' g)) (ky:aj (cm mb no1) (cm mb no2) wr w2)
 {w9:World} (hb:Below w2.heap.size w2 w9) {oo':Option Addr} {oc':Nat} {w':World} (hrow:w'.ownsRow w.heap.size 3 1 (.slice oo' (Za.cf (rs++[(says,ws)])).length oc') (Za.cf (rs++[(says,ws)])).length ((Za.cf (rs++[(says,ws)])).map aI)) (hgr:w9.grownBy w' (Value.slice oo (Za.cf rs).length oc).ownBlock) (hat:∀k,rowOf oo' k→rowOf oo k∨w9.heap.size≤k):
 Cj P w mb cs D nO fr TT G po pc cls own bg n (E++E2) no2 nc2 T2 (rs++[(says,ws)]) oo' oc' w':=by
 have hz1:=h.fg.size
 have hz2:=ky.size
 have M8:=hb.size
 have hz':=hgr.size
 have ow2:w9.ownsRow w.heap.size 3 1 (.slice oo (Za.cf rs).length oc) (Za.cf rs).length ((Za.cf rs).map aI):=ah h.ow fun g q=>by
  obtain⟨cur,pV⟩:=aH h.ow (aD q)
  have h1:=h.mc.st.qW ky pV (by decide) (by decide)
  rw[hb.block g (af h1),h1,pV]
 have fw:=(((h.mc.asked hst hok (dL _ _) ky).below hb).grown ow2 hgr (fun g hg k hk hk2=>by
  have h1:=sY g hg k hk
  have h2:=(bY h.ow hk2).1
  omega))
 have hu:T1 n=TT n:=h.old n hn
 rw[hu]at ha
 refine⟨hrow,fun t r hr=> ?_,by rw[←List.append_assoc];rw[set_set]at fw;exact fw,?_,by rw[←List.append_assoc];exact fu,fun m hm=> ?_,h.nd.app (by have:=hnd;rwa [List.length_append]at this),?_,?_,?_,?_⟩
 ·by_cases q:t<rs.length
  ·rw[List.getElem?_append_left q]at hr
   exact h.tr t r hr
  ·rw[List.getElem?_append_right (by omega)]at hr
   obtain rfl:t=rs.length:=by
    have:=(List.getElem?_eq_some_iff.1 hr).1
    simp at this
    omega
   simp at hr
   subst hr
   exact⟨hs1,c,V,F,T2,hc,ha.low (by rw[List.length_append];omega)⟩
 ·rw[←List.append_assoc]
  refine har.keep fun g ys hp hg=> ?_
  have QN:=(hb.block g (af hg)).trans hg
  refine⟨(hgr.block g (af QN) (bP hp.1.2)).trans QN,hp.1.1,fun q=> ?_⟩
  rcases hat g q with e | e
  ·exact hp.1.2 e
  ·have:=af QN;omega
 ·rw[hold m (by rw[List.length_append];omega),h.old m hm]
 ·have:=h.el
  rw[List.length_append,List.length_append,Nat.add_mul]
  simp only[List.length_cons,List.length_nil]
  omega
 ·intro v hv
  rw[←List.append_assoc]
  rw[Za.pU]at hv
  rcases List.mem_append.1 hv with q | q
  ·exact Nat.lt_of_lt_of_le (h.lt v q) (dL _ _)
  ·split at q
   ·exact hlt v q
   ·cases q
 ·have h1:=h.ln
  have h2:(if(says,ws).1=3 then(says,ws).2 else []).length≤ws.length:=by
   split
   ·exact Nat.le_refl _
   ·exact Nat.zero_le _
  have h3:(rs++[(says,ws)]).length=rs.length+1:=by simp
  rw[Za.pU,List.length_append,h3]
  generalize (if(says,ws).1=3 then(says,ws).2 else []).length=z at*
  omega
 ·have BR:∀k,cm mb no1 k→cm mb nO k∨w.heap.size≤k:=fun k q=>h.fg.row k (Or.inl q)
  have Uu:∀k,rowOf oo k→w.heap.size≤k:=fun k q=>(bY h.ow q).1
  refine⟨hgr.os.trans (hb.os.trans (ky.os.trans h.fg.os)),hgr.tape.trans (hb.tape.trans (ky.tape.trans h.fg.tape)),hgr.output.trans (hb.output.trans (ky.output.trans h.fg.output)),by omega,fun k hk hr=> ?_,fun k q=> ?_⟩
  ·rw[hgr.block k (by omega) (bP fun q=>by have:=Uu k q;omega),hb.block k (by omega),ky.block k (by omega) ?_,h.fg.block k hk hr]
   intro q
   rcases BR k q with e | e
   ·exact hr e
   ·omega
  ·rcases q with q | q
   ·rcases ky.row k q with e | e
    ·exact BR k e
    ·right;omega
   ·rcases hat k q with e | e
    ·exact Or.inr (Uu k e)
    ·right;omega
def rO (w w':World):Prop:=∀(g:Nat) (ys:Array Value) (S:TypeId),w.heap[g]?=some (.cells ys S (0,0))→S≠245→w'.heap[g]?=w.heap[g]?
theorem rO.row {w w':World} (h:rO w w') {b:Nat} {S:TypeId} {sz:Nat} {o:Option Addr} {n cap:Nat} {xs:List Value} (ho:w.ownsRow b S sz (.slice o n cap) n xs) (hS:S≠245):w'.ownsRow b S sz (.slice o n cap) n xs:=ah ho fun g q=>by
 obtain⟨cur,hc⟩:=aH ho (aD q)
 exact h g _ _ hc hS
theorem rO.st {w w':World} (h:rO w w') {mb:Nat} {cs:Array Value} {D:List Ng} {no:Option Addr} {nc:Nat} (hs:bt w mb 1 cs 91 D no nc):bt w' mb 1 cs 91 D no nc:=⟨(h mb _ _ hs.blk (by decide)).trans hs.blk,hs.cel,h.row hs.own (by decide),hs.ty⟩
theorem rO.args {w w':World} (h:rO w w') {D:List Ng} {P:Nat→Prop} (ha:aW w D P):aW w' D P:=ha.keep fun g _ hp hg=>⟨(h g _ _ hg (by decide)).trans hg,hp⟩
theorem rO.alloc (w:World) (o:Obj):rO w (w.alloc o):=fun _ _ _ hg _=>Below.heap_alloc _ _ _ (af hg)
theorem rO.KZ {w:World} {ab:Nat} {C:Array Value} (hb:w.heap[ab]?=some (.cells C 245 (0,0))) (v0 v1 v2:Value):rO w (((w.setCell ⟨ab,0,none⟩ v0).setCell ⟨ab,1,none⟩ v1).setCell ⟨ab,2,none⟩ v2):=fun g ys S hg hS=>lS w v0 v1 v2 (fun e=>by
 rw[e,hb]at hg
 simp only[Option.some.injEq,Obj.cells.injEq]at hg
 exact hS hg.2.1.symm)
theorem M7.base {PP:Nat→Prop} {mb:Nat} {cs:Array Value} {D:List Ng} {nO:Option Addr} {fr:Nat→Nat} {TT:Nat→Za.U} {n:Nat} {c:Za.aG} {w W:World} {e:Ending} {w':World} (hb:Below w.heap.size w W) (h:M7 PP mb cs D nO fr TT n c W e w'):M7 PP mb cs D nO fr TT n c w e w'∧∃R',aj (cm mb nO) R' W w':=by
 obtain⟨says,ws,oo,oc,vo',vl,vc',E,V,F,no',nc',T',h1,h2,h3,h4,h5,h6,h7,h8,h9,h10,h11,h12,h13,h14⟩:=h
 exact⟨⟨says,ws,oo,oc,vo',vl,vc',E,V,F,no',nc',T',h1,bZ h2 hb.size,h3,h4,h5,h6,h7,h8,h9,h10,h11,h12,(aj.of_below hb).trans h13,fun q=>by
  obtain⟨k1,k2,k3,k4,k5⟩:=h14 q
  exact⟨k1,k2,k3,fun k r=>(k4 k r).imp id fun s=>Nat.le_trans hb.size s,k5⟩⟩,_,h13⟩
theorem Cj.fin {P:Nat→Prop} {w:World} {mb:Nat} {cs:Array Value} {D:List Ng} {nO:Option Addr} {fr:Nat→Nat} {TT:Nat→Za.U} {G:List Gl} {po:Option Addr} {pc:Nat} {cls:List Za.aG} {own:List Nat} {bg n:Nat} {E:List Ng} {no1:Option Addr} {nc1:Nat} {T1:Nat→Za.U} {rs:List (Nat×List Nat)} {oo:Option Addr} {oc:Nat} {wr:World} (h:Cj P w mb cs D nO fr TT G po pc cls own bg n E no1 nc1 T1 rs oo oc wr)
 (hrl:rs.length<own.length) (ho:own.length≤12) {ws:List Nat} {c:Za.aG} {V F:List Nat} {E2:List Ng} {no2:Option Addr} {nc2:Nat} {T2:Nat→Za.U} {vo2:Option Addr} (hc:cls[fV own bg rs.length]?=some c) (ha:qi (T1 n) (D++E).length c V F T2 1 ws) (hn:n<D.length) (hok:bR ((D++E)++E2) fr) (fu:Za.dw (aV ((D++E)++E2)) fr T2) (hold:∀m,m<(D++E).length→T2 m=T1 m) (hnd:dB (D++E).length E2) (hel:E2.length≤78732) {w9:World} (ky:aj (cm mb no1) (cm mb no2) wr w9)
 (QB:∀k,rowOf vo2 k→cm mb no1 k∨wr.heap.size≤k) (hlt:∀m∈V++F,m<((D++E)++E2).length) (gD:fA (D++E).length E2 F) {i:Nat} {gi:Gl} {e:Ending} {w':World} (hp:QM P mb ((cs.setIfInBounds 1 (.slice no1 (D++E).length nc1)).setIfInBounds 1 (.slice no2 ((D++E)++E2).length nc2)) ((D++E)++E2) (V++F) no2 vo2 fr T2 G i (fV own bg rs.length) c w9 e w'):
 nI P mb cs D nO fr TT G po pc cls own bg n i gi w e w':=by
 obtain⟨E3,F3,no3,nc3,T3,Gn,po3,pc3,rfl,QO,Vx,QP,FK,QQ,QR,Vy,Vz,VA,Yh,yi⟩:=hp
 rw[set_set,set_set]at QO
 have hu:T1 n=TT n:=h.old n hn
 rw[hu]at ha
 have hz1:=h.fg.size
 have hz2:=ky.size
 have eA:(D++E++E2++E3)=D++(E++E2++E3):=by simp
 have VB:bR (D++E++E2++E3) fr:=QO.ok
 have hnewF:∀f∈F,(D++E).length≤f∧f<(D++E++E2).length∧T2 f= .v ([],f):=o6 hok fu hnd gD
 have hnewF3:=o6 VB QP QQ QR
 have nd1:dB (D.length+E.length) E2:=by have:=hnd;rwa [List.length_append]at this
 have nd2:dB (D.length+(E++E2).length) E3:=by
  have:=QQ
  rwa [List.length_append,List.length_append,Nat.add_assoc,←List.length_append]at this
 refine Or.inl ⟨rs,c,V,F,T2,ws,E++E2++E3,F3,no3,nc3,T3,Gn,po3,pc3,hrl,h.tr,hc,ha.low (dL _ _),rfl,by rw[←eA];exact QO,by rw[←eA];exact Vx,by rw[←eA];exact QP,fun m hm=> ?_,fun m hm=>FK m (hlt m hm),(h.nd.app nd1).app nd2,Vy,fun f hf=> ?_,?_,by rw[←eA];exact Vz,by rw[←eA];exact VA,?_,?_⟩
 ·rw[FK m (by rw[List.length_append,List.length_append];omega),hold m (by rw[List.length_append];omega),h.old m hm]
 ·rcases List.mem_append.1 hf with q | q
  ·obtain⟨q1,q2,q3⟩:=hnewF f q
   refine⟨by rw[List.length_append]at q1;omega,?_⟩
   rw[FK f q2,q3]
  ·obtain⟨q1,q2,q3⟩:=hnewF3 f q
   exact⟨by rw[List.length_append,List.length_append]at q1;omega,q3⟩
 ·rw[List.pairwise_append]
  refine⟨gD.ord,QR.ord,fun x hx y hy=> ?_⟩
  have:=(hnewF x hx).2.1
  have:=(hnewF3 y hy).1
  omega
 ·have h1:=h.el
  have h2:rs.length*78732≤11*78732:=Nat.mul_le_mul_right _ (by omega)
  rw[List.length_append,List.length_append]
  omega
 ·have BR:∀k,cm mb no1 k→cm mb nO k∨w.heap.size≤k:=fun k q=>h.fg.row k (Or.inl q)
  have hs2:∀k,cm mb no2 k→cm mb nO k∨w.heap.size≤k:=fun k q=>by
   rcases ky.row k q with e | e
   ·exact BR k e
   ·right;omega
  have hv2:∀k,rowOf vo2 k→cm mb nO k∨w.heap.size≤k:=fun k q=>by
   rcases QB k q with e | e
   ·exact BR k e
   ·right;omega
  have hz3:=yi.size
  refine⟨yi.os.trans (ky.os.trans h.fg.os),yi.tape.trans (ky.tape.trans h.fg.tape),yi.output.trans (ky.output.trans h.fg.output),by omega,fun k hk hr=> ?_,fun k q=> ?_⟩
  ·rw[yi.block k (by omega) ?_,ky.block k (by omega) ?_,h.fg.block k hk hr]
   ·intro q
    rcases BR k q with e | e
    ·exact hr e
    ·omega
   ·rintro(q | q)
    ·rcases hs2 k q with e | e
     ·exact hr e
     ·omega
    ·rcases hv2 k q with e | e
     ·exact hr e
     ·omega
  ·rcases yi.row k q with(e | e) | e
   ·exact hs2 k e
   ·exact hv2 k e
   ·right;omega
theorem Dx (w:World) (p:Int):
 Calls Tryz.prog 44 #[.int .i64 p,.int .i64 0] w fun e w'=>e= .returned (.int .i64 0)∧w'=w:=by
 go_enter Tryz.func44,Tryz.ntmps44
 go_wp2_with fail
 go_ret
 exact⟨rfl,rfl⟩
def dh (p:Int) (n:Nat):Nat:=if n=0 then 0 else(p % (n:Int)).toNat
theorem zJ (w:World) (p:Int) (n:Nat) (hl:n≤1000000000) (h1: -9223372036854775808≤p) (h2:p≤9223372036854775807):
 Calls Tryz.prog 44 #[.int .i64 p,.int .i64 (n:Int)] w fun e w'=>e= .returned (.int .i64 (dh p n:Int))∧w'=w:=by
 by_cases q:n=0
 ·subst q
  refine(Dx w p).mono ?_
  rintro e w' ⟨rfl,rfl⟩
  exact⟨rfl,rfl⟩
 ·refine(xm w p n (by omega) hl h1 h2).mono ?_
  rintro e w' ⟨rfl,rfl⟩
  unfold dh
  rw[if_neg q,Int.toNat_of_nonneg (Int.emod_nonneg p (show (n:Int)≠0 by omega))]
  exact⟨rfl,rfl⟩
theorem tq (p:Int) (n:Nat) (h:0<n):dh p n<n:=by
 unfold dh
 rw[if_neg (by omega)]
 have b1:=Int.emod_nonneg p (show (n:Int)≠0 by omega)
 have b2:=Int.emod_lt_of_pos p (show (0:Int)<(n:Int)by omega)
 omega
theorem nI.from {P:Nat→Prop} {mb:Nat} {cs:Array Value} {D:List Ng} {nO:Option Addr} {fr:Nat→Nat} {TT:Nat→Za.U} {G:List Gl} {po:Option Addr} {pc:Nat} {cls:List Za.aG} {own:List Nat} {bg n i:Nat} {gi:Gl} {w w1:World} {e:Ending} {w':World} (hb:Below w.heap.size w w1) (h:nI P mb cs D nO fr TT G po pc cls own bg n i gi w1 e w'):nI P mb cs D nO fr TT G po pc cls own bg n i gi w e w':=by
 rcases h with⟨rs,c,V,F,T2,ws,E,F',no',nc',T',Gn,po',pc',h1,h2,h3,h4,h5,h6,h7,h8,h9,h10,h11,h12,h13,h14,h15,h16,h17,h18⟩ | ⟨rs,h1,h2,h3,h4,h5,h6⟩ | ⟨rs,E,no1,nc1,T1,oo,oc,h1,h2,h3,h4,h5,h6,h7,h8,h9,h10,h11,h12⟩
 ·exact Or.inl ⟨rs,c,V,F,T2,ws,E,F',no',nc',T',Gn,po',pc',h1,h2,h3,h4,h5,h6,h7,h8,h9,h10,h11,h12,h13,h14,h15,h16,h17,(aj.of_below hb).trans h18⟩
 ·exact Or.inr (Or.inl ⟨rs,h1,h2,h3,h4,h5,(aj.of_below hb).trans h6⟩)
 ·exact Or.inr (Or.inr ⟨rs,E,no1,nc1,T1,oo,oc,h1,h2,h3,h4,h5,h6,h7,h8,h9,h10,fun k q=>Nat.le_trans hb.size (h11 k q),(aj.of_below hb).trans h12⟩)
theorem OB {cls:List Za.aG} {tx:List UInt8} {m j:Nat}:∀x∈Za.bL cls tx m j,x<cls.length:=fun x hx=>by
 have:=(List.mem_filter.1 hx).2
 cases q:cls[x]? with
 | none=>rw[q]at this;cases this
 | some c=>exact(List.getElem?_eq_some_iff.1 q).1
theorem nI.int {P:Nat→Prop} {mb:Nat} {cs:Array Value} {D:List Ng} {nO:Option Addr} {fr:Nat→Nat} {TT:Nat→Za.U} {G:List Gl} {po:Option Addr} {pc:Nat} {cls:List Za.aG} {own:List Nat} {bg n i:Nat} {gi:Gl} {w:World} {e:Ending} {w':World} (h:nI P mb cs D nO fr TT G po pc cls own bg n i gi w e w'):∃z:Int,e= .returned (.int .i64 z):=by
 rcases h with⟨_,_,_,_,_,_,_,_,_,_,_,_,_,_,_,_,_,_,rfl,_⟩ | ⟨_,_,_,_,rfl,_⟩ | ⟨_,_,_,_,_,_,_,_,_,_,rfl,_⟩
 ·exact⟨_,rfl⟩
 ·exact⟨_,rfl⟩
 ·exact⟨_,rfl⟩
theorem Lg (w:World) (mb:Nat) (cs:Array Value) (D:List Ng) (nO:Option Addr) (nC:Nat) (fr:Nat→Nat) (TT:Nat→Za.U) (P:Nat→Prop) (G:List Gl) (po:Option Addr) (pc:Nat) (cls:List Za.aG) (clo:Option Addr) (clc n:Nat) (d:Ng) (i:Nat) (gi:Gl) (p:Int) (hm:cG w mb cs D nO nC fr G po pc) (har:aW w D P) (fu:Za.dw (aV D) fr TT) (hP:∀g,w.heap.size≤g→P g) (h0:cs[0]?=some (.slice clo cls.length clc)) (hcl:cP w clo cls.length cls) (mI:∀c∈cls,Za.jx c) (hcc:cls.length≤12) (hi:i<G.length) (fQ:G[i]=gi) (hn:n<D.length) (hd:D[fr n]?=some d) (hk:d.k=3) (hsz:Za.size (TT n)≤300) (hp1: -9223372036854775808≤p) (hp2:p≤9223372036854775807) (hD:D.length+6000000≤1000000000) (hGl:G.length≤1000000) (xe:5<cs.size):
 Calls Tryz.prog 140 #[.pointer (some ⟨mb,0,none⟩),.int .i64 (i:Int),.int .i64 (n:Int),.int .i64 p] w fun e w'=>nI P mb cs D nO fr TT G po pc cls (Za.bL cls d.tx.toList d.args.length cls.length) (dh p (Za.bL cls d.tx.toList d.args.length cls.length).length) n i gi w e w':=by
 have IQ:=hide (Aa w mb cs D nO nC fr n d cls clo clc hm.st hm.ok hn hd hk h0 hcl (fun c hc=>(mI c hc).hk) hcc)
 have hol:=Za.Ch cls d.tx.toList d.args.length cls.length
 have hlt:=OB (cls:=cls) (tx:=d.tx.toList) (m:=d.args.length) (j:=cls.length)
 generalize Za.bL cls d.tx.toList d.args.length cls.length=own at*
 have VC:own.length≤12:=by omega
 have hbg:=tq p own.length
 have IB:=hide (fun W=>zJ W p own.length (by omega) hp1 hp2)
 generalize dh p own.length=bg at*
 clear hd hk d
 have VD:=hide hlt
 have H0:=hide h0
 have HM:=hide hm
 have nP:=hide har
 have QT:=hide fu
 have HP:=hide hP
 have uX:=hide hcl
 have QU:=hide mI
 have Xk:=hide fQ
 have HN:=hide hn
 have jJ:=hide hsz
 have HD:=hide hD
 have mz:=af hm.st.blk
 have Uv:=hide (show∀g∈G,∀k,rowOf g.no k→k<w.heap.size from fun g hg k hk=>(bY (hm.nds g hg) hk).2)
 clear hlt hm har fu hP hcl mI fQ hn hsz hp1 hp2 hD hol h0
 go_enter Tryz.func140,Tryz.ntmps140
 go_wp2_with fail
 refine(ae IQ).mono ?_
 rintro e w1 ⟨yo,yc,rfl,ow1,hb1⟩
 have z1:=hb1.size
 have Lh:=hide ow1
 have aZ:=hide hb1
 have HST:=hide (show Ut P w1 mb cs D nO fr TT G po pc cls own bg n own.length (.bool false) (.slice none 0 0) (.int .i64 0) w1 from by
  have PB:=(ae HM).below hb1
  refine⟨[],[],nO,nC,TT,none,0,by simp,rfl,rfl,rfl,⟨by simpa [Za.cf] using World.ownsRow_nil _ _ _ _,(fun t r hr=>by simp at hr),?_,?_,by simpa using ae QT,fun _ _=>rfl,(fun i d hd=>by simp at hd),by simp,(fun v hv=>by simp[Za.cf]at hv),by simp[Za.cf],⟨rfl,rfl,rfl,Nat.le_refl _,fun _ _ _=>rfl,fun k q=> ?_⟩⟩⟩
  ·rw[List.append_nil,lO PB.st.cel];exact PB
  ·rw[List.append_nil]
   exact((ae nP).below hb1).keep fun g _ hp hg=>⟨hg,hp,fun⟨_,q,_⟩=>by cases q⟩
  ·rcases q with q | ⟨_,q,_⟩
   ·exact Or.inl q
   ·cases q)
 clear ow1 hb1 IQ
 go_wp2_with fail
 refine(ae IB _).mono ?_
 rintro e w1 ⟨rfl,rfl⟩
 go_wp2_with fail
 go_loopg [11,12,25] own.length (fun k wv av iv wr=>Ut P w1 mb cs D nO fr TT G po pc cls own bg n k wv av iv wr)
 case atStart=>exact ae HST
 case round=>
  clear HST IB
  obtain⟨rs,E,no1,nc1,T1,oo,oc,hkj,rfl,rfl,rfl,fe⟩:=hrel
  by_cases hlt:rs.length<own.length
  ·have hbl:bg<own.length:=hbg (by omega)
   have t0:decide (rs.length<own.length)=true:=by simpa using hlt
   have FL:(bg+rs.length) % own.length<own.length:=Nat.mod_lt _ (by omega)
   have uY:own[(bg+rs.length) % own.length]<cls.length:=ae VD _ (List.getElem_mem FL)
   have QW:fV own bg rs.length=own[(bg+rs.length) % own.length]:=by unfold fV;rw[List.getElem?_eq_getElem FL];rfl
   have M6:dR w1 wr:=fun g ys S hg hS=>((ae HM).below (ae aZ)).st.qW fe.fg hg (by rcases hS with q | q | q<;>(rw[q];decide)) (by rcases hS with q | q | q<;>(rw[q];decide))
   have Li:cP wr clo cls.length cls:=M6.cls ((dR.below (ae aZ)).cls (ae uX))
   obtain⟨g,hg⟩:∃g,yo=some ⟨g,0,none⟩:=by
    rcases(ae Lh).2 with⟨q,q2⟩ | ⟨g,cp,cur,q,_⟩
    ·omega
    ·simp only[Value.slice.injEq]at q
     exact⟨g,q.1⟩
   subst hg
   have FM:wr.ownsRow w.heap.size 3 1 (.slice (some ⟨g,0,none⟩) own.length yc) own.length (own.map aI):=ah (ae Lh) fun k q=>by
    obtain⟨cur,pV⟩:=aH (ae Lh) (aD q)
    exact(((ae HM).below (ae aZ)).st.qW fe.fg pV (by decide) (by decide)).trans pV.symm
   have Yi:=hide FM
   have gz:=(FM.lt g rfl).2
   have fq:wr.cell? ⟨g,(bg+rs.length) % own.length,none⟩=some (.int .i64 (own[(bg+rs.length) % own.length]:Int)):=by
    rw[FM.cellAt _ (by omega),List.getElem?_map,List.getElem?_eq_getElem FL]
    rfl
   have IC:=hide (fun W=>xm W ((bg:Int)+(rs.length:Int)) own.length (by omega) (by omega) (by omega) (by omega))
   have e0:((bg:Int)+(rs.length:Int)) % (own.length:Int)=(((bg+rs.length) % own.length:Nat):Int):=by rw[Int.natCast_emod,Int.natCast_add]
   rw[e0]at IC
   generalize hq:(bg+rs.length) % own.length=q at*
   generalize Eg:own[q]=which at*
   obtain⟨gc,vs,ca,QX,hcb,hct,hcall⟩:=Li.2 (fun e=>by rw[e]at uY;simp at uY)
   have ko:which<vs.length:=by have:=hcall.length;omega
   have fc:∀i,i<6→wr.cell? ⟨gc,which*6+i,none⟩=(nU vs[which])[i]?:=fun i hi=>by
    rw[ag hcb,←Array.getElem?_toList,←BO ko i hi,←hct,List.getElem?_take_of_lt (by omega)]
   have f0:=fc 0 (by omega)
   have f1:=fc 1 (by omega)
   have f2:=fc 2 (by omega)
   have f3:=fc 3 (by omega)
   have f4:=fc 4 (by omega)
   have f5:=fc 5 (by omega)
   simp only[nU,List.getElem?_cons_zero,List.getElem?_cons_succ,Nat.add_zero]at f0 f1 f2 f3 f4 f5
   have gcz:=af hcb
   have zH:dU wr vs[which].a vs[which].o1 vs[which].n1 vs[which].o2 vs[which].n2 cls[which]:=hcall.at which ko uY
   have hDE:(D++E).length+5000000≤1000000000:=by
    have h1:=fe.el
    have h2:=ae HD
    have h3:rs.length*78732≤12*78732:=Nat.mul_le_mul_right _ (by omega)
    rw[List.length_append]
    omega
   have hT1:T1 n=TT n:=fe.old n (ae HN)
   have hnDE:n<(D++E).length:=Nat.lt_of_lt_of_le (ae HN) (dL _ _)
   have IA:=hide (fun W (hu:Below wr.heap.size wr W)=>(Lf W mb (cs.setIfInBounds 1 (.slice no1 (D++E).length nc1)) (D++E) no1 nc1 fr T1 (fun g=>P g∧¬rowOf oo g) vs[which].a vs[which].o1 vs[which].o2 vs[which].n1 vs[which].c1 vs[which].n2 vs[which].c2 n cls[which] ⟨fe.mc.st.below hu,fe.mc.ok,fe.to,fe.ar.below hu,Nat.le_refl _⟩ (fun g hg=>⟨ae HP g (by have:=hu.size;have:=fe.fg.size;omega),fun q=>by have:=(bY fe.ow q).2;have:=hu.size;omega⟩) (zH.keep (aQ.below hu)) (ae QU _ (List.getElem_mem uY)) hnDE (by rw[hT1];exact ae jJ) (by omega)).mono (fun e w' q=>q.base hu))
   have m0:wr.cell? ⟨mb,0,none⟩=some (.slice clo cls.length clc):=(ag fe.mc.st.blk 0).trans (by rw[Array.getElem?_setIfInBounds_ne (by omega)];exact ae H0)
   have mzr:=af fe.mc.st.blk
   rw[QX]at m0
   generalize vs[which]=v at*
   obtain⟨⟨ak0,av0,ax0,ao0,an0,ac0⟩,o1,n1,c1,o2,n2,c2⟩:=v
   dsimp only at f0 f1 f2 f3 f4 f5 IA
   have i0:(0:Int)≤(q:Int):=by omega
   have i1:(q:Int)<(own.length:Int):=by omega
   have k0:(0:Int)≤(which:Int):=by omega
   have k1:(which:Int)<(cls.length:Int):=by omega
   have iD:=hide fe
   have VE:=hide Li
   have Cg:=hide uY
   have QY:=hide QW
   have Xl:=hide hDE
   have aY:=hide hlt
   have aP:=hide hkj
   have PL:=hide hT1
   have DT:=hide QX
   have hrl:rs.length≤12:=by omega
   clear fe Li M6 FM hcb hct hcall ko fc zH hDE hT1 hnDE QW hlt hkj QX e0 hq Eg FL
   go_wp2_with fail
   refine(ae IC _).mono ?_
   rintro e wr ⟨rfl,rfl⟩
   go_wp2_with fail
   go_region_with (go_at_call 182;refine(ae IA _ (by first | exact Below.refl _ _ | exact(Below.refl _ _).drew | exact((Below.refl _ _).alloc (Nat.le_refl _) _).drew | exact(Below.refl _ _).alloc (Nat.le_refl _) _ | exact(Below.refl _ _).drew.alloc (Nat.le_refl _) _)).mono ?_;rintro y w2 ⟨⟨says,ws,xo,xc,vo2,vl,vc2,E2,V,F,no2,nc2,T2,rfl,Uw,qj,Lj,QZ,Q0,FO,FP,FQ,Ll,Lm,Q3,Lp,BP⟩,R9,hfgW⟩;first | (have ab:=((ae iD).mc.st.below (by first | exact((Below.refl _ _).alloc (Nat.le_refl _) _).drew | exact(Below.refl _ _).alloc (Nat.le_refl _) _)).qW hfgW (heap_alloc_new wr _) (by decide) (by decide);have b0:=ag ab 0;have b1:=ag ab 1;have b2:=ag ab 2;have y0:=aq ab 0;have y1:=aq ab 1;have y2:=aq ab 2;have abz:=af ab;simp only[List.getElem?_toArray,List.getElem?_cons_zero,List.getElem?_cons_succ]at b0 b1 b2) | skip)
   all_goals
    first
     | (have tk:=rO.KZ ab (.int .i64 (says:Int)) (.slice xo ws.length xc) (.slice vo2 vl vc2)
        have hab:=au (au (au ab 0 (.int .i64 (says:Int))) 1 (.slice xo ws.length xc)) 2 (.slice vo2 vl vc2)
        have zK:=((Lp.dW (Nat.le_refl _) 0 (.int .i64 (says:Int))).dW (Nat.le_refl _) 1 (.slice xo ws.length xc)).dW (Nat.le_refl _) 2 (.slice vo2 vl vc2)
        clear ab b0 b1 b2 y0 y1 y2 abz
        generalize (((w2.setCell ⟨wr.heap.size,0,none⟩ (.int .i64 (says:Int))).setCell ⟨wr.heap.size,1,none⟩ (.slice xo ws.length xc)).setCell ⟨wr.heap.size,2,none⟩ (.slice vo2 vl vc2))=w9 at*)
     | (have tk:=rO.alloc w2 (.cells #[.int .i64 (says:Int),.slice xo ws.length xc,.slice vo2 vl vc2] 245)
        have hab:=heap_alloc_new w2 (.cells #[.int .i64 (says:Int),.slice xo ws.length xc,.slice vo2 vl vc2] 245)
        have zK:=Lp.trans (aj.of_below ((Below.refl _ _).alloc (Nat.le_refl _) (.cells #[.int .i64 (says:Int),.slice xo ws.length xc,.slice vo2 vl vc2] 245)))
        generalize w2.alloc (.cells #[.int .i64 (says:Int),.slice xo ws.length xc,.slice vo2 vl vc2] 245)=w9 at*)
    have c0:=ag hab 0
    have c1:=ag hab 1
    have c2:=ag hab 2
    have abz:=af hab
    simp only[List.getElem?_toArray,List.getElem?_cons_zero,List.getElem?_cons_succ,List.setIfInBounds_toArray,List.set_cons_zero,List.set_cons_succ]at c0 c1 c2
    have st9:=tk.st Q0
    have ar9:=tk.args Q3
    have xo9:=tk.row Uw (by decide)
    have Xm:=hide Lj
    have jM:=hide (show says≠1→∀(oo':Option Addr) (oc':Nat) (w':World),w'.ownsRow w1.heap.size 3 1 (.slice oo' (Za.cf (rs++[(says,ws)])).length oc') (Za.cf (rs++[(says,ws)])).length ((Za.cf (rs++[(says,ws)])).map aI)→w9.grownBy w' (Value.slice oo (Za.cf rs).length oc).ownBlock→(∀k,rowOf oo' k→rowOf oo k∨w9.heap.size≤k)→Cj P w1 mb cs D nO fr TT G po pc cls own bg n (E++E2) no2 nc2 T2 (rs++[(says,ws)]) oo' oc' w' from fun hs1 oo' oc' w' k1 k2 k3=>(ae iD).next (fun g hg k hk=>Nat.lt_of_lt_of_le (ae Uv g hg k hk) z1) (by rw[ae QY];exact List.getElem?_eq_getElem (ae Cg)) qj (ae HN) hs1 Lj QZ st9 FO FP FQ Ll Lm ar9 zK (Below.refl _ _) k1 k2 k3)
    have zL:=hide (show w9.ownsRow w1.heap.size 3 1 (.slice oo (Za.cf rs).length oc) (Za.cf rs).length ((Za.cf rs).map aI)from ah (ae iD).ow fun k q=>by
     obtain⟨cur,pV⟩:=aH (ae iD).ow (aD q)
     exact((ae iD).mc.st.qW zK pV (by decide) (by decide)).trans pV.symm)
    have Q4:=hide xo9
    have M9:=hide (show w1.heap.size≤w9.heap.size from Nat.le_trans (ae iD).fg.size zK.size)
    have Na:=hide (show says=1→vl=(V++F).length∧Calls Tryz.prog 183 #[.pointer (some ⟨mb,0,none⟩),.int .i64 (i:Int),.int .i64 (which:Int),.agg #[.slice vo2 vl vc2]] w9 fun e w'=>nI P mb cs D nO fr TT G po pc cls own bg n i gi w e w' from fun hs1=>by
     subst hs1
     obtain⟨j1,rfl,j3,j4,j5,j6,j7⟩:=BP rfl
     refine⟨rfl,?_⟩
     have Xn:=(ae iD).mc.asked st9 FO (dL _ _) zK
     have VG:dR wr w9:=fun g ys S hg hS=>(ae iD).mc.st.qW zK hg (by rcases hS with q | q | q<;>(rw[q];decide)) (by rcases hS with q | q | q<;>(rw[q];decide))
     have VH:=FI w9 mb _ ((D++E)++E2) (V++F) no2 nc2 vo2 vc2 fr T2 P G po pc i which cls clo clc Xn (ar9.keep fun g _ hp hg=>⟨hg,hp.1.1,hp.2⟩) FP (tk.row j3 (by decide)) j5 (fun x hx k hk hk2=>by
      have q1:=ae Uv x hx k hk
      rcases j4 k hk2 with(e | e) | e
      ·obtain⟨cur,pV⟩:=aH ((ae iD).mc.nds x hx) hk
       rw[e,(ae iD).mc.st.blk]at pV
       simp only[Option.some.injEq,Obj.cells.injEq]at pV
       exact absurd pV.2.1 (by decide)
      ·obtain⟨cur,pV⟩:=aH ((ae iD).mc.nds x hx) hk
       exact aN (ae iD).mc.st.own pV (by decide) e
      ·have:=(ae iD).fg.size;omega) (fun g hg=>ae HP g (by have:=ae M9;omega)) (by rw[set_set,Array.getElem?_setIfInBounds_ne (by omega)];exact ae H0) (VG.cls (ae VE)) (ae Cg) hcc (ae QU _ (List.getElem_mem (ae Cg))) j6 (by have:=ae Xl;have hq:(D++E++E2).length=(D++E).length+E2.length:=List.length_append;omega) hGl
     refine VH.mono fun e w' hp=> ?_
     have ho:=ae QY
     exact((ae iD).fin (ae aY) VC (by rw[ho];exact List.getElem?_eq_getElem (ae Cg)) qj (ae HN) FO FP FQ Ll Lm zK j4 j5 j7 (by rw[ho];exact hp)).from (ae aZ))
    have hs3:says=1∨says=2∨says=3:=by
     rcases qj with⟨_,q,_⟩ | ⟨_,_,_,_,_,q,_⟩
     ·rw[q];exact Al _
     ·rw[q];exact Al _
    clear st9 ar9 xo9 tk Q0 Q3 Uw zK Lp hfgW qj Lj QZ FO FP FQ Ll Lm BP hab
    rcases hs3 with rfl | rfl | rfl
    ·have hcm:=(ae Na rfl).2
     have IM:=hide hcm
     clear hcm Na jM zL Q4
     go_wp2_with fail
     refine(ae IM).mono ?_
     intro y w10 h10
     obtain⟨z10,rfl⟩:=h10.int
     have xE:=hide h10
     clear h10 IM
     go_wp2_with fail
     go_ret
     exact ae xE
    ·have hnd:Za.cf (rs++[(2,ws)])=Za.cf rs:=by rw[Za.pU];simp
     have Jb:Za.lW (rs++[(2,ws)])=Za.lW rs:=by rw[Za.zI];simp
     have hnx:=ae jM (by omega) oo oc w9 (by rw[hnd];exact ae zL) (World.grownBy.refl _ _) (fun k q=>Or.inl q)
     have Q5:=hide hnx
     have D6:=hide hnd
     have Q6:=hide Jb
     clear hnx hnd Jb Na jM zL Q4
     go_wp2_with fail
     go_roundg (gk - 1)
     case measure=>have:=ae aP;have:=ae aY;omega
     case rel=>exact⟨rs++[(2,ws)],_,_,_,_,_,_,by have:=ae aP;have:=ae aY;simp;omega,by rw[List.length_append];go_num,by rw[ae Q6],by rw[ae D6],ae Q5⟩
    ·have hnd:Za.cf (rs++[(3,ws)])=Za.cf rs++ws:=by rw[Za.pU];simp
     have Jb:Za.lW (rs++[(3,ws)])=true:=by rw[Za.zI];simp
     have hnn:(Za.cf rs).length+ws.length≤1000000000:=by
      have h1:=(ae iD).ln
      have h2:rs.length*12000000≤12*12000000:=Nat.mul_le_mul_right _ hrl
      have h3:=ae Xm
      omega
     have D6:=hide hnd
     have Q6:=hide Jb
     have jq:=hide hnn
     clear hnd Jb hnn Na
     go_wp2_with (at_builtin;go_must (refine Dw rfl (.tmp 61) (.tmp 63) rfl w1.heap.size wr.heap.size (.slice oo (Za.cf rs).length oc) (Za.cf rs).length (Za.cf rs) rfl (ae zL) xo ws.length xc ws rfl (ae Q4) (ae jq) (ae M9) ?_);go_must (intro v' w12 hown' hgrow hat;obtain⟨oo',oc',hv'⟩:=eP hown';subst hv';have VI:=hide (show w12.ownsRow w1.heap.size 3 1 (.slice oo' (Za.cf (rs++[(3,ws)])).length oc') (Za.cf (rs++[(3,ws)])).length ((Za.cf (rs++[(3,ws)])).map aI)from by rw[ae D6,List.length_append];exact hown');have Q5:=hide (ae jM (by omega) oo' oc' w12 (ae VI) hgrow (fun k q=>by rcases hat with e | e;exact Or.inl (aD (by rw[←e];obtain⟨pp,hp,hk⟩:=q;rw[hp,hk];rfl));(right;obtain⟨pp,hp,hk⟩:=q;rw[hp]at e;have e2:pp.block=w9.heap.size:=(by simpa [Value.ownBlock] using e);omega)));clear hown' hgrow hat))
     go_roundg (gk - 1)
     case measure=>have:=ae aP;have:=ae aY;omega
     case rel=>exact⟨rs++[(3,ws)],_,_,_,_,_,_,by have:=ae aP;have:=ae aY;simp;omega,by rw[List.length_append];go_num,by rw[ae Q6],by rw[ae D6,List.length_append],ae Q5⟩
  ·have hrl:rs.length=own.length:=by omega
   have t0:decide (rs.length<own.length)=false:=by simp;omega
   have iD:=hide fe
   have ve:=hide hrl
   cases FR:Za.lW rs with
   | false=>
    have IFL:=hide (vN wr mb _ 4 fe.mc.st.blk (by simpa using xe))
    have QK:=hide (au fe.mc.st.blk 5 (.int .i64 4))
    have Lq:=hide FR
    clear fe hkj hlt hrl FR
    go_wp2_with fail
    refine(ae IFL).mono ?_
    rintro y w3 ⟨rfl,rfl⟩
    go_wp2_with fail
    go_ret
    refine(Or.inr (Or.inl ⟨rs,ae ve,(ae iD).tr,ae Lq,rfl,⟨_,ae QK,no1,_,nc1,rfl⟩,?_⟩):nI P mb cs D nO fr TT G po pc cls own bg n i gi w _ _)
    have hf:=(ae iD).fg
    have hz:=(ae aZ).size
    refine(aj.of_below (ae aZ)).trans ⟨hf.os,hf.tape,hf.output,by rw[cC];exact hf.size,fun k hk hr=> ?_,fun k q=>Or.inl (Or.inl q)⟩
    rw[aF _ _ _ _ (fun e=>hr (Or.inl e)),hf.block k hk hr]
   | true=>
    have hD2:(Za.cf rs).length≤1000000000:=by
     have h1:=fe.ln
     have h2:rs.length*12000000≤12*12000000:=Nat.mul_le_mul_right _ (by omega)
     omega
    have IW:=hide (BW wr mb _ (D++E) no1 nc1 fr G po pc i gi (Za.cf rs) oo oc fe.mc hi (ae Xk) (bZ fe.ow (Nat.zero_le _)) fe.lt hD2)
    have Lq:=hide FR
    clear fe hkj hlt hrl FR hD2
    go_wp2_with fail
    refine(ae IW).mono ?_
    rintro y w3 ⟨rfl,mc3,fr3⟩
    have QA:=hide mc3
    have uP:=hide fr3
    clear mc3 fr3 IW
    go_wp2_with fail
    go_ret
    have hf:=(ae iD).fg
    have hpo:=(ae iD).mc
    have hel:=(ae iD).el
    have h12:rs.length*78732≤12*78732:=Nat.mul_le_mul_right _ (by have:=ae ve;omega)
    refine(Or.inr (Or.inr ⟨rs,E,no1,nc1,T1,oo,oc,ae ve,(ae iD).tr,ae Lq,rfl,ae QA,?_,(ae iD).to,(ae iD).old,(ae iD).nd,by omega,fun k q=>Nat.le_trans (ae aZ).size (bY (ae iD).ow q).1,?_⟩):nI P mb cs D nO fr TT G po pc cls own bg n i gi w _ _)
    ·exact(ae iD).ar.keep fun g _ hp hg=>⟨((ae uP).block g (af hg) (aN hpo.pool hg (by decide))).trans hg,hp.1⟩
    ·refine(aj.of_below (ae aZ)).trans ⟨(ae uP).os.trans hf.os,(ae uP).tape.trans hf.tape,(ae uP).output.trans hf.output,Nat.le_trans hf.size (ae uP).size,fun k hk hr=> ?_,fun k q=> ?_⟩
     ·rw[(ae uP).block k (Nat.lt_of_lt_of_le hk hf.size) (fun e=>hr (Or.inr e)),hf.block k hk (fun e=>hr (Or.inl e))]
     ·rcases q with q | q
      ·rcases hf.row k (Or.inl q)with e | e
       ·exact Or.inl (Or.inl e)
       ·exact Or.inr e
      ·exact Or.inl (Or.inr q)
end Go.Proofs.YthfjnfcekeknlaaGreatDoor
