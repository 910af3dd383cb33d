import Derived.Test.YthfjnfcekeknlaaGreatDoorSt25
import Derived.Test.YthfjnfcekeknlaaGreatDoorSt26
set_option maxHeartbeats 8000000
set_option maxRecDepth 100000
namespace Go.Proofs.YthfjnfcekeknlaaGreatDoor
open Go.RowKit
structure lX (T:Nat→Za.U) (len:Nat) (g:Gl):Prop where
 ll:g.l<len
 sg:g.sg.toList=[]∨g.sg.toList=[61]∨g.sg.toList=[58,61]
 nm:g.sg.toList=[]→∃tx us,T g.l= .n 1 tx 0 us
 r0:g.sg.toList=[]→g.r= -1
 rr:g.sg.toList≠[]→∃n:Nat,g.r=(n:Int)∧n<len
 z0:g.op.toList=[]→g.z= -1
 zz:g.op.toList≠[]→∃n:Nat,g.z=(n:Int)∧n<len
 oe:g.op.toList≠[]→g.sg.toList=[58,61]
 ol:g.op.size≤2
theorem zD.from {mb:Nat} {cs:Array Value} {D:List Ng} {nO:Option Addr} {nC:Nat} {fr:Nat→Nat} {TT:Nat→Za.U} {G:List Gl} {i a b:Nat} {w w1:World} {e:Ending} {w':World} (hb:Below w.heap.size w w1) (h:zD mb cs D nO nC fr TT G i a b w1 e w'):zD mb cs D nO nC fr TT G i a b w e w':=by
 rcases h with⟨D',fr',σ,T',po',pc',h1,h2,h3,h4,h5⟩ | ⟨h1,h2,h3,h4⟩
 ·exact Or.inl ⟨D',fr',σ,T',po',pc',h1,h2,h3,h4,(aj.of_below hb).trans h5⟩
 ·exact Or.inr ⟨h1,h2,h3,(aj.of_below hb).trans h4⟩
theorem sZ.from {mb:Nat} {cs:Array Value} {D:List Ng} {nO:Option Addr} {nC:Nat} {fr:Nat→Nat} {TT:Nat→Za.U} {P:Nat→Prop} {G:List Gl} {po:Option Addr} {pc i:Nat} {g:Gl} {W:Za.Wn} {r:Option Int} {w w1:World} {e:Ending} {w':World} (hb:Below w.heap.size w w1) (h:sZ mb cs D nO nC fr TT P G po pc i g W r w1 e w'):sZ mb cs D nO nC fr TT P G po pc i g W r w e w':=by
 rcases h with⟨h1,wo,wc,h2,h3,h4,h5⟩ | ⟨h1,h2,h3,h4,h5⟩ | ⟨h1,x,no',nc',T2,w2,h2,h3,h4,h5,h6,h7,h8,h9,h10⟩
 ·exact Or.inl ⟨h1,wo,wc,h2,h3,(aj.of_below hb).trans h4,fun k q=>Nat.le_trans hb.size (h5 k q)⟩
 ·exact Or.inr (Or.inl ⟨h1,h2,h3,h4,(aj.of_below hb).trans h5⟩)
 ·exact Or.inr (Or.inr ⟨h1,x,no',nc',T2,w2,h2,h3,h4,h5,h6,h7,h8,(aj.of_below hb).trans h9,h10⟩)
def Q7 (P:Nat→Prop) (mb:Nat) (cs:Array Value) (D:List Ng) (nO:Option Addr) (nC:Nat) (fr:Nat→Nat) (TT:Nat→Za.U) (G:List Gl) (po:Option Addr) (pc:Nat) (cls:List Za.aG) (i:Nat) (g:Gl) (p:Int) (w:World) (e:Ending) (w':World):Prop:=
 (g.sg.toList=[61]∧∃rn:Nat,g.r=(rn:Int)∧rn<D.length∧zD mb cs D nO nC fr TT G i g.l rn w e w')∨
 (g.sg.toList=[58,61]∧∃(rn zn:Nat) (d0 e0:Ng),g.r=(rn:Int)∧rn<D.length∧D[fr rn]?=some d0∧(g.op.toList≠[]→g.z=(zn:Int)∧zn<D.length∧D[fr zn]?=some e0)∧sZ mb cs D nO nC fr TT P G po pc i g (Za.eN g.op.toList (TT rn) (TT zn)) (kM g.op.toList d0 e0) w e w')∨
 (g.sg.toList=[]∧TT g.l= .n 1 [116,114,117,101] 0 []∧e= .returned (.int .i64 0)∧∃(po':Option Addr) (pc':Nat),cG w' mb (cs.setIfInBounds 3 (.slice po' (G.eraseIdx i).length pc')) D nO nC fr (G.eraseIdx i) po' pc'∧aj (fun k=>k=mb) (fun k=>k=mb∨rowOf po' k) w w')∨
 (g.sg.toList=[]∧∃(tx:List UInt8) (us:List Za.U),TT g.l= .n 1 tx 0 us∧¬(tx=[116,114,117,101]∧us=[])∧nI P mb cs D nO fr TT G po pc cls (Za.bL cls tx us.length cls.length) (dh p (Za.bL cls tx us.length cls.length).length) g.l i g w e w')
theorem Lt (w:World) (mb:Nat) (cs:Array Value) (D:List Ng) (nO:Option Addr) (nC:Nat) (fr:Nat→Nat) (TT:Nat→Za.U) (P:Nat→Prop) (G:List Gl) (po:Option Addr) (pc:Nat) (cls:List Za.aG) (clo:Option Addr) (clc i:Nat) (g:Gl) (p:Int) (hm:cG w mb cs D nO nC fr G po pc) (har:aW w D P) (fu:Za.dw (aV D) fr TT) (hP:∀g,w.heap.size≤g→P g) (h0:cs[0]?=some (.slice clo cls.length clc)) (hcl:cP w clo cls.length cls) (mI:∀c∈cls,Za.jx c) (hcc:cls.length≤12) (hi:i<G.length) (fQ:G[i]=g) (hW:lX TT D.length g) (hvb:∀d∈D,-1000000000≤d.val∧d.val≤1000000000) (hsz:Za.size (TT g.l)≤300) (hp1: -9223372036854775808≤p) (hp2:p≤9223372036854775807) (hD:D.length+6000000≤1000000000) (hGl:G.length≤1000000) (xe:5<cs.size):
 Calls Tryz.prog 84 #[.pointer (some ⟨mb,0,none⟩),.int .i64 (i:Int),.int .i64 p] w fun e w'=>Q7 P mb cs D nO nC fr TT G po pc cls i g p w e w':=by
 have hb0:=(Below.refl w.heap.size w).alloc (Nat.le_refl _) (.cells #[.int .i64 (g.l:Int),.string g.sg,.int .i64 g.r,.string g.op,.int .i64 g.z,.bool g.wt,.slice g.no g.nd.length g.nc] 158)
 have f3:=(ag hm.st.blk 3).trans hm.c3
 have mz:=af hm.st.blk
 obtain⟨pg,Q8⟩:∃pg,po=some ⟨pg,0,none⟩:=by
  rcases hm.pool.2 with⟨q,q2⟩ | ⟨g,cp,cur,q,_⟩
  ·omega
  ·simp only[Value.slice.injEq]at q
   exact⟨g,q.1⟩
 subst Q8
 have pz:=(hm.pool.lt pg rfl).2
 have fc:∀k,k<7→w.cell? ⟨pg,i*7+k,none⟩=(fG g)[k]?:=fun k hk=>by
  rw[hm.pool.cellAt (i*7+k) (by omega),←fQ]
  exact qE hi k hk
 have e0:=fc 0 (by omega)
 have e1:=fc 1 (by omega)
 have e2:=fc 2 (by omega)
 have e3:=fc 3 (by omega)
 have e4:=fc 4 (by omega)
 have e5:=fc 5 (by omega)
 have e6:=fc 6 (by omega)
 simp only[fG,List.getElem?_cons_zero,List.getElem?_cons_succ,Nat.add_zero]at e0 e1 e2 e3 e4 e5 e6
 have i0:(0:Int)≤(i:Int):=by omega
 have i1:(i:Int)<(G.length:Int):=by omega
 have dC:=heap_alloc_new w (.cells #[.int .i64 (g.l:Int),.string g.sg,.int .i64 g.r,.string g.op,.int .i64 g.z,.bool g.wt,.slice g.no g.nd.length g.nc] 158)
 have hG0:fW w w.heap.size mb 1 cs 91 D nO nC fr TT P:=⟨hm.st,hm.ok,fu,har,Nat.le_refl _⟩
 rcases hW.sg with aU | aU | aU
 ·obtain⟨tx,us,htx⟩:=hW.nm aU
  obtain⟨d,hd,zM,Ux,Nc,sN⟩:=hG0.node hW.ll
  have hk1:d.k≠1:=fun q=>by rw[Nc q]at htx;cases htx
  obtain⟨lk,ltx,lnum,hlab,hT⟩:=sN hk1
  rw[htx]at hT
  injection hT with u1 u2 u3 u4
  subst u1 u2 u3
  have hk3:d.k=3:=by
   unfold eQ at hlab
   rw[if_neg hk1]at hlab
   by_cases q:d.k=2
   ·rw[if_pos q]at hlab;injection hlab with hlab;injection hlab with a;cases a
   ·rcases zM.ks with r | r | r
    ·exact absurd r hk1
    ·exact absurd r q
    ·exact r
  have htl:d.tx.toList=tx:=by
   unfold eQ at hlab
   rw[if_neg hk1,if_neg (by omega)]at hlab
   injection hlab with hlab
   injection hlab with _ hlab
   injection hlab
  have lN:us.length=d.args.length:=by rw[u4,List.length_map]
  obtain⟨dv,dc,dl⟩:=zM.c hk3
  obtain⟨kk,hkk⟩:=hm.ok.hop g.l hW.ll
  have IL:=hide (fun W (hu:Below (w.heap.size+1) (w.alloc (.cells #[.int .i64 (g.l:Int),.string g.sg,.int .i64 g.r,.string g.op,.int .i64 g.z,.bool g.wt,.slice g.no g.nd.length g.nc] 158)) W)=>(eo W mb 1 cs _ D nO nC g.l (fr g.l) kk d (hm.st.below (hb0.trans (hu.mono (Nat.le_succ _)))) hkk hd).mono (fun e w' q=>And.intro q.1 (And.intro q.2 (hu.trans (q.2.mono (by have:=hu.size;rw[World.size_alloc]at this;exact this))))))
  rw[hk3,dv,dc]at IL
  have ILV:=hide (fun W (hu:Below w.heap.size w W)=>sW W mb cs D nO nC fr G (some ⟨pg,0,none⟩) pc i (hm.below hu) hGl)
  have ICA:=hide (show∀W,Below w.heap.size w W→Calls Tryz.prog 140 #[.pointer (some ⟨mb,0,none⟩),.int .i64 (i:Int),.int .i64 (g.l:Int),.int .i64 p] W fun e w'=>nI P mb cs D nO fr TT G (some ⟨pg,0,none⟩) pc cls (Za.bL cls tx us.length cls.length) (dh p (Za.bL cls tx us.length cls.length).length) g.l i g w e w' from fun W hu=>by
   have:=Lg W mb cs D nO nC fr TT P G (some ⟨pg,0,none⟩) pc cls clo clc g.l d i g p (hm.below hu) (har.below hu) fu (fun q hq=>hP q (Nat.le_trans hu.size hq)) h0 ((dR.below hu).cls hcl) mI hcc hi fQ hW.ll hd hk3 hsz hp1 hp2 hD hGl xe
   rw[htl,←lN]at this
   exact this.mono fun e w' q=>q.from hu)
  have t1:(g.sg.toList == [61])=false:=by rw[aU];rfl
  have t2:(g.sg.toList == [58,61])=false:=by rw[aU];rfl
  have jw:=hide aU
  have fP:=hide htx
  have Uy:(d.tx.toList=[116,114,117,101]∧d.args.length=0)∨(¬d.tx.toList=[116,114,117,101])∨(d.tx.toList=[116,114,117,101]∧¬d.args.length=0):=by
   by_cases q1:d.tx.toList=[116,114,117,101]
   ·by_cases q2:d.args.length=0
    ·exact Or.inl ⟨q1,q2⟩
    ·exact Or.inr (Or.inr ⟨q1,q2⟩)
   ·exact Or.inr (Or.inl q1)
  have MK:=hide lN
  have Ed:=hide htl
  have uL:=hide Uy
  have Lu:=heap_alloc_new (w.alloc (.cells #[.int .i64 (g.l:Int),.string g.sg,.int .i64 g.r,.string g.op,.int .i64 g.z,.bool g.wt,.slice g.no g.nd.length g.nc] 158)) (.cells #[.int .i64 0,.int .i64 0,.string ⟨#[]⟩,.int .i64 0] 177)
  rw[World.size_alloc]at Lu
  have Lv:=hide Lu
  have aT:=hide hb0
  have nQ:=hide dC
  clear Lu
  clear hm har fu hP h0 hcl mI fQ hW hvb hsz hp1 hp2 hD hb0 dC hG0 fc hd zM Ux Nc sN hk1 hlab u4 hk3 htl lN dv dc dl hkk aU htx Uy
  obtain⟨l,sg,r,op,z,wt,no,nc,nd⟩:=g
  dsimp only at*
  generalize d.args.length=dm at*
  generalize d.tx=dtx at*
  clear d
  rcases ae uL with⟨q1,q2⟩ | q1 | ⟨q1,q2⟩
  ·have u1:(dtx.toList == [116,114,117,101])=true:=by rw[q1];rfl
   subst q2
   have HU:=hide (show us=[]from List.length_eq_zero_iff.1 (ae MK))
   have HQ:=hide q1
   clear q1 uL
   go_enter Tryz.func84,Tryz.ntmps84
   go_wp2_with fail
   go_region_with (go_at_call 99;refine(ae IL _ (by first | exact Below.refl _ _ | exact(Below.refl _ _).drew | exact((Below.refl _ _).alloc (by simp) _).drew | exact(Below.refl _ _).alloc (by simp) _)).mono ?_;rintro y w2 ⟨rfl,hb2,hu2⟩;first | (have ab:=(hb2.block (w.heap.size+1) (by simp)).trans (ae Lv);have ab0:=ag ab 0;have ab1:=ag ab 1;have ab2:=ag ab 2;have ab3:=ag ab 3;have ay0:=aq ab 0;have ay1:=aq ab 1;have ay2:=aq ab 2;have ay3:=aq ab 3;have abz:=af ab;simp only[List.getElem?_toArray,List.getElem?_cons_zero,List.getElem?_cons_succ]at ab0 ab1 ab2 ab3) | skip)
   all_goals
    first
     | (have hab:=au (au (au (au ab 0 (.int .i64 3)) 1 (.int .i64 0)) 2 (.string dtx)) 3 (.int .i64 0)
        have mv:Below (w.heap.size+1) (w.alloc (.cells #[.int .i64 (l:Int),.string sg,.int .i64 r,.string op,.int .i64 z,.bool wt,.slice no nd.length nc] 158)) ((((w2.setCell ⟨w.heap.size+1,0,none⟩ (.int .i64 3)).setCell ⟨w.heap.size+1,1,none⟩ (.int .i64 0)).setCell ⟨w.heap.size+1,2,none⟩ (.string dtx)).setCell ⟨w.heap.size+1,3,none⟩ (.int .i64 0)):=(((hu2.setCell (Nat.le_refl _) _).setCell (Nat.le_refl _) _).setCell (Nat.le_refl _) _).setCell (Nat.le_refl _) _
        clear ab ab0 ab1 ab2 ab3 ay0 ay1 ay2 ay3 abz)
     | (have hab:=heap_alloc_new w2 (.cells #[.int .i64 3,.int .i64 0,.string dtx,.int .i64 0] 177)
        have mv:=hu2.alloc (by have:=hu2.size;rw[World.size_alloc]at this;exact this) (.cells #[.int .i64 3,.int .i64 0,.string dtx,.int .i64 0] 177))
    have d2:=ag hab 2
    have d3:=ag hab 3
    have dz:=af hab
    have hgx:=(mv.block w.heap.size (Nat.lt_succ_self _)).trans (ae nQ)
    have g0:=ag hgx 0
    have gz9:=af hgx
    simp only[List.getElem?_toArray,List.getElem?_cons_zero,List.getElem?_cons_succ,List.setIfInBounds_toArray,List.set_cons_zero,List.set_cons_succ]at d2 d3 g0
    have pW:=hide ((ae aT).trans (mv.mono (Nat.le_succ _)))
    clear hab mv hgx hu2 hb2
    go_wp2_with fail
    refine(ae ILV _ (ae pW)).mono ?_
    rintro y w10 ⟨rfl,po',pc',m10,fr10⟩
    have VJ:=hide m10
    have VK:=hide fr10
    clear m10 fr10
    go_wp2_with fail
    go_ret
    exact Or.inr (Or.inr (Or.inl ⟨ae jw,by rw[ae fP,←ae Ed,ae HQ,ae HU],rfl,po',pc',ae VJ,(aj.of_below (ae pW)).trans (ae VK)⟩))
  ·have u1:(dtx.toList == [116,114,117,101])=false:=by simpa using q1
   have HQ:=hide q1
   clear q1 uL
   go_enter Tryz.func84,Tryz.ntmps84
   go_wp2_with fail
   go_region_with (go_at_call 99;refine(ae IL _ (by first | exact Below.refl _ _ | exact(Below.refl _ _).drew | exact((Below.refl _ _).alloc (by simp) _).drew | exact(Below.refl _ _).alloc (by simp) _)).mono ?_;rintro y w2 ⟨rfl,hb2,hu2⟩;first | (have ab:=(hb2.block (w.heap.size+1) (by simp)).trans (ae Lv);have ab0:=ag ab 0;have ab1:=ag ab 1;have ab2:=ag ab 2;have ab3:=ag ab 3;have ay0:=aq ab 0;have ay1:=aq ab 1;have ay2:=aq ab 2;have ay3:=aq ab 3;have abz:=af ab;simp only[List.getElem?_toArray,List.getElem?_cons_zero,List.getElem?_cons_succ]at ab0 ab1 ab2 ab3) | skip)
   all_goals
    first
     | (have hab:=au (au (au (au ab 0 (.int .i64 3)) 1 (.int .i64 0)) 2 (.string dtx)) 3 (.int .i64 (dm:Int))
        have mv:Below (w.heap.size+1) (w.alloc (.cells #[.int .i64 (l:Int),.string sg,.int .i64 r,.string op,.int .i64 z,.bool wt,.slice no nd.length nc] 158)) ((((w2.setCell ⟨w.heap.size+1,0,none⟩ (.int .i64 3)).setCell ⟨w.heap.size+1,1,none⟩ (.int .i64 0)).setCell ⟨w.heap.size+1,2,none⟩ (.string dtx)).setCell ⟨w.heap.size+1,3,none⟩ (.int .i64 (dm:Int))):=(((hu2.setCell (Nat.le_refl _) _).setCell (Nat.le_refl _) _).setCell (Nat.le_refl _) _).setCell (Nat.le_refl _) _
        clear ab ab0 ab1 ab2 ab3 ay0 ay1 ay2 ay3 abz)
     | (have hab:=heap_alloc_new w2 (.cells #[.int .i64 3,.int .i64 0,.string dtx,.int .i64 (dm:Int)] 177)
        have mv:=hu2.alloc (by have:=hu2.size;rw[World.size_alloc]at this;exact this) (.cells #[.int .i64 3,.int .i64 0,.string dtx,.int .i64 (dm:Int)] 177))
    have d2:=ag hab 2
    have d3:=ag hab 3
    have dz:=af hab
    have hgx:=(mv.block w.heap.size (Nat.lt_succ_self _)).trans (ae nQ)
    have g0:=ag hgx 0
    have gz9:=af hgx
    simp only[List.getElem?_toArray,List.getElem?_cons_zero,List.getElem?_cons_succ,List.setIfInBounds_toArray,List.set_cons_zero,List.set_cons_succ]at d2 d3 g0
    have pW:=hide ((ae aT).trans (mv.mono (Nat.le_succ _)))
    clear hab mv hgx hu2 hb2
    go_wp2_with fail
    refine(ae ICA _ (ae pW)).mono ?_
    intro y w10 h10
    obtain⟨z10,rfl⟩:=h10.int
    have xE:=hide h10
    clear h10
    go_wp2_with fail
    go_ret
    exact Or.inr (Or.inr (Or.inr ⟨ae jw,tx,us,ae fP,(fun q=>ae HQ (by rw[ae Ed];exact q.1)),ae xE⟩))
  ·have u1:(dtx.toList == [116,114,117,101])=true:=by rw[q1];rfl
   have u2:((dm:Int) == 0)=false:=by simp;omega
   have HQ:=hide q2
   clear q1 q2 uL
   go_enter Tryz.func84,Tryz.ntmps84
   go_wp2_with fail
   go_region_with (go_at_call 99;refine(ae IL _ (by first | exact Below.refl _ _ | exact(Below.refl _ _).drew | exact((Below.refl _ _).alloc (by simp) _).drew | exact(Below.refl _ _).alloc (by simp) _)).mono ?_;rintro y w2 ⟨rfl,hb2,hu2⟩;first | (have ab:=(hb2.block (w.heap.size+1) (by simp)).trans (ae Lv);have ab0:=ag ab 0;have ab1:=ag ab 1;have ab2:=ag ab 2;have ab3:=ag ab 3;have ay0:=aq ab 0;have ay1:=aq ab 1;have ay2:=aq ab 2;have ay3:=aq ab 3;have abz:=af ab;simp only[List.getElem?_toArray,List.getElem?_cons_zero,List.getElem?_cons_succ]at ab0 ab1 ab2 ab3) | skip)
   all_goals
    first
     | (have hab:=au (au (au (au ab 0 (.int .i64 3)) 1 (.int .i64 0)) 2 (.string dtx)) 3 (.int .i64 (dm:Int))
        have mv:Below (w.heap.size+1) (w.alloc (.cells #[.int .i64 (l:Int),.string sg,.int .i64 r,.string op,.int .i64 z,.bool wt,.slice no nd.length nc] 158)) ((((w2.setCell ⟨w.heap.size+1,0,none⟩ (.int .i64 3)).setCell ⟨w.heap.size+1,1,none⟩ (.int .i64 0)).setCell ⟨w.heap.size+1,2,none⟩ (.string dtx)).setCell ⟨w.heap.size+1,3,none⟩ (.int .i64 (dm:Int))):=(((hu2.setCell (Nat.le_refl _) _).setCell (Nat.le_refl _) _).setCell (Nat.le_refl _) _).setCell (Nat.le_refl _) _
        clear ab ab0 ab1 ab2 ab3 ay0 ay1 ay2 ay3 abz)
     | (have hab:=heap_alloc_new w2 (.cells #[.int .i64 3,.int .i64 0,.string dtx,.int .i64 (dm:Int)] 177)
        have mv:=hu2.alloc (by have:=hu2.size;rw[World.size_alloc]at this;exact this) (.cells #[.int .i64 3,.int .i64 0,.string dtx,.int .i64 (dm:Int)] 177))
    have d2:=ag hab 2
    have d3:=ag hab 3
    have dz:=af hab
    have hgx:=(mv.block w.heap.size (Nat.lt_succ_self _)).trans (ae nQ)
    have g0:=ag hgx 0
    have gz9:=af hgx
    simp only[List.getElem?_toArray,List.getElem?_cons_zero,List.getElem?_cons_succ,List.setIfInBounds_toArray,List.set_cons_zero,List.set_cons_succ]at d2 d3 g0
    have pW:=hide ((ae aT).trans (mv.mono (Nat.le_succ _)))
    clear hab mv hgx hu2 hb2
    go_wp2_with fail
    refine(ae ICA _ (ae pW)).mono ?_
    intro y w10 h10
    obtain⟨z10,rfl⟩:=h10.int
    have xE:=hide h10
    clear h10
    go_wp2_with fail
    go_ret
    exact Or.inr (Or.inr (Or.inr ⟨ae jw,tx,us,ae fP,(fun q=>ae HQ (by rw[←ae MK,q.2];rfl)),ae xE⟩))
 ·have hne:g.sg.toList≠[]:=by rw[aU];simp
  obtain⟨rn,hr,hrl⟩:=hW.rr hne
  have IE:=hide (fun W (hu:Below w.heap.size w W)=>(xu W mb cs D nO nC fr TT P G (some ⟨pg,0,none⟩) pc i g.l rn (hm.below hu) (har.below hu) fu hW.ll hrl (by omega) hGl xe).mono (fun e w' q=>q.from hu))
  have t1:(g.sg.toList == [61])=true:=by rw[aU];rfl
  have jw:=hide aU
  have aT:=hide hb0
  have ve:=hide hrl
  clear hm har fu hP h0 hcl mI fQ hW hvb hsz hp1 hp2 hD hb0 dC hG0 fc hne aU hrl
  obtain⟨l,sg,r,op,z,wt,no,nc,nd⟩:=g
  dsimp only at*
  subst hr
  go_enter Tryz.func84,Tryz.ntmps84
  go_wp2_with fail
  refine(ae IE _ (ae aT)).mono ?_
  intro y w10 h10
  obtain⟨z10,rfl⟩:=h10.int
  have xE:=hide h10
  clear h10
  go_wp2_with fail
  go_ret
  exact Or.inl ⟨ae jw,rn,rfl,ae ve,ae xE⟩
 ·have hne:g.sg.toList≠[]:=by rw[aU];simp
  obtain⟨rn,hr,hrl⟩:=hW.rr hne
  obtain⟨d0,hd0,_,hd0m,_⟩:=hG0.node hrl
  obtain⟨zn,e0,hzz,he0m⟩:∃(zn:Nat) (e0:Ng),(g.op.toList≠[]→g.z=(zn:Int)∧zn<D.length∧D[fr zn]?=some e0)∧e0∈D:=by
   by_cases q:g.op.toList=[]
   ·exact⟨0,d0,fun h=>absurd q h,hd0m⟩
   ·obtain⟨zn,hz,hzl⟩:=hW.zz q
    obtain⟨e0,Xq,_,he0m,_⟩:=hG0.node hzl
    exact⟨zn,e0,fun _=>⟨hz,hzl,Xq⟩,he0m⟩
  have IE:=hide (fun W (hu:Below w.heap.size w W)=>(FH W mb cs D nO nC fr TT P G (some ⟨pg,0,none⟩) pc i g rn zn d0 e0 (hm.below hu) (har.below hu) (fun q hq=>hP q (Nat.le_trans hu.size hq)) fu hi fQ hW.ll hr hrl hW.z0 hzz hd0 (hvb _ hd0m) (hvb _ he0m) (by omega) hGl xe).mono (fun e w' q=>q.from hu))
  have t1:(g.sg.toList == [61])=false:=by rw[aU];rfl
  have t2:(g.sg.toList == [58,61])=true:=by rw[aU];rfl
  have jw:=hide aU
  have aT:=hide hb0
  have ve:=hide hrl
  have HR:=hide hr
  have Xr:=hide hd0
  have Xt:=hide hzz
  generalize hw2:Za.eN g.op.toList (TT rn) (TT zn)=W2 at*
  have PW:=hide hw2
  clear hw2
  generalize hval:kM g.op.toList d0 e0=val at*
  have VL:=hide hval
  clear hm har fu hP h0 hcl mI fQ hW hvb hsz hp1 hp2 hD hb0 dC hG0 fc hne aU hrl hr hd0 hzz hd0m he0m hval
  go_enter Tryz.func84,Tryz.ntmps84
  go_wp2_with fail
  refine(ae IE _ (ae aT)).mono ?_
  intro y w10 h10
  obtain⟨z10,rfl⟩:=h10.int
  have xE:=hide h10
  clear h10
  go_wp2_with fail
  go_ret
  exact Or.inr (Or.inl ⟨ae jw,rn,zn,d0,e0,ae HR,ae ve,ae Xr,ae Xt,by rw[ae VL,ae PW];exact ae xE⟩)
def eI (op:List UInt8) (u v:Za.U):Option Int:=match Za.isNum u with
 | some a=>if op=[]then some a else(match Za.isNum v with
  | some b=>if -1000000000≤arith op a b∧arith op a b≤1000000000 then some (arith op a b)else none
  | none=>none)
 | none=>none
structure bX where
 D:List Ng
 fr:Nat→Nat
 T:Nat→Za.U
 G:List Gl
def VM (S S':bX) (i:Nat) (g:Gl) (z:Int):Prop:=g.sg.toList=[61]∧z=0∧∃(rn:Nat) (σ:Za.Vr→Za.U),g.r=(rn:Int)∧rn<S.D.length∧cI S.D S'.D∧Za.Made (aV S.D) S.fr S'.fr S.T S'.T (S.T g.l) (S.T rn) σ∧S'.G=S.G.eraseIdx i
def VN (S S':bX) (i:Nat) (g:Gl) (z:Int):Prop:=g.sg.toList=[58,61]∧z= -1∧∃(rn zn:Nat) (wo:Option Addr) (wc:Nat),g.r=(rn:Int)∧rn<S.D.length∧(g.op.toList≠[]→g.z=(zn:Int)∧zn<S.D.length)∧(Za.eN g.op.toList (S.T rn) (S.T zn)).wt≠[]∧S'.D=S.D∧S'.fr=S.fr∧S'.T=S.T∧S'.G=S.G.set i {g with wt:=true,no:=wo,nc:=wc,nd:=(Za.eN g.op.toList (S.T rn) (S.T zn)).wt}
def VO (S S':bX) (i:Nat) (g:Gl) (z:Int):Prop:=g.sg.toList=[58,61]∧z=0∧∃(rn zn:Nat) (x:Int) (T2:Nat→Za.U) (σ:Za.Vr→Za.U),g.r=(rn:Int)∧rn<S.D.length∧(g.op.toList≠[]→g.z=(zn:Int)∧zn<S.D.length)∧(Za.eN g.op.toList (S.T rn) (S.T zn)).wt=[]∧eI g.op.toList (S.T rn) (S.T zn)=some x∧Za.dw (aV (S.D++[gm x S.D.length])) S.fr T2∧(∀m,m<S.D.length→T2 m=S.T m)∧T2 S.D.length= .n 3 [] x []∧cI (S.D++[gm x S.D.length]) S'.D∧Za.Made (aV (S.D++[gm x S.D.length])) S.fr S'.fr T2 S'.T (T2 g.l) (T2 S.D.length) σ∧S'.G=S.G.eraseIdx i
def VP (S S':bX) (i:Nat) (g:Gl) (z:Int):Prop:=g.sg.toList=[]∧z=0∧S.T g.l= .n 1 [116,114,117,101] 0 []∧S'.D=S.D∧S'.fr=S.fr∧S'.T=S.T∧S'.G=S.G.eraseIdx i
def VQ (cls:List Za.aG) (S S':bX) (i:Nat) (g:Gl) (p z:Int):Prop:=g.sg.toList=[]∧∃(tx:List UInt8) (us:List Za.U),S.T g.l= .n 1 tx 0 us∧¬(tx=[116,114,117,101]∧us=[])∧∃(rs:List (Nat×List Nat)) (c:Za.aG) (V F:List Nat) (T2:Nat→Za.U) (ws:List Nat) (E:List Ng) (F':List Nat) (Gn:List Gl),rs.length<(Za.bL cls tx us.length cls.length).length∧nu cls (Za.bL cls tx us.length cls.length) (dh p (Za.bL cls tx us.length cls.length).length) (S.T g.l) S.D.length rs∧cls[fV (Za.bL cls tx us.length cls.length) (dh p (Za.bL cls tx us.length cls.length).length) rs.length]?=some c∧qi (S.T g.l) S.D.length c V F T2 1 ws∧z=((fV (Za.bL cls tx us.length cls.length) (dh p (Za.bL cls tx us.length cls.length).length) rs.length+1:Nat):Int)∧S'.D=S.D++E∧S'.fr=S.fr∧(∀m,m<S.D.length→S'.T m=S.T m)∧(∀m∈V++F,S'.T m=T2 m)∧dB S.D.length E∧(V++F++F').length=(Za.NG c).length∧(∀f∈F++F',S.D.length≤f∧S'.T f= .v ([],f))∧(F++F').Pairwise (·<·)∧(∀m∈V++F++F',m<S'.D.length)∧bK (mq S'.T S'.D.length (cH S'.T (V++F++F') (Za.NG c))) c.goals Gn∧S'.G=S.G.eraseIdx i++Gn
def VR (cls:List Za.aG) (S S':bX) (i:Nat) (g:Gl) (p z:Int):Prop:=g.sg.toList=[]∧z= -1∧∃(tx:List UInt8) (us:List Za.U),S.T g.l= .n 1 tx 0 us∧¬(tx=[116,114,117,101]∧us=[])∧∃(rs:List (Nat×List Nat)) (E:List Ng) (oo:Option Addr) (oc:Nat),rs.length=(Za.bL cls tx us.length cls.length).length∧nu cls (Za.bL cls tx us.length cls.length) (dh p (Za.bL cls tx us.length cls.length).length) (S.T g.l) S.D.length rs∧Za.lW rs=true∧S'.D=S.D++E∧S'.fr=S.fr∧(∀m,m<S.D.length→S'.T m=S.T m)∧dB S.D.length E∧S'.G=S.G.set i {g with wt:=true,no:=oo,nc:=oc,nd:=Za.cf rs}
def Q9 (cls:List Za.aG) (S S':bX) (i:Nat) (p z:Int):Prop:=∃g,S.G[i]?=some g∧(VM S S' i g z∨VN S S' i g z∨VO S S' i g z∨VP S S' i g z∨VQ cls S S' i g p z∨VR cls S S' i g p z)
structure Nf (S:bX):Prop where
 sto:Za.dw (aV S.D) S.fr S.T
 ok:bR S.D S.fr
 gw:∀g∈S.G,lX S.T S.D.length g
 nl:∀g∈S.G,∀v∈g.nd,v<S.D.length
def Cl (cls:List Za.aG) (S S':bX) (i:Nat) (p z:Int):Prop:=Q9 cls S S' i p z∧Nf S'
def Jd (cls:List Za.aG) (S:bX) (i:Nat) (p en:Int):Prop:=∃g,S.G[i]?=some g∧
 ((g.sg.toList=[61]∧en=4∧∃rn:Nat,g.r=(rn:Int)∧rn<S.D.length∧∀θ,Za.sub θ (S.T g.l)≠Za.sub θ (S.T rn))∨
  (g.sg.toList=[58,61]∧∃rn zn:Nat,g.r=(rn:Int)∧rn<S.D.length∧(g.op.toList≠[]→g.z=(zn:Int)∧zn<S.D.length)∧(Za.eN g.op.toList (S.T rn) (S.T zn)).wt=[]∧((en=5∧eI g.op.toList (S.T rn) (S.T zn)=none)∨(en=4∧∃x,eI g.op.toList (S.T rn) (S.T zn)=some x∧∀θ,Za.sub θ (S.T g.l)≠ .n 3 [] x [])))∨
  (g.sg.toList=[]∧en=4∧∃(tx:List UInt8) (us:List Za.U),S.T g.l= .n 1 tx 0 us∧¬(tx=[116,114,117,101]∧us=[])∧∃rs:List (Nat×List Nat),rs.length=(Za.bL cls tx us.length cls.length).length∧nu cls (Za.bL cls tx us.length cls.length) (dh p (Za.bL cls tx us.length cls.length).length) (S.T g.l) S.D.length rs∧Za.lW rs=false))
def pX (clo:Option Addr) (cn clc:Nat) (nO:Option Addr) (dn nC:Nat) (vo:Option Addr) (vn vc:Nat) (po:Option Addr) (gn pc:Nat) (lo:Option Addr) (ln lc:Nat) (en:Int):Array Value:=#[.slice clo cn clc,.slice nO dn nC,.slice vo vn vc,.slice po gn pc,.slice lo ln lc,.int .i64 en]
structure dM (w:World) (mb:Nat) (cls:List Za.aG) (clo:Option Addr) (clc:Nat) (V:List Nat) (vo:Option Addr) (vc:Nat) (L:List Int) (lo:Option Addr) (lc:Nat) (S:bX) (nO:Option Addr) (nC:Nat) (po:Option Addr) (pc:Nat):Prop where
 mc:cG w mb (pX clo cls.length clc nO S.D.length nC vo V.length vc po S.G.length pc lo L.length lc 0) S.D nO nC S.fr S.G po pc
 to:Za.dw (aV S.D) S.fr S.T
 ar:aW w S.D (fun g=>¬rowOf lo g)
 vr:w.ownsRow 0 3 1 (.slice vo V.length vc) V.length (V.map aI)
 vl:∀v∈V,v<S.D.length
 lg:w.ownsRow 0 3 1 (.slice lo L.length lc) L.length (L.map fO)
 lv:∀k,rowOf lo k→¬rowOf vo k
 ln:∀g∈S.G,∀k,rowOf g.no k→¬rowOf lo k
 cl:cP w clo cls.length cls
 vb:∀d∈S.D,-1000000000≤d.val∧d.val≤1000000000
 gw:∀g∈S.G,lX S.T S.D.length g
 tb:∀d∈S.D,d.tx.size≤240
def kD (w:World) (mb:Nat) (L:List Int) (lo:Option Addr) (lc:Nat) (en:Int):Prop:=∃cs:Array Value,w.heap[mb]?=some (.cells cs 91 (0,0))∧cs.size=6∧cs[4]?=some (.slice lo L.length lc)∧cs[5]?=some (.int .i64 en)∧w.ownsRow 0 3 1 (.slice lo L.length lc) L.length (L.map fO)
theorem Ra {D:List Ng} {fr:Nat→Nat} {T:Nat→Za.U} {w:World} {mb:Nat} {cs:Array Value} {nO:Option Addr} {nC:Nat} {P:Nat→Prop} (hG:fW w w.heap.size mb 1 cs 91 D nO nC fr T P) {op:List UInt8} {rn zn:Nat} {d e:Ng} (hr:rn<D.length) (hd:D[fr rn]?=some d) (hz:op≠[]→zn<D.length∧D[fr zn]?=some e):kM op d e=eI op (T rn) (T zn):=by
 have key:∀{n:Nat} {d:Ng},n<D.length→D[fr n]?=some d→Za.isNum (T n)=if d.k=2 then some d.val else none:=fun {n d} hn hd=>by
  obtain⟨d',h1,h2,h3,h4,h5⟩:=hG.node hn
  rw[hd]at h1
  cases h1
  by_cases k1:d.k=1
  ·rw[h4 k1,if_neg (by omega)];rfl
  ·obtain⟨k,tx,num,hl,e⟩:=h5 k1
   rw[e]
   unfold eQ at hl
   rw[if_neg k1]at hl
   by_cases k2:d.k=2
   ·rw[if_pos k2]at hl⊢
    injection hl with hl
    injection hl with u1 hl
    injection hl with u2 u3
    subst u1 u3
    rfl
   ·rw[if_neg k2]at hl⊢
    injection hl with hl
    injection hl with u1 hl
    subst u1
    rfl
 unfold kM eI
 rw[key hr hd]
 by_cases k2:d.k=2
 ·rw[if_pos k2,if_pos k2]
  dsimp only
  by_cases ho:op=[]
  ·rw[if_pos ho,if_pos ho]
  ·rw[if_neg ho,if_neg ho,key (hz ho).1 (hz ho).2]
   by_cases e2:e.k=2
   ·rw[if_pos e2,if_pos e2]
   ·rw[if_neg e2,if_neg e2]
 ·rw[if_neg k2,if_neg k2]
end Go.Proofs.YthfjnfcekeknlaaGreatDoor
namespace Za
structure iN (x:aC):Prop where
 ok:td x
 sg:x.sign=[]∨x.sign=[61]∨x.sign=[58,61]
 nm:x.sign=[]→x.left.kind=2
 oe:x.op≠[]→x.sign=[58,61]
 ol:x.op.length≤2
end Za
namespace Go.Proofs.YthfjnfcekeknlaaGreatDoor
open Go.RowKit
theorem mq.gw {T:Nat→Za.U} {len:Nat} {η:List UInt8→Za.U} {x:Za.aC} {g:Gl} (h:mq T len η x g) (hx:Za.iN x):lX T len g:=by
 refine⟨h.ll,by rw[h.sg];exact hx.sg,fun q=> ?_,fun q=>h.r0 (by rw[←h.sg];exact q),fun q=> ?_,fun q=>h.z0 (by rw[←h.op];exact q),fun q=> ?_,fun q=> ?_,by rw[←Za.ng,h.op];exact hx.ol⟩
 ·rw[h.sg]at q
  rw[h.tl]
  have hk:=hx.nm q
  refine⟨x.left.text.toList,x.left.args.map (Za.bA η 7),?_⟩
  unfold Za.bA
  rw[if_neg (by omega),if_neg (by omega)]
 ·rw[h.sg]at q
  obtain⟨r,hr,_⟩:=hx.ok.r1 q
  obtain⟨n,h1,h2,_⟩:=h.r1 r hr
  exact⟨n,h1,h2⟩
 ·rw[h.op]at q
  obtain⟨r,hr,_⟩:=hx.ok.z1 q
  obtain⟨n,h1,h2,_⟩:=h.z1 r hr
  exact⟨n,h1,h2⟩
 ·rw[h.op]at q
  rw[h.sg]
  exact hx.oe q
theorem lX.sub {T T':Nat→Za.U} {len len':Nat} {σ:Za.Vr→Za.U} {g:Gl} (h:lX T len g) (ht:∀n,n<len→T' n=Za.sub σ (T n)) (hl:len≤len'):lX T' len' g:=by
 refine⟨Nat.lt_of_lt_of_le h.ll hl,h.sg,fun q=> ?_,h.r0,fun q=> ?_,h.z0,fun q=> ?_,h.oe,h.ol⟩
 ·obtain⟨tx,us,e⟩:=h.nm q
  exact⟨tx,us.map (Za.sub σ),by rw[ht _ h.ll,e,Za.dI]⟩
 ·obtain⟨n,h1,h2⟩:=h.rr q
  exact⟨n,h1,Nat.lt_of_lt_of_le h2 hl⟩
 ·obtain⟨n,h1,h2⟩:=h.zz q
  exact⟨n,h1,Nat.lt_of_lt_of_le h2 hl⟩
theorem lX.more {T T':Nat→Za.U} {len len':Nat} {g:Gl} (h:lX T len g) (ht:∀n,n<len→T' n=T n) (hl:len≤len'):lX T' len' g:=by
 refine⟨Nat.lt_of_lt_of_le h.ll hl,h.sg,fun q=> ?_,h.r0,fun q=> ?_,h.z0,fun q=> ?_,h.oe,h.ol⟩
 ·obtain⟨tx,us,e⟩:=h.nm q
  exact⟨tx,us,by rw[ht _ h.ll,e]⟩
 ·obtain⟨n,h1,h2⟩:=h.rr q
  exact⟨n,h1,Nat.lt_of_lt_of_le h2 hl⟩
 ·obtain⟨n,h1,h2⟩:=h.zz q
  exact⟨n,h1,Nat.lt_of_lt_of_le h2 hl⟩
theorem cI.val {D D':List Ng} (h:cI D D') (hv:∀d∈D,-1000000000≤d.val∧d.val≤1000000000):∀d∈D',-1000000000≤d.val∧d.val≤1000000000:=fun d hd=>by
 obtain⟨n,hn,rfl⟩:=List.getElem_of_mem hd
 have hn':n<D.length:=by rw[←h.len];exact hn
 have e:=h.at hn' hn
 have e2:(ig D[n]).val=(ig D'[n]).val:=congrArg Ng.val e
 change D[n].val=D'[n].val at e2
 rw[←e2]
 exact hv _ (List.getElem_mem hn')
theorem cI.Eh {D D':List Ng} (h:cI D D') (hv:∀d∈D,d.tx.size≤240):∀d∈D',d.tx.size≤240:=fun d hd=>by
 obtain⟨n,hn,rfl⟩:=List.getElem_of_mem hd
 have hn':n<D.length:=by rw[←h.len];exact hn
 have e:=h.at hn' hn
 have e2:(ig D[n]).tx=(ig D'[n]).tx:=congrArg Ng.tx e
 change D[n].tx=D'[n].tx at e2
 rw[←e2]
 exact hv _ (List.getElem_mem hn')
theorem dB.Eh {b:Nat} {D E:List Ng} (h:dB b E) (hv:∀d∈D,d.tx.size≤240):∀d∈D++E,d.tx.size≤240:=fun d hd=>by
 rcases List.mem_append.1 hd with q | q
 ·exact hv d q
 ·obtain⟨i,hi,rfl⟩:=List.getElem_of_mem q
  exact(h i _ (List.getElem?_eq_getElem hi)).2.2.2.1
theorem dB.val {b:Nat} {D E:List Ng} (h:dB b E) (hv:∀d∈D,-1000000000≤d.val∧d.val≤1000000000):∀d∈D++E,-1000000000≤d.val∧d.val≤1000000000:=fun d hd=>by
 rcases List.mem_append.1 hd with q | q
 ·exact hv d q
 ·obtain⟨i,hi,rfl⟩:=List.getElem_of_mem q
  obtain⟨_,_,_,_,h1,h2⟩:=h i _ (List.getElem?_eq_getElem hi)
  omega
section
variable {w:World} {mb:Nat} {cls:List Za.aG} {clo:Option Addr} {clc:Nat} {V:List Nat} {vo:Option Addr} {vc:Nat} {L:List Int} {lo:Option Addr} {lc:Nat} {S:bX} {nO:Option Addr} {nC:Nat} {po:Option Addr} {pc:Nat}
theorem dM.no (h:dM w mb cls clo clc V vo vc L lo lc S nO nC po pc) {k:Nat} {ys:Array Value} {Y:TypeId} (hk:w.heap[k]?=some (.cells ys Y (0,0))) (h1:Y≠91) (h2:Y≠180) (h3:Y≠158):¬(k=mb∨rowOf nO k∨rowOf po k):=by
 rintro(e | e | e)
 ·rw[e,h.mc.st.blk]at hk
  simp only[Option.some.injEq,Obj.cells.injEq]at hk
  exact h1 hk.2.1.symm
 ·exact aN h.mc.st.own hk h2 e
 ·exact aN h.mc.pool hk h3 e
theorem dM.row (h:dM w mb cls clo clc V vo vc L lo lc S nO nC po pc) {w':World} {R R':Nat→Prop} (hf:aj R R' w w') (hR:∀k,R k→k=mb∨rowOf nO k∨rowOf po k) {b:Nat} {o:Option Addr} {n cap:Nat} {xs:List Value} (ho:w.ownsRow b 3 1 (.slice o n cap) n xs):w'.ownsRow b 3 1 (.slice o n cap) n xs:=ah ho fun g q=>by
 obtain⟨cur,hc⟩:=aH ho (aD q)
 exact hf.block g (af hc) fun r=>h.no hc (by decide) (by decide) (by decide) (hR g r)
theorem dM.args (h:dM w mb cls clo clc V vo vc L lo lc S nO nC po pc) {w':World} {R R':Nat→Prop} (hf:aj R R' w w') (hR:∀k,R k→k=mb∨rowOf nO k∨rowOf po k):aW w' S.D (fun g=>¬rowOf lo g):=h.ar.keep fun g _ hp hg=>⟨(hf.block g (af hg) fun r=>h.no hg (by decide) (by decide) (by decide) (hR g r)).trans hg,hp⟩
theorem dM.put (h:dM w mb cls clo clc V vo vc L lo lc S nO nC po pc) {w':World} {R R':Nat→Prop} (hf:aj R R' w w') (hR:∀k,R k→k=mb∨rowOf nO k∨rowOf po k) {S':bX} {nO':Option Addr} {nC':Nat} {po':Option Addr} {pc':Nat} (hm:cG w' mb (pX clo cls.length clc nO' S'.D.length nC' vo V.length vc po' S'.G.length pc' lo L.length lc 0) S'.D nO' nC' S'.fr S'.G po' pc') (ht:Za.dw (aV S'.D) S'.fr S'.T) (ha:aW w' S'.D (fun g=>¬rowOf lo g)) (hl:S.D.length≤S'.D.length) (hn:∀g∈S'.G,g∈S.G∨∀k,rowOf g.no k→w.heap.size≤k) (hv:∀d∈S'.D,-1000000000≤d.val∧d.val≤1000000000) (hg:∀g∈S'.G,lX S'.T S'.D.length g) (Hs:∀d∈S'.D,d.tx.size≤240):dM w' mb cls clo clc V vo vc L lo lc S' nO' nC' po' pc':=by
 refine⟨hm,ht,ha,h.row hf hR h.vr,fun v q=>Nat.lt_of_lt_of_le (h.vl v q) hl,h.row hf hR h.lg,h.lv,fun g q k r s=> ?_,?_,hv,hg,Hs⟩
 ·rcases hn g q with e | e
  ·exact h.ln g e k r s
  ·have:=e k r
   have:=(bY h.lg s).2
   omega
 ·exact(dR.lI hf fun k ys Y hk hY r=>h.no hk (by rcases hY with e | e | e<;>(rw[e];decide)) (by rcases hY with e | e | e<;>(rw[e];decide)) (by rcases hY with e | e | e<;>(rw[e];decide)) (hR k r)).cls h.cl
theorem dM.fail (h:dM w mb cls clo clc V vo vc L lo lc S nO nC po pc) {w':World} {R R':Nat→Prop} (hf:aj R R' w w') (hR:∀k,R k→k=mb∨rowOf nO k∨rowOf po k) {cs:Array Value} {en:Int} (hb:w'.heap[mb]?=some (.cells (cs.setIfInBounds 5 (.int .i64 en)) 91 (0,0))) (h6:cs.size=6) (h4:cs[4]?=some (.slice lo L.length lc)):kD w' mb L lo lc en:=
 ⟨_,hb,by simpa using h6,by rw[Array.getElem?_setIfInBounds_ne (by omega)];exact h4,by rw[Array.getElem?_setIfInBounds_self,if_pos (by omega)],h.row hf hR h.lg⟩
end
end Go.Proofs.YthfjnfcekeknlaaGreatDoor
namespace Go.Proofs.YthfjnfcekeknlaaGreatDoor
open Go.RowKit
theorem Am (clo:Option Addr) (cn clc:Nat) (nO:Option Addr) (dn nC:Nat) (vo:Option Addr) (vn vc:Nat) (po:Option Addr) (gn pc:Nat) (lo:Option Addr) (ln lc:Nat) (en:Int) (po':Option Addr) (gn' pc':Nat):(pX clo cn clc nO dn nC vo vn vc po gn pc lo ln lc en).setIfInBounds 3 (.slice po' gn' pc')=pX clo cn clc nO dn nC vo vn vc po' gn' pc' lo ln lc en:=rfl
theorem FT (clo:Option Addr) (cn clc:Nat) (nO:Option Addr) (dn nC:Nat) (vo:Option Addr) (vn vc:Nat) (po:Option Addr) (gn pc:Nat) (lo:Option Addr) (ln lc:Nat) (en:Int) (nO':Option Addr) (dn' nC':Nat):(pX clo cn clc nO dn nC vo vn vc po gn pc lo ln lc en).setIfInBounds 1 (.slice nO' dn' nC')=pX clo cn clc nO' dn' nC' vo vn vc po gn pc lo ln lc en:=rfl
theorem mem_erase {G:List Gl} {i:Nat} {g:Gl} (h:g∈G.eraseIdx i):g∈G:=List.mem_of_mem_eraseIdx h
theorem Dy (θ:Za.Vr→Za.U) (x:Int):Za.sub θ (.n 3 [] x [])= .n 3 [] x []:=by rw[Za.dI];rfl
theorem FU {op:List UInt8} {u v:Za.U} {x:Int} (h:eI op u v=some x) (hu:∀a,Za.isNum u=some a→-1000000000≤a∧a≤1000000000): -1000000000≤x∧x≤1000000000:=by
 unfold eI at h
 cases hq:Za.isNum u with
 | none=>rw[hq]at h;cases h
 | some a=>
  rw[hq]at h
  dsimp only at h
  split at h
  ·cases h;exact hu x hq
  ·split at h
   ·split at h
    ·rename_i b _ hr
     cases h
     exact hr
    ·cases h
   ·cases h
def VU (mb:Nat) (cls:List Za.aG) (clo:Option Addr) (clc:Nat) (V:List Nat) (vo:Option Addr) (vc:Nat) (L:List Int) (lo:Option Addr) (lc:Nat) (S:bX) (nO po:Option Addr) (i:Nat) (p:Int) (w:World) (e:Ending) (w':World):Prop:=
 (∃(z:Int) (S':bX) (nO':Option Addr) (nC':Nat) (po':Option Addr) (pc':Nat),e= .returned (.int .i64 z)∧Q9 cls S S' i p z∧dM w' mb cls clo clc V vo vc L lo lc S' nO' nC' po' pc'∧S'.D.length≤S.D.length+1100000∧S'.G.length≤S.G.length+6∧aj (fun k=>k=mb∨rowOf nO k∨rowOf po k) (fun k=>k=mb∨rowOf nO' k∨rowOf po' k) w w')∨
 (∃en:Int,e= .returned (.int .i64 (-2))∧Jd cls S i p en∧(en=4∨en=5)∧kD w' mb L lo lc en∧aj (fun k=>k=mb∨rowOf nO k∨rowOf po k) (fun k=>k=mb) w w')
theorem dM.Xu {w:World} {mb:Nat} {cls:List Za.aG} {clo:Option Addr} {clc:Nat} {V:List Nat} {vo:Option Addr} {vc:Nat} {L:List Int} {lo:Option Addr} {lc:Nat} {S:bX} {nO:Option Addr} {nC:Nat} {po:Option Addr} {pc:Nat} (h:dM w mb cls clo clc V vo vc L lo lc S nO nC po pc) {i:Nat} {g:Gl} (hi:i<S.G.length) (fQ:S.G[i]=g) (hgl:∀c∈cls,(∀x∈c.goals,Za.iN x)∧c.goals.length≤6) {p:Int} {e:Ending} {w':World} (hp:Q7 (fun g=>¬rowOf lo g) mb (pX clo cls.length clc nO S.D.length nC vo V.length vc po S.G.length pc lo L.length lc 0) S.D nO nC S.fr S.T S.G po pc cls i g p w e w'):VU mb cls clo clc V vo vc L lo lc S nO po i p w e w':=by
 have hgi?:S.G[i]?=some g:=by rw[List.getElem?_eq_getElem hi,fQ]
 have jN:g∈S.G:=by rw[←fQ];exact List.getElem_mem hi
 have hG0:fW w w.heap.size mb 1 _ 91 S.D nO nC S.fr S.T (fun g=>¬rowOf lo g):=⟨h.mc.st,h.mc.ok,h.to,h.ar,Nat.le_refl _⟩
 have hel:(S.G.eraseIdx i).length≤S.G.length+6:=Nat.le_trans (List.length_eraseIdx_le _ _) (by omega)
 have Rb:∀g':Gl,(S.G.set i g').length≤S.G.length+6:=fun g'=>by rw[List.length_set];omega
 rcases hp with⟨hs,rn,hr,hrl,hq⟩ | ⟨hs,rn,zn,d0,e0,hr,hrl,hd0,hzz,hq⟩ | ⟨hs,ht,rfl,po',pc',hm',hf'⟩ | ⟨hs,tx,us,htx,hnt,hq⟩
 ·rcases hq with⟨D',fr',σ,T',po',pc',rfl,hsm,o9,hm',hf'⟩ | ⟨hno,rfl,hb',hf'⟩
  ·left
   have hf2:aj (fun k=>k=mb∨rowOf nO k∨rowOf po k) (fun k=>k=mb∨rowOf nO k∨rowOf po' k) w w':=⟨hf'.os,hf'.tape,hf'.output,hf'.size,fun k hk q=>hf'.block k hk (fun r=>q (by rcases r with r | r;exact Or.inr (Or.inl r);exact Or.inl r)),fun k q=>by
    rcases hf'.row k (by rcases q with q | q | q;exact Or.inr (Or.inl q);exact Or.inl q;exact Or.inr (Or.inr q))with(r | r) | r
    ·exact Or.inl (Or.inr (Or.inl r))
    ·exact Or.inl (Or.inl r)
    ·exact Or.inr r⟩
   rw[Am,←hsm.len]at hm'
   refine⟨0,⟨D',fr',T',S.G.eraseIdx i⟩,nO,nC,po',pc',rfl,⟨g,hgi?,Or.inl ⟨hs,rfl,rn,σ,hr,hrl,hsm,o9,rfl⟩⟩,h.put hf2 (fun k q=>q) hm' (by rw[hsm.g];exact o9.sto) ((h.args hf2 (fun k q=>q)).same hsm) (Nat.le_of_eq hsm.len.symm) (fun x hx=>Or.inl (mem_erase hx)) (hsm.val h.vb) (fun x hx=>(h.gw x (mem_erase hx)).sub (fun n _=>o9.is n) (Nat.le_of_eq hsm.len.symm)) (hsm.Eh h.tb),by rw[hsm.len];omega,hel,hf2⟩
  ·right
   refine⟨4,rfl,⟨g,hgi?,Or.inl ⟨hs,rfl,rn,hr,hrl,hno⟩⟩,Or.inl rfl,h.fail hf' (fun k q=>by rcases q with q | q;exact Or.inr (Or.inl q);exact Or.inl q) hb' rfl rfl,⟨hf'.os,hf'.tape,hf'.output,hf'.size,fun k hk q=>hf'.block k hk (fun r=>q (by rcases r with r | r;exact Or.inr (Or.inl r);exact Or.inl r)),fun k q=>Or.inl (Or.inl q)⟩⟩
 ·have hval:=Ra hG0 (op:=g.op.toList) hrl hd0 (fun q=>⟨(hzz q).2.1,(hzz q).2.2⟩)
  have FV:g.op.toList≠[]→g.z=(zn:Int)∧zn<S.D.length:=fun q=>⟨(hzz q).1,(hzz q).2.1⟩
  rcases hq with⟨hw,wo,wc,rfl,hm',hf',hwo⟩ | ⟨hw,hv,rfl,hb',hf'⟩ | ⟨hw,x,no',nc',T2,w2,hv,ok2,to2,old2,tn2,hm2,ha2,hf2,hq⟩
  ·left
   have hf2:aj (fun k=>k=mb∨rowOf nO k∨rowOf po k) (fun k=>k=mb∨rowOf nO k∨rowOf po k) w w':=⟨hf'.os,hf'.tape,hf'.output,hf'.size,fun k hk q=>hf'.block k hk (fun r=>q (Or.inr (Or.inr r))),fun k q=>Or.inl q⟩
   have elS:S.G.length=(S.G.set i {g with wt:=true,no:=wo,nc:=wc,nd:=(Za.eN g.op.toList (S.T rn) (S.T zn)).wt}).length:=by simp
   rw[elS]at hm'
   refine⟨-1,⟨S.D,S.fr,S.T,S.G.set i {g with wt:=true,no:=wo,nc:=wc,nd:=(Za.eN g.op.toList (S.T rn) (S.T zn)).wt}⟩,nO,nC,po,pc,rfl,⟨g,hgi?,Or.inr (Or.inl ⟨hs,rfl,rn,zn,wo,wc,hr,hrl,FV,hw,rfl,rfl,rfl,rfl⟩)⟩,h.put hf2 (fun k q=>q) hm' h.to (h.args hf2 (fun k q=>q)) (Nat.le_refl _) (fun x hx=> ?_) h.vb (fun x hx=> ?_) h.tb,Nat.le_add_right _ _,Rb _,hf2⟩
   ·rcases List.mem_or_eq_of_mem_set hx with q | q
    ·exact Or.inl q
    ·right;rw[q];exact hwo
   ·rcases List.mem_or_eq_of_mem_set hx with q | q
    ·exact h.gw x q
    ·rw[q];exact⟨(h.gw g jN).ll,(h.gw g jN).sg,(h.gw g jN).nm,(h.gw g jN).r0,(h.gw g jN).rr,(h.gw g jN).z0,(h.gw g jN).zz,(h.gw g jN).oe,(h.gw g jN).ol⟩
  ·right
   refine⟨5,rfl,⟨g,hgi?,Or.inr (Or.inl ⟨hs,rn,zn,hr,hrl,FV,hw,Or.inl ⟨rfl,by rw[←hval];exact hv⟩⟩)⟩,Or.inr rfl,h.fail hf' (fun k q=>Or.inl q) hb' rfl rfl,⟨hf'.os,hf'.tape,hf'.output,hf'.size,fun k hk q=>hf'.block k hk (fun r=>q (Or.inl r)),fun k q=>Or.inl (Or.inl q)⟩⟩
  ·have hvU:eI g.op.toList (S.T rn) (S.T zn)=some x:=by rw[←hval];exact hv
   have hz2:=hf2.size
   rcases hq with⟨D',fr',σ,T',po',pc',rfl,hsm,o9,hm',hf'⟩ | ⟨hno,rfl,hb',hf'⟩
   ·left
    have hf3:aj (fun k=>k=mb∨rowOf nO k∨rowOf po k) (fun k=>k=mb∨rowOf no' k∨rowOf po' k) w w':=by
     have hz3:=hf'.size
     have hno:∀k,rowOf no' k→cm mb nO k∨w.heap.size≤k:=fun k q=>hf2.row k (Or.inr q)
     refine⟨hf'.os.trans hf2.os,hf'.tape.trans hf2.tape,hf'.output.trans hf2.output,by omega,fun k hk q=> ?_,fun k q=> ?_⟩
     ·rw[hf'.block k (by omega) ?_,hf2.block k hk ?_]
      ·rintro(r | r)
       ·exact q (Or.inl r)
       ·exact q (Or.inr (Or.inl r))
      ·rintro(r | r)
       ·rcases hno k r with(s | s) | s
        ·exact q (Or.inl s)
        ·exact q (Or.inr (Or.inl s))
        ·omega
       ·exact q (Or.inl r)
     ·rcases hf'.row k (by rcases q with q | q | q;exact Or.inr (Or.inl q);exact Or.inl q;exact Or.inr (Or.inr q))with(r | r) | r
      ·rcases hno k r with(s | s) | s
       ·exact Or.inl (Or.inl s)
       ·exact Or.inl (Or.inr (Or.inl s))
       ·exact Or.inr s
      ·exact Or.inl (Or.inl r)
      ·right;omega
    rw[FT,Am,←hsm.len]at hm'
    have hlen:(S.D++[gm x S.D.length]).length=S.D.length+1:=by simp
    have Xv:∀d∈S.D++[gm x S.D.length],-1000000000≤d.val∧d.val≤1000000000:=fun d hd=>by
     rcases List.mem_append.1 hd with q | q
     ·exact h.vb d q
     ·rw[List.mem_singleton.1 q]
      refine FU hvU fun a ha=> ?_
      obtain⟨d',k1,k2,k3,k4,k5⟩:=hG0.node hrl
      by_cases kk:d'.k=1
      ·rw[k4 kk]at ha;cases ha
      ·obtain⟨k,tx,num,hl,e⟩:=k5 kk
       rw[e]at ha
       have hb:=h.vb d' k3
       unfold eQ at hl
       rw[if_neg kk]at hl
       by_cases k2':d'.k=2
       ·rw[if_pos k2']at hl
        injection hl with hl
        injection hl with u1 hl
        injection hl with u2 u3
        subst u1 u3
        have:d'.val=a:=by simpa [Za.isNum] using ha
        omega
       ·rw[if_neg k2']at hl
        injection hl with hl
        injection hl with u1 hl
        subst u1
        simp[Za.isNum]at ha
    refine⟨0,⟨D',fr',T',S.G.eraseIdx i⟩,no',nc',po',pc',rfl,⟨g,hgi?,Or.inr (Or.inr (Or.inl ⟨hs,rfl,rn,zn,x,T2,σ,hr,hrl,FV,hw,hvU,to2,old2,tn2,hsm,o9,rfl⟩))⟩,h.put hf3 (fun k q=>q) hm' (by rw[hsm.g];exact o9.sto) ?_ (by rw[hsm.len,hlen];omega) (fun x hx=>Or.inl (mem_erase hx)) (hsm.val Xv) (fun y hy=> ?_) (hsm.Eh (fun d hd=>by rcases List.mem_append.1 hd with q | q;exact h.tb d q;rw[List.mem_singleton.1 q];exact Nat.zero_le _)),by rw[hsm.len,hlen];omega,hel,hf3⟩
    ·refine aW.same (ha2.keep fun k _ hp hk=>⟨(hf'.block k (af hk) ?_).trans hk,hp⟩) hsm
     rintro(r | r)
     ·exact aN hm2.st.own hk (by decide) r
     ·rw[r,hm2.st.blk]at hk
      simp only[Option.some.injEq,Obj.cells.injEq]at hk
      exact absurd hk.2.1 (by decide)
    ·exact((h.gw y (mem_erase hy)).more (T':=T2) old2 (Nat.le_refl _)).sub (fun n _=>o9.is n) (by rw[hsm.len,hlen];omega)
   ·right
    refine⟨4,rfl,⟨g,hgi?,Or.inr (Or.inl ⟨hs,rn,zn,hr,hrl,FV,hw,Or.inr ⟨rfl,x,hvU,fun θ e=>hno θ ?_⟩⟩)⟩,Or.inl rfl,?_,?_⟩
    ·rw[old2 _ (h.gw g jN).ll,tn2,Dy,e]
    ·have nr:=h.row hf2 (fun k q=>by rcases q with q | q;exact Or.inl q;exact Or.inr (Or.inl q)) h.lg
     refine⟨_,hb',rfl,rfl,rfl,ah nr fun k q=> ?_⟩
     obtain⟨cur,hc⟩:=aH nr (aD q)
     refine hf'.block k (af hc) ?_
     rintro(r | r)
     ·exact aN hm2.st.own hc (by decide) r
     ·rw[r,hm2.st.blk]at hc
      simp only[Option.some.injEq,Obj.cells.injEq]at hc
      exact absurd hc.2.1 (by decide)
    ·have E4:∀k,rowOf no' k→cm mb nO k∨w.heap.size≤k:=fun k q=>hf2.row k (Or.inr q)
     have hz3:=hf'.size
     refine⟨hf'.os.trans hf2.os,hf'.tape.trans hf2.tape,hf'.output.trans hf2.output,by omega,fun k hk q=> ?_,fun k q=>Or.inl (Or.inl q)⟩
     rw[hf'.block k (by omega) ?_,hf2.block k hk ?_]
     ·rintro(r | r)
      ·exact q (Or.inl r)
      ·exact q (Or.inr (Or.inl r))
     ·rintro(r | r)
      ·rcases E4 k r with(s | s) | s
       ·exact q (Or.inl s)
       ·exact q (Or.inr (Or.inl s))
       ·omega
      ·exact q (Or.inl r)
 ·left
  have hf2:aj (fun k=>k=mb∨rowOf nO k∨rowOf po k) (fun k=>k=mb∨rowOf nO k∨rowOf po' k) w w':=⟨hf'.os,hf'.tape,hf'.output,hf'.size,fun k hk q=>hf'.block k hk (fun r=>q (Or.inl r)),fun k q=>by
   rcases q with q | q | q
   ·exact Or.inl (Or.inl q)
   ·exact Or.inl (Or.inr (Or.inl q))
   ·rcases hf'.row k (Or.inr q)with r | r
    ·exact Or.inl (Or.inl r)
    ·exact Or.inr r⟩
  rw[Am]at hm'
  exact⟨0,⟨S.D,S.fr,S.T,S.G.eraseIdx i⟩,nO,nC,po',pc',rfl,⟨g,hgi?,Or.inr (Or.inr (Or.inr (Or.inl ⟨hs,rfl,ht,rfl,rfl,rfl,rfl⟩)))⟩,h.put hf2 (fun k q=>q) hm' h.to (h.args hf2 (fun k q=>q)) (Nat.le_refl _) (fun x hx=>Or.inl (mem_erase hx)) h.vb (fun x hx=>h.gw x (mem_erase hx)) h.tb,Nat.le_add_right _ _,hel,hf2⟩
 ·rcases hq with⟨rs,c,W,F,T2,ws,E,F',no',nc',T',Gn,po',pc',h1,h2,h3,h4,rfl,h6,h7,h8,h9,h10,h11,h12,h13,h14,h15,h16,h17,h18⟩ | ⟨rs,h1,h2,h3,rfl,⟨cs2,h5,no1,n1,nc1,rfl⟩,h6⟩ | ⟨rs,E,no1,nc1,T1,oo,oc,h1,h2,h3,rfl,h5,h6,h7,h8,h9,h10,h11,h12⟩
  ·left
   have hf2:aj (fun k=>k=mb∨rowOf nO k∨rowOf po k) (fun k=>k=mb∨rowOf no' k∨rowOf po' k) w w':=⟨h18.os,h18.tape,h18.output,h18.size,fun k hk q=>h18.block k hk (fun r=>q (by rcases r with r | r;exact Or.inl r;exact Or.inr (Or.inl r))),fun k q=>by
    rcases h18.row k (by rcases q with q | q | q;exact Or.inl (Or.inl q);exact Or.inl (Or.inr q);exact Or.inr q)with(r | r) | r
    ·exact Or.inl (Or.inl r)
    ·exact Or.inl (Or.inr (Or.inl r))
    ·exact Or.inr r⟩
   rw[FT,Am]at h6
   have hcm:c∈cls:=List.mem_of_getElem? h3
   have hGn:=h16.length
   have hlen:(S.D++E).length=S.D.length+E.length:=List.length_append
   refine⟨_,⟨S.D++E,S.fr,T',S.G.eraseIdx i++Gn⟩,no',nc',po',pc',rfl,⟨g,hgi?,Or.inr (Or.inr (Or.inr (Or.inr (Or.inl ⟨hs,tx,us,htx,hnt,rs,c,W,F,T2,ws,E,F',Gn,h1,h2,h3,h4,rfl,rfl,rfl,h9,h10,h11,h12,h13,h14,h15,h16,rfl⟩))))⟩,h.put hf2 (fun k q=>q) h6 h8 h7 (dL _ _) (fun x hx=> ?_) (h11.val h.vb) (fun x hx=> ?_) (h11.Eh h.tb),by dsimp only;omega,?_,hf2⟩
   ·rcases List.mem_append.1 hx with q | q
    ·exact Or.inl (mem_erase q)
    ·right
     obtain⟨j,hj,rfl⟩:=List.getElem_of_mem q
     intro k hk
     rw[(h16.at j (by omega) hj).no]at hk
     obtain⟨_,e,_⟩:=hk
     cases e
   ·rcases List.mem_append.1 hx with q | q
    ·exact(h.gw x (mem_erase q)).more h9 (dL _ _)
    ·obtain⟨j,hj,rfl⟩:=List.getElem_of_mem q
     exact(h16.at j (by omega) hj).gw ((hgl c hcm).1 _ (List.getElem_mem (by omega)))
   ·dsimp only
    have:=(hgl c hcm).2
    have:=List.length_eraseIdx_le S.G i
    rw[List.length_append]
    omega
  ·right
   refine⟨4,rfl,⟨g,hgi?,Or.inr (Or.inr ⟨hs,rfl,tx,us,htx,hnt,rs,h1,h2,h3⟩)⟩,Or.inl rfl,h.fail h6 (fun k q=>by rcases q with q | q;exact Or.inl q;exact Or.inr (Or.inl q)) h5 rfl rfl,⟨h6.os,h6.tape,h6.output,h6.size,fun k hk q=>h6.block k hk (fun r=>q (by rcases r with r | r;exact Or.inl r;exact Or.inr (Or.inl r))),fun k q=>Or.inl (Or.inl q)⟩⟩
  ·left
   have hf2:aj (fun k=>k=mb∨rowOf nO k∨rowOf po k) (fun k=>k=mb∨rowOf no1 k∨rowOf po k) w w':=⟨h12.os,h12.tape,h12.output,h12.size,fun k hk q=>h12.block k hk (fun r=>q (by rcases r with(r | r) | r;exact Or.inl r;exact Or.inr (Or.inl r);exact Or.inr (Or.inr r))),fun k q=>by
    rcases h12.row k (by rcases q with q | q | q;exact Or.inl (Or.inl q);exact Or.inl (Or.inr q);exact Or.inr q)with((r | r) | r) | r
    ·exact Or.inl (Or.inl r)
    ·exact Or.inl (Or.inr (Or.inl r))
    ·exact Or.inl (Or.inr (Or.inr r))
    ·exact Or.inr r⟩
   have elS:S.G.length=(S.G.set i {g with wt:=true,no:=oo,nc:=oc,nd:=Za.cf rs}).length:=by simp
   rw[FT,elS]at h5
   have hlen:(S.D++E).length=S.D.length+E.length:=List.length_append
   refine⟨-1,⟨S.D++E,S.fr,T1,S.G.set i {g with wt:=true,no:=oo,nc:=oc,nd:=Za.cf rs}⟩,no1,nc1,po,pc,rfl,⟨g,hgi?,Or.inr (Or.inr (Or.inr (Or.inr (Or.inr ⟨hs,rfl,tx,us,htx,hnt,rs,E,oo,oc,h1,h2,h3,rfl,rfl,h8,h9,rfl⟩))))⟩,h.put hf2 (fun k q=>q) h5 h7 h6 (dL _ _) (fun x hx=> ?_) (h9.val h.vb) (fun x hx=> ?_) (h9.Eh h.tb),by dsimp only;omega,Rb _,hf2⟩
   ·rcases List.mem_or_eq_of_mem_set hx with q | q
    ·exact Or.inl q
    ·right;rw[q];exact h11
   ·rcases List.mem_or_eq_of_mem_set hx with q | q
    ·exact(h.gw x q).more h8 (dL _ _)
    ·rw[q]
     have:=(h.gw g jN).more h8 (dL S.D E)
     exact⟨this.ll,this.sg,this.nm,this.r0,this.rr,this.z0,this.zz,this.oe,this.ol⟩
def Xw (mb:Nat) (cls:List Za.aG) (clo:Option Addr) (clc:Nat) (V:List Nat) (vo:Option Addr) (vc:Nat) (L:List Int) (lo:Option Addr) (lc:Nat) (S:bX) (nO po:Option Addr) (i:Nat) (p:Int) (w:World) (e:Ending) (w':World):Prop:=
 (∃(z:Int) (S':bX) (nO':Option Addr) (nC':Nat) (po':Option Addr) (pc':Nat),e= .returned (.int .i64 z)∧Cl cls S S' i p z∧dM w' mb cls clo clc V vo vc L lo lc S' nO' nC' po' pc'∧S'.D.length≤S.D.length+1100000∧S'.G.length≤S.G.length+6∧aj (fun k=>k=mb∨rowOf nO k∨rowOf po k) (fun k=>k=mb∨rowOf nO' k∨rowOf po' k) w w')∨
 (∃en:Int,e= .returned (.int .i64 (-2))∧Jd cls S i p en∧(en=4∨en=5)∧kD w' mb L lo lc en∧aj (fun k=>k=mb∨rowOf nO k∨rowOf po k) (fun k=>k=mb) w w')
theorem dM.go {w:World} {mb:Nat} {cls:List Za.aG} {clo:Option Addr} {clc:Nat} {V:List Nat} {vo:Option Addr} {vc:Nat} {L:List Int} {lo:Option Addr} {lc:Nat} {S:bX} {nO:Option Addr} {nC:Nat} {po:Option Addr} {pc:Nat} (h:dM w mb cls clo clc V vo vc L lo lc S nO nC po pc) {i:Nat} {g:Gl} (hi:i<S.G.length) (fQ:S.G[i]=g) (hgl:∀c∈cls,(∀x∈c.goals,Za.iN x)∧c.goals.length≤6) {p:Int} {e:Ending} {w':World} (hp:Q7 (fun g=>¬rowOf lo g) mb (pX clo cls.length clc nO S.D.length nC vo V.length vc po S.G.length pc lo L.length lc 0) S.D nO nC S.fr S.T S.G po pc cls i g p w e w'):Xw mb cls clo clc V vo vc L lo lc S nO po i p w e w':=by
 rcases h.Xu hi fQ hgl hp with⟨z,S',nO',nC',po',pc',h1,h2,h3,h4⟩ | h1
 ·exact Or.inl ⟨z,S',nO',nC',po',pc',h1,⟨h2,h3.to,h3.mc.ok,h3.gw,h3.mc.nlt⟩,h3,h4⟩
 ·exact Or.inr h1
def mK (V:List Nat) (S:bX):Bool:=decide (24<S.G.length)||((V.map fun n:Nat=>(n:Int)).any (fR S.T)||S.G.any (je S.D S.fr S.T))
theorem Cm {w W w7:World} (hW:Below w.heap.size w W) {mb:Nat} {cs:Array Value} (hb:w.heap[mb]?=some (.cells cs 91 (0,0))) {L:List Int} {lo:Option Addr} {lc:Nat} (ho:w.ownsRow 0 3 1 (.slice lo L.length lc) L.length (L.map fO)) {g' cap':Nat} (hg:W.grownBy w7 (Value.slice lo L.length lc).ownBlock) (hat:rowOf lo g'∨w.heap.size≤g'):(∀k,k≠mb→¬rowOf lo k→k<w.heap.size→(w7.setCell ⟨mb,4,none⟩ (.slice (some ⟨g',0,none⟩) (L.length+1) cap')).heap[k]?=w.heap[k]?)∧(w7.setCell ⟨mb,4,none⟩ (.slice (some ⟨g',0,none⟩) (L.length+1) cap')).heap[mb]?=some (.cells (cs.setIfInBounds 4 (.slice (some ⟨g',0,none⟩) (L.length+1) cap')) 91 (0,0))∧aj (fun k=>k=mb∨rowOf lo k) (fun k=>k=mb∨rowOf (some ⟨g',0,none⟩) k) w (w7.setCell ⟨mb,4,none⟩ (.slice (some ⟨g',0,none⟩) (L.length+1) cap'))∧g'≠mb:=by
 have mz:=af hb
 have wz:=hW.size
 have nomb:¬rowOf lo mb:=aN ho hb (by decide)
 have keep:∀k,k≠mb→¬rowOf lo k→k<w.heap.size→(w7.setCell ⟨mb,4,none⟩ (.slice (some ⟨g',0,none⟩) (L.length+1) cap')).heap[k]?=w.heap[k]?:=fun k h1 h2 h3=>by
  rw[aF _ _ _ _ h1,hg.block k (by omega) (bP h2),hW.block k h3]
 refine⟨keep,?_,⟨hg.os.trans hW.os,hg.tape.trans hW.tape,hg.output.trans hW.output,by rw[cC];exact Nat.le_trans wz hg.size,fun k hk hr=>keep k (fun e=>hr (Or.inl e)) (fun e=>hr (Or.inr e)) hk,fun k q=> ?_⟩,fun e=> ?_⟩
 ·refine au ?_ 4 (.slice (some ⟨g',0,none⟩) (L.length+1) cap')
  rw[hg.block mb (by omega) (bP nomb),hW.block mb mz]
  exact hb
 ·rcases q with e | ⟨p,hp,hq⟩
  ·exact Or.inl (Or.inl e)
  ·cases hp
   rcases hat with r | r
   ·exact Or.inl (Or.inr (hq ▸ r))
   ·exact Or.inr (hq ▸ r)
 ·rcases hat with q | q
  ·exact nomb (e ▸ q)
  ·omega
theorem dM.logged {w:World} {mb:Nat} {cls:List Za.aG} {clo:Option Addr} {clc:Nat} {V:List Nat} {vo:Option Addr} {vc:Nat} {L:List Int} {lo:Option Addr} {lc:Nat} {S:bX} {nO:Option Addr} {nC:Nat} {po:Option Addr} {pc:Nat} (h:dM w mb cls clo clc V vo vc L lo lc S nO nC po pc) {W w7:World} (hW:Below w.heap.size w W) {g' cap':Nat} {z:Int} (hown:w7.ownsRow 0 3 1 (.slice (some ⟨g',0,none⟩) (L.length+1) cap') (L.length+1) (L.map fO++[fO z])) (hg:W.grownBy w7 (Value.slice lo L.length lc).ownBlock) (hat:rowOf lo g'∨w.heap.size≤g'):dM (w7.setCell ⟨mb,4,none⟩ (.slice (some ⟨g',0,none⟩) (L.length+1) cap')) mb cls clo clc V vo vc (L++[z]) (some ⟨g',0,none⟩) cap' S nO nC po pc∧aj (fun k=>k=mb∨rowOf lo k) (fun k=>k=mb∨rowOf (some ⟨g',0,none⟩) k) w (w7.setCell ⟨mb,4,none⟩ (.slice (some ⟨g',0,none⟩) (L.length+1) cap')):=by
 obtain⟨keep,hblk,ky,gne⟩:=Cm (cap':=cap') hW h.mc.st.blk h.lg hg hat
 have el:(L++[z]).length=L.length+1:=by simp
 have kT:∀{k:Nat} {ys:Array Value} {Y:TypeId},w.heap[k]?=some (.cells ys Y (0,0))→Y≠91→Y≠3→(w7.setCell ⟨mb,4,none⟩ (.slice (some ⟨g',0,none⟩) (L.length+1) cap')).heap[k]?=w.heap[k]?:=fun {k ys Y} hk h1 h2=>keep k (fun e=>by
  rw[e,h.mc.st.blk]at hk
  simp only[Option.some.injEq,Obj.cells.injEq]at hk
  exact h1 hk.2.1.symm) (aN h.lg hk h2) (af hk)
 have kI:∀{b n cap:Nat} {o:Option Addr} {xs:List Value},w.ownsRow b 3 1 (.slice o n cap) n xs→(∀k,rowOf o k→¬rowOf lo k)→(w7.setCell ⟨mb,4,none⟩ (.slice (some ⟨g',0,none⟩) (L.length+1) cap')).ownsRow b 3 1 (.slice o n cap) n xs:=fun {b n cap o xs} ho hn=>ah ho fun k q=>by
  obtain⟨cur,hc⟩:=aH ho (aD q)
  refine keep k (fun e=> ?_) (hn k (aD q)) (af hc)
  rw[e,h.mc.st.blk]at hc
  simp only[Option.some.injEq,Obj.cells.injEq]at hc
  exact absurd hc.2.1 (by decide)
 have hl':∀k,rowOf (some (⟨g',0,none⟩:Addr)) k→rowOf lo k∨w.heap.size≤k:=fun k ⟨p,hp,hq⟩=>by
  cases hp
  rcases hat with r | r
  ·exact Or.inl (hq ▸ r)
  ·exact Or.inr (hq ▸ r)
 refine⟨⟨⟨⟨by rw[el];exact hblk,h.mc.st.cel,ah h.mc.st.own fun k q=> ?_,h.mc.st.ty⟩,h.mc.ok,h.mc.c3,ah h.mc.pool fun k q=> ?_,fun g q=>kI (h.mc.nds g q) (h.ln g q),h.mc.nlt,h.mc.nl⟩,h.to,h.ar.keep fun k ys hp hk=>⟨?_,fun q=> ?_⟩,kI h.vr (fun k q r=>h.lv k r q),h.vl,?_,fun k q r=> ?_,fun g q k r s=> ?_,?_,h.vb,h.gw,h.tb⟩,ky⟩
 ·obtain⟨cur,hc⟩:=aH h.mc.st.own (aD q)
  exact kT hc (by decide) (by decide)
 ·obtain⟨cur,hc⟩:=aH h.mc.pool (aD q)
  exact kT hc (by decide) (by decide)
 ·refine(keep k (fun e=> ?_) hp (af hk)).trans hk
  rw[e,h.mc.st.blk]at hk
  simp only[Option.some.injEq,Obj.cells.injEq]at hk
  exact absurd hk.2.1 (by decide)
 ·rcases hl' k q with e | e
  ·exact hp e
  ·have:=af hk;omega
 ·rw[el]
  have:(L++[z]).map fO=L.map fO++[fO z]:=by simp
  rw[this]
  exact ah hown fun k q=>aF _ _ _ _ (fun e=>by
   obtain⟨p,hp,hk⟩:=aD q
   cases hp
   exact gne (hk.symm.trans e))
 ·rcases hl' k q with e | e
  ·exact h.lv k e r
  ·have:=(bY h.vr r).2;omega
 ·rcases hl' k s with e | e
  ·exact h.ln g q k r e
  ·have:=(bY (h.mc.nds g q) r).2;omega
 ·exact(show dR w _ from fun k ys Y hk hY=>(kT hk (by rcases hY with e | e | e<;>(rw[e];decide)) (by rcases hY with e | e | e<;>(rw[e];decide))).trans hk).cls h.cl
theorem kD.logged {w:World} {mb:Nat} {L:List Int} {lo:Option Addr} {lc:Nat} {en:Int} (h:kD w mb L lo lc en) {W w7:World} (hW:Below w.heap.size w W) {g' cap':Nat} {z:Int} (hown:w7.ownsRow 0 3 1 (.slice (some ⟨g',0,none⟩) (L.length+1) cap') (L.length+1) (L.map fO++[fO z])) (hg:W.grownBy w7 (Value.slice lo L.length lc).ownBlock) (hat:rowOf lo g'∨w.heap.size≤g'):kD (w7.setCell ⟨mb,4,none⟩ (.slice (some ⟨g',0,none⟩) (L.length+1) cap')) mb (L++[z]) (some ⟨g',0,none⟩) cap' en∧aj (fun k=>k=mb∨rowOf lo k) (fun k=>k=mb∨rowOf (some ⟨g',0,none⟩) k) w (w7.setCell ⟨mb,4,none⟩ (.slice (some ⟨g',0,none⟩) (L.length+1) cap')):=by
 obtain⟨cs,hb,h6,h4,h5,ho⟩:=h
 obtain⟨keep,hblk,ky,gne⟩:=Cm (cap':=cap') hW hb ho hg hat
 have el:(L++[z]).length=L.length+1:=by simp
 refine⟨⟨_,hblk,by simpa using h6,by rw[Array.getElem?_setIfInBounds_self,if_pos (by omega),el],by rw[Array.getElem?_setIfInBounds_ne (by omega)];exact h5,?_⟩,ky⟩
 rw[el]
 have:(L++[z]).map fO=L.map fO++[fO z]:=by simp
 rw[this]
 exact ah hown fun k q=>aF _ _ _ _ (fun e=>by
  obtain⟨p,hp,hk⟩:=aD q
  cases hp
  exact gne (hk.symm.trans e))
def FW (mb:Nat) (cls:List Za.aG) (clo:Option Addr) (clc:Nat) (V:List Nat) (vo:Option Addr) (vc:Nat) (L:List Int) (lo:Option Addr) (S:bX) (nO po:Option Addr) (i:Nat) (p:Int) (w w':World):Prop:=
 ∃(lo':Option Addr) (lc':Nat),(∃(z:Int) (S':bX) (nO':Option Addr) (nC':Nat) (po':Option Addr) (pc':Nat),Cl cls S S' i p z∧mK V S'=false∧dM w' mb cls clo clc V vo vc (L++[z]) lo' lc' S' nO' nC' po' pc'∧S'.D.length≤S.D.length+1100000∧aj (fun k=>k=mb∨rowOf nO k∨rowOf po k∨rowOf lo k) (fun k=>k=mb∨rowOf nO' k∨rowOf po' k∨rowOf lo' k) w w')∨
  (∃(z:Int) (S':bX),Cl cls S S' i p z∧mK V S'=true∧kD w' mb (L++[z]) lo' lc' 6∧aj (fun k=>k=mb∨rowOf nO k∨rowOf po k∨rowOf lo k) (fun k=>k=mb∨rowOf lo' k) w w')∨
  (∃en:Int,Jd cls S i p en∧(en=4∨en=5)∧kD w' mb (L++[-2]) lo' lc' en∧aj (fun k=>k=mb∨rowOf nO k∨rowOf po k∨rowOf lo k) (fun k=>k=mb∨rowOf lo' k) w w')
theorem Je {w w1 w2:World} {mb:Nat} {nO po nO' po' lo:Option Addr} {R':Nat→Prop} (hf:aj (fun k=>k=mb∨rowOf nO k∨rowOf po k) (fun k=>k=mb∨rowOf nO' k∨rowOf po' k) w w1) {lo':Option Addr} (hg:aj (fun k=>k=mb∨rowOf lo k) (fun k=>k=mb∨rowOf lo' k) w1 w2) (hR:∀k,R' k→k=mb∨rowOf nO' k∨rowOf po' k∨rowOf lo' k):aj (fun k=>k=mb∨rowOf nO k∨rowOf po k∨rowOf lo k) R' w w2:=by
 have z1:=hf.size
 have z2:=hg.size
 refine⟨hg.os.trans hf.os,hg.tape.trans hf.tape,hg.output.trans hf.output,by omega,fun k hk q=> ?_,fun k q=> ?_⟩
 ·rw[hg.block k (by omega) (by rintro(r | r);exact q (Or.inl r);exact q (Or.inr (Or.inr (Or.inr r)))),hf.block k hk (by rintro(r | r | r);exact q (Or.inl r);exact q (Or.inr (Or.inl r));exact q (Or.inr (Or.inr (Or.inl r))))]
 ·have key:∀k,(k=mb∨rowOf nO' k∨rowOf po' k)→(k=mb∨rowOf nO k∨rowOf po k∨rowOf lo k)∨w.heap.size≤k:=fun k r=>by
   rcases hf.row k r with(s | s | s) | s
   ·exact Or.inl (Or.inl s)
   ·exact Or.inl (Or.inr (Or.inl s))
   ·exact Or.inl (Or.inr (Or.inr (Or.inl s)))
   ·exact Or.inr s
  rcases hR k q with r | r | r | r
  ·exact key k (Or.inl r)
  ·exact key k (Or.inr (Or.inl r))
  ·exact key k (Or.inr (Or.inr r))
  ·rcases hg.row k (Or.inr r)with(s | s) | s
   ·exact key k (Or.inl s)
   ·exact Or.inl (Or.inr (Or.inr (Or.inr s)))
   ·right;omega
theorem Jf {w:World} {mb:Nat} {cls:List Za.aG} {clo:Option Addr} {clc:Nat} {V:List Nat} {vo:Option Addr} {vc:Nat} {L:List Int} {lo:Option Addr} {lc:Nat} {S:bX} {nO:Option Addr} {nC:Nat} {po:Option Addr} {pc:Nat} (h:dM w mb cls clo clc V vo vc L lo lc S nO nC po pc) (hV:V.length≤1000000000):Calls Tryz.prog 85 #[.pointer (some ⟨mb,0,none⟩)] w fun e w'=>e= .returned (.bool (mK V S))∧Below w.heap.size w w':=by
 by_cases hl:24<S.G.length
 ·refine(BZ w mb _ S.D nO nC S.fr S.G po pc h.mc hl).mono ?_
  rintro e w' ⟨rfl,rfl⟩
  refine⟨?_,Below.refl _ _⟩
  unfold mK
  rw[show decide (24<S.G.length)=true by simpa using hl]
  rfl
 ·have hlen:(V.map fun n:Nat=>(n:Int)).length=V.length:=by simp
  refine(FD w mb _ S.D nO nC S.fr S.T (fun g=>¬rowOf lo g) S.G po pc (V.map fun n:Nat=>(n:Int)) vo vc h.mc h.ar (fun n _=>h.to.tr n) (by rw[hlen];rfl) (kN.lU (b:=0) (c:=vc) (by rw[hlen,List.map_map];exact h.vr)) (fun x hx=> ?_) (by rw[hlen];exact hV) (fun g hg=> ?_) (by omega)).mono ?_
  ·obtain⟨n,hn,rfl⟩:=List.mem_map.1 hx
   exact Or.inr ⟨n,rfl,h.vl n hn⟩
  ·have gw:=h.gw g hg
   refine⟨gw.ll,fun x hx=> ?_,?_⟩
   ·unfold iC at hx
    split at hx
    ·rw[List.getElem?_eq_getElem (h.mc.ok.lt gw.ll)]at hx
     obtain⟨n,hn,rfl⟩:=List.mem_map.1 hx
     exact Or.inr ⟨n,rfl,(h.mc.ok.nd _ (h.mc.ok.lt gw.ll)).inn n hn⟩
    ·rename_i hne
     simp only[List.mem_cons,List.not_mem_nil,or_false]at hx
     rcases hx with rfl | rfl | rfl
     ·exact Or.inr ⟨g.l,rfl,gw.ll⟩
     ·exact Or.inr (gw.rr hne)
     ·by_cases ho:g.op.toList=[]
      ·exact Or.inl (gw.z0 ho)
      ·exact Or.inr (gw.zz ho)
   ·unfold iC
    split
    ·rw[List.getElem?_eq_getElem (h.mc.ok.lt gw.ll)]
     have hd:=h.mc.ok.nd _ (h.mc.ok.lt gw.ll)
     have:(S.D[S.fr g.l]'(h.mc.ok.lt gw.ll)).args.length≤3:=by
      rcases hd.ks with q | q | q
      ·rw[(hd.v q).2.2.2];simp
      ·rw[(hd.m q).2.2];simp
      ·exact(hd.c q).2.2
     simp only[Option.elim,List.length_map]
     omega
    ·simp
  ·rintro e w' ⟨rfl,hb⟩
   refine⟨?_,hb⟩
   unfold mK
   rw[show decide (24<S.G.length)=false by simpa using hl]
   rfl
theorem dM.below {w w':World} {mb:Nat} {cls:List Za.aG} {clo:Option Addr} {clc:Nat} {V:List Nat} {vo:Option Addr} {vc:Nat} {L:List Int} {lo:Option Addr} {lc:Nat} {S:bX} {nO:Option Addr} {nC:Nat} {po:Option Addr} {pc:Nat} (h:dM w mb cls clo clc V vo vc L lo lc S nO nC po pc) (hb:Below w.heap.size w w'):dM w' mb cls clo clc V vo vc L lo lc S nO nC po pc:=
 ⟨h.mc.below hb,h.to,h.ar.below hb,ah h.vr (fun g q=>hb.block g (h.vr.lt g q).2),h.vl,ah h.lg (fun g q=>hb.block g (h.lg.lt g q).2),h.lv,h.ln,(dR.below hb).cls h.cl,h.vb,h.gw,h.tb⟩
theorem dM.VW {w:World} {mb:Nat} {cls:List Za.aG} {clo:Option Addr} {clc:Nat} {V:List Nat} {vo:Option Addr} {vc:Nat} {L:List Int} {lo:Option Addr} {lc:Nat} {S:bX} {nO:Option Addr} {nC:Nat} {po:Option Addr} {pc:Nat} (h:dM w mb cls clo clc V vo vc L lo lc S nO nC po pc) (en:Int):kD (w.setCell ⟨mb,5,none⟩ (.int .i64 en)) mb L lo lc en:=
 ⟨_,au h.mc.st.blk 5 (.int .i64 en),rfl,rfl,rfl,ah h.lg fun k q=>aF _ _ _ _ (fun e=>aN h.lg h.mc.st.blk (by decide) (e ▸ aD q))⟩
theorem Lx (w:World) (mb:Nat) (cls:List Za.aG) (clo:Option Addr) (clc:Nat) (V:List Nat) (vo:Option Addr) (vc:Nat) (L:List Int) (lo:Option Addr) (lc:Nat) (S:bX) (nO:Option Addr) (nC:Nat) (po:Option Addr) (pc i:Nat) (p:Int) (h:dM w mb cls clo clc V vo vc L lo lc S nO nC po pc) (mI:∀c∈cls,Za.jx c∧∀x∈c.goals,Za.iN x) (hcc:cls.length≤12) (hi:i<S.G.length) (hsz:∀g∈S.G,Za.size (S.T g.l)≤300) (hp1: -9223372036854775808≤p) (hp2:p≤9223372036854775807) (hD:S.D.length+6000000≤1000000000) (hGl:S.G.length≤1000) (hL:L.length≤1000000) (hV:V.length≤1000000000):
 Calls Tryz.prog 45 #[.pointer (some ⟨mb,0,none⟩),.int .i64 (i:Int),.int .i64 p] w fun e w'=>e= .returned (.tuple #[])∧FW mb cls clo clc V vo vc L lo S nO po i p w w':=by
 have IG:=hide ((Lt w mb _ S.D nO nC S.fr S.T (fun g=>¬rowOf lo g) S.G po pc cls clo clc i S.G[i] p h.mc h.ar h.to (fun g hg q=>by have:=(bY h.lg q).2;omega) rfl h.cl (fun c hc=>(mI c hc).1) hcc hi rfl (h.gw _ (List.getElem_mem hi)) h.vb (hsz _ (List.getElem_mem hi)) hp1 hp2 hD (by omega) (by show 5<6;omega)).mono (fun e w' q=>h.go hi rfl (fun c hc=>⟨(mI c hc).2,(mI c hc).1.gl⟩) q))
 have mz:=af h.mc.st.blk
 obtain⟨tj,hj,hy0,hy1,hy2⟩:=info_parts infoIn
 clear h mI hsz hD hp1 hp2 hGl hi
 go_enter Tryz.func45,Tryz.ntmps45
 go_wp2_with fail
 refine(ae IG).mono ?_
 rintro e w1 (⟨z,S',nO',nC',po',pc',rfl,hgo,hm,zh,hgl,hf⟩ | ⟨en,rfl,hgo,hen,hm,hf⟩)
 ·have f4:w1.cell? ⟨mb,4,none⟩=some (.slice lo L.length lc):=ag hm.mc.st.blk 4
  have x4:=aq hm.mc.st.blk 4
  have mz1:=af hm.mc.st.blk
  have gK:=hide (show some mb≠(Value.slice lo L.length lc).ownBlock from bP (aN hm.lg hm.mc.st.blk (by decide)))
  have Ei:=hide hm.lg
  have HM:=hide hm
  have HF:=hide hf
  have zN:=hide hgo
  have Bv:=hide zh
  clear hm hf hgo zh hgl IG
  go_wp2_with (at_builtin;go_must (refine wpList_append_own_at _ rfl (.tmp 15) (.tmp 17) 25 rfl 0 3 tj (.int .i64 0) 1 8 Tryz.underlying25 hj hy0 hy1 hy2 rfl (by decide) (.slice lo L.length lc) L.length (L.map fO) rfl ((ae Ei).alloc _) ⟨w1.heap.size,0,none⟩ 1 1 [.int .i64 z] rfl rfl (ie _ _ _ _ rfl) (by simp[Value.oneCell']) (by unfold maxLen;omega) (by omega) (Nat.zero_le _) ?_);go_must (intro v' w7 hown' hgrow _ hat;obtain⟨g',cap',hv',-⟩:=ed hown';subst hv';have vg:=hide ((ae HM).logged (z:=z) ((Below.refl _ _).alloc (Nat.le_refl _) _) hown' hgrow (by rcases hat with q | q;exact Or.inl (aD q.symm);(right;have q2:g'=w1.heap.size+1:=(by simpa [Value.ownBlock] using q);omega)));have m4:=(hgrow.cell_far ⟨mb,4,none⟩ (by simp;omega) (ae gK)).trans ((World.cell?_alloc_past _ _ _ mz1).trans f4);have k9:w7.frozen? ⟨mb,4,none⟩=false:=(by have:=aq (ae vg).1.mc.st.blk 4;rwa [World.frozen?_setCell]at this);have zz7:mb<w7.heap.size:=(by have:=af (ae vg).1.mc.st.blk;rwa [cC]at this);have f5:(w7.setCell ⟨mb,4,none⟩ (.slice (some ⟨g',0,none⟩) (L.length+1) cap')).cell? ⟨mb,5,none⟩=some (.int .i64 0):=ag (ae vg).1.mc.st.blk 5;clear hown' hgrow hat))
  have II:=hide (ae vg).1
  have Uz:=hide (ae vg).2
  refine(Jf (ae II) hV).mono ?_
  rintro e w8 ⟨rfl,lq⟩
  have Jg:=(ae II).below lq
  have f58:w8.cell? ⟨mb,5,none⟩=some (.int .i64 0):=ag Jg.mc.st.blk 5
  have x58:=aq Jg.mc.st.blk 5
  have mz8:=af Jg.mc.st.blk
  have UA:=hide Jg
  have qF:=hide lq
  clear Jg lq vg Ei HM f4 x4 m4 k9 f5 gK
  cases iX:mK V S' with
  | true=>
   have Rc:=hide iX
   clear iX
   go_wp2_with fail
   go_end0
   refine⟨rfl,_,_,Or.inr (Or.inl ⟨z,S',ae zN,ae Rc,(ae UA).VW 6,?_⟩)⟩
   have hq:=Je (R':=fun k=>k=mb∨rowOf (some ⟨g',0,none⟩) k) (ae HF) ((ae Uz).trans (aj.of_below (ae qF))) (fun k q=>by rcases q with q | q;exact Or.inl q;exact Or.inr (Or.inr (Or.inr q)))
   exact⟨hq.os,hq.tape,hq.output,by rw[cC];exact hq.size,fun k hk hr=>by rw[aF _ _ _ _ (fun e=>hr (Or.inl e))];exact hq.block k hk hr,hq.row⟩
  | false=>
   have Rc:=hide iX
   clear iX
   go_wp2_with fail
   go_end0
   exact⟨rfl,_,_,Or.inl ⟨z,S',nO',nC',po',pc',ae zN,ae Rc,ae UA,ae Bv,Je (ae HF) ((ae Uz).trans (aj.of_below (ae qF))) (fun k q=>q)⟩⟩
 ·have Xx:=hide hm
  obtain⟨cs,hb,h6,h4,h5,ho⟩:=hm
  have f4:=(ag hb 4).trans h4
  have x4:=aq hb 4
  have mz1:=af hb
  have gK:=hide (show some mb≠(Value.slice lo L.length lc).ownBlock from bP (aN ho hb (by decide)))
  have Ei:=hide ho
  have HF:=hide hf
  have zN:=hide hgo
  have Yj:(en == 0)=false:=by rcases hen with q | q<;>(rw[q];rfl)
  have Re:=hide hen
  clear hf hgo IG hb h4 h5 h6 ho hen
  go_wp2_with (at_builtin;go_must (refine wpList_append_own_at _ rfl (.tmp 15) (.tmp 17) 25 rfl 0 3 tj (.int .i64 0) 1 8 Tryz.underlying25 hj hy0 hy1 hy2 rfl (by decide) (.slice lo L.length lc) L.length (L.map fO) rfl ((ae Ei).alloc _) ⟨w1.heap.size,0,none⟩ 1 1 [.int .i64 (-2)] rfl rfl (ie _ _ _ _ rfl) (by simp[Value.oneCell']) (by unfold maxLen;omega) (by omega) (Nat.zero_le _) ?_);go_must (intro v' w7 hown' hgrow _ hat;obtain⟨g',cap',hv',-⟩:=ed hown';subst hv';have vg:=hide ((ae Xx).logged (z:= -2) ((Below.refl _ _).alloc (Nat.le_refl _) _) hown' hgrow (by rcases hat with q | q;exact Or.inl (aD q.symm);(right;have q2:g'=w1.heap.size+1:=(by simpa [Value.ownBlock] using q);omega)));have m4:=(hgrow.cell_far ⟨mb,4,none⟩ (by simp;omega) (ae gK)).trans ((World.cell?_alloc_past _ _ _ mz1).trans f4);obtain⟨cs7,Cn,h67,h47,h57,Xy⟩:=(ae vg).1;have k9:w7.frozen? ⟨mb,4,none⟩=false:=(by have:=aq Cn 4;rwa [World.frozen?_setCell]at this);have zz7:mb<w7.heap.size:=(by have:=af Cn;rwa [cC]at this);have f5:=(ag Cn 5).trans h57;clear hown' hgrow hat Cn h67 h47 h57 Xy))
  go_end0
  refine⟨rfl,_,_,Or.inr (Or.inr ⟨en,ae zN,ae Re,(ae vg).1,?_⟩)⟩
  have hf:=ae HF
  have hg:=(ae vg).2
  have hz1:=hf.size
  have hz2:=hg.size
  refine⟨hg.os.trans hf.os,hg.tape.trans hf.tape,hg.output.trans hf.output,by omega,fun k hk q=> ?_,fun k q=>by
   rcases hg.row k q with(r | r) | r
   ·exact Or.inl (Or.inl r)
   ·exact Or.inl (Or.inr (Or.inr (Or.inr r)))
   ·right;omega⟩
  rw[hg.block k (by omega) (by rintro(r | r);exact q (Or.inl r);exact q (Or.inr (Or.inr (Or.inr r)))),hf.block k hk (by rintro(r | r | r);exact q (Or.inl r);exact q (Or.inr (Or.inl r));exact q (Or.inr (Or.inr (Or.inl r))))]
end Go.Proofs.YthfjnfcekeknlaaGreatDoor
namespace Za
def rn (r:Nat→Nat):Vr→Vr:=fun x=>([],r x.2)
def ba (r:Nat→Nat) (u:U):U:=sub (ren (rn r)) u
theorem fN (r:Nat→Nat) (k:Nat) (tx:List UInt8) (num:Int) (ss:List U):ba r (.n k tx num ss)= .n k tx num (ss.map (ba r)):=dI _ _ _ _ _
theorem pY (r:Nat→Nat) (x:Vr):ba r (.v x)= .v ([],r x.2):=rfl
def PQ (P:Nat→Prop) (x:Vr):Prop:=x.1=[]∧P x.2
def gN (r:Nat→Nat) (P:Nat→Prop):Prop:=∀i j,P i→P j→r i=r j→i=j
theorem ez {Q:Vr→Prop}:∀(u:U),bj Q u↔∀x,has x u→Q x:=by
 refine U.ind (fun x=>⟨fun h y hy=> ?_,fun h=> .v (h x rfl)⟩) (fun k tx num ss ih=>⟨fun h y hy=> ?_,fun h=> .n fun a ha=>(ih a ha).2 fun x hx=>h x ((mR ..).2 ⟨a,ha,hx⟩)⟩)
 ·rw[has]at hy;subst hy;exact h.var
 ·obtain⟨a,ha,hx⟩:=(mR ..).1 hy
  exact(ih a ha).1 (h.args a ha) y hx
theorem gN.on {r:Nat→Nat} {P:Nat→Prop} (h:gN r P):Ag (rn r) (PQ P):=fun x y hx hy e=>by
 unfold rn at e
 injection e with _ e
 exact Prod.ext (hx.1.trans hy.1.symm) (h _ _ hx.2 hy.2 e)
def Wn.map (r:Nat→Nat) (l:Wn):Wn:=⟨l.wt.map r,l.no⟩
theorem Wn.eK.at {P:Nat→Prop} {l:Wn} (h:l.eK (PQ P)):∀w∈l.wt,P w:=fun w hw=>by
 obtain⟨x,hx,rfl⟩:=h w hw
 exact hx.2
theorem Co {r:Nat→Nat} {P:Nat→Prop} (h:gN r P) {T:List Nat} (hT:∀w∈T,P w) {n:Nat} (hn:P n):fy (T.map r) (r n)=(fy T n).map r:=by
 unfold fy
 by_cases q:n∈T
 ·rw[if_pos q,if_pos (List.mem_map_of_mem q)]
 ·rw[if_neg q,if_neg,List.map_append];rfl
  intro hm
  obtain⟨m,hm,e⟩:=List.mem_map.1 hm
  rw[h m n (hT m hm) hn e]at hm
  exact q hm
theorem Wn.mL {r:Nat→Nat} {P:Nat→Prop} (h:gN r P) {l:Wn} (hl:l.eK (PQ P)) {n:Nat} (hn:P n):(l.map r).wait (r n)=(l.wait n).map r:=by
 unfold Wn.wait Wn.map
 dsimp only
 rw[Co h hl.at hn]
theorem Wn.qG {r:Nat→Nat} {P:Nat→Prop} (h:gN r P) {l:Wn} (hl:l.eK (PQ P)) {u:U} (hu:bj (PQ P) u):(l.map r).bI (ba r u)=(l.bI u).map r:=by
 cases u with
 | v x=>exact Wn.mL h hl hu.var.2
 | n k tx num ss=>rw[fN];rfl
theorem Wn.q8 (r:Nat→Nat) (l:Wn):(l.map r).says=l.says:=by
 unfold Wn.says Wn.map
 dsimp only
 split
 ·rfl
 ·simp
theorem Cq {r:Nat→Nat} {P:Nat→Prop} (h:gN r P):∀(u v:U) (l:Wn),bj (PQ P) u→bj (PQ P) v→l.eK (PQ P)→cmpU (ba r u) (ba r v) (l.map r)=(cmpU u v l).map r:=by
 refine U.ind (fun x v l hu hv hl=> ?_) (fun k tx num ss ih v l hu hv hl=> ?_)
 ·cases v with
  | v y=>
   rw[pY,pY,mC,mC]
   by_cases e:x=y
   ·rw[if_pos e,if_pos (by rw[e])]
   ·rw[if_neg e,if_neg (show¬(([],r x.2):Vr)=([],r y.2)from fun q=>e (h.on x y hu.var hv.var q))]
    show ((l.map r).wait (r x.2)).wait (r y.2)=_
    rw[Wn.mL h hl hu.var.2,Wn.mL h (hl.wait hu.var) hv.var.2]
  | n k tx num ss=>
   rw[pY,fN,ot,ot]
   exact Wn.mL h hl hu.var.2
 ·cases v with
  | v y=>
   rw[pY,fN,ou,ou]
   exact Wn.mL h hl hv.var.2
  | n k' tx' num' ss'=>
   rw[fN,fN,kU,kU,List.length_map,List.length_map]
   split
   ·have:∀(bs cs:List U) (l:Wn),(∀a∈bs,∀v l,bj (PQ P) a→bj (PQ P) v→l.eK (PQ P)→cmpU (ba r a) (ba r v) (l.map r)=(cmpU a v l).map r)→(∀a∈bs,bj (PQ P) a)→(∀a∈cs,bj (PQ P) a)→l.eK (PQ P)→cmpUL (bs.map (ba r)) (cs.map (ba r)) (l.map r)=(cmpUL bs cs l).map r:=by
     intro bs
     induction bs with
     | nil=>intro cs l _ _ _ hl;rw[List.map_nil,jn,jn]
     | cons b bs ihb=>
      intro cs l hb h1 h2 hl
      cases cs with
      | nil=>rw[List.map_nil,kV,kV]
      | cons c cs=>
       rw[List.map_cons,List.map_cons,fZ,fZ,hb b (by simp) c l (h1 b (by simp)) (h2 c (by simp)) hl]
       exact ihb cs _ (fun a ha=>hb a (by simp[ha])) (fun a ha=>h1 a (by simp[ha])) (fun a ha=>h2 a (by simp[ha])) (vL _ _ _ (h1 b (by simp)) (h2 c (by simp)) hl)
    exact this ss ss' l ih hu.args hv.args hl
   ·rfl
def bF.map (r:Nat→Nat) (l:bF):bF:=⟨l.st.map fun q=>(q.1,ba r q.2),l.w.map r⟩
theorem Cr (r:Nat→Nat) (x:List UInt8) (st:List (List UInt8×U)):(st.map fun q=>(q.1,ba r q.2)).find? (fun q=>q.1 == x)=(st.find? (fun q=>q.1 == x)).map fun q=>(q.1,ba r q.2):=by
 rw[List.find?_map]
 rfl
theorem bF.Lz {r:Nat→Nat} {P:Nat→Prop} (h:gN r P) {l:bF} (hl:l.kx (PQ P)) (x:List UInt8) {u:U} (hu:bj (PQ P) u):(l.map r).meet x (ba r u)=(l.meet x u).map r:=by
 unfold bF.meet bF.map
 dsimp only
 rw[Cr]
 cases hq:l.st.find? (fun q=>q.1 == x)with
 | none=>
  dsimp only[Option.map_none]
  rw[List.map_append]
  rfl
 | some q=>
  dsimp only[Option.map_some]
  rw[Cq h _ _ _ (hl.1 q (List.mem_of_find?_eq_some hq)) hu hl.2]
theorem Cs {r:Nat→Nat} {P:Nat→Prop} {g:Tm→U→bF→bF}:∀(ps:List Tm) (us:List U) (l:bF),(∀p∈ps,∀u∈us,∀l:bF,l.kx (PQ P)→g p (ba r u) (l.map r)=(g p u l).map r∧(g p u l).kx (PQ P))→l.kx (PQ P)→cF g ps (us.map (ba r)) (l.map r)=(cF g ps us l).map r
 | p :: ps,u :: us,l,hg,h=>by
  rw[List.map_cons,cF,cF,(hg p (by simp) u (by simp) l h).1]
  exact Cs ps us (g p u l) (fun q hq v hv=>hg q (by simp[hq]) v (by simp[hv])) (hg p (by simp) u (by simp) l h).2
 | [],[],l,_,h=>by simp[cF]
 | [],_ :: _,l,_,h=>by simp[cF]
 | _ :: _,[],l,_,h=>by simp[cF]
theorem vS {r:Nat→Nat} {P:Nat→Prop} (h:gN r P):∀(f:Nat) (p:Tm) (u:U) (l:bF),bj (PQ P) u→l.kx (PQ P)→matU f p (ba r u) (l.map r)=(matU f p u l).map r
 | 0,_,_,l,_,_=>by unfold matU;rfl
 | f+1,p,u,l,hu,hl=>by
  by_cases k:p.kind=3
  ·rw[mD _ _ k,mD u l k];exact bF.Lz h hl _ hu
  ·cases u with
   | v x=>
    rw[kW x l k,pY,kW _ _ k]
    show bF.mk _ ((l.w.map r).wait (r x.2))=_
    rw[Wn.mL h hl.2 hu.var.2]
    rfl
   | n kk tx num ss=>
    rw[fN]
    by_cases hr:gJ p=(kk,tx,num)∧p.args.length=ss.length
    ·rw[kX l k hr,kX _ k (by rw[List.length_map];exact hr)]
     exact Cs p.args ss l (fun q _ v hv l hl=>⟨vS h f q v l (hu.args v hv) hl,mH f q v l (hu.args v hv) hl⟩) hl
    ·rw[mE l k hr,mE _ k (by rw[List.length_map];exact hr)]
     rfl
theorem uq (r:Nat→Nat) (η:List UInt8→U):∀(f:Nat) (t:Tm),wfK f t→bA (fun y=>ba r (η y)) f t=ba r (bA η f t)
 | f+1,t,h=>by
  unfold bA
  by_cases k:t.kind=3
  ·rw[if_pos k,if_pos k]
  ·rw[if_neg k,if_neg k]
   by_cases k4:t.kind=4
   ·rw[if_pos k4,if_pos k4,fN];rfl
   ·rw[if_neg k4,if_neg k4,fN,List.map_map]
    congr 1
    exact List.map_congr_left fun a ha=>uq r η f a (h.2.2.2 a ha)
theorem pZ (r:Nat→Nat) (u:U):isNum (ba r u)=isNum u:=by
 cases u with
 | v x=>rfl
 | n k tx num ss=>rw[fN];unfold isNum;split<;>split<;>simp_all
theorem q9 (r:Nat→Nat) (op:List UInt8) (u v:U):Go.Proofs.YthfjnfcekeknlaaGreatDoor.eI op (ba r u) (ba r v)=Go.Proofs.YthfjnfcekeknlaaGreatDoor.eI op u v:=by
 unfold Go.Proofs.YthfjnfcekeknlaaGreatDoor.eI
 rw[pZ,pZ]
theorem OC {r:Nat→Nat} {P:Nat→Prop} (h:gN r P) (op:List UInt8) {u v:U} (hu:bj (PQ P) u) (hv:op≠[]→bj (PQ P) v):eN op (ba r u) (ba r v)=(eN op u v).map r:=by
 unfold eN
 have e:Wn.none=Wn.none.map r:=rfl
 split
 ·rw[e,Wn.qG h (dt _) hu];rfl
 ·rename_i hne
  rw[e,Wn.qG h (dt _) hu,Wn.qG h ((dt _).bI hu) (hv hne)];rfl
theorem xH {r:Nat→Nat} {P:Nat→Prop} (h:gN r P) {u v:U} (hu:bj (PQ P) u) (hv:bj (PQ P) v):lF (ba r u) (ba r v)=(lF u v).map r:=Cq h u v Wn.none hu hv (dt _)
theorem Jh (r:Nat→Nat) (u:U):tsInt (ba r u)=(tsInt u).map r:=by
 cases u with
 | v x=>rfl
 | n k tx num ss=>rw[fN];rfl
theorem LC (r:Nat→Nat) (eq:Bool) (u v:U):ES eq (ba r u) (ba r v)=ES eq u v:=by
 unfold ES
 rw[pZ,pZ]
theorem FX {r:Nat→Nat} {P:Nat→Prop} (h:gN r P) {η:List UInt8→U} (x:aC) (ns:List (List UInt8)) (hx:gZ x) (hy:∀y∈aK ns x,bj (PQ P) (η y)):dx (fun y=>ba r (η y)) x=(dx η x).map r:=by
 have hl:∀y∈namesF 8 ns x.left,bj (PQ P) (η y):=fun y hm=>hy y (by
  unfold aK
  rw[hx.la]
  cases hr:x.right with
  | none=>exact hm
  | some r=>
   obtain⟨K,hK⟩:=namesV_ext 8 r (namesF 8 ns x.left)
   show y∈namesF 8 (namesF 8 ns x.left) r
   rw[hK]
   exact List.mem_append_left _ hm)
 have q:=oZ 8 x.left ns hx.wl hl
 unfold dx
 rw[uq r η 8 x.left hx.wl]
 cases hr:x.right with
 | none=>
  dsimp only
  generalize bA η 8 x.left=t at q⊢
  cases t with
  | v x=>rfl
  | n k tx num ss=>
   rw[fN]
   cases ss with
   | nil=>rfl
   | cons a ss=>
    cases ss with
    | nil=>exact Jh r a
    | cons b ss=>rfl
 | some s=>
  have q2:=oZ (η:=η) 8 s (namesF 8 ns x.left) (hx.wr s hr) (fun y hm=>hy y (by unfold aK;rw[hx.la,hr];exact hm))
  dsimp only
  rw[uq r η 8 s (hx.wr s hr)]
  split
  ·exact xH h q q2
  ·split
   ·unfold qp
    rw[xH h q q2,Wn.q8]
    split
    ·rfl
    ·split<;>rfl
   ·unfold wN
    have e:Wn.none=Wn.none.map r:=rfl
    rw[LC]
    have e2:(Wn.none.bI (ba r (bA η 8 x.left))).bI (ba r (bA η 8 s))=((Wn.none.bI (bA η 8 x.left)).bI (bA η 8 s)).map r:=by
     rw[e,Wn.qG h (dt _) q,Wn.qG h ((dt _).bI q) q2];rfl
    rw[e2]
    by_cases hw:((Wn.none.bI (bA η 8 x.left)).bI (bA η 8 s)).wt=[]
    ·rw[if_pos hw,if_pos (by unfold Wn.map;rw[hw];rfl)];rfl
    ·rw[if_neg hw,if_neg (by unfold Wn.map;simpa using hw)]
theorem LD {r:Nat→Nat} {P:Nat→Prop} (h:gN r P) {l m:Wn} (hl:l.eK (PQ P)) (hm:m.eK (PQ P)):(l.map r).also (m.map r)=(l.also m).map r:=by
 have key:∀(xs ws:List Nat),(∀w∈xs,P w)→(∀w∈ws,P w)→(xs.map r).foldl fy (ws.map r)=(xs.foldl fy ws).map r:=by
  intro xs
  induction xs with
  | nil=>intro ws _ _;rfl
  | cons x xs ih=>
   intro ws h1 h2
   rw[List.map_cons,List.foldl_cons,List.foldl_cons,Co h h2 (h1 x (by simp))]
   refine ih _ (fun w hw=>h1 w (by simp[hw])) fun w hw=> ?_
   unfold fy at hw
   split at hw
   ·exact h2 w hw
   ·rcases List.mem_append.1 hw with q | q
    ·exact h2 w q
    ·rw[List.mem_singleton.1 q];exact h1 x (by simp)
 unfold Wn.also Wn.map
 dsimp only
 rw[key _ _ hm.at hl.at]
theorem Ej {r:Nat→Nat} {P:Nat→Prop} (h:gN r P) {η:List UInt8→U} (xs:List aC) (ns:List (List UInt8)) (hx:∀x∈xs,gZ x) (hy:∀y∈ay ns xs,bj (PQ P) (η y)):iB (fun y=>ba r (η y)) xs=(iB η xs).map r:=by
 have key:∀(xs:List aC) (l:Wn),l.eK (PQ P)→(∀x∈xs,dx (fun y=>ba r (η y)) x=(dx η x).map r∧(dx η x).eK (PQ P))→ji (dx fun y=>ba r (η y)) xs (l.map r)=(ji (dx η) xs l).map r:=by
  intro xs
  induction xs with
  | nil=>intro l _ _;rfl
  | cons x xs ih=>
   intro l hl hx
   rw[ji,ji,(hx x (by simp)).1,LD h hl (hx x (by simp)).2]
   exact ih _ (hl.also (hx x (by simp)).2) fun y hy=>hx y (by simp[hy])
 refine key xs Wn.none (dt _) fun x hm=> ?_
 obtain⟨ns',hn⟩:=fk xs ns x hm
 exact⟨FX h x ns' (hx x hm) fun y hq=>hy y (hn y hq),xh x ns' (hx x hm) fun y hq=>hy y (hn y hq)⟩
end Za
