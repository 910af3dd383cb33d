import Derived.Test.YthfjnfcekeknlabGreatDoorGu25
import Derived.Test.YthfjnfcekeknlabGreatDoorGu27
set_option maxHeartbeats 8000000
set_option maxRecDepth 100000
namespace Go.Proofs.YthfjnfcekeknlabGreatDoor
open Go.RowKit
structure mA (T:Nat→Zf.U) (len:Nat) (g:Gl):Prop where
 ll:g.l<len
 sg:g.sg.toList=[]∨g.sg.toList=[61]∨g.sg.toList=[58,61]
 nm:g.sg.toList=[]→∃tx us,T g.l= .n 1 tx 0 us
 r0:g.sg.toList=[]→g.r= -1
 rr:g.sg.toList≠[]→∃n:Nat,g.r=(n:Int)∧n<len
 z0:g.op.toList=[]→g.z= -1
 zz:g.op.toList≠[]→∃n:Nat,g.z=(n:Int)∧n<len
 oe:g.op.toList≠[]→g.sg.toList=[58,61]
 ol:g.op.size≤2
theorem zQ.from {mb:Nat} {cs:Array Value} {D:List Ng} {nO:Option Addr} {nC:Nat} {fr:Nat→Nat} {TT:Nat→Zf.U} {G:List Gl} {i a b:Nat} {w w1:World} {e:Ending} {w':World} (hb:Below w.heap.size w w1) (h:zQ mb cs D nO nC fr TT G i a b w1 e w'):zQ mb cs D nO nC fr TT G i a b w e w':=by
 rcases h with⟨D',fr',σ,T',po',pc',h1,h2,h3,h4,h5⟩ | ⟨h1,h2,h3,h4⟩
 ·exact Or.inl ⟨D',fr',σ,T',po',pc',h1,h2,h3,h4,(aq.of_below hb).trans h5⟩
 ·exact Or.inr ⟨h1,h2,h3,(aq.of_below hb).trans h4⟩
theorem tO.from {mb:Nat} {cs:Array Value} {D:List Ng} {nO:Option Addr} {nC:Nat} {fr:Nat→Nat} {TT:Nat→Zf.U} {P:Nat→Prop} {G:List Gl} {po:Option Addr} {pc i:Nat} {g:Gl} {W:Zf.Wn} {r:Option Int} {w w1:World} {e:Ending} {w':World} (hb:Below w.heap.size w w1) (h:tO mb cs D nO nC fr TT P G po pc i g W r w1 e w'):tO mb cs D nO nC fr TT P G po pc i g W r w e w':=by
 rcases h with⟨h1,wo,wc,h2,h3,h4,h5⟩ | ⟨h1,h2,h3,h4,h5⟩ | ⟨h1,x,no',nc',T2,w2,h2,h3,h4,h5,h6,h7,h8,h9,h10⟩
 ·exact Or.inl ⟨h1,wo,wc,h2,h3,(aq.of_below hb).trans h4,fun k q=>Nat.le_trans hb.size (h5 k q)⟩
 ·exact Or.inr (Or.inl ⟨h1,h2,h3,h4,(aq.of_below hb).trans h5⟩)
 ·exact Or.inr (Or.inr ⟨h1,x,no',nc',T2,w2,h2,h3,h4,h5,h6,h7,h8,(aq.of_below hb).trans h9,h10⟩)
def RR (P:Nat→Prop) (mb:Nat) (cs:Array Value) (D:List Ng) (nO:Option Addr) (nC:Nat) (fr:Nat→Nat) (TT:Nat→Zf.U) (G:List Gl) (po:Option Addr) (pc:Nat) (cls:List Zf.aI) (i:Nat) (g:Gl) (p:Int) (w:World) (e:Ending) (w':World):Prop:=
 (g.sg.toList=[61]∧∃rn:Nat,g.r=(rn:Int)∧rn<D.length∧zQ mb cs D nO nC fr TT G i g.l rn w e w')∨
 (g.sg.toList=[58,61]∧∃(rn zn:Nat) (d0 e0:Ng),g.r=(rn:Int)∧rn<D.length∧D[fr rn]?=some d0∧(g.op.toList≠[]→g.z=(zn:Int)∧zn<D.length∧D[fr zn]?=some e0)∧tO mb cs D nO nC fr TT P G po pc i g (Zf.fp g.op.toList (TT rn) (TT zn)) (ly g.op.toList d0 e0) w e w')∨
 (g.sg.toList=[]∧TT g.l= .n 1 [116,114,117,101] 0 []∧e= .returned (.int .i64 0)∧∃(po':Option Addr) (pc':Nat),cR w' mb (cs.setIfInBounds 3 (.slice po' (G.eraseIdx i).length pc')) D nO nC fr (G.eraseIdx i) po' pc'∧aq (fun k=>k=mb) (fun k=>k=mb∨rowOf po' k) w w')∨
 (g.sg.toList=[]∧∃(tx:List UInt8) (us:List Zf.U),TT g.l= .n 1 tx 0 us∧¬(tx=[116,114,117,101]∧us=[])∧nS P mb cs D nO fr TT G po pc cls (Zf.bM cls tx us.length cls.length) (dB p (Zf.bM cls tx us.length cls.length).length) g.l i g w e w')
theorem Md (w:World) (mb:Nat) (cs:Array Value) (D:List Ng) (nO:Option Addr) (nC:Nat) (fr:Nat→Nat) (TT:Nat→Zf.U) (P:Nat→Prop) (G:List Gl) (po:Option Addr) (pc:Nat) (cls:List Zf.aI) (clo:Option Addr) (clc i:Nat) (g:Gl) (p:Int) (hm:cR w mb cs D nO nC fr G po pc) (har:aY w D P) (fD:Zf.dI (aX D) fr TT) (hP:∀g,w.heap.size≤g→P g) (h0:cs[0]?=some (.slice clo cls.length clc)) (hcl:dh w clo cls.length cls) (mW:∀c∈cls,Zf.jN c) (hcc:cls.length≤12) (hi:i<G.length) (iK:G[i]=g) (hW:mA TT D.length g) (hvb:∀d∈D,-1000000000≤d.val∧d.val≤1000000000) (hsz:Zf.size (TT g.l)≤300) (hp1: -9223372036854775808≤p) (hp2:p≤9223372036854775807) (hD:D.length+6000000≤1000000000) (hGl:G.length≤1000000) (xu:5<cs.size):
 Calls Tryz.prog 70 #[.pointer (some ⟨mb,0,none⟩),.int .i64 (i:Int),.int .i64 p] w fun e w'=>RR P mb cs D nO nC fr TT G po pc cls i g p w e w':=by
 have hb0:=(Below.refl w.heap.size w).alloc (Nat.le_refl _) (.cells #[.int .i64 (g.l:Int),.string g.sg,.int .i64 g.r,.string g.op,.int .i64 g.z,.bool g.wt,.slice g.no g.nd.length g.nc] 133)
 have f3:=(ah hm.st.blk 3).trans hm.c3
 have mz:=af hm.st.blk
 obtain⟨pg,RT⟩:∃pg,po=some ⟨pg,0,none⟩:=by
  rcases hm.pool.2 with⟨q,q2⟩ | ⟨g,cp,cur,q,_⟩
  ·omega
  ·simp only[Value.slice.injEq]at q
   exact⟨g,q.1⟩
 subst RT
 have pz:=(hm.pool.lt pg rfl).2
 have fc:∀k,k<7→w.cell? ⟨pg,i*7+k,none⟩=(fL g)[k]?:=fun k hk=>by
  rw[hm.pool.cellAt (i*7+k) (by omega),←iK]
  exact qI hi k hk
 have e0:=fc 0 (by omega)
 have e1:=fc 1 (by omega)
 have e2:=fc 2 (by omega)
 have e3:=fc 3 (by omega)
 have e4:=fc 4 (by omega)
 have e5:=fc 5 (by omega)
 have e6:=fc 6 (by omega)
 simp only[fL,List.getElem?_cons_zero,List.getElem?_cons_succ,Nat.add_zero]at e0 e1 e2 e3 e4 e5 e6
 have i0:(0:Int)≤(i:Int):=by omega
 have i1:(i:Int)<(G.length:Int):=by omega
 have dN:=heap_alloc_new w (.cells #[.int .i64 (g.l:Int),.string g.sg,.int .i64 g.r,.string g.op,.int .i64 g.z,.bool g.wt,.slice g.no g.nd.length g.nc] 133)
 have hG0:gj w w.heap.size mb 1 cs 88 D nO nC fr TT P:=⟨hm.st,hm.ok,fD,har,Nat.le_refl _⟩
 rcases hW.sg with aV | aV | aV
 ·obtain⟨tx,us,htx⟩:=hW.nm aV
  obtain⟨d,hd,Aa,U8,NR,tA⟩:=hG0.node hW.ll
  have hk1:d.k≠1:=fun q=>by rw[NR q]at htx;cases htx
  obtain⟨lk,ltx,lnum,hlab,hT⟩:=tA hk1
  rw[htx]at hT
  injection hT with u1 u2 u3 u4
  subst u1 u2 u3
  have hk3:d.k=3:=by
   unfold eJ at hlab
   rw[if_neg hk1]at hlab
   by_cases q:d.k=2
   ·rw[if_pos q]at hlab;injection hlab with hlab;injection hlab with a;cases a
   ·rcases Aa.ks with r | r | r
    ·exact absurd r hk1
    ·exact absurd r q
    ·exact r
  have htl:d.tx.toList=tx:=by
   unfold eJ at hlab
   rw[if_neg hk1,if_neg (by omega)]at hlab
   injection hlab with hlab
   injection hlab with _ hlab
   injection hlab
  have mj:us.length=d.args.length:=by rw[u4,List.length_map]
  obtain⟨dv,dc,dl⟩:=Aa.c hk3
  obtain⟨kk,hkk⟩:=hm.ok.hop g.l hW.ll
  have IL:=hide (fun W (hu:Below (w.heap.size+1) (w.alloc (.cells #[.int .i64 (g.l:Int),.string g.sg,.int .i64 g.r,.string g.op,.int .i64 g.z,.bool g.wt,.slice g.no g.nd.length g.nc] 133)) W)=>(dS W mb 1 cs _ D nO nC g.l (fr g.l) kk d (hm.st.below (hb0.trans (hu.mono (Nat.le_succ _)))) hkk hd).mono (fun e w' q=>And.intro q.1 (And.intro q.2 (hu.trans (q.2.mono (by have:=hu.size;rw[World.size_alloc]at this;exact this))))))
  rw[hk3,dv,dc]at IL
  have ILV:=hide (fun W (hu:Below w.heap.size w W)=>tK W mb cs D nO nC fr G (some ⟨pg,0,none⟩) pc i (hm.below hu) hGl)
  have ICA:=hide (show∀W,Below w.heap.size w W→Calls Tryz.prog 119 #[.pointer (some ⟨mb,0,none⟩),.int .i64 (i:Int),.int .i64 (g.l:Int),.int .i64 p] W fun e w'=>nS P mb cs D nO fr TT G (some ⟨pg,0,none⟩) pc cls (Zf.bM cls tx us.length cls.length) (dB p (Zf.bM cls tx us.length cls.length).length) g.l i g w e w' from fun W hu=>by
   have:=L3 W mb cs D nO nC fr TT P G (some ⟨pg,0,none⟩) pc cls clo clc g.l d i g p (hm.below hu) (har.below hu) fD (fun q hq=>hP q (Nat.le_trans hu.size hq)) h0 ((ez.below hu).cls hcl) mW hcc hi iK hW.ll hd hk3 hsz hp1 hp2 hD hGl xu
   rw[htl,←mj]at this
   exact this.mono fun e w' q=>q.from hu)
  have t1:(g.sg.toList == [61])=false:=by rw[aV];rfl
  have t2:(g.sg.toList == [58,61])=false:=by rw[aV];rfl
  have jL:=hide aV
  have fX:=hide htx
  have U9:(d.tx.toList=[116,114,117,101]∧d.args.length=0)∨(¬d.tx.toList=[116,114,117,101])∨(d.tx.toList=[116,114,117,101]∧¬d.args.length=0):=by
   by_cases q1:d.tx.toList=[116,114,117,101]
   ·by_cases q2:d.args.length=0
    ·exact Or.inl ⟨q1,q2⟩
    ·exact Or.inr (Or.inr ⟨q1,q2⟩)
   ·exact Or.inr (Or.inl q1)
  have Nj:=hide mj
  have Cq:=hide htl
  have vg:=hide U9
  have Me:=heap_alloc_new (w.alloc (.cells #[.int .i64 (g.l:Int),.string g.sg,.int .i64 g.r,.string g.op,.int .i64 g.z,.bool g.wt,.slice g.no g.nd.length g.nc] 133)) (.cells #[.int .i64 0,.int .i64 0,.string ⟨#[]⟩,.int .i64 0] 144)
  rw[World.size_alloc]at Me
  have Mf:=hide Me
  have aS:=hide hb0
  have jZ:=hide dN
  clear Me
  clear hm har fD hP h0 hcl mW iK hW hvb hsz hp1 hp2 hD hb0 dN hG0 fc hd Aa U8 NR tA hk1 hlab u4 hk3 htl mj dv dc dl hkk aV htx U9
  obtain⟨l,sg,r,op,z,wt,no,nc,nd⟩:=g
  dsimp only at*
  generalize d.args.length=dm at*
  generalize d.tx=dtx at*
  clear d
  rcases ae vg with⟨q1,q2⟩ | q1 | ⟨q1,q2⟩
  ·have u1:(dtx.toList == [116,114,117,101])=true:=by rw[q1];rfl
   subst q2
   have HU:=hide (show us=[]from List.length_eq_zero_iff.1 (ae Nj))
   have HQ:=hide q1
   clear q1 vg
   go_enter Tryz.func70,Tryz.ntmps70
   go_wp2_with fail
   go_region_with (go_at_call 80;refine(ae IL _ (by first | exact Below.refl _ _ | exact(Below.refl _ _).drew | exact((Below.refl _ _).alloc (by simp) _).drew | exact(Below.refl _ _).alloc (by simp) _)).mono ?_;rintro y w2 ⟨rfl,hb2,hu2⟩;first | (have ab:=(hb2.block (w.heap.size+1) (by simp)).trans (ae Mf);have ab0:=ah ab 0;have ab1:=ah ab 1;have ab2:=ah ab 2;have ab3:=ah ab 3;have ay0:=au ab 0;have ay1:=au ab 1;have ay2:=au ab 2;have ay3:=au ab 3;have abz:=af ab;simp only[List.getElem?_toArray,List.getElem?_cons_zero,List.getElem?_cons_succ]at ab0 ab1 ab2 ab3) | skip)
   all_goals
    first
     | (have hab:=aw (aw (aw (aw ab 0 (.int .i64 3)) 1 (.int .i64 0)) 2 (.string dtx)) 3 (.int .i64 0)
        have lT:Below (w.heap.size+1) (w.alloc (.cells #[.int .i64 (l:Int),.string sg,.int .i64 r,.string op,.int .i64 z,.bool wt,.slice no nd.length nc] 133)) ((((w2.setCell ⟨w.heap.size+1,0,none⟩ (.int .i64 3)).setCell ⟨w.heap.size+1,1,none⟩ (.int .i64 0)).setCell ⟨w.heap.size+1,2,none⟩ (.string dtx)).setCell ⟨w.heap.size+1,3,none⟩ (.int .i64 0)):=(((hu2.setCell (Nat.le_refl _) _).setCell (Nat.le_refl _) _).setCell (Nat.le_refl _) _).setCell (Nat.le_refl _) _
        clear ab ab0 ab1 ab2 ab3 ay0 ay1 ay2 ay3 abz)
     | (have hab:=heap_alloc_new w2 (.cells #[.int .i64 3,.int .i64 0,.string dtx,.int .i64 0] 144)
        have lT:=hu2.alloc (by have:=hu2.size;rw[World.size_alloc]at this;exact this) (.cells #[.int .i64 3,.int .i64 0,.string dtx,.int .i64 0] 144))
    have d2:=ah hab 2
    have d3:=ah hab 3
    have dz:=af hab
    have hgx:=(lT.block w.heap.size (Nat.lt_succ_self _)).trans (ae jZ)
    have g0:=ah hgx 0
    have gz9:=af hgx
    simp only[List.getElem?_toArray,List.getElem?_cons_zero,List.getElem?_cons_succ,List.setIfInBounds_toArray,List.set_cons_zero,List.set_cons_succ]at d2 d3 g0
    have kV:=hide ((ae aS).trans (lT.mono (Nat.le_succ _)))
    clear hab lT hgx hu2 hb2
    go_wp2_with fail
    refine(ae ILV _ (ae kV)).mono ?_
    rintro y w10 ⟨rfl,po',pc',m10,fr10⟩
    have WD:=hide m10
    have WE:=hide fr10
    clear m10 fr10
    go_wp2_with fail
    go_ret
    exact Or.inr (Or.inr (Or.inl ⟨ae jL,by rw[ae fX,←ae Cq,ae HQ,ae HU],rfl,po',pc',ae WD,(aq.of_below (ae kV)).trans (ae WE)⟩))
  ·have u1:(dtx.toList == [116,114,117,101])=false:=by simpa using q1
   have HQ:=hide q1
   clear q1 vg
   go_enter Tryz.func70,Tryz.ntmps70
   go_wp2_with fail
   go_region_with (go_at_call 80;refine(ae IL _ (by first | exact Below.refl _ _ | exact(Below.refl _ _).drew | exact((Below.refl _ _).alloc (by simp) _).drew | exact(Below.refl _ _).alloc (by simp) _)).mono ?_;rintro y w2 ⟨rfl,hb2,hu2⟩;first | (have ab:=(hb2.block (w.heap.size+1) (by simp)).trans (ae Mf);have ab0:=ah ab 0;have ab1:=ah ab 1;have ab2:=ah ab 2;have ab3:=ah ab 3;have ay0:=au ab 0;have ay1:=au ab 1;have ay2:=au ab 2;have ay3:=au ab 3;have abz:=af ab;simp only[List.getElem?_toArray,List.getElem?_cons_zero,List.getElem?_cons_succ]at ab0 ab1 ab2 ab3) | skip)
   all_goals
    first
     | (have hab:=aw (aw (aw (aw ab 0 (.int .i64 3)) 1 (.int .i64 0)) 2 (.string dtx)) 3 (.int .i64 (dm:Int))
        have lT:Below (w.heap.size+1) (w.alloc (.cells #[.int .i64 (l:Int),.string sg,.int .i64 r,.string op,.int .i64 z,.bool wt,.slice no nd.length nc] 133)) ((((w2.setCell ⟨w.heap.size+1,0,none⟩ (.int .i64 3)).setCell ⟨w.heap.size+1,1,none⟩ (.int .i64 0)).setCell ⟨w.heap.size+1,2,none⟩ (.string dtx)).setCell ⟨w.heap.size+1,3,none⟩ (.int .i64 (dm:Int))):=(((hu2.setCell (Nat.le_refl _) _).setCell (Nat.le_refl _) _).setCell (Nat.le_refl _) _).setCell (Nat.le_refl _) _
        clear ab ab0 ab1 ab2 ab3 ay0 ay1 ay2 ay3 abz)
     | (have hab:=heap_alloc_new w2 (.cells #[.int .i64 3,.int .i64 0,.string dtx,.int .i64 (dm:Int)] 144)
        have lT:=hu2.alloc (by have:=hu2.size;rw[World.size_alloc]at this;exact this) (.cells #[.int .i64 3,.int .i64 0,.string dtx,.int .i64 (dm:Int)] 144))
    have d2:=ah hab 2
    have d3:=ah hab 3
    have dz:=af hab
    have hgx:=(lT.block w.heap.size (Nat.lt_succ_self _)).trans (ae jZ)
    have g0:=ah hgx 0
    have gz9:=af hgx
    simp only[List.getElem?_toArray,List.getElem?_cons_zero,List.getElem?_cons_succ,List.setIfInBounds_toArray,List.set_cons_zero,List.set_cons_succ]at d2 d3 g0
    have kV:=hide ((ae aS).trans (lT.mono (Nat.le_succ _)))
    clear hab lT hgx hu2 hb2
    go_wp2_with fail
    refine(ae ICA _ (ae kV)).mono ?_
    intro y w10 h10
    obtain⟨z10,rfl⟩:=h10.int
    have xR:=hide h10
    clear h10
    go_wp2_with fail
    go_ret
    exact Or.inr (Or.inr (Or.inr ⟨ae jL,tx,us,ae fX,(fun q=>ae HQ (by rw[ae Cq];exact q.1)),ae xR⟩))
  ·have u1:(dtx.toList == [116,114,117,101])=true:=by rw[q1];rfl
   have u2:((dm:Int) == 0)=false:=by simp;omega
   have HQ:=hide q2
   clear q1 q2 vg
   go_enter Tryz.func70,Tryz.ntmps70
   go_wp2_with fail
   go_region_with (go_at_call 80;refine(ae IL _ (by first | exact Below.refl _ _ | exact(Below.refl _ _).drew | exact((Below.refl _ _).alloc (by simp) _).drew | exact(Below.refl _ _).alloc (by simp) _)).mono ?_;rintro y w2 ⟨rfl,hb2,hu2⟩;first | (have ab:=(hb2.block (w.heap.size+1) (by simp)).trans (ae Mf);have ab0:=ah ab 0;have ab1:=ah ab 1;have ab2:=ah ab 2;have ab3:=ah ab 3;have ay0:=au ab 0;have ay1:=au ab 1;have ay2:=au ab 2;have ay3:=au ab 3;have abz:=af ab;simp only[List.getElem?_toArray,List.getElem?_cons_zero,List.getElem?_cons_succ]at ab0 ab1 ab2 ab3) | skip)
   all_goals
    first
     | (have hab:=aw (aw (aw (aw ab 0 (.int .i64 3)) 1 (.int .i64 0)) 2 (.string dtx)) 3 (.int .i64 (dm:Int))
        have lT:Below (w.heap.size+1) (w.alloc (.cells #[.int .i64 (l:Int),.string sg,.int .i64 r,.string op,.int .i64 z,.bool wt,.slice no nd.length nc] 133)) ((((w2.setCell ⟨w.heap.size+1,0,none⟩ (.int .i64 3)).setCell ⟨w.heap.size+1,1,none⟩ (.int .i64 0)).setCell ⟨w.heap.size+1,2,none⟩ (.string dtx)).setCell ⟨w.heap.size+1,3,none⟩ (.int .i64 (dm:Int))):=(((hu2.setCell (Nat.le_refl _) _).setCell (Nat.le_refl _) _).setCell (Nat.le_refl _) _).setCell (Nat.le_refl _) _
        clear ab ab0 ab1 ab2 ab3 ay0 ay1 ay2 ay3 abz)
     | (have hab:=heap_alloc_new w2 (.cells #[.int .i64 3,.int .i64 0,.string dtx,.int .i64 (dm:Int)] 144)
        have lT:=hu2.alloc (by have:=hu2.size;rw[World.size_alloc]at this;exact this) (.cells #[.int .i64 3,.int .i64 0,.string dtx,.int .i64 (dm:Int)] 144))
    have d2:=ah hab 2
    have d3:=ah hab 3
    have dz:=af hab
    have hgx:=(lT.block w.heap.size (Nat.lt_succ_self _)).trans (ae jZ)
    have g0:=ah hgx 0
    have gz9:=af hgx
    simp only[List.getElem?_toArray,List.getElem?_cons_zero,List.getElem?_cons_succ,List.setIfInBounds_toArray,List.set_cons_zero,List.set_cons_succ]at d2 d3 g0
    have kV:=hide ((ae aS).trans (lT.mono (Nat.le_succ _)))
    clear hab lT hgx hu2 hb2
    go_wp2_with fail
    refine(ae ICA _ (ae kV)).mono ?_
    intro y w10 h10
    obtain⟨z10,rfl⟩:=h10.int
    have xR:=hide h10
    clear h10
    go_wp2_with fail
    go_ret
    exact Or.inr (Or.inr (Or.inr ⟨ae jL,tx,us,ae fX,(fun q=>ae HQ (by rw[←ae Nj,q.2];rfl)),ae xR⟩))
 ·have hne:g.sg.toList≠[]:=by rw[aV];simp
  obtain⟨rn,hr,hrl⟩:=hW.rr hne
  have IE:=hide (fun W (hu:Below w.heap.size w W)=>(xK W mb cs D nO nC fr TT P G (some ⟨pg,0,none⟩) pc i g.l rn (hm.below hu) (har.below hu) fD hW.ll hrl (by omega) hGl xu).mono (fun e w' q=>q.from hu))
  have t1:(g.sg.toList == [61])=true:=by rw[aV];rfl
  have jL:=hide aV
  have aS:=hide hb0
  have vD:=hide hrl
  clear hm har fD hP h0 hcl mW iK hW hvb hsz hp1 hp2 hD hb0 dN hG0 fc hne aV hrl
  obtain⟨l,sg,r,op,z,wt,no,nc,nd⟩:=g
  dsimp only at*
  subst hr
  go_enter Tryz.func70,Tryz.ntmps70
  go_wp2_with fail
  refine(ae IE _ (ae aS)).mono ?_
  intro y w10 h10
  obtain⟨z10,rfl⟩:=h10.int
  have xR:=hide h10
  clear h10
  go_wp2_with fail
  go_ret
  exact Or.inl ⟨ae jL,rn,rfl,ae vD,ae xR⟩
 ·have hne:g.sg.toList≠[]:=by rw[aV];simp
  obtain⟨rn,hr,hrl⟩:=hW.rr hne
  obtain⟨d0,hd0,_,hd0m,_⟩:=hG0.node hrl
  obtain⟨zn,e0,hzz,he0m⟩:∃(zn:Nat) (e0:Ng),(g.op.toList≠[]→g.z=(zn:Int)∧zn<D.length∧D[fr zn]?=some e0)∧e0∈D:=by
   by_cases q:g.op.toList=[]
   ·exact⟨0,d0,fun h=>absurd q h,hd0m⟩
   ·obtain⟨zn,hz,hzl⟩:=hW.zz q
    obtain⟨e0,Yb,_,he0m,_⟩:=hG0.node hzl
    exact⟨zn,e0,fun _=>⟨hz,hzl,Yb⟩,he0m⟩
  have IE:=hide (fun W (hu:Below w.heap.size w W)=>(GA W mb cs D nO nC fr TT P G (some ⟨pg,0,none⟩) pc i g rn zn d0 e0 (hm.below hu) (har.below hu) (fun q hq=>hP q (Nat.le_trans hu.size hq)) fD hi iK hW.ll hr hrl hW.z0 hzz hd0 (hvb _ hd0m) (hvb _ he0m) (by omega) hGl xu).mono (fun e w' q=>q.from hu))
  have t1:(g.sg.toList == [61])=false:=by rw[aV];rfl
  have t2:(g.sg.toList == [58,61])=true:=by rw[aV];rfl
  have jL:=hide aV
  have aS:=hide hb0
  have vD:=hide hrl
  have HR:=hide hr
  have Yc:=hide hd0
  have Yd:=hide hzz
  generalize hw2:Zf.fp g.op.toList (TT rn) (TT zn)=W2 at*
  have Qx:=hide hw2
  clear hw2
  generalize hval:ly g.op.toList d0 e0=val at*
  have WG:=hide hval
  clear hm har fD hP h0 hcl mW iK hW hvb hsz hp1 hp2 hD hb0 dN hG0 fc hne aV hrl hr hd0 hzz hd0m he0m hval
  go_enter Tryz.func70,Tryz.ntmps70
  go_wp2_with fail
  refine(ae IE _ (ae aS)).mono ?_
  intro y w10 h10
  obtain⟨z10,rfl⟩:=h10.int
  have xR:=hide h10
  clear h10
  go_wp2_with fail
  go_ret
  exact Or.inr (Or.inl ⟨ae jL,rn,zn,d0,e0,ae HR,ae vD,ae Yc,ae Yd,by rw[ae WG,ae Qx];exact ae xR⟩)
def fh (op:List UInt8) (u v:Zf.U):Option Int:=match Zf.isNum u with
 | some a=>if op=[]then some a else(match Zf.isNum v with
  | some b=>if -1000000000≤arith op a b∧arith op a b≤1000000000 then some (arith op a b)else none
  | none=>none)
 | none=>none
structure cE where
 D:List Ng
 fr:Nat→Nat
 T:Nat→Zf.U
 G:List Gl
def WH (S S':cE) (i:Nat) (g:Gl) (z:Int):Prop:=g.sg.toList=[61]∧z=0∧∃(rn:Nat) (σ:Zf.Vr→Zf.U),g.r=(rn:Int)∧rn<S.D.length∧cU S.D S'.D∧Zf.Made (aX S.D) S.fr S'.fr S.T S'.T (S.T g.l) (S.T rn) σ∧S'.G=S.G.eraseIdx i
def WI (S S':cE) (i:Nat) (g:Gl) (z:Int):Prop:=g.sg.toList=[58,61]∧z= -1∧∃(rn zn:Nat) (wo:Option Addr) (wc:Nat),g.r=(rn:Int)∧rn<S.D.length∧(g.op.toList≠[]→g.z=(zn:Int)∧zn<S.D.length)∧(Zf.fp g.op.toList (S.T rn) (S.T zn)).wt≠[]∧S'.D=S.D∧S'.fr=S.fr∧S'.T=S.T∧S'.G=S.G.set i {g with wt:=true,no:=wo,nc:=wc,nd:=(Zf.fp g.op.toList (S.T rn) (S.T zn)).wt}
def WJ (S S':cE) (i:Nat) (g:Gl) (z:Int):Prop:=g.sg.toList=[58,61]∧z=0∧∃(rn zn:Nat) (x:Int) (T2:Nat→Zf.U) (σ:Zf.Vr→Zf.U),g.r=(rn:Int)∧rn<S.D.length∧(g.op.toList≠[]→g.z=(zn:Int)∧zn<S.D.length)∧(Zf.fp g.op.toList (S.T rn) (S.T zn)).wt=[]∧fh g.op.toList (S.T rn) (S.T zn)=some x∧Zf.dI (aX (S.D++[gK x S.D.length])) S.fr T2∧(∀m,m<S.D.length→T2 m=S.T m)∧T2 S.D.length= .n 3 [] x []∧cU (S.D++[gK x S.D.length]) S'.D∧Zf.Made (aX (S.D++[gK x S.D.length])) S.fr S'.fr T2 S'.T (T2 g.l) (T2 S.D.length) σ∧S'.G=S.G.eraseIdx i
def WK (S S':cE) (i:Nat) (g:Gl) (z:Int):Prop:=g.sg.toList=[]∧z=0∧S.T g.l= .n 1 [116,114,117,101] 0 []∧S'.D=S.D∧S'.fr=S.fr∧S'.T=S.T∧S'.G=S.G.eraseIdx i
def WL (cls:List Zf.aI) (S S':cE) (i:Nat) (g:Gl) (p z:Int):Prop:=g.sg.toList=[]∧∃(tx:List UInt8) (us:List Zf.U),S.T g.l= .n 1 tx 0 us∧¬(tx=[116,114,117,101]∧us=[])∧∃(rs:List (Nat×List Nat)) (c:Zf.aI) (V F:List Nat) (T2:Nat→Zf.U) (ws:List Nat) (E:List Ng) (F':List Nat) (Gn:List Gl),rs.length<(Zf.bM cls tx us.length cls.length).length∧nK cls (Zf.bM cls tx us.length cls.length) (dB p (Zf.bM cls tx us.length cls.length).length) (S.T g.l) S.D.length rs∧cls[gu (Zf.bM cls tx us.length cls.length) (dB p (Zf.bM cls tx us.length cls.length).length) rs.length]?=some c∧qu (S.T g.l) S.D.length c V F T2 1 ws∧z=((gu (Zf.bM cls tx us.length cls.length) (dB p (Zf.bM cls tx us.length cls.length).length) rs.length+1:Nat):Int)∧S'.D=S.D++E∧S'.fr=S.fr∧(∀m,m<S.D.length→S'.T m=S.T m)∧(∀m∈V++F,S'.T m=T2 m)∧dD S.D.length E∧(V++F++F').length=(Zf.NG c).length∧(∀f∈F++F',S.D.length≤f∧S'.T f= .v ([],f))∧(F++F').Pairwise (·<·)∧(∀m∈V++F++F',m<S'.D.length)∧bR (mL S'.T S'.D.length (bT S'.T (V++F++F') (Zf.NG c))) c.goals Gn∧S'.G=S.G.eraseIdx i++Gn
def WM (cls:List Zf.aI) (S S':cE) (i:Nat) (g:Gl) (p z:Int):Prop:=g.sg.toList=[]∧z= -1∧∃(tx:List UInt8) (us:List Zf.U),S.T g.l= .n 1 tx 0 us∧¬(tx=[116,114,117,101]∧us=[])∧∃(rs:List (Nat×List Nat)) (E:List Ng) (oo:Option Addr) (oc:Nat),rs.length=(Zf.bM cls tx us.length cls.length).length∧nK cls (Zf.bM cls tx us.length cls.length) (dB p (Zf.bM cls tx us.length cls.length).length) (S.T g.l) S.D.length rs∧Zf.mr rs=true∧S'.D=S.D++E∧S'.fr=S.fr∧(∀m,m<S.D.length→S'.T m=S.T m)∧dD S.D.length E∧S'.G=S.G.set i {g with wt:=true,no:=oo,nc:=oc,nd:=Zf.cK rs}
def RU (cls:List Zf.aI) (S S':cE) (i:Nat) (p z:Int):Prop:=∃g,S.G[i]?=some g∧(WH S S' i g z∨WI S S' i g z∨WJ S S' i g z∨WK S S' i g z∨WL cls S S' i g p z∨WM cls S S' i g p z)
structure NS (S:cE):Prop where
 sto:Zf.dI (aX S.D) S.fr S.T
 ok:bZ S.D S.fr
 gw:∀g∈S.G,mA S.T S.D.length g
 nl:∀g∈S.G,∀v∈g.nd,v<S.D.length
def CL (cls:List Zf.aI) (S S':cE) (i:Nat) (p z:Int):Prop:=RU cls S S' i p z∧NS S'
def JC (cls:List Zf.aI) (S:cE) (i:Nat) (p en:Int):Prop:=∃g,S.G[i]?=some g∧
 ((g.sg.toList=[61]∧en=4∧∃rn:Nat,g.r=(rn:Int)∧rn<S.D.length∧∀θ,Zf.sub θ (S.T g.l)≠Zf.sub θ (S.T rn))∨
  (g.sg.toList=[58,61]∧∃rn zn:Nat,g.r=(rn:Int)∧rn<S.D.length∧(g.op.toList≠[]→g.z=(zn:Int)∧zn<S.D.length)∧(Zf.fp g.op.toList (S.T rn) (S.T zn)).wt=[]∧((en=5∧fh g.op.toList (S.T rn) (S.T zn)=none)∨(en=4∧∃x,fh g.op.toList (S.T rn) (S.T zn)=some x∧∀θ,Zf.sub θ (S.T g.l)≠ .n 3 [] x [])))∨
  (g.sg.toList=[]∧en=4∧∃(tx:List UInt8) (us:List Zf.U),S.T g.l= .n 1 tx 0 us∧¬(tx=[116,114,117,101]∧us=[])∧∃rs:List (Nat×List Nat),rs.length=(Zf.bM cls tx us.length cls.length).length∧nK cls (Zf.bM cls tx us.length cls.length) (dB p (Zf.bM cls tx us.length cls.length).length) (S.T g.l) S.D.length rs∧Zf.mr rs=false))
def p7 (clo:Option Addr) (cn clc:Nat) (nO:Option Addr) (dn nC:Nat) (vo:Option Addr) (vn vc:Nat) (po:Option Addr) (gn pc:Nat) (lo:Option Addr) (ln lc:Nat) (en:Int):Array Value:=#[.slice clo cn clc,.slice nO dn nC,.slice vo vn vc,.slice po gn pc,.slice lo ln lc,.int .i64 en]
structure dW (w:World) (mb:Nat) (cls:List Zf.aI) (clo:Option Addr) (clc:Nat) (V:List Nat) (vo:Option Addr) (vc:Nat) (L:List Int) (lo:Option Addr) (lc:Nat) (S:cE) (nO:Option Addr) (nC:Nat) (po:Option Addr) (pc:Nat):Prop where
 mc:cR w mb (p7 clo cls.length clc nO S.D.length nC vo V.length vc po S.G.length pc lo L.length lc 0) S.D nO nC S.fr S.G po pc
 to:Zf.dI (aX S.D) S.fr S.T
 ar:aY w S.D (fun g=>¬rowOf lo g)
 vr:w.ownsRow 0 3 1 (.slice vo V.length vc) V.length (V.map aJ)
 vl:∀v∈V,v<S.D.length
 lg:w.ownsRow 0 3 1 (.slice lo L.length lc) L.length (L.map fT)
 lv:∀k,rowOf lo k→¬rowOf vo k
 ln:∀g∈S.G,∀k,rowOf g.no k→¬rowOf lo k
 cl:dh w clo cls.length cls
 vb:∀d∈S.D,-1000000000≤d.val∧d.val≤1000000000
 gw:∀g∈S.G,mA S.T S.D.length g
 tb:∀d∈S.D,d.tx.size≤240
def kW (w:World) (mb:Nat) (L:List Int) (lo:Option Addr) (lc:Nat) (en:Int):Prop:=∃cs:Array Value,w.heap[mb]?=some (.cells cs 88 (0,0))∧cs.size=6∧cs[4]?=some (.slice lo L.length lc)∧cs[5]?=some (.int .i64 en)∧w.ownsRow 0 3 1 (.slice lo L.length lc) L.length (L.map fT)
theorem RX {D:List Ng} {fr:Nat→Nat} {T:Nat→Zf.U} {w:World} {mb:Nat} {cs:Array Value} {nO:Option Addr} {nC:Nat} {P:Nat→Prop} (hG:gj w w.heap.size mb 1 cs 88 D nO nC fr T P) {op:List UInt8} {rn zn:Nat} {d e:Ng} (hr:rn<D.length) (hd:D[fr rn]?=some d) (hz:op≠[]→zn<D.length∧D[fr zn]?=some e):ly op d e=fh op (T rn) (T zn):=by
 have key:∀{n:Nat} {d:Ng},n<D.length→D[fr n]?=some d→Zf.isNum (T n)=if d.k=2 then some d.val else none:=fun {n d} hn hd=>by
  obtain⟨d',h1,h2,h3,h4,h5⟩:=hG.node hn
  rw[hd]at h1
  cases h1
  by_cases k1:d.k=1
  ·rw[h4 k1,if_neg (by omega)];rfl
  ·obtain⟨k,tx,num,hl,e⟩:=h5 k1
   rw[e]
   unfold eJ at hl
   rw[if_neg k1]at hl
   by_cases k2:d.k=2
   ·rw[if_pos k2]at hl⊢
    injection hl with hl
    injection hl with u1 hl
    injection hl with u2 u3
    subst u1 u3
    rfl
   ·rw[if_neg k2]at hl⊢
    injection hl with hl
    injection hl with u1 hl
    subst u1
    rfl
 unfold ly fh
 rw[key hr hd]
 by_cases k2:d.k=2
 ·rw[if_pos k2,if_pos k2]
  dsimp only
  by_cases ho:op=[]
  ·rw[if_pos ho,if_pos ho]
  ·rw[if_neg ho,if_neg ho,key (hz ho).1 (hz ho).2]
   by_cases e2:e.k=2
   ·rw[if_pos e2,if_pos e2]
   ·rw[if_neg e2,if_neg e2]
 ·rw[if_neg k2,if_neg k2]
end Go.Proofs.YthfjnfcekeknlabGreatDoor
namespace Zf
structure iV (x:aD):Prop where
 ok:tP x
 sg:x.sign=[]∨x.sign=[61]∨x.sign=[58,61]
 nm:x.sign=[]→x.left.kind=2
 oe:x.op≠[]→x.sign=[58,61]
 ol:x.op.length≤2
end Zf
namespace Go.Proofs.YthfjnfcekeknlabGreatDoor
open Go.RowKit
theorem mL.gw {T:Nat→Zf.U} {len:Nat} {η:List UInt8→Zf.U} {x:Zf.aD} {g:Gl} (h:mL T len η x g) (hx:Zf.iV x):mA T len g:=by
 refine⟨h.ll,by rw[h.sg];exact hx.sg,fun q=> ?_,fun q=>h.r0 (by rw[←h.sg];exact q),fun q=> ?_,fun q=>h.z0 (by rw[←h.op];exact q),fun q=> ?_,fun q=> ?_,by rw[←Zf.nA,h.op];exact hx.ol⟩
 ·rw[h.sg]at q
  rw[h.tl]
  have hk:=hx.nm q
  refine⟨x.left.text.toList,x.left.args.map (Zf.bJ η 7),?_⟩
  unfold Zf.bJ
  rw[if_neg (by omega),if_neg (by omega)]
 ·rw[h.sg]at q
  obtain⟨r,hr,_⟩:=hx.ok.r1 q
  obtain⟨n,h1,h2,_⟩:=h.r1 r hr
  exact⟨n,h1,h2⟩
 ·rw[h.op]at q
  obtain⟨r,hr,_⟩:=hx.ok.z1 q
  obtain⟨n,h1,h2,_⟩:=h.z1 r hr
  exact⟨n,h1,h2⟩
 ·rw[h.op]at q
  rw[h.sg]
  exact hx.oe q
theorem mA.sub {T T':Nat→Zf.U} {len len':Nat} {σ:Zf.Vr→Zf.U} {g:Gl} (h:mA T len g) (ht:∀n,n<len→T' n=Zf.sub σ (T n)) (hl:len≤len'):mA T' len' g:=by
 refine⟨Nat.lt_of_lt_of_le h.ll hl,h.sg,fun q=> ?_,h.r0,fun q=> ?_,h.z0,fun q=> ?_,h.oe,h.ol⟩
 ·obtain⟨tx,us,e⟩:=h.nm q
  exact⟨tx,us.map (Zf.sub σ),by rw[ht _ h.ll,e,Zf.ej]⟩
 ·obtain⟨n,h1,h2⟩:=h.rr q
  exact⟨n,h1,Nat.lt_of_lt_of_le h2 hl⟩
 ·obtain⟨n,h1,h2⟩:=h.zz q
  exact⟨n,h1,Nat.lt_of_lt_of_le h2 hl⟩
theorem mA.more {T T':Nat→Zf.U} {len len':Nat} {g:Gl} (h:mA T len g) (ht:∀n,n<len→T' n=T n) (hl:len≤len'):mA T' len' g:=by
 refine⟨Nat.lt_of_lt_of_le h.ll hl,h.sg,fun q=> ?_,h.r0,fun q=> ?_,h.z0,fun q=> ?_,h.oe,h.ol⟩
 ·obtain⟨tx,us,e⟩:=h.nm q
  exact⟨tx,us,by rw[ht _ h.ll,e]⟩
 ·obtain⟨n,h1,h2⟩:=h.rr q
  exact⟨n,h1,Nat.lt_of_lt_of_le h2 hl⟩
 ·obtain⟨n,h1,h2⟩:=h.zz q
  exact⟨n,h1,Nat.lt_of_lt_of_le h2 hl⟩
theorem cU.val {D D':List Ng} (h:cU D D') (hv:∀d∈D,-1000000000≤d.val∧d.val≤1000000000):∀d∈D',-1000000000≤d.val∧d.val≤1000000000:=fun d hd=>by
 obtain⟨n,hn,rfl⟩:=List.getElem_of_mem hd
 have hn':n<D.length:=by rw[←h.len];exact hn
 have e:=h.at hn' hn
 have e2:(iD D[n]).val=(iD D'[n]).val:=congrArg Ng.val e
 change D[n].val=D'[n].val at e2
 rw[←e2]
 exact hv _ (List.getElem_mem hn')
theorem cU.EB {D D':List Ng} (h:cU D D') (hv:∀d∈D,d.tx.size≤240):∀d∈D',d.tx.size≤240:=fun d hd=>by
 obtain⟨n,hn,rfl⟩:=List.getElem_of_mem hd
 have hn':n<D.length:=by rw[←h.len];exact hn
 have e:=h.at hn' hn
 have e2:(iD D[n]).tx=(iD D'[n]).tx:=congrArg Ng.tx e
 change D[n].tx=D'[n].tx at e2
 rw[←e2]
 exact hv _ (List.getElem_mem hn')
theorem dD.EB {b:Nat} {D E:List Ng} (h:dD b E) (hv:∀d∈D,d.tx.size≤240):∀d∈D++E,d.tx.size≤240:=fun d hd=>by
 rcases List.mem_append.1 hd with q | q
 ·exact hv d q
 ·obtain⟨i,hi,rfl⟩:=List.getElem_of_mem q
  exact(h i _ (List.getElem?_eq_getElem hi)).2.2.2.1
theorem dD.val {b:Nat} {D E:List Ng} (h:dD b E) (hv:∀d∈D,-1000000000≤d.val∧d.val≤1000000000):∀d∈D++E,-1000000000≤d.val∧d.val≤1000000000:=fun d hd=>by
 rcases List.mem_append.1 hd with q | q
 ·exact hv d q
 ·obtain⟨i,hi,rfl⟩:=List.getElem_of_mem q
  obtain⟨_,_,_,_,h1,h2⟩:=h i _ (List.getElem?_eq_getElem hi)
  omega
section
variable {w:World} {mb:Nat} {cls:List Zf.aI} {clo:Option Addr} {clc:Nat} {V:List Nat} {vo:Option Addr} {vc:Nat} {L:List Int} {lo:Option Addr} {lc:Nat} {S:cE} {nO:Option Addr} {nC:Nat} {po:Option Addr} {pc:Nat}
theorem dW.no (h:dW w mb cls clo clc V vo vc L lo lc S nO nC po pc) {k:Nat} {ys:Array Value} {Y:TypeId} (hk:w.heap[k]?=some (.cells ys Y (0,0))) (h1:Y≠88) (h2:Y≠147) (h3:Y≠133):¬(k=mb∨rowOf nO k∨rowOf po k):=by
 rintro(e | e | e)
 ·rw[e,h.mc.st.blk]at hk
  simp only[Option.some.injEq,Obj.cells.injEq]at hk
  exact h1 hk.2.1.symm
 ·exact aN h.mc.st.own hk h2 e
 ·exact aN h.mc.pool hk h3 e
theorem dW.row (h:dW w mb cls clo clc V vo vc L lo lc S nO nC po pc) {w':World} {R R':Nat→Prop} (hf:aq R R' w w') (hR:∀k,R k→k=mb∨rowOf nO k∨rowOf po k) {b:Nat} {o:Option Addr} {n cap:Nat} {xs:List Value} (ho:w.ownsRow b 3 1 (.slice o n cap) n xs):w'.ownsRow b 3 1 (.slice o n cap) n xs:=ai ho fun g q=>by
 obtain⟨cur,hc⟩:=aH ho (aG q)
 exact hf.block g (af hc) fun r=>h.no hc (by decide) (by decide) (by decide) (hR g r)
theorem dW.args (h:dW w mb cls clo clc V vo vc L lo lc S nO nC po pc) {w':World} {R R':Nat→Prop} (hf:aq R R' w w') (hR:∀k,R k→k=mb∨rowOf nO k∨rowOf po k):aY w' S.D (fun g=>¬rowOf lo g):=h.ar.keep fun g _ hp hg=>⟨(hf.block g (af hg) fun r=>h.no hg (by decide) (by decide) (by decide) (hR g r)).trans hg,hp⟩
theorem dW.put (h:dW w mb cls clo clc V vo vc L lo lc S nO nC po pc) {w':World} {R R':Nat→Prop} (hf:aq R R' w w') (hR:∀k,R k→k=mb∨rowOf nO k∨rowOf po k) {S':cE} {nO':Option Addr} {nC':Nat} {po':Option Addr} {pc':Nat} (hm:cR w' mb (p7 clo cls.length clc nO' S'.D.length nC' vo V.length vc po' S'.G.length pc' lo L.length lc 0) S'.D nO' nC' S'.fr S'.G po' pc') (ht:Zf.dI (aX S'.D) S'.fr S'.T) (ha:aY w' S'.D (fun g=>¬rowOf lo g)) (hl:S.D.length≤S'.D.length) (hn:∀g∈S'.G,g∈S.G∨∀k,rowOf g.no k→w.heap.size≤k) (hv:∀d∈S'.D,-1000000000≤d.val∧d.val≤1000000000) (hg:∀g∈S'.G,mA S'.T S'.D.length g) (Iu:∀d∈S'.D,d.tx.size≤240):dW w' mb cls clo clc V vo vc L lo lc S' nO' nC' po' pc':=by
 refine⟨hm,ht,ha,h.row hf hR h.vr,fun v q=>Nat.lt_of_lt_of_le (h.vl v q) hl,h.row hf hR h.lg,h.lv,fun g q k r s=> ?_,?_,hv,hg,Iu⟩
 ·rcases hn g q with e | e
  ·exact h.ln g e k r s
  ·have:=e k r
   have:=(cF h.lg s).2
   omega
 ·exact(ez.lK hf fun k ys Y hk hY r=>h.no hk (by rcases hY with e | e | e<;>(rw[e];decide)) (by rcases hY with e | e | e<;>(rw[e];decide)) (by rcases hY with e | e | e<;>(rw[e];decide)) (hR k r)).cls h.cl
theorem dW.fail (h:dW w mb cls clo clc V vo vc L lo lc S nO nC po pc) {w':World} {R R':Nat→Prop} (hf:aq R R' w w') (hR:∀k,R k→k=mb∨rowOf nO k∨rowOf po k) {cs:Array Value} {en:Int} (hb:w'.heap[mb]?=some (.cells (cs.setIfInBounds 5 (.int .i64 en)) 88 (0,0))) (h6:cs.size=6) (h4:cs[4]?=some (.slice lo L.length lc)):kW w' mb L lo lc en:=
 ⟨_,hb,by simpa using h6,by rw[Array.getElem?_setIfInBounds_ne (by omega)];exact h4,by rw[Array.getElem?_setIfInBounds_self,if_pos (by omega)],h.row hf hR h.lg⟩
end
end Go.Proofs.YthfjnfcekeknlabGreatDoor
namespace Go.Proofs.YthfjnfcekeknlabGreatDoor
open Go.RowKit
theorem AP (clo:Option Addr) (cn clc:Nat) (nO:Option Addr) (dn nC:Nat) (vo:Option Addr) (vn vc:Nat) (po:Option Addr) (gn pc:Nat) (lo:Option Addr) (ln lc:Nat) (en:Int) (po':Option Addr) (gn' pc':Nat):(p7 clo cn clc nO dn nC vo vn vc po gn pc lo ln lc en).setIfInBounds 3 (.slice po' gn' pc')=p7 clo cn clc nO dn nC vo vn vc po' gn' pc' lo ln lc en:=rfl
theorem GC (clo:Option Addr) (cn clc:Nat) (nO:Option Addr) (dn nC:Nat) (vo:Option Addr) (vn vc:Nat) (po:Option Addr) (gn pc:Nat) (lo:Option Addr) (ln lc:Nat) (en:Int) (nO':Option Addr) (dn' nC':Nat):(p7 clo cn clc nO dn nC vo vn vc po gn pc lo ln lc en).setIfInBounds 1 (.slice nO' dn' nC')=p7 clo cn clc nO' dn' nC' vo vn vc po gn pc lo ln lc en:=rfl
theorem mem_erase {G:List Gl} {i:Nat} {g:Gl} (h:g∈G.eraseIdx i):g∈G:=List.mem_of_mem_eraseIdx h
theorem DR (θ:Zf.Vr→Zf.U) (x:Int):Zf.sub θ (.n 3 [] x [])= .n 3 [] x []:=by rw[Zf.ej];rfl
theorem GD {op:List UInt8} {u v:Zf.U} {x:Int} (h:fh op u v=some x) (hu:∀a,Zf.isNum u=some a→-1000000000≤a∧a≤1000000000): -1000000000≤x∧x≤1000000000:=by
 unfold fh at h
 cases hq:Zf.isNum u with
 | none=>rw[hq]at h;cases h
 | some a=>
  rw[hq]at h
  dsimp only at h
  split at h
  ·cases h;exact hu x hq
  ·split at h
   ·split at h
    ·rename_i b _ hr
     cases h
     exact hr
    ·cases h
   ·cases h
def WN (mb:Nat) (cls:List Zf.aI) (clo:Option Addr) (clc:Nat) (V:List Nat) (vo:Option Addr) (vc:Nat) (L:List Int) (lo:Option Addr) (lc:Nat) (S:cE) (nO po:Option Addr) (i:Nat) (p:Int) (w:World) (e:Ending) (w':World):Prop:=
 (∃(z:Int) (S':cE) (nO':Option Addr) (nC':Nat) (po':Option Addr) (pc':Nat),e= .returned (.int .i64 z)∧RU cls S S' i p z∧dW w' mb cls clo clc V vo vc L lo lc S' nO' nC' po' pc'∧S'.D.length≤S.D.length+1100000∧S'.G.length≤S.G.length+6∧aq (fun k=>k=mb∨rowOf nO k∨rowOf po k) (fun k=>k=mb∨rowOf nO' k∨rowOf po' k) w w')∨
 (∃en:Int,e= .returned (.int .i64 (-2))∧JC cls S i p en∧(en=4∨en=5)∧kW w' mb L lo lc en∧aq (fun k=>k=mb∨rowOf nO k∨rowOf po k) (fun k=>k=mb) w w')
theorem dW.Ye {w:World} {mb:Nat} {cls:List Zf.aI} {clo:Option Addr} {clc:Nat} {V:List Nat} {vo:Option Addr} {vc:Nat} {L:List Int} {lo:Option Addr} {lc:Nat} {S:cE} {nO:Option Addr} {nC:Nat} {po:Option Addr} {pc:Nat} (h:dW w mb cls clo clc V vo vc L lo lc S nO nC po pc) {i:Nat} {g:Gl} (hi:i<S.G.length) (iK:S.G[i]=g) (hgl:∀c∈cls,(∀x∈c.goals,Zf.iV x)∧c.goals.length≤6) {p:Int} {e:Ending} {w':World} (hp:RR (fun g=>¬rowOf lo g) mb (p7 clo cls.length clc nO S.D.length nC vo V.length vc po S.G.length pc lo L.length lc 0) S.D nO nC S.fr S.T S.G po pc cls i g p w e w'):WN mb cls clo clc V vo vc L lo lc S nO po i p w e w':=by
 have hgi?:S.G[i]?=some g:=by rw[List.getElem?_eq_getElem hi,iK]
 have km:g∈S.G:=by rw[←iK];exact List.getElem_mem hi
 have hG0:gj w w.heap.size mb 1 _ 88 S.D nO nC S.fr S.T (fun g=>¬rowOf lo g):=⟨h.mc.st,h.mc.ok,h.to,h.ar,Nat.le_refl _⟩
 have hel:(S.G.eraseIdx i).length≤S.G.length+6:=Nat.le_trans (List.length_eraseIdx_le _ _) (by omega)
 have RY:∀g':Gl,(S.G.set i g').length≤S.G.length+6:=fun g'=>by rw[List.length_set];omega
 rcases hp with⟨hs,rn,hr,hrl,hq⟩ | ⟨hs,rn,zn,d0,e0,hr,hrl,hd0,hzz,hq⟩ | ⟨hs,ht,rfl,po',pc',hm',hf'⟩ | ⟨hs,tx,us,htx,hnt,hq⟩
 ·rcases hq with⟨D',fr',σ,T',po',pc',rfl,hsm,pE,hm',hf'⟩ | ⟨hno,rfl,hb',hf'⟩
  ·left
   have hf2:aq (fun k=>k=mb∨rowOf nO k∨rowOf po k) (fun k=>k=mb∨rowOf nO k∨rowOf po' k) w w':=⟨hf'.os,hf'.tape,hf'.output,hf'.size,fun k hk q=>hf'.block k hk (fun r=>q (by rcases r with r | r;exact Or.inr (Or.inl r);exact Or.inl r)),fun k q=>by
    rcases hf'.row k (by rcases q with q | q | q;exact Or.inr (Or.inl q);exact Or.inl q;exact Or.inr (Or.inr q))with(r | r) | r
    ·exact Or.inl (Or.inr (Or.inl r))
    ·exact Or.inl (Or.inl r)
    ·exact Or.inr r⟩
   rw[AP,←hsm.len]at hm'
   refine⟨0,⟨D',fr',T',S.G.eraseIdx i⟩,nO,nC,po',pc',rfl,⟨g,hgi?,Or.inl ⟨hs,rfl,rn,σ,hr,hrl,hsm,pE,rfl⟩⟩,h.put hf2 (fun k q=>q) hm' (by rw[hsm.g];exact pE.sto) ((h.args hf2 (fun k q=>q)).same hsm) (Nat.le_of_eq hsm.len.symm) (fun x hx=>Or.inl (mem_erase hx)) (hsm.val h.vb) (fun x hx=>(h.gw x (mem_erase hx)).sub (fun n _=>pE.is n) (Nat.le_of_eq hsm.len.symm)) (hsm.EB h.tb),by rw[hsm.len];omega,hel,hf2⟩
  ·right
   refine⟨4,rfl,⟨g,hgi?,Or.inl ⟨hs,rfl,rn,hr,hrl,hno⟩⟩,Or.inl rfl,h.fail hf' (fun k q=>by rcases q with q | q;exact Or.inr (Or.inl q);exact Or.inl q) hb' rfl rfl,⟨hf'.os,hf'.tape,hf'.output,hf'.size,fun k hk q=>hf'.block k hk (fun r=>q (by rcases r with r | r;exact Or.inr (Or.inl r);exact Or.inl r)),fun k q=>Or.inl (Or.inl q)⟩⟩
 ·have hval:=RX hG0 (op:=g.op.toList) hrl hd0 (fun q=>⟨(hzz q).2.1,(hzz q).2.2⟩)
  have GF:g.op.toList≠[]→g.z=(zn:Int)∧zn<S.D.length:=fun q=>⟨(hzz q).1,(hzz q).2.1⟩
  rcases hq with⟨hw,wo,wc,rfl,hm',hf',hwo⟩ | ⟨hw,hv,rfl,hb',hf'⟩ | ⟨hw,x,no',nc',T2,w2,hv,ok2,to2,old2,tn2,hm2,ha2,hf2,hq⟩
  ·left
   have hf2:aq (fun k=>k=mb∨rowOf nO k∨rowOf po k) (fun k=>k=mb∨rowOf nO k∨rowOf po k) w w':=⟨hf'.os,hf'.tape,hf'.output,hf'.size,fun k hk q=>hf'.block k hk (fun r=>q (Or.inr (Or.inr r))),fun k q=>Or.inl q⟩
   have elS:S.G.length=(S.G.set i {g with wt:=true,no:=wo,nc:=wc,nd:=(Zf.fp g.op.toList (S.T rn) (S.T zn)).wt}).length:=by simp
   rw[elS]at hm'
   refine⟨-1,⟨S.D,S.fr,S.T,S.G.set i {g with wt:=true,no:=wo,nc:=wc,nd:=(Zf.fp g.op.toList (S.T rn) (S.T zn)).wt}⟩,nO,nC,po,pc,rfl,⟨g,hgi?,Or.inr (Or.inl ⟨hs,rfl,rn,zn,wo,wc,hr,hrl,GF,hw,rfl,rfl,rfl,rfl⟩)⟩,h.put hf2 (fun k q=>q) hm' h.to (h.args hf2 (fun k q=>q)) (Nat.le_refl _) (fun x hx=> ?_) h.vb (fun x hx=> ?_) h.tb,Nat.le_add_right _ _,RY _,hf2⟩
   ·rcases List.mem_or_eq_of_mem_set hx with q | q
    ·exact Or.inl q
    ·right;rw[q];exact hwo
   ·rcases List.mem_or_eq_of_mem_set hx with q | q
    ·exact h.gw x q
    ·rw[q];exact⟨(h.gw g km).ll,(h.gw g km).sg,(h.gw g km).nm,(h.gw g km).r0,(h.gw g km).rr,(h.gw g km).z0,(h.gw g km).zz,(h.gw g km).oe,(h.gw g km).ol⟩
  ·right
   refine⟨5,rfl,⟨g,hgi?,Or.inr (Or.inl ⟨hs,rn,zn,hr,hrl,GF,hw,Or.inl ⟨rfl,by rw[←hval];exact hv⟩⟩)⟩,Or.inr rfl,h.fail hf' (fun k q=>Or.inl q) hb' rfl rfl,⟨hf'.os,hf'.tape,hf'.output,hf'.size,fun k hk q=>hf'.block k hk (fun r=>q (Or.inl r)),fun k q=>Or.inl (Or.inl q)⟩⟩
  ·have hvU:fh g.op.toList (S.T rn) (S.T zn)=some x:=by rw[←hval];exact hv
   have hz2:=hf2.size
   rcases hq with⟨D',fr',σ,T',po',pc',rfl,hsm,pE,hm',hf'⟩ | ⟨hno,rfl,hb',hf'⟩
   ·left
    have hf3:aq (fun k=>k=mb∨rowOf nO k∨rowOf po k) (fun k=>k=mb∨rowOf no' k∨rowOf po' k) w w':=by
     have hz3:=hf'.size
     have hno:∀k,rowOf no' k→cI mb nO k∨w.heap.size≤k:=fun k q=>hf2.row k (Or.inr q)
     refine⟨hf'.os.trans hf2.os,hf'.tape.trans hf2.tape,hf'.output.trans hf2.output,by omega,fun k hk q=> ?_,fun k q=> ?_⟩
     ·rw[hf'.block k (by omega) ?_,hf2.block k hk ?_]
      ·rintro(r | r)
       ·exact q (Or.inl r)
       ·exact q (Or.inr (Or.inl r))
      ·rintro(r | r)
       ·rcases hno k r with(s | s) | s
        ·exact q (Or.inl s)
        ·exact q (Or.inr (Or.inl s))
        ·omega
       ·exact q (Or.inl r)
     ·rcases hf'.row k (by rcases q with q | q | q;exact Or.inr (Or.inl q);exact Or.inl q;exact Or.inr (Or.inr q))with(r | r) | r
      ·rcases hno k r with(s | s) | s
       ·exact Or.inl (Or.inl s)
       ·exact Or.inl (Or.inr (Or.inl s))
       ·exact Or.inr s
      ·exact Or.inl (Or.inl r)
      ·right;omega
    rw[GC,AP,←hsm.len]at hm'
    have hlen:(S.D++[gK x S.D.length]).length=S.D.length+1:=by simp
    have Yf:∀d∈S.D++[gK x S.D.length],-1000000000≤d.val∧d.val≤1000000000:=fun d hd=>by
     rcases List.mem_append.1 hd with q | q
     ·exact h.vb d q
     ·rw[List.mem_singleton.1 q]
      refine GD hvU fun a ha=> ?_
      obtain⟨d',k1,k2,k3,k4,k5⟩:=hG0.node hrl
      by_cases kk:d'.k=1
      ·rw[k4 kk]at ha;cases ha
      ·obtain⟨k,tx,num,hl,e⟩:=k5 kk
       rw[e]at ha
       have hb:=h.vb d' k3
       unfold eJ at hl
       rw[if_neg kk]at hl
       by_cases k2':d'.k=2
       ·rw[if_pos k2']at hl
        injection hl with hl
        injection hl with u1 hl
        injection hl with u2 u3
        subst u1 u3
        have:d'.val=a:=by simpa [Zf.isNum] using ha
        omega
       ·rw[if_neg k2']at hl
        injection hl with hl
        injection hl with u1 hl
        subst u1
        simp[Zf.isNum]at ha
    refine⟨0,⟨D',fr',T',S.G.eraseIdx i⟩,no',nc',po',pc',rfl,⟨g,hgi?,Or.inr (Or.inr (Or.inl ⟨hs,rfl,rn,zn,x,T2,σ,hr,hrl,GF,hw,hvU,to2,old2,tn2,hsm,pE,rfl⟩))⟩,h.put hf3 (fun k q=>q) hm' (by rw[hsm.g];exact pE.sto) ?_ (by rw[hsm.len,hlen];omega) (fun x hx=>Or.inl (mem_erase hx)) (hsm.val Yf) (fun y hy=> ?_) (hsm.EB (fun d hd=>by rcases List.mem_append.1 hd with q | q;exact h.tb d q;rw[List.mem_singleton.1 q];exact Nat.zero_le _)),by rw[hsm.len,hlen];omega,hel,hf3⟩
    ·refine aY.same (ha2.keep fun k _ hp hk=>⟨(hf'.block k (af hk) ?_).trans hk,hp⟩) hsm
     rintro(r | r)
     ·exact aN hm2.st.own hk (by decide) r
     ·rw[r,hm2.st.blk]at hk
      simp only[Option.some.injEq,Obj.cells.injEq]at hk
      exact absurd hk.2.1 (by decide)
    ·exact((h.gw y (mem_erase hy)).more (T':=T2) old2 (Nat.le_refl _)).sub (fun n _=>pE.is n) (by rw[hsm.len,hlen];omega)
   ·right
    refine⟨4,rfl,⟨g,hgi?,Or.inr (Or.inl ⟨hs,rn,zn,hr,hrl,GF,hw,Or.inr ⟨rfl,x,hvU,fun θ e=>hno θ ?_⟩⟩)⟩,Or.inl rfl,?_,?_⟩
    ·rw[old2 _ (h.gw g km).ll,tn2,DR,e]
    ·have nI:=h.row hf2 (fun k q=>by rcases q with q | q;exact Or.inl q;exact Or.inr (Or.inl q)) h.lg
     refine⟨_,hb',rfl,rfl,rfl,ai nI fun k q=> ?_⟩
     obtain⟨cur,hc⟩:=aH nI (aG q)
     refine hf'.block k (af hc) ?_
     rintro(r | r)
     ·exact aN hm2.st.own hc (by decide) r
     ·rw[r,hm2.st.blk]at hc
      simp only[Option.some.injEq,Obj.cells.injEq]at hc
      exact absurd hc.2.1 (by decide)
    ·have FI:∀k,rowOf no' k→cI mb nO k∨w.heap.size≤k:=fun k q=>hf2.row k (Or.inr q)
     have hz3:=hf'.size
     refine⟨hf'.os.trans hf2.os,hf'.tape.trans hf2.tape,hf'.output.trans hf2.output,by omega,fun k hk q=> ?_,fun k q=>Or.inl (Or.inl q)⟩
     rw[hf'.block k (by omega) ?_,hf2.block k hk ?_]
     ·rintro(r | r)
      ·exact q (Or.inl r)
      ·exact q (Or.inr (Or.inl r))
     ·rintro(r | r)
      ·rcases FI k r with(s | s) | s
       ·exact q (Or.inl s)
       ·exact q (Or.inr (Or.inl s))
       ·omega
      ·exact q (Or.inl r)
 ·left
  have hf2:aq (fun k=>k=mb∨rowOf nO k∨rowOf po k) (fun k=>k=mb∨rowOf nO k∨rowOf po' k) w w':=⟨hf'.os,hf'.tape,hf'.output,hf'.size,fun k hk q=>hf'.block k hk (fun r=>q (Or.inl r)),fun k q=>by
   rcases q with q | q | q
   ·exact Or.inl (Or.inl q)
   ·exact Or.inl (Or.inr (Or.inl q))
   ·rcases hf'.row k (Or.inr q)with r | r
    ·exact Or.inl (Or.inl r)
    ·exact Or.inr r⟩
  rw[AP]at hm'
  exact⟨0,⟨S.D,S.fr,S.T,S.G.eraseIdx i⟩,nO,nC,po',pc',rfl,⟨g,hgi?,Or.inr (Or.inr (Or.inr (Or.inl ⟨hs,rfl,ht,rfl,rfl,rfl,rfl⟩)))⟩,h.put hf2 (fun k q=>q) hm' h.to (h.args hf2 (fun k q=>q)) (Nat.le_refl _) (fun x hx=>Or.inl (mem_erase hx)) h.vb (fun x hx=>h.gw x (mem_erase hx)) h.tb,Nat.le_add_right _ _,hel,hf2⟩
 ·rcases hq with⟨rs,c,W,F,T2,ws,E,F',no',nc',T',Gn,po',pc',h1,h2,h3,h4,rfl,h6,h7,h8,h9,h10,h11,h12,h13,h14,h15,h16,h17,h18⟩ | ⟨rs,h1,h2,h3,rfl,⟨cs2,h5,no1,n1,nc1,rfl⟩,h6⟩ | ⟨rs,E,no1,nc1,T1,oo,oc,h1,h2,h3,rfl,h5,h6,h7,h8,h9,h10,h11,h12⟩
  ·left
   have hf2:aq (fun k=>k=mb∨rowOf nO k∨rowOf po k) (fun k=>k=mb∨rowOf no' k∨rowOf po' k) w w':=⟨h18.os,h18.tape,h18.output,h18.size,fun k hk q=>h18.block k hk (fun r=>q (by rcases r with r | r;exact Or.inl r;exact Or.inr (Or.inl r))),fun k q=>by
    rcases h18.row k (by rcases q with q | q | q;exact Or.inl (Or.inl q);exact Or.inl (Or.inr q);exact Or.inr q)with(r | r) | r
    ·exact Or.inl (Or.inl r)
    ·exact Or.inl (Or.inr (Or.inl r))
    ·exact Or.inr r⟩
   rw[GC,AP]at h6
   have hcm:c∈cls:=List.mem_of_getElem? h3
   have hGn:=h16.length
   have hlen:(S.D++E).length=S.D.length+E.length:=List.length_append
   refine⟨_,⟨S.D++E,S.fr,T',S.G.eraseIdx i++Gn⟩,no',nc',po',pc',rfl,⟨g,hgi?,Or.inr (Or.inr (Or.inr (Or.inr (Or.inl ⟨hs,tx,us,htx,hnt,rs,c,W,F,T2,ws,E,F',Gn,h1,h2,h3,h4,rfl,rfl,rfl,h9,h10,h11,h12,h13,h14,h15,h16,rfl⟩))))⟩,h.put hf2 (fun k q=>q) h6 h8 h7 (dV _ _) (fun x hx=> ?_) (h11.val h.vb) (fun x hx=> ?_) (h11.EB h.tb),by dsimp only;omega,?_,hf2⟩
   ·rcases List.mem_append.1 hx with q | q
    ·exact Or.inl (mem_erase q)
    ·right
     obtain⟨j,hj,rfl⟩:=List.getElem_of_mem q
     intro k hk
     rw[(h16.at j (by omega) hj).no]at hk
     obtain⟨_,e,_⟩:=hk
     cases e
   ·rcases List.mem_append.1 hx with q | q
    ·exact(h.gw x (mem_erase q)).more h9 (dV _ _)
    ·obtain⟨j,hj,rfl⟩:=List.getElem_of_mem q
     exact(h16.at j (by omega) hj).gw ((hgl c hcm).1 _ (List.getElem_mem (by omega)))
   ·dsimp only
    have:=(hgl c hcm).2
    have:=List.length_eraseIdx_le S.G i
    rw[List.length_append]
    omega
  ·right
   refine⟨4,rfl,⟨g,hgi?,Or.inr (Or.inr ⟨hs,rfl,tx,us,htx,hnt,rs,h1,h2,h3⟩)⟩,Or.inl rfl,h.fail h6 (fun k q=>by rcases q with q | q;exact Or.inl q;exact Or.inr (Or.inl q)) h5 rfl rfl,⟨h6.os,h6.tape,h6.output,h6.size,fun k hk q=>h6.block k hk (fun r=>q (by rcases r with r | r;exact Or.inl r;exact Or.inr (Or.inl r))),fun k q=>Or.inl (Or.inl q)⟩⟩
  ·left
   have hf2:aq (fun k=>k=mb∨rowOf nO k∨rowOf po k) (fun k=>k=mb∨rowOf no1 k∨rowOf po k) w w':=⟨h12.os,h12.tape,h12.output,h12.size,fun k hk q=>h12.block k hk (fun r=>q (by rcases r with(r | r) | r;exact Or.inl r;exact Or.inr (Or.inl r);exact Or.inr (Or.inr r))),fun k q=>by
    rcases h12.row k (by rcases q with q | q | q;exact Or.inl (Or.inl q);exact Or.inl (Or.inr q);exact Or.inr q)with((r | r) | r) | r
    ·exact Or.inl (Or.inl r)
    ·exact Or.inl (Or.inr (Or.inl r))
    ·exact Or.inl (Or.inr (Or.inr r))
    ·exact Or.inr r⟩
   have elS:S.G.length=(S.G.set i {g with wt:=true,no:=oo,nc:=oc,nd:=Zf.cK rs}).length:=by simp
   rw[GC,elS]at h5
   have hlen:(S.D++E).length=S.D.length+E.length:=List.length_append
   refine⟨-1,⟨S.D++E,S.fr,T1,S.G.set i {g with wt:=true,no:=oo,nc:=oc,nd:=Zf.cK rs}⟩,no1,nc1,po,pc,rfl,⟨g,hgi?,Or.inr (Or.inr (Or.inr (Or.inr (Or.inr ⟨hs,rfl,tx,us,htx,hnt,rs,E,oo,oc,h1,h2,h3,rfl,rfl,h8,h9,rfl⟩))))⟩,h.put hf2 (fun k q=>q) h5 h7 h6 (dV _ _) (fun x hx=> ?_) (h9.val h.vb) (fun x hx=> ?_) (h9.EB h.tb),by dsimp only;omega,RY _,hf2⟩
   ·rcases List.mem_or_eq_of_mem_set hx with q | q
    ·exact Or.inl q
    ·right;rw[q];exact h11
   ·rcases List.mem_or_eq_of_mem_set hx with q | q
    ·exact(h.gw x q).more h8 (dV _ _)
    ·rw[q]
     have:=(h.gw g km).more h8 (dV S.D E)
     exact⟨this.ll,this.sg,this.nm,this.r0,this.rr,this.z0,this.zz,this.oe,this.ol⟩
def Yg (mb:Nat) (cls:List Zf.aI) (clo:Option Addr) (clc:Nat) (V:List Nat) (vo:Option Addr) (vc:Nat) (L:List Int) (lo:Option Addr) (lc:Nat) (S:cE) (nO po:Option Addr) (i:Nat) (p:Int) (w:World) (e:Ending) (w':World):Prop:=
 (∃(z:Int) (S':cE) (nO':Option Addr) (nC':Nat) (po':Option Addr) (pc':Nat),e= .returned (.int .i64 z)∧CL cls S S' i p z∧dW w' mb cls clo clc V vo vc L lo lc S' nO' nC' po' pc'∧S'.D.length≤S.D.length+1100000∧S'.G.length≤S.G.length+6∧aq (fun k=>k=mb∨rowOf nO k∨rowOf po k) (fun k=>k=mb∨rowOf nO' k∨rowOf po' k) w w')∨
 (∃en:Int,e= .returned (.int .i64 (-2))∧JC cls S i p en∧(en=4∨en=5)∧kW w' mb L lo lc en∧aq (fun k=>k=mb∨rowOf nO k∨rowOf po k) (fun k=>k=mb) w w')
theorem dW.go {w:World} {mb:Nat} {cls:List Zf.aI} {clo:Option Addr} {clc:Nat} {V:List Nat} {vo:Option Addr} {vc:Nat} {L:List Int} {lo:Option Addr} {lc:Nat} {S:cE} {nO:Option Addr} {nC:Nat} {po:Option Addr} {pc:Nat} (h:dW w mb cls clo clc V vo vc L lo lc S nO nC po pc) {i:Nat} {g:Gl} (hi:i<S.G.length) (iK:S.G[i]=g) (hgl:∀c∈cls,(∀x∈c.goals,Zf.iV x)∧c.goals.length≤6) {p:Int} {e:Ending} {w':World} (hp:RR (fun g=>¬rowOf lo g) mb (p7 clo cls.length clc nO S.D.length nC vo V.length vc po S.G.length pc lo L.length lc 0) S.D nO nC S.fr S.T S.G po pc cls i g p w e w'):Yg mb cls clo clc V vo vc L lo lc S nO po i p w e w':=by
 rcases h.Ye hi iK hgl hp with⟨z,S',nO',nC',po',pc',h1,h2,h3,h4⟩ | h1
 ·exact Or.inl ⟨z,S',nO',nC',po',pc',h1,⟨h2,h3.to,h3.mc.ok,h3.gw,h3.mc.nlt⟩,h3,h4⟩
 ·exact Or.inr h1
def mX (V:List Nat) (S:cE):Bool:=decide (24<S.G.length)||((V.map fun n:Nat=>(n:Int)).any (fY S.T)||S.G.any (jr S.D S.fr S.T))
theorem CM {w W w7:World} (hW:Below w.heap.size w W) {mb:Nat} {cs:Array Value} (hb:w.heap[mb]?=some (.cells cs 88 (0,0))) {L:List Int} {lo:Option Addr} {lc:Nat} (ho:w.ownsRow 0 3 1 (.slice lo L.length lc) L.length (L.map fT)) {g' cap':Nat} (hg:W.grownBy w7 (Value.slice lo L.length lc).ownBlock) (hat:rowOf lo g'∨w.heap.size≤g'):(∀k,k≠mb→¬rowOf lo k→k<w.heap.size→(w7.setCell ⟨mb,4,none⟩ (.slice (some ⟨g',0,none⟩) (L.length+1) cap')).heap[k]?=w.heap[k]?)∧(w7.setCell ⟨mb,4,none⟩ (.slice (some ⟨g',0,none⟩) (L.length+1) cap')).heap[mb]?=some (.cells (cs.setIfInBounds 4 (.slice (some ⟨g',0,none⟩) (L.length+1) cap')) 88 (0,0))∧aq (fun k=>k=mb∨rowOf lo k) (fun k=>k=mb∨rowOf (some ⟨g',0,none⟩) k) w (w7.setCell ⟨mb,4,none⟩ (.slice (some ⟨g',0,none⟩) (L.length+1) cap'))∧g'≠mb:=by
 have mz:=af hb
 have wz:=hW.size
 have nomb:¬rowOf lo mb:=aN ho hb (by decide)
 have keep:∀k,k≠mb→¬rowOf lo k→k<w.heap.size→(w7.setCell ⟨mb,4,none⟩ (.slice (some ⟨g',0,none⟩) (L.length+1) cap')).heap[k]?=w.heap[k]?:=fun k h1 h2 h3=>by
  rw[aC _ _ _ _ h1,hg.block k (by omega) (bX h2),hW.block k h3]
 refine⟨keep,?_,⟨hg.os.trans hW.os,hg.tape.trans hW.tape,hg.output.trans hW.output,by rw[bS];exact Nat.le_trans wz hg.size,fun k hk hr=>keep k (fun e=>hr (Or.inl e)) (fun e=>hr (Or.inr e)) hk,fun k q=> ?_⟩,fun e=> ?_⟩
 ·refine aw ?_ 4 (.slice (some ⟨g',0,none⟩) (L.length+1) cap')
  rw[hg.block mb (by omega) (bX nomb),hW.block mb mz]
  exact hb
 ·rcases q with e | ⟨p,hp,hq⟩
  ·exact Or.inl (Or.inl e)
  ·cases hp
   rcases hat with r | r
   ·exact Or.inl (Or.inr (hq ▸ r))
   ·exact Or.inr (hq ▸ r)
 ·rcases hat with q | q
  ·exact nomb (e ▸ q)
  ·omega
theorem dW.logged {w:World} {mb:Nat} {cls:List Zf.aI} {clo:Option Addr} {clc:Nat} {V:List Nat} {vo:Option Addr} {vc:Nat} {L:List Int} {lo:Option Addr} {lc:Nat} {S:cE} {nO:Option Addr} {nC:Nat} {po:Option Addr} {pc:Nat} (h:dW w mb cls clo clc V vo vc L lo lc S nO nC po pc) {W w7:World} (hW:Below w.heap.size w W) {g' cap':Nat} {z:Int} (hown:w7.ownsRow 0 3 1 (.slice (some ⟨g',0,none⟩) (L.length+1) cap') (L.length+1) (L.map fT++[fT z])) (hg:W.grownBy w7 (Value.slice lo L.length lc).ownBlock) (hat:rowOf lo g'∨w.heap.size≤g'):dW (w7.setCell ⟨mb,4,none⟩ (.slice (some ⟨g',0,none⟩) (L.length+1) cap')) mb cls clo clc V vo vc (L++[z]) (some ⟨g',0,none⟩) cap' S nO nC po pc∧aq (fun k=>k=mb∨rowOf lo k) (fun k=>k=mb∨rowOf (some ⟨g',0,none⟩) k) w (w7.setCell ⟨mb,4,none⟩ (.slice (some ⟨g',0,none⟩) (L.length+1) cap')):=by
 obtain⟨keep,hblk,kU,gne⟩:=CM (cap':=cap') hW h.mc.st.blk h.lg hg hat
 have el:(L++[z]).length=L.length+1:=by simp
 have kT:∀{k:Nat} {ys:Array Value} {Y:TypeId},w.heap[k]?=some (.cells ys Y (0,0))→Y≠88→Y≠3→(w7.setCell ⟨mb,4,none⟩ (.slice (some ⟨g',0,none⟩) (L.length+1) cap')).heap[k]?=w.heap[k]?:=fun {k ys Y} hk h1 h2=>keep k (fun e=>by
  rw[e,h.mc.st.blk]at hk
  simp only[Option.some.injEq,Obj.cells.injEq]at hk
  exact h1 hk.2.1.symm) (aN h.lg hk h2) (af hk)
 have kI:∀{b n cap:Nat} {o:Option Addr} {xs:List Value},w.ownsRow b 3 1 (.slice o n cap) n xs→(∀k,rowOf o k→¬rowOf lo k)→(w7.setCell ⟨mb,4,none⟩ (.slice (some ⟨g',0,none⟩) (L.length+1) cap')).ownsRow b 3 1 (.slice o n cap) n xs:=fun {b n cap o xs} ho hn=>ai ho fun k q=>by
  obtain⟨cur,hc⟩:=aH ho (aG q)
  refine keep k (fun e=> ?_) (hn k (aG q)) (af hc)
  rw[e,h.mc.st.blk]at hc
  simp only[Option.some.injEq,Obj.cells.injEq]at hc
  exact absurd hc.2.1 (by decide)
 have hl':∀k,rowOf (some (⟨g',0,none⟩:Addr)) k→rowOf lo k∨w.heap.size≤k:=fun k ⟨p,hp,hq⟩=>by
  cases hp
  rcases hat with r | r
  ·exact Or.inl (hq ▸ r)
  ·exact Or.inr (hq ▸ r)
 refine⟨⟨⟨⟨by rw[el];exact hblk,h.mc.st.cel,ai h.mc.st.own fun k q=> ?_,h.mc.st.ty⟩,h.mc.ok,h.mc.c3,ai h.mc.pool fun k q=> ?_,fun g q=>kI (h.mc.nds g q) (h.ln g q),h.mc.nlt,h.mc.nl⟩,h.to,h.ar.keep fun k ys hp hk=>⟨?_,fun q=> ?_⟩,kI h.vr (fun k q r=>h.lv k r q),h.vl,?_,fun k q r=> ?_,fun g q k r s=> ?_,?_,h.vb,h.gw,h.tb⟩,kU⟩
 ·obtain⟨cur,hc⟩:=aH h.mc.st.own (aG q)
  exact kT hc (by decide) (by decide)
 ·obtain⟨cur,hc⟩:=aH h.mc.pool (aG q)
  exact kT hc (by decide) (by decide)
 ·refine(keep k (fun e=> ?_) hp (af hk)).trans hk
  rw[e,h.mc.st.blk]at hk
  simp only[Option.some.injEq,Obj.cells.injEq]at hk
  exact absurd hk.2.1 (by decide)
 ·rcases hl' k q with e | e
  ·exact hp e
  ·have:=af hk;omega
 ·rw[el]
  have:(L++[z]).map fT=L.map fT++[fT z]:=by simp
  rw[this]
  exact ai hown fun k q=>aC _ _ _ _ (fun e=>by
   obtain⟨p,hp,hk⟩:=aG q
   cases hp
   exact gne (hk.symm.trans e))
 ·rcases hl' k q with e | e
  ·exact h.lv k e r
  ·have:=(cF h.vr r).2;omega
 ·rcases hl' k s with e | e
  ·exact h.ln g q k r e
  ·have:=(cF (h.mc.nds g q) r).2;omega
 ·exact(show ez w _ from fun k ys Y hk hY=>(kT hk (by rcases hY with e | e | e<;>(rw[e];decide)) (by rcases hY with e | e | e<;>(rw[e];decide))).trans hk).cls h.cl
theorem kW.logged {w:World} {mb:Nat} {L:List Int} {lo:Option Addr} {lc:Nat} {en:Int} (h:kW w mb L lo lc en) {W w7:World} (hW:Below w.heap.size w W) {g' cap':Nat} {z:Int} (hown:w7.ownsRow 0 3 1 (.slice (some ⟨g',0,none⟩) (L.length+1) cap') (L.length+1) (L.map fT++[fT z])) (hg:W.grownBy w7 (Value.slice lo L.length lc).ownBlock) (hat:rowOf lo g'∨w.heap.size≤g'):kW (w7.setCell ⟨mb,4,none⟩ (.slice (some ⟨g',0,none⟩) (L.length+1) cap')) mb (L++[z]) (some ⟨g',0,none⟩) cap' en∧aq (fun k=>k=mb∨rowOf lo k) (fun k=>k=mb∨rowOf (some ⟨g',0,none⟩) k) w (w7.setCell ⟨mb,4,none⟩ (.slice (some ⟨g',0,none⟩) (L.length+1) cap')):=by
 obtain⟨cs,hb,h6,h4,h5,ho⟩:=h
 obtain⟨keep,hblk,kU,gne⟩:=CM (cap':=cap') hW hb ho hg hat
 have el:(L++[z]).length=L.length+1:=by simp
 refine⟨⟨_,hblk,by simpa using h6,by rw[Array.getElem?_setIfInBounds_self,if_pos (by omega),el],by rw[Array.getElem?_setIfInBounds_ne (by omega)];exact h5,?_⟩,kU⟩
 rw[el]
 have:(L++[z]).map fT=L.map fT++[fT z]:=by simp
 rw[this]
 exact ai hown fun k q=>aC _ _ _ _ (fun e=>by
  obtain⟨p,hp,hk⟩:=aG q
  cases hp
  exact gne (hk.symm.trans e))
def GH (mb:Nat) (cls:List Zf.aI) (clo:Option Addr) (clc:Nat) (V:List Nat) (vo:Option Addr) (vc:Nat) (L:List Int) (lo:Option Addr) (S:cE) (nO po:Option Addr) (i:Nat) (p:Int) (w w':World):Prop:=
 ∃(lo':Option Addr) (lc':Nat),(∃(z:Int) (S':cE) (nO':Option Addr) (nC':Nat) (po':Option Addr) (pc':Nat),CL cls S S' i p z∧mX V S'=false∧dW w' mb cls clo clc V vo vc (L++[z]) lo' lc' S' nO' nC' po' pc'∧S'.D.length≤S.D.length+1100000∧aq (fun k=>k=mb∨rowOf nO k∨rowOf po k∨rowOf lo k) (fun k=>k=mb∨rowOf nO' k∨rowOf po' k∨rowOf lo' k) w w')∨
  (∃(z:Int) (S':cE),CL cls S S' i p z∧mX V S'=true∧kW w' mb (L++[z]) lo' lc' 6∧aq (fun k=>k=mb∨rowOf nO k∨rowOf po k∨rowOf lo k) (fun k=>k=mb∨rowOf lo' k) w w')∨
  (∃en:Int,JC cls S i p en∧(en=4∨en=5)∧kW w' mb (L++[-2]) lo' lc' en∧aq (fun k=>k=mb∨rowOf nO k∨rowOf po k∨rowOf lo k) (fun k=>k=mb∨rowOf lo' k) w w')
theorem JD {w w1 w2:World} {mb:Nat} {nO po nO' po' lo:Option Addr} {R':Nat→Prop} (hf:aq (fun k=>k=mb∨rowOf nO k∨rowOf po k) (fun k=>k=mb∨rowOf nO' k∨rowOf po' k) w w1) {lo':Option Addr} (hg:aq (fun k=>k=mb∨rowOf lo k) (fun k=>k=mb∨rowOf lo' k) w1 w2) (hR:∀k,R' k→k=mb∨rowOf nO' k∨rowOf po' k∨rowOf lo' k):aq (fun k=>k=mb∨rowOf nO k∨rowOf po k∨rowOf lo k) R' w w2:=by
 have z1:=hf.size
 have z2:=hg.size
 refine⟨hg.os.trans hf.os,hg.tape.trans hf.tape,hg.output.trans hf.output,by omega,fun k hk q=> ?_,fun k q=> ?_⟩
 ·rw[hg.block k (by omega) (by rintro(r | r);exact q (Or.inl r);exact q (Or.inr (Or.inr (Or.inr r)))),hf.block k hk (by rintro(r | r | r);exact q (Or.inl r);exact q (Or.inr (Or.inl r));exact q (Or.inr (Or.inr (Or.inl r))))]
 ·have key:∀k,(k=mb∨rowOf nO' k∨rowOf po' k)→(k=mb∨rowOf nO k∨rowOf po k∨rowOf lo k)∨w.heap.size≤k:=fun k r=>by
   rcases hf.row k r with(s | s | s) | s
   ·exact Or.inl (Or.inl s)
   ·exact Or.inl (Or.inr (Or.inl s))
   ·exact Or.inl (Or.inr (Or.inr (Or.inl s)))
   ·exact Or.inr s
  rcases hR k q with r | r | r | r
  ·exact key k (Or.inl r)
  ·exact key k (Or.inr (Or.inl r))
  ·exact key k (Or.inr (Or.inr r))
  ·rcases hg.row k (Or.inr r)with(s | s) | s
   ·exact key k (Or.inl s)
   ·exact Or.inl (Or.inr (Or.inr (Or.inr s)))
   ·right;omega
theorem JE {w:World} {mb:Nat} {cls:List Zf.aI} {clo:Option Addr} {clc:Nat} {V:List Nat} {vo:Option Addr} {vc:Nat} {L:List Int} {lo:Option Addr} {lc:Nat} {S:cE} {nO:Option Addr} {nC:Nat} {po:Option Addr} {pc:Nat} (h:dW w mb cls clo clc V vo vc L lo lc S nO nC po pc) (hV:V.length≤1000000000):Calls Tryz.prog 71 #[.pointer (some ⟨mb,0,none⟩)] w fun e w'=>e= .returned (.bool (mX V S))∧Below w.heap.size w w':=by
 by_cases hl:24<S.G.length
 ·refine(Cx w mb _ S.D nO nC S.fr S.G po pc h.mc hl).mono ?_
  rintro e w' ⟨rfl,rfl⟩
  refine⟨?_,Below.refl _ _⟩
  unfold mX
  rw[show decide (24<S.G.length)=true by simpa using hl]
  rfl
 ·have hlen:(V.map fun n:Nat=>(n:Int)).length=V.length:=by simp
  refine(Gp w mb _ S.D nO nC S.fr S.T (fun g=>¬rowOf lo g) S.G po pc (V.map fun n:Nat=>(n:Int)) vo vc h.mc h.ar (fun n _=>h.to.tr n) (by rw[hlen];rfl) (lA.jM (b:=0) (c:=vc) (by rw[hlen,List.map_map];exact h.vr)) (fun x hx=> ?_) (by rw[hlen];exact hV) (fun g hg=> ?_) (by omega)).mono ?_
  ·obtain⟨n,hn,rfl⟩:=List.mem_map.1 hx
   exact Or.inr ⟨n,rfl,h.vl n hn⟩
  ·have gw:=h.gw g hg
   refine⟨gw.ll,fun x hx=> ?_,?_⟩
   ·unfold iL at hx
    split at hx
    ·rw[List.getElem?_eq_getElem (h.mc.ok.lt gw.ll)]at hx
     obtain⟨n,hn,rfl⟩:=List.mem_map.1 hx
     exact Or.inr ⟨n,rfl,(h.mc.ok.nd _ (h.mc.ok.lt gw.ll)).inn n hn⟩
    ·rename_i hne
     simp only[List.mem_cons,List.not_mem_nil,or_false]at hx
     rcases hx with rfl | rfl | rfl
     ·exact Or.inr ⟨g.l,rfl,gw.ll⟩
     ·exact Or.inr (gw.rr hne)
     ·by_cases ho:g.op.toList=[]
      ·exact Or.inl (gw.z0 ho)
      ·exact Or.inr (gw.zz ho)
   ·unfold iL
    split
    ·rw[List.getElem?_eq_getElem (h.mc.ok.lt gw.ll)]
     have hd:=h.mc.ok.nd _ (h.mc.ok.lt gw.ll)
     have:(S.D[S.fr g.l]'(h.mc.ok.lt gw.ll)).args.length≤3:=by
      rcases hd.ks with q | q | q
      ·rw[(hd.v q).2.2.2];simp
      ·rw[(hd.m q).2.2];simp
      ·exact(hd.c q).2.2
     simp only[Option.elim,List.length_map]
     omega
    ·simp
  ·rintro e w' ⟨rfl,hb⟩
   refine⟨?_,hb⟩
   unfold mX
   rw[show decide (24<S.G.length)=false by simpa using hl]
   rfl
theorem dW.below {w w':World} {mb:Nat} {cls:List Zf.aI} {clo:Option Addr} {clc:Nat} {V:List Nat} {vo:Option Addr} {vc:Nat} {L:List Int} {lo:Option Addr} {lc:Nat} {S:cE} {nO:Option Addr} {nC:Nat} {po:Option Addr} {pc:Nat} (h:dW w mb cls clo clc V vo vc L lo lc S nO nC po pc) (hb:Below w.heap.size w w'):dW w' mb cls clo clc V vo vc L lo lc S nO nC po pc:=
 ⟨h.mc.below hb,h.to,h.ar.below hb,ai h.vr (fun g q=>hb.block g (h.vr.lt g q).2),h.vl,ai h.lg (fun g q=>hb.block g (h.lg.lt g q).2),h.lv,h.ln,(ez.below hb).cls h.cl,h.vb,h.gw,h.tb⟩
theorem dW.WO {w:World} {mb:Nat} {cls:List Zf.aI} {clo:Option Addr} {clc:Nat} {V:List Nat} {vo:Option Addr} {vc:Nat} {L:List Int} {lo:Option Addr} {lc:Nat} {S:cE} {nO:Option Addr} {nC:Nat} {po:Option Addr} {pc:Nat} (h:dW w mb cls clo clc V vo vc L lo lc S nO nC po pc) (en:Int):kW (w.setCell ⟨mb,5,none⟩ (.int .i64 en)) mb L lo lc en:=
 ⟨_,aw h.mc.st.blk 5 (.int .i64 en),rfl,rfl,rfl,ai h.lg fun k q=>aC _ _ _ _ (fun e=>aN h.lg h.mc.st.blk (by decide) (e ▸ aG q))⟩
theorem Mg (w:World) (mb:Nat) (cls:List Zf.aI) (clo:Option Addr) (clc:Nat) (V:List Nat) (vo:Option Addr) (vc:Nat) (L:List Int) (lo:Option Addr) (lc:Nat) (S:cE) (nO:Option Addr) (nC:Nat) (po:Option Addr) (pc i:Nat) (p:Int) (h:dW w mb cls clo clc V vo vc L lo lc S nO nC po pc) (mW:∀c∈cls,Zf.jN c∧∀x∈c.goals,Zf.iV x) (hcc:cls.length≤12) (hi:i<S.G.length) (hsz:∀g∈S.G,Zf.size (S.T g.l)≤300) (hp1: -9223372036854775808≤p) (hp2:p≤9223372036854775807) (hD:S.D.length+6000000≤1000000000) (hGl:S.G.length≤1000) (hL:L.length≤1000000) (hV:V.length≤1000000000):
 Calls Tryz.prog 37 #[.pointer (some ⟨mb,0,none⟩),.int .i64 (i:Int),.int .i64 p] w fun e w'=>e= .returned (.tuple #[])∧GH mb cls clo clc V vo vc L lo S nO po i p w w':=by
 have IG:=hide ((Md w mb _ S.D nO nC S.fr S.T (fun g=>¬rowOf lo g) S.G po pc cls clo clc i S.G[i] p h.mc h.ar h.to (fun g hg q=>by have:=(cF h.lg q).2;omega) rfl h.cl (fun c hc=>(mW c hc).1) hcc hi rfl (h.gw _ (List.getElem_mem hi)) h.vb (hsz _ (List.getElem_mem hi)) hp1 hp2 hD (by omega) (by show 5<6;omega)).mono (fun e w' q=>h.go hi rfl (fun c hc=>⟨(mW c hc).2,(mW c hc).1.gl⟩) q))
 have mz:=af h.mc.st.blk
 obtain⟨tj,hj,hy0,hy1,hy2⟩:=info_parts infoIn
 clear h mW hsz hD hp1 hp2 hGl hi
 go_enter Tryz.func37,Tryz.ntmps37
 go_wp2_with fail
 refine(ae IG).mono ?_
 rintro e w1 (⟨z,S',nO',nC',po',pc',rfl,hgo,hm,zF,hgl,hf⟩ | ⟨en,rfl,hgo,hen,hm,hf⟩)
 ·have f4:w1.cell? ⟨mb,4,none⟩=some (.slice lo L.length lc):=ah hm.mc.st.blk 4
  have x4:=au hm.mc.st.blk 4
  have mz1:=af hm.mc.st.blk
  have gX:=hide (show some mb≠(Value.slice lo L.length lc).ownBlock from bX (aN hm.lg hm.mc.st.blk (by decide)))
  have EC:=hide hm.lg
  have HM:=hide hm
  have HF:=hide hf
  have Ab:=hide hgo
  have BW:=hide zF
  clear hm hf hgo zF hgl IG
  go_wp2_with (at_builtin;go_must (refine wpList_append_own_at _ rfl (.tmp 15) (.tmp 17) 25 rfl 0 3 tj (.int .i64 0) 1 8 Tryz.underlying25 hj hy0 hy1 hy2 rfl (by decide) (.slice lo L.length lc) L.length (L.map fT) rfl ((ae EC).alloc _) ⟨w1.heap.size,0,none⟩ 1 1 [.int .i64 z] rfl rfl (ju _ _ _ _ rfl) (by simp[Value.oneCell']) (by unfold maxLen;omega) (by omega) (Nat.zero_le _) ?_);go_must (intro v' w7 hown' hgrow _ hat;obtain⟨g',cap',hv',-⟩:=ft hown';subst hv';have vF:=hide ((ae HM).logged (z:=z) ((Below.refl _ _).alloc (Nat.le_refl _) _) hown' hgrow (by rcases hat with q | q;exact Or.inl (aG q.symm);(right;have q2:g'=w1.heap.size+1:=(by simpa [Value.ownBlock] using q);omega)));have m4:=(hgrow.cell_far ⟨mb,4,none⟩ (by simp;omega) (ae gX)).trans ((World.cell?_alloc_past _ _ _ mz1).trans f4);have k9:w7.frozen? ⟨mb,4,none⟩=false:=(by have:=au (ae vF).1.mc.st.blk 4;rwa [World.frozen?_setCell]at this);have zz7:mb<w7.heap.size:=(by have:=af (ae vF).1.mc.st.blk;rwa [bS]at this);have f5:(w7.setCell ⟨mb,4,none⟩ (.slice (some ⟨g',0,none⟩) (L.length+1) cap')).cell? ⟨mb,5,none⟩=some (.int .i64 0):=ah (ae vF).1.mc.st.blk 5;clear hown' hgrow hat))
  have Ex:=hide (ae vF).1
  have U':=hide (ae vF).2
  refine(JE (ae Ex) hV).mono ?_
  rintro e w8 ⟨rfl,ED⟩
  have JF:=(ae Ex).below ED
  have f58:w8.cell? ⟨mb,5,none⟩=some (.int .i64 0):=ah JF.mc.st.blk 5
  have x58:=au JF.mc.st.blk 5
  have mz8:=af JF.mc.st.blk
  have ND:=hide JF
  have Va:=hide ED
  clear JF ED vF EC HM f4 x4 m4 k9 f5 gX
  cases jG:mX V S' with
  | true=>
   have RZ:=hide jG
   clear jG
   go_wp2_with fail
   go_end0
   refine⟨rfl,_,_,Or.inr (Or.inl ⟨z,S',ae Ab,ae RZ,(ae ND).WO 6,?_⟩)⟩
   have hq:=JD (R':=fun k=>k=mb∨rowOf (some ⟨g',0,none⟩) k) (ae HF) ((ae U').trans (aq.of_below (ae Va))) (fun k q=>by rcases q with q | q;exact Or.inl q;exact Or.inr (Or.inr (Or.inr q)))
   exact⟨hq.os,hq.tape,hq.output,by rw[bS];exact hq.size,fun k hk hr=>by rw[aC _ _ _ _ (fun e=>hr (Or.inl e))];exact hq.block k hk hr,hq.row⟩
  | false=>
   have RZ:=hide jG
   clear jG
   go_wp2_with fail
   go_end0
   exact⟨rfl,_,_,Or.inl ⟨z,S',nO',nC',po',pc',ae Ab,ae RZ,ae ND,ae BW,JD (ae HF) ((ae U').trans (aq.of_below (ae Va))) (fun k q=>q)⟩⟩
 ·have Yh:=hide hm
  obtain⟨cs,hb,h6,h4,h5,ho⟩:=hm
  have f4:=(ah hb 4).trans h4
  have x4:=au hb 4
  have mz1:=af hb
  have gX:=hide (show some mb≠(Value.slice lo L.length lc).ownBlock from bX (aN ho hb (by decide)))
  have EC:=hide ho
  have HF:=hide hf
  have Ab:=hide hgo
  have YW:(en == 0)=false:=by rcases hen with q | q<;>(rw[q];rfl)
  have R5:=hide hen
  clear hf hgo IG hb h4 h5 h6 ho hen
  go_wp2_with (at_builtin;go_must (refine wpList_append_own_at _ rfl (.tmp 15) (.tmp 17) 25 rfl 0 3 tj (.int .i64 0) 1 8 Tryz.underlying25 hj hy0 hy1 hy2 rfl (by decide) (.slice lo L.length lc) L.length (L.map fT) rfl ((ae EC).alloc _) ⟨w1.heap.size,0,none⟩ 1 1 [.int .i64 (-2)] rfl rfl (ju _ _ _ _ rfl) (by simp[Value.oneCell']) (by unfold maxLen;omega) (by omega) (Nat.zero_le _) ?_);go_must (intro v' w7 hown' hgrow _ hat;obtain⟨g',cap',hv',-⟩:=ft hown';subst hv';have vF:=hide ((ae Yh).logged (z:= -2) ((Below.refl _ _).alloc (Nat.le_refl _) _) hown' hgrow (by rcases hat with q | q;exact Or.inl (aG q.symm);(right;have q2:g'=w1.heap.size+1:=(by simpa [Value.ownBlock] using q);omega)));have m4:=(hgrow.cell_far ⟨mb,4,none⟩ (by simp;omega) (ae gX)).trans ((World.cell?_alloc_past _ _ _ mz1).trans f4);obtain⟨cs7,NU,h67,h47,h57,Yi⟩:=(ae vF).1;have k9:w7.frozen? ⟨mb,4,none⟩=false:=(by have:=au NU 4;rwa [World.frozen?_setCell]at this);have zz7:mb<w7.heap.size:=(by have:=af NU;rwa [bS]at this);have f5:=(ah NU 5).trans h57;clear hown' hgrow hat NU h67 h47 h57 Yi))
  go_end0
  refine⟨rfl,_,_,Or.inr (Or.inr ⟨en,ae Ab,ae R5,(ae vF).1,?_⟩)⟩
  have hf:=ae HF
  have hg:=(ae vF).2
  have hz1:=hf.size
  have hz2:=hg.size
  refine⟨hg.os.trans hf.os,hg.tape.trans hf.tape,hg.output.trans hf.output,by omega,fun k hk q=> ?_,fun k q=>by
   rcases hg.row k q with(r | r) | r
   ·exact Or.inl (Or.inl r)
   ·exact Or.inl (Or.inr (Or.inr (Or.inr r)))
   ·right;omega⟩
  rw[hg.block k (by omega) (by rintro(r | r);exact q (Or.inl r);exact q (Or.inr (Or.inr (Or.inr r)))),hf.block k hk (by rintro(r | r | r);exact q (Or.inl r);exact q (Or.inr (Or.inl r));exact q (Or.inr (Or.inr (Or.inl r))))]
end Go.Proofs.YthfjnfcekeknlabGreatDoor
namespace Zf
def rn (r:Nat→Nat):Vr→Vr:=fun x=>([],r x.2)
def bl (r:Nat→Nat) (u:U):U:=sub (ren (rn r)) u
theorem fR (r:Nat→Nat) (k:Nat) (tx:List UInt8) (num:Int) (ss:List U):bl r (.n k tx num ss)= .n k tx num (ss.map (bl r)):=ej _ _ _ _ _
theorem p8 (r:Nat→Nat) (x:Vr):bl r (.v x)= .v ([],r x.2):=rfl
def PQ (P:Nat→Prop) (x:Vr):Prop:=x.1=[]∧P x.2
def ie (r:Nat→Nat) (P:Nat→Prop):Prop:=∀i j,P i→P j→r i=r j→i=j
theorem eX {Q:Vr→Prop}:∀(u:U),bB Q u↔∀x,has x u→Q x:=by
 refine U.ind (fun x=>⟨fun h y hy=> ?_,fun h=> .v (h x rfl)⟩) (fun k tx num ss ih=>⟨fun h y hy=> ?_,fun h=> .n fun a ha=>(ih a ha).2 fun x hx=>h x ((nj ..).2 ⟨a,ha,hx⟩)⟩)
 ·rw[has]at hy;subst hy;exact h.var
 ·obtain⟨a,ha,hx⟩:=(nj ..).1 hy
  exact(ih a ha).1 (h.args a ha) y hx
theorem ie.on {r:Nat→Nat} {P:Nat→Prop} (h:ie r P):AE (rn r) (PQ P):=fun x y hx hy e=>by
 unfold rn at e
 injection e with _ e
 exact Prod.ext (hx.1.trans hy.1.symm) (h _ _ hx.2 hy.2 e)
def Wn.map (r:Nat→Nat) (l:Wn):Wn:=⟨l.wt.map r,l.no⟩
theorem Wn.fo.at {P:Nat→Prop} {l:Wn} (h:l.fo (PQ P)):∀w∈l.wt,P w:=fun w hw=>by
 obtain⟨x,hx,rfl⟩:=h w hw
 exact hx.2
theorem CN {r:Nat→Nat} {P:Nat→Prop} (h:ie r P) {T:List Nat} (hT:∀w∈T,P w) {n:Nat} (hn:P n):cZ (T.map r) (r n)=(cZ T n).map r:=by
 unfold cZ
 by_cases q:n∈T
 ·rw[if_pos q,if_pos (List.mem_map_of_mem q)]
 ·rw[if_neg q,if_neg,List.map_append];rfl
  intro hm
  obtain⟨m,hm,e⟩:=List.mem_map.1 hm
  rw[h m n (hT m hm) hn e]at hm
  exact q hm
theorem Wn.mY {r:Nat→Nat} {P:Nat→Prop} (h:ie r P) {l:Wn} (hl:l.fo (PQ P)) {n:Nat} (hn:P n):(l.map r).wait (r n)=(l.wait n).map r:=by
 unfold Wn.wait Wn.map
 dsimp only
 rw[CN h hl.at hn]
theorem Wn.qJ {r:Nat→Nat} {P:Nat→Prop} (h:ie r P) {l:Wn} (hl:l.fo (PQ P)) {u:U} (hu:bB (PQ P) u):(l.map r).aU (bl r u)=(l.aU u).map r:=by
 cases u with
 | v x=>exact Wn.mY h hl hu.var.2
 | n k tx num ss=>rw[fR];rfl
theorem Wn.rB (r:Nat→Nat) (l:Wn):(l.map r).says=l.says:=by
 unfold Wn.says Wn.map
 dsimp only
 split
 ·rfl
 ·simp
theorem CO {r:Nat→Nat} {P:Nat→Prop} (h:ie r P):∀(u v:U) (l:Wn),bB (PQ P) u→bB (PQ P) v→l.fo (PQ P)→cmpU (bl r u) (bl r v) (l.map r)=(cmpU u v l).map r:=by
 refine U.ind (fun x v l hu hv hl=> ?_) (fun k tx num ss ih v l hu hv hl=> ?_)
 ·cases v with
  | v y=>
   rw[p8,p8,mP,mP]
   by_cases e:x=y
   ·rw[if_pos e,if_pos (by rw[e])]
   ·rw[if_neg e,if_neg (show¬(([],r x.2):Vr)=([],r y.2)from fun q=>e (h.on x y hu.var hv.var q))]
    show ((l.map r).wait (r x.2)).wait (r y.2)=_
    rw[Wn.mY h hl hu.var.2,Wn.mY h (hl.wait hu.var) hv.var.2]
  | n k tx num ss=>
   rw[p8,fR,oJ,oJ]
   exact Wn.mY h hl hu.var.2
 ·cases v with
  | v y=>
   rw[p8,fR,oK,oK]
   exact Wn.mY h hl hv.var.2
  | n k' tx' num' ss'=>
   rw[fR,fR,lG,lG,List.length_map,List.length_map]
   split
   ·have:∀(bs cs:List U) (l:Wn),(∀a∈bs,∀v l,bB (PQ P) a→bB (PQ P) v→l.fo (PQ P)→cmpU (bl r a) (bl r v) (l.map r)=(cmpU a v l).map r)→(∀a∈bs,bB (PQ P) a)→(∀a∈cs,bB (PQ P) a)→l.fo (PQ P)→cmpUL (bs.map (bl r)) (cs.map (bl r)) (l.map r)=(cmpUL bs cs l).map r:=by
     intro bs
     induction bs with
     | nil=>intro cs l _ _ _ hl;rw[List.map_nil,jA,jA]
     | cons b bs ihb=>
      intro cs l hb h1 h2 hl
      cases cs with
      | nil=>rw[List.map_nil,lH,lH]
      | cons c cs=>
       rw[List.map_cons,List.map_cons,gG,gG,hb b (by simp) c l (h1 b (by simp)) (h2 c (by simp)) hl]
       exact ihb cs _ (fun a ha=>hb a (by simp[ha])) (fun a ha=>h1 a (by simp[ha])) (fun a ha=>h2 a (by simp[ha])) (vY _ _ _ (h1 b (by simp)) (h2 c (by simp)) hl)
    exact this ss ss' l ih hu.args hv.args hl
   ·rfl
def bQ.map (r:Nat→Nat) (l:bQ):bQ:=⟨l.st.map fun q=>(q.1,bl r q.2),l.w.map r⟩
theorem CP (r:Nat→Nat) (x:List UInt8) (st:List (List UInt8×U)):(st.map fun q=>(q.1,bl r q.2)).find? (fun q=>q.1 == x)=(st.find? (fun q=>q.1 == x)).map fun q=>(q.1,bl r q.2):=by
 rw[List.find?_map]
 rfl
theorem bQ.Mh {r:Nat→Nat} {P:Nat→Prop} (h:ie r P) {l:bQ} (hl:l.kP (PQ P)) (x:List UInt8) {u:U} (hu:bB (PQ P) u):(l.map r).meet x (bl r u)=(l.meet x u).map r:=by
 unfold bQ.meet bQ.map
 dsimp only
 rw[CP]
 cases hq:l.st.find? (fun q=>q.1 == x)with
 | none=>
  dsimp only[Option.map_none]
  rw[List.map_append]
  rfl
 | some q=>
  dsimp only[Option.map_some]
  rw[CO h _ _ _ (hl.1 q (List.mem_of_find?_eq_some hq)) hu hl.2]
theorem CQ {r:Nat→Nat} {P:Nat→Prop} {g:Tm→U→bQ→bQ}:∀(ps:List Tm) (us:List U) (l:bQ),(∀p∈ps,∀u∈us,∀l:bQ,l.kP (PQ P)→g p (bl r u) (l.map r)=(g p u l).map r∧(g p u l).kP (PQ P))→l.kP (PQ P)→dw g ps (us.map (bl r)) (l.map r)=(dw g ps us l).map r
 | p :: ps,u :: us,l,hg,h=>by
  rw[List.map_cons,dw,dw,(hg p (by simp) u (by simp) l h).1]
  exact CQ ps us (g p u l) (fun q hq v hv=>hg q (by simp[hq]) v (by simp[hv])) (hg p (by simp) u (by simp) l h).2
 | [],[],l,_,h=>by simp[dw]
 | [],_ :: _,l,_,h=>by simp[dw]
 | _ :: _,[],l,_,h=>by simp[dw]
theorem wu {r:Nat→Nat} {P:Nat→Prop} (h:ie r P):∀(f:Nat) (p:Tm) (u:U) (l:bQ),bB (PQ P) u→l.kP (PQ P)→matU f p (bl r u) (l.map r)=(matU f p u l).map r
 | 0,_,_,l,_,_=>by unfold matU;rfl
 | f+1,p,u,l,hu,hl=>by
  by_cases k:p.kind=3
  ·rw[mQ _ _ k,mQ u l k];exact bQ.Mh h hl _ hu
  ·cases u with
   | v x=>
    rw[lI x l k,p8,lI _ _ k]
    show bQ.mk _ ((l.w.map r).wait (r x.2))=_
    rw[Wn.mY h hl.2 hu.var.2]
    rfl
   | n kk tx num ss=>
    rw[fR]
    by_cases hr:jt p=(kk,tx,num)∧p.args.length=ss.length
    ·rw[lJ l k hr,lJ _ k (by rw[List.length_map];exact hr)]
     exact CQ p.args ss l (fun q _ v hv l hl=>⟨wu h f q v l (hu.args v hv) hl,mV f q v l (hu.args v hv) hl⟩) hl
    ·rw[mR l k hr,mR _ k (by rw[List.length_map];exact hr)]
     rfl
theorem uH (r:Nat→Nat) (η:List UInt8→U):∀(f:Nat) (t:Tm),wfK f t→bJ (fun y=>bl r (η y)) f t=bl r (bJ η f t)
 | f+1,t,h=>by
  unfold bJ
  by_cases k:t.kind=3
  ·rw[if_pos k,if_pos k]
  ·rw[if_neg k,if_neg k]
   by_cases k4:t.kind=4
   ·rw[if_pos k4,if_pos k4,fR];rfl
   ·rw[if_neg k4,if_neg k4,fR,List.map_map]
    congr 1
    exact List.map_congr_left fun a ha=>uH r η f a (h.2.2.2 a ha)
theorem p9 (r:Nat→Nat) (u:U):isNum (bl r u)=isNum u:=by
 cases u with
 | v x=>rfl
 | n k tx num ss=>rw[fR];unfold isNum;split<;>split<;>simp_all
theorem rC (r:Nat→Nat) (op:List UInt8) (u v:U):Go.Proofs.YthfjnfcekeknlabGreatDoor.fh op (bl r u) (bl r v)=Go.Proofs.YthfjnfcekeknlabGreatDoor.fh op u v:=by
 unfold Go.Proofs.YthfjnfcekeknlabGreatDoor.fh
 rw[p9,p9]
theorem Pk {r:Nat→Nat} {P:Nat→Prop} (h:ie r P) (op:List UInt8) {u v:U} (hu:bB (PQ P) u) (hv:op≠[]→bB (PQ P) v):fp op (bl r u) (bl r v)=(fp op u v).map r:=by
 unfold fp
 have e:Wn.none=Wn.none.map r:=rfl
 split
 ·rw[e,Wn.qJ h (dH _) hu];rfl
 ·rename_i hne
  rw[e,Wn.qJ h (dH _) hu,Wn.qJ h ((dH _).aU hu) (hv hne)];rfl
theorem xS {r:Nat→Nat} {P:Nat→Prop} (h:ie r P) {u v:U} (hu:bB (PQ P) u) (hv:bB (PQ P) v):kK (bl r u) (bl r v)=(kK u v).map r:=CO h u v Wn.none hu hv (dH _)
theorem JG (r:Nat→Nat) (u:U):tsInt (bl r u)=(tsInt u).map r:=by
 cases u with
 | v x=>rfl
 | n k tx num ss=>rw[fR];rfl
theorem Mi (r:Nat→Nat) (eq:Bool) (u v:U):kx eq (bl r u) (bl r v)=kx eq u v:=by
 unfold kx
 rw[p9,p9]
theorem GI {r:Nat→Nat} {P:Nat→Prop} (h:ie r P) {η:List UInt8→U} (x:aD) (ns:List (List UInt8)) (hx:gW x) (hy:∀y∈aL ns x,bB (PQ P) (η y)):cr (fun y=>bl r (η y)) x=(cr η x).map r:=by
 have hl:∀y∈namesF 8 ns x.left,bB (PQ P) (η y):=fun y hm=>hy y (by
  unfold aL
  rw[hx.la]
  cases hr:x.right with
  | none=>exact hm
  | some r=>
   obtain⟨K,hK⟩:=namesV_ext 8 r (namesF 8 ns x.left)
   show y∈namesF 8 (namesF 8 ns x.left) r
   rw[hK]
   exact List.mem_append_left _ hm)
 have q:=py 8 x.left ns hx.wl hl
 unfold cr
 rw[uH r η 8 x.left hx.wl]
 cases hr:x.right with
 | none=>
  dsimp only
  generalize bJ η 8 x.left=t at q⊢
  cases t with
  | v x=>rfl
  | n k tx num ss=>
   rw[fR]
   cases ss with
   | nil=>rfl
   | cons a ss=>
    cases ss with
    | nil=>exact JG r a
    | cons b ss=>rfl
 | some s=>
  have q2:=py (η:=η) 8 s (namesF 8 ns x.left) (hx.wr s hr) (fun y hm=>hy y (by unfold aL;rw[hx.la,hr];exact hm))
  dsimp only
  rw[uH r η 8 s (hx.wr s hr)]
  split
  ·exact xS h q q2
  ·split
   ·unfold oL
    rw[xS h q q2,Wn.rB]
    split
    ·rfl
    ·split<;>rfl
   ·unfold bh
    have e:Wn.none=Wn.none.map r:=rfl
    rw[Mi]
    have e2:(Wn.none.aU (bl r (bJ η 8 x.left))).aU (bl r (bJ η 8 s))=((Wn.none.aU (bJ η 8 x.left)).aU (bJ η 8 s)).map r:=by
     rw[e,Wn.qJ h (dH _) q,Wn.qJ h ((dH _).aU q) q2];rfl
    rw[e2]
    by_cases hw:((Wn.none.aU (bJ η 8 x.left)).aU (bJ η 8 s)).wt=[]
    ·rw[if_pos hw,if_pos (by unfold Wn.map;rw[hw];rfl)];rfl
    ·rw[if_neg hw,if_neg (by unfold Wn.map;simpa using hw)]
theorem Mj {r:Nat→Nat} {P:Nat→Prop} (h:ie r P) {l m:Wn} (hl:l.fo (PQ P)) (hm:m.fo (PQ P)):(l.map r).also (m.map r)=(l.also m).map r:=by
 have key:∀(xs ws:List Nat),(∀w∈xs,P w)→(∀w∈ws,P w)→(xs.map r).foldl cZ (ws.map r)=(xs.foldl cZ ws).map r:=by
  intro xs
  induction xs with
  | nil=>intro ws _ _;rfl
  | cons x xs ih=>
   intro ws h1 h2
   rw[List.map_cons,List.foldl_cons,List.foldl_cons,CN h h2 (h1 x (by simp))]
   refine ih _ (fun w hw=>h1 w (by simp[hw])) fun w hw=> ?_
   unfold cZ at hw
   split at hw
   ·exact h2 w hw
   ·rcases List.mem_append.1 hw with q | q
    ·exact h2 w q
    ·rw[List.mem_singleton.1 q];exact h1 x (by simp)
 unfold Wn.also Wn.map
 dsimp only
 rw[key _ _ hm.at hl.at]
theorem EE {r:Nat→Nat} {P:Nat→Prop} (h:ie r P) {η:List UInt8→U} (xs:List aD) (ns:List (List UInt8)) (hx:∀x∈xs,gW x) (hy:∀y∈ay ns xs,bB (PQ P) (η y)):fP (fun y=>bl r (η y)) xs=(fP η xs).map r:=by
 have key:∀(xs:List aD) (l:Wn),l.fo (PQ P)→(∀x∈xs,cr (fun y=>bl r (η y)) x=(cr η x).map r∧(cr η x).fo (PQ P))→iE (cr fun y=>bl r (η y)) xs (l.map r)=(iE (cr η) xs l).map r:=by
  intro xs
  induction xs with
  | nil=>intro l _ _;rfl
  | cons x xs ih=>
   intro l hl hx
   rw[iE,iE,(hx x (by simp)).1,Mj h hl (hx x (by simp)).2]
   exact ih _ (hl.also (hx x (by simp)).2) fun y hy=>hx y (by simp[hy])
 refine key xs Wn.none (dH _) fun x hm=> ?_
 obtain⟨ns',hn⟩:=fA xs ns x hm
 exact⟨GI h x ns' (hx x hm) fun y hq=>hy y (hn y hq),xG x ns' (hx x hm) fun y hq=>hy y (hn y hq)⟩
end Zf
