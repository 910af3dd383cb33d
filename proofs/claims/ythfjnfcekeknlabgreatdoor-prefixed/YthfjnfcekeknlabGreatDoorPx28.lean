import Derived.Test.YthfjnfcekeknlabGreatDoorPx26
import Derived.Test.YthfjnfcekeknlabGreatDoorPx27
set_option maxHeartbeats 8000000
set_option maxRecDepth 100000
set_option linter.unusedSimpArgs false
namespace Go.Proofs.YthfjnfcekeknlabGreatDoor
open Go.RowKit af
variable {nO po:Option Addr} {TT:Nat->af.U} {a b nC i mb pc zn rn:Nat} {e:Ending} {w' w w1:World} {cs:Array Value} {g:Gl} {W:Wn} {r:Option Int} {P:Nat->Prop} {d:Ng} {op:List UInt8}
structure xD (T:Nat->af.U) (len:Nat) (g:Gl):Prop where
 ll:g.l<len
 sg:g.sg.toList=[]\/g.sg.toList=[61]\/g.sg.toList=[58,61]
 nm:g.sg.toList=[]->∃tx us,T g.l= .n 1 tx 0 us
 r0:g.sg.toList=[]->g.r= -1
 rr:g.sg.toList≠[]->∃n:Nat,g.r=(n:Int)/\n<len
 z0:g.op.toList=[]->g.z= -1
 zz:g.op.toList≠[]->∃n:Nat,g.z=(n:Int)/\n<len
 oe:g.op.toList≠[]->g.sg.toList=[58,61]
 ol:g.op.size<=2
theorem MC.from {D:List Ng} {fr:Nat->Nat} {G:List Gl} (hb:Below w.heap.size w w1) (h:MC mb cs D nO nC fr TT G i a b w1 e w'):MC mb cs D nO nC fr TT G i a b w e w':=by
 rcases h with⟨D',fr',σ,T',po',pc',h1,h2,h3,h4,h5⟩ | ⟨h1,h2,h3,h4⟩
 ·exact ay ⟨D',fr',σ,T',po',pc',h1,h2,h3,h4,(bZ.aX hb).trans h5⟩
 ·exact aw ⟨h1,h2,h3,(bZ.aX hb).trans h4⟩
theorem BY.from {D:List Ng} {fr:Nat->Nat} {G:List Gl} (hb:Below w.heap.size w w1) (h:BY mb cs D nO nC fr TT P G po pc i g W r w1 e w'):BY mb cs D nO nC fr TT P G po pc i g W r w e w':=by
 rcases h with⟨h1,wo,wc,h2,h3,h4,h5⟩ | ⟨h1,h2,h3,h4,h5⟩ | ⟨h1,x,no',nc',T2,w2,h2,h3,h4,h5,h6,h7,h8,h9,h10⟩
 ·exact ay ⟨h1,wo,wc,h2,h3,(bZ.aX hb).trans h4,fun k q=>aW hb.size (h5 k q)⟩
 ·exact aw (ay ⟨h1,h2,h3,h4,(bZ.aX hb).trans h5⟩)
 ·exact aw (aw ⟨h1,x,no',nc',T2,w2,h2,h3,h4,h5,h6,h7,h8,(bZ.aX hb).trans h9,h10⟩)
def Pq (P:Nat->Prop) (mb:Nat) (cs:Array Value) (D:List Ng) (nO:Option Addr) (nC:Nat) (fr:Nat->Nat) (TT:Nat->af.U) (G:List Gl) (po:Option Addr) (pc:Nat) (cls:List af.dE) (i:Nat) (g:Gl) (p:Int) (w:World) (e:Ending) (w':World):Prop:=
 (g.sg.toList=[61]/\∃rn:Nat,g.r=(rn:Int)/\rn<D.length/\MC mb cs D nO nC fr TT G i g.l rn w e w')\/
 (g.sg.toList=[58,61]/\∃(rn zn:Nat) (d0 e0:Ng),g.r=(rn:Int)/\rn<D.length/\D[fr rn]?=some d0/\(g.op.toList≠[]->g.z=(zn:Int)/\zn<D.length/\D[fr zn]?=some e0)/\BY mb cs D nO nC fr TT P G po pc i g (lY g.op.toList (TT rn) (TT zn)) (oB g.op.toList d0 e0) w e w')\/
 (g.sg.toList=[]/\TT g.l= .n 1 [116,114,117,101] 0 []/\e= .returned (.int .i64 0)/\∃(po':Option Addr) (pc':Nat),jh w' mb (cs.setIfInBounds 3 (.slice po' (G.eraseIdx i).length pc')) D nO nC fr (G.eraseIdx i) po' pc'/\bZ (fun k=>k=mb) (fun k=>k=mb\/rowOf po' k) w w')\/
 (g.sg.toList=[]/\∃(tx:List UInt8) (us:List af.U),TT g.l= .n 1 tx 0 us/\¬(tx=[116,114,117,101]/\us=[])/\rl P mb cs D nO fr TT G po pc cls (eW cls tx us.length cls.length) (jX p (eW cls tx us.length cls.length).length) g.l i g w e w')
theorem Ip (w:World) (mb:Nat) (cs:Array Value) (D:List Ng) (nO:Option Addr) (nC:Nat) (fr:Nat->Nat) (TT:Nat->af.U) (P:Nat->Prop) (G:List Gl) (po:Option Addr) (pc:Nat) (cls:List af.dE) (clo:Option Addr) (clc i:Nat) (g:Gl) (p:Int) (hm:jh w mb cs D nO nC fr G po pc) (har:di w D P) (hto:kx (e8 D) fr TT) (hP:∀g,w.heap.size<=g->P g) (h0:cs[0]?=some (.slice clo cls.length clc)) (hcl:ek w clo cls.length cls) (hokc:∀c∈cls,pV c) (hcc:cls.length<=12) (hi:i<G.length) (hgi:G[i]=g) (hW:xD TT D.length g) (hvb:∀d∈D,-1000000000<=d.val/\d.val<=1000000000) (hsz:af.size (TT g.l)<=300) (hp1: -9223372036854775808<=p) (hp2:p<=9223372036854775807) (hD:D.length+6000000<=1000000000) (hGl:G.length<=1000000) (hc5:5<cs.size):
 Calls Tryz.prog 70 #[.pointer (some ⟨mb,0,none⟩),.int .i64 (i:Int),.int .i64 p] w fun e w'=>Pq P mb cs D nO nC fr TT G po pc cls i g p w e w':=by
 have hb0:=(al w.heap.size w).alloc Qw (.cells #[.int .i64 (g.l:Int),.string g.sg,.int .i64 g.r,.string g.op,.int .i64 g.z,.bool g.wt,.slice g.no g.nd.length g.nc] 133);have f3:=(aN hm.st.blk 3).trans hm.c3;have mz:=aD hm.st.blk;obtain⟨pg,hpg⟩:∃pg,po=some ⟨pg,0,none⟩:=by
  rcases hm.fp.2 with⟨q,q2⟩ | ⟨g,cp,cur,q,_⟩
  ·omega
  ·simp only[aS]at q;exact⟨g,q.1⟩
 subst hpg;have pz:=(hm.fp.lt pg rfl).2;have fc:∀k,k<7->w.cell? ⟨pg,i*7+k,none⟩=(mD g)[k]?:=fun k hk=>by rw[hm.fp.cellAt (i*7+k) (by omega),<-hgi];exact qD hi k hk
 have e0:=fc 0 (by omega);have e1:=fc 1 (by omega);have e2:=fc 2 (by omega);have e3:=fc 3 (by omega);have e4:=fc 4 (by omega);have e5:=fc 5 (by omega);have e6:=fc 6 (by omega);simp only[mD,aq,aA,dJ]at e0 e1 e2 e3 e4 e5 e6;have i0:(0:Int)<=(i:Int):=by omega
 have i1:(i:Int)<(G.length:Int):=by omega
 have hbx:=aB w (.cells #[.int .i64 (g.l:Int),.string g.sg,.int .i64 g.r,.string g.op,.int .i64 g.z,.bool g.wt,.slice g.no g.nd.length g.nc] 133);have hG0:mH w w.heap.size mb 1 cs 88 D nO nC fr TT P:=⟨hm.st,hm.ok,hto,har,Qw⟩;rcases hW.sg with hsg | hsg | hsg
 ·obtain⟨tx,us,htx⟩:=hW.nm hsg;obtain⟨d,hd,hdo,hdm,hdv,hdn⟩:=hG0.node hW.ll;have hk1:d.k≠1:=fun q=>by rw[hdv q]at htx;cases htx
  obtain⟨lk,ltx,lnum,hlab,hT⟩:=hdn hk1;rw[htx]at hT;injection hT with u1 u2 u3 u4;subst u1 u2 u3;have hk3:d.k=3:=by
   unfold im at hlab;rw[aG hk1]at hlab;by_cases q:d.k=2
   ·rw[aH q]at hlab;injection hlab with hlab;injection hlab with a;cases a
   ·rcases hdo.ks with r | r | r
    ·exact absurd r hk1
    ·exact absurd r q
    ·exact r
  have htl:d.tx.toList=tx:=by unfold im at hlab;rw[aG hk1,aG (by omega)]at hlab;injection hlab with hlab;injection hlab with _ hlab;injection hlab
  have hul:us.length=d.args.length:=by rw[u4,bj]
  obtain⟨dv,dc,dl⟩:=hdo.c hk3;obtain⟨kk,hkk⟩:=hm.ok.hop g.l hW.ll;have IL:=ah (fun W (hu:Below (w.heap.size+1) (w.alloc (.cells #[.int .i64 (g.l:Int),.string g.sg,.int .i64 g.r,.string g.op,.int .i64 g.z,.bool g.wt,.slice g.no g.nd.length g.nc] 133)) W)=>(fd W mb 1 cs _ D nO nC g.l (fr g.l) kk d (hm.st.below (hb0.trans (hu.mono (bS _)))) hkk hd).mono (fun e w' q=>cP q.1 (cP q.2 (hu.trans (q.2.mono (by have:=hu.size;rw[aF]at this;exact this))))));rw[hk3,dv,dc]at IL;have ILV:=ah (fun W (hu:Below w.heap.size w W)=>qu W mb cs D nO nC fr G (some ⟨pg,0,none⟩) pc i (hm.below hu) hGl);have ICA:=ah (show∀W,Below w.heap.size w W->Calls Tryz.prog 119 #[.pointer (some ⟨mb,0,none⟩),.int .i64 (i:Int),.int .i64 (g.l:Int),.int .i64 p] W fun e w'=>rl P mb cs D nO fr TT G (some ⟨pg,0,none⟩) pc cls (eW cls tx us.length cls.length) (jX p (eW cls tx us.length cls.length).length) g.l i g w e w' from fun W hu=>by have:=Jh W mb cs D nO nC fr TT P G (some ⟨pg,0,none⟩) pc cls clo clc g.l d i g p (hm.below hu) (har.below hu) hto (fun q hq=>hP q (aW hu.size hq)) h0 ((gE.below hu).cls hcl) hokc hcc hi hgi hW.ll hd hk3 hsz hp1 hp2 hD hGl hc5;rw[htl,<-hul]at this;exact this.mono fun e w' q=>q.from hu)
  have t1:(g.sg.toList == [61])=false:=by rw[hsg];rfl
  have t2:(g.sg.toList == [58,61])=false:=by rw[hsg];rfl
  have HSG:=ah hsg;have HTX:=ah htx;have hdx:(d.tx.toList=[116,114,117,101]/\d.args.length=0)\/(¬d.tx.toList=[116,114,117,101])\/(d.tx.toList=[116,114,117,101]/\¬d.args.length=0):=by
   by_cases q1:d.tx.toList=[116,114,117,101]
   ·by_cases q2:d.args.length=0
    ·exact ay ⟨q1,q2⟩
    ·exact aw (aw ⟨q1,q2⟩)
   ·exact aw (ay q1)
  have HUL:=ah hul;have HTL:=ah htl;have HDX:=ah hdx;have hlb0:=aB (w.alloc (.cells #[.int .i64 (g.l:Int),.string g.sg,.int .i64 g.r,.string g.op,.int .i64 g.z,.bool g.wt,.slice g.no g.nd.length g.nc] 133)) (.cells #[.int .i64 0,.int .i64 0,.string ⟨#[]⟩,.int .i64 0] 144);rw[aF]at hlb0;have HLB0:=ah hlb0;have HB0:=ah hb0;have HBX:=ah hbx;clear hlb0;clear hm har hto hP h0 hcl hokc hgi hW hvb hsz hp1 hp2 hD hb0 hbx hG0 fc hd hdo hdm hdv hdn hk1 hlab u4 hk3 htl hul dv dc dl hkk hsg htx hdx;obtain⟨l,sg,r,op,z,wt,no,nc,nd⟩:=g;dsimp only at*;generalize d.args.length=dm at*;generalize d.tx=dtx at*;clear d;rcases ae HDX with⟨q1,q2⟩ | q1 | ⟨q1,q2⟩
  ·have u1:(dtx.toList == [116,114,117,101])=true:=by rw[q1];rfl
   subst q2;have HU:=ah (show us=[]from ch.1 (ae HUL))
   have HQ:=ah q1;clear q1 HDX;go_enter Tryz.func70,Tryz.ntmps70;go_wp2_with fail;go_region_with (go_at_call 80;refine(ae IL _ (by first | exact Qx | exact Qx.drew | exact(Qx.alloc (by simp) _).drew | exact Qx.alloc (by simp) _)).mono ?_;rintro y w2 ⟨rfl,hb2,hu2⟩;first | (have ab:=(hb2.block (w.heap.size+1) (by simp)).trans (ae HLB0);have ab0:=aN ab 0;have ab1:=aN ab 1;have ab2:=aN ab 2;have ab3:=aN ab 3;have ay0:=bI ab 0;have ay1:=bI ab 1;have ay2:=bI ab 2;have ay3:=bI ab 3;have abz:=aD ab;simp only[aE,aq,aA]at ab0 ab1 ab2 ab3) | skip)
   all_goals
    first
     | (have hab:=bB (bB (bB (bB ab 0 (.int .i64 3)) 1 (.int .i64 0)) 2 (.string dtx)) 3 (.int .i64 0)
        have hb9:Below (w.heap.size+1) (w.alloc (.cells #[.int .i64 (l:Int),.string sg,.int .i64 r,.string op,.int .i64 z,.bool wt,.slice no nd.length nc] 133)) ((((w2.setCell ⟨w.heap.size+1,0,none⟩ (.int .i64 3)).setCell ⟨w.heap.size+1,1,none⟩ (.int .i64 0)).setCell ⟨w.heap.size+1,2,none⟩ (.string dtx)).setCell ⟨w.heap.size+1,3,none⟩ (.int .i64 0)):=(((hu2.setCell Qw _).setCell Qw _).setCell Qw _).setCell Qw _;clear ab ab0 ab1 ab2 ab3 ay0 ay1 ay2 ay3 abz)
     | (have hab:=aB w2 (.cells #[.int .i64 3,.int .i64 0,.string dtx,.int .i64 0] 144)
        have hb9:=hu2.alloc (by have:=hu2.size;rw[aF]at this;exact this) (.cells #[.int .i64 3,.int .i64 0,.string dtx,.int .i64 0] 144))
    have d2:=aN hab 2;have d3:=aN hab 3;have dz:=aD hab;have hgx:=(hb9.block w.heap.size (pP _)).trans (ae HBX);have g0:=aN hgx 0;have gz9:=aD hgx;simp only[aE,aq,aA,ef,ec,ed]at d2 d3 g0;have HB9:=ah ((ae HB0).trans (hb9.mono (bS _)));clear hab hb9 hgx hu2 hb2;go_wp2_with fail;refine(ae ILV _ (ae HB9)).mono ?_;rintro y w10 ⟨rfl,po',pc',m10,fr10⟩;have HM10:=ah m10;have HF10:=ah fr10;clear m10 fr10;go_wp2_with fail;go_ret;exact aw (aw (ay ⟨ae HSG,by rw[ae HTX,<-ae HTL,ae HQ,ae HU],rfl,po',pc',ae HM10,(bZ.aX (ae HB9)).trans (ae HF10)⟩))
  ·have u1:(dtx.toList == [116,114,117,101])=false:=by simpa using q1
   have HQ:=ah q1;clear q1 HDX;go_enter Tryz.func70,Tryz.ntmps70;go_wp2_with fail;go_region_with (go_at_call 80;refine(ae IL _ (by first | exact Qx | exact Qx.drew | exact(Qx.alloc (by simp) _).drew | exact Qx.alloc (by simp) _)).mono ?_;rintro y w2 ⟨rfl,hb2,hu2⟩;first | (have ab:=(hb2.block (w.heap.size+1) (by simp)).trans (ae HLB0);have ab0:=aN ab 0;have ab1:=aN ab 1;have ab2:=aN ab 2;have ab3:=aN ab 3;have ay0:=bI ab 0;have ay1:=bI ab 1;have ay2:=bI ab 2;have ay3:=bI ab 3;have abz:=aD ab;simp only[aE,aq,aA]at ab0 ab1 ab2 ab3) | skip)
   all_goals
    first
     | (have hab:=bB (bB (bB (bB ab 0 (.int .i64 3)) 1 (.int .i64 0)) 2 (.string dtx)) 3 (.int .i64 (dm:Int))
        have hb9:Below (w.heap.size+1) (w.alloc (.cells #[.int .i64 (l:Int),.string sg,.int .i64 r,.string op,.int .i64 z,.bool wt,.slice no nd.length nc] 133)) ((((w2.setCell ⟨w.heap.size+1,0,none⟩ (.int .i64 3)).setCell ⟨w.heap.size+1,1,none⟩ (.int .i64 0)).setCell ⟨w.heap.size+1,2,none⟩ (.string dtx)).setCell ⟨w.heap.size+1,3,none⟩ (.int .i64 (dm:Int))):=(((hu2.setCell Qw _).setCell Qw _).setCell Qw _).setCell Qw _;clear ab ab0 ab1 ab2 ab3 ay0 ay1 ay2 ay3 abz)
     | (have hab:=aB w2 (.cells #[.int .i64 3,.int .i64 0,.string dtx,.int .i64 (dm:Int)] 144)
        have hb9:=hu2.alloc (by have:=hu2.size;rw[aF]at this;exact this) (.cells #[.int .i64 3,.int .i64 0,.string dtx,.int .i64 (dm:Int)] 144))
    have d2:=aN hab 2;have d3:=aN hab 3;have dz:=aD hab;have hgx:=(hb9.block w.heap.size (pP _)).trans (ae HBX);have g0:=aN hgx 0;have gz9:=aD hgx;simp only[aE,aq,aA,ef,ec,ed]at d2 d3 g0;have HB9:=ah ((ae HB0).trans (hb9.mono (bS _)));clear hab hb9 hgx hu2 hb2;go_wp2_with fail;refine(ae ICA _ (ae HB9)).mono ?_;intro y w10 h10;obtain⟨z10,rfl⟩:=h10.int;have H10:=ah h10;clear h10;go_wp2_with fail;go_ret;exact aw (aw (aw ⟨ae HSG,tx,us,ae HTX,(fun q=>ae HQ (by rw[ae HTL];exact q.1)),ae H10⟩))
  ·have u1:(dtx.toList == [116,114,117,101])=true:=by rw[q1];rfl
   have u2:((dm:Int) == 0)=false:=by simp;omega
   have HQ:=ah q2;clear q1 q2 HDX;go_enter Tryz.func70,Tryz.ntmps70;go_wp2_with fail;go_region_with (go_at_call 80;refine(ae IL _ (by first | exact Qx | exact Qx.drew | exact(Qx.alloc (by simp) _).drew | exact Qx.alloc (by simp) _)).mono ?_;rintro y w2 ⟨rfl,hb2,hu2⟩;first | (have ab:=(hb2.block (w.heap.size+1) (by simp)).trans (ae HLB0);have ab0:=aN ab 0;have ab1:=aN ab 1;have ab2:=aN ab 2;have ab3:=aN ab 3;have ay0:=bI ab 0;have ay1:=bI ab 1;have ay2:=bI ab 2;have ay3:=bI ab 3;have abz:=aD ab;simp only[aE,aq,aA]at ab0 ab1 ab2 ab3) | skip)
   all_goals
    first
     | (have hab:=bB (bB (bB (bB ab 0 (.int .i64 3)) 1 (.int .i64 0)) 2 (.string dtx)) 3 (.int .i64 (dm:Int))
        have hb9:Below (w.heap.size+1) (w.alloc (.cells #[.int .i64 (l:Int),.string sg,.int .i64 r,.string op,.int .i64 z,.bool wt,.slice no nd.length nc] 133)) ((((w2.setCell ⟨w.heap.size+1,0,none⟩ (.int .i64 3)).setCell ⟨w.heap.size+1,1,none⟩ (.int .i64 0)).setCell ⟨w.heap.size+1,2,none⟩ (.string dtx)).setCell ⟨w.heap.size+1,3,none⟩ (.int .i64 (dm:Int))):=(((hu2.setCell Qw _).setCell Qw _).setCell Qw _).setCell Qw _;clear ab ab0 ab1 ab2 ab3 ay0 ay1 ay2 ay3 abz)
     | (have hab:=aB w2 (.cells #[.int .i64 3,.int .i64 0,.string dtx,.int .i64 (dm:Int)] 144)
        have hb9:=hu2.alloc (by have:=hu2.size;rw[aF]at this;exact this) (.cells #[.int .i64 3,.int .i64 0,.string dtx,.int .i64 (dm:Int)] 144))
    have d2:=aN hab 2;have d3:=aN hab 3;have dz:=aD hab;have hgx:=(hb9.block w.heap.size (pP _)).trans (ae HBX);have g0:=aN hgx 0;have gz9:=aD hgx;simp only[aE,aq,aA,ef,ec,ed]at d2 d3 g0;have HB9:=ah ((ae HB0).trans (hb9.mono (bS _)));clear hab hb9 hgx hu2 hb2;go_wp2_with fail;refine(ae ICA _ (ae HB9)).mono ?_;intro y w10 h10;obtain⟨z10,rfl⟩:=h10.int;have H10:=ah h10;clear h10;go_wp2_with fail;go_ret;exact aw (aw (aw ⟨ae HSG,tx,us,ae HTX,(fun q=>ae HQ (by rw[<-ae HUL,q.2];rfl)),ae H10⟩))
 ·have hne:g.sg.toList≠[]:=by rw[hsg];simp
  obtain⟨rn,hr,hrl⟩:=hW.rr hne;have IE:=ah (fun W (hu:Below w.heap.size w W)=>(tG W mb cs D nO nC fr TT P G (some ⟨pg,0,none⟩) pc i g.l rn (hm.below hu) (har.below hu) hto hW.ll hrl (by omega) hGl hc5).mono (fun e w' q=>q.from hu));have t1:(g.sg.toList == [61])=true:=by rw[hsg];rfl
  have HSG:=ah hsg;have HB0:=ah hb0;have HRL:=ah hrl;clear hm har hto hP h0 hcl hokc hgi hW hvb hsz hp1 hp2 hD hb0 hbx hG0 fc hne hsg hrl;obtain⟨l,sg,r,op,z,wt,no,nc,nd⟩:=g;dsimp only at*;subst hr;go_enter Tryz.func70,Tryz.ntmps70;go_wp2_with fail;refine(ae IE _ (ae HB0)).mono ?_;intro y w10 h10;obtain⟨z10,rfl⟩:=h10.int;have H10:=ah h10;clear h10;go_wp2_with fail;go_ret;exact ay ⟨ae HSG,rn,rfl,ae HRL,ae H10⟩
 ·have hne:g.sg.toList≠[]:=by rw[hsg];simp
  obtain⟨rn,hr,hrl⟩:=hW.rr hne;obtain⟨d0,hd0,_,hd0m,_⟩:=hG0.node hrl;obtain⟨zn,e0,hzz,he0m⟩:∃(zn:Nat) (e0:Ng),(g.op.toList≠[]->g.z=(zn:Int)/\zn<D.length/\D[fr zn]?=some e0)/\e0∈D:=by
   by_cases q:g.op.toList=[]
   ·exact⟨0,d0,fun h=>absurd q h,hd0m⟩
   ·obtain⟨zn,hz,hzl⟩:=hW.zz q;obtain⟨e0,he0,_,he0m,_⟩:=hG0.node hzl;exact⟨zn,e0,fun _=>⟨hz,hzl,he0⟩,he0m⟩
  have IE:=ah (fun W (hu:Below w.heap.size w W)=>(C6 W mb cs D nO nC fr TT P G (some ⟨pg,0,none⟩) pc i g rn zn d0 e0 (hm.below hu) (har.below hu) (fun q hq=>hP q (aW hu.size hq)) hto hi hgi hW.ll hr hrl hW.z0 hzz hd0 (hvb _ hd0m) (hvb _ he0m) (by omega) hGl hc5).mono (fun e w' q=>q.from hu));have t1:(g.sg.toList == [61])=false:=by rw[hsg];rfl
  have t2:(g.sg.toList == [58,61])=true:=by rw[hsg];rfl
  have HSG:=ah hsg;have HB0:=ah hb0;have HRL:=ah hrl;have HR:=ah hr;have HD0:=ah hd0;have HZZ:=ah hzz;generalize hw2:lY g.op.toList (TT rn) (TT zn)=W2 at*;have HW2:=ah hw2;clear hw2;generalize hval:oB g.op.toList d0 e0=val at*;have HVAL:=ah hval;clear hm har hto hP h0 hcl hokc hgi hW hvb hsz hp1 hp2 hD hb0 hbx hG0 fc hne hsg hrl hr hd0 hzz hd0m he0m hval;go_enter Tryz.func70,Tryz.ntmps70;go_wp2_with fail;refine(ae IE _ (ae HB0)).mono ?_;intro y w10 h10;obtain⟨z10,rfl⟩:=h10.int;have H10:=ah h10;clear h10;go_wp2_with fail;go_ret;exact aw (ay ⟨ae HSG,rn,zn,d0,e0,ae HR,ae HRL,ae HD0,ae HZZ,by rw[ae HVAL,ae HW2];exact ae H10⟩)
def iA (op:List UInt8) (u v:af.U):Option Int:=match isNum u with
 | some a=>if op=[]then some a else(match isNum v with
  | some b=>if -1000000000<=arith op a b/\arith op a b<=1000000000 then some (arith op a b)else none
  | none=>none)
 | none=>none
structure iQ where
 D:List Ng
 fr:Nat->Nat
 T:Nat->af.U
 G:List Gl
def Pv (S S':iQ) (i:Nat) (g:Gl) (z:Int):Prop:=g.sg.toList=[61]/\z=0/\∃(rn:Nat) (σ:af.Vr->af.U),g.r=(rn:Int)/\rn<S.D.length/\fi S.D S'.D/\af.Made (e8 S.D) S.fr S'.fr S.T S'.T (S.T g.l) (S.T rn) σ/\S'.G=S.G.eraseIdx i
def Py (S S':iQ) (i:Nat) (g:Gl) (z:Int):Prop:=g.sg.toList=[58,61]/\z= -1/\∃(rn zn:Nat) (wo:Option Addr) (wc:Nat),g.r=(rn:Int)/\rn<S.D.length/\(g.op.toList≠[]->g.z=(zn:Int)/\zn<S.D.length)/\(lY g.op.toList (S.T rn) (S.T zn)).wt≠[]/\S'.D=S.D/\S'.fr=S.fr/\S'.T=S.T/\S'.G=S.G.set i {g with wt:=true,no:=wo,nc:=wc,nd:=(lY g.op.toList (S.T rn) (S.T zn)).wt}
def Pz (S S':iQ) (i:Nat) (g:Gl) (z:Int):Prop:=g.sg.toList=[58,61]/\z=0/\∃(rn zn:Nat) (x:Int) (T2:Nat->af.U) (σ:af.Vr->af.U),g.r=(rn:Int)/\rn<S.D.length/\(g.op.toList≠[]->g.z=(zn:Int)/\zn<S.D.length)/\(lY g.op.toList (S.T rn) (S.T zn)).wt=[]/\iA g.op.toList (S.T rn) (S.T zn)=some x/\kx (e8 (S.D++[ko x S.D.length])) S.fr T2/\(∀m,m<S.D.length->T2 m=S.T m)/\T2 S.D.length= .n 3 [] x []/\fi (S.D++[ko x S.D.length]) S'.D/\af.Made (e8 (S.D++[ko x S.D.length])) S.fr S'.fr T2 S'.T (T2 g.l) (T2 S.D.length) σ/\S'.G=S.G.eraseIdx i
def Pu (S S':iQ) (i:Nat) (g:Gl) (z:Int):Prop:=g.sg.toList=[]/\z=0/\S.T g.l= .n 1 [116,114,117,101] 0 []/\S'.D=S.D/\S'.fr=S.fr/\S'.T=S.T/\S'.G=S.G.eraseIdx i
def Px (cls:List af.dE) (S S':iQ) (i:Nat) (g:Gl) (p z:Int):Prop:=g.sg.toList=[]/\∃(tx:List UInt8) (us:List af.U),S.T g.l= .n 1 tx 0 us/\¬(tx=[116,114,117,101]/\us=[])/\∃(rs:List (Nat×List Nat)) (c:af.dE) (V F:List Nat) (T2:Nat->af.U) (ws:List Nat) (E:List Ng) (F':List Nat) (Gn:List Gl),rs.length<(eW cls tx us.length cls.length).length/\nq cls (eW cls tx us.length cls.length) (jX p (eW cls tx us.length cls.length).length) (S.T g.l) S.D.length rs/\cls[jp (eW cls tx us.length cls.length) (jX p (eW cls tx us.length cls.length).length) rs.length]?=some c/\uH (S.T g.l) S.D.length c V F T2 1 ws/\z=((jp (eW cls tx us.length cls.length) (jX p (eW cls tx us.length cls.length).length) rs.length+1:Nat):Int)/\S'.D=S.D++E/\S'.fr=S.fr/\(∀m,m<S.D.length->S'.T m=S.T m)/\(∀m∈V++F,S'.T m=T2 m)/\gP S.D.length E/\(V++F++F').length=(NG c).length/\(∀f∈F++F',S.D.length<=f/\S'.T f= .v ([],f))/\(F++F').Pairwise (·<·)/\(∀m∈V++F++F',m<S'.D.length)/\eO (xM S'.T S'.D.length (ej S'.T (V++F++F') (NG c))) c.goals Gn/\S'.G=S.G.eraseIdx i++Gn
def Pw (cls:List af.dE) (S S':iQ) (i:Nat) (g:Gl) (p z:Int):Prop:=g.sg.toList=[]/\z= -1/\∃(tx:List UInt8) (us:List af.U),S.T g.l= .n 1 tx 0 us/\¬(tx=[116,114,117,101]/\us=[])/\∃(rs:List (Nat×List Nat)) (E:List Ng) (oo:Option Addr) (oc:Nat),rs.length=(eW cls tx us.length cls.length).length/\nq cls (eW cls tx us.length cls.length) (jX p (eW cls tx us.length cls.length).length) (S.T g.l) S.D.length rs/\pL rs=true/\S'.D=S.D++E/\S'.fr=S.fr/\(∀m,m<S.D.length->S'.T m=S.T m)/\gP S.D.length E/\S'.G=S.G.set i {g with wt:=true,no:=oo,nc:=oc,nd:=fE rs}
def OU (cls:List af.dE) (S S':iQ) (i:Nat) (p z:Int):Prop:=∃g,S.G[i]?=some g/\(Pv S S' i g z\/Py S S' i g z\/Pz S S' i g z\/Pu S S' i g z\/Px cls S S' i g p z\/Pw cls S S' i g p z)
structure O3 (S:iQ):Prop where
 DB:kx (e8 S.D) S.fr S.T
 ok:g8 S.D S.fr
 gw:∀g∈S.G,xD S.T S.D.length g
 nl:∀g∈S.G,∀v∈g.nd,v<S.D.length
def NX (cls:List af.dE) (S S':iQ) (i:Nat) (p z:Int):Prop:=OU cls S S' i p z/\O3 S'
def OV (cls:List af.dE) (S:iQ) (i:Nat) (p en:Int):Prop:=∃g,S.G[i]?=some g/\
 ((g.sg.toList=[61]/\en=4/\∃rn:Nat,g.r=(rn:Int)/\rn<S.D.length/\∀θ,af.sub θ (S.T g.l)≠af.sub θ (S.T rn))\/
  (g.sg.toList=[58,61]/\∃rn zn:Nat,g.r=(rn:Int)/\rn<S.D.length/\(g.op.toList≠[]->g.z=(zn:Int)/\zn<S.D.length)/\(lY g.op.toList (S.T rn) (S.T zn)).wt=[]/\((en=5/\iA g.op.toList (S.T rn) (S.T zn)=none)\/(en=4/\∃x,iA g.op.toList (S.T rn) (S.T zn)=some x/\∀θ,af.sub θ (S.T g.l)≠ .n 3 [] x [])))\/
  (g.sg.toList=[]/\en=4/\∃(tx:List UInt8) (us:List af.U),S.T g.l= .n 1 tx 0 us/\¬(tx=[116,114,117,101]/\us=[])/\∃rs:List (Nat×List Nat),rs.length=(eW cls tx us.length cls.length).length/\nq cls (eW cls tx us.length cls.length) (jX p (eW cls tx us.length cls.length).length) (S.T g.l) S.D.length rs/\pL rs=false))
def DY (clo:Option Addr) (cn clc:Nat) (nO:Option Addr) (dn nC:Nat) (vo:Option Addr) (vn vc:Nat) (po:Option Addr) (gn pc:Nat) (lo:Option Addr) (ln lc:Nat) (en:Int):Array Value:=#[.slice clo cn clc,.slice nO dn nC,.slice vo vn vc,.slice po gn pc,.slice lo ln lc,.int .i64 en]
structure ir (w:World) (mb:Nat) (cls:List af.dE) (clo:Option Addr) (clc:Nat) (V:List Nat) (vo:Option Addr) (vc:Nat) (L:List Int) (lo:Option Addr) (lc:Nat) (S:iQ) (nO:Option Addr) (nC:Nat) (po:Option Addr) (pc:Nat):Prop where
 mc:jh w mb (DY clo cls.length clc nO S.D.length nC vo V.length vc po S.G.length pc lo L.length lc 0) S.D nO nC S.fr S.G po pc
 to:kx (e8 S.D) S.fr S.T
 ar:di w S.D (fun g=>¬rowOf lo g)
 vr:w.ownsRow 0 3 1 (.slice vo V.length vc) V.length (V.map cN)
 vl:∀v∈V,v<S.D.length
 lg:w.ownsRow 0 3 1 (.slice lo L.length lc) L.length (L.map jI)
 lv:∀k,rowOf lo k->¬rowOf vo k
 ln:∀g∈S.G,∀k,rowOf g.no k->¬rowOf lo k
 cl:ek w clo cls.length cls
 vb:∀d∈S.D,-1000000000<=d.val/\d.val<=1000000000
 gw:∀g∈S.G,xD S.T S.D.length g
 tb:∀d∈S.D,d.tx.size<=240
def my (w:World) (mb:Nat) (L:List Int) (lo:Option Addr) (lc:Nat) (en:Int):Prop:=∃cs:Array Value,w.heap[mb]?=some (.cells cs 88 (0,0))/\cs.size=6/\cs[4]?=some (.slice lo L.length lc)/\cs[5]?=some (.int .i64 en)/\w.ownsRow 0 3 1 (.slice lo L.length lc) L.length (L.map jI)
theorem MK {D:List Ng} {fr:Nat->Nat} {T:Nat->af.U} (hG:mH w w.heap.size mb 1 cs 88 D nO nC fr T P) {e:Ng} (hr:rn<D.length) (hd:D[fr rn]?=some d) (hz:op≠[]->zn<D.length/\D[fr zn]?=some e):oB op d e=iA op (T rn) (T zn):=by
 have key:∀{n:Nat} {d:Ng},n<D.length->D[fr n]?=some d->isNum (T n)=if d.k=2 then some d.val else none:=fun {n d} hn hd=>by
  obtain⟨d',h1,h2,h3,h4,h5⟩:=hG.node hn;rw[hd]at h1;cases h1;by_cases k1:d.k=1
  ·rw[h4 k1,aG (by omega)];rfl
  ·obtain⟨k,tx,num,hl,e⟩:=h5 k1;rw[e];unfold im at hl;rw[aG k1]at hl;by_cases k2:d.k=2
   ·rw[aH k2]at hl⊢;injection hl with hl;injection hl with u1 hl;injection hl with u2 u3;subst u1 u3;rfl
   ·rw[aG k2]at hl⊢;injection hl with hl;injection hl with u1 hl;subst u1;rfl
 unfold oB iA;rw[key hr hd];by_cases k2:d.k=2
 ·rw[aH k2,aH k2];dsimp only;by_cases ho:op=[]
  ·rw[aH ho,aH ho]
  ·rw[aG ho,aG ho,key (hz ho).1 (hz ho).2];by_cases e2:e.k=2
   ·rw[aH e2,aH e2]
   ·rw[aG e2,aG e2]
 ·rw[aG k2,aG k2]
end Go.Proofs.YthfjnfcekeknlabGreatDoor
namespace af
structure ml (x:dq):Prop where
 ok:Hh x
 sg:x.sign=[]\/x.sign=[61]\/x.sign=[58,61]
 nm:x.sign=[]->x.left.kind=2
 oe:x.op≠[]->x.sign=[58,61]
 ol:x.op.length<=2
end af
namespace Go.Proofs.YthfjnfcekeknlabGreatDoor
open Go.RowKit af
theorem xM.gw {T:Nat->af.U} {len:Nat} {η:List UInt8->af.U} {x:dq} {g:Gl} (h:xM T len η x g) (hx:ml x):xD T len g:=by
 refine⟨h.ll,by rw[h.sg];exact hx.sg,fun q=> ?_,fun q=>h.r0 (by rw[<-h.sg];exact q),fun q=> ?_,fun q=>h.z0 (by rw[<-h.op];exact q),fun q=> ?_,fun q=> ?_,by rw[<-lQ,h.op];exact hx.ol⟩
 ·rw[h.sg]at q;rw[h.tl];have hk:=hx.nm q;refine⟨x.left.text.toList,x.left.args.map (fb η 7),?_⟩;unfold fb;rw[aG (by omega),aG (by omega)]
 ·rw[h.sg]at q;obtain⟨r,hr,_⟩:=hx.ok.r1 q;obtain⟨n,h1,h2,_⟩:=h.r1 r hr;exact⟨n,h1,h2⟩
 ·rw[h.op]at q;obtain⟨r,hr,_⟩:=hx.ok.z1 q;obtain⟨n,h1,h2,_⟩:=h.z1 r hr;exact⟨n,h1,h2⟩
 ·rw[h.op]at q;rw[h.sg];exact hx.oe q
theorem xD.sub {T T':Nat->af.U} {len len':Nat} {σ:af.Vr->af.U} {g:Gl} (h:xD T len g) (ht:∀n,n<len->T' n=af.sub σ (T n)) (hl:len<=len'):xD T' len' g:=by
 refine⟨aJ h.ll hl,h.sg,fun q=> ?_,h.r0,fun q=> ?_,h.z0,fun q=> ?_,h.oe,h.ol⟩
 ·obtain⟨tx,us,e⟩:=h.nm q;exact⟨tx,us.map (af.sub σ),by rw[ht _ h.ll,e,dS]⟩
 ·obtain⟨n,h1,h2⟩:=h.rr q;exact⟨n,h1,aJ h2 hl⟩
 ·obtain⟨n,h1,h2⟩:=h.zz q;exact⟨n,h1,aJ h2 hl⟩
theorem xD.more {T T':Nat->af.U} {len len':Nat} {g:Gl} (h:xD T len g) (ht:∀n,n<len->T' n=T n) (hl:len<=len'):xD T' len' g:=by
 refine⟨aJ h.ll hl,h.sg,fun q=> ?_,h.r0,fun q=> ?_,h.z0,fun q=> ?_,h.oe,h.ol⟩
 ·obtain⟨tx,us,e⟩:=h.nm q;exact⟨tx,us,by rw[ht _ h.ll,e]⟩
 ·obtain⟨n,h1,h2⟩:=h.rr q;exact⟨n,h1,aJ h2 hl⟩
 ·obtain⟨n,h1,h2⟩:=h.zz q;exact⟨n,h1,aJ h2 hl⟩
theorem fi.val {D D':List Ng} (h:fi D D') (hv:∀d∈D,-1000000000<=d.val/\d.val<=1000000000):∀d∈D',-1000000000<=d.val/\d.val<=1000000000:=fun d hd=>by
 obtain⟨n,hn,rfl⟩:=bG hd;have hn':n<D.length:=by rw[<-h.len];exact hn
 have e:=h.at hn' hn;have e2:(jY D[n]).val=(jY D'[n]).val:=cL Ng.val e;change D[n].val=D'[n].val at e2;rw[<-e2];exact hv _ (aL hn')
theorem fi.N5 {D D':List Ng} (h:fi D D') (hv:∀d∈D,d.tx.size<=240):∀d∈D',d.tx.size<=240:=fun d hd=>by
 obtain⟨n,hn,rfl⟩:=bG hd;have hn':n<D.length:=by rw[<-h.len];exact hn
 have e:=h.at hn' hn;have e2:(jY D[n]).tx=(jY D'[n]).tx:=cL Ng.tx e;change D[n].tx=D'[n].tx at e2;rw[<-e2];exact hv _ (aL hn')
theorem gP.N5 {b:Nat} {D E:List Ng} (h:gP b E) (hv:∀d∈D,d.tx.size<=240):∀d∈D++E,d.tx.size<=240:=fun d hd=>by
 rcases bA.1 hd with q | q
 ·exact hv d q
 ·obtain⟨i,hi,rfl⟩:=bG q;exact(h i _ (aj hi)).2.2.2.1
theorem gP.val {b:Nat} {D E:List Ng} (h:gP b E) (hv:∀d∈D,-1000000000<=d.val/\d.val<=1000000000):∀d∈D++E,-1000000000<=d.val/\d.val<=1000000000:=fun d hd=>by
 rcases bA.1 hd with q | q
 ·exact hv d q
 ·obtain⟨i,hi,rfl⟩:=bG q;obtain⟨_,_,_,_,h1,h2⟩:=h i _ (aj hi);omega
section
variable {w:World} {mb:Nat} {cls:List af.dE} {clo:Option Addr} {clc:Nat} {V:List Nat} {vo:Option Addr} {vc:Nat} {L:List Int} {lo:Option Addr} {lc:Nat} {S:iQ} {nO:Option Addr} {nC:Nat} {po:Option Addr} {pc:Nat}
theorem ir.no (h:ir w mb cls clo clc V vo vc L lo lc S nO nC po pc) {k:Nat} {ys:Array Value} {Y:TypeId} (hk:w.heap[k]?=some (.cells ys Y (0,0))) (h1:Y≠88) (h2:Y≠147) (h3:Y≠133):¬(k=mb\/rowOf nO k\/rowOf po k):=by
 rintro(e | e | e)
 ·rw[e,h.mc.st.blk]at hk;simp only[aM,aR]at hk;exact h1 hk.2.1.symm
 ·exact cm h.mc.st.own hk h2 e
 ·exact cm h.mc.fp hk h3 e
theorem ir.row (h:ir w mb cls clo clc V vo vc L lo lc S nO nC po pc) {w':World} {R R':Nat->Prop} (hf:bZ R R' w w') (hR:∀k,R k->k=mb\/rowOf nO k\/rowOf po k) {b:Nat} {o:Option Addr} {n cap:Nat} {xs:List Value} (ho:w.ownsRow b 3 1 (.slice o n cap) n xs):w'.ownsRow b 3 1 (.slice o n cap) n xs:=aO ho fun g q=>by obtain⟨cur,hc⟩:=bL ho (bP q);exact hf.block g (aD hc) fun r=>h.no hc (by decide) (by decide) (by decide) (hR g r)
theorem ir.args (h:ir w mb cls clo clc V vo vc L lo lc S nO nC po pc) {w':World} {R R':Nat->Prop} (hf:bZ R R' w w') (hR:∀k,R k->k=mb\/rowOf nO k\/rowOf po k):di w' S.D (fun g=>¬rowOf lo g):=h.ar.keep fun g _ hp hg=>⟨(hf.block g (aD hg) fun r=>h.no hg (by decide) (by decide) (by decide) (hR g r)).trans hg,hp⟩
theorem ir.put (h:ir w mb cls clo clc V vo vc L lo lc S nO nC po pc) {w':World} {R R':Nat->Prop} (hf:bZ R R' w w') (hR:∀k,R k->k=mb\/rowOf nO k\/rowOf po k) {S':iQ} {nO':Option Addr} {nC':Nat} {po':Option Addr} {pc':Nat} (hm:jh w' mb (DY clo cls.length clc nO' S'.D.length nC' vo V.length vc po' S'.G.length pc' lo L.length lc 0) S'.D nO' nC' S'.fr S'.G po' pc') (ht:kx (e8 S'.D) S'.fr S'.T) (ha:di w' S'.D (fun g=>¬rowOf lo g)) (hl:S.D.length<=S'.D.length) (hn:∀g∈S'.G,g∈S.G\/∀k,rowOf g.no k->w.heap.size<=k) (hv:∀d∈S'.D,-1000000000<=d.val/\d.val<=1000000000) (hg:∀g∈S'.G,xD S'.T S'.D.length g) (htb:∀d∈S'.D,d.tx.size<=240):ir w' mb cls clo clc V vo vc L lo lc S' nO' nC' po' pc':=by
 refine⟨hm,ht,ha,h.row hf hR h.vr,fun v q=>aJ (h.vl v q) hl,h.row hf hR h.lg,h.lv,fun g q k r s=> ?_,?_,hv,hg,htb⟩
 ·rcases hn g q with e | e
  ·exact h.ln g e k r s
  ·have:=e k r;have:=(dx h.lg s).2;omega
 ·exact(gE.vG hf fun k ys Y hk hY r=>h.no hk (by rcases hY with e | e | e<;>(rw[e];decide)) (by rcases hY with e | e | e<;>(rw[e];decide)) (by rcases hY with e | e | e<;>(rw[e];decide)) (hR k r)).cls h.cl
theorem ir.fail (h:ir w mb cls clo clc V vo vc L lo lc S nO nC po pc) {w':World} {R R':Nat->Prop} (hf:bZ R R' w w') (hR:∀k,R k->k=mb\/rowOf nO k\/rowOf po k) {cs:Array Value} {en:Int} (hb:w'.heap[mb]?=some (.cells (cs.setIfInBounds 5 (.int .i64 en)) 88 (0,0))) (h6:cs.size=6) (h4:cs[4]?=some (.slice lo L.length lc)):my w' mb L lo lc en:=
 ⟨_,hb,by simpa using h6,by rw[dp (by omega)];exact h4,by rw[gF,aH (by omega)],h.row hf hR h.lg⟩
end
end Go.Proofs.YthfjnfcekeknlabGreatDoor
namespace Go.Proofs.YthfjnfcekeknlabGreatDoor
open Go.RowKit af
variable {i clc nC mb vc pc lc g' cap':Nat} {G:List Gl} {g:Gl} {op:List UInt8} {u v:af.U} {x p z en:Int} {lo clo nO po vo nO' lo' po':Option Addr} {cls:List af.dE} {e:Ending} {V:List Nat} {w' w w7 W w1 w2:World} {L:List Int} {cs:Array Value} {R':Nat->Prop}
theorem DX (clo:Option Addr) (cn clc:Nat) (nO:Option Addr) (dn nC:Nat) (vo:Option Addr) (vn vc:Nat) (po:Option Addr) (gn pc:Nat) (lo:Option Addr) (ln lc:Nat) (en:Int) (po':Option Addr) (gn' pc':Nat):(DY clo cn clc nO dn nC vo vn vc po gn pc lo ln lc en).setIfInBounds 3 (.slice po' gn' pc')=DY clo cn clc nO dn nC vo vn vc po' gn' pc' lo ln lc en:=rfl
theorem Hw (clo:Option Addr) (cn clc:Nat) (nO:Option Addr) (dn nC:Nat) (vo:Option Addr) (vn vc:Nat) (po:Option Addr) (gn pc:Nat) (lo:Option Addr) (ln lc:Nat) (en:Int) (nO':Option Addr) (dn' nC':Nat):(DY clo cn clc nO dn nC vo vn vc po gn pc lo ln lc en).setIfInBounds 1 (.slice nO' dn' nC')=DY clo cn clc nO' dn' nC' vo vn vc po gn pc lo ln lc en:=rfl
theorem mem_erase (h:g∈G.eraseIdx i):g∈G:=cX h
theorem AN (θ:af.Vr->af.U) (x:Int):af.sub θ (.n 3 [] x [])= .n 3 [] x []:=by rw[dS];rfl
theorem Cc (h:iA op u v=some x) (hu:∀a,isNum u=some a->-1000000000<=a/\a<=1000000000): -1000000000<=x/\x<=1000000000:=by
 unfold iA at h;cases hq:isNum u with
 | none=>rw[hq]at h;cases h
 | some a=>
  rw[hq]at h;dsimp only at h;split at h
  ·cases h;exact hu x hq
  ·split at h
   ·split at h
    ·rename_i b _ hr;cases h;exact hr
    ·cases h
   ·cases h
def Po (mb:Nat) (cls:List af.dE) (clo:Option Addr) (clc:Nat) (V:List Nat) (vo:Option Addr) (vc:Nat) (L:List Int) (lo:Option Addr) (lc:Nat) (S:iQ) (nO po:Option Addr) (i:Nat) (p:Int) (w:World) (e:Ending) (w':World):Prop:=
 (∃(z:Int) (S':iQ) (nO':Option Addr) (nC':Nat) (po':Option Addr) (pc':Nat),e= .returned (.int .i64 z)/\OU cls S S' i p z/\ir w' mb cls clo clc V vo vc L lo lc S' nO' nC' po' pc'/\S'.D.length<=S.D.length+1100000/\S'.G.length<=S.G.length+6/\bZ (fun k=>k=mb\/rowOf nO k\/rowOf po k) (fun k=>k=mb\/rowOf nO' k\/rowOf po' k) w w')\/
 (∃en:Int,e= .returned (.int .i64 (-2))/\OV cls S i p en/\(en=4\/en=5)/\my w' mb L lo lc en/\bZ (fun k=>k=mb\/rowOf nO k\/rowOf po k) (fun k=>k=mb) w w')
theorem ir.Qa {S:iQ} (h:ir w mb cls clo clc V vo vc L lo lc S nO nC po pc) (hi:i<S.G.length) (hgi:S.G[i]=g) (hgl:∀c∈cls,(∀x∈c.goals,ml x)/\c.goals.length<=6) (hp:Pq (fun g=>¬rowOf lo g) mb (DY clo cls.length clc nO S.D.length nC vo V.length vc po S.G.length pc lo L.length lc 0) S.D nO nC S.fr S.T S.G po pc cls i g p w e w'):Po mb cls clo clc V vo vc L lo lc S nO po i p w e w':=by
 have hgi?:S.G[i]?=some g:=by rw[aj hi,hgi]
 have hgm:g∈S.G:=by rw[<-hgi];exact aL hi
 have hG0:mH w w.heap.size mb 1 _ 88 S.D nO nC S.fr S.T (fun g=>¬rowOf lo g):=⟨h.mc.st,h.mc.ok,h.to,h.ar,Qw⟩;have hel:(S.G.eraseIdx i).length<=S.G.length+6:=aW (kc _ _) (by omega);have hsel:∀g':Gl,(S.G.set i g').length<=S.G.length+6:=fun g'=>by rw[jN];omega
 rcases hp with⟨hs,rn,hr,hrl,hq⟩ | ⟨hs,rn,zn,d0,e0,hr,hrl,hd0,hzz,hq⟩ | ⟨hs,ht,rfl,po',pc',hm',hf'⟩ | ⟨hs,tx,us,htx,hnt,hq⟩
 ·rcases hq with⟨D',fr',σ,T',po',pc',rfl,hsm,hmd,hm',hf'⟩ | ⟨hno,rfl,hb',hf'⟩
  ·left
   have hf2:bZ (fun k=>k=mb\/rowOf nO k\/rowOf po k) (fun k=>k=mb\/rowOf nO k\/rowOf po' k) w w':=⟨hf'.os,hf'.tape,hf'.output,hf'.size,fun k hk q=>hf'.block k hk (fun r=>q (by rcases r with r | r;exact aw (ay r);exact ay r)),fun k q=>by
    rcases hf'.row k (by rcases q with q | q | q;exact aw (ay q);exact ay q;exact aw (aw q))with(r | r) | r
    ·exact ay (aw (ay r))
    ·exact ay (ay r)
    ·exact aw r⟩
   rw[DX,<-hsm.len]at hm';refine⟨0,⟨D',fr',T',S.G.eraseIdx i⟩,nO,nC,po',pc',rfl,⟨g,hgi?,ay ⟨hs,rfl,rn,σ,hr,hrl,hsm,hmd,rfl⟩⟩,h.put hf2 (fun k q=>q) hm' (by rw[hsm.g];exact hmd.DB) ((h.args hf2 (fun k q=>q)).same hsm) (mK hsm.len.symm) (fun x hx=>ay (mem_erase hx)) (hsm.val h.vb) (fun x hx=>(h.gw x (mem_erase hx)).sub (fun n _=>hmd.is n) (mK hsm.len.symm)) (hsm.N5 h.tb),by rw[hsm.len];omega,hel,hf2⟩
  ·right;refine⟨4,rfl,⟨g,hgi?,ay ⟨hs,rfl,rn,hr,hrl,hno⟩⟩,ay rfl,h.fail hf' (fun k q=>by rcases q with q | q;exact aw (ay q);exact ay q) hb' rfl rfl,⟨hf'.os,hf'.tape,hf'.output,hf'.size,fun k hk q=>hf'.block k hk (fun r=>q (by rcases r with r | r;exact aw (ay r);exact ay r)),fun k q=>ay (ay q)⟩⟩
 ·have hval:=MK hG0 (op:=g.op.toList) hrl hd0 (fun q=>⟨(hzz q).2.1,(hzz q).2.2⟩);have hzz':g.op.toList≠[]->g.z=(zn:Int)/\zn<S.D.length:=fun q=>⟨(hzz q).1,(hzz q).2.1⟩;rcases hq with⟨hw,wo,wc,rfl,hm',hf',hwo⟩ | ⟨hw,hv,rfl,hb',hf'⟩ | ⟨hw,x,no',nc',T2,w2,hv,ok2,to2,old2,tn2,hm2,ha2,hf2,hq⟩
  ·left;have hf2:bZ (fun k=>k=mb\/rowOf nO k\/rowOf po k) (fun k=>k=mb\/rowOf nO k\/rowOf po k) w w':=⟨hf'.os,hf'.tape,hf'.output,hf'.size,fun k hk q=>hf'.block k hk (fun r=>q (aw (aw r))),fun k q=>ay q⟩;have elS:S.G.length=(S.G.set i {g with wt:=true,no:=wo,nc:=wc,nd:=(lY g.op.toList (S.T rn) (S.T zn)).wt}).length:=by simp
   rw[elS]at hm';refine⟨-1,⟨S.D,S.fr,S.T,S.G.set i {g with wt:=true,no:=wo,nc:=wc,nd:=(lY g.op.toList (S.T rn) (S.T zn)).wt}⟩,nO,nC,po,pc,rfl,⟨g,hgi?,aw (ay ⟨hs,rfl,rn,zn,wo,wc,hr,hrl,hzz',hw,rfl,rfl,rfl,rfl⟩)⟩,h.put hf2 (fun k q=>q) hm' h.to (h.args hf2 (fun k q=>q)) Qw (fun x hx=> ?_) h.vb (fun x hx=> ?_) h.tb,iq _ _,hsel _,hf2⟩
   ·rcases cQ hx with q | q
    ·exact ay q
    ·right;rw[q];exact hwo
   ·rcases cQ hx with q | q
    ·exact h.gw x q
    ·rw[q];exact⟨(h.gw g hgm).ll,(h.gw g hgm).sg,(h.gw g hgm).nm,(h.gw g hgm).r0,(h.gw g hgm).rr,(h.gw g hgm).z0,(h.gw g hgm).zz,(h.gw g hgm).oe,(h.gw g hgm).ol⟩
  ·right;refine⟨5,rfl,⟨g,hgi?,aw (ay ⟨hs,rn,zn,hr,hrl,hzz',hw,ay ⟨rfl,by rw[<-hval];exact hv⟩⟩)⟩,aw rfl,h.fail hf' (fun k q=>ay q) hb' rfl rfl,⟨hf'.os,hf'.tape,hf'.output,hf'.size,fun k hk q=>hf'.block k hk (fun r=>q (ay r)),fun k q=>ay (ay q)⟩⟩
  ·have hvU:iA g.op.toList (S.T rn) (S.T zn)=some x:=by rw[<-hval];exact hv
   have hz2:=hf2.size;rcases hq with⟨D',fr',σ,T',po',pc',rfl,hsm,hmd,hm',hf'⟩ | ⟨hno,rfl,hb',hf'⟩
   ·left
    have hf3:bZ (fun k=>k=mb\/rowOf nO k\/rowOf po k) (fun k=>k=mb\/rowOf no' k\/rowOf po' k) w w':=by
     have hz3:=hf'.size;have hno:∀k,rowOf no' k->eP mb nO k\/w.heap.size<=k:=fun k q=>hf2.row k (aw q);refine⟨hf'.os.trans hf2.os,hf'.tape.trans hf2.tape,hf'.output.trans hf2.output,by omega,fun k hk q=> ?_,fun k q=> ?_⟩
     ·rw[hf'.block k (by omega) ?_,hf2.block k hk ?_]
      ·rintro(r | r)
       ·exact q (ay r)
       ·exact q (aw (ay r))
      ·rintro(r | r)
       ·rcases hno k r with(s | s) | s
        ·exact q (ay s)
        ·exact q (aw (ay s))
        ·omega
       ·exact q (ay r)
     ·rcases hf'.row k (by rcases q with q | q | q;exact aw (ay q);exact ay q;exact aw (aw q))with(r | r) | r
      ·rcases hno k r with(s | s) | s
       ·exact ay (ay s)
       ·exact ay (aw (ay s))
       ·exact aw s
      ·exact ay (ay r)
      ·right;omega
    rw[Hw,DX,<-hsm.len]at hm';have hlen:(S.D++[ko x S.D.length]).length=S.D.length+1:=by simp
    have hva:∀d∈S.D++[ko x S.D.length],-1000000000<=d.val/\d.val<=1000000000:=fun d hd=>by
     rcases bA.1 hd with q | q
     ·exact h.vb d q
     ·rw[a8.1 q];refine Cc hvU fun a ha=> ?_;obtain⟨d',k1,k2,k3,k4,k5⟩:=hG0.node hrl;by_cases kk:d'.k=1
      ·rw[k4 kk]at ha;cases ha
      ·obtain⟨k,tx,num,hl,e⟩:=k5 kk;rw[e]at ha;have hb:=h.vb d' k3;unfold im at hl;rw[aG kk]at hl;by_cases k2':d'.k=2
       ·rw[aH k2']at hl;injection hl with hl;injection hl with u1 hl;injection hl with u2 u3;subst u1 u3;have:d'.val=a:=by simpa [isNum] using ha
        omega
       ·rw[aG k2']at hl;injection hl with hl;injection hl with u1 hl;subst u1;simp[isNum]at ha
    refine⟨0,⟨D',fr',T',S.G.eraseIdx i⟩,no',nc',po',pc',rfl,⟨g,hgi?,aw (aw (ay ⟨hs,rfl,rn,zn,x,T2,σ,hr,hrl,hzz',hw,hvU,to2,old2,tn2,hsm,hmd,rfl⟩))⟩,h.put hf3 (fun k q=>q) hm' (by rw[hsm.g];exact hmd.DB) ?_ (by rw[hsm.len,hlen];omega) (fun x hx=>ay (mem_erase hx)) (hsm.val hva) (fun y hy=> ?_) (hsm.N5 (fun d hd=>by rcases bA.1 hd with q | q;exact h.tb d q;rw[a8.1 q];exact cI _)),by rw[hsm.len,hlen];omega,hel,hf3⟩
    ·refine di.same (ha2.keep fun k _ hp hk=>⟨(hf'.block k (aD hk) ?_).trans hk,hp⟩) hsm;rintro(r | r)
     ·exact cm hm2.st.own hk (by decide) r
     ·rw[r,hm2.st.blk]at hk;simp only[aM,aR]at hk;exact absurd hk.2.1 (by decide)
    ·exact((h.gw y (mem_erase hy)).more (T':=T2) old2 Qw).sub (fun n _=>hmd.is n) (by rw[hsm.len,hlen];omega)
   ·right;refine⟨4,rfl,⟨g,hgi?,aw (ay ⟨hs,rn,zn,hr,hrl,hzz',hw,aw ⟨rfl,x,hvU,fun θ e=>hno θ ?_⟩⟩)⟩,ay rfl,?_,?_⟩
    ·rw[old2 _ (h.gw g hgm).ll,tn2,AN,e]
    ·have hrw:=h.row hf2 (fun k q=>by rcases q with q | q;exact ay q;exact aw (ay q)) h.lg;refine⟨_,hb',rfl,rfl,rfl,aO hrw fun k q=> ?_⟩;obtain⟨cur,hc⟩:=bL hrw (bP q);refine hf'.block k (aD hc) ?_;rintro(r | r)
     ·exact cm hm2.st.own hc (by decide) r
     ·rw[r,hm2.st.blk]at hc;simp only[aM,aR]at hc;exact absurd hc.2.1 (by decide)
    ·have hno':∀k,rowOf no' k->eP mb nO k\/w.heap.size<=k:=fun k q=>hf2.row k (aw q);have hz3:=hf'.size;refine⟨hf'.os.trans hf2.os,hf'.tape.trans hf2.tape,hf'.output.trans hf2.output,by omega,fun k hk q=> ?_,fun k q=>ay (ay q)⟩;rw[hf'.block k (by omega) ?_,hf2.block k hk ?_]
     ·rintro(r | r)
      ·exact q (ay r)
      ·exact q (aw (ay r))
     ·rintro(r | r)
      ·rcases hno' k r with(s | s) | s
       ·exact q (ay s)
       ·exact q (aw (ay s))
       ·omega
      ·exact q (ay r)
 ·left
  have hf2:bZ (fun k=>k=mb\/rowOf nO k\/rowOf po k) (fun k=>k=mb\/rowOf nO k\/rowOf po' k) w w':=⟨hf'.os,hf'.tape,hf'.output,hf'.size,fun k hk q=>hf'.block k hk (fun r=>q (ay r)),fun k q=>by
   rcases q with q | q | q
   ·exact ay (ay q)
   ·exact ay (aw (ay q))
   ·rcases hf'.row k (aw q)with r | r
    ·exact ay (ay r)
    ·exact aw r⟩
  rw[DX]at hm';exact⟨0,⟨S.D,S.fr,S.T,S.G.eraseIdx i⟩,nO,nC,po',pc',rfl,⟨g,hgi?,aw (aw (aw (ay ⟨hs,rfl,ht,rfl,rfl,rfl,rfl⟩)))⟩,h.put hf2 (fun k q=>q) hm' h.to (h.args hf2 (fun k q=>q)) Qw (fun x hx=>ay (mem_erase hx)) h.vb (fun x hx=>h.gw x (mem_erase hx)) h.tb,iq _ _,hel,hf2⟩
 ·rcases hq with⟨rs,c,W,F,T2,ws,E,F',no',nc',T',Gn,po',pc',h1,h2,h3,h4,rfl,h6,h7,h8,h9,h10,h11,h12,h13,h14,h15,h16,h17,h18⟩ | ⟨rs,h1,h2,h3,rfl,⟨cs2,h5,no1,n1,nc1,rfl⟩,h6⟩ | ⟨rs,E,no1,nc1,T1,oo,oc,h1,h2,h3,rfl,h5,h6,h7,h8,h9,h10,h11,h12⟩
  ·left
   have hf2:bZ (fun k=>k=mb\/rowOf nO k\/rowOf po k) (fun k=>k=mb\/rowOf no' k\/rowOf po' k) w w':=⟨h18.os,h18.tape,h18.output,h18.size,fun k hk q=>h18.block k hk (fun r=>q (by rcases r with r | r;exact ay r;exact aw (ay r))),fun k q=>by
    rcases h18.row k (by rcases q with q | q | q;exact ay (ay q);exact ay (aw q);exact aw q)with(r | r) | r
    ·exact ay (ay r)
    ·exact ay (aw (ay r))
    ·exact aw r⟩
   rw[Hw,DX]at h6;have hcm:c∈cls:=bK h3;have hGn:=h16.length;have hlen:(S.D++E).length=S.D.length+E.length:=au;refine⟨_,⟨S.D++E,S.fr,T',S.G.eraseIdx i++Gn⟩,no',nc',po',pc',rfl,⟨g,hgi?,aw (aw (aw (aw (ay ⟨hs,tx,us,htx,hnt,rs,c,W,F,T2,ws,E,F',Gn,h1,h2,h3,h4,rfl,rfl,rfl,h9,h10,h11,h12,h13,h14,h15,h16,rfl⟩))))⟩,h.put hf2 (fun k q=>q) h6 h8 h7 (eX _ _) (fun x hx=> ?_) (h11.val h.vb) (fun x hx=> ?_) (h11.N5 h.tb),by dsimp only;omega,?_,hf2⟩
   ·rcases bA.1 hx with q | q
    ·exact ay (mem_erase q)
    ·right;obtain⟨j,hj,rfl⟩:=bG q;intro k hk;rw[(h16.at j (by omega) hj).no]at hk;obtain⟨_,e,_⟩:=hk;cases e
   ·rcases bA.1 hx with q | q
    ·exact(h.gw x (mem_erase q)).more h9 (eX _ _)
    ·obtain⟨j,hj,rfl⟩:=bG q;exact(h16.at j (by omega) hj).gw ((hgl c hcm).1 _ (aL (by omega)))
   ·dsimp only;have:=(hgl c hcm).2;have:=kc S.G i;rw[au];omega
  ·right;refine⟨4,rfl,⟨g,hgi?,aw (aw ⟨hs,rfl,tx,us,htx,hnt,rs,h1,h2,h3⟩)⟩,ay rfl,h.fail h6 (fun k q=>by rcases q with q | q;exact ay q;exact aw (ay q)) h5 rfl rfl,⟨h6.os,h6.tape,h6.output,h6.size,fun k hk q=>h6.block k hk (fun r=>q (by rcases r with r | r;exact ay r;exact aw (ay r))),fun k q=>ay (ay q)⟩⟩
  ·left
   have hf2:bZ (fun k=>k=mb\/rowOf nO k\/rowOf po k) (fun k=>k=mb\/rowOf no1 k\/rowOf po k) w w':=⟨h12.os,h12.tape,h12.output,h12.size,fun k hk q=>h12.block k hk (fun r=>q (by rcases r with(r | r) | r;exact ay r;exact aw (ay r);exact aw (aw r))),fun k q=>by
    rcases h12.row k (by rcases q with q | q | q;exact ay (ay q);exact ay (aw q);exact aw q)with((r | r) | r) | r
    ·exact ay (ay r)
    ·exact ay (aw (ay r))
    ·exact ay (aw (aw r))
    ·exact aw r⟩
   have elS:S.G.length=(S.G.set i {g with wt:=true,no:=oo,nc:=oc,nd:=fE rs}).length:=by simp
   rw[Hw,elS]at h5;have hlen:(S.D++E).length=S.D.length+E.length:=au;refine⟨-1,⟨S.D++E,S.fr,T1,S.G.set i {g with wt:=true,no:=oo,nc:=oc,nd:=fE rs}⟩,no1,nc1,po,pc,rfl,⟨g,hgi?,aw (aw (aw (aw (aw ⟨hs,rfl,tx,us,htx,hnt,rs,E,oo,oc,h1,h2,h3,rfl,rfl,h8,h9,rfl⟩))))⟩,h.put hf2 (fun k q=>q) h5 h7 h6 (eX _ _) (fun x hx=> ?_) (h9.val h.vb) (fun x hx=> ?_) (h9.N5 h.tb),by dsimp only;omega,hsel _,hf2⟩
   ·rcases cQ hx with q | q
    ·exact ay q
    ·right;rw[q];exact h11
   ·rcases cQ hx with q | q
    ·exact(h.gw x q).more h8 (eX _ _)
    ·rw[q];have:=(h.gw g hgm).more h8 (eX S.D E);exact⟨this.ll,this.sg,this.nm,this.r0,this.rr,this.z0,this.zz,this.oe,this.ol⟩
def Qi (mb:Nat) (cls:List af.dE) (clo:Option Addr) (clc:Nat) (V:List Nat) (vo:Option Addr) (vc:Nat) (L:List Int) (lo:Option Addr) (lc:Nat) (S:iQ) (nO po:Option Addr) (i:Nat) (p:Int) (w:World) (e:Ending) (w':World):Prop:=
 (∃(z:Int) (S':iQ) (nO':Option Addr) (nC':Nat) (po':Option Addr) (pc':Nat),e= .returned (.int .i64 z)/\NX cls S S' i p z/\ir w' mb cls clo clc V vo vc L lo lc S' nO' nC' po' pc'/\S'.D.length<=S.D.length+1100000/\S'.G.length<=S.G.length+6/\bZ (fun k=>k=mb\/rowOf nO k\/rowOf po k) (fun k=>k=mb\/rowOf nO' k\/rowOf po' k) w w')\/
 (∃en:Int,e= .returned (.int .i64 (-2))/\OV cls S i p en/\(en=4\/en=5)/\my w' mb L lo lc en/\bZ (fun k=>k=mb\/rowOf nO k\/rowOf po k) (fun k=>k=mb) w w')
theorem ir.go {w:World} {mb:Nat} {cls:List af.dE} {clo:Option Addr} {clc:Nat} {V:List Nat} {vo:Option Addr} {vc:Nat} {L:List Int} {lo:Option Addr} {lc:Nat} {S:iQ} {nO:Option Addr} {nC:Nat} {po:Option Addr} {pc:Nat} (h:ir w mb cls clo clc V vo vc L lo lc S nO nC po pc) {i:Nat} {g:Gl} (hi:i<S.G.length) (hgi:S.G[i]=g) (hgl:∀c∈cls,(∀x∈c.goals,ml x)/\c.goals.length<=6) {p:Int} {e:Ending} {w':World} (hp:Pq (fun g=>¬rowOf lo g) mb (DY clo cls.length clc nO S.D.length nC vo V.length vc po S.G.length pc lo L.length lc 0) S.D nO nC S.fr S.T S.G po pc cls i g p w e w'):Qi mb cls clo clc V vo vc L lo lc S nO po i p w e w':=by
 rcases h.Qa hi hgi hgl hp with⟨z,S',nO',nC',po',pc',h1,h2,h3,h4⟩ | h1
 ·exact ay ⟨z,S',nO',nC',po',pc',h1,⟨h2,h3.to,h3.mc.ok,h3.gw,h3.mc.DT⟩,h3,h4⟩
 ·exact aw h1
def qt (V:List Nat) (S:iQ):Bool:=decide (24<S.G.length)||((V.map fun n:Nat=>(n:Int)).any (jL S.T)||S.G.any (mE S.D S.fr S.T))
theorem AU (hW:Below w.heap.size w W) (hb:w.heap[mb]?=some (.cells cs 88 (0,0))) (ho:w.ownsRow 0 3 1 (.slice lo L.length lc) L.length (L.map jI)) (hg:W.grownBy w7 (Value.slice lo L.length lc).ownBlock) (hat:rowOf lo g'\/w.heap.size<=g'):(∀k,k≠mb->¬rowOf lo k->k<w.heap.size->(w7.setCell ⟨mb,4,none⟩ (.slice (some ⟨g',0,none⟩) (L.length+1) cap')).heap[k]?=w.heap[k]?)/\(w7.setCell ⟨mb,4,none⟩ (.slice (some ⟨g',0,none⟩) (L.length+1) cap')).heap[mb]?=some (.cells (cs.setIfInBounds 4 (.slice (some ⟨g',0,none⟩) (L.length+1) cap')) 88 (0,0))/\bZ (fun k=>k=mb\/rowOf lo k) (fun k=>k=mb\/rowOf (some ⟨g',0,none⟩) k) w (w7.setCell ⟨mb,4,none⟩ (.slice (some ⟨g',0,none⟩) (L.length+1) cap'))/\g'≠mb:=by
 have mz:=aD hb;have wz:=hW.size;have nomb:¬rowOf lo mb:=cm ho hb (by decide);have keep:∀k,k≠mb->¬rowOf lo k->k<w.heap.size->(w7.setCell ⟨mb,4,none⟩ (.slice (some ⟨g',0,none⟩) (L.length+1) cap')).heap[k]?=w.heap[k]?:=fun k h1 h2 h3=>by rw[b6 _ _ _ _ h1,hg.block k (by omega) (dF h2),hW.block k h3]
 refine⟨keep,?_,⟨hg.os.trans hW.os,hg.tape.trans hW.tape,hg.output.trans hW.output,by rw[fj];exact aW wz hg.size,fun k hk hr=>keep k (fun e=>hr (ay e)) (fun e=>hr (aw e)) hk,fun k q=> ?_⟩,fun e=> ?_⟩
 ·refine bB ?_ 4 (.slice (some ⟨g',0,none⟩) (L.length+1) cap');rw[hg.block mb (by omega) (dF nomb),hW.block mb mz];exact hb
 ·rcases q with e | ⟨p,hp,hq⟩
  ·exact ay (ay e)
  ·cases hp;rcases hat with r | r
   ·exact ay (aw (hq ▸ r))
   ·exact aw (hq ▸ r)
 ·rcases hat with q | q
  ·exact nomb (e ▸ q)
  ·omega
theorem ir.logged {S:iQ} (h:ir w mb cls clo clc V vo vc L lo lc S nO nC po pc) (hW:Below w.heap.size w W) (hown:w7.ownsRow 0 3 1 (.slice (some ⟨g',0,none⟩) (L.length+1) cap') (L.length+1) (L.map jI++[jI z])) (hg:W.grownBy w7 (Value.slice lo L.length lc).ownBlock) (hat:rowOf lo g'\/w.heap.size<=g'):ir (w7.setCell ⟨mb,4,none⟩ (.slice (some ⟨g',0,none⟩) (L.length+1) cap')) mb cls clo clc V vo vc (L++[z]) (some ⟨g',0,none⟩) cap' S nO nC po pc/\bZ (fun k=>k=mb\/rowOf lo k) (fun k=>k=mb\/rowOf (some ⟨g',0,none⟩) k) w (w7.setCell ⟨mb,4,none⟩ (.slice (some ⟨g',0,none⟩) (L.length+1) cap')):=by
 obtain⟨keep,hblk,hfg,gne⟩:=AU (cap':=cap') hW h.mc.st.blk h.lg hg hat;have el:(L++[z]).length=L.length+1:=by simp
 have kT:∀{k:Nat} {ys:Array Value} {Y:TypeId},w.heap[k]?=some (.cells ys Y (0,0))->Y≠88->Y≠3->(w7.setCell ⟨mb,4,none⟩ (.slice (some ⟨g',0,none⟩) (L.length+1) cap')).heap[k]?=w.heap[k]?:=fun {k ys Y} hk h1 h2=>keep k (fun e=>by rw[e,h.mc.st.blk]at hk;simp only[aM,aR]at hk;exact h1 hk.2.1.symm) (cm h.lg hk h2) (aD hk);have kI:∀{b n cap:Nat} {o:Option Addr} {xs:List Value},w.ownsRow b 3 1 (.slice o n cap) n xs->(∀k,rowOf o k->¬rowOf lo k)->(w7.setCell ⟨mb,4,none⟩ (.slice (some ⟨g',0,none⟩) (L.length+1) cap')).ownsRow b 3 1 (.slice o n cap) n xs:=fun {b n cap o xs} ho hn=>aO ho fun k q=>by obtain⟨cur,hc⟩:=bL ho (bP q);refine keep k (fun e=> ?_) (hn k (bP q)) (aD hc);rw[e,h.mc.st.blk]at hc;simp only[aM,aR]at hc;exact absurd hc.2.1 (by decide)
 have hl':∀k,rowOf (some (⟨g',0,none⟩:Addr)) k->rowOf lo k\/w.heap.size<=k:=fun k ⟨p,hp,hq⟩=>by
  cases hp;rcases hat with r | r
  ·exact ay (hq ▸ r)
  ·exact aw (hq ▸ r)
 refine⟨⟨⟨⟨by rw[el];exact hblk,h.mc.st.qF,aO h.mc.st.own fun k q=> ?_,h.mc.st.ty⟩,h.mc.ok,h.mc.c3,aO h.mc.fp fun k q=> ?_,fun g q=>kI (h.mc.pf g q) (h.ln g q),h.mc.DT,h.mc.nl⟩,h.to,h.ar.keep fun k ys hp hk=>⟨?_,fun q=> ?_⟩,kI h.vr (fun k q r=>h.lv k r q),h.vl,?_,fun k q r=> ?_,fun g q k r s=> ?_,?_,h.vb,h.gw,h.tb⟩,hfg⟩
 ·obtain⟨cur,hc⟩:=bL h.mc.st.own (bP q);exact kT hc (by decide) (by decide)
 ·obtain⟨cur,hc⟩:=bL h.mc.fp (bP q);exact kT hc (by decide) (by decide)
 ·refine(keep k (fun e=> ?_) hp (aD hk)).trans hk;rw[e,h.mc.st.blk]at hk;simp only[aM,aR]at hk;exact absurd hk.2.1 (by decide)
 ·rcases hl' k q with e | e
  ·exact hp e
  ·have:=aD hk;omega
 ·rw[el];have:(L++[z]).map jI=L.map jI++[jI z]:=by simp
  rw[this];exact aO hown fun k q=>b6 _ _ _ _ (fun e=>by obtain⟨p,hp,hk⟩:=bP q;cases hp;exact gne (hk.symm.trans e))
 ·rcases hl' k q with e | e
  ·exact h.lv k e r
  ·have:=(dx h.vr r).2;omega
 ·rcases hl' k s with e | e
  ·exact h.ln g q k r e
  ·have:=(dx (h.mc.pf g q) r).2;omega
 ·exact(show gE w _ from fun k ys Y hk hY=>(kT hk (by rcases hY with e | e | e<;>(rw[e];decide)) (by rcases hY with e | e | e<;>(rw[e];decide))).trans hk).cls h.cl
theorem my.logged (h:my w mb L lo lc en) (hW:Below w.heap.size w W) (hown:w7.ownsRow 0 3 1 (.slice (some ⟨g',0,none⟩) (L.length+1) cap') (L.length+1) (L.map jI++[jI z])) (hg:W.grownBy w7 (Value.slice lo L.length lc).ownBlock) (hat:rowOf lo g'\/w.heap.size<=g'):my (w7.setCell ⟨mb,4,none⟩ (.slice (some ⟨g',0,none⟩) (L.length+1) cap')) mb (L++[z]) (some ⟨g',0,none⟩) cap' en/\bZ (fun k=>k=mb\/rowOf lo k) (fun k=>k=mb\/rowOf (some ⟨g',0,none⟩) k) w (w7.setCell ⟨mb,4,none⟩ (.slice (some ⟨g',0,none⟩) (L.length+1) cap')):=by
 obtain⟨cs,hb,h6,h4,h5,ho⟩:=h;obtain⟨keep,hblk,hfg,gne⟩:=AU (cap':=cap') hW hb ho hg hat;have el:(L++[z]).length=L.length+1:=by simp
 refine⟨⟨_,hblk,by simpa using h6,by rw[gF,aH (by omega),el],by rw[dp (by omega)];exact h5,?_⟩,hfg⟩;rw[el];have:(L++[z]).map jI=L.map jI++[jI z]:=by simp
 rw[this];exact aO hown fun k q=>b6 _ _ _ _ (fun e=>by obtain⟨p,hp,hk⟩:=bP q;cases hp;exact gne (hk.symm.trans e))
def Mb (mb:Nat) (cls:List af.dE) (clo:Option Addr) (clc:Nat) (V:List Nat) (vo:Option Addr) (vc:Nat) (L:List Int) (lo:Option Addr) (S:iQ) (nO po:Option Addr) (i:Nat) (p:Int) (w w':World):Prop:=
 ∃(lo':Option Addr) (lc':Nat),(∃(z:Int) (S':iQ) (nO':Option Addr) (nC':Nat) (po':Option Addr) (pc':Nat),NX cls S S' i p z/\qt V S'=false/\ir w' mb cls clo clc V vo vc (L++[z]) lo' lc' S' nO' nC' po' pc'/\S'.D.length<=S.D.length+1100000/\bZ (fun k=>k=mb\/rowOf nO k\/rowOf po k\/rowOf lo k) (fun k=>k=mb\/rowOf nO' k\/rowOf po' k\/rowOf lo' k) w w')\/
  (∃(z:Int) (S':iQ),NX cls S S' i p z/\qt V S'=true/\my w' mb (L++[z]) lo' lc' 6/\bZ (fun k=>k=mb\/rowOf nO k\/rowOf po k\/rowOf lo k) (fun k=>k=mb\/rowOf lo' k) w w')\/
  (∃en:Int,OV cls S i p en/\(en=4\/en=5)/\my w' mb (L++[-2]) lo' lc' en/\bZ (fun k=>k=mb\/rowOf nO k\/rowOf po k\/rowOf lo k) (fun k=>k=mb\/rowOf lo' k) w w')
theorem It (hf:bZ (fun k=>k=mb\/rowOf nO k\/rowOf po k) (fun k=>k=mb\/rowOf nO' k\/rowOf po' k) w w1) (hg:bZ (fun k=>k=mb\/rowOf lo k) (fun k=>k=mb\/rowOf lo' k) w1 w2) (hR:∀k,R' k->k=mb\/rowOf nO' k\/rowOf po' k\/rowOf lo' k):bZ (fun k=>k=mb\/rowOf nO k\/rowOf po k\/rowOf lo k) R' w w2:=by
 have z1:=hf.size;have z2:=hg.size;refine⟨hg.os.trans hf.os,hg.tape.trans hf.tape,hg.output.trans hf.output,by omega,fun k hk q=> ?_,fun k q=> ?_⟩
 ·rw[hg.block k (by omega) (by rintro(r | r);exact q (ay r);exact q (aw (aw (aw r)))),hf.block k hk (by rintro(r | r | r);exact q (ay r);exact q (aw (ay r));exact q (aw (aw (ay r))))]
 ·have key:∀k,(k=mb\/rowOf nO' k\/rowOf po' k)->(k=mb\/rowOf nO k\/rowOf po k\/rowOf lo k)\/w.heap.size<=k:=fun k r=>by
   rcases hf.row k r with(s | s | s) | s
   ·exact ay (ay s)
   ·exact ay (aw (ay s))
   ·exact ay (aw (aw (ay s)))
   ·exact aw s
  rcases hR k q with r | r | r | r
  ·exact key k (ay r)
  ·exact key k (aw (ay r))
  ·exact key k (aw (aw r))
  ·rcases hg.row k (aw r)with(s | s) | s
   ·exact key k (ay s)
   ·exact ay (aw (aw (aw s)))
   ·right;omega
theorem Fk {S:iQ} (h:ir w mb cls clo clc V vo vc L lo lc S nO nC po pc) (hV:V.length<=1000000000):Calls Tryz.prog 71 #[.pointer (some ⟨mb,0,none⟩)] w fun e w'=>e= .returned (.bool (qt V S))/\Below w.heap.size w w':=by
 by_cases hl:24<S.G.length
 ·refine(wY w mb _ S.D nO nC S.fr S.G po pc h.mc hl).mono ?_;rintro e w' ⟨rfl,rfl⟩;refine⟨?_,Qx⟩;unfold qt;rw[show decide (24<S.G.length)=true by simpa using hl];rfl
 ·have hlen:(V.map fun n:Nat=>(n:Int)).length=V.length:=by simp
  refine(CO w mb _ S.D nO nC S.fr S.T (fun g=>¬rowOf lo g) S.G po pc (V.map fun n:Nat=>(n:Int)) vo vc h.mc h.ar (fun n _=>h.to.tr n) (by rw[hlen];rfl) (oQ.iB (b:=0) (c:=vc) (by rw[hlen,bQ];exact h.vr)) (fun x hx=> ?_) (by rw[hlen];exact hV) (fun g hg=> ?_) (by omega)).mono ?_
  ·obtain⟨n,hn,rfl⟩:=bu.1 hx;exact aw ⟨n,rfl,h.vl n hn⟩
  ·have gw:=h.gw g hg;refine⟨gw.ll,fun x hx=> ?_,?_⟩
   ·unfold lK at hx;split at hx
    ·rw[aj (h.mc.ok.lt gw.ll)]at hx;obtain⟨n,hn,rfl⟩:=bu.1 hx;exact aw ⟨n,rfl,(h.mc.ok.nd _ (h.mc.ok.lt gw.ll)).A7 n hn⟩
    ·rename_i hne;simp only[bh,cC,gq]at hx;rcases hx with rfl | rfl | rfl
     ·exact aw ⟨g.l,rfl,gw.ll⟩
     ·exact aw (gw.rr hne)
     ·by_cases ho:g.op.toList=[]
      ·exact ay (gw.z0 ho)
      ·exact aw (gw.zz ho)
   ·unfold lK;split
    ·rw[aj (h.mc.ok.lt gw.ll)]
     have hd:=h.mc.ok.nd _ (h.mc.ok.lt gw.ll);have:(S.D[S.fr g.l]'(h.mc.ok.lt gw.ll)).args.length<=3:=by
      rcases hd.ks with q | q | q
      ·rw[(hd.v q).2.2.2];simp
      ·rw[(hd.m q).2.2];simp
      ·exact(hd.c q).2.2
     simp only[Option.elim,bj];omega
    ·simp
  ·rintro e w' ⟨rfl,hb⟩;refine⟨?_,hb⟩;unfold qt;rw[show decide (24<S.G.length)=false by simpa using hl];rfl
theorem ir.below {w w':World} {mb:Nat} {cls:List af.dE} {clo:Option Addr} {clc:Nat} {V:List Nat} {vo:Option Addr} {vc:Nat} {L:List Int} {lo:Option Addr} {lc:Nat} {S:iQ} {nO:Option Addr} {nC:Nat} {po:Option Addr} {pc:Nat} (h:ir w mb cls clo clc V vo vc L lo lc S nO nC po pc) (hb:Below w.heap.size w w'):ir w' mb cls clo clc V vo vc L lo lc S nO nC po pc:=
 ⟨h.mc.below hb,h.to,h.ar.below hb,aO h.vr (fun g q=>hb.block g (h.vr.lt g q).2),h.vl,aO h.lg (fun g q=>hb.block g (h.lg.lt g q).2),h.lv,h.ln,(gE.below hb).cls h.cl,h.vb,h.gw,h.tb⟩
theorem ir.Pe {S:iQ} (h:ir w mb cls clo clc V vo vc L lo lc S nO nC po pc) (en:Int):my (w.setCell ⟨mb,5,none⟩ (.int .i64 en)) mb L lo lc en:=
 ⟨_,bB h.mc.st.blk 5 (.int .i64 en),rfl,rfl,rfl,aO h.lg fun k q=>b6 _ _ _ _ (fun e=>cm h.lg h.mc.st.blk (by decide) (e ▸ bP q))⟩
theorem Gx (w:World) (mb:Nat) (cls:List af.dE) (clo:Option Addr) (clc:Nat) (V:List Nat) (vo:Option Addr) (vc:Nat) (L:List Int) (lo:Option Addr) (lc:Nat) (S:iQ) (nO:Option Addr) (nC:Nat) (po:Option Addr) (pc i:Nat) (p:Int) (h:ir w mb cls clo clc V vo vc L lo lc S nO nC po pc) (hokc:∀c∈cls,pV c/\∀x∈c.goals,ml x) (hcc:cls.length<=12) (hi:i<S.G.length) (hsz:∀g∈S.G,af.size (S.T g.l)<=300) (hp1: -9223372036854775808<=p) (hp2:p<=9223372036854775807) (hD:S.D.length+6000000<=1000000000) (hGl:S.G.length<=1000) (hL:L.length<=1000000) (hV:V.length<=1000000000):
 Calls Tryz.prog 37 #[.pointer (some ⟨mb,0,none⟩),.int .i64 (i:Int),.int .i64 p] w fun e w'=>e= .returned (.tuple #[])/\Mb mb cls clo clc V vo vc L lo S nO po i p w w':=by
 have IG:=ah ((Ip w mb _ S.D nO nC S.fr S.T (fun g=>¬rowOf lo g) S.G po pc cls clo clc i S.G[i] p h.mc h.ar h.to (fun g hg q=>by have:=(dx h.lg q).2;omega) rfl h.cl (fun c hc=>(hokc c hc).1) hcc hi rfl (h.gw _ (aL hi)) h.vb (hsz _ (aL hi)) hp1 hp2 hD (by omega) (by show 5<6;omega)).mono (fun e w' q=>h.go hi rfl (fun c hc=>⟨(hokc c hc).2,(hokc c hc).1.gl⟩) q));have mz:=aD h.mc.st.blk;obtain⟨tj,hj,hy0,hy1,hy2⟩:=dH kO;clear h hokc hsz hD hp1 hp2 hGl hi;go_enter Tryz.func37,Tryz.ntmps37;go_wp2_with fail;refine(ae IG).mono ?_;rintro e w1 (⟨z,S',nO',nC',po',pc',rfl,hgo,hm,hdl,hgl,hf⟩ | ⟨en,rfl,hgo,hen,hm,hf⟩)
 ·have f4:w1.cell? ⟨mb,4,none⟩=some (.slice lo L.length lc):=aN hm.mc.st.blk 4;have x4:=bI hm.mc.st.blk 4;have mz1:=aD hm.mc.st.blk;have HNM:=ah (show some mb≠(Value.slice lo L.length lc).ownBlock from dF (cm hm.lg hm.mc.st.blk (by decide)))
  have HLG:=ah hm.lg;have HM:=ah hm;have HF:=ah hf;have HGO:=ah hgo;have HDL:=ah hdl;clear hm hf hgo hdl hgl IG;go_wp2_with (at_builtin;go_must (refine wpList_append_own_at _ rfl (.tmp 15) (.tmp 17) 25 rfl 0 3 tj (.int .i64 0) 1 8 Tryz.underlying25 hj hy0 hy1 hy2 rfl (by decide) (.slice lo L.length lc) L.length (L.map jI) rfl ((ae HLG).alloc _) ⟨w1.heap.size,0,none⟩ 1 1 [.int .i64 z] rfl rfl (lq _ _ _ _ rfl) (by simp[Value.oneCell']) (by unfold maxLen;omega) (by omega) (cI _) ?_);go_must (intro v' w7 hown' hgrow _ hat;obtain⟨g',cap',hv',-⟩:=fR hown';subst hv';have HLD:=ah ((ae HM).logged (z:=z) (Qx.alloc Qw _) hown' hgrow (by rcases hat with q | q;exact ay (bP q.symm);(right;have q2:g'=w1.heap.size+1:=(by simpa [Value.ownBlock] using q);omega)));have m4:=(hgrow.cell_far ⟨mb,4,none⟩ (by simp;omega) (ae HNM)).trans ((aC _ _ _ mz1).trans f4);have k9:w7.frozen? ⟨mb,4,none⟩=false:=(by have:=bI (ae HLD).1.mc.st.blk 4;rwa [cH]at this);have zz7:mb<w7.heap.size:=(by have:=aD (ae HLD).1.mc.st.blk;rwa [fj]at this);have f5:(w7.setCell ⟨mb,4,none⟩ (.slice (some ⟨g',0,none⟩) (L.length+1) cap')).cell? ⟨mb,5,none⟩=some (.int .i64 0):=aN (ae HLD).1.mc.st.blk 5;clear hown' hgrow hat));have HML:=ah (ae HLD).1;have HFL:=ah (ae HLD).2;refine(Fk (ae HML) hV).mono ?_;rintro e w8 ⟨rfl,hb8⟩;have hm8:=(ae HML).below hb8;have f58:w8.cell? ⟨mb,5,none⟩=some (.int .i64 0):=aN hm8.mc.st.blk 5;have x58:=bI hm8.mc.st.blk 5;have mz8:=aD hm8.mc.st.blk;have HM8:=ah hm8;have HB8:=ah hb8;clear hm8 hb8 HLD HLG HM f4 x4 m4 k9 f5 HNM;cases hlg:qt V S' with
  | true=>have HLR:=ah hlg;clear hlg;go_wp2_with fail;go_end0;refine⟨rfl,_,_,aw (ay ⟨z,S',ae HGO,ae HLR,(ae HM8).Pe 6,?_⟩)⟩;have hq:=It (R':=fun k=>k=mb\/rowOf (some ⟨g',0,none⟩) k) (ae HF) ((ae HFL).trans (bZ.aX (ae HB8))) (fun k q=>by rcases q with q | q;exact ay q;exact aw (aw (aw q)));exact⟨hq.os,hq.tape,hq.output,by rw[fj];exact hq.size,fun k hk hr=>by rw[b6 _ _ _ _ (fun e=>hr (ay e))];exact hq.block k hk hr,hq.row⟩
  | false=>have HLR:=ah hlg;clear hlg;go_wp2_with fail;go_end0;exact⟨rfl,_,_,ay ⟨z,S',nO',nC',po',pc',ae HGO,ae HLR,ae HM8,ae HDL,It (ae HF) ((ae HFL).trans (bZ.aX (ae HB8))) (fun k q=>q)⟩⟩
 ·have HM0:=ah hm;obtain⟨cs,hb,h6,h4,h5,ho⟩:=hm;have f4:=(aN hb 4).trans h4;have x4:=bI hb 4;have mz1:=aD hb;have HNM:=ah (show some mb≠(Value.slice lo L.length lc).ownBlock from dF (cm ho hb (by decide)))
  have HLG:=ah ho;have HF:=ah hf;have HGO:=ah hgo;have hen0:(en == 0)=false:=by rcases hen with q | q<;>(rw[q];rfl)
  have HEN:=ah hen;clear hf hgo IG hb h4 h5 h6 ho hen;go_wp2_with (at_builtin;go_must (refine wpList_append_own_at _ rfl (.tmp 15) (.tmp 17) 25 rfl 0 3 tj (.int .i64 0) 1 8 Tryz.underlying25 hj hy0 hy1 hy2 rfl (by decide) (.slice lo L.length lc) L.length (L.map jI) rfl ((ae HLG).alloc _) ⟨w1.heap.size,0,none⟩ 1 1 [.int .i64 (-2)] rfl rfl (lq _ _ _ _ rfl) (by simp[Value.oneCell']) (by unfold maxLen;omega) (by omega) (cI _) ?_);go_must (intro v' w7 hown' hgrow _ hat;obtain⟨g',cap',hv',-⟩:=fR hown';subst hv';have HLD:=ah ((ae HM0).logged (z:= -2) (Qx.alloc Qw _) hown' hgrow (by rcases hat with q | q;exact ay (bP q.symm);(right;have q2:g'=w1.heap.size+1:=(by simpa [Value.ownBlock] using q);omega)));have m4:=(hgrow.cell_far ⟨mb,4,none⟩ (by simp;omega) (ae HNM)).trans ((aC _ _ _ mz1).trans f4);obtain⟨cs7,hb7,h67,h47,h57,ho7⟩:=(ae HLD).1;have k9:w7.frozen? ⟨mb,4,none⟩=false:=(by have:=bI hb7 4;rwa [cH]at this);have zz7:mb<w7.heap.size:=(by have:=aD hb7;rwa [fj]at this);have f5:=(aN hb7 5).trans h57;clear hown' hgrow hat hb7 h67 h47 h57 ho7));go_end0;refine⟨rfl,_,_,aw (aw ⟨en,ae HGO,ae HEN,(ae HLD).1,?_⟩)⟩;have hf:=ae HF;have hg:=(ae HLD).2;have hz1:=hf.size;have hz2:=hg.size;refine⟨hg.os.trans hf.os,hg.tape.trans hf.tape,hg.output.trans hf.output,by omega,fun k hk q=> ?_,fun k q=>by
   rcases hg.row k q with(r | r) | r
   ·exact ay (ay r)
   ·exact ay (aw (aw (aw r)))
   ·right;omega⟩
  rw[hg.block k (by omega) (by rintro(r | r);exact q (ay r);exact q (aw (aw (aw r)))),hf.block k hk (by rintro(r | r | r);exact q (ay r);exact q (aw (ay r));exact q (aw (aw (ay r))))]
end Go.Proofs.YthfjnfcekeknlabGreatDoor
namespace af
variable {Q:Vr->Prop} {P:Nat->Prop} {r:Nat->Nat} {l m:Wn} {n:Nat} {T:List Nat} {u v:U} {η:List UInt8->U}
def rn (r:Nat->Nat):Vr->Vr:=fun x=>([],r x.2)
def fm (r:Nat->Nat) (u:U):U:=sub (ren (rn r)) u
theorem gO (r:Nat->Nat) (k:Nat) (tx:List UInt8) (num:Int) (ss:List U):fm r (.n k tx num ss)= .n k tx num (ss.map (fm r)):=dS _ _ _ _ _
theorem mT (r:Nat->Nat) (x:Vr):fm r (.v x)= .v ([],r x.2):=rfl
def PQ (P:Nat->Prop) (x:Vr):Prop:=x.1=[]/\P x.2
def lj (r:Nat->Nat) (P:Nat->Prop):Prop:=∀i j,P i->P j->r i=r j->i=j
theorem eG:∀(u:U),fz Q u↔∀x,has x u->Q x:=by
 refine U.ind (fun x=>⟨fun h y hy=> ?_,fun h=> .v (h x rfl)⟩) (fun k tx num ss ih=>⟨fun h y hy=> ?_,fun h=> .n fun a ha=>(ih a ha).2 fun x hx=>h x ((gB ..).2 ⟨a,ha,hx⟩)⟩)
 ·rw[has]at hy;subst hy;exact h.var
 ·obtain⟨a,ha,hx⟩:=(gB ..).1 hy;exact(ih a ha).1 (h.args a ha) y hx
theorem lj.on (h:lj r P):BZ (rn r) (PQ P):=fun x y hx hy e=>by unfold rn at e;injection e with _ e;exact B1 (hx.1.trans hy.1.symm) (h _ _ hx.2 hy.2 e)
def Wn.map (r:Nat->Nat) (l:Wn):Wn:=⟨l.wt.map r,l.no⟩
theorem Wn.lX.at (h:l.lX (PQ P)):∀w∈l.wt,P w:=fun w hw=>by obtain⟨x,hx,rfl⟩:=h w hw;exact hx.2
theorem BS (h:lj r P) (hT:∀w∈T,P w) (hn:P n):gA (T.map r) (r n)=(gA T n).map r:=by
 unfold gA;by_cases q:n∈T
 ·rw[aH q,aH (du q)]
 ·rw[aG q,aG,dL];rfl;intro hm;obtain⟨m,hm,e⟩:=bu.1 hm;rw[h m n (hT m hm) hn e]at hm;exact q hm
theorem Wn.lF (h:lj r P) (hl:l.lX (PQ P)) (hn:P n):(l.map r).wait (r n)=(l.wait n).map r:=by unfold Wn.wait Wn.map;dsimp only;rw[BS h hl.at hn]
theorem Wn.pK (h:lj r P) (hl:l.lX (PQ P)) (hu:fz (PQ P) u):(l.map r).fh (fm r u)=(l.fh u).map r:=by
 cases u with
 | v x=>exact Wn.lF h hl hu.var.2
 | n k tx num ss=>rw[gO];rfl
theorem Wn.oY (r:Nat->Nat) (l:Wn):(l.map r).says=l.says:=by
 unfold Wn.says Wn.map;dsimp only;split
 ·rfl
 ·simp
theorem Br (h:lj r P):∀(u v:U) (l:Wn),fz (PQ P) u->fz (PQ P) v->l.lX (PQ P)->gh (fm r u) (fm r v) (l.map r)=(gh u v l).map r:=by
 refine U.ind (fun x v l hu hv hl=> ?_) (fun k tx num ss ih v l hu hv hl=> ?_)
 ·cases v with
  | v y=>
   rw[mT,mT,mr,mr];by_cases e:x=y
   ·rw[aH e,aH (by rw[e])]
   ·rw[aG e,aG (show¬(([],r x.2):Vr)=([],r y.2)from fun q=>e (h.on x y hu.var hv.var q))]
    show ((l.map r).wait (r x.2)).wait (r y.2)=_;rw[Wn.lF h hl hu.var.2,Wn.lF h (hl.wait hu.var) hv.var.2]
  | n k tx num ss=>rw[mT,gO,nU,nU];exact Wn.lF h hl hu.var.2
 ·cases v with
  | v y=>rw[mT,gO,nV,nV];exact Wn.lF h hl hv.var.2
  | n k' tx' num' ss'=>
   rw[gO,gO,lr,lr,bj,bj];split
   ·have:∀(bs cs:List U) (l:Wn),(∀a∈bs,∀v l,fz (PQ P) a->fz (PQ P) v->l.lX (PQ P)->gh (fm r a) (fm r v) (l.map r)=(gh a v l).map r)->(∀a∈bs,fz (PQ P) a)->(∀a∈cs,fz (PQ P) a)->l.lX (PQ P)->gD (bs.map (fm r)) (cs.map (fm r)) (l.map r)=(gD bs cs l).map r:=by
     intro bs;induction bs with
     | nil=>intro cs l _ _ _ hl;rw[bV,jv,jv]
     | cons b bs ihb=>
      intro cs l hb h1 h2 hl;cases cs with
      | nil=>rw[bV,kC,kC]
      | cons c cs=>rw[aY,aY,gJ,gJ,hb b (by simp) c l (h1 b (by simp)) (h2 c (by simp)) hl];exact ihb cs _ (fun a ha=>hb a (by simp[ha])) (fun a ha=>h1 a (by simp[ha])) (fun a ha=>h2 a (by simp[ha])) (tL _ _ _ (h1 b (by simp)) (h2 c (by simp)) hl)
    exact this ss ss' l ih hu.args hv.args hl
   ·rfl
def fO.map (r:Nat->Nat) (l:fO):fO:=⟨l.st.map fun q=>(q.1,fm r q.2),l.w.map r⟩
theorem Bm (r:Nat->Nat) (x:List UInt8) (st:List (List UInt8×U)):(st.map fun q=>(q.1,fm r q.2)).find? (fun q=>q.1 == x)=(st.find? (fun q=>q.1 == x)).map fun q=>(q.1,fm r q.2):=by rw[List.find?_map];rfl
theorem fO.Hv (h:lj r P) {l:fO} (hl:l.um (PQ P)) (x:List UInt8) (hu:fz (PQ P) u):(l.map r).meet x (fm r u)=(l.meet x u).map r:=by
 unfold fO.meet fO.map;dsimp only;rw[Bm];cases hq:l.st.find? (fun q=>q.1 == x)with
 | none=>dsimp only[Option.map_none];rw[dL];rfl
 | some q=>dsimp only[Option.map_some];rw[Br h _ _ _ (hl.1 q (cR hq)) hu hl.2]
theorem x8 {r:Nat->Nat} {P:Nat->Prop} {g:Tm->U->fO->fO}:∀(ps:List Tm) (us:List U) (l:fO),(∀p∈ps,∀u∈us,∀l:fO,l.um (PQ P)->g p (fm r u) (l.map r)=(g p u l).map r/\(g p u l).um (PQ P))->l.um (PQ P)->fN g ps (us.map (fm r)) (l.map r)=(fN g ps us l).map r
 | p :: ps,u :: us,l,hg,h=>by rw[aY,fN,fN,(hg p (by simp) u (by simp) l h).1];exact x8 ps us (g p u l) (fun q hq v hv=>hg q (by simp[hq]) v (by simp[hv])) (hg p (by simp) u (by simp) l h).2
 | [],[],l,_,h=>by simp[fN]
 | [],_ :: _,l,_,h=>by simp[fN]
 | _ :: _,[],l,_,h=>by simp[fN]
theorem sU {r:Nat->Nat} {P:Nat->Prop} (h:lj r P):∀(f:Nat) (p:Tm) (u:U) (l:fO),fz (PQ P) u->l.um (PQ P)->dB f p (fm r u) (l.map r)=(dB f p u l).map r
 | 0,_,_,l,_,_=>by unfold dB;rfl
 | f+1,p,u,l,hu,hl=>by
  by_cases k:p.kind=3
  ·rw[jJ _ _ k,jJ u l k];exact fO.Hv h hl _ hu
  ·cases u with
   | v x=>rw[jr x l k,mT,jr _ _ k];show fO.mk _ ((l.w.map r).wait (r x.2))=_;rw[Wn.lF h hl.2 hu.var.2];rfl
   | n kk tx num ss=>
    rw[gO];by_cases hr:jl p=(kk,tx,num)/\p.args.length=ss.length
    ·rw[gf l k hr,gf _ k (by rw[bj];exact hr)];exact x8 p.args ss l (fun q _ v hv l hl=>⟨sU h f q v l (hu.args v hv) hl,lM f q v l (hu.args v hv) hl⟩) hl
    ·rw[kM l k hr,kM _ k (by rw[bj];exact hr)];rfl
theorem rA (r:Nat->Nat) (η:List UInt8->U):∀(f:Nat) (t:Tm),iE f t->fb (fun y=>fm r (η y)) f t=fm r (fb η f t)
 | f+1,t,h=>by
  unfold fb;by_cases k:t.kind=3
  ·rw[aH k,aH k]
  ·rw[aG k,aG k];by_cases k4:t.kind=4
   ·rw[aH k4,aH k4,gO];rfl
   ·rw[aG k4,aG k4,gO,bQ];congr 1;exact bt fun a ha=>rA r η f a (h.2.2.2 a ha)
theorem nS (r:Nat->Nat) (u:U):isNum (fm r u)=isNum u:=by
 cases u with
 | v x=>rfl
 | n k tx num ss=>rw[gO];unfold isNum;split<;>split<;>simp_all
theorem oT (r:Nat->Nat) (op:List UInt8) (u v:U):Go.Proofs.YthfjnfcekeknlabGreatDoor.iA op (fm r u) (fm r v)=Go.Proofs.YthfjnfcekeknlabGreatDoor.iA op u v:=by unfold Go.Proofs.YthfjnfcekeknlabGreatDoor.iA;rw[nS,nS]
theorem L0 (h:lj r P) (op:List UInt8) (hu:fz (PQ P) u) (hv:op≠[]->fz (PQ P) v):lY op (fm r u) (fm r v)=(lY op u v).map r:=by
 unfold lY;have e:Wn.none=Wn.none.map r:=rfl;split
 ·rw[e,Wn.pK h (eQ _) hu];rfl
 ·rename_i hne;rw[e,Wn.pK h (eQ _) hu,Wn.pK h ((eQ _).fh hu) (hv hne)];rfl
theorem sa (h:lj r P) (hu:fz (PQ P) u) (hv:fz (PQ P) v):fZ (fm r u) (fm r v)=(fZ u v).map r:=Br h u v Wn.none hu hv (eQ _)
theorem Ez (r:Nat->Nat) (u:U):jD (fm r u)=(jD u).map r:=by
 cases u with
 | v x=>rfl
 | n k tx num ss=>rw[gO];rfl
theorem Hf (r:Nat->Nat) (eq:Bool) (u v:U):ut eq (fm r u) (fm r v)=ut eq u v:=by unfold ut;rw[nS,nS]
theorem Ce (h:lj r P) (x:dq) (ns:List (List UInt8)) (hx:jc x) (hy:∀y∈bU ns x,fz (PQ P) (η y)):dR (fun y=>fm r (η y)) x=(dR η x).map r:=by
 have hl:∀y∈aP 8 ns x.left,fz (PQ P) (η y):=fun y hm=>hy y (by
  unfold bU;rw[hx.la];cases hr:x.right with
  | none=>exact hm
  | some r=>obtain⟨K,hK⟩:=dG 8 r (aP 8 ns x.left);show y∈aP 8 (aP 8 ns x.left) r;rw[hK];exact bO _ hm)
 have q:=mN 8 x.left ns hx.wl hl;unfold dR;rw[rA r η 8 x.left hx.wl];cases hr:x.right with
 | none=>
  dsimp only;generalize fb η 8 x.left=t at q⊢;cases t with
  | v x=>rfl
  | n k tx num ss=>
   rw[gO];cases ss with
   | nil=>rfl
   | cons a ss=>
    cases ss with
    | nil=>exact Ez r a
    | cons b ss=>rfl
 | some s=>
  have q2:=mN (η:=η) 8 s (aP 8 ns x.left) (hx.wr s hr) (fun y hm=>hy y (by unfold bU;rw[hx.la,hr];exact hm));dsimp only;rw[rA r η 8 s (hx.wr s hr)];split
  ·exact sa h q q2
  ·split
   ·unfold jA;rw[sa h q q2,Wn.oY];split
    ·rfl
    ·split<;>rfl
   ·unfold eZ;have e:Wn.none=Wn.none.map r:=rfl;rw[Hf];have e2:(Wn.none.fh (fm r (fb η 8 x.left))).fh (fm r (fb η 8 s))=((Wn.none.fh (fb η 8 x.left)).fh (fb η 8 s)).map r:=by rw[e,Wn.pK h (eQ _) q,Wn.pK h ((eQ _).fh q) q2];rfl
    rw[e2];by_cases hw:((Wn.none.fh (fb η 8 x.left)).fh (fb η 8 s)).wt=[]
    ·rw[aH hw,aH (by unfold Wn.map;rw[hw];rfl)];rfl
    ·rw[aG hw,aG (by unfold Wn.map;simpa using hw)]
theorem Jz (h:lj r P) (hl:l.lX (PQ P)) (hm:m.lX (PQ P)):(l.map r).also (m.map r)=(l.also m).map r:=by
 have key:∀(xs ws:List Nat),(∀w∈xs,P w)->(∀w∈ws,P w)->(xs.map r).foldl gA (ws.map r)=(xs.foldl gA ws).map r:=by
  intro xs;induction xs with
  | nil=>intro ws _ _;rfl
  | cons x xs ih=>
   intro ws h1 h2;rw[aY,bF,bF,BS h h2 (h1 x (by simp))];refine ih _ (fun w hw=>h1 w (by simp[hw])) fun w hw=> ?_;unfold gA at hw;split at hw
   ·exact h2 w hw
   ·rcases bA.1 hw with q | q
    ·exact h2 w q
    ·rw[a8.1 q];exact h1 x (by simp)
 unfold Wn.also Wn.map;dsimp only;rw[key _ _ hm.at hl.at]
theorem Dt (h:lj r P) (xs:List dq) (ns:List (List UInt8)) (hx:∀x∈xs,jc x) (hy:∀y∈bE ns xs,fz (PQ P) (η y)):nB (fun y=>fm r (η y)) xs=(nB η xs).map r:=by
 have key:∀(xs:List dq) (l:Wn),l.lX (PQ P)->(∀x∈xs,dR (fun y=>fm r (η y)) x=(dR η x).map r/\(dR η x).lX (PQ P))->jZ (dR fun y=>fm r (η y)) xs (l.map r)=(jZ (dR η) xs l).map r:=by
  intro xs;induction xs with
  | nil=>intro l _ _;rfl
  | cons x xs ih=>intro l hl hx;rw[jZ,jZ,(hx x (by simp)).1,Jz h hl (hx x (by simp)).2];exact ih _ (hl.also (hx x (by simp)).2) fun y hy=>hx y (by simp[hy])
 refine key xs Wn.none (eQ _) fun x hm=> ?_;obtain⟨ns',hn⟩:=fF xs ns x hm;exact⟨Ce h x ns' (hx x hm) fun y hq=>hy y (hn y hq),si x ns' (hx x hm) fun y hq=>hy y (hn y hq)⟩
