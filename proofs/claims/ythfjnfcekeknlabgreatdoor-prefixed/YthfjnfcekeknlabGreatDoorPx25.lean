import Derived.Test.YthfjnfcekeknlabGreatDoorPx24
import Derived.Deep.LoopGhost
import Derived.Maps.AppendAt
import Derived.OwnWalk
set_option maxHeartbeats 8000000
set_option maxRecDepth 100000
set_option linter.unusedSimpArgs false
namespace Go.Proofs.YthfjnfcekeknlabGreatDoor
open Go.RowKit af
variable {V F2 F:List Nat} {no po vo po1 nO vo2 vo1 no2 no1:Option Addr} {S:TypeId} {g pc cb vc mb nc pc1 vc1 nc2 vc2 nc1:Nat} {w w' W wr:World} {cs ys mc ic:Array Value} {P R' R:Nat->Prop} {G Gn:List Gl} {D E2 E:List Ng} {N nx ns:List (List UInt8)} {x:dq} {v:JV} {TT T1 T2:Nat->af.U} {items:List dq}
theorem vf {fr:Nat->Nat} (h:mA P w mb 1 cs 88 cb D V no nc vo vc) (hm:jh w mb cs D no nc fr G po pc) (hg:w.heap[g]?=some (.cells ys S (0,0))) (h1:S≠88) (h2:S≠147) (h3:S≠90) (h4:S≠3) (h5:S≠133):¬vg mb no cb vo po g:=by
 rintro((e | e | e | e) | e)
 ·rw[e,h.st.blk]at hg;simp only[aM,aR]at hg;exact h1 hg.2.1.symm
 ·exact cm h.st.own hg h2 e
 ·exact nI h.sc hg h3 e
 ·exact cm h.sc.own hg h4 e
 ·exact cm hm.fp hg h5 e
theorem uk.fr (hi:uk N w v x) (hf:bZ R R' w w') (hn:∀(g:Nat) (ys:Array Value),w.heap[g]?=some (.cells ys 74 (0,0))->¬R g):uk N w' v x:=by have ra:∀{f:Nat} {a:AV} {t:Tm},RA f N fk w a t->RA f N fk w' a t:=fun hr=>hr.keep fun g _ hp hg _=>⟨(hf.block g (aD hg) (hn g _ hg)).trans hg,hp⟩;exact⟨ra hi.left,hi.sign,fun r q=>ra (hi.right r q),hi.op,fun r q=>ra (hi.last r q)⟩
theorem jh.Cq {fr:Nat->Nat} (h:NW P w mb cs cb D V nO vo fr TT G po N ns items E F no1 nc1 vo1 vc1 T1 Gn po1 pc1 wr) (hj:JM P wr mb ((cs.setIfInBounds 1 (.slice no1 (D++E).length nc1)).setIfInBounds 3 (.slice po1 (G++Gn).length pc1)) cb (D++E) (V++F) no1 vo1 fr T1 ic mc nx E2 F2 no2 nc2 vo2 vc2 T2 W):∃cs2:Array Value,jh W mb cs2 (D++E++E2) no2 nc2 fr (G++Gn) po1 pc1:=⟨_,h.mc.added h.ms.ad.sc h.fv hj.ms.ad hj.ms.ok (eX _ _) hj.fg⟩
theorem A0 (w:World) (mb:Nat) (cs:Array Value) (cb:Nat) (D:List Ng) (V:List Nat) (nO:Option Addr) (nC:Nat) (vo:Option Addr) (vc:Nat) (fr:Nat->Nat) (TT:Nat->af.U) (P:Nat->Prop) (G:List Gl) (po:Option Addr) (pc:Nat) (N ns:List (List UInt8)) (items:List dq) (o:Option Addr) (n c:Nat) (h:lU P w mb 1 cs 88 cb D V nO nC vo vc fr TT) (hm:jh w mb cs D nO nC fr G po pc) (hfv:∀g∈G,∀k,rowOf g.no k->¬rowOf vo k) (hP:∀g,w.heap.size<=g->P g) (hit:dV N w o n items) (hok:∀x∈items,Hh x) (hl:V.length=ns.length) (hN:∃M,N=bE ns items++M) (hNl:N.length<=100000) (hil:items.length<=100) (hD:D.length+4000000<=1000000000) (hGl:G.length<=1000000):
 Calls Tryz.prog 34 #[.pointer (some ⟨mb,0,none⟩),.slice o n c,.pointer (some ⟨cb,0,none⟩)] w fun e w'=>e= .returned (.tuple #[])/\∃(E:List Ng) (F:List Nat) (no':Option Addr) (nc':Nat) (vo':Option Addr) (vc':Nat) (T':Nat->af.U) (Gn:List Gl) (po':Option Addr) (pc':Nat),NW P w mb cs cb D V nO vo fr TT G po N ns items E F no' nc' vo' vc' T' Gn po' pc' w':=by
 obtain⟨rfl,hit⟩:=hit;have HST:=ah (show PW P w mb cs cb D V nO vo fr TT G po N ns items items.length (.int .i64 0) w from by
  refine⟨0,[],[],nO,nC,vo,vc,TT,[],po,pc,by omega,rfl,⟨?_,?_,by simpa using hfv,fun _ _=>rfl,(fun i d hd=>by simp at hd),iZ.nil _ _,by simpa [bE] using hl,trivial,by simp,⟨rfl,rfl,rfl,Qw,fun _ _ _=>rfl,fun _ q=>ay q⟩⟩⟩
  ·simp only[br];rw[mg h.ad.st.qF,mg hm.c3];exact h
  ·simp only[br];rw[mg h.ad.st.qF,mg hm.c3];exact hm)
 have HIT:=ah hit;have HB:=ah h;have HM:=ah hm;have HOK:=ah hok;have HN:=ah hN;have HNL:=ah hNl;have HIL:=ah hil;have HD:=ah hD;have HGL:=ah hGl;have HP:=ah hP;obtain⟨ti,hi,hzz0,hzz1,hzz2⟩:=dH A8;clear h hm hfv hP hit hok hl hN hNl hD hGl;go_enter Tryz.func34,Tryz.ntmps34;go_wp2_with fail;go_loopg [11] items.length (fun k iv wr=>PW P w mb cs cb D V nO vo fr TT G po N ns items k iv wr)
 case atStart=>exact ae HST
 case round=>
  clear HST;obtain⟨j,E,F,no1,nc1,vo1,vc1,T1,Gn,po1,pc1,hkj,rfl,hjo⟩:=hrel;by_cases hlt:j<items.length
  ·obtain⟨g,vs,ics,ho1,hcs,htk,hall⟩:=ae HIT (fun q=>by rw[q]at hlt;simp at hlt);subst ho1;have hjv:j<vs.length:=by have:=hall.length;omega
   have hcw:wr.heap[g]?=some (.cells ics 125 (0,0)):=(hjo.fg.block g (aD hcs) (vf (ae HB).ad (ae HM) hcs (by decide) (by decide) (by decide) (by decide) (by decide))).trans hcs;have fc:∀i,i<14->wr.cell? ⟨g,j*14+i,none⟩=(B8 vs[j])[i]?:=fun i hi=>by rw[aN hcw,<-ci,<-If hjv i hi,<-htk,cr (by omega)]
   have hir:=(hall.at j hjv hlt).fr hjo.fg (fun g ys hg=>vf (ae HB).ad (ae HM) hg (by decide) (by decide) (by decide) (by decide) (by decide));have hxok:=ae HOK _ (aL hlt);obtain⟨M,hM⟩:=ae HN;have htake:items.take (j+1)=items.take j++[items[j]]:=by rw[bR,aj hlt];rfl
   have hNj:∃K,N=bE ns (items.take j)++K:=by obtain⟨K,hK⟩:=iL (items.drop j) (bE ns (items.take j));refine⟨K++M,?_⟩;rw[hM,<-aK,<-hK];unfold bE;rw[<-cT,lx]
   have hNj1:∃K,N=bU (bE ns (items.take j)) items[j]++K:=by
    obtain⟨K,hK⟩:=iL (items.drop (j+1)) (bE ns (items.take (j+1)));refine⟨K++M,?_⟩;have e:bU (bE ns (items.take j)) items[j]=bE ns (items.take (j+1)):=by rw[htake];unfold bE;rw[cT];rfl
    rw[e,hM,<-aK,<-hK];unfold bE;rw[<-cT,lx]
   have HTK:=ah htake;have HNJ:=ah hNj;have HNJ1:=ah hNj1;have hDl:(D++E).length+2000000<=1000000000:=by
    have q1:=hjo.el;have q2:=ae HD;have q3:=ae HIL;have q4:(items.take j).length<=100:=by rw[df];omega
    have q5:(items.take j).length*19683<=100*19683:=bY _ q4;rw[au];omega
   have hGG:(G++Gn).length<=1000100:=by
    have q1:=hjo.gl.length;have q2:=ae HGL;have q3:=ae HIL;have q4:(items.take j).length<=100:=by rw[df];omega
    rw[au];omega
   have f0:=fc 0 (by omega);have f1:=fc 1 (by omega);have f2:=fc 2 (by omega);have f3:=fc 3 (by omega);have f4:=fc 4 (by omega);have f5:=fc 5 (by omega);have f6:=fc 6 (by omega);have f7:=fc 7 (by omega);have f8:=fc 8 (by omega);have f9:=fc 9 (by omega);have f10:=fc 10 (by omega);have f11:=fc 11 (by omega);have f12:=fc 12 (by omega);have f13:=fc 13 (by omega);simp only[B8,aq,aA,dJ]at f0 f1 f2 f3 f4 f5 f6 f7 f8 f9 f10 f11 f12 f13;have gz:=aD hcw;have i0:(0:Int)<=(j:Int):=by omega
   have i1:(j:Int)<(items.length:Int):=by omega
   generalize vs[j]=v at*;have HX:=ah (show items[j]∈items from aL hlt)
   generalize items[j]=x at*;obtain⟨⟨ak0,av0,ax0,ao0,an0,ac0⟩,⟨bk0,bv0,bx0,bo0,bn0,bc0⟩,⟨ck0,cv0,cx0,co0,cn0,cc0⟩,sg,op⟩:=v;dsimp only at f0 f1 f2 f3 f4 f5 f6 f7 f8 f9 f10 f11 f12 f13;have hjm:JM P wr mb ((cs.setIfInBounds 1 (.slice no1 (D++E).length nc1)).setIfInBounds 3 (.slice po1 (G++Gn).length pc1)) cb (D++E) (V++F) no1 vo1 fr T1 #[.int .i64 ak0,.int .i64 av0,.string ax0,.slice ao0 an0 ac0,.string sg,.int .i64 bk0,.int .i64 bv0,.string bx0,.slice bo0 bn0 bc0,.string op,.int .i64 ck0,.int .i64 cv0,.string cx0,.slice co0 cn0 cc0] #[.int .i64 0,.string sg,.int .i64 (-1),.string op,.int .i64 (-1),.bool false,.slice none 0 0] (bE ns (items.take j)) [] [] no1 nc1 vo1 vc1 T1 ((wr.alloc (.cells #[.int .i64 ak0,.int .i64 av0,.string ax0,.slice ao0 an0 ac0,.string sg,.int .i64 bk0,.int .i64 bv0,.string bx0,.slice bo0 bn0 bc0,.string op,.int .i64 ck0,.int .i64 cv0,.string cx0,.slice co0 cn0 cc0] 125)).alloc (.cells #[.int .i64 0,.string sg,.int .i64 (-1),.string op,.int .i64 (-1),.bool false,.slice none 0 0] 133)):=by
    have hb:=((al wr.heap.size wr).alloc Qw (.cells #[.int .i64 ak0,.int .i64 av0,.string ax0,.slice ao0 an0 ac0,.string sg,.int .i64 bk0,.int .i64 bv0,.string bx0,.slice bo0 bn0 bc0,.string op,.int .i64 ck0,.int .i64 cv0,.string cx0,.slice co0 cn0 cc0] 125)).alloc (by simp) (.cells #[.int .i64 0,.string sg,.int .i64 (-1),.string op,.int .i64 (-1),.bool false,.slice none 0 0] 133);refine⟨?_,fun _ _=>rfl,(fun i d hd=>by simp at hd),iZ.nil _ _,by simpa using hjo.ln,bZ.aX hb,aQ (aB wr _) _,?_⟩
    ·have:=hjo.ms.below hb;simp only[br];rw[mg (hjo.ms.ad.st.qF)];exact this
    ·have:=aB (wr.alloc (.cells #[.int .i64 ak0,.int .i64 av0,.string ax0,.slice ao0 an0 ac0,.string sg,.int .i64 bk0,.int .i64 bv0,.string bx0,.slice bo0 bn0 bc0,.string op,.int .i64 ck0,.int .i64 cv0,.string cx0,.slice co0 cn0 cc0] 125)) (.cells #[.int .i64 0,.string sg,.int .i64 (-1),.string op,.int .i64 (-1),.bool false,.slice none 0 0] 133);rw[aF]at this;exact this
   have hnames1:∃K,N=aP 8 (bE ns (items.take j)) x.left++K:=by obtain⟨K,hK⟩:=ae HNJ1;obtain⟨K1,h1⟩:=kB x.right (aP 8 (bE ns (items.take j)) x.left);obtain⟨K2,h2⟩:=kB x.last (e7 (aP 8 (bE ns (items.take j)) x.left) x.right);refine⟨K1++(K2++K),?_⟩;rw[hK];unfold bU;rw[h2,h1];simp
   have IA:=ah (fun W (hu:Below (wr.heap.size+2) ((wr.alloc (.cells #[.int .i64 ak0,.int .i64 av0,.string ax0,.slice ao0 an0 ac0,.string sg,.int .i64 bk0,.int .i64 bv0,.string bx0,.slice bo0 bn0 bc0,.string op,.int .i64 ck0,.int .i64 cv0,.string cx0,.slice co0 cn0 cc0] 125)).alloc (.cells #[.int .i64 0,.string sg,.int .i64 (-1),.string op,.int .i64 (-1),.bool false,.slice none 0 0] 133)) W)=>Nr (hjm.below (hu.mono (by simp))) (fun g hg=>ae HP g (aW hjo.fg.size hg)) (a:=⟨ak0,av0,ax0,ao0,an0,ac0⟩) ((hjm.below (hu.mono (by simp))).ra hjo.ms.ad hir.left) hxok.wl hnames1 (by simp only[br];omega) (ae HNL));have HIR:=ah hir;have HXOK:=ah hxok;have HJO:=ah hjo;have HDL:=ah hDl;have HLT:=ah hlt;have HKJ:=ah hkj;have mz:=aD hjo.mc.st.blk;have mne:mb≠wr.heap.size:=by omega
   have mne2:mb≠wr.heap.size+1:=by omega
   have HN1:=ah hnames1;clear hjo hjm hcs hcw htk hall hjv fc hir hxok hM htake hNj hNj1 hDl hkj hnames1;go_wp2_with fail;go_region_with (go_at_call 45;refine(ae IA _ (by first | exact Qx | exact Qx.drew | exact Qx.drew.drew | exact Qx.drew.drew.drew)).mono ?_;rintro y w2 ⟨n1,E1,F1,no2,nc2,vo2,vc2,T2,rfl,jm2,nl2,tn2,old2,el2⟩;have e2:=aN jm2.bm 0;have x2:=bI jm2.bm 0;have ez2:=aD jm2.bm;simp only[aE,aq]at e2);have jm3:JM P wr mb ((cs.setIfInBounds 1 (.slice no1 (D++E).length nc1)).setIfInBounds 3 (.slice po1 (G++Gn).length pc1)) cb (D++E) (V++F) no1 vo1 fr T1 #[.int .i64 ak0,.int .i64 av0,.string ax0,.slice ao0 an0 ac0,.string sg,.int .i64 bk0,.int .i64 bv0,.string bx0,.slice bo0 bn0 bc0,.string op,.int .i64 ck0,.int .i64 cv0,.string cx0,.slice co0 cn0 cc0] #[.int .i64 (n1:Int),.string sg,.int .i64 (-1),.string op,.int .i64 (-1),.bool false,.slice none 0 0] (aP 8 (bE ns (items.take j)) x.left) ([]++E1) ([]++F1) no2 nc2 vo2 vc2 T2 _:=jm2.set 0 (.int .i64 (n1:Int));generalize hw2:(w2.setCell ⟨wr.heap.size+1,0,none⟩ (.int .i64 (n1:Int)))=W2 at*;clear hw2 jm2 e2 x2 ez2;have ia4:=aN jm3.bi 4;have iz:=aD jm3.bi;have zm:=aD jm3.bm;simp only[aE,aq,aA]at ia4;by_cases hsg:x.sign=[]
   ·have hop:x.op=[]:=eo fun q=>(ae HXOK).sz q hsg;have hrn:=(ae HXOK).r0 hsg;have hzn:=(ae HXOK).z0 hop;have t1:(sg.toList == [])=true:=by rw[(ae HIR).sign,hsg];rfl
    have t2:(sg.toList != [])=false:=by rw[(ae HIR).sign,hsg];rfl
    have t3:(op.toList == [])=true:=by rw[(ae HIR).op,hop];rfl
    have t4:(op.toList != [])=false:=by rw[(ae HIR).op,hop];rfl
    have hnm:bU (bE ns (items.take j)) x=aP 8 (bE ns (items.take j)) x.left:=by unfold bU;rw[hrn,hzn];rfl
    rw[<-hnm]at jm3;have ia9:=aN jm3.bi 9;have ma0:=aN jm3.bm 0;have ma1:=aN jm3.bm 1;have ma2:=aN jm3.bm 2;have ma3:=aN jm3.bm 3;have ma4:=aN jm3.bm 4;have ma5:=aN jm3.bm 5;have ma6:=aN jm3.bm 6;have iz:=aD jm3.bi;have zm:=aD jm3.bm;simp only[aE,aq,aA]at ia9 ma0 ma1 ma2 ma3 ma4 ma5 ma6;have hgl:=(show xM T2 ((D++E)++([]++E1)).length (ej T2 ((V++F)++([]++F1)) N) x ⟨n1,sg,(-1),op,(-1),false,none,0,[]⟩from ⟨(ae HIR).sign,(ae HIR).op,nl2,tn2,fun _=>rfl,(fun r q=>by rw[hrn]at q;cases q),fun _=>rfl,(fun z q=>by rw[hzn]at q;cases q),rfl,rfl,rfl,rfl⟩)
    have hel:_:=(show ([]++E1).length<=19683 by simp only[cG];omega)
    have HGLI:=ah hgl;have HEL:=ah hel;obtain⟨cs2,hmc⟩:=jh.Cq (ae HJO) jm3;have f3':=(aN hmc.st.blk 3).trans hmc.c3;have mz':=aD hmc.st.blk;have HPOOL:=ah (fun Y (hu:Below W2.heap.size W2 Y)=>(hmc.below hu).fp);have HNM:=ah (show some mb≠(Value.slice po1 (G++Gn).length pc1).ownBlock from dF (cm hmc.fp hmc.st.blk (by decide)))
    have HXM:=ah hmc.st.blk;have HNXF:=ah (fun W' w7 g' cap' a1 a2 a3 a4=>(ae HJO).next jm3 hgl hel (fun x hx=>ae HOK x (eg hx)) (ae HNJ) (W':=W') (w7:=w7) (g':=g') (cap':=cap') a1 a2 a3 a4);clear hgl hel hmc jm3 hnm hrn hzn hsg hop;generalize hGN:G++Gn=GG at*;clear hGN;go_wp2_with fail;go_region_law (refine step_append_lies _ (by rfl) _ _ _ (by rfl) 0 133 ti _ 7 88 Tryz.underlying86 hi hzz0 hzz1 hzz2 rfl (by omega) (.slice po1 GG.length pc1) GG.length (GG.flatMap mD) (by rfl) ((ae HPOOL _ (by first | exact Qx | exact Qx.drew)).alloc _) ⟨W2.heap.size,0,none⟩ 1 1 [.int .i64 (n1:Int),.string sg,.int .i64 (-1),.string op,.int .i64 (-1),.bool false,.slice none 0 0] (by rfl) (by rfl) (World.news_of_block (cs:=#[.int .i64 (n1:Int),.string sg,.int .i64 (-1),.string op,.int .i64 (-1),.bool false,.slice none 0 0]) (t:=133) (fr:=(0,0)) (aB _ _)) (by simp[Value.oneCell']) (by omega) (by unfold maxLen;omega) (by omega) (cI _) (W2.heap.size+1) (by simp) ?_;intro g' cap' w7 hown1 hgrow hat hlg;have m0:=(hgrow.cell_far ⟨mb,3,none⟩ (by simp;omega) (ae HNM)).trans ((aC _ _ _ (by first | exact mz' | simp;omega)).trans f3');have HNX:=ah (ae HNXF _ _ _ _ ((Qx.drew).alloc Qw _) (show w7.ownsRow _ _ _ _ _ (_++[_,_,_,_,_,_,_])from hown1) hgrow (by rcases hat with q | q;exact ay (bP q);(right;omega)));have k9:w7.frozen? ⟨mb,3,none⟩=false:=(by have:=bI (ae HNX).mc.st.blk 3;rwa [cH]at this);have zz7:mb<w7.heap.size:=(by have:=aD (ae HNX).mc.st.blk;rwa [fj]at this);clear hown1 hgrow hat hlg)
    all_goals
     go_wp2_with fail;go_roundg (gk - 1)
     case measure=>have:=ae HKJ;have:=ae HLT;omega
     case rel=>exact⟨j+1,_,_,_,_,_,_,_,_,_,_,by have:=ae HKJ;have:=ae HLT;omega,by go_num,by rw[ae HTK];exact ae HNX⟩
   ·obtain⟨r,hr,wfr⟩:=(ae HXOK).r1 hsg;have t1:(sg.toList == [])=false:=by rw[(ae HIR).sign];simpa using hsg
    have t2:(sg.toList != [])=true:=by rw[(ae HIR).sign];simpa using hsg
    obtain⟨M1,hM1⟩:=ae HN1;have HLEFT:=ah (fun(T3:Nat->af.U) (F2:List Nat) (he:∀m,m<(D++E++([]++E1)).length->T3 m=T2 m)=>kG (F:=F2) (ae HXOK).wl tn2 nl2 (fun y hy=>hy) hM1 jm3.ln jm3.ms.lt he);have hnames2:∃K,N=aP 8 (aP 8 (bE ns (items.take j)) x.left) r++K:=by obtain⟨K,hK⟩:=ae HNJ1;obtain⟨K2,h2⟩:=kB x.last (e7 (aP 8 (bE ns (items.take j)) x.left) x.right);refine⟨K2++K,?_⟩;rw[hK];unfold bU;rw[h2,hr,aK];rfl
    have ia5:=aN jm3.bi 5;have ia6:=aN jm3.bi 6;have ia7:=aN jm3.bi 7;have ia8:=aN jm3.bi 8;have iz:=aD jm3.bi;have zm:=aD jm3.bm;simp only[aE,aq,aA]at ia5 ia6 ia7 ia8;have IB:=ah (fun Y (hu:Below W2.heap.size W2 Y)=>Nr (jm3.below hu) (fun g hg=>ae HP g (aW (ae HJO).fg.size hg)) (a:=⟨bk0,bv0,bx0,bo0,bn0,bc0⟩) ((jm3.below hu).ra (ae HJO).ms.ad ((ae HIR).right r hr)) wfr hnames2 (by have:=ae HDL;simp only[cG,au]at this⊢;omega) (ae HNL));have HNL2:=ah nl2;have HEL2:=ah el2;have HN2:=ah hnames2;have HHR:=ah hr;have HWFR:=ah wfr;have HSG:=ah hsg;clear jm3 tn2 nl2 old2 el2 hM1 hnames2 hr wfr hsg;go_wp2_with fail;go_region_with (go_at_call 45;refine(ae IB _ (by first | exact Qx | exact Qx.drew | exact Qx.drew.drew | exact Qx.drew.drew.drew)).mono ?_;rintro y w3 ⟨n2,E2,F2,no3,nc3,vo3,vc3,T3,rfl,jm4,nl3,tn3,old3,el3⟩;have e3:=aN jm4.bm 2;have x3:=bI jm4.bm 2;have ez3:=aD jm4.bm;simp only[aE,aq,aA]at e3);have jm5:JM P wr mb ((cs.setIfInBounds 1 (.slice no1 (D++E).length nc1)).setIfInBounds 3 (.slice po1 (G++Gn).length pc1)) cb (D++E) (V++F) no1 vo1 fr T1 #[.int .i64 ak0,.int .i64 av0,.string ax0,.slice ao0 an0 ac0,.string sg,.int .i64 bk0,.int .i64 bv0,.string bx0,.slice bo0 bn0 bc0,.string op,.int .i64 ck0,.int .i64 cv0,.string cx0,.slice co0 cn0 cc0] #[.int .i64 (n1:Int),.string sg,.int .i64 (n2:Int),.string op,.int .i64 (-1),.bool false,.slice none 0 0] (aP 8 (aP 8 (bE ns (items.take j)) x.left) r) ([]++E1++E2) ([]++F1++F2) no3 nc3 vo3 vc3 T3 _:=jm4.set 2 (.int .i64 (n2:Int));generalize hw3:(w3.setCell ⟨wr.heap.size+1,2,none⟩ (.int .i64 (n2:Int)))=W3 at*;clear hw3 jm4 e3 x3 ez3;clear IB ia4 ia5 ia6 ia7 ia8;have ia9:=aN jm5.bi 9;have iz:=aD jm5.bi;have zm:=aD jm5.bm;simp only[aE,aq,aA]at ia9;by_cases hop:x.op=[]
    ·have hzn:=(ae HXOK).z0 hop;have t3:(op.toList == [])=true:=by rw[(ae HIR).op,hop];rfl
     have t4:(op.toList != [])=false:=by rw[(ae HIR).op,hop];rfl
     have hnm:bU (bE ns (items.take j)) x=aP 8 (aP 8 (bE ns (items.take j)) x.left) r:=by unfold bU;rw[ae HHR,hzn];rfl
     rw[<-hnm]at jm5;have ia9:=aN jm5.bi 9;have ma0:=aN jm5.bm 0;have ma1:=aN jm5.bm 1;have ma2:=aN jm5.bm 2;have ma3:=aN jm5.bm 3;have ma4:=aN jm5.bm 4;have ma5:=aN jm5.bm 5;have ma6:=aN jm5.bm 6;have iz:=aD jm5.bi;have zm:=aD jm5.bm;simp only[aE,aq,aA]at ia9 ma0 ma1 ma2 ma3 ma4 ma5 ma6;have hgl:=(show xM T3 ((D++E)++([]++E1++E2)).length (ej T3 ((V++F)++([]++F1++F2)) N) x ⟨n1,sg,(n2:Int),op,(-1),false,none,0,[]⟩from ⟨(ae HIR).sign,(ae HIR).op,(by have:=ae HNL2;simp only[cG,au]at this⊢;omega),(by have:=ae HLEFT T3 F2 old3;rwa [aK (V++F)]at this),(fun q=>absurd q (ae HSG)),(fun r' q=>by rw[ae HHR]at q;cases q;exact⟨n2,rfl,nl3,tn3⟩),fun _=>rfl,(fun z q=>by rw[hzn]at q;cases q),rfl,rfl,rfl,rfl⟩)
     have hel:_:=(show ([]++E1++E2).length<=19683 by have:=ae HEL2;simp only[cG,au];omega)
     have HGLI:=ah hgl;have HEL:=ah hel;obtain⟨cs2,hmc⟩:=jh.Cq (ae HJO) jm5;have f3':=(aN hmc.st.blk 3).trans hmc.c3;have mz':=aD hmc.st.blk;have HPOOL:=ah (fun Y (hu:Below W3.heap.size W3 Y)=>(hmc.below hu).fp);have HNM:=ah (show some mb≠(Value.slice po1 (G++Gn).length pc1).ownBlock from dF (cm hmc.fp hmc.st.blk (by decide)))
     have HXM:=ah hmc.st.blk;have HNXF:=ah (fun W' w7 g' cap' a1 a2 a3 a4=>(ae HJO).next jm5 hgl hel (fun x hx=>ae HOK x (eg hx)) (ae HNJ) (W':=W') (w7:=w7) (g':=g') (cap':=cap') a1 a2 a3 a4);clear hgl hel hmc jm5 hnm hzn hop;generalize hGN:G++Gn=GG at*;clear hGN;go_wp2_with fail;go_region_law (refine step_append_lies _ (by rfl) _ _ _ (by rfl) 0 133 ti _ 7 88 Tryz.underlying86 hi hzz0 hzz1 hzz2 rfl (by omega) (.slice po1 GG.length pc1) GG.length (GG.flatMap mD) (by rfl) ((ae HPOOL _ (by first | exact Qx | exact Qx.drew)).alloc _) ⟨W3.heap.size,0,none⟩ 1 1 [.int .i64 (n1:Int),.string sg,.int .i64 (n2:Int),.string op,.int .i64 (-1),.bool false,.slice none 0 0] (by rfl) (by rfl) (World.news_of_block (cs:=#[.int .i64 (n1:Int),.string sg,.int .i64 (n2:Int),.string op,.int .i64 (-1),.bool false,.slice none 0 0]) (t:=133) (fr:=(0,0)) (aB _ _)) (by simp[Value.oneCell']) (by omega) (by unfold maxLen;omega) (by omega) (cI _) (W3.heap.size+1) (by simp) ?_;intro g' cap' w7 hown1 hgrow hat hlg;have m0:=(hgrow.cell_far ⟨mb,3,none⟩ (by simp;omega) (ae HNM)).trans ((aC _ _ _ (by first | exact mz' | simp;omega)).trans f3');have HNX:=ah (ae HNXF _ _ _ _ ((Qx.drew).alloc Qw _) (show w7.ownsRow _ _ _ _ _ (_++[_,_,_,_,_,_,_])from hown1) hgrow (by rcases hat with q | q;exact ay (bP q);(right;omega)));have k9:w7.frozen? ⟨mb,3,none⟩=false:=(by have:=bI (ae HNX).mc.st.blk 3;rwa [cH]at this);have zz7:mb<w7.heap.size:=(by have:=aD (ae HNX).mc.st.blk;rwa [fj]at this);clear hown1 hgrow hat hlg)
     all_goals
      go_wp2_with fail;go_roundg (gk - 1)
      case measure=>have:=ae HKJ;have:=ae HLT;omega
      case rel=>exact⟨j+1,_,_,_,_,_,_,_,_,_,_,by have:=ae HKJ;have:=ae HLT;omega,by go_num,by rw[ae HTK];exact ae HNX⟩
    ·obtain⟨z,hz,wfz⟩:=(ae HXOK).z1 hop;have t3:(op.toList == [])=false:=by rw[(ae HIR).op];simpa using hop
     have t4:(op.toList != [])=true:=by rw[(ae HIR).op];simpa using hop
     obtain⟨M2,hM2⟩:=ae HN2;have HRIGHT:=ah (fun(T4:Nat->af.U) (F3:List Nat) (he:∀m,m<(D++E++([]++E1++E2)).length->T4 m=T3 m)=>kG (F:=F3) (ae HWFR) tn3 nl3 (fun y hy=>hy) hM2 jm5.ln jm5.ms.lt he);have hnm:bU (bE ns (items.take j)) x=aP 8 (aP 8 (aP 8 (bE ns (items.take j)) x.left) r) z:=by unfold bU;rw[ae HHR,hz];rfl
     have hnames3:∃K,N=aP 8 (aP 8 (aP 8 (bE ns (items.take j)) x.left) r) z++K:=by obtain⟨K,hK⟩:=ae HNJ1;rw[hnm]at hK;exact⟨K,hK⟩
     have ia10:=aN jm5.bi 10;have ia11:=aN jm5.bi 11;have ia12:=aN jm5.bi 12;have ia13:=aN jm5.bi 13;have iz:=aD jm5.bi;have zm:=aD jm5.bm;simp only[aE,aq,aA]at ia10 ia11 ia12 ia13;have IC:=ah (fun Y (hu:Below W3.heap.size W3 Y)=>Nr (jm5.below hu) (fun g hg=>ae HP g (aW (ae HJO).fg.size hg)) (a:=⟨ck0,cv0,cx0,co0,cn0,cc0⟩) ((jm5.below hu).ra (ae HJO).ms.ad ((ae HIR).last z hz)) wfz hnames3 (by have:=ae HDL;have:=ae HEL2;simp only[cG,au]at*;omega) (ae HNL));have HOLD3:=ah old3;have HNL3:=ah nl3;have HEL3:=ah el3;have HNM:=ah hnm;have HHZ:=ah hz;have HOP:=ah hop;clear jm5 tn3 nl3 old3 el3 hM2 hnames3 hnm hz wfz hop;go_wp2_with fail;go_region_with (go_at_call 45;refine(ae IC _ (by first | exact Qx | exact Qx.drew | exact Qx.drew.drew | exact Qx.drew.drew.drew)).mono ?_;rintro y w4 ⟨n3,E3,F3,no4,nc4,vo4,vc4,T4,rfl,jm6,nl4,tn4,old4,el4⟩;have e4:=aN jm6.bm 4;have x4:=bI jm6.bm 4;have ez4:=aD jm6.bm;simp only[aE,aq,aA]at e4);have jm7:JM P wr mb ((cs.setIfInBounds 1 (.slice no1 (D++E).length nc1)).setIfInBounds 3 (.slice po1 (G++Gn).length pc1)) cb (D++E) (V++F) no1 vo1 fr T1 #[.int .i64 ak0,.int .i64 av0,.string ax0,.slice ao0 an0 ac0,.string sg,.int .i64 bk0,.int .i64 bv0,.string bx0,.slice bo0 bn0 bc0,.string op,.int .i64 ck0,.int .i64 cv0,.string cx0,.slice co0 cn0 cc0] #[.int .i64 (n1:Int),.string sg,.int .i64 (n2:Int),.string op,.int .i64 (n3:Int),.bool false,.slice none 0 0] (aP 8 (aP 8 (aP 8 (bE ns (items.take j)) x.left) r) z) ([]++E1++E2++E3) ([]++F1++F2++F3) no4 nc4 vo4 vc4 T4 _:=jm6.set 4 (.int .i64 (n3:Int));generalize hw4:(w4.setCell ⟨wr.heap.size+1,4,none⟩ (.int .i64 (n3:Int)))=W4 at*;clear hw4 jm6 e4 x4 ez4;clear IC ia9 ia10 ia11 ia12 ia13;rw[<-ae HNM]at jm7;clear HNM;have ia9:=aN jm7.bi 9;have ma0:=aN jm7.bm 0;have ma1:=aN jm7.bm 1;have ma2:=aN jm7.bm 2;have ma3:=aN jm7.bm 3;have ma4:=aN jm7.bm 4;have ma5:=aN jm7.bm 5;have ma6:=aN jm7.bm 6;have iz:=aD jm7.bi;have zm:=aD jm7.bm;simp only[aE,aq,aA]at ia9 ma0 ma1 ma2 ma3 ma4 ma5 ma6;have hgl:=(show xM T4 ((D++E)++([]++E1++E2++E3)).length (ej T4 ((V++F)++([]++F1++F2++F3)) N) x ⟨n1,sg,(n2:Int),op,(n3:Int),false,none,0,[]⟩from ⟨(ae HIR).sign,(ae HIR).op,(by have:=ae HNL2;simp only[cG,au]at this⊢;omega),(by have:=ae HLEFT T4 (F2++F3) (fun m hm=>(old4 m (by simp only[cG,au]at hm⊢;omega)).trans (ae HOLD3 m hm));rwa [aK (V++F),<-aK ([]++F1)]at this),(fun q=>absurd q (ae HSG)),(fun r' q=>by rw[ae HHR]at q;cases q;exact⟨n2,rfl,(by have:=ae HNL3;simp only[cG,au]at this⊢;omega),(by have:=ae HRIGHT T4 F3 old4;rwa [aK (V++F)]at this)⟩),(fun q=>absurd q (ae HOP)),(fun z' q=>by rw[ae HHZ]at q;cases q;exact⟨n3,rfl,nl4,tn4⟩),rfl,rfl,rfl,rfl⟩)
     have hel:_:=(show ([]++E1++E2++E3).length<=19683 by have:=ae HEL2;have:=ae HEL3;simp only[cG,au];omega)
     have HGLI:=ah hgl;have HEL:=ah hel;obtain⟨cs2,hmc⟩:=jh.Cq (ae HJO) jm7;have f3':=(aN hmc.st.blk 3).trans hmc.c3;have mz':=aD hmc.st.blk;have HPOOL:=ah (fun Y (hu:Below W4.heap.size W4 Y)=>(hmc.below hu).fp);have HNM:=ah (show some mb≠(Value.slice po1 (G++Gn).length pc1).ownBlock from dF (cm hmc.fp hmc.st.blk (by decide)))
     have HXM:=ah hmc.st.blk;have HNXF:=ah (fun W' w7 g' cap' a1 a2 a3 a4=>(ae HJO).next jm7 hgl hel (fun x hx=>ae HOK x (eg hx)) (ae HNJ) (W':=W') (w7:=w7) (g':=g') (cap':=cap') a1 a2 a3 a4);clear hgl hel hmc jm7;generalize hGN:G++Gn=GG at*;clear hGN;go_wp2_with fail;go_region_law (refine step_append_lies _ (by rfl) _ _ _ (by rfl) 0 133 ti _ 7 88 Tryz.underlying86 hi hzz0 hzz1 hzz2 rfl (by omega) (.slice po1 GG.length pc1) GG.length (GG.flatMap mD) (by rfl) ((ae HPOOL _ (by first | exact Qx | exact Qx.drew)).alloc _) ⟨W4.heap.size,0,none⟩ 1 1 [.int .i64 (n1:Int),.string sg,.int .i64 (n2:Int),.string op,.int .i64 (n3:Int),.bool false,.slice none 0 0] (by rfl) (by rfl) (World.news_of_block (cs:=#[.int .i64 (n1:Int),.string sg,.int .i64 (n2:Int),.string op,.int .i64 (n3:Int),.bool false,.slice none 0 0]) (t:=133) (fr:=(0,0)) (aB _ _)) (by simp[Value.oneCell']) (by omega) (by unfold maxLen;omega) (by omega) (cI _) (W4.heap.size+1) (by simp) ?_;intro g' cap' w7 hown1 hgrow hat hlg;have m0:=(hgrow.cell_far ⟨mb,3,none⟩ (by simp;omega) (ae HNM)).trans ((aC _ _ _ (by first | exact mz' | simp;omega)).trans f3');have HNX:=ah (ae HNXF _ _ _ _ ((Qx.drew).alloc Qw _) (show w7.ownsRow _ _ _ _ _ (_++[_,_,_,_,_,_,_])from hown1) hgrow (by rcases hat with q | q;exact ay (bP q);(right;omega)));have k9:w7.frozen? ⟨mb,3,none⟩=false:=(by have:=bI (ae HNX).mc.st.blk 3;rwa [cH]at this);have zz7:mb<w7.heap.size:=(by have:=aD (ae HNX).mc.st.blk;rwa [fj]at this);clear hown1 hgrow hat hlg)
     all_goals
      go_wp2_with fail;go_roundg (gk - 1)
      case measure=>have:=ae HKJ;have:=ae HLT;omega
      case rel=>exact⟨j+1,_,_,_,_,_,_,_,_,_,_,by have:=ae HKJ;have:=ae HLT;omega,by go_num,by rw[ae HTK];exact ae HNX⟩
  ·obtain rfl:j=items.length:=by omega
   rw[dM]at hjo;have HJO:=ah hjo;clear hjo hkj;go_wp2_with fail;go_end0;exact⟨rfl,_,_,_,_,_,_,_,_,_,_,ae HJO⟩
end Go.Proofs.YthfjnfcekeknlabGreatDoor
namespace af
def Fq (tx:List UInt8) (m:Nat) (c:dE):Bool:=decide (c.head.text.toList=tx)&&decide (c.head.args.length=m)
def eW (cls:List dE) (tx:List UInt8) (m j:Nat):List Nat:=(List.range j).filter fun i=>match cls[i]? with
 | some c=>Fq tx m c
 | none=>false
theorem E6 (cls:List dE) (tx:List UInt8) (m j:Nat) (h:j<cls.length):eW cls tx m (j+1)=eW cls tx m j++(if Fq tx m cls[j]=true then [j]else []):=by unfold eW;rw[List.range_succ,xJ];congr 1;simp only[Dh,FS,aj h]
theorem AK (cls:List dE) (tx:List UInt8) (m j:Nat):(eW cls tx m j).length<=j:=by
 have:=ly (fun i=>match cls[i]? with
  | some c=>Fq tx m c
  | none=>false) (List.range j)
 rwa [oz]at this
end af
namespace Go.Proofs.YthfjnfcekeknlabGreatDoor
open Go.RowKit af
def P3 (w:World) (cls:List af.dE) (tx:List UInt8) (m:Nat) (L:Array Value) (k:Nat) (av iv:Value) (wr:World):Prop:=
 ∃j:Nat,k+j=cls.length/\iv= .int .i64 (j:Int)/\wr.ownsRow (w.heap.size+1) 3 1 av (eW cls tx m j).length ((eW cls tx m j).map cN)/\Below w.heap.size w wr/\wr.heap[w.heap.size]?=some (.cells L 144 (0,0))
theorem uA (w:World) (mb:Nat) (cs:Array Value) (D:List Ng) (nO:Option Addr) (nC:Nat) (fr:Nat->Nat) (n:Nat) (d:Ng) (cls:List af.dE) (clo:Option Addr) (clc:Nat) (hs:fS w mb 1 cs 88 D nO nC) (hok:g8 D fr) (hn:n<D.length) (hd:D[fr n]?=some d) (hk:d.k=3) (h0:cs[0]?=some (.slice clo cls.length clc)) (hcl:ek w clo cls.length cls) (hkc:∀c∈cls,c.head.kind=2) (hl:cls.length<=12):
 Calls Tryz.prog 158 #[.pointer (some ⟨mb,0,none⟩),.int .i64 (n:Int)] w fun e w'=>∃oo oc,e= .returned (.slice oo (eW cls d.tx.toList d.args.length cls.length).length oc)/\w'.ownsRow w.heap.size 3 1 (.slice oo (eW cls d.tx.toList d.args.length cls.length).length oc) (eW cls d.tx.toList d.args.length cls.length).length ((eW cls d.tx.toList d.args.length cls.length).map cN)/\Below w.heap.size w w':=by
 obtain⟨k,hop⟩:=hok.hop n hn;have hnd:=hok.nd (fr n) (hok.lt hn);have hdd:D[fr n]'(hok.lt hn)=d:=(bl.1 hd).2;rw[hdd]at hnd;obtain⟨dv,dc,dl⟩:=hnd.c hk;have HL:=ah (fd w mb 1 cs _ D nO nC n (fr n) k d hs hop hd);rw[hk,dv,dc]at HL;have f0:=(aN hs.blk 0).trans h0;have mz:=aD hs.blk;have HCL:=ah hcl;have HKC:=ah hkc;obtain⟨tj,hj,hy0,hy1,hy2⟩:=dH kO;generalize d.args.length=dm at*;generalize d.tx=dtx at*;clear hs hok hn hd hk h0 hcl hkc hop hnd hdd dv dc dl d;go_enter Tryz.func158,Tryz.ntmps158;go_wp2_with fail;refine(ae HL).mono ?_;rintro e w2 ⟨rfl,hb2⟩;have f2:=(hb2.cell (p:=⟨mb,0,none⟩) mz).trans f0;have mz2:mb<w2.heap.size:=aJ mz hb2.size;have HB2:=ah hb2;have z2:=hb2.size;clear hb2 HL f0;have HST:=ah (show P3 w2 cls dtx.toList dm #[.int .i64 3,.int .i64 0,.string dtx,.int .i64 (dm:Int)] cls.length (.slice none 0 0) (.int .i64 0) (w2.alloc (.cells #[.int .i64 3,.int .i64 0,.string dtx,.int .i64 (dm:Int)] 144))from ⟨0,by omega,rfl,by simpa [eW] using bD _ _ _ _,Qx.alloc Qw _,aB _ _⟩)
 go_wp2_with fail;go_loopg [6,19] cls.length (fun k av iv wr=>P3 w2 cls dtx.toList dm #[.int .i64 3,.int .i64 0,.string dtx,.int .i64 (dm:Int)] k av iv wr)
 case atStart=>exact ae HST
 case round=>
  clear HST;obtain⟨j,hkj,rfl,how,hbe,hlb⟩:=hrel;obtain⟨oo,oc,rfl⟩:=gI how;by_cases hlt:j<cls.length
  ·obtain⟨g,vs,ca,hao,hca,hta,haa⟩:=(ae HCL).2 (fun q=>by rw[q]at hlt;simp at hlt);subst hao;have hjv:j<vs.length:=by have:=haa.length;omega
   have hbw:Below w.heap.size w wr:=(ae HB2).trans (hbe.mono z2);have hcw:wr.heap[g]?=some (.cells ca 76 (0,0)):=(hbw.block g (aD hca)).trans hca;have fc:∀i,i<6->wr.cell? ⟨g,j*6+i,none⟩=(B4 vs[j])[i]?:=fun i hi=>by rw[aN hcw,<-ci,<-Cn hjv i hi,<-hta,cr (by omega)]
   have e0:=fc 0 (by omega);have e1:=fc 1 (by omega);have e2:=fc 2 (by omega);have e3:=fc 3 (by omega);have e4:=fc 4 (by omega);have e5:=fc 5 (by omega);simp only[B4,aq,aA,dJ]at e0 e1 e2 e3 e4 e5;have hcq:fJ w vs[j].a vs[j].o1 vs[j].n1 vs[j].o2 vs[j].n2 cls[j]:=haa.at j hjv hlt;obtain⟨⟨ha1,ha2,ha3,ha4,ha5,ha8⟩,ha9⟩:=hcq.head;have hk2:=ae HKC _ (aL hlt);have ha6:vs[j].a.k=3:=by rw[ha1,hk2];rfl
   have ha7:=ha5 hk2;rw[ha6]at e0;rw[ha7]at e2;rw[ha2]at e3;have gz:g<wr.heap.size:=aD hcw;have lz:w2.heap.size<wr.heap.size:=aD hlb;have i0:(0:Int)<=(j:Int):=by omega
   have i1:(j:Int)<(cls.length:Int):=by omega
   have HSTEP:=ah (E6 cls dtx.toList dm j hlt);have hle:=AK cls dtx.toList dm j;have hle':(eW cls dtx.toList dm j).length<=1000000:=by omega
   have l0:=aN hlb 0;have l1:=aN hlb 1;have l2:=aN hlb 2;have l3:=aN hlb 3;simp only[aE,aq,aA]at l0 l1 l2 l3;have LA:=ah (fun W=>pn W ⟨3,vs[j].a.val,cls[j].head.text,vs[j].a.ao,cls[j].head.args.length,vs[j].a.cap⟩);have HOW:=ah how;have HBE:=ah hbe;have HLB:=ah hlb;have HKJ:=ah hkj;have HLT:=ah hlt;generalize eW cls dtx.toList dm j=Z at*;generalize vs[j]=v at*;have hcs:Fq dtx.toList dm cls[j]=(decide (cls[j].head.text.toList=dtx.toList)&&decide (cls[j].head.args.length=dm)):=rfl;generalize hq:Fq dtx.toList dm cls[j]=q at*;generalize cls[j].head.text=htx at*;generalize cls[j].head.args.length=hm at*;obtain⟨⟨ak0,av0,ax0,ao0,an0,ac0⟩,o1,n1,c1,o2,n2,c2⟩:=v;dsimp only at e0 e1 e2 e3 e4 e5 LA;have HCS:=ah hcs;clear how hbe hlb hkj hlt fc hle hbw hcw hta haa hca hcq ha1 ha2 ha3 ha4 ha5 hk2 ha6 ha7 ha8 ha9 hq hcs hjv;have hlv:mC ⟨3,av0,htx,ao0,hm,ac0⟩=0:=rfl;rw[hlv]at LA;clear hlv;cases q with
   | true=>
    have hh:=(ae HCS).symm;simp only[eS,ou]at hh;obtain⟨hh1,rfl⟩:=hh;have t1:(htx.toList == dtx.toList)=true:=by rw[hh1];simp
    have t2:htx=dtx:=by exact Jn hh1
    subst t2;clear hh1 HCS;rw[aH rfl]at HSTEP;go_wp2_with fail;go_region_with (go_at_call 78;refine(ae LA _).mono ?_;rintro e w5 ⟨rfl,hb5⟩;have m0:=(hb5.cell (p:=⟨w2.heap.size,0,none⟩) (by simp;omega)).trans ((aC _ _ _ lz).trans l0);have m1:=(hb5.cell (p:=⟨w2.heap.size,1,none⟩) (by simp;omega)).trans ((aC _ _ _ lz).trans l1);have m2:=(hb5.cell (p:=⟨w2.heap.size,2,none⟩) (by simp;omega)).trans ((aC _ _ _ lz).trans l2);have m3:=(hb5.cell (p:=⟨w2.heap.size,3,none⟩) (by simp;omega)).trans ((aC _ _ _ lz).trans l3);have hu5:Below wr.heap.size wr w5:=(by first | exact((al _ wr).alloc Qw _).trans (hb5.mono (by simp)) | exact(((al _ wr).alloc Qw _).drew).trans (hb5.mono (by simp)));have HB5:=ah ((ae HBE).trans (hu5.mono (ae HBE).size));have HLB5:=ah ((hu5.block _ lz).trans (ae HLB));have HOW5:=ah (aO (ae HOW) (fun k q=>hu5.block k ((ae HOW).lt k q).2));have z5:w2.heap.size<w5.heap.size:=aJ lz hu5.size;clear hb5 hu5)
    all_goals
     go_wp2_with (at_builtin;go_must (refine wpList_append_own_at _ rfl (.tmp 29) (.tmp 31) 25 rfl (w2.heap.size+1) 3 tj (.int .i64 0) 1 8 Tryz.underlying25 hj hy0 hy1 hy2 rfl (by decide) _ Z.length (Z.map cN) rfl ((ae HOW5).alloc _) ⟨w5.heap.size,0,none⟩ 1 1 [.int .i64 (j:Int)] rfl rfl (lq _ _ _ _ rfl) (by simp[Value.oneCell']) (by unfold maxLen;omega) (by omega) (by simp;omega) ?_);go_must (intro v' w7 hown' hgrow _ _;have HO7:=ah hown';have HB7:=ah (((ae HB5).alloc (ae HB5).size _).grown hgrow (by have:=(ae HB5).size;simp;omega) (fun k q=>by have:=((ae HOW5).lt k q).1;omega));have HL7:=ah ((hgrow.block w2.heap.size (by simp;omega) (fun q=>by have:=((ae HOW5).lt w2.heap.size q.symm).1;omega)).trans ((aZ _ _ _ z5).trans (ae HLB5)));clear hown' hgrow));go_roundg (gk - 1)
     case measure=>have:=ae HKJ;have:=ae HLT;omega
     case rel=>exact⟨j+1,by have:=ae HKJ;have:=ae HLT;omega,by go_num,by rw[ae HSTEP];have:=ae HO7;simpa [cN] using this,ae HB7,ae HL7⟩
   | false=>
    have hh:=(ae HCS).symm;rw[aG (by simp),br]at HSTEP;have hh2:htx.toList≠dtx.toList\/(htx=dtx/\hm≠dm):=by
     by_cases e1:htx.toList=dtx.toList
     ·right;refine⟨Jn e1,fun e2=> ?_⟩;simp[e1,e2]at hh
     ·exact ay e1
    clear hh HCS;rcases hh2 with hh | ⟨rfl,hh⟩
    ·have t1:(htx.toList == dtx.toList)=false:=by simpa using hh
     clear hh;go_wp2_with fail;go_region_with (go_at_call 78;refine(ae LA _).mono ?_;rintro e w5 ⟨rfl,hb5⟩;have m0:=(hb5.cell (p:=⟨w2.heap.size,0,none⟩) (by simp;omega)).trans ((aC _ _ _ lz).trans l0);have m1:=(hb5.cell (p:=⟨w2.heap.size,1,none⟩) (by simp;omega)).trans ((aC _ _ _ lz).trans l1);have m2:=(hb5.cell (p:=⟨w2.heap.size,2,none⟩) (by simp;omega)).trans ((aC _ _ _ lz).trans l2);have m3:=(hb5.cell (p:=⟨w2.heap.size,3,none⟩) (by simp;omega)).trans ((aC _ _ _ lz).trans l3);have hu5:Below wr.heap.size wr w5:=(by first | exact((al _ wr).alloc Qw _).trans (hb5.mono (by simp)) | exact(((al _ wr).alloc Qw _).drew).trans (hb5.mono (by simp)));have HB5:=ah ((ae HBE).trans (hu5.mono (ae HBE).size));have HLB5:=ah ((hu5.block _ lz).trans (ae HLB));have HOW5:=ah (aO (ae HOW) (fun k q=>hu5.block k ((ae HOW).lt k q).2));have z5:w2.heap.size<w5.heap.size:=aJ lz hu5.size;clear hb5 hu5)
     all_goals
      go_wp2_with fail;go_roundg (gk - 1)
      case measure=>have:=ae HKJ;have:=ae HLT;omega
      case rel=>exact⟨j+1,by have:=ae HKJ;have:=ae HLT;omega,by go_num,by rw[ae HSTEP];exact ae HOW5,ae HB5,ae HLB5⟩
    ·have t1:((hm:Int) == (dm:Int))=false:=by simp;omega
     have t3:(hm == dm)=false:=by simpa using hh
     clear hh;go_wp2_with fail;go_region_with (go_at_call 78;refine(ae LA _).mono ?_;rintro e w5 ⟨rfl,hb5⟩;have m0:=(hb5.cell (p:=⟨w2.heap.size,0,none⟩) (by simp;omega)).trans ((aC _ _ _ lz).trans l0);have m1:=(hb5.cell (p:=⟨w2.heap.size,1,none⟩) (by simp;omega)).trans ((aC _ _ _ lz).trans l1);have m2:=(hb5.cell (p:=⟨w2.heap.size,2,none⟩) (by simp;omega)).trans ((aC _ _ _ lz).trans l2);have m3:=(hb5.cell (p:=⟨w2.heap.size,3,none⟩) (by simp;omega)).trans ((aC _ _ _ lz).trans l3);have hu5:Below wr.heap.size wr w5:=(by first | exact((al _ wr).alloc Qw _).trans (hb5.mono (by simp)) | exact(((al _ wr).alloc Qw _).drew).trans (hb5.mono (by simp)));have HB5:=ah ((ae HBE).trans (hu5.mono (ae HBE).size));have HLB5:=ah ((hu5.block _ lz).trans (ae HLB));have HOW5:=ah (aO (ae HOW) (fun k q=>hu5.block k ((ae HOW).lt k q).2));have z5:w2.heap.size<w5.heap.size:=aJ lz hu5.size;clear hb5 hu5)
     all_goals
      go_wp2_with fail;go_roundg (gk - 1)
      case measure=>have:=ae HKJ;have:=ae HLT;omega
      case rel=>exact⟨j+1,by have:=ae HKJ;have:=ae HLT;omega,by go_num,by rw[ae HSTEP];exact ae HOW5,ae HB5,ae HLB5⟩
  ·obtain rfl:j=cls.length:=by omega
   have HOW:=ah (dh how (aW z2 (bS _)));have HBE:=ah ((ae HB2).trans (hbe.mono z2));clear how hbe hkj hlb;go_wp2_with fail;go_ret;exact⟨oo,oc,rfl,ae HOW,ae HBE⟩
end Go.Proofs.YthfjnfcekeknlabGreatDoor
namespace af
structure pV (c:dE):Prop where
 hk:c.head.kind=2
 wl:iE 8 c.head
 ts:∀x∈c.tests,jc x
 tl:c.tests.length<=6
 gs:∀x∈c.goals,Hh x
 gl:c.goals.length<=6
 nl:(NG c).length<=100000
end af
namespace Go.Proofs.YthfjnfcekeknlabGreatDoor
open Go.RowKit af
variable {a c b w w':World} {o:Option Addr} {ys:List af.dE} {n:Nat} {R' R:Nat->Prop} {P:Program} {rest:List Oper} {ops:Array Oper} {Q:Exit->Act->World->Prop}
def gE (w w':World):Prop:=∀(g:Nat) (ys:Array Value) (S:TypeId),w.heap[g]?=some (.cells ys S (0,0))->(S=76\/S=125\/S=74)->w'.heap[g]?=some (.cells ys S (0,0))
theorem gE.trans (h:gE a b) (k:gE b c):gE a c:=fun g ys S hg hS=>k g ys S (h g ys S hg hS) hS
theorem gE.below (h:Below w.heap.size w w'):gE w w':=fun g _ _ hg _=>(h.block g (aD hg)).trans hg
theorem gE.PE (h:gE w w'):cK w w':=⟨fun g cs hg _=>h g cs _ hg (aw (aw rfl)),fun g cs hg _=>h g cs _ hg (aw (ay rfl))⟩
theorem gE.cls (h:gE w w') (hc:ek w o n ys):ek w' o n ys:=⟨hc.1,fun q=>by obtain⟨g,vs,cs,h1,h2,h3,h4⟩:=hc.2 q;exact⟨g,vs,cs,h1,h g cs _ h2 (ay rfl),h3,h4.imp fun _ _ q=>fJ.keep q h.PE⟩⟩
theorem gE.vG (hf:bZ R R' w w') (hn:∀(g:Nat) (ys:Array Value) (S:TypeId),w.heap[g]?=some (.cells ys S (0,0))->(S=76\/S=125\/S=74)->¬R g):gE w w':=fun g ys S hg hS=>(hf.block g (aD hg) (hn g ys S hg hS)).trans hg
theorem Pf (cs:Array Value) (y a b:Value):(((cs.setIfInBounds 3 y).setIfInBounds 1 a).setIfInBounds 3 b)=(cs.setIfInBounds 1 a).setIfInBounds 3 b:=by
 apply Array.ext_getElem?;intro i;simp only[mx,Array.size_setIfInBounds];by_cases h1:1=i
 ·subst h1;simp
 ·by_cases h3:3=i
  ·subst h3;simp
  ·simp[h1,h3]
def Pr (P:Nat->Prop) (mb:Nat) (cs:Array Value) (D:List Ng) (V:List Nat) (nO vo:Option Addr) (fr:Nat->Nat) (TT:Nat->af.U) (G:List Gl) (i which:Nat) (c:af.dE) (w:World) (e:Ending) (w':World):Prop:=
 ∃(E:List Ng) (F:List Nat) (no':Option Addr) (nc':Nat) (T':Nat->af.U) (Gn:List Gl) (po':Option Addr) (pc':Nat),e= .returned (.int .i64 ((which+1:Nat):Int))/\jh w' mb ((cs.setIfInBounds 1 (.slice no' (D++E).length nc')).setIfInBounds 3 (.slice po' (G.eraseIdx i++Gn).length pc')) (D++E) no' nc' fr (G.eraseIdx i++Gn) po' pc'/\di w' (D++E) P/\kx (e8 (D++E)) fr T'/\(∀m,m<D.length->T' m=TT m)/\gP D.length E/\iZ D.length E F/\(V++F).length=(NG c).length/\(∀n∈V++F,n<(D++E).length)/\eO (xM T' (D++E).length (ej T' (V++F) (NG c))) c.goals Gn/\E.length<=118098/\bZ (fun k=>eP mb nO k\/rowOf vo k) (fun k=>eP mb no' k\/rowOf po' k) w w'
theorem CV (w:World) (mb:Nat) (cs:Array Value) (D:List Ng) (V:List Nat) (nO:Option Addr) (nC:Nat) (vo:Option Addr) (vc:Nat) (fr:Nat->Nat) (TT:Nat->af.U) (P:Nat->Prop) (G:List Gl) (po:Option Addr) (pc i which:Nat) (cls:List af.dE) (clo:Option Addr) (clc:Nat) (hm:jh w mb cs D nO nC fr G po pc) (har:di w D (fun g=>P g/\¬rowOf vo g)) (hto:kx (e8 D) fr TT) (hV:w.ownsRow 0 3 1 (.slice vo V.length vc) V.length (V.map cN)) (hVl:∀n∈V,n<D.length) (hfv:∀g∈G,∀k,rowOf g.no k->¬rowOf vo k) (hP:∀g,w.heap.size<=g->P g) (h0:cs[0]?=some (.slice clo cls.length clc)) (hcl:ek w clo cls.length cls) (hwh:which<cls.length) (hcc:cls.length<=12) (hok:pV cls[which]) (hVn:V.length=(NT cls[which]).length) (hD:D.length+4000000<=1000000000) (hGl:G.length<=1000000):
 Calls Tryz.prog 160 #[.pointer (some ⟨mb,0,none⟩),.int .i64 (i:Int),.int .i64 (which:Int),.agg #[.slice vo V.length vc]] w fun e w'=>Pr P mb cs D V nO vo fr TT G i which cls[which] w e w':=by
 have hb0:=(al w.heap.size w).alloc Qw (.cells #[.slice vo V.length vc] 90);obtain⟨g,vs,ca,hao,hca,hta,haa⟩:=hcl.2 (fun q=>by rw[q]at hwh;simp at hwh);subst hao;have hjv:which<vs.length:=by have:=haa.length;omega
 have f5:w.cell? ⟨g,which*6+5,none⟩=(B4 vs[which])[5]?:=by rw[aN hca,<-ci,<-Cn hjv 5 (by omega),<-hta,cr (by omega)]
 simp only[B4,aq,aA]at f5;have gz:=aD hca;have hcq:fJ w vs[which].a vs[which].o1 vs[which].n1 vs[which].o2 vs[which].n2 cls[which]:=haa.at which hjv hwh;have f0:=(aN hm.st.blk 0).trans h0;have mz:=aD hm.st.blk;have IL:=ah (qu _ mb cs D nO nC fr G po pc i (hm.below hb0) hGl);have hw0:w.heap.size<(w.alloc (.cells #[.slice vo V.length vc] 90)).heap.size:=by simp
 have hms:lU P (w.alloc (.cells #[.slice vo V.length vc] 90)) mb 1 cs 88 w.heap.size D V nO nC vo vc fr TT:=⟨⟨hm.st.below hb0,⟨aB w _,aO hV (fun g q=>hb0.block g (hV.lt g q).2)⟩,by decide,by decide,har.below hb0⟩,hm.ok,hto,hVl⟩;have IJ:=ah (show∀(w2:World) (po1:Option Addr) (pc1:Nat),jh w2 mb (cs.setIfInBounds 3 (.slice po1 (G.eraseIdx i).length pc1)) D nO nC fr (G.eraseIdx i) po1 pc1->bZ (fun k=>k=mb) (fun k=>k=mb\/rowOf po1 k) (w.alloc (.cells #[.slice vo V.length vc] 90)) w2->Calls Tryz.prog 34 #[.pointer (some ⟨mb,0,none⟩),.slice vs[which].o2 vs[which].n2 vs[which].c2,.pointer (some ⟨w.heap.size,0,none⟩)] w2 fun e w'=>e= .returned (.tuple #[])/\Pr P mb cs D V nO vo fr TT G i which cls[which] w (.returned (.int .i64 ((which+1:Nat):Int))) w' from fun w2 po1 pc1 hm2 hf2=>by
  have iH:∀(k:Nat) (ys:Array Value) (S:TypeId),(w.alloc (.cells #[.slice vo V.length vc] 90)).heap[k]?=some (.cells ys S (0,0))->S≠88->w2.heap[k]?=some (.cells ys S (0,0)):=fun k ys S hk hS=>(hf2.block k (aD hk) (fun e=>by rw[e,hms.ad.st.blk]at hk;simp only[aM,aR]at hk;exact hS hk.2.1.symm)).trans hk;have hms2:=hms.GU hm2.st (fun k ys S hk hS=>(iH k ys S hk (by rcases hS with q | q<;>(rw[q];decide))).trans hk.symm);have hkp:gE w w2:=(gE.below hb0).trans fun k ys S hk hS=>iH k ys S hk (by rcases hS with q | q | q<;>(rw[q];decide));have hcq2:=hcq.keep hkp.PE;have hz:=hf2.size;refine(A0 w2 mb _ w.heap.size D V nO nC vo vc fr TT P (G.eraseIdx i) po1 pc1 (NG cls[which]) (NT cls[which]) cls[which].goals vs[which].o2 vs[which].n2 vs[which].c2 hms2 hm2 (fun x hx=>hfv x (cX hx)) (fun q hq=>hP q (by omega)) hcq2.goals hok.gs hVn ⟨[],by rw[br];rfl⟩ hok.nl (aW hok.gl (by omega)) hD (aW (kc _ _) hGl)).mono ?_;rintro e w3 ⟨rfl,E,F,no',nc',vo',vc',T',Gn,po',pc',hjo⟩;have hmc:=hjo.mc;have ecs:((cs.setIfInBounds 3 (.slice po1 (G.eraseIdx i).length pc1)).setIfInBounds 1 (.slice no' (D++E).length nc')).setIfInBounds 3 (.slice po' (G.eraseIdx i++Gn).length pc')=(cs.setIfInBounds 1 (.slice no' (D++E).length nc')).setIfInBounds 3 (.slice po' (G.eraseIdx i++Gn).length pc'):=by exact Pf _ _ _ _
  rw[ecs]at hmc;refine⟨rfl,E,F,no',nc',T',Gn,po',pc',rfl,hmc,hjo.ms.ad.args.keep (fun g _ hp hg=>⟨hg,hp.1⟩),hjo.ms.to,hjo.old,hjo.nd,hjo.nv,hjo.ln,hjo.ms.lt,hjo.gl,aW hjo.el (by have:=hok.gl;omega),?_⟩;have hp1:∀k,rowOf po1 k->k=mb\/w.heap.size<=k:=fun k q=>by
   rcases hf2.row k (aw q)with e | e
   ·exact ay e
   ·right;omega
  refine⟨hjo.fg.os.trans (hf2.os.trans hb0.os),hjo.fg.tape.trans (hf2.tape.trans hb0.tape),hjo.fg.output.trans (hf2.output.trans hb0.output),by have:=hjo.fg.size;omega,fun k hk hr=> ?_,fun k q=> ?_⟩
  ·rw[hjo.fg.block k (by omega) ?_,hf2.block k (by omega) (fun e=>hr (ay (ay e))),hb0.block k hk];rintro((e | e | e | e) | e)
   ·exact hr (ay (ay e))
   ·exact hr (ay (aw e))
   ·omega
   ·exact hr (aw e)
   ·rcases hp1 k e with e | e
    ·exact hr (ay (ay e))
    ·omega
  ·have q2:vg mb no' w.heap.size vo' po' k:=by
    rcases q with(q | q) | q
    ·exact ay (ay q)
    ·exact ay (aw (ay q))
    ·exact aw q
   rcases hjo.fg.row k q2 with((e | e | e | e) | e) | e
   ·exact ay (ay (ay e))
   ·exact ay (ay (aw e))
   ·right;omega
   ·exact ay (aw e)
   ·rcases hp1 k e with e | e
    ·exact ay (ay (ay e))
    ·exact aw e
   ·right;omega)
 have i0:(0:Int)<=(which:Int):=by omega
 have i1:(which:Int)<(cls.length:Int):=by omega
 have HWH:=ah hwh;generalize vs[which]=v at*;obtain⟨⟨ak0,av0,ax0,ao0,an0,ac0⟩,o1,n1,c1,o2,n2,c2⟩:=v;dsimp only at f5 IJ;have HIJ:=ah (ae IJ);generalize hcw:cls[which]=cw at*;clear hcw IJ hm har hto hV hVl hfv hP h0 hcl hok hVn hD hb0 hca hta haa hcq hms hjv hw0;go_enter Tryz.func160,Tryz.ntmps160;go_wp2_with fail;refine(ae IL).mono ?_;rintro e w2 ⟨rfl,po1,pc1,m2,fr2⟩;have I2:=ah (ae HIJ w2 po1 pc1 m2 fr2);clear m2 fr2 IL HIJ;go_wp2_with fail;refine(ae I2).mono ?_;rintro e w3 ⟨rfl,h3⟩;have H3:=ah h3;clear h3 I2;go_wp2_with fail;go_ret;exact ae H3
theorem rh (w:World) (t ty e:TypeId) (i:TypeInfo) (ht:P.underlying t=some (.slice e)) (hi:P.info? e=some i) (base:Option Addr) (sLen sCap:Nat) (hle:sLen<=sCap):(Builtin.append_ #[t,t] ty #[.slice base sLen sCap,.slice none 0 0]).run P w= .ok (.slice base sLen sCap) w:=by cases base<;>simp[Builtin.append_,run_underlying ht,sizeOf,typeInfo,hi,hle,Builtin.lenOf,Builtin.firstCells,loadCells,storeCells]
theorem BM {o:Oper} {a:Act} (hgd:o.guard=none) (s x:Operand) (ho:o.op= .call {callee:= .builtin .append,args:=#[s,x],argTypes:=#[25,25]}) (base b2:Nat) (v:Value) (n:Nat) (xs:List Nat) (hs:a.eval s=v) (hown:w.ownsRow base 3 1 v n (xs.map cN)) (so:Option Addr) (m c:Nat) (ys:List Nat) (hx:a.eval x= .slice so m c) (hy:w.ownsRow b2 3 1 (.slice so m c) m (ys.map cN)) (hn:n+m<=1000000000) (hbase:base<=w.heap.size) (h:∀v' w',w'.ownsRow base 3 1 v' (n+m) ((xs++ys).map cN)->w.grownBy w' v.ownBlock->(v'.ownBlock=v.ownBlock\/v'.ownBlock=some w.heap.size)->wpList Tryz.prog ops Q rest (a.put o.dst v') w'):
 wpList Tryz.prog ops Q (o :: rest) a w:=by
 obtain⟨tj,hj,hy0,hy1,hy2⟩:=dH kO;rcases hy.2 with⟨q,q0⟩ | ⟨g,cap,cur,q,q1,q2,q3,q4,q5,q6⟩
 ·simp only[aS]at q;obtain⟨rfl,rfl,rfl⟩:=q;have hys:ys=[]:=by have:=hy.1;simp at this;exact this
  subst hys;obtain⟨vo,vc,rfl⟩:=gI hown;have hle:n<=vc:=by
   rcases hown.2 with⟨r,r0⟩ | ⟨g,cap,cur,r,_,_,r3,_⟩
   ·omega
   ·simp only[aS]at r;omega
  refine wpList_plain hgd fun K hK=> ?_;have hr:=rh (P:=Tryz.prog) w 25 o.type 3 tj Tryz.underlying25 hj vo n vc hle;unfold Oper.wp execOp;simp only[ho,resolve,invoke,builtin,Sem.run_bind,Sem.run_pure,Result.andThen_ok,List.map_toArray,aY,bV,hs,hx,hr];exact hK _ _ (h _ _ (by simpa using hown) (World.grownBy.refl _ _) (ay rfl))
 ·simp only[aS]at q;obtain⟨rfl,_,rfl⟩:=q;refine wpList_append_own_at w hgd s x 25 ho base 3 tj (.int .i64 0) 1 8 Tryz.underlying25 hj hy0 hy1 hy2 rfl (by decide) v n (xs.map cN) hs hown ⟨g,0,none⟩ m c (ys.map cN) hx (by have:=hy.1;simpa using this) (fun j u hj=> ?_) (fun u hu=> ?_) (by unfold maxLen;omega) (by omega) hbase (fun v' w' h1 h2 _ h4=>h v' w' (by rw[dL];exact h1) h2 h4)
  ·have hjl:j<(ys.map cN).length:=(bl.1 hj).1;have:(⟨g,0,none⟩:Addr).add j=⟨g,j,none⟩:=by cases j<;>simp[Addr.add]
   rw[this,hy.cellAt j (by have:=hy.1;simp at this hjl;omega)];exact hj
  ·obtain⟨y,_,rfl⟩:=bu.1 hu;rfl
end Go.Proofs.YthfjnfcekeknlabGreatDoor
namespace af
def vW (TT:Nat->U) (u:U) (c:dE) (V:List Nat):Prop:=V.length=(aP 8 [] c.head).length/\∀(i:Nat) (x:List UInt8) (m:Nat),(aP 8 [] c.head)[i]?=some x->V[i]?=some m->∃q,(dB 8 c.head u ⟨[],Wn.none⟩).st.find? (fun q=>q.1 == x)=some q/\TT m=q.2
end af
namespace Go.Proofs.YthfjnfcekeknlabGreatDoor
open Go.RowKit af
def uH (u:af.U) (b:Nat) (c:af.dE) (V F:List Nat) (T':Nat->af.U) (says:Nat) (ws:List Nat):Prop:=
 ((dB 8 c.head u ⟨[],Wn.none⟩).w.says≠1/\says=(dB 8 c.head u ⟨[],Wn.none⟩).w.says/\ws=(dB 8 c.head u ⟨[],Wn.none⟩).w.wt)\/
 ((dB 8 c.head u ⟨[],Wn.none⟩).w.says=1/\vW T' u c V/\(V++F).length=(NT c).length/\(∀f∈F,b<=f/\T' f= .v ([],f))/\F.Pairwise (·<·)/\says=(nB (ej T' (V++F) (NG c)) c.tests).says/\ws=ug (V++F) V.length (nB (ej T' (V++F) (NG c)) c.tests).wt)
def O4 (PP:Nat->Prop) (mb:Nat) (cs:Array Value) (D:List Ng) (nO:Option Addr) (fr:Nat->Nat) (TT:Nat->af.U) (n:Nat) (c:af.dE) (w:World) (e:Ending) (w':World):Prop:=
 ∃(says:Nat) (ws:List Nat) (oo:Option Addr) (oc:Nat) (vo':Option Addr) (vl vc':Nat) (E:List Ng) (V F:List Nat) (no':Option Addr) (nc':Nat) (T':Nat->af.U),e= .returned (.agg #[.int .i64 (says:Int),.slice oo ws.length oc,.slice vo' vl vc'])/\w'.ownsRow w.heap.size 3 1 (.slice oo ws.length oc) ws.length (ws.map cN)/\uH (TT n) D.length c V F T' says ws/\ws.length<=12000000/\(∀v∈ws,v<(D++E).length)/\
  fS w' mb 1 (cs.setIfInBounds 1 (.slice no' (D++E).length nc')) 88 (D++E) no' nc'/\g8 (D++E) fr/\kx (e8 (D++E)) fr T'/\(∀m,m<D.length->T' m=TT m)/\gP D.length E/\E.length<=78732/\di w' (D++E) (fun g=>PP g/\¬rowOf vo' g)/\bZ (eP mb nO) (eP mb no') w w'/\
  (says=1->(∀m∈V,m<D.length)/\vl=(V++F).length/\w'.ownsRow 0 3 1 (.slice vo' (V++F).length vc') (V++F).length ((V++F).map cN)/\(∀k,rowOf vo' k->eP mb nO k\/w.heap.size<=k)/\(∀n∈V++F,n<(D++E).length)/\(V++F).length=(NT c).length/\iZ D.length E F)
theorem DF (l:Wn):l.says=1\/l.says=2\/l.says=3:=by
 unfold Wn.says;split
 ·exact aw (ay rfl)
 ·split
  ·exact ay rfl
  ·exact aw (aw rfl)
theorem g8.um {D:List Ng} {fr:Nat->Nat} {T:Nat->af.U} (ok:g8 D fr) (hS:kx (e8 D) fr T):∀n,n<D.length->fz (fun x=>x.1=[]/\x.2<D.length/\fr x.2=x.2) (T n):=
 hS.um (fun n hn=>ok.lt hn) (fun n hn a ha=>by rw[lO hn]at ha;exact(ok.nd n hn).A7 a ha)
theorem mX {D E:List Ng} {F:List Nat} {fr:Nat->Nat} {T':Nat->af.U} (ok:g8 (D++E) fr) (hS:kx (e8 (D++E)) fr T') (nd:gP D.length E) (nv:iZ D.length E F):∀f∈F,D.length<=f/\f<(D++E).length/\T' f= .v ([],f):=fun f hf=>by
 obtain⟨h1,d,h2,h3⟩:=nv.var f hf;have hl:f<(D++E).length:=by have:=(bl.1 h2).1;rw[au];omega
 have hd:(D++E)[f]=d:=by rw[jm h1];exact(bl.1 h2).2
 have hfr:fr f=f:=(ok.self hl).2 (nd.at h1 hl).1;have hv:=hS.var (n:=f) (by rw[hfr,m7 hl,hd];exact(ok.nd f hl |> fun q=>by rw[hd]at q;exact q.nQ.2 h3));rw[hfr]at hv;exact⟨h1,hl,hv⟩
theorem Jq (w:World) (mb:Nat) (cs:Array Value) (D:List Ng) (nO:Option Addr) (nC:Nat) (fr:Nat->Nat) (TT:Nat->af.U) (PP:Nat->Prop) (a:AV) (o1 o2:Option Addr) (n1 c1 n2 c2 n:Nat) (c:af.dE) (hG:mH w w.heap.size mb 1 cs 88 D nO nC fr TT PP) (hPP:∀g,w.heap.size<=g->PP g) (hc:fJ w a o1 n1 o2 n2 c) (ok:pV c) (hn:n<D.length) (hsz:af.size (TT n)<=300) (hD:D.length+100000<=1000000000):
 Calls Tryz.prog 159 #[.pointer (some ⟨mb,1,none⟩),.agg #[.int .i64 a.k,.int .i64 a.val,.string a.tx,.slice a.ao a.n a.cap,.slice o1 n1 c1,.slice o2 n2 c2],.int .i64 (n:Int)] w fun e w'=>O4 PP mb cs D nO fr TT n c w e w':=by
 have hsm:=rN (B:=300) 8 c.head (TT n) ⟨[],Wn.none⟩ ok.wl hsz (by omega) (fun q hq=>by cases hq);have q3:3 ^ 8=6561:=by decide
 rw[q3]at hsm;have hvi:=lM 8 c.head (TT n) ⟨[],Wn.none⟩ (hG.ok.um hG.to n hn) ⟨(fun q hq=>by cases hq),eQ _⟩;obtain⟨KT,hKT⟩:=iL c.tests (aP 8 [] c.head);obtain⟨KG,hKG⟩:=iL c.goals (NT c);have hNT:NT c=aP 8 [] c.head++KT:=hKT;have hNG:NG c=NT c++KG:=hKG;by_cases hy:(dB 8 c.head (TT n) ⟨[],Wn.none⟩).w.says=1
 ·refine(CX w mb 1 cs 88 D nO nC fr TT PP a o1 o2 n1 c1 n2 c2 n (NG c) KG c.head c.tests hG hPP (by decide) (by decide) (by decide) (by decide) (by decide) (by decide) hc.head hc.tests hNG ok.wl ok.ts ok.tl hn hsz hD hy).mono ?_
  rintro e w' ⟨V,hVl,hVD,hVq,l,E,F,no',nc',vo',vc',T',oo,oc,rfl,rfl,ho1,ho2,hro,hs,hok,hto,har,hlt,hold,hnd,hnv,hln,hel,hfg⟩;have hnn:=mX hok hto hnd hnv;have henv:∀y∈NT c,∃m∈V++F,ej T' (V++F) (NG c) y=T' m:=fun y hy=>tH hy hNG hln;have hsize:∀m∈V++F,af.size (T' m)<=300:=fun m hm=>by
   rcases bA.1 hm with q | q
   ·rw[hold m (hVD m q)];obtain⟨i,hi,rfl⟩:=bG q;obtain⟨r,h1,h2⟩:=hVq i (aP 8 [] c.head)[i] V[i] (aj (by omega)) (aj hi);rw[h2];exact hsm.1 r (cR h1)
   ·rw[(hnn m q).2.2];simp[af.size]
  have hlen:(nB (ej T' (V++F) (NG c)) c.tests).wt.length<=c.tests.length*2000000:=Kg c.tests (aP 8 [] c.head) ok.ts fun y hy=>by obtain⟨m,hm,he⟩:=henv y hy;rw[he];exact hsize m hm
  have hwin:=wm (η:=ej T' (V++F) (NG c)) c.tests (aP 8 [] c.head) ok.ts fun y hy=>by obtain⟨m,hm,he⟩:=henv y hy;rw[he];exact hok.um hto m (hlt m hm)
  refine⟨_,_,oo,oc,vo',_,vc',E,V,F,no',nc',T',rfl,ho1,aw ⟨hy,⟨hVl,fun i x m h1 h2=>by rw[hold m (hVD m (bK h2))];exact hVq i x m h1 h2⟩,hln,fun f hf=>⟨(hnn f hf).1,(hnn f hf).2.2⟩,hnv.ord,rfl,rfl⟩,?_,?_,hs,hok,hto,hold,hnd,hel,har,hfg,fun _=>⟨hVD,rfl,ho2,hro,hlt,hln,hnv⟩⟩
  ·have h1:(ug (V++F) V.length (nB (ej T' (V++F) (NG c)) c.tests).wt).length<=(nB (ej T' (V++F) (NG c)) c.tests).wt.length:=ly _ _;have h2:=ok.tl;omega
  ·intro v hv;obtain⟨x,hx,rfl⟩:=hwin v (gL.1 hv).1;exact hx.2.1
 ·refine(FC w mb 1 cs 88 D nO nC fr TT PP a o1 o2 n1 c1 n2 c2 n (NG c) (KT++KG) c.head hG hc.head (by rw[hNG,hNT,aK]) ok.wl hn hsz hy).mono ?_;rintro e w' ⟨wo,wc,rfl,ho,hb⟩;refine⟨_,_,wo,wc,none,0,0,[],[],[],nO,nC,TT,rfl,ho,ay ⟨hy,rfl,rfl⟩,?_,?_,?_,by simpa using hG.ok,by simpa using hG.to,fun _ _=>rfl,(fun i d hd=>by simp at hd),by simp,?_,bZ.aX hb,fun q=>absurd q hy⟩
  ·have:=hsm.2;simp only[Wn.none,ct]at this⊢;omega
  ·intro v hv;obtain⟨x,hx,rfl⟩:=hvi.2 v hv;simpa using hx.2.1
  ·rw[br,mg hG.st.qF];exact hG.st.below hb
  ·rw[br];exact(hG.ar.below hb).keep fun g _ hp hg=>⟨hg,hp,fun⟨_,q,_⟩=>by cases q⟩
end Go.Proofs.YthfjnfcekeknlabGreatDoor
namespace af
def fE (rs:List (Nat×List Nat)):List Nat:=rs.flatMap fun r=>if r.1=3 then r.2 else []
def pL (rs:List (Nat×List Nat)):Bool:=rs.any fun r=>r.1 == 3
theorem nK (rs:List (Nat×List Nat)) (r:Nat×List Nat):fE (rs++[r])=fE rs++(if r.1=3 then r.2 else []):=by simp[fE]
theorem vT (rs:List (Nat×List Nat)) (r:Nat×List Nat):pL (rs++[r])=(pL rs||(r.1 == 3)):=by simp[pL]
end af
namespace Go.Proofs.YthfjnfcekeknlabGreatDoor
open Go.RowKit af
variable {no' po o oo no2 vo' no1 oo' no vo2:Option Addr} {w' w wr w2 w9 W:World} {fr:Nat->Nat} {R' P PP:Nat->Prop} {cs C:Array Value} {pc nC nc' b says b' cap k sz oc oc' nc2 bg nc1 nc ab i:Nat} {G:List Gl} {D D' E2 E:List Ng} {V ws F own:List Nat} {c:af.dE} {u:af.U} {T' T1 T2:Nat->af.U} {S:TypeId} {xs:List Value} {cls:List af.dE} {rs:List (Nat×List Nat)} {e:Ending} {gi:Gl}
theorem jh.asked {mb:Nat} {nO:Option Addr} (h:jh w mb cs D nO nC fr G po pc) (hs:fS w' mb 1 (cs.setIfInBounds 1 (.slice no' D'.length nc')) 88 D' no' nc') (ok:g8 D' fr) (hl:D.length<=D'.length) (hf:bZ (eP mb nO) R' w w'):jh w' mb (cs.setIfInBounds 1 (.slice no' D'.length nc')) D' no' nc' fr G po pc:=by
 have keep:∀(k:Nat) (ys:Array Value) (S:TypeId),w.heap[k]?=some (.cells ys S (0,0))->S≠88->S≠147->w'.heap[k]?=w.heap[k]?:=fun k ys S hk h1 h2=>(h.st.o0 hf hk h1 h2).trans hk.symm;refine⟨hs,ok,by rw[dp (by omega)];exact h.c3,aO h.fp fun g q=> ?_,fun g hg=>aO (h.pf g hg) fun k q=> ?_,fun g hg v hv=>aJ (h.DT g hg v hv) hl,h.nl⟩
 ·obtain⟨cur,hc⟩:=bL h.fp (bP q);exact keep g _ _ hc (by decide) (by decide)
 ·obtain⟨cur,hc⟩:=bL (h.pf g hg) (bP q);exact keep k _ _ hc (by decide) (by decide)
def jp (own:List Nat) (bg t:Nat):Nat:=(own[(bg+t) % own.length]?).getD 0
def nq (cls:List af.dE) (own:List Nat) (bg:Nat) (u:af.U) (b:Nat) (rs:List (Nat×List Nat)):Prop:=∀(t:Nat) (r:Nat×List Nat),rs[t]?=some r->r.1≠1/\∃(c:af.dE) (V F:List Nat) (T':Nat->af.U),cls[jp own bg t]?=some c/\uH u b c V F T' r.1 r.2
structure NY (P:Nat->Prop) (w:World) (mb:Nat) (cs:Array Value) (D:List Ng) (nO:Option Addr) (fr:Nat->Nat) (TT:Nat->af.U) (G:List Gl) (po:Option Addr) (pc:Nat) (cls:List af.dE) (own:List Nat) (bg n:Nat) (E:List Ng) (no1:Option Addr) (nc1:Nat) (T1:Nat->af.U) (rs:List (Nat×List Nat)) (oo:Option Addr) (oc:Nat) (wr:World):Prop where
 ow:wr.ownsRow w.heap.size 3 1 (.slice oo (fE rs).length oc) (fE rs).length ((fE rs).map cN)
 tr:nq cls own bg (TT n) D.length rs
 mc:jh wr mb (cs.setIfInBounds 1 (.slice no1 (D++E).length nc1)) (D++E) no1 nc1 fr G po pc
 ar:di wr (D++E) (fun g=>P g/\¬rowOf oo g)
 to:kx (e8 (D++E)) fr T1
 old:∀m,m<D.length->T1 m=TT m
 nd:gP D.length E
 el:E.length<=rs.length*78732
 lt:∀v∈fE rs,v<(D++E).length
 ln:(fE rs).length<=rs.length*12000000
 fg:bZ (eP mb nO) (fun k=>eP mb no1 k\/rowOf oo k) w wr
def P5 (P:Nat->Prop) (w:World) (mb:Nat) (cs:Array Value) (D:List Ng) (nO:Option Addr) (fr:Nat->Nat) (TT:Nat->af.U) (G:List Gl) (po:Option Addr) (pc:Nat) (cls:List af.dE) (own:List Nat) (bg n:Nat) (k:Nat) (wv av iv:Value) (wr:World):Prop:=
 ∃(rs:List (Nat×List Nat)) (E:List Ng) (no1:Option Addr) (nc1:Nat) (T1:Nat->af.U) (oo:Option Addr) (oc:Nat),k+rs.length=own.length/\iv= .int .i64 (rs.length:Int)/\wv= .bool (pL rs)/\av= .slice oo (fE rs).length oc/\NY P w mb cs D nO fr TT G po pc cls own bg n E no1 nc1 T1 rs oo oc wr
def rl (P:Nat->Prop) (mb:Nat) (cs:Array Value) (D:List Ng) (nO:Option Addr) (fr:Nat->Nat) (TT:Nat->af.U) (G:List Gl) (po:Option Addr) (pc:Nat) (cls:List af.dE) (own:List Nat) (bg n i:Nat) (gi:Gl) (w:World) (e:Ending) (w':World):Prop:=
 (∃(rs:List (Nat×List Nat)) (c:af.dE) (V F:List Nat) (T2:Nat->af.U) (ws:List Nat) (E:List Ng) (F':List Nat) (no':Option Addr) (nc':Nat) (T':Nat->af.U) (Gn:List Gl) (po':Option Addr) (pc':Nat),rs.length<own.length/\nq cls own bg (TT n) D.length rs/\cls[jp own bg rs.length]?=some c/\uH (TT n) D.length c V F T2 1 ws/\e= .returned (.int .i64 ((jp own bg rs.length+1:Nat):Int))/\
  jh w' mb ((cs.setIfInBounds 1 (.slice no' (D++E).length nc')).setIfInBounds 3 (.slice po' (G.eraseIdx i++Gn).length pc')) (D++E) no' nc' fr (G.eraseIdx i++Gn) po' pc'/\di w' (D++E) P/\kx (e8 (D++E)) fr T'/\(∀m,m<D.length->T' m=TT m)/\(∀m∈V++F,T' m=T2 m)/\gP D.length E/\(V++F++F').length=(NG c).length/\(∀f∈F++F',D.length<=f/\T' f= .v ([],f))/\(F++F').Pairwise (·<·)/\(∀m∈V++F++F',m<(D++E).length)/\eO (xM T' (D++E).length (ej T' (V++F++F') (NG c))) c.goals Gn/\E.length<=1100000/\bZ (eP mb nO) (fun k=>eP mb no' k\/rowOf po' k) w w')\/
 (∃(rs:List (Nat×List Nat)),rs.length=own.length/\nq cls own bg (TT n) D.length rs/\pL rs=false/\e= .returned (.int .i64 (-2))/\(∃cs2:Array Value,w'.heap[mb]?=some (.cells (cs2.setIfInBounds 5 (.int .i64 4)) 88 (0,0))/\∃no1 n1 nc1,cs2=cs.setIfInBounds 1 (.slice no1 n1 nc1))/\bZ (eP mb nO) (fun k=>k=mb) w w')\/
 (∃(rs:List (Nat×List Nat)) (E:List Ng) (no1:Option Addr) (nc1:Nat) (T1:Nat->af.U) (oo:Option Addr) (oc:Nat),rs.length=own.length/\nq cls own bg (TT n) D.length rs/\pL rs=true/\e= .returned (.int .i64 (-1))/\jh w' mb (cs.setIfInBounds 1 (.slice no1 (D++E).length nc1)) (D++E) no1 nc1 fr (G.set i {gi with wt:=true,no:=oo,nc:=oc,nd:=fE rs}) po pc/\di w' (D++E) P/\kx (e8 (D++E)) fr T1/\(∀m,m<D.length->T1 m=TT m)/\gP D.length E/\E.length<=1100000/\(∀k,rowOf oo k->w.heap.size<=k)/\bZ (fun k=>eP mb nO k\/rowOf po k) (fun k=>eP mb no1 k\/rowOf po k) w w')
theorem uH.low (hb:b'<=b) (h:uH u b c V F T' says ws):uH u b' c V F T' says ws:=by
 rcases h with h | ⟨h1,h2,h3,h4,h5⟩
 ·exact ay h
 ·exact aw ⟨h1,h2,h3,fun f hf=>⟨aW hb (h4 f hf).1,(h4 f hf).2⟩,h5⟩
theorem dx {n:Nat} (h:w.ownsRow b S sz (.slice o n cap) n xs) (hk:rowOf o k):b<=k/\k<w.heap.size:=by obtain⟨p,hp,hq⟩:=hk;exact h.lt k (by rw[hp,hq];rfl)
theorem jh.grown {mb:Nat} {nO:Option Addr} (h:jh w mb cs D nO nC fr G po pc) {n:Nat} (ho:w.ownsRow b 3 1 (.slice oo n oc) n xs) (hg:w.grownBy w' (Value.slice oo n oc).ownBlock) (hgn:∀g∈G,∀k,rowOf g.no k->¬rowOf oo k):jh w' mb cs D nO nC fr G po pc:=by
 have keep:∀(k:Nat) (ys:Array Value) (S:TypeId),w.heap[k]?=some (.cells ys S (0,0))->S≠3->w'.heap[k]?=w.heap[k]?:=fun k ys S hk hS=>hg.block k (aD hk) (dF (cm ho hk hS));refine⟨⟨(keep mb _ _ h.st.blk (by decide)).trans h.st.blk,h.st.qF,aO h.st.own fun g q=> ?_,h.st.ty⟩,h.ok,h.c3,aO h.fp fun g q=> ?_,fun g hg'=>aO (h.pf g hg') fun k q=> ?_,h.DT,h.nl⟩
 ·obtain⟨cur,hc⟩:=bL h.st.own (bP q);exact keep g _ _ hc (by decide)
 ·obtain⟨cur,hc⟩:=bL h.fp (bP q);exact keep g _ _ hc (by decide)
 ·obtain⟨cur,hc⟩:=bL (h.pf g hg') (bP q);exact hg.block k (aD hc) (dF (hgn g hg' k (bP q)))
theorem NY.next {mb:Nat} {nO:Option Addr} {TT:Nat->af.U} {n:Nat} (h:NY P w mb cs D nO fr TT G po pc cls own bg n E no1 nc1 T1 rs oo oc wr) (hgn:∀g∈G,∀k,rowOf g.no k->k<w.heap.size) (hc:cls[jp own bg rs.length]?=some c) (ha:uH (T1 n) (D++E).length c V F T2 says ws) (hn:n<D.length) (hs1:says≠1) (hlen:ws.length<=12000000) (hlt:∀v∈ws,v<((D++E)++E2).length) (hst:fS w2 mb 1 ((cs.setIfInBounds 1 (.slice no1 (D++E).length nc1)).setIfInBounds 1 (.slice no2 ((D++E)++E2).length nc2)) 88 ((D++E)++E2) no2 nc2) (hok:g8 ((D++E)++E2) fr) (hto:kx (e8 ((D++E)++E2)) fr T2) (hold:∀m,m<(D++E).length->T2 m=T1 m) (hnd:gP (D++E).length E2) (hel:E2.length<=78732) (har:di w2 ((D++E)++E2) (fun g=>(P g/\¬rowOf oo g)/\¬rowOf vo' g)) (hfg:bZ (eP mb no1) (eP mb no2) wr w2) (hb:Below w2.heap.size w2 w9) (hrow:w'.ownsRow w.heap.size 3 1 (.slice oo' (fE (rs++[(says,ws)])).length oc') (fE (rs++[(says,ws)])).length ((fE (rs++[(says,ws)])).map cN)) (hgr:w9.grownBy w' (Value.slice oo (fE rs).length oc).ownBlock) (hat:∀k,rowOf oo' k->rowOf oo k\/w9.heap.size<=k):
 NY P w mb cs D nO fr TT G po pc cls own bg n (E++E2) no2 nc2 T2 (rs++[(says,ws)]) oo' oc' w':=by
 have hz1:=h.fg.size;have hz2:=hfg.size;have hz9:=hb.size;have hz':=hgr.size;have ow2:w9.ownsRow w.heap.size 3 1 (.slice oo (fE rs).length oc) (fE rs).length ((fE rs).map cN):=aO h.ow fun g q=>by obtain⟨cur,hcu⟩:=bL h.ow (bP q);have h1:=h.mc.st.o0 hfg hcu (by decide) (by decide);rw[hb.block g (aD h1),h1,hcu]
 have hmc:=(((h.mc.asked hst hok (eX _ _) hfg).below hb).grown ow2 hgr (fun g hg k hk hk2=>by have h1:=hgn g hg k hk;have h2:=(dx h.ow hk2).1;omega));have hu:T1 n=TT n:=h.old n hn;rw[hu]at ha;refine⟨hrow,fun t r hr=> ?_,by rw[<-aK];rw[set_set]at hmc;exact hmc,?_,by rw[<-aK];exact hto,fun m hm=> ?_,h.nd.app (by have:=hnd;rwa [au]at this),?_,?_,?_,?_⟩
 ·by_cases q:t<rs.length
  ·rw[cg q]at hr;exact h.tr t r hr
  ·rw[cZ (by omega)]at hr;obtain rfl:t=rs.length:=by have:=(bl.1 hr).1;simp at this;omega
   simp at hr;subst hr;exact⟨hs1,c,V,F,T2,hc,ha.low (by rw[au];omega)⟩
 ·rw[<-aK];refine har.keep fun g ys hp hg=> ?_;have hg9:=(hb.block g (aD hg)).trans hg;refine⟨(hgr.block g (aD hg9) (dF hp.1.2)).trans hg9,hp.1.1,fun q=> ?_⟩;rcases hat g q with e | e
  ·exact hp.1.2 e
  ·have:=aD hg9;omega
 ·rw[hold m (by rw[au];omega),h.old m hm]
 ·have:=h.el;rw[au,au,d9];simp only[aT,ct];omega
 ·intro v hv;rw[<-aK];rw[nK]at hv;rcases bA.1 hv with q | q
  ·exact aJ (h.lt v q) (eX _ _)
  ·split at q
   ·exact hlt v q
   ·cases q
 ·have h1:=h.ln
  have h2:(if(says,ws).1=3 then(says,ws).2 else []).length<=ws.length:=by
   split
   ·exact Qw
   ·exact cI _
  have h3:(rs++[(says,ws)]).length=rs.length+1:=by simp
  rw[nK,au,h3];generalize (if(says,ws).1=3 then(says,ws).2 else []).length=z at*;omega
 ·have hsb:∀k,eP mb no1 k->eP mb nO k\/w.heap.size<=k:=fun k q=>h.fg.row k (ay q);have hoo:∀k,rowOf oo k->w.heap.size<=k:=fun k q=>(dx h.ow q).1;refine⟨hgr.os.trans (hb.os.trans (hfg.os.trans h.fg.os)),hgr.tape.trans (hb.tape.trans (hfg.tape.trans h.fg.tape)),hgr.output.trans (hb.output.trans (hfg.output.trans h.fg.output)),by omega,fun k hk hr=> ?_,fun k q=> ?_⟩
  ·rw[hgr.block k (by omega) (dF fun q=>by have:=hoo k q;omega),hb.block k (by omega),hfg.block k (by omega) ?_,h.fg.block k hk hr];intro q;rcases hsb k q with e | e
   ·exact hr e
   ·omega
  ·rcases q with q | q
   ·rcases hfg.row k q with e | e
    ·exact hsb k e
    ·right;omega
   ·rcases hat k q with e | e
    ·exact aw (hoo k e)
    ·right;omega
def FW (w w':World):Prop:=∀(g:Nat) (ys:Array Value) (S:TypeId),w.heap[g]?=some (.cells ys S (0,0))->S≠224->w'.heap[g]?=w.heap[g]?
theorem FW.row (h:FW w w') {n:Nat} (ho:w.ownsRow b S sz (.slice o n cap) n xs) (hS:S≠224):w'.ownsRow b S sz (.slice o n cap) n xs:=aO ho fun g q=>by obtain⟨cur,hc⟩:=bL ho (bP q);exact h g _ _ hc hS
theorem FW.st (h:FW w w') {mb:Nat} (hs:fS w mb 1 cs 88 D no nc):fS w' mb 1 cs 88 D no nc:=⟨(h mb _ _ hs.blk (by decide)).trans hs.blk,hs.qF,h.row hs.own (by decide),hs.ty⟩
theorem FW.args {w w':World} (h:FW w w') {D:List Ng} {P:Nat->Prop} (ha:di w D P):di w' D P:=ha.keep fun g _ hp hg=>⟨(h g _ _ hg (by decide)).trans hg,hp⟩
theorem FW.alloc (w:World) (o:Obj):FW w (w.alloc o):=fun _ _ _ hg _=>aZ _ _ _ (aD hg)
theorem FW.MX (hb:w.heap[ab]?=some (.cells C 224 (0,0))) (v0 v1 v2:Value):FW w (((w.setCell ⟨ab,0,none⟩ v0).setCell ⟨ab,1,none⟩ v1).setCell ⟨ab,2,none⟩ v2):=fun g ys S hg hS=>hH w v0 v1 v2 (fun e=>by rw[e,hb]at hg;simp only[aM,aR]at hg;exact hS hg.2.1.symm)
theorem O4.base {mb:Nat} {nO:Option Addr} {TT:Nat->af.U} {n:Nat} (hb:Below w.heap.size w W) (h:O4 PP mb cs D nO fr TT n c W e w'):O4 PP mb cs D nO fr TT n c w e w'/\∃R',bZ (eP mb nO) R' W w':=by obtain⟨says,ws,oo,oc,vo',vl,vc',E,V,F,no',nc',T',h1,h2,h3,h4,h5,h6,h7,h8,h9,h10,h11,h12,h13,h14⟩:=h;exact⟨⟨says,ws,oo,oc,vo',vl,vc',E,V,F,no',nc',T',h1,dh h2 hb.size,h3,h4,h5,h6,h7,h8,h9,h10,h11,h12,(bZ.aX hb).trans h13,fun q=>by obtain⟨k1,k2,k3,k4,k5⟩:=h14 q;exact⟨k1,k2,k3,fun k r=>(k4 k r).imp id fun s=>aW hb.size s,k5⟩⟩,_,h13⟩
theorem NY.fin {mb:Nat} {nO:Option Addr} {TT:Nat->af.U} {n:Nat} (h:NY P w mb cs D nO fr TT G po pc cls own bg n E no1 nc1 T1 rs oo oc wr) (hrl:rs.length<own.length) (ho:own.length<=12) (hc:cls[jp own bg rs.length]?=some c) (ha:uH (T1 n) (D++E).length c V F T2 1 ws) (hn:n<D.length) (hok:g8 ((D++E)++E2) fr) (hto:kx (e8 ((D++E)++E2)) fr T2) (hold:∀m,m<(D++E).length->T2 m=T1 m) (hnd:gP (D++E).length E2) (hel:E2.length<=78732) (hfg:bZ (eP mb no1) (eP mb no2) wr w9) (hvo:∀k,rowOf vo2 k->eP mb no1 k\/wr.heap.size<=k) (hlt:∀m∈V++F,m<((D++E)++E2).length) (hnv:iZ (D++E).length E2 F) (hp:Pr P mb ((cs.setIfInBounds 1 (.slice no1 (D++E).length nc1)).setIfInBounds 1 (.slice no2 ((D++E)++E2).length nc2)) ((D++E)++E2) (V++F) no2 vo2 fr T2 G i (jp own bg rs.length) c w9 e w'):
 rl P mb cs D nO fr TT G po pc cls own bg n i gi w e w':=by
 obtain⟨E3,F3,no3,nc3,T3,Gn,po3,pc3,rfl,hm3,har3,hto3,hold3,hnd3,hnv3,hln3,hlt3,hgl3,hel3,hfg3⟩:=hp;rw[set_set,set_set]at hm3;have hu:T1 n=TT n:=h.old n hn;rw[hu]at ha;have hz1:=h.fg.size;have hz2:=hfg.size;have eA:(D++E++E2++E3)=D++(E++E2++E3):=by simp
 have hok3:g8 (D++E++E2++E3) fr:=hm3.ok;have hnewF:∀f∈F,(D++E).length<=f/\f<(D++E++E2).length/\T2 f= .v ([],f):=mX hok hto hnd hnv;have hnewF3:=mX hok3 hto3 hnd3 hnv3;have nd1:gP (D.length+E.length) E2:=by have:=hnd;rwa [au]at this
 have nd2:gP (D.length+(E++E2).length) E3:=by have:=hnd3;rwa [au,au,Nat.add_assoc,<-au]at this
 refine ay ⟨rs,c,V,F,T2,ws,E++E2++E3,F3,no3,nc3,T3,Gn,po3,pc3,hrl,h.tr,hc,ha.low (eX _ _),rfl,by rw[<-eA];exact hm3,by rw[<-eA];exact har3,by rw[<-eA];exact hto3,fun m hm=> ?_,fun m hm=>hold3 m (hlt m hm),(h.nd.app nd1).app nd2,hln3,fun f hf=> ?_,?_,by rw[<-eA];exact hlt3,by rw[<-eA];exact hgl3,?_,?_⟩
 ·rw[hold3 m (by rw[au,au];omega),hold m (by rw[au];omega),h.old m hm]
 ·rcases bA.1 hf with q | q
  ·obtain⟨q1,q2,q3⟩:=hnewF f q;refine⟨by rw[au]at q1;omega,?_⟩;rw[hold3 f q2,q3]
  ·obtain⟨q1,q2,q3⟩:=hnewF3 f q;exact⟨by rw[au,au]at q1;omega,q3⟩
 ·rw[List.pairwise_append];refine⟨hnv.ord,hnv3.ord,fun x hx y hy=> ?_⟩;have:=(hnewF x hx).2.1;have:=(hnewF3 y hy).1;omega
 ·have h1:=h.el;have h2:rs.length*78732<=11*78732:=bY _ (by omega);rw[au,au];omega
 ·have hsb:∀k,eP mb no1 k->eP mb nO k\/w.heap.size<=k:=fun k q=>h.fg.row k (ay q)
  have hs2:∀k,eP mb no2 k->eP mb nO k\/w.heap.size<=k:=fun k q=>by
   rcases hfg.row k q with e | e
   ·exact hsb k e
   ·right;omega
  have hv2:∀k,rowOf vo2 k->eP mb nO k\/w.heap.size<=k:=fun k q=>by
   rcases hvo k q with e | e
   ·exact hsb k e
   ·right;omega
  have hz3:=hfg3.size;refine⟨hfg3.os.trans (hfg.os.trans h.fg.os),hfg3.tape.trans (hfg.tape.trans h.fg.tape),hfg3.output.trans (hfg.output.trans h.fg.output),by omega,fun k hk hr=> ?_,fun k q=> ?_⟩
  ·rw[hfg3.block k (by omega) ?_,hfg.block k (by omega) ?_,h.fg.block k hk hr]
   ·intro q;rcases hsb k q with e | e
    ·exact hr e
    ·omega
   ·rintro(q | q)
    ·rcases hs2 k q with e | e
     ·exact hr e
     ·omega
    ·rcases hv2 k q with e | e
     ·exact hr e
     ·omega
  ·rcases hfg3.row k q with(e | e) | e
   ·exact hs2 k e
   ·exact hv2 k e
   ·right;omega
