import Derived.Test.YthfjnfcekeknlabGreatDoorPx24
set_option maxHeartbeats 8000000
set_option maxRecDepth 100000
set_option linter.unusedSimpArgs false
namespace Go.Proofs.YthfjnfcekeknlabGreatDoor
open Go.RowKit af
theorem MC.int {mb:Nat} {cs:Array Value} {D:List Ng} {nO:Option Addr} {nC:Nat} {fr:Nat->Nat} {TT:Nat->af.U} {G:List Gl} {i a b:Nat} {w:World} {e:Ending} {w':World} (h:MC mb cs D nO nC fr TT G i a b w e w'):∃z:Int,e= .returned (.int .i64 z):=by
 rcases h with⟨_,_,_,_,_,_,rfl,_⟩ | ⟨_,rfl,_⟩
 ·exact⟨_,rfl⟩
 ·exact⟨_,rfl⟩
theorem BY.int {mb:Nat} {cs:Array Value} {D:List Ng} {nO:Option Addr} {nC:Nat} {fr:Nat->Nat} {TT:Nat->af.U} {P:Nat->Prop} {G:List Gl} {po:Option Addr} {pc i:Nat} {g:Gl} {W:Wn} {r:Option Int} {w:World} {e:Ending} {w':World} (h:BY mb cs D nO nC fr TT P G po pc i g W r w e w'):∃z:Int,e= .returned (.int .i64 z):=by
 rcases h with⟨_,_,_,rfl,_⟩ | ⟨_,_,rfl,_⟩ | ⟨_,_,_,_,_,_,_,_,_,_,_,_,_,_,h⟩
 ·exact⟨_,rfl⟩
 ·exact⟨_,rfl⟩
 ·exact h.int
theorem C6 (w:World) (mb:Nat) (cs:Array Value) (D:List Ng) (nO:Option Addr) (nC:Nat) (fr:Nat->Nat) (TT:Nat->af.U) (P:Nat->Prop) (G:List Gl) (po:Option Addr) (pc i:Nat) (g:Gl) (rn zn:Nat) (d e:Ng) (h:jh w mb cs D nO nC fr G po pc) (har:di w D P) (hP:∀g,w.heap.size<=g->P g) (hto:kx (e8 D) fr TT) (hi:i<G.length) (hgi:G[i]=g) (hl:g.l<D.length) (hr:g.r=(rn:Int)) (hrl:rn<D.length) (hz0:g.op.toList=[]->g.z= -1) (hz:g.op.toList≠[]->g.z=(zn:Int)/\zn<D.length/\D[fr zn]?=some e) (hd:D[fr rn]?=some d) (sd: -1000000000<=d.val/\d.val<=1000000000) (se: -1000000000<=e.val/\e.val<=1000000000) (hD:D.length+1<=1000000000) (hG:G.length<=1000000) (hc:5<cs.size):
 Calls Tryz.prog 117 #[.pointer (some ⟨mb,0,none⟩),.int .i64 (i:Int),.agg #[.int .i64 (g.l:Int),.string g.sg,.int .i64 g.r,.string g.op,.int .i64 g.z,.bool g.wt,.slice g.no g.nd.length g.nc]] w fun x w'=>BY mb cs D nO nC fr TT P G po pc i g (lY g.op.toList (TT rn) (TT zn)) (oB g.op.toList d e) w x w':=by
 rw[hr];have hG0:mH w w.heap.size mb 1 cs 88 D nO nC fr TT P:=⟨h.st,h.ok,hto,har,Qw⟩;have hu0:=((al w.heap.size w).alloc Qw (.cells #[.int .i64 (g.l:Int),.string g.sg,.int .i64 (rn:Int),.string g.op,.int .i64 g.z,.bool g.wt,.slice g.no g.nd.length g.nc] 133)).alloc (by simp) (.cells #[.slice none 0 0,.slice none 0 0,.bool false] 102);have hl0:=jK (w.alloc (.cells #[.int .i64 (g.l:Int),.string g.sg,.int .i64 (rn:Int),.string g.op,.int .i64 g.z,.bool g.wt,.slice g.no g.nd.length g.nc] 133));rw[aF]at hl0;have r0:=(aZ (w.alloc (.cells #[.int .i64 (g.l:Int),.string g.sg,.int .i64 (rn:Int),.string g.op,.int .i64 g.z,.bool g.wt,.slice g.no g.nd.length g.nc] 133)) (.cells #[.slice none 0 0,.slice none 0 0,.bool false] 102) w.heap.size (by simp)).trans (aB w (.cells #[.int .i64 (g.l:Int),.string g.sg,.int .i64 (rn:Int),.string g.op,.int .i64 g.z,.bool g.wt,.slice g.no g.nd.length g.nc] 133));obtain⟨ka,hka⟩:=h.ok.hop rn hrl;have va:=hG0.uz hrl hd;have vx:∀n,n<D.length->∀x,TT n= .v x->x=([],fr n):=fun n hn x hx=>by
  obtain⟨dn,q1,q2,q3,q4,q5⟩:=hG0.node hn;by_cases k1:dn.k=1
  ·rw[q4 k1]at hx;injection hx with hx;exact hx.symm
  ·obtain⟨_,_,_,_,q⟩:=q5 k1;rw[q]at hx;cases hx
 have hlt1:∀v∈(Wn.none.fh (TT rn)).wt,v<D.length:=Jo h.ok hrl (fun v hv=>by simp[Wn.none]at hv) (vx rn hrl);have WA:=ah (fun W (hu:Below (w.heap.size+2) _ W)=>jR W (w.heap.size+1) mb 1 cs 88 D nO nC _ [] [] false rn (fr rn) ka d (TT rn) (hG0.at (hu0.trans (hu.mono (by omega)))) hka hd va.2 (fun q=>dY.2 fun r=>q (va.1.2 r)) (hl0.below (hu.mono (by simp))) (by simp));have HL1:=ah (show (Wn.none.fh (TT rn)).wt.length<=100000000 from aW (Wn.jB _ _) (by simp[Wn.none]))
 have WB:=ah (show∀(W:World) (R:Nat->Prop),Below w.heap.size w W->iR W (w.heap.size+1) [] (Wn.none.fh (TT rn)).wt false R->Calls Tryz.prog 81 #[.pointer (some ⟨w.heap.size+1,0,none⟩),.pointer (some ⟨mb,1,none⟩),.int .i64 g.z] W fun e w'=>e= .returned (.tuple #[])/\∃R',iR w' (w.heap.size+1) [] (lY g.op.toList (TT rn) (TT zn)).wt false R'/\bZ R R' W w' from fun W R hu hlo=>by
  by_cases ho:g.op.toList=[]
  ·rw[hz0 ho];refine(C5 W (w.heap.size+1) mb 1 cs 88 D nO nC R [] _ false (hG0.at hu) hlo).mono ?_;rintro x w' ⟨h1,h2,h3⟩;refine⟨h1,R,?_,h3⟩;unfold lY;rw[aH ho];exact h2
  ·obtain⟨q1,q2,q3⟩:=hz ho;rw[q1];obtain⟨kb,hkb⟩:=h.ok.hop zn q2;have vb:=hG0.uz q2 q3;refine(jR W (w.heap.size+1) mb 1 cs 88 D nO nC R [] _ false zn (fr zn) kb e (TT zn) (hG0.at hu) hkb q3 vb.2 (fun q=>dY.2 fun r=>q (vb.1.2 r)) hlo (ae HL1)).mono ?_;rintro x w' ⟨h1,R',h2,h3⟩;refine⟨h1,R',?_,h3⟩;unfold lY;rw[aG ho];have e1:Wn.mk (Wn.none.fh (TT rn)).wt false=Wn.none.fh (TT rn):=by cases TT rn<;>rfl
   rw[e1]at h2;exact h2)
 have HWL:=ah (show∀v∈(lY g.op.toList (TT rn) (TT zn)).wt,v<D.length from fun v hv=>by
  unfold lY at hv;split at hv
  ·exact hlt1 v hv
  ·rename_i ho;exact Jo h.ok (hz ho).2.1 hlt1 (vx zn (hz ho).2.1) v hv)
 have HWN:=ah (show (lY g.op.toList (TT rn) (TT zn)).wt.length<=2 by have q1:=Wn.jB Wn.none (TT rn);have q2:=Wn.jB (Wn.none.fh (TT rn)) (TT zn);have q3:Wn.none.wt.length=0:=rfl;unfold lY;split<;>omega)
 generalize lY g.op.toList (TT rn) (TT zn)=W2 at*;have IV:=ah (fun W (hu:Below w.heap.size w W)=>Ex W mb cs 88 D nO nC fr g.l g.sg rn g.op g.z g.wt g.no g.nd.length g.nc d e (h.st.below hu) h.ok hrl hd (fun q=>⟨zn,hz q⟩) sd se);have IWT:=ah (fun W (hu:Below w.heap.size w W) (no:Option Addr) (nc:Nat) (hn:W.ownsRow 0 3 1 (.slice no W2.wt.length nc) W2.wt.length (W2.wt.map cN))=>xS W mb cs D nO nC fr G po pc i g W2.wt no nc (h.below hu) hi hgi hn (ae HWL) (by have:=ae HWN;omega));have IFL:=ah (fun W (hu:Below w.heap.size w W)=>tF W mb cs 5 (h.st.below hu).blk hc);have IAD:=ah (fun(x:Int) W (hu:Below w.heap.size w W)=>L8 P (W.alloc (.cells #[.slice none 0 0] 90)) mb 1 cs 88 W.heap.size D [] nO nC none 0 x ⟨h.st.below (hu.alloc hu.size _),⟨aB W _,bD _ _ _ _⟩,by decide,by decide,(har.below (hu.alloc hu.size _)).keep fun g _ hp hg=>⟨hg,hp,fun⟨_,q,_⟩=>by cases q⟩⟩ (fun g hg=>hP g (by rw[aF]at hg;have:=hu.size;omega)) (by decide) hD);have IEQ:=ah (show∀(x:Int) (W W':World) (no':Option Addr) (nc':Nat),Below w.heap.size w W->mA P W' mb 1 (cs.setIfInBounds 1 (.slice no' (D.length+1) nc')) 88 W.heap.size (D++[ko x D.length]) [] no' nc' none 0->bZ (dO mb nO W.heap.size none) (dO mb no' W.heap.size none) (W.alloc (.cells #[.slice none 0 0] 90)) W'->W2.wt=[]->oB g.op.toList d e=some x->Calls Tryz.prog 116 #[.pointer (some ⟨mb,0,none⟩),.int .i64 (i:Int),.int .i64 (g.l:Int),.int .i64 (D.length:Int)] W' fun y w'=>BY mb cs D nO nC fr TT P G po pc i g W2 (oB g.op.toList d e) w y w' from fun x W W' no' nc' hu had hf hw hv=>by
  have ok:=h.ok.Mq (AO x D.length);obtain⟨T2,hS,he⟩:=EL h.ok hto (AO x D.length);have hu':=hu.alloc hu.size (.cells #[.slice none 0 0] 90);rw[<-rP (x:=x)]at had;have hm:=(h.below hu').added (P:=P) ⟨aB W _,bD _ _ _ _⟩ (V:=[]) (vo:=none) (vc:=0) (fun _ _ _ _ ⟨_,q,_⟩=>by cases q) had ok (by simp) hf;have hra:di W' (D++[ko x D.length]) P:=had.args.keep fun g _ hp hg=>⟨hg,hp.1⟩;refine(tG W' mb _ (D++[ko x D.length]) no' nc' fr T2 P G po pc i g.l D.length hm hra hS (by rw[rP];omega) (by rw[rP];omega) (by rw[rP];exact hD) hG (by simpa using hc)).mono ?_;intro y w' hq;refine aw (aw ⟨hw,x,no',nc',T2,W',hv,ok,hS,he,Cy ok hS,hm,hra,?_,hq⟩);refine(bZ.new (X:=eP mb nO) (R':=dO mb no' W.heap.size none) (bZ.aX hu') hf ?_).less (fun k q=> ?_)
  ·rintro k (q | q | q | ⟨_,q,_⟩)
   ·exact ay (ay q)
   ·exact ay (aw q)
   ·right;rw[q];exact hu.size
   ·cases q
  ·rcases q with q | q
   ·exact ay q
   ·exact aw (ay q))
 have mz:=aD h.st.blk;have HNO:=ah (show¬rowOf nO w.heap.size from fun⟨p,hp,hk⟩=>by have:=(h.st.own.lt w.heap.size (by rw[hp,hk];rfl)).2;omega)
 have HBK:=ah (fun W (hu:Below w.heap.size w W)=>bB (h.st.below hu).blk 5 (.int .i64 5));have HR0:=ah r0;have HL0:=ah hl0;have HU0:=ah hu0;clear hG0 r0 hl0 hu0 hd va hka h har hP hto hgi hz0 hz sd se vx hlt1 HWL;obtain⟨l,sg,r,op,z,wt,no,nc,nd⟩:=g;dsimp only at*;generalize oB op.toList d e=val at*;go_enter Tryz.func117,Tryz.ntmps117;go_wp2_with fail;go_region_with (go_at_call 81;refine(ae WA _ (by first | exact Qx | exact Qx.drew | exact Qx.drew.drew | exact Qx.drew.drew.drew)).mono ?_;rintro y w2 ⟨rfl,R2,h2,fr2⟩)
 all_goals
  have hb2:=(ae HL0).under ((bZ.aX (by first | exact Qx | exact Qx.drew | exact Qx.drew.drew)).trans fr2) (ae HU0) (by omega);have q2:=(((bZ.aX (by first | exact Qx | exact Qx.drew | exact Qx.drew.drew)).trans fr2).block w.heap.size (by simp only[aF];omega) (iV (by omega))).trans (ae HR0);have n2:=fr2.not (k:=w.heap.size) (by simp only[World.size_drew,aF];omega) (iV (by omega));change iR w2 _ _ (Wn.none.fh (TT rn)).wt _ _ at h2;have d2:=aN q2 4;have sz2:=aD q2;simp only[aE,aq,aA]at d2;have HQ2:=ah q2;have HN2:=ah n2;have HB2:=ah hb2;have H2:=ah h2;clear q2 n2 hb2 h2 fr2 HR0 HL0 HU0 WA;have WB2:=ah (fun W (hb:Below w2.heap.size w2 W)=>ae WB W R2 ((ae HB2).trans (hb.mono (ae HB2).size)) ((ae H2).below hb));clear WB;go_wp2_with fail;go_region_with (go_at_call 81;refine(ae WB2 _ (by first | exact Qx | exact Qx.drew | exact Qx.drew.drew | exact Qx.drew.drew.drew)).mono ?_;rintro y w4 ⟨rfl,R4,h4,fr4⟩);have hb4:=(ae H2).under ((bZ.aX (by first | exact Qx | exact Qx.drew | exact Qx.drew.drew)).trans fr4) (ae HB2) (by omega);have q4:=(((bZ.aX (by first | exact Qx | exact Qx.drew | exact Qx.drew.drew)).trans fr4).block w.heap.size sz2 (ae HN2)).trans (ae HQ2);obtain⟨xo,xc,wo,wc,lob,rfl⟩:=h4;have c0:=aN q4 0;have c1:=aN q4 1;have c2:=aN q4 2;have c3:=aN q4 3;have c4:=aN q4 4;have c5:=aN q4 5;have c6:=aN q4 6;have e1:=aN lob.blk 1;have lz:=aD lob.blk;have gz:=aD q4;simp only[aE,aq,aA]at c0 c1 c2 c3 c4 c5 c6 e1;have HB4:=ah hb4;have HOW:=ah lob.lh;have mz4:mb<w4.heap.size:=aJ mz hb4.size;clear hb4 q4 lob fr4 HQ2 HN2 HB2 H2 WB2 d2;by_cases hw:W2.wt=[]
  ·have t1:decide (0<W2.wt.length)=false:=by rw[hw];rfl
   have HW:=ah hw;have IEQ2:=ah (fun x W W' no' nc' h1 h2 h3 h4=>ae IEQ x W W' no' nc' h1 h2 h3 hw h4);clear hw IWT IEQ HOW;go_wp2_with fail;refine(ae IV _ (ae HB4)).mono ?_;rintro y w5 ⟨x,b,rfl,hor,hb5⟩;have c0':=(hb5.cell (p:=⟨w.heap.size,0,none⟩) gz).trans c0;have gz5:w.heap.size<w5.heap.size:=aJ gz hb5.size;have mz5:mb<w5.heap.size:=aJ mz4 hb5.size;have hb6:=(ae HB4).trans (hb5.mono (ae HB4).size);have HB6:=ah hb6;clear hb5 hb6 IV HB4 c0 c1 c2 c3 c4 c5 c6 e1;cases b with
   | true=>
    have hv:val=some x:=by
     rcases hor with⟨_,q⟩ | ⟨q,_⟩
     ·exact q
     ·cases q
    have HV:=ah hv;clear hor hv;go_wp2_with fail;refine(ae IAD x _ (ae HB6)).mono ?_;rintro y w7 ⟨rfl,no',nc',ad7,fr7⟩;have gne:¬dO mb nO w5.heap.size none w.heap.size:=by
     rintro(q | q | q | ⟨_,q,_⟩)
     ·omega
     ·exact ae HNO q
     ·omega
     ·cases q
    have c7:=(fr7.cell (p:=⟨w.heap.size,0,none⟩) (by simp only[aF];omega) gne).trans ((aC _ _ _ gz5).trans c0');have gz7:w.heap.size<w7.heap.size:=by have:=fr7.size;simp only[aF]at this;omega
    have IE:=ah (ae IEQ2 x w5 w7 no' nc' (ae HB6) ad7 fr7 (ae HV));clear ad7 fr7 c0' gne IEQ2 IAD HB6;go_wp2_with fail;refine(ae IE).mono ?_;intro y w8 h8;obtain⟨z8,rfl⟩:=h8.int;have H8:=ah h8;clear h8 IE;go_wp2_with fail;go_ret;exact ae H8
   | false=>
    have hv:val=none:=by
     rcases hor with⟨q,_⟩ | ⟨_,q⟩
     ·cases q
     ·exact q
    have HV:=ah hv;clear hor hv;go_wp2_with fail;refine(ae IFL _ (ae HB6)).mono ?_;rintro y w7 ⟨rfl,rfl⟩;go_wp2_with fail;go_ret;refine aw (ay ⟨ae HW,ae HV,rfl,ae HBK _ (ae HB6),?_⟩);exact(bZ.aX (ae HB6)).trans ⟨rfl,rfl,rfl,by rw[fj];exact Qw,fun k _ hr=>b6 _ _ _ _ (fun e=>hr e),fun _ q=>ay q⟩
  ·have t1:decide (0<W2.wt.length)=true:=by
    have:0<W2.wt.length:=jy.2 hw;simpa using this
   have HW:=ah hw;have IW:=ah (ae IWT _ (ae HB4) wo wc (dh (ae HOW) (cI _)));clear hw IWT IV IFL IAD IEQ;go_wp2_with fail;refine(ae IW).mono ?_;rintro y w5 ⟨rfl,mc5,fr5⟩;have HM5:=ah mc5;have HF5:=ah fr5;clear mc5 fr5 IW;go_wp2_with fail;go_ret;exact ay ⟨ae HW,wo,wc,rfl,ae HM5,(bZ.aX (ae HB4)).trans (ae HF5),fun k ⟨p,hp,hk⟩=>by have:=((ae HOW).lt k (by rw[hp,hk];rfl)).1;omega⟩
