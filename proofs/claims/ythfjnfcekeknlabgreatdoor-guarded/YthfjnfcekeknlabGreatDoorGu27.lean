import Derived.Test.YthfjnfcekeknlabGreatDoorGu24
set_option maxHeartbeats 8000000
set_option maxRecDepth 100000
namespace Go.Proofs.YthfjnfcekeknlabGreatDoor
open Go.RowKit
theorem zQ.int {mb:Nat} {cs:Array Value} {D:List Ng} {nO:Option Addr} {nC:Nat} {fr:Nat→Nat} {TT:Nat→Zf.U} {G:List Gl} {i a b:Nat} {w:World} {e:Ending} {w':World} (h:zQ mb cs D nO nC fr TT G i a b w e w'):∃z:Int,e= .returned (.int .i64 z):=by
 rcases h with⟨_,_,_,_,_,_,rfl,_⟩ | ⟨_,rfl,_⟩
 ·exact⟨_,rfl⟩
 ·exact⟨_,rfl⟩
theorem tO.int {mb:Nat} {cs:Array Value} {D:List Ng} {nO:Option Addr} {nC:Nat} {fr:Nat→Nat} {TT:Nat→Zf.U} {P:Nat→Prop} {G:List Gl} {po:Option Addr} {pc i:Nat} {g:Gl} {W:Zf.Wn} {r:Option Int} {w:World} {e:Ending} {w':World} (h:tO mb cs D nO nC fr TT P G po pc i g W r w e w'):∃z:Int,e= .returned (.int .i64 z):=by
 rcases h with⟨_,_,_,rfl,_⟩ | ⟨_,_,rfl,_⟩ | ⟨_,_,_,_,_,_,_,_,_,_,_,_,_,_,h⟩
 ·exact⟨_,rfl⟩
 ·exact⟨_,rfl⟩
 ·exact h.int
theorem GA (w:World) (mb:Nat) (cs:Array Value) (D:List Ng) (nO:Option Addr) (nC:Nat) (fr:Nat→Nat) (TT:Nat→Zf.U) (P:Nat→Prop) (G:List Gl) (po:Option Addr) (pc i:Nat) (g:Gl) (rn zn:Nat) (d e:Ng) (h:cR w mb cs D nO nC fr G po pc) (har:aY w D P) (hP:∀g,w.heap.size≤g→P g) (fD:Zf.dI (aX D) fr TT) (hi:i<G.length) (iK:G[i]=g) (hl:g.l<D.length) (hr:g.r=(rn:Int)) (hrl:rn<D.length) (hz0:g.op.toList=[]→g.z= -1) (hz:g.op.toList≠[]→g.z=(zn:Int)∧zn<D.length∧D[fr zn]?=some e) (hd:D[fr rn]?=some d) (sd: -1000000000≤d.val∧d.val≤1000000000) (se: -1000000000≤e.val∧e.val≤1000000000) (hD:D.length+1≤1000000000) (hG:G.length≤1000000) (hc:5<cs.size):
 Calls Tryz.prog 117 #[.pointer (some ⟨mb,0,none⟩),.int .i64 (i:Int),.agg #[.int .i64 (g.l:Int),.string g.sg,.int .i64 g.r,.string g.op,.int .i64 g.z,.bool g.wt,.slice g.no g.nd.length g.nc]] w fun x w'=>tO mb cs D nO nC fr TT P G po pc i g (Zf.fp g.op.toList (TT rn) (TT zn)) (ly g.op.toList d e) w x w':=by
 rw[hr]
 have hG0:gj w w.heap.size mb 1 cs 88 D nO nC fr TT P:=⟨h.st,h.ok,fD,har,Nat.le_refl _⟩
 have hu0:=((Below.refl w.heap.size w).alloc (Nat.le_refl _) (.cells #[.int .i64 (g.l:Int),.string g.sg,.int .i64 (rn:Int),.string g.op,.int .i64 g.z,.bool g.wt,.slice g.no g.nd.length g.nc] 133)).alloc (by simp) (.cells #[.slice none 0 0,.slice none 0 0,.bool false] 102)
 have hl0:=qZ (w.alloc (.cells #[.int .i64 (g.l:Int),.string g.sg,.int .i64 (rn:Int),.string g.op,.int .i64 g.z,.bool g.wt,.slice g.no g.nd.length g.nc] 133))
 rw[World.size_alloc]at hl0
 have r0:=(Below.heap_alloc (w.alloc (.cells #[.int .i64 (g.l:Int),.string g.sg,.int .i64 (rn:Int),.string g.op,.int .i64 g.z,.bool g.wt,.slice g.no g.nd.length g.nc] 133)) (.cells #[.slice none 0 0,.slice none 0 0,.bool false] 102) w.heap.size (by simp)).trans (heap_alloc_new w (.cells #[.int .i64 (g.l:Int),.string g.sg,.int .i64 (rn:Int),.string g.op,.int .i64 g.z,.bool g.wt,.slice g.no g.nd.length g.nc] 133))
 obtain⟨ka,hka⟩:=h.ok.hop rn hrl
 have va:=hG0.lW hrl hd
 have vx:∀n,n<D.length→∀x,TT n= .v x→x=([],fr n):=fun n hn x hx=>by
  obtain⟨dn,q1,q2,q3,q4,q5⟩:=hG0.node hn
  by_cases k1:dn.k=1
  ·rw[q4 k1]at hx;injection hx with hx;exact hx.symm
  ·obtain⟨_,_,_,_,q⟩:=q5 k1
   rw[q]at hx;cases hx
 have vP:∀v∈(Zf.Wn.none.aU (TT rn)).wt,v<D.length:=Jw h.ok hrl (fun v hv=>by simp[Zf.Wn.none]at hv) (vx rn hrl)
 have WA:=hide (fun W (hu:Below (w.heap.size+2) _ W)=>jF W (w.heap.size+1) mb 1 cs 88 D nO nC _ [] [] false rn (fr rn) ka d (TT rn) (hG0.at (hu0.trans (hu.mono (by omega)))) hka hd va.2 (fun q=>Bool.eq_false_iff.2 fun r=>q (va.1.2 r)) (hl0.below (hu.mono (by simp))) (by simp))
 have sS:=hide (show (Zf.Wn.none.aU (TT rn)).wt.length≤100000000 from Nat.le_trans (Zf.Wn.jm _ _) (by simp[Zf.Wn.none]))
 have WB:=hide (show∀(W:World) (R:Nat→Prop),Below w.heap.size w W→cO W (w.heap.size+1) [] (Zf.Wn.none.aU (TT rn)).wt false R→Calls Tryz.prog 81 #[.pointer (some ⟨w.heap.size+1,0,none⟩),.pointer (some ⟨mb,1,none⟩),.int .i64 g.z] W fun e w'=>e= .returned (.tuple #[])∧∃R',cO w' (w.heap.size+1) [] (Zf.fp g.op.toList (TT rn) (TT zn)).wt false R'∧aq R R' W w' from fun W R hu hlo=>by
  by_cases ho:g.op.toList=[]
  ·rw[hz0 ho]
   refine(Gi W (w.heap.size+1) mb 1 cs 88 D nO nC R [] _ false (hG0.at hu) hlo).mono ?_
   rintro x w' ⟨h1,h2,h3⟩
   refine⟨h1,R,?_,h3⟩
   unfold Zf.fp
   rw[if_pos ho]
   exact h2
  ·obtain⟨q1,q2,q3⟩:=hz ho
   rw[q1]
   obtain⟨kb,hkb⟩:=h.ok.hop zn q2
   have vb:=hG0.lW q2 q3
   refine(jF W (w.heap.size+1) mb 1 cs 88 D nO nC R [] _ false zn (fr zn) kb e (TT zn) (hG0.at hu) hkb q3 vb.2 (fun q=>Bool.eq_false_iff.2 fun r=>q (vb.1.2 r)) hlo (ae sS)).mono ?_
   rintro x w' ⟨h1,R',h2,h3⟩
   refine⟨h1,R',?_,h3⟩
   unfold Zf.fp
   rw[if_neg ho]
   have e1:Zf.Wn.mk (Zf.Wn.none.aU (TT rn)).wt false=Zf.Wn.none.aU (TT rn):=by cases TT rn<;>rfl
   rw[e1]at h2
   exact h2)
 have vB:=hide (show∀v∈(Zf.fp g.op.toList (TT rn) (TT zn)).wt,v<D.length from fun v hv=>by
  unfold Zf.fp at hv
  split at hv
  ·exact vP v hv
  ·rename_i ho
   exact Jw h.ok (hz ho).2.1 vP (vx zn (hz ho).2.1) v hv)
 have X9:=hide (show (Zf.fp g.op.toList (TT rn) (TT zn)).wt.length≤2 by
  have q1:=Zf.Wn.jm Zf.Wn.none (TT rn)
  have q2:=Zf.Wn.jm (Zf.Wn.none.aU (TT rn)) (TT zn)
  have q3:Zf.Wn.none.wt.length=0:=rfl
  unfold Zf.fp
  split<;>omega)
 generalize Zf.fp g.op.toList (TT rn) (TT zn)=W2 at*
 have IV:=hide (fun W (hu:Below w.heap.size w W)=>Jr W mb cs 88 D nO nC fr g.l g.sg rn g.op g.z g.wt g.no g.nd.length g.nc d e (h.st.below hu) h.ok hrl hd (fun q=>⟨zn,hz q⟩) sd se)
 have IWT:=hide (fun W (hu:Below w.heap.size w W) (no:Option Addr) (nc:Nat) (hn:W.ownsRow 0 3 1 (.slice no W2.wt.length nc) W2.wt.length (W2.wt.map aJ))=>Cv W mb cs D nO nC fr G po pc i g W2.wt no nc (h.below hu) hi iK hn (ae vB) (by have:=ae X9;omega))
 have IFL:=hide (fun W (hu:Below w.heap.size w W)=>vZ W mb cs 5 (h.st.below hu).blk hc)
 have IAD:=hide (fun(x:Int) W (hu:Below w.heap.size w W)=>Ph P (W.alloc (.cells #[.slice none 0 0] 90)) mb 1 cs 88 W.heap.size D [] nO nC none 0 x ⟨h.st.below (hu.alloc hu.size _),⟨heap_alloc_new W _,World.ownsRow_nil _ _ _ _⟩,by decide,by decide,(har.below (hu.alloc hu.size _)).keep fun g _ hp hg=>⟨hg,hp,fun⟨_,q,_⟩=>by cases q⟩⟩ (fun g hg=>hP g (by rw[World.size_alloc]at hg;have:=hu.size;omega)) (by decide) hD)
 have IEQ:=hide (show∀(x:Int) (W W':World) (no':Option Addr) (nc':Nat),Below w.heap.size w W→fI P W' mb 1 (cs.setIfInBounds 1 (.slice no' (D.length+1) nc')) 88 W.heap.size (D++[gK x D.length]) [] no' nc' none 0→aq (bO mb nO W.heap.size none) (bO mb no' W.heap.size none) (W.alloc (.cells #[.slice none 0 0] 90)) W'→W2.wt=[]→ly g.op.toList d e=some x→Calls Tryz.prog 116 #[.pointer (some ⟨mb,0,none⟩),.int .i64 (i:Int),.int .i64 (g.l:Int),.int .i64 (D.length:Int)] W' fun y w'=>tO mb cs D nO nC fr TT P G po pc i g W2 (ly g.op.toList d e) w y w' from fun x W W' no' nc' hu had hf hw hv=>by
  have ok:=h.ok.NI (Cz x D.length)
  obtain⟨T2,hS,he⟩:=Jv h.ok fD (Cz x D.length)
  have hu':=hu.alloc hu.size (.cells #[.slice none 0 0] 90)
  rw[←uE (x:=x)]at had
  have hm:=(h.below hu').added (P:=P) ⟨heap_alloc_new W _,World.ownsRow_nil _ _ _ _⟩ (V:=[]) (vo:=none) (vc:=0) (fun _ _ _ _ ⟨_,q,_⟩=>by cases q) had ok (by simp) hf
  have yS:aY W' (D++[gK x D.length]) P:=had.args.keep fun g _ hp hg=>⟨hg,hp.1⟩
  refine(xK W' mb _ (D++[gK x D.length]) no' nc' fr T2 P G po pc i g.l D.length hm yS hS (by rw[uE];omega) (by rw[uE];omega) (by rw[uE];exact hD) hG (by simpa using hc)).mono ?_
  intro y w' hq
  refine Or.inr (Or.inr ⟨hw,x,no',nc',T2,W',hv,ok,hS,he,Gq ok hS,hm,yS,?_,hq⟩)
  refine(aq.new (X:=cI mb nO) (R':=bO mb no' W.heap.size none) (aq.of_below hu') hf ?_).less (fun k q=> ?_)
  ·rintro k (q | q | q | ⟨_,q,_⟩)
   ·exact Or.inl (Or.inl q)
   ·exact Or.inl (Or.inr q)
   ·right;rw[q];exact hu.size
   ·cases q
  ·rcases q with q | q
   ·exact Or.inl q
   ·exact Or.inr (Or.inl q))
 have mz:=af h.st.blk
 have gf:=hide (show¬rowOf nO w.heap.size from fun⟨p,hp,hk⟩=>by have:=(h.st.own.lt w.heap.size (by rw[hp,hk];rfl)).2;omega)
 have vE:=hide (fun W (hu:Below w.heap.size w W)=>aw (h.st.below hu).blk 5 (.int .i64 5))
 have jw:=hide r0
 have qG:=hide hl0
 have rS:=hide hu0
 clear hG0 r0 hl0 hu0 hd va hka h har hP fD iK hz0 hz sd se vx vP vB
 obtain⟨l,sg,r,op,z,wt,no,nc,nd⟩:=g
 dsimp only at*
 generalize ly op.toList d e=val at*
 go_enter Tryz.func117,Tryz.ntmps117
 go_wp2_with fail
 go_region_with (go_at_call 81;refine(ae WA _ (by first | exact Below.refl _ _ | exact(Below.refl _ _).drew | exact(Below.refl _ _).drew.drew | exact(Below.refl _ _).drew.drew.drew)).mono ?_;rintro y w2 ⟨rfl,R2,h2,fr2⟩)
 all_goals
  have hb2:=(ae qG).under ((aq.of_below (by first | exact Below.refl _ _ | exact(Below.refl _ _).drew | exact(Below.refl _ _).drew.drew)).trans fr2) (ae rS) (by omega)
  have q2:=(((aq.of_below (by first | exact Below.refl _ _ | exact(Below.refl _ _).drew | exact(Below.refl _ _).drew.drew)).trans fr2).block w.heap.size (by simp only[World.size_alloc];omega) (lO (by omega))).trans (ae jw)
  have n2:=fr2.not (k:=w.heap.size) (by simp only[World.size_drew,World.size_alloc];omega) (lO (by omega))
  change cO w2 _ _ (Zf.Wn.none.aU (TT rn)).wt _ _ at h2
  have d2:=ah q2 4
  have sz2:=af q2
  simp only[List.getElem?_toArray,List.getElem?_cons_zero,List.getElem?_cons_succ]at d2
  have pU:=hide q2
  have nG:=hide n2
  have aP:=hide hb2
  have H2:=hide h2
  clear q2 n2 hb2 h2 fr2 jw qG rS WA
  have WB2:=hide (fun W (hb:Below w2.heap.size w2 W)=>ae WB W R2 ((ae aP).trans (hb.mono (ae aP).size)) ((ae H2).below hb))
  clear WB
  go_wp2_with fail
  go_region_with (go_at_call 81;refine(ae WB2 _ (by first | exact Below.refl _ _ | exact(Below.refl _ _).drew | exact(Below.refl _ _).drew.drew | exact(Below.refl _ _).drew.drew.drew)).mono ?_;rintro y w4 ⟨rfl,R4,h4,fr4⟩)
  have hb4:=(ae H2).under ((aq.of_below (by first | exact Below.refl _ _ | exact(Below.refl _ _).drew | exact(Below.refl _ _).drew.drew)).trans fr4) (ae aP) (by omega)
  have q4:=(((aq.of_below (by first | exact Below.refl _ _ | exact(Below.refl _ _).drew | exact(Below.refl _ _).drew.drew)).trans fr4).block w.heap.size sz2 (ae nG)).trans (ae pU)
  obtain⟨xo,xc,wo,wc,lob,rfl⟩:=h4
  have c0:=ah q4 0
  have c1:=ah q4 1
  have c2:=ah q4 2
  have c3:=ah q4 3
  have c4:=ah q4 4
  have c5:=ah q4 5
  have c6:=ah q4 6
  have e1:=ah lob.blk 1
  have lz:=af lob.blk
  have gz:=af q4
  simp only[List.getElem?_toArray,List.getElem?_cons_zero,List.getElem?_cons_succ]at c0 c1 c2 c3 c4 c5 c6 e1
  have cu:=hide hb4
  have HOW:=hide lob.wown
  have mz4:mb<w4.heap.size:=Nat.lt_of_lt_of_le mz hb4.size
  clear hb4 q4 lob fr4 pU nG aP H2 WB2 d2
  by_cases hw:W2.wt=[]
  ·have t1:decide (0<W2.wt.length)=false:=by rw[hw];rfl
   have HW:=hide hw
   have IEQ2:=hide (fun x W W' no' nc' h1 h2 h3 h4=>ae IEQ x W W' no' nc' h1 h2 h3 hw h4)
   clear hw IWT IEQ HOW
   go_wp2_with fail
   refine(ae IV _ (ae cu)).mono ?_
   rintro y w5 ⟨x,b,rfl,NQ,bf⟩
   have c0':=(bf.cell (p:=⟨w.heap.size,0,none⟩) gz).trans c0
   have gz5:w.heap.size<w5.heap.size:=Nat.lt_of_lt_of_le gz bf.size
   have mz5:mb<w5.heap.size:=Nat.lt_of_lt_of_le mz4 bf.size
   have iq:=(ae cu).trans (bf.mono (ae cu).size)
   have gZ:=hide iq
   clear bf iq IV cu c0 c1 c2 c3 c4 c5 c6 e1
   cases b with
   | true=>
    have hv:val=some x:=by
     rcases NQ with⟨_,q⟩ | ⟨q,_⟩
     ·exact q
     ·cases q
    have HV:=hide hv
    clear NQ hv
    go_wp2_with fail
    refine(ae IAD x _ (ae gZ)).mono ?_
    rintro y w7 ⟨rfl,no',nc',ad7,fr7⟩
    have gne:¬bO mb nO w5.heap.size none w.heap.size:=by
     rintro(q | q | q | ⟨_,q,_⟩)
     ·omega
     ·exact ae gf q
     ·omega
     ·cases q
    have c7:=(fr7.cell (p:=⟨w.heap.size,0,none⟩) (by simp only[World.size_alloc];omega) gne).trans ((World.cell?_alloc_past _ _ _ gz5).trans c0')
    have gz7:w.heap.size<w7.heap.size:=by have:=fr7.size;simp only[World.size_alloc]at this;omega
    have IE:=hide (ae IEQ2 x w5 w7 no' nc' (ae gZ) ad7 fr7 (ae HV))
    clear ad7 fr7 c0' gne IEQ2 IAD gZ
    go_wp2_with fail
    refine(ae IE).mono ?_
    intro y w8 h8
    obtain⟨z8,rfl⟩:=h8.int
    have H8:=hide h8
    clear h8 IE
    go_wp2_with fail
    go_ret
    exact ae H8
   | false=>
    have hv:val=none:=by
     rcases NQ with⟨q,_⟩ | ⟨_,q⟩
     ·cases q
     ·exact q
    have HV:=hide hv
    clear NQ hv
    go_wp2_with fail
    refine(ae IFL _ (ae gZ)).mono ?_
    rintro y w7 ⟨rfl,rfl⟩
    go_wp2_with fail
    go_ret
    refine Or.inr (Or.inl ⟨ae HW,ae HV,rfl,ae vE _ (ae gZ),?_⟩)
    exact(aq.of_below (ae gZ)).trans ⟨rfl,rfl,rfl,by rw[bS];exact Nat.le_refl _,fun k _ hr=>aC _ _ _ _ (fun e=>hr e),fun _ q=>Or.inl q⟩
  ·have t1:decide (0<W2.wt.length)=true:=by
    have:0<W2.wt.length:=List.length_pos_iff.2 hw
    simpa using this
   have HW:=hide hw
   have IW:=hide (ae IWT _ (ae cu) wo wc (bV (ae HOW) (Nat.zero_le _)))
   clear hw IWT IV IFL IAD IEQ
   go_wp2_with fail
   refine(ae IW).mono ?_
   rintro y w5 ⟨rfl,mc5,fr5⟩
   have Ya:=hide mc5
   have Nb:=hide fr5
   clear mc5 fr5 IW
   go_wp2_with fail
   go_ret
   exact Or.inl ⟨ae HW,wo,wc,rfl,ae Ya,(aq.of_below (ae cu)).trans (ae Nb),fun k ⟨p,hp,hk⟩=>by have:=((ae HOW).lt k (by rw[hp,hk];rfl)).1;omega⟩
end Go.Proofs.YthfjnfcekeknlabGreatDoor
