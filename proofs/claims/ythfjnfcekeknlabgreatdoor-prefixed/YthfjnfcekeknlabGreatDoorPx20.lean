import Derived.Test.YthfjnfcekeknlabGreatDoorPx03
import Derived.Test.YthfjnfcekeknlabGreatDoorPx11
import Derived.Test.YthfjnfcekeknlabGreatDoorPx12
import Derived.Test.YthfjnfcekeknlabGreatDoorPx19
set_option maxHeartbeats 8000000
set_option maxRecDepth 100000
set_option linter.unusedSimpArgs false
namespace Go.Proofs.YthfjnfcekeknlabGreatDoor
open Go.RowKit af
structure lU (P:Nat->Prop) (w:World) (sb so:Nat) (cs:Array Value) (T:TypeId) (cb:Nat) (D:List Ng) (V:List Nat) (no:Option Addr) (nc:Nat) (vo:Option Addr) (vc:Nat) (fr:Nat->Nat) (TT:Nat->af.U):Prop where
 ad:mA P w sb so cs T cb D V no nc vo vc
 ok:g8 D fr
 to:kx (e8 D) fr TT
 lt:∀n∈V,n<D.length
def ej (TT:Nat->af.U) (V:List Nat) (N:List (List UInt8)) (y:List UInt8):af.U:=TT ((V[N.idxOf y]?).getD 0)
section
variable {P:Nat->Prop} {w:World} {sb so:Nat} {cs:Array Value} {T:TypeId} {cb:Nat} {D:List Ng} {V:List Nat} {no:Option Addr} {nc:Nat} {vo:Option Addr} {vc:Nat} {fr:Nat->Nat} {TT:Nat->af.U}
theorem lU.gr (h:lU P w sb so cs T cb D V no nc vo vc fr TT):mH w w.heap.size sb so cs T D no nc fr TT (fun g=>P g/\¬rowOf vo g):=⟨h.ad.st,h.ok,h.to,h.ad.args,Qw⟩
theorem lU.below (h:lU P w sb so cs T cb D V no nc vo vc fr TT) {w':World} (hb:Below w.heap.size w w'):lU P w' sb so cs T cb D V no nc vo vc fr TT:=⟨h.ad.below hb,h.ok,h.to,h.lt⟩
theorem lU.iH (h:lU P w sb so cs T cb D V no nc vo vc fr TT) {w':World} (hk:∀(g:Nat) (ys:Array Value) (S:TypeId),w.heap[g]?=some (.cells ys S (0,0))->(S=T\/S=147\/S=90\/S=3)->w'.heap[g]?=w.heap[g]?):lU P w' sb so cs T cb D V no nc vo vc fr TT:=by
 refine⟨⟨⟨(hk sb _ _ h.ad.st.blk (ay rfl)).trans h.ad.st.blk,h.ad.st.qF,aO h.ad.st.own fun g q=> ?_,h.ad.st.ty⟩,⟨(hk cb _ _ h.ad.sc.blk (aw (aw (ay rfl)))).trans h.ad.sc.blk,aO h.ad.sc.own fun g q=> ?_⟩,h.ad.t1,h.ad.t2,h.ad.args.keep fun g _ hp hg=>⟨(hk g _ _ hg (aw (aw (aw rfl)))).trans hg,hp⟩⟩,h.ok,h.to,h.lt⟩
 ·obtain⟨cur,hc⟩:=bL h.ad.st.own (bP q);exact hk g _ _ hc (aw (ay rfl))
 ·obtain⟨cur,hc⟩:=bL h.ad.sc.own (bP q);exact hk g _ _ hc (aw (aw (aw rfl)))
end
def PL (P:Nat->Prop) (sb so:Nat) (cs:Array Value) (T:TypeId) (cb:Nat) (D:List Ng) (V:List Nat) (no:Option Addr) (vo:Option Addr) (fr:Nat->Nat) (TT:Nat->af.U) (N ns:List (List UInt8)) (t:Tm) (w:World) (e:Ending) (w':World):Prop:=
 ∃(n:Nat) (E:List Ng) (F:List Nat) (no':Option Addr) (nc':Nat) (vo':Option Addr) (vc':Nat) (T':Nat->af.U),e= .returned (cN n)/\lU P w' sb so (cs.setIfInBounds so (.slice no' (D++E).length nc')) T cb (D++E) (V++F) no' nc' vo' vc' fr T'/\(∀m,m<D.length->T' m=TT m)/\gP D.length E/\iZ D.length E F/\(V++F).length=(aP 8 ns t).length/\n<(D++E).length/\T' n=fb (ej T' (V++F) N) 8 t/\E.length+1<=6561/\bZ (dO sb no cb vo) (dO sb no' cb vo') w w'
theorem BR {P:Nat->Prop} {w:World} {sb so:Nat} {cs:Array Value} {T:TypeId} {cb:Nat} {D:List Ng} {V:List Nat} {no:Option Addr} {nc:Nat} {vo:Option Addr} {vc:Nat} {fr:Nat->Nat} {TT:Nat->af.U} (h:lU P w sb so cs T cb D V no nc vo vc fr TT) (hP:∀g,w.heap.size<=g->P g) (hT:T≠74) {N ns:List (List UInt8)} {Q:Nat->Prop} {a:AV} {t:Tm} (hr:RA 8 N Q w a t) (hw:iE 8 t) (hl:V.length=ns.length) (hN:∃M,N=aP 8 ns t++M) (hD:D.length+6561<=1000000000) (hV:V.length+6561<=1000000000):
 Calls Tryz.prog 45 #[.pointer (some ⟨sb,so,none⟩),.agg #[.int .i64 a.k,.int .i64 a.val,.string a.tx,.slice a.ao a.n a.cap],.pointer (some ⟨cb,0,none⟩)] w fun e w'=>PL P sb so cs T cb D V no vo fr TT N ns t w e w':=by
 refine(JC 8 P w sb so cs T cb D V no nc vo vc N ns Q a t h.ad hP hT h.lt hr hw hl hN (by simpa using hD) (by simpa using hV)).mono ?_;rintro e w' ⟨n,E,F,no',nc',vo',vc',rfl,ad,nd,nv,ln,rn,nl,el,fg⟩;obtain⟨T',hS,he⟩:=Gw h.ok h.to nd;have hok:=h.ok.more nd;refine⟨n,E,F,no',nc',vo',vc',T',rfl,⟨ad,hok,hS,?_⟩,he,nd,nv,ln,nl,rn.is hok hS hw,by simpa using el,fg⟩;intro m hm;rw[au];rcases bA.1 hm with q | q
 ·have:=h.lt m q;omega
 ·obtain⟨h1,d,h2,_⟩:=nv.var m q;have:=(bl.1 h2).1;omega
end Go.Proofs.YthfjnfcekeknlabGreatDoor
namespace Go.Proofs.YthfjnfcekeknlabGreatDoor
open Go.RowKit af
variable {b k so n cb vc rb sb nc:Nat} {no' vo no:Option Addr} {TT:Nat->af.U} {R' P R:Nat->Prop} {T:TypeId} {W w:World} {zs:List Value} {fr:Nat->Nat} {v:Value} {D:List Ng} {V:List Nat} {ys cs:Array Value} {N ns:List (List UInt8)} {x:dq}
def Ma (P:Nat->Prop) (sb so:Nat) (cs:Array Value) (T:TypeId) (cb:Nat) (D:List Ng) (V:List Nat) (no:Option Addr) (vo:Option Addr) (fr:Nat->Nat) (TT:Nat->af.U) (N ns:List (List UInt8)) (x:dq) (w:World) (e:Ending) (w':World):Prop:=
 ∃(l:Wn) (E:List Ng) (F:List Nat) (no':Option Addr) (nc':Nat) (vo':Option Addr) (vc':Nat) (T':Nat->af.U) (xo:Option Addr) (xn xc:Nat) (yo:Option Addr) (yc:Nat),e= .returned (.agg #[.slice xo xn xc,.slice yo l.wt.length yc,.bool l.no])/\w'.ownsRow w.heap.size 3 1 (.slice yo l.wt.length yc) l.wt.length (l.wt.map cN)/\l=dR (ej T' (V++F) N) x/\lU P w' sb so (cs.setIfInBounds so (.slice no' (D++E).length nc')) T cb (D++E) (V++F) no' nc' vo' vc' fr T'/\(∀m,m<D.length->T' m=TT m)/\gP D.length E/\iZ D.length E F/\(V++F).length=(bU ns x).length/\E.length<=13122/\bZ (dO sb no cb vo) (dO sb no' cb vo') w w'/\(∀g,rowOf yo g->¬rowOf vo' g)
theorem hH (W:World) (v0 v1 v2:Value) (h:k≠b):(((W.setCell ⟨b,0,none⟩ v0).setCell ⟨b,1,none⟩ v1).setCell ⟨b,2,none⟩ v2).heap[k]?=W.heap[k]?:=by rw[b6 _ _ _ _ h,b6 _ _ _ _ h,b6 _ _ _ _ h]
theorem Ds (h:lU P W sb so cs T cb D V no' nc vo vc fr TT) (hT:T≠102) (hr:W.heap[rb]?=some (.cells ys 102 (0,0))) (hb:w.heap.size<=rb) (hf:bZ R R' w W) (v0 v1 v2:Value) (ho:W.ownsRow b 3 1 v n zs):
 lU P (((W.setCell ⟨rb,0,none⟩ v0).setCell ⟨rb,1,none⟩ v1).setCell ⟨rb,2,none⟩ v2) sb so cs T cb D V no' nc vo vc fr TT/\bZ R R' w (((W.setCell ⟨rb,0,none⟩ v0).setCell ⟨rb,1,none⟩ v1).setCell ⟨rb,2,none⟩ v2)/\(((W.setCell ⟨rb,0,none⟩ v0).setCell ⟨rb,1,none⟩ v1).setCell ⟨rb,2,none⟩ v2).ownsRow b 3 1 v n zs:=by
 refine⟨h.iH fun g xs S hg hS=>hH W v0 v1 v2 fun e=> ?_,⟨hf.os,hf.tape,hf.output,by simp only[fj];exact hf.size,fun k hk hn=>(hH W v0 v1 v2 (by omega)).trans (hf.block k hk hn),hf.row⟩,aO ho fun g q=>hH W v0 v1 v2 fun e=> ?_⟩
 ·subst e;rw[hr]at hg;simp only[aM,aR]at hg;obtain⟨_,rfl,_⟩:=hg;rcases hS with e | e | e | e
  ·exact hT e.symm
  all_goals exact absurd e (by decide)
 ·subst e;obtain⟨o,cap,rfl⟩:=gI ho;obtain⟨cur,hc⟩:=bL ho (bP q);rw[hr]at hc;simp only[aM,aR]at hc;exact absurd hc.2.1 (by decide)
theorem BJ (h:lU P w sb so cs T cb D V no nc vo vc fr TT) (hP:∀g,w.heap.size<=g->P g) (hT:T≠74) (hTi:T≠125) (hTl:T≠102) {v:JV} (hi:uk N w v x) (hx:jc x) (hl:V.length=ns.length) (hN:∃M,N=bU ns x++M) (hD:D.length+13122<=1000000000) (hV:V.length+13122<=1000000000) (hn:x.right=none):
 Calls Tryz.prog 192 #[.pointer (some ⟨sb,so,none⟩),.agg #[.int .i64 v.a.k,.int .i64 v.a.val,.string v.a.tx,.slice v.a.ao v.a.n v.a.cap,.string v.sg,.int .i64 v.b.k,.int .i64 v.b.val,.string v.b.tx,.slice v.b.ao v.b.n v.b.cap,.string v.op,.int .i64 v.c.k,.int .i64 v.c.val,.string v.c.tx,.slice v.c.ao v.c.n v.c.cap],.pointer (some ⟨cb,0,none⟩)] w fun e w'=>Ma P sb so cs T cb D V no vo fr TT N ns x w e w':=by
 obtain⟨⟨ak,av,ax,ao,an,ac⟩,⟨bk,bv,bx,bo,bn,bc⟩,⟨ck,cv,cx,co,cn,cc⟩,sg,op⟩:=v;dsimp only;have hnI:bU ns x=aP 8 ns x.left:=by unfold bU;rw[hn,hx.la];rfl
 rw[hnI]at hN;obtain⟨s1,s2,s3⟩:=hx.no hn;have hsg:(sg.toList == [])=true:=by have:=hi.sign;dsimp only at this;rw[this,s1];rfl
 have hB1:=((al w.heap.size w).alloc Qw (.cells #[.int .i64 ak,.int .i64 av,.string ax,.slice ao an ac,.string sg,.int .i64 bk,.int .i64 bv,.string bx,.slice bo bn bc,.string op,.int .i64 ck,.int .i64 cv,.string cx,.slice co cn cc] 125)).alloc (by simp) (.cells #[.slice none 0 0,.slice none 0 0,.bool false] 102);have hx1:=aQ (aB w (.cells #[.int .i64 ak,.int .i64 av,.string ax,.slice ao an ac,.string sg,.int .i64 bk,.int .i64 bv,.string bx,.slice bo bn bc,.string op,.int .i64 ck,.int .i64 cv,.string cx,.slice co cn cc] 125)) (.cells #[.slice none 0 0,.slice none 0 0,.bool false] 102);have hr1:=aB (w.alloc (.cells #[.int .i64 ak,.int .i64 av,.string ax,.slice ao an ac,.string sg,.int .i64 bk,.int .i64 bv,.string bx,.slice bo bn bc,.string op,.int .i64 ck,.int .i64 cv,.string cx,.slice co cn cc] 125)) (.cells #[.slice none 0 0,.slice none 0 0,.bool false] 102);rw[aF]at hr1;have h1:=h.below hB1;have ra1:=(b9.below hB1).ra hi.left;have IA:=ah (BR h1 (fun g hg=>hP g (aW hB1.size hg)) hT ra1 hx.wl hl hN (by omega) (by omega));have H1:=ah h1;have HX1:=ah hx1;have HR1:=ah hr1;have HB1:=ah hB1;have HNI:=ah hnI;have HXX:=ah hx;have HN:=ah hn;have HS:=ah (cP s2 s3);clear h hi h1 ra1 hx1 hr1 hB1 hnI hx hn hN hl s1 s2 s3;go_enter Tryz.func192,Tryz.ntmps192;go_wp2_with fail;refine(ae IA).mono ?_;rintro e w2 ⟨n,E,F,no2,nc2,vo2,vc2,T2,rfl,m2,e2,nd2,nv2,ln2,nl2,tn2,el2,fg2⟩;have hx2:=(ae H1).ad.blk fg2 (ae HX1) (de hTi) (by decide) (by decide) (by decide);have hr2:=(ae H1).ad.blk fg2 (ae HR1) (de hTl) (by decide) (by decide) (by decide);obtain⟨d,hd,od,md,_,nd⟩:=m2.gr.node nl2;obtain⟨a,ha,hTa⟩:∃a,d.args=[a]/\dR (ej T2 (V++F) N) x=jD (T2 a):=by
  obtain⟨s2,s3⟩:=ae HS;have hu:fb (ej T2 (V++F) N) 8 x.left= .n 1 x.left.text.toList 0 (x.left.args.map (fb (ej T2 (V++F) N) 7)):=by rw[fb,aG (by omega),aG (by omega)]
  have k1:d.k≠1:=fun q=>by have:=(m2.gr.uz nl2 hd).2 q;rw[tn2,hu]at this;cases this
  obtain⟨k,tx,num,_,e⟩:=nd k1;rw[tn2,hu]at e;injection e with _ _ _ e;obtain⟨t,ht⟩:=List.length_eq_one_iff.1 s3;rw[ht,aY,bV]at e;obtain⟨a,ha⟩:=List.length_eq_one_iff.1 (show d.args.length=1 by have:=cL List.length e;simpa using this.symm)
  rw[ha,aY,bV]at e;injection e with e _;refine⟨a,ha,?_⟩;unfold dR;rw[ae HN,hu,ht,<-e];rfl
 have IB:=ah (C7 w2 sb so _ T (D++E) no2 nc2 fr T2 _ n a d m2.gr nl2 hd ha);have z1:=aD hx2;have z2:=aD hr2;have c0:=aN hx2;have fg:=(bZ.aX (R:=dO sb no cb vo) (ae HB1)).trans fg2;have HM2:=ah m2;have HE2:=ah (cP e2 (cP nd2 (cP nv2 (cP ln2 el2))));have HFG:=ah fg;have HR2:=ah hr2;have HTA:=ah hTa;clear m2 e2 nd2 nv2 ln2 nl2 tn2 el2 fg2 hx2 hr2 hd od md nd ha hTa fg IA H1 HX1 HR1;unfold cN;go_wp2_with fail;refine(ae IB).mono ?_;rintro e w3 ⟨xo,xn,xc,yo,yc,rfl,own3,hb3⟩;have hr3:=(hb3.block _ z2).trans (ae HR2);have z3:=aD hr3;have d0:=aN hr3;have x0:=bI hr3;have HR3:=ah hr3;have HO3:=ah own3;have HB3:=ah hb3;clear hr3 own3 hb3 IB;go_wp2_with fail;refine aI (v:= .agg #[.slice xo xn xc,.slice yo (jD (T2 a)).wt.length yc,.bool (jD (T2 a)).no]) (by simp[results,Tryz.results192,go_sem,d0]) rfl ?_;obtain⟨f1,f2,f3,f4,f5⟩:=ae HE2;obtain⟨g1,g2,g3⟩:=Ds ((ae HM2).below (ae HB3)) hTl (ae HR3) (bS _) ((ae HFG).trans (bZ.aX (ae HB3))) (.slice xo xn xc) (.slice yo (jD (T2 a)).wt.length yc) (.bool (jD (T2 a)).no) (ae HO3);have hz2:w.heap.size<=w2.heap.size:=(ae HFG).size;refine⟨jD (T2 a),E,F,no2,nc2,vo2,vc2,T2,xo,xn,xc,yo,yc,rfl,dh g3 hz2,(ae HTA).symm,g1,f1,f2,f3,by rw[f4,ae HNI],by omega,g2,fun g q r=> ?_⟩;obtain⟨p,hp,hq⟩:=q;have k1:=((ae HO3).lt g (by rw[hp,hq];rfl)).1;obtain⟨p',hp',hq'⟩:=r;have k2:=((ae HM2).ad.sc.own.lt g (by rw[hp',hq'];rfl)).2;omega
end Go.Proofs.YthfjnfcekeknlabGreatDoor
namespace af
theorem p8 {η:List UInt8->U} {B:Nat} (hB:1<=B) (f:Nat) (t:Tm) (ns:List (List UInt8)) (hw:iE f t) (hη:∀y∈aP f ns t,size (η y)<=B):2*size (fb η f t)+1<=B*3 ^ f:=by
 rw[gR (θ:=fun y=>if y∈aP f ns t then η y else .v ([],0)) f t ns hw (fun y hy=>(aH hy).symm)];refine Ac hB (fun y=> ?_) f t hw;split
 ·rename_i h;exact hη y h
 ·simpa [size] using hB
end af
namespace Go.Proofs.YthfjnfcekeknlabGreatDoor
open Go.RowKit af
variable {V F:List Nat} {N ns M:List (List UInt8)} {b so cb B vc sb nc:Nat} {y l:List UInt8} {T' T TT:Nat->af.U} {no vo:Option Addr} {fr:Nat->Nat} {D E:List Ng} {w:World} {cs:Array Value} {P:Nat->Prop} {sg:ByteArray} {v:JV} {x:dq} {S:List Int}
theorem pE (hy:y∈ns) (hN:N=ns++M) (hl:V.length=ns.length) (hlt:∀n∈V,n<b) (he:∀m,m<b->T' m=T m):ej T' (V++F) N y=ej T V N y:=by
 unfold ej;have h1:N.idxOf y<V.length:=by rw[hN,dA,aH hy,hl];exact bW hy
 rw[cg h1,aj h1];exact he _ (hlt _ (aL h1))
theorem tH (hy:y∈ns) (hN:N=ns++M) (hl:V.length=ns.length):∃n∈V,ej T V N y=T n:=by
 have h1:N.idxOf y<V.length:=by rw[hN,dA,aH hy,hl];exact bW hy
 refine⟨V[N.idxOf y],aL h1,?_⟩;unfold ej;rw[aj h1];rfl
theorem mW {T:TypeId} (h:lU P w sb so cs T cb (D++E) (V++F) no nc vo vc fr T') (nd:gP D.length E) (nv:iZ D.length E F) (he:∀m,m<D.length->T' m=TT m) (hV:∀n∈V,n<D.length) (hB:1<=B) (hs:∀n∈V,af.size (TT n)<=B):∀n∈V++F,af.size (T' n)<=B:=fun n hn=>by
 rcases bA.1 hn with q | q
 ·rw[he n (hV n q)];exact hs n q
 ·obtain⟨h1,d,h2,h3⟩:=nv.var n q;have hl:=h.lt n hn;have hnx:=(nd.at h1 hl).1;have hf:fr n=n:=(h.ok.self hl).2 hnx;have hd:(D++E)[fr n]?=some d:=by rw[hf,cZ h1];exact h2
  rw[(h.gr.uz hl hd).2 h3];simpa [af.size] using hB
theorem qQ (h:sg.toList=l) (m:List UInt8) (b:Bool) (hb:(l == m)=b):(sg.toList == m)=b:=by rw[h];exact hb
theorem He (eq:Bool) (h:sg.toList=if eq=true then [61,60]else [60]):sg=MW eq:=by apply toList_inj;rw[h];unfold MW;cases eq<;>simp
theorem BI {T:TypeId} (h:lU P w sb so cs T cb D V no nc vo vc fr TT) (hP:∀g,w.heap.size<=g->P g) (hT:T≠74) (hTi:T≠125) (hTl:T≠102) (hi:uk N w v x) (hx:jc x) (hl:V.length=ns.length) (hN:∃M,N=bU ns x++M) (hD:D.length+13122<=1000000000) (hV:V.length+13122<=1000000000) (hs:∀n∈V,af.size (TT n)<=300) (r:Tm) (hr:x.right=some r):
 Calls Tryz.prog 192 #[.pointer (some ⟨sb,so,none⟩),.agg #[.int .i64 v.a.k,.int .i64 v.a.val,.string v.a.tx,.slice v.a.ao v.a.n v.a.cap,.string v.sg,.int .i64 v.b.k,.int .i64 v.b.val,.string v.b.tx,.slice v.b.ao v.b.n v.b.cap,.string v.op,.int .i64 v.c.k,.int .i64 v.c.val,.string v.c.tx,.slice v.c.ao v.c.n v.c.cap],.pointer (some ⟨cb,0,none⟩)] w fun e w'=>Ma P sb so cs T cb D V no vo fr TT N ns x w e w':=by
 obtain⟨⟨ak,av,ax,ao,an,ac⟩,⟨bk,bv,bx,bo,bn,bc⟩,⟨ck,cv,cx,co,cn,cc⟩,sg,op⟩:=v;dsimp only;have hnI:bU ns x=aP 8 (aP 8 ns x.left) r:=by unfold bU;rw[hr,hx.la];rfl
 rw[hnI]at hN;obtain⟨K,hK⟩:=dG 8 r (aP 8 ns x.left);obtain⟨M,hM⟩:=hN;have hN1:∃M,N=aP 8 ns x.left++M:=⟨K++M,by rw[hM,hK,aK]⟩;have hN2:∃M,N=aP 8 (aP 8 ns x.left) r++M:=⟨M,hM⟩;have hsgn:=hi.sign;dsimp only at hsgn;have hB1:=((al w.heap.size w).alloc Qw (.cells #[.int .i64 ak,.int .i64 av,.string ax,.slice ao an ac,.string sg,.int .i64 bk,.int .i64 bv,.string bx,.slice bo bn bc,.string op,.int .i64 ck,.int .i64 cv,.string cx,.slice co cn cc] 125)).alloc (by simp) (.cells #[.slice none 0 0,.slice none 0 0,.bool false] 102);have hx1:=aQ (aB w (.cells #[.int .i64 ak,.int .i64 av,.string ax,.slice ao an ac,.string sg,.int .i64 bk,.int .i64 bv,.string bx,.slice bo bn bc,.string op,.int .i64 ck,.int .i64 cv,.string cx,.slice co cn cc] 125)) (.cells #[.slice none 0 0,.slice none 0 0,.bool false] 102);have hr1:=aB (w.alloc (.cells #[.int .i64 ak,.int .i64 av,.string ax,.slice ao an ac,.string sg,.int .i64 bk,.int .i64 bv,.string bx,.slice bo bn bc,.string op,.int .i64 ck,.int .i64 cv,.string cx,.slice co cn cc] 125)) (.cells #[.slice none 0 0,.slice none 0 0,.bool false] 102);rw[aF]at hr1;have h1:=h.below hB1;have ra1:=(b9.below hB1).ra hi.left;have HRA:=ah ((b9.below hB1).ra (hi.right r hr));have IA:=ah (BR h1 (fun g hg=>hP g (aW hB1.size hg)) hT ra1 hx.wl hl hN1 (by omega) (by omega));have HP:=ah (show∀g,(((w.alloc (.cells #[.int .i64 ak,.int .i64 av,.string ax,.slice ao an ac,.string sg,.int .i64 bk,.int .i64 bv,.string bx,.slice bo bn bc,.string op,.int .i64 ck,.int .i64 cv,.string cx,.slice co cn cc] 125)).alloc (.cells #[.slice none 0 0,.slice none 0 0,.bool false] 102))).heap.size<=g->P g from fun g hg=>hP g (aW hB1.size hg))
 have H1:=ah h1;have HX1:=ah hx1;have HR1:=ah hr1;have HB1:=ah hB1;have HNI:=ah hnI;have HN1:=ah hN1;have HN2:=ah hN2;have HXX:=ah hx;have HRR:=ah hr;have HSZ:=ah hs;have HVL:=ah h.lt;have hsc:x.sign=[61,61]\/x.sign=[92,61]\/x.sign=[61,60]\/x.sign=[60]:=hx.yes r hr;have t0:(sg.toList == [])=false:=by rcases hsc with e | e | e | e<;>exact qQ (hsgn.trans e) _ _ rfl
 have HSN:=ah hsgn;have HSC:=ah hsc;have HLL:=ah hl;clear h hi h1 ra1 hx1 hr1 hB1 hnI hx hr hN1 hN2 hl hs hM hK hP hsgn hsc;go_enter Tryz.func192,Tryz.ntmps192;go_wp2_with fail;refine(ae IA).mono ?_;rintro e w2 ⟨n,E,F,no2,nc2,vo2,vc2,T2,rfl,m2,e2,nd2,nv2,ln2,nl2,tn2,el2,fg2⟩;have hx2:=(ae H1).ad.blk fg2 (ae HX1) (de hTi) (by decide) (by decide) (by decide);have hr2:=(ae H1).ad.blk fg2 (ae HR1) (de hTl) (by decide) (by decide) (by decide);have hra2:=(ae H1).ad.ra hT fg2 (ae HRA);have lV:(V++F).length<=V.length+6561:=by
  have q1:=kK 8 x.left ns (ae HXX).wl;have q3:3 ^ 8=6561:=by decide
  rw[au]at ln2⊢;have q4:=ae HLL;omega
 have IB:=ah (BR m2 (fun g hg=>ae HP g (aW fg2.size hg)) hT hra2 ((ae HXX).wr r (ae HRR)) ln2 (ae HN2) (by rw[au];omega) (by omega));have z1:=aD hx2;have z2:=aD hr2;have c0:=aN hx2;have fg:=(bZ.aX (R:=dO sb no cb vo) (ae HB1)).trans fg2;have HM2:=ah m2;have HE2:=ah (cP e2 (cP nd2 (cP nv2 (cP ln2 (cP el2 (cP nl2 tn2))))));have HFG:=ah fg;have HX2:=ah hx2;have HR2:=ah hr2;clear m2 e2 nd2 nv2 ln2 nl2 tn2 el2 fg2 hx2 hr2 fg IA H1 HX1 HR1 lV hra2;unfold cN;go_wp2_with fail;refine(ae IB).mono ?_;rintro e w3 ⟨n',E',F',no3,nc3,vo3,vc3,T3,rfl,m3,e3,nd3,nv3,ln3,nl3,tn3,el3,fg3⟩;unfold cN;obtain⟨e2,nd2,nv2,ln2,el2,nl2,tn2⟩:=ae HE2;have hx3:=(ae HM2).ad.blk fg3 (ae HX2) (de hTi) (by decide) (by decide) (by decide);have hr3:=(ae HM2).ad.blk fg3 (ae HR2) (de hTl) (by decide) (by decide) (by decide);have fg:=(ae HFG).trans fg3;rw[set_set]at m3;have hlen2:(V++F).length=(aP 8 ns x.left).length:=ln2;obtain⟨M1,hM1⟩:=ae HN1;obtain⟨M2,hM2⟩:=ae HN2;have tn2':T3 n=fb (ej T3 (V++F++F') N) 8 x.left:=by rw[e3 n nl2,tn2];exact(gR 8 x.left ns (ae HXX).wl fun y hy=>pE hy hM1 hlen2 (ae HM2).lt e3).symm
 have sz2:=mW (ae HM2) nd2 nv2 e2 (ae HVL) (B:=300) (by omega) (ae HSZ);have sz3:=mW m3 nd3 nv3 e3 (ae HM2).lt (B:=300) (by omega) sz2;have hsz:af.size (T3 n)<=1000000:=by
  have q:=p8 (η:=ej T3 (V++F++F') N) (B:=300) (by omega) 8 x.left ns (ae HXX).wl (fun y hy=>by rw[pE hy hM1 hlen2 (ae HM2).lt e3];obtain⟨m,hm,he⟩:=tH (T:=T2) hy hM1 hlen2;rw[he];exact sz2 m hm);have q3:3 ^ 8=6561:=by decide
  rw[q3]at q;rw[tn2'];omega
 have nl2':n<(D++E++E').length:=by rw[au];omega
 have HTS:=ah (show dR (ej T3 (V++F++F') N) x=if x.sign=[61,61]then fZ (T3 n) (T3 n')else if x.sign=[92,61]then jA (T3 n) (T3 n')else eZ (decide (x.sign=[61,60])) (T3 n) (T3 n')by
  unfold dR;rw[ae HRR];dsimp only;rw[<-tn2',<-tn3])
 have HEND:=ah (show∀(l:Wn) (w4:World) (xo:Option Addr) (xn xc:Nat) (yo:Option Addr) (yc:Nat),dR (ej T3 (V++F++F') N) x=l->w4.ownsRow w3.heap.size 3 1 (.slice yo l.wt.length yc) l.wt.length (l.wt.map cN)->Below w3.heap.size w3 w4->Ma P sb so cs T cb D V no vo fr TT N ns x w (.returned (.agg #[.slice xo xn xc,.slice yo l.wt.length yc,.bool l.no])) (((w4.setCell ⟨w.heap.size+1,0,none⟩ (.slice xo xn xc)).setCell ⟨w.heap.size+1,1,none⟩ (.slice yo l.wt.length yc)).setCell ⟨w.heap.size+1,2,none⟩ (.bool l.no))from fun l w4 xo xn xc yo yc hl ho hb=>by
  have hr4:=(hb.block _ (aD hr3)).trans hr3;obtain⟨g1,g2,g3⟩:=Ds (m3.below hb) hTl hr4 (bS _) (fg.trans (bZ.aX hb)) (.slice xo xn xc) (.slice yo l.wt.length yc) (.bool l.no) ho;have hk:∀g,rowOf yo g->¬rowOf vo3 g:=fun g q r=>by obtain⟨p,hp,hq⟩:=q;have k1:=(ho.lt g (by rw[hp,hq];rfl)).1;obtain⟨p',hp',hq'⟩:=r;have k2:=(m3.ad.sc.own.lt g (by rw[hp',hq'];rfl)).2;omega
  rw[aK V,aK D]at g1;rw[aK V]at hl;refine⟨l,E++E',F++F',no3,nc3,vo3,vc3,T3,xo,xn,xc,yo,yc,rfl,dh g3 fg.size,hl.symm,g1,fun m hm=>(e3 m (by rw[au];omega)).trans (e2 m hm),nd2.app (by rw[<-au];exact nd3),nv2.app (by rw[<-au];exact nv3),by rw[<-aK,ln3,ae HNI],by rw[au];omega,g2,hk⟩)
 have IS:=ah (fun(_:True)=>qX w3 sb so _ T _ no3 nc3 fr T3 _ n n' m3.gr nl2' nl3 hsz);have IQ:=ah (fun(_:True)=>xx w3 sb so _ T _ no3 nc3 fr T3 _ n n' m3.gr nl2' nl3 hsz);have IR:=ah (fun(eq:Bool)=>xA w3 sb so _ T _ no3 nc3 fr T3 _ n n' eq m3.gr nl2' nl3);have y1:=aD hx3;have y2:=aD hr3;have f0:=aN hx3;have HR3:=ah hr3;clear m3 e3 nd3 nv3 ln3 nl3 tn3 el3 fg3 hx3 hr3 fg e2 nd2 nv2 ln2 el2 nl2 tn2 hlen2 hM1 hM2 tn2' sz2 sz3 hsz nl2' c0 z1 z2 HM2 HE2 HFG HX2 HR2 IB;rcases ae HSC with hq | hq | hq | hq
 ·have t1:(sg.toList == [61,61])=true:=qQ ((ae HSN).trans hq) _ _ rfl;have HEQ:=ah (show dR (ej T3 (V++F++F') N) x=fZ (T3 n) (T3 n')by rw[ae HTS,hq];rfl)
  clear hq HTS;go_wp2_with fail;refine(ae IS trivial).mono ?_;rintro e w4 ⟨xo,xn,xc,yo,yc,rfl,own4,hb4⟩;have hr4:=(hb4.block _ y2).trans (ae HR3);have y4:=aD hr4;have d0:=aN hr4;have x0:=bI hr4;have HE:=ah (ae HEND _ w4 xo xn xc yo yc (ae HEQ) own4 hb4);clear hr4 own4 hb4;generalize fZ (T3 n) (T3 n')=l at*;go_wp2_with fail;refine aI (v:= .agg #[.slice xo xn xc,.slice yo l.wt.length yc,.bool l.no]) (by simp[results,Tryz.results192,go_sem,d0]) rfl ?_;exact ae HE
 ·have t1:(sg.toList == [61,61])=false:=qQ ((ae HSN).trans hq) _ _ rfl;have t2:(sg.toList == [92,61])=true:=qQ ((ae HSN).trans hq) _ _ rfl;have HEQ:=ah (show dR (ej T3 (V++F++F') N) x=jA (T3 n) (T3 n')by rw[ae HTS,hq];rfl)
  clear hq HTS;go_wp2_with fail;refine(ae IQ trivial).mono ?_;rintro e w4 ⟨xo,xn,xc,yo,yc,rfl,own4,hb4⟩;have hr4:=(hb4.block _ y2).trans (ae HR3);have y4:=aD hr4;have d0:=aN hr4;have x0:=bI hr4;have HE:=ah (ae HEND _ w4 xo xn xc yo yc (ae HEQ) own4 hb4);clear hr4 own4 hb4;generalize jA (T3 n) (T3 n')=l at*;go_wp2_with fail;refine aI (v:= .agg #[.slice xo xn xc,.slice yo l.wt.length yc,.bool l.no]) (by simp[results,Tryz.results192,go_sem,d0]) rfl ?_;exact ae HE
 ·have t1:(sg.toList == [61,61])=false:=qQ ((ae HSN).trans hq) _ _ rfl;have t2:(sg.toList == [92,61])=false:=qQ ((ae HSN).trans hq) _ _ rfl;obtain rfl:sg=MW true:=He true ((ae HSN).trans hq);have HEQ:=ah (show dR (ej T3 (V++F++F') N) x=eZ true (T3 n) (T3 n')by rw[ae HTS,hq];rfl)
  clear hq HTS;go_wp2_with fail;refine(ae IR true).mono ?_;rintro e w4 ⟨xo,xn,xc,yo,yc,rfl,own4,hb4⟩;have hr4:=(hb4.block _ y2).trans (ae HR3);have y4:=aD hr4;have d0:=aN hr4;have x0:=bI hr4;have HE:=ah (ae HEND _ w4 xo xn xc yo yc (ae HEQ) own4 hb4);clear hr4 own4 hb4;generalize eZ true (T3 n) (T3 n')=l at*;go_wp2_with fail;refine aI (v:= .agg #[.slice xo xn xc,.slice yo l.wt.length yc,.bool l.no]) (by simp[results,Tryz.results192,go_sem,d0]) rfl ?_;exact ae HE
 ·have t1:(sg.toList == [61,61])=false:=qQ ((ae HSN).trans hq) _ _ rfl;have t2:(sg.toList == [92,61])=false:=qQ ((ae HSN).trans hq) _ _ rfl;obtain rfl:sg=MW false:=He false ((ae HSN).trans hq);have HEQ:=ah (show dR (ej T3 (V++F++F') N) x=eZ false (T3 n) (T3 n')by rw[ae HTS,hq];rfl)
  clear hq HTS;go_wp2_with fail;refine(ae IR false).mono ?_;rintro e w4 ⟨xo,xn,xc,yo,yc,rfl,own4,hb4⟩;have hr4:=(hb4.block _ y2).trans (ae HR3);have y4:=aD hr4;have d0:=aN hr4;have x0:=bI hr4;have HE:=ah (ae HEND _ w4 xo xn xc yo yc (ae HEQ) own4 hb4);clear hr4 own4 hb4;generalize eZ false (T3 n) (T3 n')=l at*;go_wp2_with fail;refine aI (v:= .agg #[.slice xo xn xc,.slice yo l.wt.length yc,.bool l.no]) (by simp[results,Tryz.results192,go_sem,d0]) rfl ?_;exact ae HE
theorem RA.less {P:Nat->Prop} {w:World} {N M:List (List UInt8)}:∀{f:Nat} {a:AV} {t:Tm},RA f (N++M) P w a t->iE f t->Nw N f t->RA f N P w a t
 | f+1,a,t,⟨h,q⟩,⟨_,w2,_,w4⟩,hn=>by
  obtain⟨h1,h2,h3,h4,h5,h6,h7,h8⟩:=h;unfold Nw at hn;refine⟨⟨h1,h2,fun k=> ?_,h4,h5,h6,h7,h8⟩,fun n=> ?_⟩
  ·obtain⟨_,e⟩:=h3 k;rw[aH k]at hn;exact⟨hn,by rw[e,dA,aH hn]⟩
  ·obtain⟨g,us,cs,p1,p2,p3,p4,p5⟩:=q n
   refine⟨g,us,cs,p1,p2,p3,p4,?_⟩;have k2:t.kind=2:=Decidable.byContradiction fun k=>n (w2 k);rw[aG (by omega),aG (by omega)]at hn;have:∀(us:List AV) (ts:List Tm),eO (RA f (N++M) P w) us ts->(∀a∈ts,iE f a)->(∀a∈ts,Nw N f a)->eO (RA f N P w) us ts:=by
    intro us;induction us with
    | nil=>intro ts ha _ _;cases ts with
     | nil=>trivial
     | cons t ts=>exact ha.elim
    | cons x xs ih=>intro ts ha hw hi;cases ts with
     | nil=>exact ha.elim
     | cons t ts=>exact⟨RA.less ha.1 (hw t (by simp)) (hi t (by simp)),ih ts ha.2 (fun a ha=>hw a (by simp[ha])) (fun a ha=>hi a (by simp[ha]))⟩
   exact this us t.args p5 w4 hn
theorem xL.full {l:fO} (h:xL D TT M S l.st) (hl:S.length<=M.length) (hk:∀x∈M,x∈l.keys):∃V:List Nat,V.length=M.length/\S=V.map (fun n:Nat=>(n:Int))/\(∀n∈V,n<D.length)/\∀(i:Nat) (x:List UInt8) (n:Nat),M[i]?=some x->V[i]?=some n->∃q,l.st.find? (fun q=>q.1 == x)=some q/\TT n=q.2:=by
 have key:∀(i:Nat) (x:List UInt8),M[i]?=some x->∃(q:List UInt8×af.U) (n:Nat),l.st.find? (fun q=>q.1 == x)=some q/\S[i]?=some (n:Int)/\n<D.length/\TT n=q.2:=fun i x hx=>by
  have hm:=hk x (bK hx);obtain⟨r,hr,rfl⟩:=bu.1 hm;cases e:l.st.find? (fun q=>q.1 == r.1)with
  | none=>exact absurd (List.find?_eq_none.1 e r hr) (by simp)
  | some q=>obtain⟨n,h1,h2,h3⟩:=h.kn i r.1 q hx e;exact⟨q,n,rfl,h1,h2,h3⟩
 have hlen:S.length=M.length:=by
  rcases xI hl with q | q
  ·obtain⟨_,n,_,h1,_⟩:=key S.length M[S.length] (aj q);rw[eC Qw]at h1;cases h1
  ·exact q
 have pos:∀s∈S,∃n:Nat,s=(n:Int)/\n<D.length:=fun s hs=>by obtain⟨i,hi,rfl⟩:=bG hs;obtain⟨_,n,_,h1,h2,_⟩:=key i M[i] (aj (by omega));rw[aj hi]at h1;exact⟨n,cF h1,h2⟩
 refine⟨S.map Int.toNat,by rw[bj,hlen],?_,fun n hn=> ?_,fun i x n hx hn=> ?_⟩
 ·rw[bQ]
  conv=>lhs;rw[<-Es S]
  refine bt fun s hs=> ?_;obtain⟨n,rfl,_⟩:=pos s hs;simp
 ·obtain⟨s,hs,rfl⟩:=bu.1 hn;obtain⟨n,rfl,h2⟩:=pos s hs;simpa using h2
 ·obtain⟨q,m,h1,h2,_,h4⟩:=key i x hx;rw[bC,h2]at hn;simp at hn;subst hn;exact⟨q,h1,h4⟩
theorem qd (D:List Ng) (TT:Nat->af.U) (M:List (List UInt8)):xL D TT M [] []:=⟨fun _ _ _ _=>ay rfl,fun _ _ _ _ h=>by cases h⟩
def Qk (l:Wn) (w:World) (e:Ending) (w':World):Prop:=
 ∃wo wc,e= .returned (.agg #[.int .i64 (l.says:Int),.slice wo l.wt.length wc,.slice none 0 0])/\w'.ownsRow w.heap.size 3 1 (.slice wo l.wt.length wc) l.wt.length (l.wt.map cN)/\Below w.heap.size w w'
theorem FC (w:World) (sb so:Nat) (cs:Array Value) (Ty:TypeId) (D:List Ng) (no:Option Addr) (nc:Nat) (fr:Nat->Nat) (TT:Nat->af.U) (PP:Nat->Prop) (a:AV) (o1 o2:Option Addr) (n1 c1 n2 c2 n:Nat) (N M:List (List UInt8)) (p:Tm) (hG:mH w w.heap.size sb so cs Ty D no nc fr TT PP) (hr:RA 8 N fk w a p) (hN:N=aP 8 [] p++M) (wp:iE 8 p) (hn:n<D.length) (hsz:af.size (TT n)<=300) (hy:(dB 8 p (TT n) ⟨[],Wn.none⟩).w.says≠1):
 Calls Tryz.prog 159 #[.pointer (some ⟨sb,so,none⟩),.agg #[.int .i64 a.k,.int .i64 a.val,.string a.tx,.slice a.ao a.n a.cap,.slice o1 n1 c1,.slice o2 n2 c2],.int .i64 (n:Int)] w fun e w'=>Qk (dB 8 p (TT n) ⟨[],Wn.none⟩).w w e w':=by
 obtain⟨k,val,tx,ao,m,cp⟩:=a;dsimp only;have hq:=RA.less (hN ▸ hr) wp (qC 8 p [] fun y hy=>hy);have hML:=kK 8 p [] wp;have hND:=kq 8 p [] (by simp);have q3:3 ^ 8=6561:=by decide
 have hu:=(((al w.heap.size w).alloc Qw (.cells #[.int .i64 k,.int .i64 val,.string tx,.slice ao m cp,.slice o1 n1 c1,.slice o2 n2 c2] 76)).alloc (by simp) (.cells #[.int .i64 0,.slice none 0 0,.slice none 0 0] 224)).alloc (by simp;omega) (.cells #[.slice none 0 0,.slice none 0 0,.bool false] 102);have hl0:=jK ((w.alloc (.cells #[.int .i64 k,.int .i64 val,.string tx,.slice ao m cp,.slice o1 n1 c1,.slice o2 n2 c2] 76)).alloc (.cells #[.int .i64 0,.slice none 0 0,.slice none 0 0] 224));simp only[aF]at hl0;have hr0:=aQ (aB (w.alloc (.cells #[.int .i64 k,.int .i64 val,.string tx,.slice ao m cp,.slice o1 n1 c1,.slice o2 n2 c2] 76)) (.cells #[.int .i64 0,.slice none 0 0,.slice none 0 0] 224)) (.cells #[.slice none 0 0,.slice none 0 0,.bool false] 102);rw[aF]at hr0;have IM:=ah (rM 8 fk w _ (w.heap.size+1+1) sb so cs Ty D no nc fr TT PP _ (aP 8 [] p) [] ⟨k,val,tx,ao,m,cp⟩ n p ⟨[],Wn.none⟩ 300 (hG.up (by omega)) hu hl0 (qd D TT _) (by simp) hND (by simp at hML;omega) hq wp hn hsz (fun q hq=>by cases hq) (by rw[q3];simp[Wn.none]));have HU:=ah hu;have HL0:=ah hl0;have HR0:=ah hr0;have HY:=ah hy;clear hG hr hN hq hND hML q3 hu hl0 hr0 hsz hy;go_enter Tryz.func159,Tryz.ntmps159;go_wp2_with fail;refine(ae IM).mono ?_;rintro e w2 ⟨rfl,S2,R2,h2,-,-,fr2⟩;generalize hl:(dB 8 p (TT n) ⟨[],Wn.none⟩).w=l at*;have hb2:=(ae HL0).under fr2 (ae HU) (by omega);have q2:=(fr2.block (w.heap.size+1) (by simp only[aF];omega) (iV (by omega))).trans (ae HR0);have HSY:=ah (ve w2 _ S2 l.wt l.no R2 h2);rw[uZ]at HSY;obtain⟨xo,xc,yo,yc,h2,rfl⟩:=h2;have c1':=aN h2.blk 1;have cz:=aD h2.blk;have d0:=aN q2;have x0:=bI q2;have dz:=aD q2;simp only[aE,aq,aA]at c1';have t1:((l.says:Int) == 1)=false:=by have:=ae HY;simp;omega
 have t2:((l.says:Int) != 1)=true:=by have:=ae HY;simp;omega
 have HO:=ah h2.lh;have HSD:=ah (fun(W:World) (hb:Below w2.heap.size w2 W)=>oZ W (w.heap.size+1+1) l.wt l.no xo S2.length xc yo yc ((hb.block _ (aD h2.blk)).trans h2.blk));rw[uZ]at HSD;have HB:=ah hb2;have HLE:=ah hl;clear h2 hb2 fr2 q2 IM hl HL0 HU HR0;go_wp2_with fail;refine(ae HSY).mono ?_;rintro e w3 ⟨rfl,rfl⟩;go_wp2_with fail;go_region_with (go_at_call 47;refine(ae HSD _ (by first | exact Qx | exact Qx.drew | exact Qx.drew.drew | exact Qx.drew.drew.drew | exact Qx.drew.drew.drew.drew)).mono ?_;rintro e w5 ⟨rfl,rfl⟩)
 all_goals
  go_wp2_with fail;refine aI (v:= .agg #[.int .i64 (l.says:Int),.slice yo l.wt.length yc,.slice none 0 0]) (by simp[results,Tryz.results159,go_sem,d0]) rfl ?_;rw[ae HLE];have hkeep:∀g,g≠w.heap.size+1->(((w3.setCell ⟨w.heap.size+1,0,none⟩ (.int .i64 (l.says:Int))).setCell ⟨w.heap.size+1,1,none⟩ (.slice yo l.wt.length yc)).setCell ⟨w.heap.size+1,2,none⟩ (.slice none 0 0)).heap[g]?=w3.heap[g]?:=fun g hg=>hH w3 _ _ _ hg;exact⟨yo,yc,rfl,dh (aO (ae HO) (fun g q=>hkeep g (by have:=((ae HO).lt g q).1;omega))) (by omega),((((ae HB).setCell (bS _) _).setCell (bS _) _).setCell (bS _) _).drew⟩
end Go.Proofs.YthfjnfcekeknlabGreatDoor
namespace af
variable {η θ:List UInt8->U}
def jZ (g:dq->Wn):List dq->Wn->Wn
 | [],l=>l
 | x :: xs,l=>jZ g xs (l.also (g x))
theorem tS (g:dq->Wn) (x:dq):∀(xs:List dq) (l:Wn),jZ g (xs++[x]) l=(jZ g xs l).also (g x)
 | [],_=>rfl
 | y :: ys,l=>tS g x ys (l.also (g y))
theorem qY {g h:dq->Wn}:∀(xs:List dq) (l:Wn),(∀x∈xs,g x=h x)->jZ g xs l=jZ h xs l
 | [],_,_=>rfl
 | y :: ys,l,e=>by rw[jZ,jZ,e y (by simp)];exact qY ys _ fun x hx=>e x (by simp[hx])
def nB (η:List UInt8->U) (xs:List dq):Wn:=jZ (dR η) xs Wn.none
theorem Gf (η:List UInt8->U) (xs:List dq) (x:dq):nB η (xs++[x])=(nB η xs).also (dR η x):=tS _ _ _ _
theorem wk (x:dq) (ns:List (List UInt8)) (hx:jc x) (h:∀y∈bU ns x,η y=θ y):dR η x=dR θ x:=by
 unfold bU at h;rw[hx.la]at h;unfold dR;cases hr:x.right with
 | none=>rw[hr]at h;dsimp only;rw[gR 8 x.left ns hx.wl h]
 | some r=>rw[hr]at h;dsimp only;rw[gR 8 r (aP 8 ns x.left) (hx.wr r hr) h,gR 8 x.left ns hx.wl (fun y hy=>h y (by obtain⟨K,hK⟩:=dG 8 r (aP 8 ns x.left);show y∈aP 8 (aP 8 ns x.left) r;rw[hK];exact bO _ hy))]
theorem sR (x:dq) (ns:List (List UInt8)):∃K,bU ns x=ns++K:=by
 unfold bU;have nO:∀(t:Option Tm) (ns:List (List UInt8)),∃K,e7 ns t=ns++K:=fun t ns=>by
  cases t with
  | none=>exact⟨[],by simp[e7]⟩
  | some r=>exact dG 8 r ns
 obtain⟨K1,h1⟩:=dG 8 x.left ns;obtain⟨K2,h2⟩:=nO x.right (aP 8 ns x.left);obtain⟨K3,h3⟩:=nO x.last (e7 (aP 8 ns x.left) x.right);exact⟨K1++(K2++K3),by rw[h3,h2,h1];simp⟩
theorem mY (ns:List (List UInt8)) (x:dq) (xs:List dq):bE ns (x :: xs)=bE (bU ns x) xs:=by unfold bE;rw[bF]
theorem iL (xs:List dq):∀(ns:List (List UInt8)),∃K,bE ns xs=ns++K:=by
 induction xs with
 | nil=>exact fun ns=>⟨[],by simp[bE]⟩
 | cons x xs ih=>intro ns;obtain⟨K1,h1⟩:=sR x ns;obtain⟨K2,h2⟩:=ih (bU ns x);exact⟨K1++K2,by rw[mY,h2,h1,aK]⟩
theorem fF (xs:List dq):∀(ns:List (List UInt8)),∀x∈xs,∃ns',∀y∈bU ns' x,y∈bE ns xs:=by
 induction xs with
 | nil=>intro ns x hx;cases hx
 | cons z zs ih=>
  intro ns x hx;rw[mY];rcases bh.1 hx with rfl | hx
  ·refine⟨ns,fun y hy=> ?_⟩;obtain⟨K,hK⟩:=iL zs (bU ns x);rw[hK];exact bO _ hy
  ·exact ih (bU ns z) x hx
theorem p6 (xs:List dq) (ns:List (List UInt8)) (hx:∀x∈xs,jc x) (h:∀y∈bE ns xs,η y=θ y):nB η xs=nB θ xs:=
 qY xs _ fun x hm=>by obtain⟨ns',hn⟩:=fF xs ns x hm;exact wk x ns' (hx x hm) fun y hy=>h y (hn y hy)
theorem sj (x:dq) (ns:List (List UInt8)) (hx:jc x) (h:∀y∈bU ns x,size (η y)<=300):(dR η x).wt.length<=2000000:=by
 have hl:∀y∈aP 8 ns x.left,size (η y)<=300:=fun y hy=>h y (by
  unfold bU;rw[hx.la];cases hr:x.right with
  | none=>exact hy
  | some r=>obtain⟨K,hK⟩:=dG 8 r (aP 8 ns x.left);show y∈aP 8 (aP 8 ns x.left) r;rw[hK];exact bO _ hy)
 have q:=p8 (B:=300) (by omega) 8 x.left ns hx.wl hl;have q3:3 ^ 8=6561:=by decide
 rw[q3]at q;unfold dR;cases hr:x.right with
 | none=>
  dsimp only;split
  ·have:=EA (by assumption);omega
  ·simp[Wn.none]
 | some r=>
  dsimp only;split
  ·have:=sh (fb η 8 x.left) (fb η 8 r);omega
  ·split
   ·have:=x9 (fb η 8 x.left) (fb η 8 r);omega
   ·have:=Ey (decide (x.sign=[61,60])) (fb η 8 x.left) (fb η 8 r);omega
theorem BP (l m:Wn):(l.also m).wt.length<=l.wt.length+m.wt.length:=nT _ _
end af
namespace Go.Proofs.YthfjnfcekeknlabGreatDoor
open Go.RowKit af
variable {R' R X Y PP:Nat->Prop} {w' w w1:World} {V:List Nat} {fr:Nat->Nat} {no vo:Option Addr} {TT:Nat->af.U} {cs ys:Array Value} {T S:TypeId} {so cb sb vc nc g:Nat} {D:List Ng} {N:List (List UInt8)} {x:dq} {v:JV}
def eP (sb:Nat) (no:Option Addr) (k:Nat):Prop:=k=sb\/rowOf no k
theorem bZ.wide (h:bZ R R' w w') (X:Nat->Prop):bZ (fun k=>R k\/X k) (fun k=>R' k\/X k) w w':=⟨h.os,h.tape,h.output,h.size,fun k hk hn=>h.block k hk (fun q=>hn (ay q)),fun k q=>by
 rcases q with q | q
 ·rcases h.row k q with e | e
  ·exact ay (ay e)
  ·exact aw e
 ·exact ay (aw q)⟩
theorem bZ.less (h:bZ R R' w w') (hx:∀k,X k->R' k):bZ R X w w':=⟨h.os,h.tape,h.output,h.size,h.block,fun k q=>h.row k (hx k q)⟩
theorem bZ.new (h:bZ R X w w1) (hn:bZ Y R' w1 w') (hy:∀k,Y k->X k\/w.heap.size<=k):bZ R R' w w':=⟨hn.os.trans h.os,hn.tape.trans h.tape,hn.output.trans h.output,aW h.size hn.size,fun k hk hr=>(hn.block k (aJ hk h.size) (fun q=>by
 rcases hy k q with e | e
 ·rcases h.row k e with f | f
  ·exact hr f
  ·omega
 ·omega)).trans (h.block k hk hr),fun k q=>by
 rcases hn.row k q with e | e
 ·rcases hy k e with f | f
  ·exact h.row k f
  ·exact aw f
 ·exact aw (aW h.size e)⟩
theorem lU.vG (h:lU (fun g=>PP g/\¬R g) w sb so cs T cb D V no nc vo vc fr TT) (hf:bZ R R' w w') (ap:∀k,R k->¬dO sb no cb vo k):lU (fun g=>PP g/\¬R' g) w' sb so cs T cb D V no nc vo vc fr TT:=by
 have keep:∀k,dO sb no cb vo k->w'.heap[k]?=w.heap[k]?:=fun k q=>hf.block k (h.ad.rows k q) (fun r=>ap k r q);refine⟨⟨⟨(keep sb (ay rfl)).trans h.ad.st.blk,h.ad.st.qF,aO h.ad.st.own fun g q=>keep g (aw (ay (bP q))),h.ad.st.ty⟩,⟨(keep cb (aw (aw (ay rfl)))).trans h.ad.sc.blk,aO h.ad.sc.own fun g q=>keep g (aw (aw (aw (bP q))))⟩,h.ad.t1,h.ad.t2,h.ad.args.keep fun g _ hp hg=>⟨(hf.block g (aD hg) hp.1.2).trans hg,⟨⟨hp.1.1,fun q=> ?_⟩,hp.2⟩⟩⟩,h.ok,h.to,h.lt⟩;rcases hf.row g q with e | e
 ·exact hp.1.2 e
 ·have:=aD hg;omega
theorem fS.o0 (h:fS w sb so cs T D no nc) (hf:bZ (eP sb no) R' w w') (hg:w.heap[g]?=some (.cells ys S (0,0))) (h1:S≠T) (h2:S≠147):w'.heap[g]?=some (.cells ys S (0,0)):=
 (hf.block g (aD hg) (by
  rintro(e | e)
  ·rw[e,h.blk]at hg;simp only[aM,aR]at hg;exact h1 hg.2.1.symm
  ·exact cm h.own hg h2 e)).trans hg
theorem uk.Qb (h:fS w sb so cs T D no nc) (hf:bZ (eP sb no) R' w w') (hT:T≠74) (hi:uk N w v x):uk N w' v x:=by have ra:∀{f:Nat} {a:AV} {t:Tm},RA f N fk w a t->RA f N fk w' a t:=fun hr=>hr.keep fun g _ hp hg _=>⟨h.o0 hf hg (de hT) (by decide),hp⟩;exact⟨ra hi.left,hi.sign,fun r q=>ra (hi.right r q),hi.op,fun r q=>ra (hi.last r q)⟩
end Go.Proofs.YthfjnfcekeknlabGreatDoor
namespace af
variable {Q R:Vr->Prop} {u:U} {η:List UInt8->U} {b:Nat} {T:Nat->U} {fr:Nat->Nat} {G:List Gn}
inductive fz (Q:Vr->Prop):U->Prop
 | v {x:Vr} (h:Q x):fz Q (.v x)
 | n {k:Nat} {tx:List UInt8} {num:Int} {ss:List U} (h:∀a∈ss,fz Q a):fz Q (.n k tx num ss)
theorem fz.args {Q:Vr->Prop} {k:Nat} {tx:List UInt8} {num:Int} {ss:List U} (h:fz Q (.n k tx num ss)):∀a∈ss,fz Q a:=by cases h with | n h=>exact h
theorem fz.var {Q:Vr->Prop} {x:Vr} (h:fz Q (.v x)):Q x:=by cases h with | v h=>exact h
theorem fz.mono (hq:∀x,Q x->R x) (h:fz Q u):fz R u:=by
 induction h with
 | v h=>exact .v (hq _ h)
 | n _ ih=>exact .n ih
def Wn.lX (Q:Vr->Prop) (l:Wn):Prop:=∀w∈l.wt,∃x,Q x/\x.2=w
theorem eQ (Q:Vr->Prop):Wn.none.lX Q:=fun w hw=>by cases hw
theorem Wn.lX.wait {Q:Vr->Prop} {l:Wn} (h:l.lX Q) {x:Vr} (hx:Q x):(l.wait x.2).lX Q:=fun w hw=>by
 have:w∈gA l.wt x.2:=hw;unfold gA at this;split at this
 ·exact h w this
 ·rcases bA.1 this with q | q
  ·exact h w q
  ·exact⟨x,hx,(a8.1 q).symm⟩
theorem Wn.lX.bad {Q:Vr->Prop} {l:Wn} (h:l.lX Q):l.bad.lX Q:=h
theorem Wn.lX.fh {Q:Vr->Prop} {l:Wn} (h:l.lX Q) {u:U} (hu:fz Q u):(l.fh u).lX Q:=by
 cases u with
 | v x=>exact h.wait hu.var
 | n k tx num ss=>exact h
theorem tL:∀(u v:U) (l:Wn),fz Q u->fz Q v->l.lX Q->(gh u v l).lX Q:=by
 refine U.ind (fun x v l hu hv hl=> ?_) (fun k tx num ss ih v l hu hv hl=> ?_)
 ·cases v with
  | v y=>
   rw[mr];split
   ·exact hl
   ·exact(hl.wait hu.var).wait hv.var
  | n k tx num ss=>rw[nU];exact hl.wait hu.var
 ·cases v with
  | v y=>rw[nV];exact hl.wait hv.var
  | n k' tx' num' ss'=>
   rw[lr];split
   ·have:∀(bs cs:List U) (l:Wn),(∀a∈bs,∀v l,fz Q a->fz Q v->l.lX Q->(gh a v l).lX Q)->(∀a∈bs,fz Q a)->(∀a∈cs,fz Q a)->l.lX Q->(gD bs cs l).lX Q:=by
     intro bs;induction bs with
     | nil=>intro cs l _ _ _ hl;rw[jv];exact hl
     | cons b bs ihb=>
      intro cs l hb h1 h2 hl;cases cs with
      | nil=>rw[kC];exact hl
      | cons c cs=>rw[gJ];exact ihb cs _ (fun a ha=>hb a (by simp[ha])) (fun a ha=>h1 a (by simp[ha])) (fun a ha=>h2 a (by simp[ha])) (hb b (by simp) c l (h1 b (by simp)) (h2 c (by simp)) hl)
    exact this ss ss' l ih hu.args hv.args hl
   ·exact hl.bad
def fO.um (Q:Vr->Prop) (l:fO):Prop:=(∀q∈l.st,fz Q q.2)/\l.w.lX Q
theorem fO.um.meet {Q:Vr->Prop} {l:fO} (h:l.um Q) (x:List UInt8) {u:U} (hu:fz Q u):(l.meet x u).um Q:=by
 unfold fO.meet;cases hq:l.st.find? (fun q=>q.1 == x)with
 | none=>
  refine⟨fun q hm=> ?_,h.2⟩;rcases bA.1 hm with hm | hm
  ·exact h.1 q hm
  ·rw[a8.1 hm];exact hu
 | some q=>exact⟨h.1,tL _ _ _ (h.1 q (cR hq)) hu h.2⟩
theorem xZ {Q:Vr->Prop} {g:Tm->U->fO->fO}:∀(ps:List Tm) (us:List U) (l:fO),(∀p∈ps,∀u∈us,∀l:fO,l.um Q->(g p u l).um Q)->l.um Q->(fN g ps us l).um Q
 | p :: ps,u :: us,l,hg,h=>by rw[fN];exact xZ ps us (g p u l) (fun q hq v hv=>hg q (by simp[hq]) v (by simp[hv])) (hg p (by simp) u (by simp) l h)
 | [],[],l,_,h=>by simpa [fN] using h
 | [],_ :: _,l,_,h=>by simpa [fN] using h
 | _ :: _,[],l,_,h=>by simpa [fN] using h
theorem lM {Q:Vr->Prop}:∀(f:Nat) (p:Tm) (u:U) (l:fO),fz Q u->l.um Q->(dB f p u l).um Q
 | 0,_,_,l,_,h=>by unfold dB;exact h
 | f+1,p,u,l,hu,h=>by
  by_cases k:p.kind=3
  ·rw[jJ u l k];exact h.meet _ hu
  ·cases u with
   | v x=>rw[jr x l k];exact⟨h.1,h.2.wait hu.var⟩
   | n kk tx num ss=>
    by_cases hr:jl p=(kk,tx,num)/\p.args.length=ss.length
    ·rw[gf l k hr];exact xZ p.args ss l (fun q _ v hv l hl=>lM f q v l (hu.args v hv) hl) h
    ·rw[kM l k hr];exact⟨h.1,h.2.bad⟩
theorem Dw {Q:Vr->Prop} {η:List UInt8->U} (h:∀y,fz Q (η y)):∀(f:Nat) (t:Tm),iE f t->fz Q (fb η f t)
 | f+1,t,hw=>by
  unfold fb;split
  ·exact h _
  ·split
   ·exact .n (fun a ha=>by cases ha)
   ·refine .n fun a ha=> ?_;obtain⟨s,hs,rfl⟩:=bu.1 ha;exact Dw h f s (hw.2.2.2 s hs)
theorem mN (f:Nat) (t:Tm) (ns:List (List UInt8)) (hw:iE f t) (h:∀y∈aP f ns t,fz Q (η y)):fz Q (fb η f t):=by
 rw[gR (θ:=fun y=>if y∈aP f ns t then η y else .n 0 [] 0 []) f t ns hw (fun y hy=>(aH hy).symm)];refine Dw (fun y=> ?_) f t hw;split
 ·rename_i q;exact h y q
 ·exact .n (fun a ha=>by cases ha)
theorem rZ {v:U} (hu:fz Q u) (hv:fz Q v):(fZ u v).lX Q:=tL u v _ hu hv (eQ Q)
theorem si (x:dq) (ns:List (List UInt8)) (hx:jc x) (h:∀y∈bU ns x,fz Q (η y)):(dR η x).lX Q:=by
 have hl:∀y∈aP 8 ns x.left,fz Q (η y):=fun y hy=>h y (by
  unfold bU;rw[hx.la];cases hr:x.right with
  | none=>exact hy
  | some r=>obtain⟨K,hK⟩:=dG 8 r (aP 8 ns x.left);show y∈aP 8 (aP 8 ns x.left) r;rw[hK];exact bO _ hy)
 have q:=mN 8 x.left ns hx.wl hl;unfold dR;cases hr:x.right with
 | none=>
  dsimp only;split
  ·rename_i _ _ _ u he;rw[he]at q;have hu:=q.args u (by simp);cases u with
   | v x=>
    intro w hw;have:w=x.2:=by simpa [jD] using hw
    exact⟨x,hu.var,this.symm⟩
   | n k tx num ss=>intro w hw;simp[jD]at hw
  ·exact eQ Q
 | some r=>
  have q2:=mN (η:=η) 8 r (aP 8 ns x.left) (hx.wr r hr) (fun y hy=>h y (by unfold bU;rw[hx.la,hr];exact hy));dsimp only;split
  ·exact rZ q q2
  ·split
   ·unfold jA;split
    ·intro w hw;cases hw
    ·split
     ·exact eQ Q
     ·exact rZ q q2
   ·unfold eZ;split
    ·intro w hw;cases hw
    ·exact((eQ Q).fh q).fh q2
theorem Wn.lX.also {Q:Vr->Prop} {l m:Wn} (h:l.lX Q) (k:m.lX Q):(l.also m).lX Q:=by
 have key:∀(xs ws:List Nat),(∀w∈xs,∃x,Q x/\x.2=w)->(∀w∈ws,∃x,Q x/\x.2=w)->∀w∈xs.foldl gA ws,∃x,Q x/\x.2=w:=by
  intro xs;induction xs with
  | nil=>intro ws _ h2;exact h2
  | cons y ys ih=>
   intro ws h1 h2;rw[bF];refine ih _ (fun w hw=>h1 w (by simp[hw])) (fun w hw=> ?_);unfold gA at hw;split at hw
   ·exact h2 w hw
   ·rcases bA.1 hw with q | q
    ·exact h2 w q
    ·rw[a8.1 q];exact h1 y (by simp)
 exact key m.wt l.wt k h
theorem wm (xs:List dq) (ns:List (List UInt8)) (hx:∀x∈xs,jc x) (h:∀y∈bE ns xs,fz Q (η y)):(nB η xs).lX Q:=by
 have key:∀(xs:List dq) (l:Wn),l.lX Q->(∀x∈xs,(dR η x).lX Q)->(jZ (dR η) xs l).lX Q:=by
  intro xs;induction xs with
  | nil=>intro l hl _;exact hl
  | cons y ys ih=>intro l hl hy;exact ih _ (hl.also (hy y (by simp))) (fun x hx=>hy x (by simp[hx]))
 refine key xs _ (eQ Q) fun x hm=> ?_;obtain⟨ns',hn⟩:=fF xs ns x hm;exact si x ns' (hx x hm) fun y hy=>h y (hn y hy)
theorem Kg (xs:List dq) (ns:List (List UInt8)) (hx:∀x∈xs,jc x) (h:∀y∈bE ns xs,size (η y)<=300):(nB η xs).wt.length<=xs.length*2000000:=by
 have key:∀(xs:List dq) (l:Wn),(∀x∈xs,(dR η x).wt.length<=2000000)->(jZ (dR η) xs l).wt.length<=l.wt.length+xs.length*2000000:=by
  intro xs;induction xs with
  | nil=>intro l _;simp[jZ]
  | cons y ys ih=>intro l hy;have h1:=ih (l.also (dR η y)) (fun x hx=>hy x (by simp[hx]));have h2:=BP l (dR η y);have h3:=hy y (by simp);rw[aT];show (jZ (dR η) ys (l.also (dR η y))).wt.length<=_;omega
 have:=key xs Wn.none (fun x hm=>by obtain⟨ns',hn⟩:=fF xs ns x hm;exact sj x ns' (hx x hm) fun y hy=>h y (hn y hy));have e0:Wn.none.wt.length=0:=rfl;unfold nB;omega
theorem kx.um (h:kx G fr T) (hf:∀n,n<b->fr n<b) (ha:∀n,n<b->∀a∈ga G n,a<b):∀n,n<b->fz (fun x=>x.1=[]/\x.2<b/\fr x.2=x.2) (T n):=by
 have key:∀{n u},Tr G fr n u->n<b->fz (fun x=>x.1=[]/\x.2<b/\fr x.2=x.2) u:=by
  intro n u ht;induction ht with
  | @var n _ _=>exact fun hn=> .v ⟨rfl,hf n hn,h.fG.idem n⟩
  | @node n k tx num us hg hl _ ih=>intro hn;refine .n fun u hu=> ?_;obtain⟨i,hi,rfl⟩:=bG hu;exact ih i _ us[i] (aj (by omega)) (aj hi) (ha _ (hf n hn) _ (aL _))
 exact fun n hn=>key (h.tr n) hn
