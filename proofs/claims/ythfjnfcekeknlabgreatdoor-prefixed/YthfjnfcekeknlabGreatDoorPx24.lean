import Derived.Test.YthfjnfcekeknlabGreatDoorPx20
import Derived.Test.YthfjnfcekeknlabGreatDoorPx23
import Derived.Deep.LoopGhost
set_option maxHeartbeats 8000000
set_option maxRecDepth 100000
set_option linter.unusedSimpArgs false
namespace Go.Proofs.YthfjnfcekeknlabGreatDoor
open Go.RowKit af
variable {TT:Nat->af.U} {T S0:TypeId} {so cb vc sb rb cap b n g oc pc nC mb c:Nat} {fr fr':Nat->Nat} {v:JV} {D E D':List Ng} {V F:List Nat} {N ns:List (List UInt8)} {x:dq} {w W w' w4:World} {cs ys:Array Value} {P R' R PP:Nat->Prop} {vo no' o oo nO po:Option Addr} {v1 v0 v2:Value} {zs:List Value} {X:Obj} {xs:List Int} {d:Ng}
theorem BK {no:Option Addr} {nc:Nat} (h:lU P w sb so cs T cb D V no nc vo vc fr TT) (hP:∀g,w.heap.size<=g->P g) (hT:T≠74) (hTi:T≠125) (hTl:T≠102) (hi:uk N w v x) (hx:jc x) (hl:V.length=ns.length) (hN:∃M,N=bU ns x++M) (hD:D.length+13122<=1000000000) (hV:V.length+13122<=1000000000) (hs:∀n∈V,af.size (TT n)<=300):
 Calls Tryz.prog 192 #[.pointer (some ⟨sb,so,none⟩),.agg #[.int .i64 v.a.k,.int .i64 v.a.val,.string v.a.tx,.slice v.a.ao v.a.n v.a.cap,.string v.sg,.int .i64 v.b.k,.int .i64 v.b.val,.string v.b.tx,.slice v.b.ao v.b.n v.b.cap,.string v.op,.int .i64 v.c.k,.int .i64 v.c.val,.string v.c.tx,.slice v.c.ao v.c.n v.c.cap],.pointer (some ⟨cb,0,none⟩)] w fun e w'=>Ma P sb so cs T cb D V no vo fr TT N ns x w e w':=by
 cases hr:x.right with
 | none=>exact BJ h hP hT hTi hTl hi hx hl hN hD hV hr
 | some r=>exact BI h hP hT hTi hTl hi hx hl hN hD hV hs r hr
theorem lU.MX {nc:Nat} (h:lU P W sb so cs T cb D V no' nc vo vc fr TT) (hr:W.heap[rb]?=some (.cells ys S0 (0,0))) (h1:S0≠T) (h2:S0≠147) (h3:S0≠90) (h4:S0≠3) (v0 v1 v2:Value):lU P (((W.setCell ⟨rb,0,none⟩ v0).setCell ⟨rb,1,none⟩ v1).setCell ⟨rb,2,none⟩ v2) sb so cs T cb D V no' nc vo vc fr TT:=by
 refine h.iH fun g xs S hg hS=>hH W v0 v1 v2 fun e=> ?_;subst e;rw[hr]at hg;simp only[aM,aR]at hg;obtain⟨_,rfl,_⟩:=hg;rcases hS with e | e | e | e
 ·exact h1 e
 ·exact h2 e
 ·exact h3 e
 ·exact h4 e
theorem Hc (ho:W.ownsRow b 3 1 (.slice o n cap) n zs) (hr:W.heap[rb]?=some (.cells ys S0 (0,0))) (h4:S0≠3):(((W.setCell ⟨rb,0,none⟩ v0).setCell ⟨rb,1,none⟩ v1).setCell ⟨rb,2,none⟩ v2).ownsRow b 3 1 (.slice o n cap) n zs:=by refine aO ho fun g q=>hH W v0 v1 v2 fun e=> ?_;subst e;obtain⟨cur,hc⟩:=bL ho (bP q);rw[hr]at hc;simp only[aM,aR]at hc;exact h4 hc.2.1
theorem bZ.Me (h:bZ R R' w w') (X:Nat->Prop):bZ (fun k=>X k\/R k) (fun k=>X k\/R' k) w w':=⟨h.os,h.tape,h.output,h.size,fun k hk hn=>h.block k hk (fun q=>hn (aw q)),fun k q=>by
 rcases q with q | q
 ·exact ay (ay q)
 ·rcases h.row k q with e | e
  ·exact ay (aw e)
  ·exact aw e⟩
theorem bZ.fin (h:bZ R R' w W) (hb:w.heap.size<=rb) (v0 v1 v2:Value):bZ R R' w ((((W.setCell ⟨rb,0,none⟩ v0).setCell ⟨rb,1,none⟩ v1).setCell ⟨rb,2,none⟩ v2).drew):=⟨h.os,h.tape,h.output,by have:=h.size;simpa [World.drew,fj] using this,fun k hk hn=>(hH W v0 v1 v2 (by omega)).trans (h.block k hk hn),h.row⟩
theorem CD (ns:List (List UInt8)) (xs:List dq) (j:Nat) (h:j<xs.length):bE ns (xs.take (j+1))=bU (bE ns (xs.take j)) xs[j]/\xs.take (j+1)=xs.take j++[xs[j]]/\∃K,bE ns xs=bE ns (xs.take (j+1))++K:=by
 have e:xs.take (j+1)=xs.take j++[xs[j]]:=by rw[bR,aj h];rfl
 refine⟨by rw[e];unfold bE;rw[cT];rfl,e,?_⟩;obtain⟨K,hK⟩:=iL (xs.drop (j+1)) (bE ns (xs.take (j+1)));refine⟨K,?_⟩;rw[<-hK];unfold bE;rw[<-cT,lx]
theorem D5:∀(F:List Nat) (b c:Nat),F.Pairwise (·<·)->(∀n∈F,b<=n/\n<b+c)->F.length<=c
 | [],_,_,_,_=>cI _
 | n :: F,b,c,hp,h=>by obtain⟨h1,h2⟩:=List.pairwise_cons.1 hp;have h0:=h n (by simp);have:=D5 F (n+1) (b+c - (n+1)) h2 (fun m hm=>by have:=h1 m hm;have:=(h m (by simp[hm])).2;omega);rw[aT];omega
theorem Hm (h:iZ b E F):F.length<=E.length:=by refine D5 F b E.length h.ord fun n hn=> ?_;obtain⟨h1,d,h2,_⟩:=h.var n hn;have:=(bl.1 h2).1;omega
theorem Ny {no:Option Addr} {nc:Nat} (h:lU P w sb so cs T cb D V no nc vo vc fr TT) (hf:bZ (dO sb no cb vo) R' (w.alloc X) w') (hg:w.heap[g]?=some (.cells ys 224 (0,0))) (h1:224≠T):w'.heap[g]?=some (.cells ys 224 (0,0)):=
 (h.below (Qx.alloc Qw X)).ad.blk hf ((aZ _ _ _ (aD hg)).trans hg) h1 (by decide) (by decide) (by decide)
def P4 (PP:Nat->Prop) (w:World) (lb sb so:Nat) (cs:Array Value) (T:TypeId) (cb:Nat) (D:List Ng) (V:List Nat) (no:Option Addr) (fr:Nat->Nat) (TT:Nat->af.U) (N ns:List (List UInt8)) (S:List Int) (tests:List dq) (k:Nat) (iv:Value) (wr:World):Prop:=
 ∃(j:Nat) (E:List Ng) (F:List Nat) (no':Option Addr) (nc':Nat) (vo':Option Addr) (vc':Nat) (T':Nat->af.U) (R:Nat->Prop),k+j=tests.length/\iv= .int .i64 (j:Int)/\lU (fun g=>PP g/\¬R g) wr sb so (cs.setIfInBounds so (.slice no' (D++E).length nc')) T cb (D++E) (V++F) no' nc' vo' vc' fr T'/\(∀m,m<D.length->T' m=TT m)/\gP D.length E/\iZ D.length E F/\(V++F).length=(bE ns (tests.take j)).length/\E.length<=j*13122/\
  iR wr lb S (nB (ej T' (V++F) N) (tests.take j)).wt (nB (ej T' (V++F) N) (tests.take j)).no R/\(nB (ej T' (V++F) N) (tests.take j)).wt.length<=j*2000000/\bZ (eP sb no) (fun k=>dO sb no' cb vo' k\/R k) w wr/\(∀k,R k->¬dO sb no' cb vo' k)/\wr.heap[w.heap.size+1]?=some (.cells #[.int .i64 0,.slice none 0 0,.slice none 0 0] 224 (0,0))/\w.heap.size+2<cb
def Qj (PP:Nat->Prop) (sb so:Nat) (cs:Array Value) (T:TypeId) (D:List Ng) (V:List Nat) (no:Option Addr) (fr:Nat->Nat) (TT:Nat->af.U) (N ns:List (List UInt8)) (tests:List dq) (w:World) (e:Ending) (w':World):Prop:=
 ∃(l:Wn) (E:List Ng) (F:List Nat) (no':Option Addr) (nc':Nat) (vo':Option Addr) (vc':Nat) (T':Nat->af.U) (oo:Option Addr) (oc:Nat),l=nB (ej T' (V++F) N) tests/\e= .returned (.agg #[.int .i64 (l.says:Int),.slice oo (ug (V++F) V.length l.wt).length oc,.slice vo' (V++F).length vc'])/\w'.ownsRow w.heap.size 3 1 (.slice oo (ug (V++F) V.length l.wt).length oc) (ug (V++F) V.length l.wt).length ((ug (V++F) V.length l.wt).map cN)/\w'.ownsRow 0 3 1 (.slice vo' (V++F).length vc') (V++F).length ((V++F).map cN)/\(∀k,rowOf vo' k->eP sb no k\/w.heap.size<=k)/\
  fS w' sb so (cs.setIfInBounds so (.slice no' (D++E).length nc')) T (D++E) no' nc'/\g8 (D++E) fr/\kx (e8 (D++E)) fr T'/\di w' (D++E) (fun g=>PP g/\¬rowOf vo' g)/\(∀n∈V++F,n<(D++E).length)/\(∀m,m<D.length->T' m=TT m)/\gP D.length E/\iZ D.length E F/\(V++F).length=(bE ns tests).length/\E.length<=78732/\bZ (eP sb no) (eP sb no') w w'
theorem lU.start {no:Option Addr} {nc:Nat} (hG:mH w w.heap.size sb so cs T D no nc fr TT PP) (hb:Below w.heap.size w w4) (ho:w4.ownsRow b 3 1 (.slice oo V.length oc) V.length (V.map cN)) (hbb:w.heap.size<=b) (hR:∀k,R k->w.heap.size<=k) (t1:T≠90) (t2:T≠3) (hV:∀n∈V,n<D.length):lU (fun g=>PP g/\¬R g) (w4.alloc (.cells #[.slice oo V.length oc] 90)) sb so cs T w4.heap.size D V no nc oo oc fr TT:=by
 have hb':=hb.alloc hb.size (.cells #[.slice oo V.length oc] 90);refine⟨⟨hG.st.below hb',⟨aB w4 _,aO (dh ho (cI _)) (fun g q=>aZ _ _ _ (ho.lt g q).2)⟩,t1,t2,hG.ar.keep fun g _ hp hg=>⟨(hb'.block g (aD hg)).trans hg,⟨⟨hp,fun q=> ?_⟩,fun q=> ?_⟩⟩⟩,hG.ok,hG.to,hV⟩
 ·have:=hR g q;have:=aD hg;omega
 ·obtain⟨p,rfl,e⟩:=q;have:=(ho.lt g (by rw[e];rfl)).1;have:=aD hg;omega
theorem CX (w:World) (sb so:Nat) (cs:Array Value) (Ty:TypeId) (D:List Ng) (no:Option Addr) (nc:Nat) (fr:Nat->Nat) (TT:Nat->af.U) (PP:Nat->Prop) (a:AV) (o1 o2:Option Addr) (n1 c1 n2 c2 n:Nat) (N M:List (List UInt8)) (p:Tm) (tests:List dq) (hG:mH w w.heap.size sb so cs Ty D no nc fr TT PP) (hPP:∀g,w.heap.size<=g->PP g) (hT:Ty≠74) (hTi:Ty≠125) (hTl:Ty≠102) (hTa:Ty≠224) (hTs:Ty≠90) (hTn:Ty≠3) (hr:RA 8 N fk w a p) (hts:dV N w o1 n1 tests) (hN:N=bE (aP 8 [] p) tests++M) (wp:iE 8 p) (htt:∀x∈tests,jc x) (htl:tests.length<=6) (hn:n<D.length) (hsz:af.size (TT n)<=300) (hD:D.length+100000<=1000000000) (hy:(dB 8 p (TT n) ⟨[],Wn.none⟩).w.says=1):
 Calls Tryz.prog 159 #[.pointer (some ⟨sb,so,none⟩),.agg #[.int .i64 a.k,.int .i64 a.val,.string a.tx,.slice a.ao a.n a.cap,.slice o1 n1 c1,.slice o2 n2 c2],.int .i64 (n:Int)] w fun e w'=>∃V:List Nat,V.length=(aP 8 [] p).length/\(∀m∈V,m<D.length)/\(∀(i:Nat) (x:List UInt8) (m:Nat),(aP 8 [] p)[i]?=some x->V[i]?=some m->∃q,(dB 8 p (TT n) ⟨[],Wn.none⟩).st.find? (fun q=>q.1 == x)=some q/\TT m=q.2)/\Qj PP sb so cs Ty D V no fr TT N (aP 8 [] p) tests w e w':=by
 obtain⟨k,val,tx,ao,m,cp⟩:=a;dsimp only;obtain⟨rfl,hit0⟩:=hts;have HIT:=ah hit0;clear hit0;obtain⟨KK,hKK⟩:=iL tests (aP 8 [] p);have hN1:N=aP 8 [] p++(KK++M):=by rw[hN,hKK,aK]
 have hq:=RA.less (hN1 ▸ hr) wp (qC 8 p [] fun y hy=>hy);have hML:=kK 8 p [] wp;have hND:=kq 8 p [] (by simp);have q3:3 ^ 8=6561:=by decide
 have hML':(aP 8 [] p).length<=6561:=by simp at hML;omega
 have hsm:=(rN (B:=300) 8 p (TT n) ⟨[],Wn.none⟩ wp hsz (by omega) (fun q hq=>by cases hq)).1;have hky:=(wP 8 p (TT n) ⟨[],Wn.none⟩ wp ((Wn.rX _).1 hy)).2.2 [];have hyes:=(Wn.rX _).1 hy;have hu:=(((al w.heap.size w).alloc Qw (.cells #[.int .i64 k,.int .i64 val,.string tx,.slice ao m cp,.slice o1 tests.length c1,.slice o2 n2 c2] 76)).alloc (by simp) (.cells #[.int .i64 0,.slice none 0 0,.slice none 0 0] 224)).alloc (by simp;omega) (.cells #[.slice none 0 0,.slice none 0 0,.bool false] 102);have hl0:=jK ((w.alloc (.cells #[.int .i64 k,.int .i64 val,.string tx,.slice ao m cp,.slice o1 tests.length c1,.slice o2 n2 c2] 76)).alloc (.cells #[.int .i64 0,.slice none 0 0,.slice none 0 0] 224));simp only[aF]at hl0;have hr0:=aQ (aB (w.alloc (.cells #[.int .i64 k,.int .i64 val,.string tx,.slice ao m cp,.slice o1 tests.length c1,.slice o2 n2 c2] 76)) (.cells #[.int .i64 0,.slice none 0 0,.slice none 0 0] 224)) (.cells #[.slice none 0 0,.slice none 0 0,.bool false] 102);rw[aF]at hr0;have hc0:=aQ (aQ (aB w (.cells #[.int .i64 k,.int .i64 val,.string tx,.slice ao m cp,.slice o1 tests.length c1,.slice o2 n2 c2] 76)) (.cells #[.int .i64 0,.slice none 0 0,.slice none 0 0] 224)) (.cells #[.slice none 0 0,.slice none 0 0,.bool false] 102);have IM:=ah (rM 8 fk w _ (w.heap.size+1+1) sb so cs Ty D no nc fr TT PP _ (aP 8 [] p) [] ⟨k,val,tx,ao,m,cp⟩ n p ⟨[],Wn.none⟩ 300 (hG.up (by omega)) hu hl0 (qd D TT _) (by simp) hND (by omega) hq wp hn hsz (fun q hq=>by cases hq) (by rw[q3];simp[Wn.none]));have HU:=ah hu;have HL0:=ah hl0;have HR0:=ah hr0;have HC0:=ah hc0;have HG:=ah hG;have HPP:=ah hPP;have HN:=ah hN;have HTT:=ah htt;have HSM:=ah hsm;have HKY:=ah hky;have HY:=ah hy;have HYES:=ah hyes;have HTL:=ah htl;have HDD:=ah hD;have HML:=ah hML';have HWP:=ah wp;have HTYS:=ah (cP hT (cP hTi (cP hTl (cP hTa (cP hTs hTn)))));clear hG hr hN hN1 hq hND hML q3 hu hl0 hr0 hc0 hsz hy hsm hky hyes htt hPP hT hTi hTl hTa hTs hTn hKK htl hD hML' wp;go_enter Tryz.func159,Tryz.ntmps159;go_wp2_with fail;refine(ae IM).mono ?_;rintro e w2 ⟨rfl,S2,R2,h2,st2,sl2,fr2⟩;generalize hl:dB 8 p (TT n) ⟨[],Wn.none⟩=l at*;obtain⟨V,hVl,hSV,hVD,hVq⟩:=st2.full sl2 (fun x hx=>(ae HKY x hx).resolve_left (by simp));have hb2:=(ae HL0).under fr2 (ae HU) (by omega);have hrk:∀k,k<=w.heap.size+1->¬gW (w.heap.size+1+1) none none k:=fun k hk=>iV (by omega);have q2:=(fr2.block (w.heap.size+1) (by simp only[aF];omega) (hrk _ (by omega))).trans (ae HR0);have k2:=(fr2.block w.heap.size (by simp only[aF];omega) (hrk _ (by omega))).trans (ae HC0);have HSY:=ah (ve w2 _ S2 l.w.wt l.w.no R2 h2);rw[uZ,ae HY]at HSY;rw[(ae HYES).1,(ae HYES).2]at h2;have hrow2:=h2.rows;have H2:=ah h2;obtain⟨xo,xc,yo,yc,h2,rfl⟩:=h2;have ho2:w2.ownsRow (w.heap.size+1+1+1) 3 1 (.slice xo V.length xc) V.length (V.map cN):=by have:=h2.lH;rw[hSV,bj,bQ]at this;exact this
 have hSL:S2.length=V.length:=by rw[hSV,bj]
 have b0:=aN h2.blk 0;rw[hSL]at b0;have cz:=aD h2.blk;have IS:=ah (An w2 _ V xo xc ho2 (by have:=ae HML;omega));have HVL:=ah hVl;have f4:=aN k2 4;have kz:=aD k2;simp only[aE,aq,aA]at b0 f4;have HVQ:=ah hVq;have HVD:=ah hVD;have HSV:=ah hSV;have HSL:=ah hSL;have HB2:=ah hb2;have HQ2:=ah q2;have HK2:=ah k2;have HROW2:=ah hrow2;have HSTF:=ah st2;have HSZV:=ah (show∀m∈V,af.size (TT m)<=300 from fun m hm=>by obtain⟨i,hi,rfl⟩:=bG hm;obtain⟨q,h1,h2⟩:=hVq i (aP 8 [] p)[i] V[i] (aj (by omega)) (aj hi);rw[h2];exact ae HSM q (cR h1))
 have HLE:=ah hl;clear hl h2 hb2 fr2 q2 k2 IM HL0 HU HR0 HC0 ho2 hVq hVD hSV hrow2 st2 sl2 hSL hrk HKY HY HYES HSM hVl;go_wp2_with fail;refine(ae HSY).mono ?_;rintro e w3 ⟨rfl,rfl⟩;go_wp2_with fail;refine(ae IS).mono ?_;rintro e w4 ⟨oo,oc,rfl,own4,hb4⟩;obtain⟨hT,hTi,hTl,hTa,hTs,hTn⟩:=ae HTYS;have z4:=hb4.size;have hb5:=(ae HB2).trans (hb4.mono (ae HB2).size);have hb6:=hb5.alloc hb5.size (.cells #[.slice oo V.length oc] 90);have k4:=(hb4.block _ kz).trans (ae HK2);have f4:=aN k4 4;have kz4:=aD k4;simp only[aE,aq,aA]at f4;have HST:=ah (show P4 PP w (w.heap.size+1+1) sb so cs Ty w4.heap.size D V no fr TT N (aP 8 [] p) S2 tests tests.length (.int .i64 0) (w4.alloc (.cells #[.slice oo V.length oc] 90))from by
  have hro:∀k,rowOf oo k->w3.heap.size<=k:=fun k q=>by obtain⟨pp,hp,hq⟩:=q;exact(own4.lt k (by rw[hp,hq];rfl)).1
  have hrn:∀k,rowOf no k->k<w.heap.size:=fun k q=>by obtain⟨pp,hp,hq⟩:=q;exact((ae HG).st.own.lt k (by rw[hp,hq];rfl)).2
  have hsb:=aD (ae HG).st.blk;refine⟨0,[],[],no,nc,oo,oc,TT,gW (w.heap.size+1+1) xo yo,by omega,rfl,?_,fun _ _=>rfl,fun i d h=>by simp at h,iZ.nil _ _,by rw[br,uc];exact ae HVL,by simp,(ae H2).below (hb4.alloc z4 _),by rw[uc];exact cI _,⟨hb6.os,hb6.tape,hb6.output,hb6.size,fun k hk _=>hb6.block k hk,?_⟩,?_,?_,by omega⟩
  ·have:=lU.start (PP:=PP) (R:=gW (w.heap.size+1+1) xo yo) (ae HG) hb5 own4 (ae HB2).size (fun k q=>by have:=(ae HROW2 k q).1;omega) hTs hTn (ae HVD);rw[br,br,mg (ae HG).st.qF];exact this
  ·rintro k ((e | e | e | e) | e)
   ·exact ay (ay e)
   ·exact ay (aw e)
   ·right;have:=(ae HB2).size;omega
   ·right;have:=hro k e;have:=(ae HB2).size;omega
   ·right;have:=(ae HROW2 k e).1;omega
  ·rintro k q (e | e | e | e)
   ·have:=(ae HROW2 k q).1;omega
   ·have:=(ae HROW2 k q).1;have:=hrn k e;omega
   ·have:=(ae HROW2 k q).2;omega
   ·have:=(ae HROW2 k q).2;have:=hro k e;omega
  ·exact(aZ _ _ _ (by have:=aD (ae HQ2);omega)).trans ((hb4.block _ (aD (ae HQ2))).trans (ae HQ2)))
 clear hb5 hb6 k4 own4 hb4 IS HSY H2 HB2 HQ2 HK2 HROW2 b0 cz kz;go_wp2_with fail;go_loopg [30] tests.length (fun k iv wr=>P4 PP w (w.heap.size+1+1) sb so cs Ty w4.heap.size D V no fr TT N (aP 8 [] p) S2 tests k iv wr)
 case atStart=>exact ae HST
 case round=>
  clear HST f4 kz4;obtain⟨j,E,F,no',nc',vo',vc',T',R,hkj,rfl,hm,he,hnd,hnv,hln,hel,hlo,hwl,hf,hap,hrr,hcb⟩:=hrel;by_cases hlt:j<tests.length
  ·obtain⟨g,vs,ics,ho1,hcs,htk,hall⟩:=ae HIT (fun q=>by rw[q]at hlt;simp at hlt);subst ho1;have hjv:j<vs.length:=by have:=hall.length;omega
   have hcw:wr.heap[g]?=some (.cells ics 125 (0,0)):=(ae HG).st.o0 hf hcs (de hTi) (by decide);have fc:∀i,i<14->wr.cell? ⟨g,j*14+i,none⟩=(B8 vs[j])[i]?:=fun i hi=>by rw[aN hcw,<-ci,<-If hjv i hi,<-htk,cr (by omega)]
   have f0:=fc 0 (by omega);have f1:=fc 1 (by omega);have f2:=fc 2 (by omega);have f3:=fc 3 (by omega);have f4:=fc 4 (by omega);have f5:=fc 5 (by omega);have f6:=fc 6 (by omega);have f7:=fc 7 (by omega);have f8:=fc 8 (by omega);have f9:=fc 9 (by omega);have f10:=fc 10 (by omega);have f11:=fc 11 (by omega);have f12:=fc 12 (by omega);have f13:=fc 13 (by omega);simp only[B8,aq,aA,dJ]at f0 f1 f2 f3 f4 f5 f6 f7 f8 f9 f10 f11 f12 f13;have gz:g<wr.heap.size:=aD hcw;have i0:(0:Int)<=(j:Int):=by omega
   have i1:(j:Int)<(tests.length:Int):=by omega
   have hj6:j<=6:=by have:=ae HTL;omega
   have hit:=(uk.Qb (ae HG).st hf hT (hall.at j hjv hlt)).keep (b9.alloc wr (.cells #[.int .i64 vs[j].a.k,.int .i64 vs[j].a.val,.string vs[j].a.tx,.slice vs[j].a.ao vs[j].a.n vs[j].a.cap,.string vs[j].sg,.int .i64 vs[j].b.k,.int .i64 vs[j].b.val,.string vs[j].b.tx,.slice vs[j].b.ao vs[j].b.n vs[j].b.cap,.string vs[j].op,.int .i64 vs[j].c.k,.int .i64 vs[j].c.val,.string vs[j].c.tx,.slice vs[j].c.ao vs[j].c.n vs[j].c.cap] 125));obtain⟨nt1,nt2,K,hK⟩:=CD (aP 8 [] p) tests j hlt;have hNx:N=bU (bE (aP 8 [] p) (tests.take j)) tests[j]++(K++M):=by rw[ae HN,hK,nt1,aK]
   obtain⟨K2,hK2⟩:=sR tests[j] (bE (aP 8 [] p) (tests.take j));have hNj:N=bE (aP 8 [] p) (tests.take j)++(K2++(K++M)):=by rw[hNx,hK2,aK]
   have szv:=mW hm hnd hnv he (ae HVD) (B:=300) (by omega) (ae HSZV);have hxt:=ae HTT _ (aL hlt);have lnv:(V++F).length<=200000:=by have q1:=(Hm hnv);have q2:=ae HVL;have q3:=ae HML;rw[au];omega
   have IT:=ah (BK (hm.below (Qx.alloc Qw (.cells #[.int .i64 vs[j].a.k,.int .i64 vs[j].a.val,.string vs[j].a.tx,.slice vs[j].a.ao vs[j].a.n vs[j].a.cap,.string vs[j].sg,.int .i64 vs[j].b.k,.int .i64 vs[j].b.val,.string vs[j].b.tx,.slice vs[j].b.ao vs[j].b.n vs[j].b.cap,.string vs[j].op,.int .i64 vs[j].c.k,.int .i64 vs[j].c.val,.string vs[j].c.tx,.slice vs[j].c.ao vs[j].c.n vs[j].c.cap] 125))) (fun g hg=>⟨ae HPP g (by have:=hf.size;simp at hg;omega),fun q=>by have:=(hlo.rows g q).2;simp at hg;omega⟩) hT hTi hTl hit hxt hln ⟨_,hNx⟩ (by rw[au];have:=ae HDD;omega) (by omega) szv);have HM:=ah hm;have HE:=ah he;have HND:=ah hnd;have HNV:=ah hnv;have HLN:=ah hln;have HEL:=ah hel;have HLO:=ah hlo;have HWL:=ah hwl;have HF:=ah hf;have HAP:=ah hap;have HRR:=ah hrr;have HCB:=ah hcb;have HKJ:=ah hkj;have HLT:=ah hlt;have HNX:=ah hNx;have HNJ:=ah hNj;have HNT1:=ah nt1;have HNT2:=ah nt2;have HXT:=ah hxt;have HSZ6:=ah szv;have rz:=aD hrr;generalize vs[j]=v6 at*;generalize hxx:tests[j]=x at*;clear hm he hnd hnv hln hel hlo hwl hf hap hrr hkj hlt hcs htk hall hjv hcw fc hit nt1 nt2 hK hNx hK2 hNj szv hxt lnv hxx;go_wp2_with fail;refine(ae IT).mono ?_;rintro e w7 ⟨l2,E2,F2,no2,nc2,vo2,vc2,T2,xo2,xn2,xc2,yo2,yc2,rfl,own2,hl2,m2,e2,nd2,nv2,ln2,el2,fg2,-⟩;have z7:=fg2.size;rw[aF]at z7 own2;have hR7:∀k,R k->k<wr.heap.size:=fun k q=>((ae HLO).rows k q).2;have lo7:iR w7 (w.heap.size+1+1) S2 (nB (ej T' (V++F) N) (tests.take j)).wt (nB (ej T' (V++F) N) (tests.take j)).no R:=by obtain⟨so',sc',wo',wc',hB,hRe⟩:=ae HLO;refine⟨so',sc',wo',wc',hB.keep fun k q=> ?_,hRe⟩;rw[<-hRe]at q;exact(fg2.block k (by rw[aF];have:=hR7 k q;omega) (ae HAP k q)).trans (aZ _ _ _ (hR7 k q))
   have ap2:∀k,R k->¬dO sb no2 w4.heap.size vo2 k:=fun k q r=>by
    rcases fg2.row k r with e | e
    ·exact ae HAP k q e
    ·rw[aF]at e;have:=hR7 k q;omega
   have hln2:l2.wt.length<=2000000:=by rw[hl2];refine sj x (bE (aP 8 [] p) (tests.take j)) (ae HXT) fun y hy=> ?_;obtain⟨mm,hmm,hee⟩:=tH (T:=T2) (V:=V++F++F2) hy (ae HNX) ln2;rw[hee];exact mW m2 nd2 nv2 e2 (ae HM).lt (B:=300) (by omega) (ae HSZ6) mm hmm
   have hj6':j*2000000<=12000000:=by omega
   have IAL:=ah (JB (w7.alloc (.cells #[.slice xo2 xn2 xc2,.slice yo2 l2.wt.length yc2,.bool l2.no] 102)) (w.heap.size+1+1) S2 _ l2.wt _ l2.no R xo2 yo2 xn2 xc2 yc2 _ (lo7.below (Qx.alloc Qw _)) (aO own2 (fun g q=>aZ _ _ _ (own2.lt g q).2)) (fun g q r=>by obtain⟨pp,hp,hq⟩:=q;have k1:=(own2.lt g (by rw[hp,hq];rfl)).1;have:=hR7 g r;omega) (by have:=ae HWL;omega));have rr7:=(Ny (ae HM) fg2 (ae HRR) (de hTa));have m8:=m2.below ((al w7.heap.size w7).alloc Qw (.cells #[.slice xo2 xn2 xc2,.slice yo2 l2.wt.length yc2,.bool l2.no] 102));have HM8:=ah m8;have HRW:=ah m2.ad.rows;have HF7:=ah ((ae HF).trans ((bZ.aX ((al wr.heap.size wr).alloc Qw (.cells #[.int .i64 v6.a.k,.int .i64 v6.a.val,.string v6.a.tx,.slice v6.a.ao v6.a.n v6.a.cap,.string v6.sg,.int .i64 v6.b.k,.int .i64 v6.b.val,.string v6.b.tx,.slice v6.b.ao v6.b.n v6.b.cap,.string v6.op,.int .i64 v6.c.k,.int .i64 v6.c.val,.string v6.c.tx,.slice v6.c.ao v6.c.n v6.c.cap] 125))).trans ((fg2.wide R).trans (bZ.aX ((al w7.heap.size w7).alloc Qw (.cells #[.slice xo2 xn2 xc2,.slice yo2 l2.wt.length yc2,.bool l2.no] 102))))));have HRR7:=ah rr7;have HP2:=ah (cP hl2 (cP e2 (cP nd2 (cP nv2 (cP ln2 el2)))));have HAP2:=ah ap2;have HLN2:=ah hln2;have HLO7:=ah lo7;clear own2 hl2 m2 e2 nd2 nv2 ln2 el2 fg2 hR7 lo7 ap2 hln2 rr7 m8 IT;go_wp2_with fail;refine(ae IAL).mono ?_;rintro e w9 ⟨rfl,R9,lo9,fr9⟩;have HLO9:=ah lo9;have HFR9:=ah fr9;clear lo9 fr9 IAL;go_wp2_with fail;go_roundg (gk - 1)
   case measure=>have:=ae HKJ;have:=ae HLT;omega
   case rel=>
    obtain⟨hl2,e2,nd2,nv2,ln2,el2⟩:=ae HP2;have hts:nB (ej T2 (V++F++F2) N) (tests.take (j+1))=(nB (ej T' (V++F) N) (tests.take j)).also l2:=by rw[ae HNT2,Gf,hl2,p6 (θ:=ej T' (V++F) N) (tests.take j) (aP 8 [] p) (fun y hy=>ae HTT y (eg hy)) (fun y hy=>pE hy (ae HNJ) (ae HLN) (ae HM).lt e2)]
    have mm:=(ae HM8).vG (ae HFR9) (ae HAP2);rw[set_set,aK D,aK V]at mm;rw[aK V]at hts ln2;refine⟨j+1,E++E2,F++F2,no2,nc2,vo2,vc2,T2,R9,by have:=ae HKJ;have:=ae HLT;omega,by go_num,mm,fun q hq=>(e2 q (by rw[au];omega)).trans (ae HE q hq),(ae HND).app (by rw[<-au];exact nd2),(ae HNV).app (by rw[<-au];exact nv2),by rw[ln2,ae HNT1],by rw[au];have:=ae HEL;omega,by rw[hts];exact ae HLO9,by rw[hts];have:=BP (nB (ej T' (V++F) N) (tests.take j)) l2;have:=ae HWL;have:=ae HLN2;omega,(ae HF7).trans ((ae HFR9).Me _),fun k q r=> ?_,?_,ae HCB⟩
    ·rcases(ae HFR9).row k q with e | e
     ·exact ae HAP2 k e r
     ·have:=ae HRW k r;rw[aF]at e;omega
    ·have hz7:=aD (ae HRR7);exact((ae HFR9).block _ (by rw[aF];omega) (fun q=>by have:=((ae HLO7).rows _ q).1;omega)).trans ((aZ _ _ _ hz7).trans (ae HRR7))
  ·obtain rfl:j=tests.length:=by omega
   rw[dM]at hln hlo hwl;have lnv:(V++F).length<=200000:=by have q1:=Hm hnv;have q2:=ae HVL;have q3:=ae HML;have q4:=ae HTL;rw[au];omega
   have hwl':(nB (ej T' (V++F) N) tests).wt.length<=12000000:=by have q4:=ae HTL;omega
   generalize hL0:nB (ej T' (V++F) N) tests=l at hlo hwl';have HL0:=ah hL0;clear hL0;obtain⟨so',sc',wo',wc',hB,hRe⟩:=hlo;have b0:=aN hB.blk 0;have b1:=aN hB.blk 1;rw[ae HSL]at b0;have bz:=aD hB.blk;have s0:=aN hm.ad.sc.blk 0;have sz:=aD hm.ad.sc.blk;simp only[aE,aq,aA]at b0 b1 s0;have IOK:=ah (sH wr _ _ l.wt (V++F) wo' vo' wc' vc' V.length hB.lh hm.ad.sc.own (by omega) (by omega));have HB:=ah hB;have HM:=ah hm;have HP:=ah (cP he (cP hnd (cP hnv (cP hln hel))));have HF:=ah hf;have HRR:=ah hrr;have HCB:=ah hcb;have rz:=aD hrr;have hVz:(V++F).length=V.length+F.length:=au;clear hm he hnd hnv hln hel hwl hf hap hrr hkj hlt hB hRe lnv hwl' hcb hVz;generalize hVF:V++F=VF at*;have HVF:=ah hVF;clear hVF;go_wp2_with fail;refine(ae IOK).mono ?_;rintro e w10 ⟨oo',oc',rfl,own10,hb10⟩;have s1:=(hb10.cell (p:=⟨w4.heap.size,0,none⟩) sz).trans s0;have z10:=hb10.size;have hbk:=(hb10.block _ bz).trans (ae HB).blk;have HSD:=ah (fun(W:World) (hb:Below w10.heap.size w10 W)=>oZ W (w.heap.size+1+1) l.wt l.no so' S2.length sc' wo' wc' ((hb.block _ (aD hbk)).trans hbk));rw[uZ]at HSD;have hr10:=(hb10.block _ rz).trans (ae HRR);have d0:=aN hr10;have x0:=bI hr10;have dz:=aD hr10;have sz10:w4.heap.size<w10.heap.size:=aJ sz z10;have HO10:=ah own10;have HB10:=ah hb10;have HR10:=ah hr10;clear own10 hb10 hbk hr10 IOK b0 b1 bz s0 sz;go_wp2_with fail;go_region_with (go_at_call 47;refine(ae HSD _ (by first | exact Qx | exact Qx.drew | exact Qx.drew.drew | exact Qx.drew.drew.drew | exact Qx.drew.drew.drew.drew)).mono ?_;rintro e w5 ⟨rfl,rfl⟩)
   all_goals
    go_wp2_with fail;refine aI (v:= .agg #[.int .i64 (l.says:Int),.slice oo' (ug VF V.length l.wt).length oc',.slice vo' VF.length vc']) (by simp[results,Tryz.results159,go_sem,d0]) rfl ?_;obtain rfl:=ae HVF;obtain⟨he,hnd,hnv,hln,hel⟩:=ae HP;have hrow:=(ae HF).row;have m11:=(((ae HM).below (ae HB10)).MX (ae HR10) (de hTa) (by decide) (by decide) (by decide) (.int .i64 (l.says:Int)) (.slice oo' (ug (V++F) V.length l.wt).length oc') (.slice vo' (V++F).length vc')).below Qx.drew;have hel':E.length<=78732:=by have:=ae HTL;omega
    refine⟨V,ae HVL,ae HVD,by rw[ae HLE];exact ae HVQ,l,E,F,no',nc',vo',vc',T',oo',oc',(ae HL0).symm,rfl,dh (Hc (ae HO10) (ae HR10) (by decide)) (ae HF).size,m11.ad.sc.own,fun k q=>hrow k (ay (aw (aw (aw q)))),m11.ad.st,m11.ok,m11.to,m11.ad.args.keep fun g _ hp hg=>⟨hg,hp.1.1,hp.2⟩,m11.lt,he,hnd,hnv,hln,hel',((((ae HF).less (X:=eP sb no') (fun k q=>by
     rcases q with e | e
     ·exact ay (ay e)
     ·exact ay (aw (ay e)))).trans (bZ.aX (ae HB10))).fin (bS _) _ _ _)⟩
theorem tO (w:World) (p:Int) (n:Nat) (hn:0<n) (hl:n<=1000000000) (_h1: -9223372036854775808<=p) (_h2:p<=9223372036854775807):
 Calls Tryz.prog 36 #[.int .i64 p,.int .i64 (n:Int)] w fun e w'=>e= .returned (.int .i64 (p % (n:Int)))/\w'=w:=by
 have t0:decide ((n:Int)<=0)=false:=by simp;omega
 have t1:((n:Int) == 0)=false:=by simp;omega
 have b1:=gN p (show (n:Int)≠0 by omega)
 have b2:=jV p (show (0:Int)<(n:Int)by omega)
 have e1:p.tmod (n:Int)=p % (n:Int)\/p.tmod (n:Int)=p % (n:Int) - (n:Int):=by
  rw[Int.tmod_eq_emod];split
  ·left;simp
  ·right;simp
 rcases e1 with e1 | e1
 ·have t2:decide (p.tmod (n:Int)<0)=false:=by rw[e1];simp;omega
  have HE:=ah e1;clear e1 b1 b2;go_enter Tryz.func36,Tryz.ntmps36;go_wp2_with fail;go_ret;exact⟨by rw[<-ae HE];rfl,rfl⟩
 ·have t2:decide (p.tmod (n:Int)<0)=true:=by rw[e1];simp;omega
  have t3:wrap64 (p.tmod (n:Int)+(n:Int))=p % (n:Int):=by rw[e1,Int.sub_add_cancel];unfold wrap64;omega
  have HT:=ah t3;clear e1 b1 b2 t3;go_enter Tryz.func36,Tryz.ntmps36;go_wp2_with fail;go_ret;exact⟨by rw[<-ae HT];rfl,rfl⟩
structure Gl where
 l:Nat
 sg:ByteArray
 r:Int
 op:ByteArray
 z:Int
 wt:Bool
 no:Option Addr
 nc:Nat
 nd:List Nat
def mD (g:Gl):List Value:=[.int .i64 (g.l:Int),.string g.sg,.int .i64 g.r,.string g.op,.int .i64 g.z,.bool g.wt,.slice g.no g.nd.length g.nc]
def nJ (fr:Nat->Nat) (g:Gl):Bool:= !g.wt||g.nd.any fun v=>decide (fr v≠v)
theorem qU (w:World) (mb:Nat) (cs:Array Value) (Ty:TypeId) (D:List Ng) (nO:Option Addr) (nC:Nat) (fr:Nat->Nat) (g:Gl) (b:Nat) (hs:fS w mb 1 cs Ty D nO nC) (hok:g8 D fr) (hn:w.ownsRow b 3 1 (.slice g.no g.nd.length g.nc) g.nd.length (g.nd.map cN)) (hlt:∀v∈g.nd,v<D.length) (hl:g.nd.length<=1000000000):
 Calls Tryz.prog 69 #[.pointer (some ⟨mb,0,none⟩),.agg #[.int .i64 (g.l:Int),.string g.sg,.int .i64 g.r,.string g.op,.int .i64 g.z,.bool g.wt,.slice g.no g.nd.length g.nc]] w fun e w'=>e= .returned (.bool (nJ fr g))/\Below w.heap.size w w':=by
 obtain⟨l,sg,r,op,z,wt,no,nc,nd⟩:=g;dsimp only at*;have hb0:=(al w.heap.size w).alloc Qw (.cells #[.int .i64 (l:Int),.string sg,.int .i64 r,.string op,.int .i64 z,.bool wt,.slice no nd.length nc] 133);have HB0:=ah hb0;have HN:=ah hn;have HLT:=ah hlt;have HFR:=ah (fun W (hb:Below w.heap.size w W) (v:Nat) (hv:v<D.length)=>(hok.hop v hv).imp fun k hk=>fw W mb 1 cs Ty D nO nC v (fr v) k (hs.below hb) hk);clear hs hok hn hlt hb0;cases wt with
 | false=>go_enter Tryz.func69,Tryz.ntmps69;go_wp2_with fail;go_ret;exact⟨rfl,ae HB0⟩
 | true=>
  go_enter Tryz.func69,Tryz.ntmps69;go_wp2_with fail;go_loopg [13] nd.length (fun k iv wr=>∃j:Nat,k+j=nd.length/\iv= .int .i64 (j:Int)/\Below w.heap.size w wr/\(nd.take j).any (fun v=>decide (fr v≠v))=false)
  case atStart=>exact⟨0,by omega,rfl,ae HB0,by simp⟩
  case round=>
   clear HB0;obtain⟨j,hkj,rfl,hbe,hno⟩:=hrel;by_cases hlt:j<nd.length
   ·obtain⟨g,hg⟩:∃g,no=some ⟨g,0,none⟩:=by
     rcases(ae HN).2 with⟨q,q2⟩ | ⟨g,cp,cur,q,_⟩
     ·omega
     ·simp only[aS]at q;exact⟨g,q.1⟩
    subst hg;have gz0:=((ae HN).lt g rfl).2;have f0:wr.cell? ⟨g,j,none⟩=some (.int .i64 (nd[j]:Int)):=by rw[hbe.cell (p:=⟨g,j,none⟩) gz0,(ae HN).cellAt j (by omega),bC,aj hlt];rfl
    have gz:g<wr.heap.size:=aJ gz0 hbe.size;have i0:(0:Int)<=(j:Int):=by omega
    have i1:(j:Int)<(nd.length:Int):=by omega
    obtain⟨kk,hfc⟩:=ae HFR wr hbe nd[j] (ae HLT _ (aL hlt));have HFC:=ah hfc;have hst:nd.take (j+1)=nd.take j++[nd[j]]:=by rw[bR,aj hlt];rfl
    have HBE:=ah hbe;have HLT2:=ah hlt;have HKJ:=ah hkj;have hmem:nd[j]∈nd:=aL hlt;generalize nd[j]=m at*;by_cases he:fr m=m
    ·have HNO:=ah (show (nd.take (j+1)).any (fun v=>decide (fr v≠v))=false by rw[hst,FT,hno];simp[he])
     rw[he]at HFC;clear he hno hkj hst hbe hfc hmem;go_wp2_with fail;refine(ae HFC).mono ?_;rintro e w5 ⟨rfl,rfl⟩;unfold cN;go_wp2_with fail;go_roundg (gk - 1)
     case measure=>have:=ae HKJ;have:=ae HLT2;omega
     case rel=>exact⟨j+1,by have:=ae HKJ;have:=ae HLT2;omega,by go_num,ae HBE,ae HNO⟩
    ·have HYES:=ah (show nd.any (fun v=>decide (fr v≠v))=true from pS.2 ⟨m,hmem,by simpa using he⟩)
     have t2:(((fr m:Nat):Int) == ((m:Nat):Int))=false:=by simp;omega
     have t3:(((fr m:Nat):Int) != ((m:Nat):Int))=true:=by simp;omega
     generalize fr m=m' at*;clear he hno hkj hst hbe hfc hmem;go_wp2_with fail;refine(ae HFC).mono ?_;rintro e w5 ⟨rfl,rfl⟩;unfold cN;go_wp2_with fail;go_ret;exact⟨by unfold nJ;rw[ae HYES];rfl,ae HBE⟩
   ·have HNO:=ah (show nd.any (fun v=>decide (fr v≠v))=false by rwa [cV (by omega)]at hno)
    have HBE:=ah hbe;clear hno hbe;obtain rfl:j=nd.length:=by omega
    go_wp2_with fail;go_ret;exact⟨by unfold nJ;rw[ae HNO];rfl,ae HBE⟩
theorem rQ:∀g,(mD g).length=7:=fun _=>rfl
theorem qD {G:List Gl} (h:n<G.length) (j:Nat) (hj:j<7):(G.flatMap mD)[n*7+j]?=(mD G[n])[j]?:=pD rQ h j hj
structure jh (w:World) (mb:Nat) (cs:Array Value) (D:List Ng) (nO:Option Addr) (nC:Nat) (fr:Nat->Nat) (G:List Gl) (po:Option Addr) (pc:Nat):Prop where
 st:fS w mb 1 cs 88 D nO nC
 ok:g8 D fr
 c3:cs[3]?=some (.slice po G.length pc)
 fp:w.ownsRow 0 133 7 (.slice po G.length pc) G.length (G.flatMap mD)
 pf:∀g∈G,w.ownsRow 0 3 1 (.slice g.no g.nd.length g.nc) g.nd.length (g.nd.map cN)
 DT:∀g∈G,∀v∈g.nd,v<D.length
 nl:∀g∈G,g.nd.length<=1000000000
theorem jh.below {w w':World} {mb:Nat} {cs:Array Value} {D:List Ng} {nO:Option Addr} {nC:Nat} {fr:Nat->Nat} {G:List Gl} {po:Option Addr} {pc:Nat} (h:jh w mb cs D nO nC fr G po pc) (hb:Below w.heap.size w w'):jh w' mb cs D nO nC fr G po pc:=
 ⟨h.st.below hb,h.ok,h.c3,aO h.fp (fun g q=>hb.block g (h.fp.lt g q).2),fun g hg=>aO (h.pf g hg) (fun k q=>hb.block k ((h.pf g hg).lt k q).2),h.DT,h.nl⟩
def fD (fr:Nat->Nat) (G:List Gl) (j:Nat):List Nat:=(List.range j).filter fun i=>match G[i]? with
 | some g=>nJ fr g
 | none=>false
theorem EW (fr:Nat->Nat) (G:List Gl) (j:Nat) (h:j<G.length):fD fr G (j+1)=fD fr G j++(if nJ fr G[j]=true then [j]else []):=by unfold fD;rw[List.range_succ,xJ];congr 1;simp only[Dh,FS,aj h]
theorem Au (fr:Nat->Nat) (G:List Gl) (j:Nat):(fD fr G j).length<=j:=by
 have:=ly (fun i=>match G[i]? with
  | some g=>nJ fr g
  | none=>false) (List.range j)
 rwa [oz]at this
def Qr (w:World) (fr:Nat->Nat) (G:List Gl) (k:Nat) (av iv:Value) (wr:World):Prop:=
 ∃j:Nat,k+j=G.length/\iv= .int .i64 (j:Int)/\wr.ownsRow w.heap.size 3 1 av (fD fr G j).length ((fD fr G j).map cN)/\Below w.heap.size w wr
theorem vh (w:World) (mb:Nat) (cs:Array Value) (D:List Ng) (nO:Option Addr) (nC:Nat) (fr:Nat->Nat) (G:List Gl) (po:Option Addr) (pc:Nat) (h:jh w mb cs D nO nC fr G po pc) (hl:G.length<=1000000):
 Calls Tryz.prog 35 #[.pointer (some ⟨mb,0,none⟩)] w fun e w'=>∃oo oc,e= .returned (.slice oo (fD fr G G.length).length oc)/\w'.ownsRow w.heap.size 3 1 (.slice oo (fD fr G G.length).length oc) (fD fr G G.length).length ((fD fr G G.length).map cN)/\Below w.heap.size w w':=by
 have f3:=(aN h.st.blk 3).trans h.c3;have mz:=aD h.st.blk;have H:=ah h;obtain⟨tj,hj,hy0,hy1,hy2⟩:=dH kO;clear h;go_enter Tryz.func35,Tryz.ntmps35;go_wp2_with fail;go_loopg [3,11] G.length (fun k av iv wr=>Qr w fr G k av iv wr)
 case atStart=>exact⟨0,by omega,rfl,by simpa [fD] using bD _ _ _ _,Qx⟩
 case round=>
  obtain⟨j,hkj,rfl,how,hbe⟩:=hrel;obtain⟨oo,oc,rfl⟩:=gI how;by_cases hlt:j<G.length
  ·obtain⟨g,hg⟩:∃g,po=some ⟨g,0,none⟩:=by
    rcases(ae H).fp.2 with⟨q,q2⟩ | ⟨g,cp,cur,q,_⟩
    ·omega
    ·simp only[aS]at q;exact⟨g,q.1⟩
   subst hg;have gz0:=((ae H).fp.lt g rfl).2;have fc:∀i,i<7->wr.cell? ⟨g,j*7+i,none⟩=(mD G[j])[i]?:=fun i hi=>by rw[hbe.cell (p:=⟨g,j*7+i,none⟩) gz0,(ae H).fp.cellAt (j*7+i) (by omega)];exact qD hlt i hi
   have e0:=fc 0 (by omega);have e1:=fc 1 (by omega);have e2:=fc 2 (by omega);have e3:=fc 3 (by omega);have e4:=fc 4 (by omega);have e5:=fc 5 (by omega);have e6:=fc 6 (by omega);simp only[mD,aq,aA,dJ]at e0 e1 e2 e3 e4 e5 e6;have gz:g<wr.heap.size:=aJ gz0 hbe.size;have i0:(0:Int)<=(j:Int):=by omega
   have i1:(j:Int)<(G.length:Int):=by omega
   have hW:=hbe.alloc hbe.size (.cells #[.int .i64 (G[j].l:Int),.string G[j].sg,.int .i64 G[j].r,.string G[j].op,.int .i64 G[j].z,.bool G[j].wt,.slice G[j].no G[j].nd.length G[j].nc] 133);have hm:=(ae H).below hW;have IR:=ah (qU _ mb cs _ D nO nC fr G[j] 0 hm.st hm.ok (hm.pf _ (aL hlt)) (hm.DT _ (aL hlt)) (hm.nl _ (aL hlt)));have HSTEP:=ah (EW fr G j hlt);have hle:=Au fr G j;have hle':(fD fr G j).length<=1000000:=by omega
   have HOW:=ah (aO how (w':=wr.alloc (.cells #[.int .i64 (G[j].l:Int),.string G[j].sg,.int .i64 G[j].r,.string G[j].op,.int .i64 G[j].z,.bool G[j].wt,.slice G[j].no G[j].nd.length G[j].nc] 133)) (fun k q=>aZ _ _ _ (how.lt k q).2));have HBE:=ah hW;have HKJ:=ah hkj;have HLT:=ah hlt;generalize fD fr G j=Z at*;have hrd:nJ fr G[j]=true\/nJ fr G[j]=false:=by cases nJ fr G[j]<;>simp
   have HRD:=ah hrd;generalize hgg:G[j]=gg at*;clear how hbe hkj hlt fc hW hm hle hrd hgg;rcases ae HRD with hr | hr
   ·rw[hr]at IR;rw[aH hr]at HSTEP;clear hr HRD;go_wp2_with fail;refine(ae IR).mono ?_;rintro e w5 ⟨rfl,hb5⟩;have z5:=hb5.size;rw[aF]at z5;have HOW5:=ah (aO (ae HOW) (fun k q=>hb5.block k ((ae HOW).lt k q).2));have HBE5:=ah ((ae HBE).trans (hb5.mono (ae HBE).size));have z6:w.heap.size<=w5.heap.size:=(ae HBE5).size;clear hb5;go_wp2_with (at_builtin;go_must (refine wpList_append_own_at _ rfl (.tmp 19) (.tmp 21) 25 rfl w.heap.size 3 tj (.int .i64 0) 1 8 Tryz.underlying25 hj hy0 hy1 hy2 rfl (by decide) _ Z.length (Z.map cN) rfl ((ae HOW5).alloc _) ⟨w5.heap.size,0,none⟩ 1 1 [.int .i64 (j:Int)] rfl rfl (lq _ _ _ _ rfl) (by simp[Value.oneCell']) (by unfold maxLen;omega) (by omega) (by simp;omega) ?_);go_must (intro v' w7 hown' hgrow _ _;have HO7:=ah hown';have HB7:=ah (((ae HBE5).alloc (ae HBE5).size _).grown hgrow (by have:=(ae HBE5).size;simp;omega) (fun k q=>by have:=((ae HOW5).lt k q).1;omega));clear hown' hgrow));go_roundg (gk - 1)
    case measure=>have:=ae HKJ;have:=ae HLT;omega
    case rel=>exact⟨j+1,by have:=ae HKJ;have:=ae HLT;omega,by go_num,by rw[ae HSTEP];have:=ae HO7;simpa [cN] using this,ae HB7⟩
   ·rw[hr]at IR;rw[aG (by simp[hr]),br]at HSTEP;clear hr HRD;go_wp2_with fail;refine(ae IR).mono ?_;rintro e w5 ⟨rfl,hb5⟩;have HB5:=ah hb5;clear hb5;go_wp2_with fail;go_roundg (gk - 1)
    case measure=>have:=ae HKJ;have:=ae HLT;omega
    case rel=>exact⟨j+1,by have:=ae HKJ;have:=ae HLT;omega,by go_num,by rw[ae HSTEP];exact aO (ae HOW) (fun k q=>(ae HB5).block k ((ae HOW).lt k q).2),(ae HBE).trans ((ae HB5).mono (ae HBE).size)⟩
  ·obtain rfl:j=G.length:=by omega
   have HOW:=ah how;have HBE:=ah hbe;clear how hbe hkj;go_wp2_with fail;go_ret;exact⟨oo,oc,rfl,ae HOW,ae HBE⟩
theorem sL (w:World) (mb:Nat) (cs:Array Value) (Ty:TypeId) (D:List Ng) (nO:Option Addr) (nC:Nat) (fr:Nat->Nat) (n:Nat) (d:Ng) (hs:fS w mb 1 cs Ty D nO nC) (hok:g8 D fr) (hn:n<D.length) (hd:D[fr n]?=some d):
 Calls Tryz.prog 189 #[.pointer (some ⟨mb,0,none⟩),.int .i64 (n:Int)] w fun e w'=>e= .returned (.tuple #[.int .i64 d.val,.bool (d.k == 2)])/\Below w.heap.size w w':=by
 obtain⟨k,hk⟩:=hok.hop n hn;have HL:=ah (fd w mb 1 cs Ty D nO nC n (fr n) k d hs hk hd);clear hs hok hd hk;go_enter Tryz.func189,Tryz.ntmps189;go_wp2_with fail;refine(ae HL).mono ?_;rintro e w2 ⟨rfl,hb2⟩;have z2:=hb2.size;have HB:=ah (hb2.alloc z2 (.cells #[.int .i64 d.k,.int .i64 d.val,.string d.tx,.int .i64 (d.cnt:Int)] 144));clear hb2;go_wp2_with fail;go_region
 all_goals
  go_wp2_with fail;refine aI (v:= .tuple #[.int .i64 d.val,.bool (d.k == 2)]) (by simp[results,Tryz.results189,go_sem]) rfl ?_;exact⟨rfl,(ae HB).drew⟩
def arith (op:List UInt8) (a b:Int):Int:=if op=[43]then a+b else if op=[45]then a - b else a*b
theorem Ji (w:World) (a b:Int) (op:ByteArray) (ha: -1000000000<=a) (ha':a<=1000000000) (hb: -1000000000<=b) (hb':b<=1000000000):
 Calls Tryz.prog 190 #[.int .i64 a,.string op,.int .i64 b] w fun e w'=>e= .returned (.int .i64 (arith op.toList a b))/\w'=w:=by
 have hm: -1000000000000000000<=a*b/\a*b<=1000000000000000000:=by
  have h1:(a*b).natAbs<=1000000000*1000000000:=by rw[Int.natAbs_mul];exact kZ (by omega) (by omega)
  omega
 by_cases h1:op.toList=[43]
 ·have t1:(op.toList == [43])=true:=by rw[h1];rfl
  have HE:=ah (show a+b=arith op.toList a b by unfold arith;rw[aH h1])
  clear h1 hm;go_enter Tryz.func190,Tryz.ntmps190;go_wp2_with fail;go_ret;exact⟨by rw[<-ae HE];first | rfl | done,rfl⟩
 ·by_cases h2:op.toList=[45]
  ·have t1:(op.toList == [43])=false:=by rw[h2];rfl
   have t2:(op.toList == [45])=true:=by rw[h2];rfl
   have HE:=ah (show a - b=arith op.toList a b by unfold arith;rw[aG h1,aH h2])
   clear h1 h2 hm;go_enter Tryz.func190,Tryz.ntmps190;go_wp2_with fail;go_ret;exact⟨by rw[<-ae HE];first | rfl | done,rfl⟩
  ·have t1:(op.toList == [43])=false:=by simpa using h1
   have t2:(op.toList == [45])=false:=by simpa using h2
   have HE:=ah (show wrap64 (a*b)=arith op.toList a b by unfold arith;rw[aG h1,aG h2];unfold wrap64;omega)
   clear h1 h2 hm;go_enter Tryz.func190,Tryz.ntmps190;go_wp2_with fail;go_ret;exact⟨by rw[<-ae HE];first | rfl | done,rfl⟩
theorem tF (w:World) (mb:Nat) (cs:Array Value) (n:Nat) (h:w.heap[mb]?=some (.cells cs 88 (0,0))) (hc:5<cs.size):
 Calls Tryz.prog 155 #[.pointer (some ⟨mb,0,none⟩),.int .i64 (n:Int)] w fun e w'=>e= .returned (.int .i64 (-2))/\w'=w.setCell ⟨mb,5,none⟩ (.int .i64 (n:Int)):=by
 have c5:=(aN h 5).trans (Array.getElem?_eq_getElem hc);have x5:=bI h 5;have mz:=aD h;clear h;go_enter Tryz.func155,Tryz.ntmps155;go_wp2_with fail;go_ret;exact⟨rfl,rfl⟩
def oB (op:List UInt8) (d e:Ng):Option Int:=if d.k=2 then(if op=[]then some d.val else if e.k=2 then(if -1000000000<=arith op d.val e.val/\arith op d.val e.val<=1000000000 then some (arith op d.val e.val)else none)else none)else none
def Pj (r:Option Int) (w:World) (e:Ending) (w':World):Prop:=∃(x:Int) (b:Bool),e= .returned (.tuple #[.int .i64 x,.bool b])/\((b=true/\r=some x)\/(b=false/\r=none))/\Below w.heap.size w w'
theorem Ex (w:World) (mb:Nat) (cs:Array Value) (Ty:TypeId) (D:List Ng) (nO:Option Addr) (nC:Nat) (fr:Nat->Nat) (l:Nat) (sg:ByteArray) (rn:Nat) (op:ByteArray) (z:Int) (wt:Bool) (no:Option Addr) (nn nc:Nat) (d e:Ng) (hs:fS w mb 1 cs Ty D nO nC) (hok:g8 D fr) (hn:rn<D.length) (hd:D[fr rn]?=some d) (hz:op.toList≠[]->∃zn:Nat,z=(zn:Int)/\zn<D.length/\D[fr zn]?=some e) (sd: -1000000000<=d.val/\d.val<=1000000000) (se: -1000000000<=e.val/\e.val<=1000000000):
 Calls Tryz.prog 157 #[.pointer (some ⟨mb,0,none⟩),.agg #[.int .i64 (l:Int),.string sg,.int .i64 (rn:Int),.string op,.int .i64 z,.bool wt,.slice no nn nc]] w fun x w'=>Pj (oB op.toList d e) w x w':=by
 have hb0:=(al w.heap.size w).alloc Qw (.cells #[.int .i64 (l:Int),.string sg,.int .i64 (rn:Int),.string op,.int .i64 z,.bool wt,.slice no nn nc] 133);have IN:=ah (sL _ mb cs Ty D nO nC fr rn d (hs.below hb0) hok hn hd);have IZ:=ah (fun W (hb:Below w.heap.size w W) (zn:Nat) (hl:zn<D.length) (he:D[fr zn]?=some e)=>sL W mb cs Ty D nO nC fr zn e (hs.below hb) hok hl he);have HX:=ah (aB w (.cells #[.int .i64 (l:Int),.string sg,.int .i64 (rn:Int),.string op,.int .i64 z,.bool wt,.slice no nn nc] 133));have HB0:=ah hb0;have HZ:=ah hz;have HSD:=ah sd;have HSE:=ah se;clear hs hok hn hd hz hb0 sd se;go_enter Tryz.func157,Tryz.ntmps157;go_wp2_with fail;refine(ae IN).mono ?_;rintro ee w2 ⟨rfl,hb2⟩;have hx2:=(hb2.block w.heap.size (by simp)).trans (ae HX);have c3:=aN hx2 3;have c4:=aN hx2 4;have xz:=aD hx2;simp only[aE,aq,aA]at c3 c4;have hb3:=(ae HB0).trans (hb2.mono (ae HB0).size);have HB3:=ah hb3;have HX2:=ah hx2;clear hb2 hb3 hx2 IN HB0 HX;by_cases h1:d.k=2
 ·have t1:(d.k == 2)=true:=by simpa using h1
  rw[t1];by_cases h2:op.toList=[]
  ·have t2:(op.toList == [])=true:=by rw[h2];rfl
   have HR:=ah (show oB op.toList d e=some d.val by unfold oB;rw[aH h1,aH h2])
   clear h1 h2;go_wp2_with fail;refine aI (v:= .tuple #[.int .i64 d.val,.bool true]) (by simp[results,Tryz.results157,go_sem]) rfl ?_;exact⟨_,_,rfl,ay ⟨rfl,ae HR⟩,ae HB3⟩
  ·have t2:(op.toList == [])=false:=by simpa using h2
   obtain⟨zn,rfl,zl,ze⟩:=ae HZ h2;have IY:=ah (ae IZ _ (ae HB3) zn zl ze);have HR0:=ah (show oB op.toList d e=if e.k=2 then(if -1000000000<=arith op.toList d.val e.val/\arith op.toList d.val e.val<=1000000000 then some (arith op.toList d.val e.val)else none)else none by unfold oB;rw[aH h1,aG h2])
   clear h1 h2 zl ze IZ HZ;go_wp2_with fail;refine(ae IY).mono ?_;rintro ee w4 ⟨rfl,hb4⟩;have hx4:=(hb4.block w.heap.size xz).trans (ae HX2);have c3':=aN hx4 3;have xz4:=aD hx4;simp only[aE,aq,aA]at c3';have HB4:=ah ((ae HB3).trans (hb4.mono (ae HB3).size));clear hb4 hx4 IY c3 c4;by_cases h3:e.k=2
   ·have t3:(e.k == 2)=true:=by simpa using h3
    rw[t3];rw[aH h3]at HR0;have IC:=ah (Ji w4 d.val e.val op (ae HSD).1 (ae HSD).2 (ae HSE).1 (ae HSE).2);generalize arith op.toList d.val e.val=x at*;clear h3;by_cases h4:x<=1000000000
    ·by_cases h5: -1000000000<=x
     ·rw[aH ⟨h5,h4⟩]at HR0;have t4:decide (1000000000<x)=false:=by simp;omega
      have t5:decide (x< -1000000000)=false:=by simp;omega
      clear h4 h5;go_wp2_with fail;refine(ae IC).mono ?_;rintro ee w5 ⟨rfl,rfl⟩;go_wp2_with fail;refine aI (v:= .tuple #[.int .i64 x,.bool true]) (by simp[results,Tryz.results157,go_sem]) rfl ?_;exact⟨_,_,rfl,ay ⟨rfl,ae HR0⟩,ae HB4⟩
     ·rw[aG (fun q=>h5 q.1)]at HR0;have t4:decide (1000000000<x)=false:=by simp;omega
      have t5:decide (x< -1000000000)=true:=by simp;omega
      clear h4 h5;go_wp2_with fail;refine(ae IC).mono ?_;rintro ee w5 ⟨rfl,rfl⟩;go_wp2_with fail;refine aI (v:= .tuple #[.int .i64 0,.bool false]) (by simp[results,Tryz.results157,go_sem]) rfl ?_;exact⟨_,_,rfl,aw ⟨rfl,ae HR0⟩,ae HB4⟩
    ·rw[aG (fun q=>h4 q.2)]at HR0;have t4:decide (1000000000<x)=true:=by simp;omega
     clear h4;go_wp2_with fail;refine(ae IC).mono ?_;rintro ee w5 ⟨rfl,rfl⟩;go_wp2_with fail;refine aI (v:= .tuple #[.int .i64 0,.bool false]) (by simp[results,Tryz.results157,go_sem]) rfl ?_;exact⟨_,_,rfl,aw ⟨rfl,ae HR0⟩,ae HB4⟩
   ·have t3:(e.k == 2)=false:=by simpa using h3
    rw[t3];rw[aG h3]at HR0;clear h3;go_wp2_with fail;refine aI (v:= .tuple #[.int .i64 0,.bool false]) (by simp[results,Tryz.results157,go_sem]) rfl ?_;exact⟨_,_,rfl,aw ⟨rfl,ae HR0⟩,ae HB4⟩
 ·have t1:(d.k == 2)=false:=by simpa using h1
  rw[t1];have HR:=ah (show oB op.toList d e=none by unfold oB;rw[aG h1])
  clear h1;go_wp2_with fail;refine aI (v:= .tuple #[.int .i64 d.val,.bool false]) (by simp[results,Tryz.results157,go_sem]) rfl ?_;exact⟨_,_,rfl,aw ⟨rfl,ae HR⟩,ae HB3⟩
theorem Be (D:List Gl) (n j:Nat) (hn:n<D.length) (hj:j<7) (d:Gl) (v:Value) (h:mD d=(mD D[n]).set j v):(D.set n d).flatMap mD=(D.flatMap mD).set (n*7+j) v:=by
 induction D generalizing n with
 | nil=>simp at hn
 | cons e D ih=>
  cases n with
  | zero=>simp only[ec,bM];rw[List.set_append_left _ _ (by rw[rQ];omega)];rw[h];simp
  | succ n=>simp only[ed,bM];rw[List.set_append_right _ _ (by rw[rQ];omega),rQ,ih n (by simpa using hn) (by simpa using h)];congr 2;omega
theorem jh.Na {G G':List Gl} (h:jh w mb cs D nO nC fr G po pc) (hf:bZ (rowOf po) (rowOf po) w w') (hl:G'.length=G.length) (hp:w'.ownsRow 0 133 7 (.slice po G.length pc) G.length (G'.flatMap mD)) (hn:∀g∈G',w.ownsRow 0 3 1 (.slice g.no g.nd.length g.nc) g.nd.length (g.nd.map cN)) (ht:∀g∈G',∀v∈g.nd,v<D.length) (hm:∀g∈G',g.nd.length<=1000000000):jh w' mb cs D nO nC fr G' po pc:=by
 have keep:∀(g:Nat) (ys:Array Value) (S:TypeId),w.heap[g]?=some (.cells ys S (0,0))->S≠133->w'.heap[g]?=w.heap[g]?:=fun g ys S hg hS=>hf.block g (aD hg) (cm h.fp hg hS);refine⟨⟨(keep mb _ _ h.st.blk (by decide)).trans h.st.blk,h.st.qF,aO h.st.own fun g q=> ?_,h.st.ty⟩,h.ok,by rw[hl];exact h.c3,by rw[hl];exact hp,fun g hg=>aO (hn g hg) fun k q=> ?_,ht,hm⟩
 ·obtain⟨cur,hc⟩:=bL h.st.own (bP q);exact keep g _ _ hc (by decide)
 ·obtain⟨cur,hc⟩:=bL (hn g hg) (bP q);exact keep k _ _ hc (by decide)
theorem xS (w:World) (mb:Nat) (cs:Array Value) (D:List Ng) (nO:Option Addr) (nC:Nat) (fr:Nat->Nat) (G:List Gl) (po:Option Addr) (pc i:Nat) (gi:Gl) (nd:List Nat) (no:Option Addr) (nc:Nat) (h:jh w mb cs D nO nC fr G po pc) (hi:i<G.length) (hgi:G[i]=gi) (hn:w.ownsRow 0 3 1 (.slice no nd.length nc) nd.length (nd.map cN)) (hlt:∀v∈nd,v<D.length) (hl:nd.length<=1000000000):
 Calls Tryz.prog 156 #[.pointer (some ⟨mb,0,none⟩),.int .i64 (i:Int),.slice no nd.length nc] w fun e w'=>e= .returned (.int .i64 (-1))/\jh w' mb cs D nO nC fr (G.set i {gi with wt:=true,no:=no,nc:=nc,nd:=nd}) po pc/\bZ (rowOf po) (rowOf po) w w':=by
 have f3:=(aN h.st.blk 3).trans h.c3;have mz:=aD h.st.blk;obtain⟨g,hg⟩:∃g,po=some ⟨g,0,none⟩:=by
  rcases h.fp.2 with⟨q,q2⟩ | ⟨g,cp,cur,q,_⟩
  ·omega
  ·simp only[aS]at q;exact⟨g,q.1⟩
 subst hg;have gz:=(h.fp.lt g rfl).2;have gne:g≠mb:=fun e=>by obtain⟨cur,hc⟩:=bL h.fp (g:=g) ⟨_,rfl,rfl⟩;rw[e,h.st.blk]at hc;simp only[aM,aR]at hc;exact absurd hc.2.1 (by decide)
 have fc:∀k,k<7->w.cell? ⟨g,i*7+k,none⟩=(mD gi)[k]?:=fun k hk=>by rw[h.fp.cellAt (i*7+k) (by omega),<-hgi];exact qD hi k hk
 have e5:=fc 5 (by omega);have e6:=fc 6 (by omega);simp only[mD,aq,aA]at e5 e6;have x5:=h.fp.frozenAt (i*7+5);have x6:=h.fp.frozenAt (i*7+6);have i0:(0:Int)<=(i:Int):=by omega
 have i1:(i:Int)<(G.length:Int):=by omega
 obtain⟨p1,p2⟩:=h.fp.stored (i*7+5) (.bool true);obtain⟨p3,p4⟩:=p1.stored (i*7+6) (.slice no nd.length nc);have hfr:bZ (rowOf (some ⟨g,0,none⟩)) (rowOf (some ⟨g,0,none⟩)) w ((w.setCell ⟨g,i*7+5,none⟩ (.bool true)).setCell ⟨g,i*7+6,none⟩ (.slice no nd.length nc)):=
  ⟨p4.os.trans p2.os,p4.tape.trans p2.tape,p4.output.trans p2.output,aW p2.size p4.size,fun k hk hr=>by have hne:k≠g:=fun e=>hr ⟨⟨g,0,none⟩,rfl,e⟩;rw[b6 _ _ _ _ hne,b6 _ _ _ _ hne],fun _ q=>ay q⟩
 have hset2:(G.set i {gi with wt:=true,no:=no,nc:=nc,nd:=nd}).flatMap mD=((G.flatMap mD).set (i*7+5) (.bool true)).set (i*7+6) (.slice no nd.length nc):=by have a1:=Be G i 5 hi (by omega) {gi with wt:=true} (.bool true) (by rw[hgi];rfl);have a2:=Be (G.set i {gi with wt:=true}) i 6 (by simpa using hi) (by omega) {gi with wt:=true,no:=no,nc:=nc,nd:=nd} (.slice no nd.length nc) (by simp[mD]);rw[List.set_set]at a2;rw[a2,a1]
 have HR:=ah (h.Na hfr (G':=G.set i {gi with wt:=true,no:=no,nc:=nc,nd:=nd}) (by simp) (by rw[hset2];exact p3) (fun q hq=>by
  rcases cQ hq with e | e
  ·exact h.pf q e
  ·rw[e];exact hn) (fun q hq=>by
  rcases cQ hq with e | e
  ·exact h.DT q e
  ·rw[e];exact hlt) (fun q hq=>by
  rcases cQ hq with e | e
  ·exact h.nl q e
  ·rw[e];exact hl))
 have HF:=ah hfr;clear h hn hlt hfr hset2 p1 p2 p3 p4 fc hgi;go_enter Tryz.func156,Tryz.ntmps156;go_wp2_with fail;go_ret;exact⟨rfl,ae HR,ae HF⟩
theorem A8:(Tryz.prog.info? 133).map (fun i=>(i.zero,i.size,i.bytes))=some (some (.agg #[.int .i64 0,.string ⟨#[]⟩,.int .i64 0,.string ⟨#[]⟩,.int .i64 0,.bool false,.slice none 0 0]),7,88):=by kernel_rfl
theorem GR (G:List Gl) (i j:Nat) (h:j<G.length):(G.take (j+1)).eraseIdx i=(G.take j).eraseIdx i++(if j=i then []else [G[j]]):=by
 have e:G.take (j+1)=G.take j++[G[j]]:=by rw[bR,aj h];rfl
 have hl:(G.take j).length=j:=by rw[df];omega
 rw[e];rcases fM j i with q | q | q
 ·rw[nA (by simp;omega),nA (by omega),aG (by omega)]
 ·subst q;have h1:(G.take j).eraseIdx j=G.take j:=nA (mK hl);have h2:(G.take j++[G[j]]).eraseIdx j=G.take j++[G[j]].eraseIdx (j - (G.take j).length):=List.eraseIdx_append_of_length_le (mK hl) _;rw[h1,h2,hl,Nat.sub_self,aH rfl];rfl
 ·rw[List.eraseIdx_append_of_lt_length (by omega),aG (by omega)]
def Qt (w:World) (G:List Gl) (i:Nat) (k:Nat) (av iv:Value) (wr:World):Prop:=
 ∃j:Nat,k+j=G.length/\iv= .int .i64 (j:Int)/\wr.ownsRow w.heap.size 133 7 av ((G.take j).eraseIdx i).length (((G.take j).eraseIdx i).flatMap mD)/\Below w.heap.size w wr
theorem jh.left {w w1:World} {mb:Nat} {cs:Array Value} {D:List Ng} {nO:Option Addr} {nC:Nat} {fr:Nat->Nat} {G G':List Gl} {po po':Option Addr} {pc pc':Nat} (h:jh w mb cs D nO nC fr G po pc) (hb:Below w.heap.size w w1) (hs:∀g∈G',g∈G) (ho:w1.ownsRow w.heap.size 133 7 (.slice po' G'.length pc') G'.length (G'.flatMap mD)):
 jh (w1.setCell ⟨mb,3,none⟩ (.slice po' G'.length pc')) mb (cs.setIfInBounds 3 (.slice po' G'.length pc')) D nO nC fr G' po' pc'/\bZ (fun k=>k=mb) (fun k=>k=mb\/rowOf po' k) w (w1.setCell ⟨mb,3,none⟩ (.slice po' G'.length pc')):=by
 have mz:=aD h.st.blk;have keep:∀g,g≠mb->g<w.heap.size->(w1.setCell ⟨mb,3,none⟩ (.slice po' G'.length pc')).heap[g]?=w.heap[g]?:=fun g h1 h2=>by rw[b6 _ _ _ _ h1,hb.block g h2]
 have h3:3<cs.size:=(bd.1 h.c3).1;refine⟨⟨⟨?_,?_,aO h.st.own fun g q=>keep g (fun e=> ?_) (h.st.own.lt g q).2,h.st.ty⟩,h.ok,?_,aO (dh ho (cI _)) fun g q=>b6 _ _ _ _ (by have:=(ho.lt g q).1;omega),fun g hg=>aO (h.pf g (hs g hg)) fun k q=>keep k (fun e=> ?_) ((h.pf g (hs g hg)).lt k q).2,fun g hg=>h.DT g (hs g hg),fun g hg=>h.nl g (hs g hg)⟩,⟨hb.os,hb.tape,hb.output,by rw[fj];exact hb.size,fun k hk hr=>keep k hr hk,fun k q=> ?_⟩⟩
 ·exact bB ((hb.block mb mz).trans h.st.blk) 3 (.slice po' G'.length pc')
 ·rw[dp (by omega)];exact h.st.qF
 ·exact cm h.st.own h.st.blk h.st.ty (e ▸ bP q)
 ·rw[gF,aH h3]
 ·exact cm (h.pf g (hs g hg)) h.st.blk (by decide) (e ▸ bP q)
 ·rcases q with e | ⟨p,hp,hq⟩
  ·exact ay e
  ·right;exact(ho.lt k (by rw[hp,hq];rfl)).1
theorem qu (w:World) (mb:Nat) (cs:Array Value) (D:List Ng) (nO:Option Addr) (nC:Nat) (fr:Nat->Nat) (G:List Gl) (po:Option Addr) (pc i:Nat) (h:jh w mb cs D nO nC fr G po pc) (hl:G.length<=1000000):
 Calls Tryz.prog 118 #[.pointer (some ⟨mb,0,none⟩),.int .i64 (i:Int)] w fun e w'=>e= .returned (.int .i64 0)/\∃po' pc',jh w' mb (cs.setIfInBounds 3 (.slice po' (G.eraseIdx i).length pc')) D nO nC fr (G.eraseIdx i) po' pc'/\bZ (fun k=>k=mb) (fun k=>k=mb\/rowOf po' k) w w':=by
 have f3:=(aN h.st.blk 3).trans h.c3;have mz:=aD h.st.blk;have H:=ah h;obtain⟨tj,hj,hy0,hy1,hy2⟩:=dH A8;clear h;go_enter Tryz.func118,Tryz.ntmps118;go_wp2_with fail;go_loopg [5,13] G.length (fun k av iv wr=>Qt w G i k av iv wr)
 case atStart=>exact⟨0,by omega,rfl,by simpa using bD _ _ _ _,Qx⟩
 case round=>
  obtain⟨j,hkj,rfl,how,hbe⟩:=hrel;obtain⟨oo,oc,rfl⟩:=gI how;by_cases hlt:j<G.length
  ·obtain⟨g,hg⟩:∃g,po=some ⟨g,0,none⟩:=by
    rcases(ae H).fp.2 with⟨q,q2⟩ | ⟨g,cp,cur,q,_⟩
    ·omega
    ·simp only[aS]at q;exact⟨g,q.1⟩
   subst hg;have gz0:=((ae H).fp.lt g rfl).2;have fc:∀i,i<7->wr.cell? ⟨g,j*7+i,none⟩=(mD G[j])[i]?:=fun i hi=>by rw[hbe.cell (p:=⟨g,j*7+i,none⟩) gz0,(ae H).fp.cellAt (j*7+i) (by omega)];exact qD hlt i hi
   have e0:=fc 0 (by omega);have e1:=fc 1 (by omega);have e2:=fc 2 (by omega);have e3:=fc 3 (by omega);have e4:=fc 4 (by omega);have e5:=fc 5 (by omega);have e6:=fc 6 (by omega);simp only[mD,aq,aA,dJ]at e0 e1 e2 e3 e4 e5 e6;have gz:g<wr.heap.size:=aJ gz0 hbe.size;have z0:w.heap.size<=wr.heap.size:=hbe.size;have i0:(0:Int)<=(j:Int):=by omega
   have i1:(j:Int)<(G.length:Int):=by omega
   have HSTEP:=ah (GR G i j hlt);have hle:((G.take j).eraseIdx i).length<=1000000:=by have:=kc (G.take j) i;rw[df]at this;omega
   have HOW:=ah how;have HBE:=ah hbe;have HKJ:=ah hkj;have HLT:=ah hlt;generalize (G.take j).eraseIdx i=Z at*;generalize G[j]=gg at*;clear how hbe hkj hlt fc;by_cases hi:j=i
   ·rw[aH hi,br]at HSTEP;have t1:((j:Int) == (i:Int))=true:=by simp;omega
    have t2:((j:Int) != (i:Int))=false:=by simp;omega
    clear hi;go_wp2_with fail;go_roundg (gk - 1)
    case measure=>have:=ae HKJ;have:=ae HLT;omega
    case rel=>exact⟨j+1,by have:=ae HKJ;have:=ae HLT;omega,by go_num,by rw[ae HSTEP];exact aO (ae HOW) (fun k q=>aZ _ _ _ ((ae HOW).lt k q).2),(ae HBE).alloc (ae HBE).size _⟩
   ·rw[aG hi]at HSTEP;have t1:((j:Int) == (i:Int))=false:=by simp;omega
    have t2:((j:Int) != (i:Int))=true:=by simp;omega
    clear hi;go_wp2_with (first | (at_builtin;go_must (refine wpList_append_own_at _ rfl (.tmp 21) (.tmp 23) 86 rfl w.heap.size 133 tj (.agg #[.int .i64 0,.string ⟨#[]⟩,.int .i64 0,.string ⟨#[]⟩,.int .i64 0,.bool false,.slice none 0 0]) 7 88 Tryz.underlying86 hj hy0 hy1 hy2 rfl (by decide) _ Z.length (Z.flatMap mD) rfl (((ae HOW).alloc _).alloc _) ⟨wr.heap.size+1,0,none⟩ 1 1 [.int .i64 (gg.l:Int),.string gg.sg,.int .i64 gg.r,.string gg.op,.int .i64 gg.z,.bool gg.wt,.slice gg.no gg.nd.length gg.nc] rfl rfl (Hq _ _ _ _ _ (by simp) rfl) (by simp[Value.oneCell']) (by unfold maxLen;omega) (by omega) (by simp;omega) ?_);go_must (intro v' w7 hown' hgrow _ _;have HO7:=ah hown';have HB7:=ah ((((ae HBE).alloc (ae HBE).size _).alloc (by simp;omega) _).grown hgrow (by simp;omega) (fun k q=>by have:=((ae HOW).lt k q).1;omega));clear hown' hgrow)));go_roundg (gk - 1)
    case measure=>have:=ae HKJ;have:=ae HLT;omega
    case rel=>exact⟨j+1,by have:=ae HKJ;have:=ae HLT;omega,by go_num,by rw[ae HSTEP];have:=ae HO7;simpa [mD] using this,ae HB7⟩
  ·obtain rfl:j=G.length:=by omega
   rw[dM]at how;have HR:=ah ((ae H).left hbe (G':=G.eraseIdx i) (fun g hg=>cX hg) how);have f3':=(hbe.cell (p:=⟨mb,3,none⟩) mz).trans f3;have hb3:=(hbe.block mb mz).trans (ae H).st.blk;have x3:=bI hb3 3;have mz':=aD hb3;clear how hbe hkj hb3;go_wp2_with fail;go_ret;rw[dM];exact⟨rfl,_,_,ae HR⟩
theorem jh.linked {G:List Gl} (h:jh w mb cs D nO nC fr G po pc) (hs:fS w' mb 1 cs 88 D' nO nC) (hd:fi D D') (hf:bZ (rowOf nO) (rowOf nO) w w') (ho:g8 D' fr'):jh w' mb cs D' nO nC fr' G po pc:=by
 have keep:∀(g:Nat) (ys:Array Value) (S:TypeId),w.heap[g]?=some (.cells ys S (0,0))->S≠147->w'.heap[g]?=w.heap[g]?:=fun g ys S hg hS=>hf.block g (aD hg) (h.st.apart hg hS);refine⟨hs,ho,h.c3,aO h.fp fun g q=> ?_,fun g hg=>aO (h.pf g hg) fun k q=> ?_,fun g hg v hv=>by rw[hd.len];exact h.DT g hg v hv,h.nl⟩
 ·obtain⟨cur,hc⟩:=bL h.fp (bP q);exact keep g _ _ hc (by decide)
 ·obtain⟨cur,hc⟩:=bL (h.pf g hg) (bP q);exact keep k _ _ hc (by decide)
def MC (mb:Nat) (cs:Array Value) (D:List Ng) (nO:Option Addr) (nC:Nat) (fr:Nat->Nat) (TT:Nat->af.U) (G:List Gl) (i a b:Nat) (w:World) (e:Ending) (w':World):Prop:=
 (∃(D':List Ng) (fr':Nat->Nat) (σ:af.Vr->af.U) (T':Nat->af.U) (po':Option Addr) (pc':Nat),e= .returned (.int .i64 0)/\fi D D'/\af.Made (e8 D) fr fr' TT T' (TT a) (TT b) σ/\jh w' mb (cs.setIfInBounds 3 (.slice po' (G.eraseIdx i).length pc')) D' nO nC fr' (G.eraseIdx i) po' pc'/\bZ (fun k=>rowOf nO k\/k=mb) (fun k=>rowOf nO k\/k=mb\/rowOf po' k) w w')\/
 ((∀θ,af.sub θ (TT a)≠af.sub θ (TT b))/\e= .returned (.int .i64 (-2))/\w'.heap[mb]?=some (.cells (cs.setIfInBounds 5 (.int .i64 4)) 88 (0,0))/\bZ (fun k=>rowOf nO k\/k=mb) (fun k=>rowOf nO k\/k=mb) w w')
theorem tG (w:World) (mb:Nat) (cs:Array Value) (D:List Ng) (nO:Option Addr) (nC:Nat) (fr:Nat->Nat) (TT:Nat->af.U) (P:Nat->Prop) (G:List Gl) (po:Option Addr) (pc i a b:Nat) (h:jh w mb cs D nO nC fr G po pc) (har:di w D P) (hto:kx (e8 D) fr TT) (ha:a<D.length) (hb:b<D.length) (hD:D.length<=1000000000) (hG:G.length<=1000000) (hc:5<cs.size):
 Calls Tryz.prog 116 #[.pointer (some ⟨mb,0,none⟩),.int .i64 (i:Int),.int .i64 (a:Int),.int .i64 (b:Int)] w fun e w'=>MC mb cs D nO nC fr TT G i a b w e w':=by
 have IU:=ah ((Kd w mb 1 cs 88 D nO nC P fr a b h.st h.ok har ha hb hD).mono fun e w' q=>q.says hto);have mz:=aD h.st.blk;have H:=ah h;clear h har hto ha hb hD;go_enter Tryz.func116,Tryz.ntmps116;go_wp2_with fail;refine(ae IU).mono ?_;rintro e w2 ⟨r,D',rfl,st2,sm2,fr2,yes,no⟩;have mz2:=aD st2.blk;have HF:=ah ((fr2.wide (fun k=>k=mb)));cases r with
 | true=>obtain⟨fr',σ,T',ok2,md⟩:=yes rfl;have IL:=ah (qu w2 mb cs D' nO nC fr' G po pc i ((ae H).linked st2 sm2 fr2 ok2) hG);have HMD:=ah md;have HSM:=ah sm2;clear st2 sm2 fr2 yes no ok2 md IU;go_wp2_with fail;refine(ae IL).mono ?_;rintro e w3 ⟨rfl,po',pc',m3,fr3⟩;have HM3:=ah m3;have HF3:=ah fr3;clear m3 fr3 IL;go_wp2_with fail;go_ret;refine ay ⟨D',fr',σ,T',po',pc',rfl,ae HSM,ae HMD,ae HM3,(ae HF).trans ((ae HF3).Me (rowOf nO))⟩
 | false=>have IL:=ah (tF w2 mb cs 4 st2.blk hc);have HNO:=ah (no rfl);have HR:=ah (bB st2.blk 5 (.int .i64 4));clear st2 sm2 fr2 yes no IU;go_wp2_with fail;refine(ae IL).mono ?_;rintro e w3 ⟨rfl,rfl⟩;go_wp2_with fail;go_ret;refine aw ⟨ae HNO,rfl,ae HR,(ae HF).trans ⟨rfl,rfl,rfl,by rw[fj];exact Qw,fun k _ hr=>b6 _ _ _ _ (fun e=>hr (aw e)),fun _ q=>ay q⟩⟩
theorem th (w:World) (sb so:Nat) (cs:Array Value) (T:TypeId) (D:List Ng) (no:Option Addr) (nc:Nat) (h:fS w sb so cs T D no nc):
 Calls Tryz.prog 125 #[.pointer (some ⟨sb,so,none⟩),.int .i64 (-1)] w fun e w'=>e= .returned (.bool false)/\w'=w:=by
 have s0:=h.cell;have sz:=aD h.blk;clear h;go_enter Tryz.func125,Tryz.ntmps125;go_wp2_with fail;go_ret;exact⟨rfl,rfl⟩
theorem tD (w:World) (sb so:Nat) (cs:Array Value) (T:TypeId) (D:List Ng) (no:Option Addr) (nc:Nat) (h:fS w sb so cs T D no nc):
 Calls Tryz.prog 115 #[.pointer (some ⟨sb,so,none⟩),.int .i64 (-1)] w fun e w'=>e= .returned (.int .i64 (-1))/\w'=w:=by
 have HH:=ah (th w sb so cs T D no nc h);clear h;go_enter Tryz.func115,Tryz.ntmps115;go_wp2_with fail;refine dW 1 ?_;rw[bT];go_wp2_with fail;refine(ae HH).mono ?_;rintro e w2 ⟨rfl,rfl⟩;go_wp2_with fail;go_ret;exact⟨rfl,rfl⟩
theorem td (w:World) (sb so:Nat) (cs:Array Value) (T:TypeId) (D:List Ng) (no:Option Addr) (nc:Nat) (h:fS w sb so cs T D no nc):
 Calls Tryz.prog 80 #[.pointer (some ⟨sb,so,none⟩),.int .i64 (-1)] w fun e w'=>e= .returned (.agg #[.int .i64 0,.int .i64 0,.string ⟨#[]⟩,.int .i64 0])/\Below w.heap.size w w':=by
 have hb:=(al w.heap.size w).alloc Qw (.cells #[.int .i64 0,.int .i64 0,.string ⟨#[]⟩,.int .i64 0] 144);have HF:=ah (tD _ sb so cs T D no nc (h.below hb));have HH:=ah (th _ sb so cs T D no nc (h.below hb));have HB:=ah hb;clear h hb;go_enter Tryz.func80,Tryz.ntmps80;go_wp2_with fail;refine(ae HF).mono ?_;rintro e w2 ⟨rfl,rfl⟩;go_wp2_with fail;refine(ae HH).mono ?_;rintro e w2 ⟨rfl,rfl⟩;go_wp2_with fail;refine aI (v:= .agg #[.int .i64 0,.int .i64 0,.string ⟨#[]⟩,.int .i64 0]) (by simp[results,Tryz.results80,go_sem]) rfl ?_;exact⟨rfl,ae HB⟩
theorem vQ (w:World) (sb so:Nat) (cs:Array Value) (T:TypeId) (D:List Ng) (no:Option Addr) (nc:Nat) (h:fS w sb so cs T D no nc):
 Calls Tryz.prog 82 #[.pointer (some ⟨sb,so,none⟩),.int .i64 (-1)] w fun e w'=>e= .returned (.slice none 0 0)/\w'=w:=by
 have HF:=ah (tD w sb so cs T D no nc h);have HH:=ah (th w sb so cs T D no nc h);clear h;go_enter Tryz.func82,Tryz.ntmps82;go_wp2_with fail;refine(ae HF).mono ?_;rintro e w2 ⟨rfl,rfl⟩;go_wp2_with fail;refine(ae HH).mono ?_;rintro e w2 ⟨rfl,rfl⟩;go_wp2_with fail;go_ret;exact⟨rfl,rfl⟩
theorem EQ (w:World) (sb so:Nat) (cs:Array Value) (T:TypeId) (D:List Ng) (no:Option Addr) (nc:Nat) (h:fS w sb so cs T D no nc):
 Calls Tryz.prog 89 #[.pointer (some ⟨sb,so,none⟩),.int .i64 (-1),.int .i64 40] w fun e w'=>e= .returned (.int .i64 1)/\w'=w:=by
 have HA:=ah (vQ w sb so cs T D no nc h);clear h;go_enter Tryz.func89,Tryz.ntmps89;go_wp2_with fail;refine(ae HA).mono ?_;rintro e w2 ⟨rfl,rfl⟩;go_wp2_with fail;refine dW 1 ?_;rw[bT];go_wp2_with fail;go_ret;exact⟨rfl,rfl⟩
theorem C5 (w:World) (lb sb so:Nat) (cs:Array Value) (T:TypeId) (D:List Ng) (no:Option Addr) (nc:Nat) (R:Nat->Prop) (S:List Int) (W:List Nat) (nb:Bool) (hs:fS w sb so cs T D no nc) (h:iR w lb S W nb R):
 Calls Tryz.prog 81 #[.pointer (some ⟨lb,0,none⟩),.pointer (some ⟨sb,so,none⟩),.int .i64 (-1)] w fun e w'=>e= .returned (.tuple #[])/\iR w' lb S W nb R/\bZ R R w w':=by
 have HL:=ah (td w sb so cs T D no nc hs);have H:=ah h;clear hs h;go_enter Tryz.func81,Tryz.ntmps81;go_wp2_with fail;refine(ae HL).mono ?_;rintro e w2 ⟨rfl,hb2⟩;have HB2:=ah hb2;have z2:=hb2.size;clear hb2;go_wp2_with fail;go_end0;exact⟨rfl,(ae H).below ((ae HB2).alloc z2 _),bZ.aX ((ae HB2).alloc z2 _)⟩
def tf (len:Nat) (x:Int):Prop:=x= -1\/∃n:Nat,x=(n:Int)/\n<len
def oQ (w:World) (o:Option Addr) (xs:List Int):Prop:=xs≠[]->∃g,o=some ⟨g,0,none⟩/\g<w.heap.size/\∀i (h:i<xs.length),w.cell? ⟨g,i,none⟩=some (.int .i64 xs[i])
theorem oQ.iB (h:w.ownsRow b 3 1 (.slice o xs.length c) xs.length (xs.map jI)):oQ w o xs:=fun hne=>by
 have hp:0<xs.length:=jy.2 hne;rcases h.2 with⟨q,q2⟩ | ⟨g,cp,cur,q,_⟩
 ·omega
 ·simp only[aS]at q;obtain⟨rfl,_⟩:=q;refine⟨g,rfl,(h.lt g rfl).2,fun i hi=> ?_⟩;rw[h.cellAt i (by omega),bC,aj hi];rfl
theorem oQ.below (h:oQ w o xs) (hb:Below w.heap.size w w'):oQ w' o xs:=fun hne=>by obtain⟨g,h1,h2,h3⟩:=h hne;exact⟨g,h1,aJ h2 hb.size,fun i hi=>(hb.cell (p:=⟨g,i,none⟩) h2).trans (h3 i hi)⟩
theorem oQ.KY (h:di w D P) (hd:d∈D):oQ w d.ao (d.args.map fun n:Nat=>(n:Int)):=fun hne=>by obtain⟨g,h1,h2,h3⟩:=h.at hd (fun q=>hne (by rw[q];rfl));exact⟨g,h1,h2,fun i hi=>by rw[h3 i (by simpa using hi)];simp⟩
def jL (TT:Nat->af.U) (x:Int):Bool:=decide (x≠-1/\40<af.size (TT x.toNat))
theorem Jl (TT:Nat->af.U):jL TT (-1)=false:=by simp[jL]
theorem Jm (TT:Nat->af.U) (n:Nat):jL TT (n:Int)=decide (40<min (af.size (TT n)) 41):=by unfold jL;rw[Int.toNat_natCast];congr 1;apply mI;omega
theorem pv (w:World) (mb:Nat) (cs:Array Value) (Ty:TypeId) (D:List Ng) (nO:Option Addr) (nC:Nat) (fr:Nat->Nat) (TT:Nat->af.U) (P:Nat->Prop) (xs:List Int) (xo:Option Addr) (xc:Nat) (hs:fS w mb 1 cs Ty D nO nC) (hok:g8 D fr) (har:di w D P) (htr:∀n,n<D.length->Tr (e8 D) fr n (TT n)) (hx:oQ w xo xs) (hn:∀x∈xs,tf D.length x) (hl:xs.length<=1000000000):
 Calls Tryz.prog 120 #[.pointer (some ⟨mb,0,none⟩),.slice xo xs.length xc] w fun e w'=>e= .returned (.bool (xs.any (jL TT)))/\w'=w:=by
 have HX:=ah hx;have HN:=ah hn;have ISZ:=ah (show∀x∈xs,Calls Tryz.prog 89 #[.pointer (some ⟨mb,1,none⟩),.int .i64 x,.int .i64 40] w fun e w'=>∃s:Nat,e= .returned (.int .i64 (s:Int))/\decide (40<s)=jL TT x/\s<=41/\w'=w from fun x hxm=>by
  rcases hn x hxm with rfl | ⟨n,rfl,hln⟩
  ·exact(EQ w mb 1 cs Ty D nO nC hs).mono fun e w' q=>⟨1,q.1,by rw[Jl];rfl,by omega,q.2⟩
  ·exact(Aj _ w mb 1 cs Ty D nO nC P fr n (TT n) 40 hs hok har hln (htr n hln) Qw (by omega)).mono fun e w' q=>⟨_,q.1,(Jm TT n).symm,by omega,q.2⟩)
 clear hs hok har htr hx hn;go_enter Tryz.func120,Tryz.ntmps120;go_wp2_with fail;go_loopg [9] xs.length (fun k iv wr=>∃j:Nat,k+j=xs.length/\iv= .int .i64 (j:Int)/\wr=w/\(xs.take j).any (jL TT)=false)
 case atStart=>exact⟨0,by omega,rfl,rfl,by simp⟩
 case round=>
  obtain⟨j,hkj,rfl,rfl,hno⟩:=hrel;by_cases hlt:j<xs.length
  ·obtain⟨g,hg,gz,hgc⟩:=ae HX (fun q=>by rw[q]at hlt;simp at hlt);subst hg;have f0:wr.cell? ⟨g,j,none⟩=some (.int .i64 xs[j]):=hgc j hlt;clear hgc;have i0:(0:Int)<=(j:Int):=by omega
   have i1:(j:Int)<(xs.length:Int):=by omega
   have IC:=ah (ae ISZ xs[j] (aL hlt));have hst:xs.take (j+1)=xs.take j++[xs[j]]:=by rw[bR,aj hlt];rfl
   have hmem:xs[j]∈xs:=aL hlt;have HLT:=ah hlt;have HKJ:=ah hkj;generalize xs[j]=x at*;have HST:=ah hst;have HNO:=ah hno;have HMEM:=ah hmem;clear hno hkj hst hmem hlt;go_wp2_with fail;refine(ae IC).mono ?_;rintro e w5 ⟨s,rfl,hbs,h41,rfl⟩;by_cases hb:40<s
   ·have t1:decide ((40:Int)<(s:Int))=true:=by simp;omega
    have HY:=ah (show xs.any (jL TT)=true from pS.2 ⟨x,ae HMEM,by rw[<-hbs];simpa using hb⟩)
    clear hb hbs;go_wp2_with fail;go_ret;exact⟨by rw[ae HY];rfl,rfl⟩
   ·have t1:decide ((40:Int)<(s:Int))=false:=by simp;omega
    have HY:=ah (show (xs.take (j+1)).any (jL TT)=false by rw[ae HST,FT,ae HNO];simp[<-hbs];omega)
    clear hb hbs;go_wp2_with fail;go_roundg (gk - 1)
    case measure=>have:=ae HKJ;have:=ae HLT;omega
    case rel=>exact⟨j+1,by have:=ae HKJ;have:=ae HLT;omega,by go_num,rfl,ae HY⟩
  ·have HNO:=ah (show xs.any (jL TT)=false by rwa [cV (by omega)]at hno)
   clear hno;obtain rfl:j=xs.length:=by omega
   go_wp2_with fail;go_ret;exact⟨by rw[ae HNO];rfl,rfl⟩
def kw (fr:Nat->Nat) (G:List Gl):Int:=if G=[]then 1 else if fD fr G G.length=[]then 2 else 3
theorem tE (w:World) (mb:Nat) (cs:Array Value) (Ty:TypeId) (k:Int) (h:w.heap[mb]?=some (.cells cs Ty (0,0))) (h5:cs[5]?=some (.int .i64 k)) (hk:k≠0):
 Calls Tryz.prog 38 #[.pointer (some ⟨mb,0,none⟩)] w fun e w'=>e= .returned (.tuple #[])/\w'=w:=by
 have c5:=(aN h 5).trans h5;have mz:=aD h;have t1:(k == 0)=false:=by simpa using hk
 have t2:(k != 0)=true:=by simpa using hk
 clear h h5 hk;go_enter Tryz.func38,Tryz.ntmps38;go_wp2_with fail
 first | (go_end0;exact⟨rfl,rfl⟩) | (go_ret;exact⟨rfl,rfl⟩) | (refine aI (v:= .tuple #[]) (by simp[results,Tryz.results38,go_sem]) rfl ?_;exact⟨rfl,rfl⟩)
theorem vI (w:World) (mb:Nat) (cs:Array Value) (D:List Ng) (nO:Option Addr) (nC:Nat) (fr:Nat->Nat) (G:List Gl) (po:Option Addr) (pc:Nat) (h:jh w mb cs D nO nC fr G po pc) (hl:G.length<=1000000) (h5:cs[5]?=some (.int .i64 0)):
 Calls Tryz.prog 38 #[.pointer (some ⟨mb,0,none⟩)] w fun e w'=>e= .returned (.tuple #[])/\∃W,Below w.heap.size w W/\w'=W.setCell ⟨mb,5,none⟩ (.int .i64 (kw fr G)):=by
 have c5:=(aN h.st.blk 5).trans h5;have mz:=aD h.st.blk;have IR:=ah (vh w mb cs D nO nC fr G po pc h hl);have H:=ah h;clear h;go_enter Tryz.func38,Tryz.ntmps38;go_wp2_with fail;refine(ae IR).mono ?_;rintro e w2 ⟨oo,oc,rfl,-,hb2⟩;have h2:=(ae H).below hb2;have d3:=(aN h2.st.blk 3).trans h2.c3;have d5:=(aN h2.st.blk 5).trans h5;have x5:=bI h2.st.blk 5;have mz2:=aD h2.st.blk;have HB:=ah hb2;have HFE:=ah (show kw fr G=if G=[]then 1 else if fD fr G G.length=[]then 2 else 3 from rfl)
 generalize fD fr G G.length=Z at*;clear h2 hb2 IR H c5 h5;cases G with
 | nil=>rw[aH rfl]at HFE;go_wp2_with fail;go_end0;exact⟨rfl,w2,ae HB,by rw[ae HFE]⟩
 | cons g G=>
  rw[aG (by simp)]at HFE;have t1:(((G.length+1:Nat):Int) == 0)=false:=by simp;omega
  have t1':(((G.length:Nat):Int)+1 == 0)=false:=by simp;omega
  cases Z with
  | nil=>rw[aH rfl]at HFE;go_wp2_with fail;go_end0;exact⟨rfl,w2,ae HB,by rw[ae HFE]⟩
  | cons z Z=>
   rw[aG (by simp)]at HFE;have t2:(((Z.length+1:Nat):Int) == 0)=false:=by simp;omega
   have t2':(((Z.length:Nat):Int)+1 == 0)=false:=by simp;omega
   go_wp2_with fail;go_end0;exact⟨rfl,w2,ae HB,by rw[ae HFE]⟩
theorem Ct (w:World) (mb:Nat) (cs:Array Value) (Ty:TypeId) (D:List Ng) (nO:Option Addr) (nC:Nat) (fr:Nat->Nat) (P:Nat->Prop) (g:Gl) (d:Ng) (hs:fS w mb 1 cs Ty D nO nC) (hok:g8 D fr) (har:di w D P) (hn:g.l<D.length) (hd:D[fr g.l]?=some d) (hsg:g.sg.toList=[]):
 Calls Tryz.prog 121 #[.pointer (some ⟨mb,0,none⟩),.agg #[.int .i64 (g.l:Int),.string g.sg,.int .i64 g.r,.string g.op,.int .i64 g.z,.bool g.wt,.slice g.no g.nd.length g.nc]] w fun e w'=>e= .returned (.slice d.ao d.args.length d.cap)/\oQ w' d.ao (d.args.map fun n:Nat=>(n:Int))/\Below w.heap.size w w':=by
 obtain⟨l,sg,r,op,z,wt,no,nc,nd⟩:=g;dsimp only at*;obtain⟨k,hk⟩:=hok.hop l hn;have hmem:d∈D:=bK hd;have hb0:=(al w.heap.size w).alloc Qw (.cells #[.int .i64 (l:Int),.string sg,.int .i64 r,.string op,.int .i64 z,.bool wt,.slice no nd.length nc] 133);have HA:=ah (fun W (hb:Below w.heap.size w W)=>lC W mb 1 cs Ty D nO nC l (fr l) k d (hs.below hb) hk hd);have HR:=ah (fun W (hb:Below w.heap.size w W)=>(oQ.KY har hmem).below hb);have mz:=aD hs.blk;have HB0:=ah hb0;have t1:(sg.toList == [])=true:=by rw[hsg];rfl
 clear hs hok har hn hd hk hmem hb0 hsg;go_enter Tryz.func121,Tryz.ntmps121;go_wp2_with fail;go_region_with (go_at_call 82;refine(ae HA _ (by first | exact ae HB0 | exact(ae HB0).drew | exact(ae HB0).drew.drew | exact(ae HB0).drew.drew.drew | exact(ae HB0).drew.drew.drew.drew)).mono ?_;rintro e w5 ⟨rfl,rfl⟩)
 all_goals
  go_wp2_with fail;go_ret
  first
   | exact⟨rfl,ae HR _ (ae HB0),ae HB0⟩
   | exact⟨rfl,ae HR _ (ae HB0).drew,(ae HB0).drew⟩
   | exact⟨rfl,ae HR _ (ae HB0).drew.drew,(ae HB0).drew.drew⟩
   | exact⟨rfl,ae HR _ (ae HB0).drew.drew.drew,(ae HB0).drew.drew.drew⟩
theorem Cs (w:World) (mb:Nat) (g:Gl) (hsg:g.sg.toList≠[]):
 Calls Tryz.prog 121 #[.pointer (some ⟨mb,0,none⟩),.agg #[.int .i64 (g.l:Int),.string g.sg,.int .i64 g.r,.string g.op,.int .i64 g.z,.bool g.wt,.slice g.no g.nd.length g.nc]] w fun e w'=>∃o c,e= .returned (.slice o 3 c)/\oQ w' o [(g.l:Int),g.r,g.z]/\Below w.heap.size w w':=by
 obtain⟨l,sg,r,op,z,wt,no,nc,nd⟩:=g;dsimp only at*;have t1:(sg.toList == [])=false:=by simpa using hsg
 clear hsg;go_enter Tryz.func121,Tryz.ntmps121;go_wp2_with fail;go_ret;refine⟨_,_,rfl,fun _=>⟨w.heap.size+1,rfl,by simp,fun i hi=> ?_⟩,(Qx.alloc Qw _).alloc (by simp) _⟩
 match i,hi with
 | 0,_=>simp
 | 1,_=>simp
 | 2,_=>simp
def lK (D:List Ng) (fr:Nat->Nat) (g:Gl):List Int:=if g.sg.toList=[]then((D[fr g.l]?).elim [] fun d=>d.args.map fun n:Nat=>(n:Int))else [(g.l:Int),g.r,g.z]
def Qh (D:List Ng) (fr:Nat->Nat) (g:Gl) (w:World) (e:Ending) (w':World):Prop:=∃o c,e= .returned (.slice o (lK D fr g).length c)/\oQ w' o (lK D fr g)/\Below w.heap.size w w'
theorem E5 (w:World) (mb:Nat) (cs:Array Value) (Ty:TypeId) (D:List Ng) (nO:Option Addr) (nC:Nat) (fr:Nat->Nat) (P:Nat->Prop) (g:Gl) (hs:fS w mb 1 cs Ty D nO nC) (hok:g8 D fr) (har:di w D P) (hn:g.l<D.length):
 Calls Tryz.prog 121 #[.pointer (some ⟨mb,0,none⟩),.agg #[.int .i64 (g.l:Int),.string g.sg,.int .i64 g.r,.string g.op,.int .i64 g.z,.bool g.wt,.slice g.no g.nd.length g.nc]] w fun e w'=>Qh D fr g w e w':=by
 have hf:=hok.lt hn;by_cases h:g.sg.toList=[]
 ·refine(Ct w mb cs Ty D nO nC fr P g D[fr g.l] hs hok har hn (aj hf) h).mono ?_;rintro e w' ⟨h1,h2,h3⟩;have e:lK D fr g=D[fr g.l].args.map fun n:Nat=>(n:Int):=by unfold lK;rw[aH h,aj hf];rfl
  exact⟨_,_,by rw[e,bj];exact h1,by rw[e];exact h2,h3⟩
 ·refine(Cs w mb g h).mono ?_;rintro e w' ⟨o,c,h1,h2,h3⟩;have e:lK D fr g=[(g.l:Int),g.r,g.z]:=by unfold lK;rw[aG h]
  exact⟨o,c,by rw[e];exact h1,by rw[e];exact h2,h3⟩
def mE (D:List Ng) (fr:Nat->Nat) (TT:Nat->af.U) (g:Gl):Bool:=(lK D fr g).any (jL TT)
def Qu (w:World) (D:List Ng) (fr:Nat->Nat) (TT:Nat->af.U) (G:List Gl) (k:Nat) (iv:Value) (wr:World):Prop:=
 ∃j:Nat,k+j=G.length/\iv= .int .i64 (j:Int)/\Below w.heap.size w wr/\(G.take j).any (mE D fr TT)=false
theorem CO (w:World) (mb:Nat) (cs:Array Value) (D:List Ng) (nO:Option Addr) (nC:Nat) (fr:Nat->Nat) (TT:Nat->af.U) (P:Nat->Prop) (G:List Gl) (po:Option Addr) (pc:Nat) (vs:List Int) (vo:Option Addr) (vc:Nat) (h:jh w mb cs D nO nC fr G po pc) (har:di w D P) (htr:∀n,n<D.length->Tr (e8 D) fr n (TT n)) (hc2:cs[2]?=some (.slice vo vs.length vc)) (hv:oQ w vo vs) (hvn:∀x∈vs,tf D.length x) (hvl:vs.length<=1000000000) (hgn:∀g∈G,g.l<D.length/\(∀x∈lK D fr g,tf D.length x)/\(lK D fr g).length<=1000000000) (hl:G.length<=24):
 Calls Tryz.prog 71 #[.pointer (some ⟨mb,0,none⟩)] w fun e w'=>e= .returned (.bool (vs.any (jL TT)||G.any (mE D fr TT)))/\Below w.heap.size w w':=by
 have f3:=(aN h.st.blk 3).trans h.c3;have f2:=(aN h.st.blk 2).trans hc2;have mz:=aD h.st.blk;have t1:decide ((24:Int)<(G.length:Int))=false:=by simp;omega
 have IV:=ah (pv w mb cs _ D nO nC fr TT P vs vo vc h.st h.ok har htr hv hvn hvl);have IP:=ah (fun W (hb:Below w.heap.size w W) (g:Gl) (hg:g∈G)=>E5 W mb cs _ D nO nC fr P g ((h.below hb).st) h.ok (har.below hb) (hgn g hg).1);have IH:=ah (fun W (hb:Below w.heap.size w W) (g:Gl) (hg:g∈G) (o:Option Addr) (c:Nat) (hx:oQ W o (lK D fr g))=>pv W mb cs _ D nO nC fr TT P (lK D fr g) o c ((h.below hb).st) h.ok (har.below hb) htr hx (hgn g hg).2.1 (hgn g hg).2.2);have H:=ah h;clear h har htr hc2 hv hvn hvl hgn;have hq:vs.any (jL TT)=true\/vs.any (jL TT)=false:=by cases vs.any (jL TT)<;>simp
 have HQ:=ah hq;clear hq;rcases ae HQ with hq | hq
 ·rw[hq]at IV;have HR:=ah (show (vs.any (jL TT)||G.any (mE D fr TT))=true by rw[hq];rfl)
  clear hq HQ;go_enter Tryz.func71,Tryz.ntmps71;go_wp2_with fail;refine(ae IV).mono ?_;rintro e w2 ⟨rfl,rfl⟩;go_wp2_with fail;go_ret;exact⟨by rw[ae HR];rfl,Qx⟩
 ·rw[hq]at IV;have HR:=ah (show (vs.any (jL TT)||G.any (mE D fr TT))=G.any (mE D fr TT)by rw[hq];rfl)
  clear hq HQ;go_enter Tryz.func71,Tryz.ntmps71;go_wp2_with fail;refine(ae IV).mono ?_;rintro e w2 ⟨rfl,rfl⟩;go_wp2_with fail;go_loopg [25] G.length (fun k iv wr=>Qu w2 D fr TT G k iv wr)
  case atStart=>exact⟨0,by omega,rfl,Qx,by simp⟩
  case round=>
   obtain⟨j,hkj,rfl,hbe,hno⟩:=hrel;by_cases hlt:j<G.length
   ·obtain⟨g,hg⟩:∃g,po=some ⟨g,0,none⟩:=by
     rcases(ae H).fp.2 with⟨q,q2⟩ | ⟨g,cp,cur,q,_⟩
     ·omega
     ·simp only[aS]at q;exact⟨g,q.1⟩
    subst hg;have gz0:=((ae H).fp.lt g rfl).2;have fc:∀i,i<7->wr.cell? ⟨g,j*7+i,none⟩=(mD G[j])[i]?:=fun i hi=>by rw[hbe.cell (p:=⟨g,j*7+i,none⟩) gz0,(ae H).fp.cellAt (j*7+i) (by omega)];exact qD hlt i hi
    have e0:=fc 0 (by omega);have e1:=fc 1 (by omega);have e2:=fc 2 (by omega);have e3:=fc 3 (by omega);have e4:=fc 4 (by omega);have e5:=fc 5 (by omega);have e6:=fc 6 (by omega);simp only[mD,aq,aA,dJ]at e0 e1 e2 e3 e4 e5 e6;have gz:g<wr.heap.size:=aJ gz0 hbe.size;have i0:(0:Int)<=(j:Int):=by omega
    have i1:(j:Int)<(G.length:Int):=by omega
    have hmem:G[j]∈G:=aL hlt;have hst:G.take (j+1)=G.take j++[G[j]]:=by rw[bR,aj hlt];rfl
    have hW:=hbe.alloc hbe.size (.cells #[.int .i64 (G[j].l:Int),.string G[j].sg,.int .i64 G[j].r,.string G[j].op,.int .i64 G[j].z,.bool G[j].wt,.slice G[j].no G[j].nd.length G[j].nc] 133);have IPj:=ah (ae IP _ hW G[j] hmem);have HW:=ah hW;have HST:=ah hst;have HNO:=ah hno;have HMEM:=ah hmem;have HKJ:=ah hkj;have HLT:=ah hlt;generalize G[j]=gg at*;clear hno hbe hkj hlt fc hst hmem hW;go_wp2_with fail;refine(ae IPj).mono ?_;rintro e w5 ⟨o,c,rfl,hx,hb5⟩;have hb6:=(ae HW).trans (hb5.mono (ae HW).size);have IHj:=ah (ae IH w5 hb6 gg (ae HMEM) o c hx);have HB6:=ah hb6;have hbb:mE D fr TT gg=true\/mE D fr TT gg=false:=by cases mE D fr TT gg<;>simp
    have HBB:=ah hbb;clear hx hb5 hb6 hbb;change Hid (Calls _ _ _ _ fun e w'=>e= .returned (.bool (mE D fr TT gg))/\w'=w5)at IHj;generalize (lK D fr gg).length=pl at*;rcases ae HBB with hb | hb
    ·rw[hb]at IHj;have HY:=ah (show G.any (mE D fr TT)=true from pS.2 ⟨gg,ae HMEM,hb⟩)
     clear hb HBB;go_wp2_with fail;refine(ae IHj).mono ?_;rintro e w6 ⟨rfl,rfl⟩;go_wp2_with fail;go_ret;exact⟨by rw[ae HR,ae HY];rfl,ae HB6⟩
    ·rw[hb]at IHj;have HY:=ah (show (G.take (j+1)).any (mE D fr TT)=false by rw[ae HST,FT,ae HNO];simp[hb])
     clear hb HBB;go_wp2_with fail;refine(ae IHj).mono ?_;rintro e w6 ⟨rfl,rfl⟩;go_wp2_with fail;go_roundg (gk - 1)
     case measure=>have:=ae HKJ;have:=ae HLT;omega
     case rel=>exact⟨j+1,by have:=ae HKJ;have:=ae HLT;omega,by go_num,ae HB6,ae HY⟩
   ·have HNO:=ah (show G.any (mE D fr TT)=false by rwa [cV (by omega)]at hno)
    have HBE:=ah hbe;clear hno hbe;obtain rfl:j=G.length:=by omega
    go_wp2_with fail;go_ret;exact⟨by rw[ae HR,ae HNO];rfl,ae HBE⟩
theorem wY (w:World) (mb:Nat) (cs:Array Value) (D:List Ng) (nO:Option Addr) (nC:Nat) (fr:Nat->Nat) (G:List Gl) (po:Option Addr) (pc:Nat) (h:jh w mb cs D nO nC fr G po pc) (hl:24<G.length):
 Calls Tryz.prog 71 #[.pointer (some ⟨mb,0,none⟩)] w fun e w'=>e= .returned (.bool true)/\w'=w:=by
 have f3:=(aN h.st.blk 3).trans h.c3;have mz:=aD h.st.blk;have t1:decide ((24:Int)<(G.length:Int))=true:=by simp;omega
 clear h;go_enter Tryz.func71,Tryz.ntmps71;go_wp2_with fail;go_ret;exact⟨rfl,rfl⟩
theorem EB (w:World) (sb so nb:Nat) (cs:Array Value) (T:TypeId) (D:List Ng) (no:Option Addr) (nc:Nat) (h:fS w sb so cs T D no nc):
 Calls Tryz.prog 72 #[.pointer (some ⟨sb,so,none⟩),.int .i64 (-1),.pointer (some ⟨nb,0,none⟩)] w fun e w'=>e= .returned (.agg #[.int .i64 0,.int .i64 0,.string ⟨#[]⟩,.slice none 0 0])/\Below w.heap.size w w':=by
 have HL:=ah (fun W (hb:Below w.heap.size w W)=>td W sb so cs T D no nc (h.below hb));have HA:=ah (fun W (hb:Below w.heap.size w W)=>vQ W sb so cs T D no nc (h.below hb));have hb0:=(al w.heap.size w).alloc Qw (.cells #[.int .i64 0,.int .i64 0,.string ⟨#[]⟩,.slice none 0 0] 74);have HR0:=ah (aB w (.cells #[.int .i64 0,.int .i64 0,.string ⟨#[]⟩,.slice none 0 0] 74));have HB0:=ah hb0;clear h hb0;go_enter Tryz.func72,Tryz.ntmps72;go_wp2_with fail;refine(ae HL _ (ae HB0)).mono ?_;rintro e w1 ⟨rfl,hb1⟩;have hr1:=(hb1.block w.heap.size (by simp)).trans (ae HR0);have d0:=aN hr1;have x0:=bI hr1;have dz:=aD hr1;have hb2:=(ae HB0).trans (hb1.mono (ae HB0).size);have HB2:=ah hb2;have z2:=hb2.size;clear hb1 hr1 hb2;go_wp2_with fail;refine(ae HA _ (((ae HB2).alloc z2 _).alloc (by simp;omega) _)).mono ?_;rintro e w3 ⟨rfl,rfl⟩;go_wp2_with fail;refine dW 1 ?_;rw[bT];go_wp2_with fail;refine aI (v:= .agg #[.int .i64 0,.int .i64 0,.string ⟨#[]⟩,.slice none 0 0]) (by simp[results,Tryz.results72,go_sem,d0,dz,aC]) rfl ?_;exact⟨rfl,((((((ae HB2).setCell Qw _).setCell Qw _).setCell Qw _).setCell Qw _).alloc (by simp only[fj];exact z2) _).alloc (by simp only[aF,fj];omega) _⟩
def JP (b:Nat) (E:List Ng):Prop:=∀(i:Nat) (d:Ng),E[i]?=some d->d.nx=b+i/\d.qs=0/\jw (b+i) d
theorem JP.at {D E:List Ng} (h:JP D.length E) {n:Nat} (h1:D.length<=n) (h2:n<(D++E).length):(D++E)[n].nx=n/\(D++E)[n].qs=0/\jw n (D++E)[n]:=by rw[jm h1];rw[au]at h2;have:=h (n - D.length) E[n - D.length] (aj (by omega));rwa [show D.length+(n - D.length)=n by omega]at this
theorem g8.Mq (h:g8 D fr) (hE:JP D.length E):g8 (D++E) fr:=by
 refine⟨fun n hn=> ?_,fun n hn=> ?_,fun n hn=>h.out n (by rw[au]at hn;omega)⟩
 ·by_cases q:n<D.length
  ·rw[cq q];exact(h.nd n q).mono (by rw[au];omega)
  ·exact(hE.at (by omega) hn).2.2.mono (by omega)
 ·by_cases q:n<D.length
  ·obtain⟨k,hk⟩:=h.hop n q
   have key:∀{n m k},Hop D n m k->Hop (D++E) n m k:=by
    intro n m k hk;induction hk with
    | stop q e=>exact .stop (by rw[au];omega) (by rw[cq q];exact e)
    | go q e _ ih=>exact .go (by rw[au];omega) (by rw[cq q];exact e) (by rw[cq q];exact ih)
   exact⟨k,key hk⟩
  ·rw[h.out n (by omega)];exact⟨0,.stop hn (hE.at (by omega) hn).1⟩
theorem EL {T:Nat->af.U} (h:g8 D fr) (hS:kx (e8 D) fr T) (hE:JP D.length E):∃T',kx (e8 (D++E)) fr T'/\∀n,n<D.length->T' n=T n:=by
 have ho:=h.Mq hE;have hplain:Plain (e8 (D++E)):=fun n hg=>by
  by_cases q:n<(D++E).length
  ·rw[m7 q]at hg;rw[lO q];exact((ho.nd n q).v ((ho.nd n q).nQ.1 hg)).2.2.2
  ·exact xe (by omega)
 have htr:∀n,∃u,Tr (e8 (D++E)) fr n u:=by
  intro n;induction n using Nat.strongRecOn with
  | _ n ih=>
   by_cases q:n<D.length
   ·exact⟨_,rW h (hS.tr n) q⟩
   ·have hf:fr n=n:=h.out n (by omega);refine oC hplain fun a ha=>ih a ?_;rw[hf]at ha;by_cases r:n<(D++E).length
    ·rw[lO r]at ha;exact(hE.at (by omega) r).2.2.A7 a ha
    ·rw[xe (by omega)]at ha;cases ha
 refine⟨fun n=>Classical.choose (htr n),⟨⟨ho.idem,fun n hn=> ?_⟩,⟨fun n hn=> ?_,fun n hn i x y hx hy=> ?_⟩,fun n=>dI (htr n),hplain,fun n hg=> ?_⟩,fun n hn=> ?_⟩
 ·by_cases q:n<D.length
  ·rw[iD q]at hn;rw[iD (h.lt q)];exact hS.fG.nQ n hn
  ·rw[h.out n (by omega)];exact hn
 ·by_cases q:n<D.length
  ·rw[iD q]at hn;have:=hS.CU.nQ n hn;unfold qR at this⊢;rw[iD q,iD (h.lt q),kQ q,kQ (h.lt q)];exact this
  ·rw[h.out n (by omega)];exact⟨rfl,rfl⟩
 ·by_cases q:n<D.length
  ·rw[iD q]at hn;rw[kQ q]at hx;rw[kQ (h.lt q)]at hy;exact hS.CU.args n hn i x y hx hy
  ·rw[h.out n (by omega),hx]at hy;obtain rfl:=cF hy;exact .fr rfl
 ·by_cases q:n<D.length
  ·rw[iD (h.lt q)]at hg;exact hS.xU n hg
  ·rw[h.out n (by omega)];exact Qw
 ·exact(dI (htr n)).one (rW h (hS.tr n) hn)
def ko (x:Int) (n:Nat):Ng:=⟨2,x,⟨#[]⟩,0,none,0,[],n,0⟩
theorem AO (x:Int) (b:Nat):JP b [ko x b]:=fun i d hd=>by
 cases i with
 | zero=>simp at hd;subst hd;exact⟨rfl,rfl,aw (ay rfl),(fun q=>absurd q (show¬(2:Int)=1 by decide)),(fun _=>⟨rfl,rfl,rfl⟩),(fun q=>absurd q (show¬(2:Int)=3 by decide)),(fun a ha=>by cases ha)⟩
 | succ i=>simp at hd
theorem L8 (P:Nat->Prop) (w:World) (sb so:Nat) (cs:Array Value) (T:TypeId) (cb:Nat) (D:List Ng) (V:List Nat) (no:Option Addr) (nc:Nat) (vo:Option Addr) (vc:Nat) (x:Int) (h:mA P w sb so cs T cb D V no nc vo vc) (hP:∀g,w.heap.size<=g->P g) (hT:T≠74) (hd:D.length+1<=1000000000):
 Calls Tryz.prog 45 #[.pointer (some ⟨sb,so,none⟩),.agg #[.int .i64 2,.int .i64 x,.string ⟨#[]⟩,.slice none 0 0],.pointer (some ⟨cb,0,none⟩)] w fun e w'=>e= .returned (.int .i64 (D.length:Int))/\∃no' nc',mA P w' sb so (cs.setIfInBounds so (.slice no' (D.length+1) nc')) T cb (D++[ko x D.length]) V no' nc' vo vc/\bZ (dO sb no cb vo) (dO sb no' cb vo) w w':=by
 have hso:so<cs.size:=(bd.1 h.st.qF).1;have hB:=(al w.heap.size w).alloc Qw (.cells #[.int .i64 2,.int .i64 x,.string ⟨#[]⟩,.slice none 0 0] 74);have had:=h.below hB;have hbx:=aB w (.cells #[.int .i64 2,.int .i64 x,.string ⟨#[]⟩,.slice none 0 0] 74);generalize hwr:w.alloc (.cells #[.int .i64 2,.int .i64 x,.string ⟨#[]⟩,.slice none 0 0] 74)=wr at*;have s0:=had.st.cell;have b0:=aN hbx 0;have b1:=aN hbx 1;have b2:=aN hbx 2;have b3:=aN hbx 3;simp only[aE,aq,aA]at b0 b1 b2 b3;have sz:=aD had.st.blk;have z4:=aD hbx;have LB:=ah (show Calls _ _ _ _ _ from pn (wr.drew) ⟨2,x,⟨#[]⟩,none,0,0⟩)
 have hsb':sb≠w.heap.size:=fun e=>by have:=had.st.blk;rw[e,hbx]at this;simp only[aM,aR]at this;exact hT this.2.1.symm
 have HNS:=ah (show some sb≠(Value.slice no D.length nc).ownBlock from dF (cm had.st.own had.st.blk had.st.ty))
 have HNB:=ah (show some w.heap.size≠(Value.slice no D.length nc).ownBlock from dF (cm had.st.own hbx (by decide)))
 have HSO:=ah hso;have HAD2:=ah had;have HP:=ah hP;have hz0:=hB.size;have HB0:=ah hB;obtain⟨ti,hi,hzz0,hzz1,hzz2⟩:=dH CP;clear h had hP hT hso hB hbx;go_enter Tryz.func45,Tryz.ntmps45;go_wp2_with fail;refine dW 1 ?_;rw[bT];go_wp2_with fail;go_region_law (first
  | (go_simp;go_at_call 78;refine(ae LB).mono ?_;rintro e w2 ⟨rfl,hb⟩;have HB2:=ah (((al _ wr).drew).trans hb);have k0:=(hb.cell (p:=⟨sb,so,none⟩) sz).trans s0;have k1:=(hb.cell (p:=⟨w.heap.size,0,none⟩) z4).trans b0;have k2:=(hb.cell (p:=⟨w.heap.size,1,none⟩) z4).trans b1;have k3:=(hb.cell (p:=⟨w.heap.size,2,none⟩) z4).trans b2;have k4:=(hb.cell (p:=⟨w.heap.size,3,none⟩) z4).trans b3;have hz2:wr.heap.size<=w2.heap.size:=hb.size;have k0':∀o,(w2.alloc o).cell? ⟨sb,so,none⟩=some (.slice no D.length nc):=(fun o=>(aC _ _ _ (by omega)).trans k0);clear hb)
  | (refine step_append_lies _ (by rfl) _ _ _ (by rfl) 0 147 ti _ 7 80 Tryz.underlying83 hi hzz0 hzz1 hzz2 rfl (by omega) (.slice no D.length nc) D.length (nZ D) (by rfl) (((ae HAD2).below (ae HB2)).st.own.alloc _) ⟨w2.heap.size,0,none⟩ 1 1 [.int .i64 2,.int .i64 x,.string ⟨#[]⟩,.int .i64 0,.slice none 0 0,.int .i64 (D.length:Int),.int .i64 0] (by rfl) (by rfl) (World.news_of_block (cs:=#[.int .i64 2,.int .i64 x,.string ⟨#[]⟩,.int .i64 0,.slice none 0 0,.int .i64 (D.length:Int),.int .i64 0]) (t:=147) (fr:=(0,0)) (aB w2 _)) (by simp[Value.oneCell']) (by omega) (by unfold maxLen;omega) (by omega) (cI _) (w2.heap.size+1) (by simp) ?_;intro g cap' w7 hown1 hgrow hat hlg;have m0:=(hgrow.cell_far ⟨sb,so,none⟩ (by simp;omega) (ae HNS)).trans ((aC _ _ _ (by omega)).trans k0);have m1:=(hgrow.cell_far ⟨w.heap.size,0,none⟩ (by simp;omega) (ae HNB)).trans ((aC _ _ _ (by omega)).trans k1);have m2:=(hgrow.cell_far ⟨w.heap.size,1,none⟩ (by simp;omega) (ae HNB)).trans ((aC _ _ _ (by omega)).trans k2);have m3:=(hgrow.cell_far ⟨w.heap.size,2,none⟩ (by simp;omega) (ae HNB)).trans ((aC _ _ _ (by omega)).trans k3);have m4:=(hgrow.cell_far ⟨w.heap.size,3,none⟩ (by simp;omega) (ae HNB)).trans ((aC _ _ _ (by omega)).trans k4);have HN:=ah (((ae HAD2).below (ae HB2)).node (fun g q=>ae HP g (by omega)) (ae HSO) (Qx.alloc Qw _) (d:=ko x D.length) (show w7.ownsRow _ _ _ _ _ (_++[_,_,_,_,_,_,_])from hown1) hgrow (by rcases hat with q | q;exact ay (bP q);(right;omega)) (fun q=>absurd rfl q));have k9:w7.frozen? ⟨sb,so,none⟩=false:=(by have:=bI (ae HN).1.st.blk so;rwa [cH]at this);have zz7:sb<w7.heap.size:=(by have:=aD (ae HN).1.st.blk;rwa [fj]at this);clear hown1 hgrow hat hlg))
 all_goals (go_wp2_with fail;go_ret;exact⟨rfl,_,_,(ae HN).1,((bZ.aX (ae HB0)).trans (bZ.aX (ae HB2))).trans (ae HN).2⟩)
end Go.Proofs.YthfjnfcekeknlabGreatDoor
namespace af
def lY (op:List UInt8) (u v:U):Wn:=if op=[]then Wn.none.fh u else(Wn.none.fh u).fh v
end af
namespace Go.Proofs.YthfjnfcekeknlabGreatDoor
open Go.RowKit af
variable {V V':List Nat} {S:TypeId} {k cb vc nC vc' mb pc nc' n:Nat} {w w':World} {ys cs:Array Value} {vo no' nO vo' po:Option Addr} {fr:Nat->Nat} {D D':List Ng} {P:Nat->Prop} {x:Int} {T TT:Nat->af.U} {W:Wn}
theorem nI (h:NP w cb V vo vc) (hk:w.heap[k]?=some (.cells ys S (0,0))) (h1:S≠90):k≠cb:=fun e=>by rw[e,h.blk]at hk;simp only[aM,aR]at hk;exact h1 hk.2.1.symm
theorem jh.added {G:List Gl} (h:jh w mb cs D nO nC fr G po pc) (hsc:NP w cb V vo vc) (hvo:∀g∈G,∀k,rowOf g.no k->¬rowOf vo k) (had:mA P w' mb 1 (cs.setIfInBounds 1 (.slice no' D'.length nc')) 88 cb D' V' no' nc' vo' vc') (ok:g8 D' fr) (hl:D.length<=D'.length) (hf:bZ (dO mb nO cb vo) (dO mb no' cb vo') w w'):jh w' mb (cs.setIfInBounds 1 (.slice no' D'.length nc')) D' no' nc' fr G po pc:=by
 have nomb:∀{k:Nat} {ys:Array Value} {S:TypeId},w.heap[k]?=some (.cells ys S (0,0))->S≠88->k≠mb:=fun {k ys S} hk hS e=>by rw[e,h.st.blk]at hk;simp only[aM,aR]at hk;exact hS hk.2.1.symm
 refine⟨had.st,ok,by rw[dp (by omega)];exact h.c3,aO h.fp fun g q=> ?_,fun g hg=>aO (h.pf g hg) fun k q=> ?_,fun g hg v hv=>aJ (h.DT g hg v hv) hl,h.nl⟩
 ·obtain⟨cur,hc⟩:=bL h.fp (bP q);refine hf.block g (aD hc) ?_;rintro(e | e | e | e)
  ·exact nomb hc (by decide) e
  ·exact cm h.st.own hc (by decide) e
  ·exact nI hsc hc (by decide) e
  ·exact cm hsc.own hc (by decide) e
 ·obtain⟨cur,hc⟩:=bL (h.pf g hg) (bP q);refine hf.block k (aD hc) ?_;rintro(e | e | e | e)
  ·exact nomb hc (by decide) e
  ·exact cm h.st.own hc (by decide) e
  ·exact nI hsc hc (by decide) e
  ·exact hvo g hg k (bP q) e
theorem rP:(D++[ko x D.length]).length=D.length+1:=by simp
def BY (mb:Nat) (cs:Array Value) (D:List Ng) (nO:Option Addr) (nC:Nat) (fr:Nat->Nat) (TT:Nat->af.U) (P:Nat->Prop) (G:List Gl) (po:Option Addr) (pc i:Nat) (g:Gl) (W:Wn) (r:Option Int) (w:World) (e:Ending) (w':World):Prop:=
 (W.wt≠[]/\∃(wo:Option Addr) (wc:Nat),e= .returned (.int .i64 (-1))/\jh w' mb cs D nO nC fr (G.set i {g with wt:=true,no:=wo,nc:=wc,nd:=W.wt}) po pc/\bZ (rowOf po) (rowOf po) w w'/\(∀k,rowOf wo k->w.heap.size<=k))\/
 (W.wt=[]/\r=none/\e= .returned (.int .i64 (-2))/\w'.heap[mb]?=some (.cells (cs.setIfInBounds 5 (.int .i64 5)) 88 (0,0))/\bZ (fun k=>k=mb) (fun k=>k=mb) w w')\/
 (W.wt=[]/\∃(x:Int) (no':Option Addr) (nc':Nat) (T2:Nat->af.U) (w2:World),r=some x/\g8 (D++[ko x D.length]) fr/\kx (e8 (D++[ko x D.length])) fr T2/\(∀m,m<D.length->T2 m=TT m)/\T2 D.length= .n 3 [] x []/\jh w2 mb (cs.setIfInBounds 1 (.slice no' (D++[ko x D.length]).length nc')) (D++[ko x D.length]) no' nc' fr G po pc/\di w2 (D++[ko x D.length]) P/\bZ (eP mb nO) (eP mb no') w w2/\MC mb (cs.setIfInBounds 1 (.slice no' (D++[ko x D.length]).length nc')) (D++[ko x D.length]) no' nc' fr T2 G i g.l D.length w2 e w')
theorem Cy (_ok:g8 (D++[ko x D.length]) fr) (hS:kx (e8 (D++[ko x D.length])) fr T):T D.length= .n 3 [] x []:=by
 have hn:D.length<(D++[ko x D.length]).length:=by simp
 have hdn:(D++[ko x D.length])[D.length]=ko x D.length:=by simp
 rw[hS.reads.node D.length 3 [] x (by rw[m7 hn,hdn];rfl),lO hn,hdn];rfl
theorem Jo (ok:g8 D fr) (hn:n<D.length) (hW:∀v∈W.wt,v<D.length) (hv:∀x,TT n= .v x->x=([],fr n)):∀v∈(W.fh (TT n)).wt,v<D.length:=fun v hm=>by
 cases hu:TT n with
 | n k tx num ss=>rw[hu]at hm;exact hW v hm
 | v x=>
  rw[hu,hv x hu]at hm;have:v∈gA W.wt (fr n):=hm;unfold gA at this;split at this
  ·exact hW v this
  ·rcases bA.1 this with q | q
   ·exact hW v q
   ·rw[a8.1 q];exact ok.lt hn
end Go.Proofs.YthfjnfcekeknlabGreatDoor
namespace af
structure Hh (x:dq):Prop where
 wl:iE 8 x.left
 r0:x.sign=[]->x.right=none
 r1:x.sign≠[]->∃r,x.right=some r/\iE 8 r
 z0:x.op=[]->x.last=none
 z1:x.op≠[]->∃z,x.last=some z/\iE 8 z
 sz:x.op≠[]->x.sign≠[]
end af
namespace Go.Proofs.YthfjnfcekeknlabGreatDoor
open Go.RowKit af
theorem bZ.iG {R R':Nat->Prop} {w W:World} (h:bZ R R' w W) {b:Nat} (hb:w.heap.size<=b) (c:Nat) (v:Value):bZ R R' w (W.setCell ⟨b,c,none⟩ v):=
 ⟨h.os,h.tape,h.output,by rw[fj];exact h.size,fun k hk hr=>(b6 _ _ _ _ (by omega)).trans (h.block k hk hr),h.row⟩
theorem lU.iG {P:Nat->Prop} {w:World} {sb so:Nat} {cs:Array Value} {T:TypeId} {cb:Nat} {D:List Ng} {V:List Nat} {no:Option Addr} {nc:Nat} {vo:Option Addr} {vc:Nat} {fr:Nat->Nat} {TT:Nat->af.U} (h:lU P w sb so cs T cb D V no nc vo vc fr TT) {b:Nat} {ys:Array Value} {S:TypeId} (hb:w.heap[b]?=some (.cells ys S (0,0))) (h1:S≠T) (h2:S≠147) (h3:S≠90) (h4:S≠3) (c:Nat) (v:Value):lU P (w.setCell ⟨b,c,none⟩ v) sb so cs T cb D V no nc vo vc fr TT:=
 h.iH fun g ys' S' hg hS=>b6 _ _ _ _ (fun e=>by
  rw[e,hb]at hg;simp only[aM,aR]at hg;have:=hg.2.1;subst this;rcases hS with q | q | q | q
  ·exact h1 q
  ·exact h2 q
  ·exact h3 q
  ·exact h4 q)
structure JM (P:Nat->Prop) (wr:World) (mb:Nat) (cs:Array Value) (cb:Nat) (D:List Ng) (V:List Nat) (no vo:Option Addr) (fr:Nat->Nat) (TT:Nat->af.U) (ic mc:Array Value) (ns:List (List UInt8)) (E:List Ng) (F:List Nat) (no':Option Addr) (nc':Nat) (vo':Option Addr) (vc':Nat) (T':Nat->af.U) (W:World):Prop where
 ms:lU P W mb 1 (cs.setIfInBounds 1 (.slice no' (D++E).length nc')) 88 cb (D++E) (V++F) no' nc' vo' vc' fr T'
 old:∀m,m<D.length->T' m=TT m
 nd:gP D.length E
 nv:iZ D.length E F
 ln:(V++F).length=ns.length
 fg:bZ (dO mb no cb vo) (dO mb no' cb vo') wr W
 bi:W.heap[wr.heap.size]?=some (.cells ic 125 (0,0))
 bm:W.heap[wr.heap.size+1]?=some (.cells mc 133 (0,0))
section
variable {P:Nat->Prop} {wr:World} {mb:Nat} {cs:Array Value} {cb:Nat} {D:List Ng} {V:List Nat} {no vo:Option Addr} {fr:Nat->Nat} {TT:Nat->af.U} {ic mc:Array Value} {ns:List (List UInt8)} {E:List Ng} {F:List Nat} {no':Option Addr} {nc':Nat} {vo':Option Addr} {vc':Nat} {T':Nat->af.U} {W:World}
theorem JM.below (h:JM P wr mb cs cb D V no vo fr TT ic mc ns E F no' nc' vo' vc' T' W) {W':World} (hb:Below W.heap.size W W'):JM P wr mb cs cb D V no vo fr TT ic mc ns E F no' nc' vo' vc' T' W':=
 ⟨h.ms.below hb,h.old,h.nd,h.nv,h.ln,h.fg.trans (bZ.aX hb),(hb.block _ (aD h.bi)).trans h.bi,(hb.block _ (aD h.bm)).trans h.bm⟩
theorem JM.set (h:JM P wr mb cs cb D V no vo fr TT ic mc ns E F no' nc' vo' vc' T' W) (c:Nat) (v:Value):JM P wr mb cs cb D V no vo fr TT ic (mc.setIfInBounds c v) ns E F no' nc' vo' vc' T' (W.setCell ⟨wr.heap.size+1,c,none⟩ v):=
 ⟨h.ms.iG h.bm (by decide) (by decide) (by decide) (by decide) c v,h.old,h.nd,h.nv,h.ln,h.fg.iG (bS _) c v,(b6 _ _ _ _ (by omega)).trans h.bi,bB h.bm c v⟩
theorem JM.add (h:JM P wr mb cs cb D V no vo fr TT ic mc ns E F no' nc' vo' vc' T' W) {N:List (List UInt8)} {t:Tm} {e:Ending} {w':World} (hq:PL P mb 1 (cs.setIfInBounds 1 (.slice no' (D++E).length nc')) 88 cb (D++E) (V++F) no' vo' fr T' N ns t W e w'):
 ∃(n:Nat) (E2:List Ng) (F2:List Nat) (no2:Option Addr) (nc2:Nat) (vo2:Option Addr) (vc2:Nat) (T2:Nat->af.U),e= .returned (.int .i64 (n:Int))/\JM P wr mb cs cb D V no vo fr TT ic mc (aP 8 ns t) (E++E2) (F++F2) no2 nc2 vo2 vc2 T2 w'/\n<(D++(E++E2)).length/\T2 n=fb (ej T2 (V++(F++F2)) N) 8 t/\(∀m,m<(D++E).length->T2 m=T' m)/\E2.length+1<=6561:=by
 obtain⟨n,E2,F2,no2,nc2,vo2,vc2,T2,rfl,ms,old,nd,nv,ln,nl,tn,el,fg⟩:=hq;rw[set_set]at ms;refine⟨n,E2,F2,no2,nc2,vo2,vc2,T2,rfl,⟨by rw[<-aK,<-aK];exact ms,fun m hm=> ?_,h.nd.app (by rw[au]at nd;exact nd),h.nv.app (by rw[au]at nv;exact nv),by rw[<-aK];exact ln,h.fg.trans fg,?_,?_⟩,by rw[<-aK];exact nl,by rw[<-aK];exact tn,old,el⟩
 ·rw[old m (by rw[au];omega),h.old m hm]
 ·exact h.ms.ad.blk fg h.bi (by decide) (by decide) (by decide) (by decide)
 ·exact h.ms.ad.blk fg h.bm (by decide) (by decide) (by decide) (by decide)
end
structure xM (T:Nat->af.U) (len:Nat) (η:List UInt8->af.U) (x:dq) (g:Gl):Prop where
 sg:g.sg.toList=x.sign
 op:g.op.toList=x.op
 ll:g.l<len
 tl:T g.l=fb η 8 x.left
 r0:x.sign=[]->g.r= -1
 r1:∀r,x.right=some r->∃n:Nat,g.r=(n:Int)/\n<len/\T n=fb η 8 r
 z0:x.op=[]->g.z= -1
 z1:∀z,x.last=some z->∃n:Nat,g.z=(n:Int)/\n<len/\T n=fb η 8 z
 nw:g.wt=false
 nd:g.nd=[]
 no:g.no=none
 nc:g.nc=0
theorem jh.joined {w W w7:World} {mb:Nat} {cs:Array Value} {D:List Ng} {nO:Option Addr} {nC:Nat} {fr:Nat->Nat} {G:List Gl} {po:Option Addr} {pc:Nat} (h:jh w mb cs D nO nC fr G po pc) (hW:Below w.heap.size w W) {g' cap':Nat} {g:Gl} (hown:w7.ownsRow 0 133 7 (.slice (some ⟨g',0,none⟩) (G.length+1) cap') (G.length+1) (G.flatMap mD++mD g)) (hg:W.grownBy w7 (Value.slice po G.length pc).ownBlock) (hat:rowOf po g'\/w.heap.size<=g') (hnd:g.nd=[]) (hno:g.no=none) (hnc:g.nc=0):
 jh (w7.setCell ⟨mb,3,none⟩ (.slice (some ⟨g',0,none⟩) (G.length+1) cap')) mb (cs.setIfInBounds 3 (.slice (some ⟨g',0,none⟩) (G++[g]).length cap')) D nO nC fr (G++[g]) (some ⟨g',0,none⟩) cap'/\bZ (fun k=>k=mb\/rowOf po k) (fun k=>k=mb\/rowOf (some ⟨g',0,none⟩) k) w (w7.setCell ⟨mb,3,none⟩ (.slice (some ⟨g',0,none⟩) (G.length+1) cap')):=by
 have mz:=aD h.st.blk;have wz:=hW.size;have nomb:¬rowOf po mb:=cm h.fp h.st.blk (by decide);have keep:∀k,k≠mb->¬rowOf po k->k<w.heap.size->(w7.setCell ⟨mb,3,none⟩ (.slice (some ⟨g',0,none⟩) (G.length+1) cap')).heap[k]?=w.heap[k]?:=fun k h1 h2 h3=>by rw[b6 _ _ _ _ h1,hg.block k (by omega) (dF h2),hW.block k h3]
 have iH:∀(k:Nat) (ys:Array Value) (S:TypeId),w.heap[k]?=some (.cells ys S (0,0))->S≠133->S≠88->(w7.setCell ⟨mb,3,none⟩ (.slice (some ⟨g',0,none⟩) (G.length+1) cap')).heap[k]?=w.heap[k]?:=fun k ys S hk h1 h2=>keep k (fun e=>by rw[e,h.st.blk]at hk;simp only[aM,aR]at hk;exact h2 hk.2.1.symm) (cm h.fp hk h1) (aD hk);have h3:3<cs.size:=(bd.1 h.c3).1;have gne:g'≠mb:=fun e=>by
  rcases hat with q | q
  ·exact nomb (e ▸ q)
  ·omega
 have el:(G++[g]).length=G.length+1:=by simp
 rw[el];refine⟨⟨⟨?_,?_,aO h.st.own fun k q=> ?_,h.st.ty⟩,h.ok,?_,?_,fun x hx=> ?_,fun x hx=> ?_,fun x hx=> ?_⟩,⟨hg.os.trans hW.os,hg.tape.trans hW.tape,hg.output.trans hW.output,by rw[fj];exact aW wz hg.size,fun k hk hr=>keep k (fun e=>hr (ay e)) (fun e=>hr (aw e)) hk,fun k q=> ?_⟩⟩
 ·refine bB ?_ 3 (.slice (some ⟨g',0,none⟩) (G.length+1) cap');rw[hg.block mb (by omega) (dF nomb),hW.block mb mz];exact h.st.blk
 ·rw[dp (by omega)];exact h.st.qF
 ·obtain⟨cur,hc⟩:=bL h.st.own (bP q);exact iH k _ _ hc (by decide) (by decide)
 ·rw[gF,aH h3,el]
 ·rw[el,uJ];have:[g].flatMap mD=mD g:=by simp
  rw[this];exact aO hown fun k q=>b6 _ _ _ _ (fun e=>by obtain⟨p,hp,hk⟩:=bP q;cases hp;exact gne (hk.symm.trans e))
 ·rcases bA.1 hx with q | q
  ·exact aO (h.pf x q) fun k r=>by obtain⟨cur,hc⟩:=bL (h.pf x q) (bP r);exact iH k _ _ hc (by decide) (by decide)
  ·rw[a8.1 q,hnd,hno,hnc];exact bD _ _ _ _
 ·rcases bA.1 hx with q | q
  ·exact h.DT x q
  ·rw[a8.1 q,hnd];intro v hv;cases hv
 ·rcases bA.1 hx with q | q
  ·exact h.nl x q
  ·rw[a8.1 q,hnd];simp
 ·rcases q with e | ⟨p,hp,hq⟩
  ·exact ay (ay e)
  ·cases hp;rcases hat with r | r
   ·exact ay (aw (hq ▸ r))
   ·exact aw (hq ▸ r)
theorem lU.GU {P:Nat->Prop} {w w':World} {sb so:Nat} {cs cs':Array Value} {T:TypeId} {cb:Nat} {D:List Ng} {V:List Nat} {no:Option Addr} {nc:Nat} {vo:Option Addr} {vc:Nat} {fr:Nat->Nat} {TT:Nat->af.U} (h:lU P w sb so cs T cb D V no nc vo vc fr TT) (hs:fS w' sb so cs' T D no nc) (hk:∀(g:Nat) (ys:Array Value) (S:TypeId),w.heap[g]?=some (.cells ys S (0,0))->(S=90\/S=3)->w'.heap[g]?=w.heap[g]?):lU P w' sb so cs' T cb D V no nc vo vc fr TT:=by refine⟨⟨hs,⟨(hk cb _ _ h.ad.sc.blk (ay rfl)).trans h.ad.sc.blk,aO h.ad.sc.own fun g q=> ?_⟩,h.ad.t1,h.ad.t2,h.ad.args.keep fun g _ hp hg=>⟨(hk g _ _ hg (aw rfl)).trans hg,hp⟩⟩,h.ok,h.to,h.lt⟩;obtain⟨cur,hc⟩:=bL h.ad.sc.own (bP q);exact hk g _ _ hc (aw rfl)
theorem bZ.OB {w w':World} {mb:Nat} {no2 vo2 po po':Option Addr} {cb:Nat} (h:bZ (fun k=>k=mb\/rowOf po k) (fun k=>k=mb\/rowOf po' k) w w'):bZ (fun k=>dO mb no2 cb vo2 k\/rowOf po k) (fun k=>dO mb no2 cb vo2 k\/rowOf po' k) w w':=
 ⟨h.os,h.tape,h.output,h.size,fun k hk hr=>h.block k hk (fun q=>hr (q.imp (fun e=>ay e) id)),fun k q=>by
  rcases q with q | q
  ·exact ay (ay q)
  ·rcases h.row k (aw q)with(e | e) | e
   ·exact ay (ay (ay e))
   ·exact ay (aw e)
   ·exact aw e⟩
def vg (mb:Nat) (no:Option Addr) (cb:Nat) (vo po:Option Addr) (k:Nat):Prop:=dO mb no cb vo k\/rowOf po k
structure NW (P:Nat->Prop) (w:World) (mb:Nat) (cs:Array Value) (cb:Nat) (D:List Ng) (V:List Nat) (nO vo:Option Addr) (fr:Nat->Nat) (TT:Nat->af.U) (G:List Gl) (po:Option Addr) (N ns:List (List UInt8)) (items:List dq) (E:List Ng) (F:List Nat) (no':Option Addr) (nc':Nat) (vo':Option Addr) (vc':Nat) (T':Nat->af.U) (Gn:List Gl) (po':Option Addr) (pc':Nat) (wr:World):Prop where
 ms:lU P wr mb 1 ((cs.setIfInBounds 1 (.slice no' (D++E).length nc')).setIfInBounds 3 (.slice po' (G++Gn).length pc')) 88 cb (D++E) (V++F) no' nc' vo' vc' fr T'
 mc:jh wr mb ((cs.setIfInBounds 1 (.slice no' (D++E).length nc')).setIfInBounds 3 (.slice po' (G++Gn).length pc')) (D++E) no' nc' fr (G++Gn) po' pc'
 fv:∀g∈G++Gn,∀k,rowOf g.no k->¬rowOf vo' k
 old:∀m,m<D.length->T' m=TT m
 nd:gP D.length E
 nv:iZ D.length E F
 ln:(V++F).length=(bE ns items).length
 gl:eO (xM T' (D++E).length (ej T' (V++F) N)) items Gn
 el:E.length<=items.length*19683
 fg:bZ (vg mb nO cb vo po) (vg mb no' cb vo' po') w wr
def PW (P:Nat->Prop) (w:World) (mb:Nat) (cs:Array Value) (cb:Nat) (D:List Ng) (V:List Nat) (nO vo:Option Addr) (fr:Nat->Nat) (TT:Nat->af.U) (G:List Gl) (po:Option Addr) (N ns:List (List UInt8)) (items:List dq) (k:Nat) (iv:Value) (wr:World):Prop:=
 ∃(j:Nat) (E:List Ng) (F:List Nat) (no':Option Addr) (nc':Nat) (vo':Option Addr) (vc':Nat) (T':Nat->af.U) (Gn:List Gl) (po':Option Addr) (pc':Nat),k+j=items.length/\iv= .int .i64 (j:Int)/\NW P w mb cs cb D V nO vo fr TT G po N ns (items.take j) E F no' nc' vo' vc' T' Gn po' pc' wr
theorem eX (D E:List Ng):D.length<=(D++E).length:=by rw[au];omega
theorem Pg (cs:Array Value) (x y a b:Value):((((cs.setIfInBounds 1 x).setIfInBounds 3 y).setIfInBounds 1 a).setIfInBounds 3 b)=(cs.setIfInBounds 1 a).setIfInBounds 3 b:=by
 apply Array.ext_getElem?;intro i;simp only[mx,Array.size_setIfInBounds];by_cases h1:1=i
 ·subst h1;simp
 ·by_cases h3:3=i
  ·subst h3;simp
  ·simp[h1,h3]
theorem eO.OE {α β:Type} {R S:α->β->Prop}:∀{xs:List α} {ys:List β},(∀a b,a∈xs->R a b->S a b)->eO R xs ys->eO S xs ys
 | [],[],_,_=>trivial
 | [],_ :: _,_,h=>h
 | _ :: _,[],_,h=>h
 | _ :: _,_ :: _,f,h=>⟨f _ _ (by simp) h.1,eO.OE (fun a b ha=>f a b (by simp[ha])) h.2⟩
theorem kG {T1 T2:Nat->af.U} {V F:List Nat} {N M ns:List (List UInt8)} {t:Tm} {b n:Nat} (hw:iE 8 t) (h:T1 n=fb (ej T1 V N) 8 t) (hn:n<b) {ns':List (List UInt8)} (hs:∀y∈aP 8 ns' t,y∈ns) (hN:N=ns++M) (hl:V.length=ns.length) (hlt:∀m∈V,m<b) (he:∀m,m<b->T2 m=T1 m):T2 n=fb (ej T2 (V++F) N) 8 t:=by rw[he n hn,h];exact(gR 8 t ns' hw (fun y hy=>pE (hs y hy) hN hl hlt he)).symm
theorem kB (t:Option Tm) (ns:List (List UInt8)):∃K,e7 ns t=ns++K:=by
 cases t with
 | none=>exact⟨[],by simp[e7]⟩
 | some r=>exact dG 8 r ns
theorem xM.more {T1 T2:Nat->af.U} {V F:List Nat} {N M ns:List (List UInt8)} {x:dq} {g:Gl} {b b':Nat} (hx:Hh x) (h:xM T1 b (ej T1 V N) x g) {ns':List (List UInt8)} (hs:∀y∈bU ns' x,y∈ns) (hN:N=ns++M) (hl:V.length=ns.length) (hlt:∀m∈V,m<b) (he:∀m,m<b->T2 m=T1 m) (hb:b<=b'):xM T2 b' (ej T2 (V++F) N) x g:=by
 have nO:∀(t:Option Tm) (ns:List (List UInt8)),∃K,e7 ns t=ns++K:=fun t ns=>by
  cases t with
  | none=>exact⟨[],by simp[e7]⟩
  | some r=>exact dG 8 r ns
 have hleft:∀y∈aP 8 ns' x.left,y∈ns:=fun y hy=>hs y (by obtain⟨K1,h1⟩:=nO x.right (aP 8 ns' x.left);obtain⟨K2,h2⟩:=nO x.last (e7 (aP 8 ns' x.left) x.right);unfold bU;rw[h2,h1];simp[hy]);have hright:∀r,x.right=some r->∀y∈aP 8 (aP 8 ns' x.left) r,y∈ns:=fun r q y hy=>hs y (by obtain⟨K2,h2⟩:=nO x.last (e7 (aP 8 ns' x.left) x.right);unfold bU;rw[h2,q];exact bO _ hy);have hlast:∀z,x.last=some z->∀y∈aP 8 (e7 (aP 8 ns' x.left) x.right) z,y∈ns:=fun z q y hy=>hs y (by unfold bU;rw[q];exact hy);refine⟨h.sg,h.op,aJ h.ll hb,kG hx.wl h.tl h.ll hleft hN hl hlt he,h.r0,fun r q=> ?_,h.z0,fun z q=> ?_,h.nw,h.nd,h.no,h.nc⟩
 ·obtain⟨n,q1,q2,q3⟩:=h.r1 r q
  have hw:iE 8 r:=by
   by_cases k:x.sign=[]
   ·rw[hx.r0 k]at q;cases q
   ·obtain⟨r',e,w⟩:=hx.r1 k;rw[e]at q;cases q;exact w
  exact⟨n,q1,aJ q2 hb,kG hw q3 q2 (hright r q) hN hl hlt he⟩
 ·obtain⟨n,q1,q2,q3⟩:=h.z1 z q
  have hw:iE 8 z:=by
   by_cases k:x.op=[]
   ·rw[hx.z0 k]at q;cases q
   ·obtain⟨r',e,w⟩:=hx.z1 k;rw[e]at q;cases q;exact w
  exact⟨n,q1,aJ q2 hb,kG hw q3 q2 (hlast z q) hN hl hlt he⟩
theorem Nr {P:Nat->Prop} {wr:World} {mb:Nat} {cs:Array Value} {cb:Nat} {D:List Ng} {V:List Nat} {no vo:Option Addr} {fr:Nat->Nat} {TT:Nat->af.U} {ic mc:Array Value} {ns:List (List UInt8)} {E:List Ng} {F:List Nat} {no':Option Addr} {nc':Nat} {vo':Option Addr} {vc':Nat} {T':Nat->af.U} {W:World} (h:JM P wr mb cs cb D V no vo fr TT ic mc ns E F no' nc' vo' vc' T' W) (hP:∀g,wr.heap.size<=g->P g) {N:List (List UInt8)} {a:AV} {t:Tm} (hr:RA 8 N fk W a t) (hw:iE 8 t) (hN:∃M,N=aP 8 ns t++M) (hD:(D++E).length+6561<=1000000000) (hNl:N.length<=100000):
 Calls Tryz.prog 45 #[.pointer (some ⟨mb,1,none⟩),.agg #[.int .i64 a.k,.int .i64 a.val,.string a.tx,.slice a.ao a.n a.cap],.pointer (some ⟨cb,0,none⟩)] W fun e w'=>∃(n:Nat) (E2:List Ng) (F2:List Nat) (no2:Option Addr) (nc2:Nat) (vo2:Option Addr) (vc2:Nat) (T2:Nat->af.U),e= .returned (.int .i64 (n:Int))/\JM P wr mb cs cb D V no vo fr TT ic mc (aP 8 ns t) (E++E2) (F++F2) no2 nc2 vo2 vc2 T2 w'/\n<(D++(E++E2)).length/\T2 n=fb (ej T2 (V++(F++F2)) N) 8 t/\(∀m,m<(D++E).length->T2 m=T' m)/\E2.length+1<=6561:=by
 refine(BR h.ms (fun g hg=>hP g (aW h.fg.size hg)) (by decide) hr hw h.ln hN hD ?_).mono fun e w' q=>h.add q;obtain⟨M,hM⟩:=hN;obtain⟨K,hK⟩:=dG 8 t ns;have:ns.length<=N.length:=by rw[hM,hK];simp
 have:=h.ln;omega
theorem JM.ra {P:Nat->Prop} {wr:World} {mb:Nat} {cs:Array Value} {cb:Nat} {D:List Ng} {V:List Nat} {no vo:Option Addr} {fr:Nat->Nat} {TT:Nat->af.U} {ic mc:Array Value} {ns:List (List UInt8)} {E:List Ng} {F:List Nat} {no':Option Addr} {nc':Nat} {vo':Option Addr} {vc':Nat} {T':Nat->af.U} {W:World} (h:JM P wr mb cs cb D V no vo fr TT ic mc ns E F no' nc' vo' vc' T' W) {nc vc:Nat} {cs1:Array Value} (hs:mA P wr mb 1 cs1 88 cb D V no nc vo vc) {N:List (List UInt8)} {a:AV} {t:Tm} (hr:RA 8 N fk wr a t):RA 8 N fk W a t:=hs.ra (by decide) h.fg hr
theorem NW.next {P:Nat->Prop} {w:World} {mb:Nat} {cs:Array Value} {cb:Nat} {D:List Ng} {V:List Nat} {nO vo:Option Addr} {fr:Nat->Nat} {TT:Nat->af.U} {G:List Gl} {po:Option Addr} {N ns:List (List UInt8)} {items:List dq} {E:List Ng} {F:List Nat} {no1:Option Addr} {nc1:Nat} {vo1:Option Addr} {vc1:Nat} {T1:Nat->af.U} {Gn:List Gl} {po1:Option Addr} {pc1:Nat} {wr:World} (h:NW P w mb cs cb D V nO vo fr TT G po N ns items E F no1 nc1 vo1 vc1 T1 Gn po1 pc1 wr)
 {ic mc:Array Value} {x:dq} {E2:List Ng} {F2:List Nat} {no2:Option Addr} {nc2:Nat} {vo2:Option Addr} {vc2:Nat} {T2:Nat->af.U} {W:World} (hj:JM P wr mb ((cs.setIfInBounds 1 (.slice no1 (D++E).length nc1)).setIfInBounds 3 (.slice po1 (G++Gn).length pc1)) cb (D++E) (V++F) no1 vo1 fr T1 ic mc (bU (bE ns items) x) E2 F2 no2 nc2 vo2 vc2 T2 W)
 {g:Gl} (hg:xM T2 ((D++E)++E2).length (ej T2 ((V++F)++F2) N) x g) (hE:E2.length<=19683) (hok:∀x∈items,Hh x) (hN:∃M,N=bE ns items++M)
 {W' w7:World} {g' cap':Nat} (hW:Below W.heap.size W W') (hown:w7.ownsRow 0 133 7 (.slice (some ⟨g',0,none⟩) ((G++Gn).length+1) cap') ((G++Gn).length+1) ((G++Gn).flatMap mD++mD g)) (hgr:W'.grownBy w7 (Value.slice po1 (G++Gn).length pc1).ownBlock) (hat:rowOf po1 g'\/W.heap.size<=g'):
 NW P w mb cs cb D V nO vo fr TT G po N ns (items++[x]) (E++E2) (F++F2) no2 nc2 vo2 vc2 T2 (Gn++[g]) (some ⟨g',0,none⟩) cap' (w7.setCell ⟨mb,3,none⟩ (.slice (some ⟨g',0,none⟩) ((G++Gn).length+1) cap')):=by
 have hm:=h.mc.added h.ms.ad.sc h.fv hj.ms.ad hj.ms.ok (eX _ _) hj.fg;obtain⟨hm2,hf2⟩:=hm.joined hW hown hgr hat hg.nd hg.no hg.nc;rw[Pg]at hm2;have mz:=aD hm.st.blk;have hms:lU P (w7.setCell ⟨mb,3,none⟩ (.slice (some ⟨g',0,none⟩) ((G++Gn).length+1) cap')) mb 1 ((cs.setIfInBounds 1 (.slice no2 ((D++E)++E2).length nc2)).setIfInBounds 3 (.slice (some ⟨g',0,none⟩) ((G++Gn)++[g]).length cap')) 88 cb ((D++E)++E2) ((V++F)++F2) no2 nc2 vo2 vc2 fr T2:=hj.ms.GU hm2.st fun k ys S hk hS=>hf2.block k (aD hk) (by
  rintro(e | e)
  ·rw[e,hm.st.blk]at hk;simp only[aM,aR]at hk;rcases hS with q | q<;>(rw[q]at hk;exact absurd hk.2.1 (by decide))
  ·refine cm hm.fp hk ?_ e;rcases hS with q | q<;>(rw[q];decide))
 obtain⟨M,hM⟩:=hN;refine⟨by rw[<-aK,<-aK,<-aK];exact hms,by rw[<-aK,<-aK];exact hm2,fun q hq k hk=> ?_,fun m hm'=> ?_,h.nd.app (by have:=hj.nd;rwa [au]at this),h.nv.app (by have:=hj.nv;rwa [au]at this),?_,?_,?_,?_⟩
 ·rw[<-aK]at hq;rcases bA.1 hq with r | r
  ·intro hv;rcases hj.fg.row k (aw (aw (aw hv)))with(e | e | e | e) | e
   ·obtain⟨cur,hc⟩:=bL (h.mc.pf q r) hk;rw[e,h.mc.st.blk]at hc;simp only[aM,aR]at hc;exact absurd hc.2.1 (by decide)
   ·obtain⟨cur,hc⟩:=bL (h.mc.pf q r) hk;exact cm h.mc.st.own hc (by decide) e
   ·obtain⟨cur,hc⟩:=bL (h.mc.pf q r) hk;exact nI h.ms.ad.sc hc (by decide) e
   ·exact h.fv q r k hk e
   ·obtain⟨cur,hc⟩:=bL (h.mc.pf q r) hk;have:=aD hc;omega
  ·rw[a8.1 r,hg.no]at hk;obtain⟨_,e,_⟩:=hk;cases e
 ·rw[hj.old m (by rw[au];omega),h.old m hm']
 ·rw[<-aK,hj.ln];unfold bE;rw[cT];rfl
 ·rw[<-aK,<-aK];refine eO.snoc hg (eO.OE (fun a b ha hab=> ?_) h.gl);obtain⟨ns',hs⟩:=fF items ns a ha;exact xM.more (hok a ha) hab hs hM h.ln h.ms.lt hj.old (eX _ _)
 ·have:=h.el;rw[au,au];simp only[aT,ct];omega
 ·have q:=(hj.fg.wide (rowOf po1)).trans (bZ.less (X:=vg mb no2 cb vo2 (some ⟨g',0,none⟩)) (R':=fun k=>dO mb no2 cb vo2 k\/rowOf (some ⟨g',0,none⟩) k) (bZ.OB hf2) fun k q=>q);exact h.fg.trans q
