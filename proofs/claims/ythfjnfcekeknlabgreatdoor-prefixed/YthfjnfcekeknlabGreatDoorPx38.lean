import Derived.Test.YthfjnfcekeknlabGreatDoorPx36
import Derived.Test.YthfjnfcekeknlabGreatDoorPx37
import Derived.Deep.DeepCutAuto
set_option maxHeartbeats 8000000
set_option maxRecDepth 100000
set_option linter.unusedSimpArgs false
set_option linter.unusedVariables false
namespace Go.Proofs.YthfjnfcekeknlabGreatDoor
open Go.RowKit af
variable {b c n xb yb l0 c0 l1 c1:Nat} {w:World} {T:TypeId} {o a1 a0:Option Addr} {xs:List Value} {ys:List Int}
theorem tU.take {w:World} {so:Option Addr} {script:List (Int×Int)} (h:tU w so script) (n:Nat):tU w so (script.take n):=fun q=>by obtain⟨g,off,h1,h2,h3⟩:=h (fun r=>q (by rw[r];simp));refine⟨g,off,h1,h2,fun i hi=> ?_⟩;rw[df]at hi;have:=h3 i (by omega);rw[List.getElem_take];exact this
theorem Oi (w:World) (o:Option Addr) (n c:Nat) (h:qZ w o n c):
 Calls Tryz.prog 16 #[.slice o n c,.int .i64 100] w fun e w'=>(∃(m c':Nat),e= .returned (.slice o m c')/\m<=100/\qZ w o m c')/\w'=w:=by
 have hnn:n<=9223372036854775807:=by obtain⟨_,_,h1,h2,_⟩:=h;unfold maxLen at h2;omega
 by_cases q:100<n
 ·have t1:decide ((100:Int)<(n:Int))=true:=by simp;omega
  have t2:decide (100<n)=true:=by simpa using q
  obtain⟨script,h1,h2,h3,h4,h5⟩:=h;obtain⟨g,off,rfl,gz,_⟩:=h4 (fun r=>by rw[r]at h1;simp at h1;omega);have HS:=ah (show qZ w (some ⟨g,off,none⟩) 100 c from ⟨script.take 100,by rw[df];omega,by omega,h3,h4.take 100,fun p hp=>h5 p (eg hp)⟩)
  have hc:100<=c:=by omega
  have hcm:c<=9223372036854775807:=by unfold maxLen at h3;exact h3
  clear h1 h3 h4 h5;go_enter Tryz.func16,Tryz.ntmps16;go_wp2_with fail;go_ret;exact⟨⟨100,_,rfl,Qw,ae HS⟩,rfl⟩
 ·have t1:decide ((100:Int)<(n:Int))=false:=by simp;omega
  have t2:decide (100<n)=false:=by simpa using q
  have HS:=ah h;clear h;go_enter Tryz.func16,Tryz.ntmps16;go_wp2_with fail;go_ret;exact⟨⟨n,c,rfl,by omega,ae HS⟩,rfl⟩
theorem o6 (h:w.ownsRow b T 1 (.slice o n c) n xs):n<=c/\c<=maxLen:=by
 rcases h.2 with⟨q,q0⟩ | ⟨g,cp,cur,q,_,_,q3,q4,_⟩
 ·simp only[aS]at q;unfold maxLen;omega
 ·simp only[aS]at q;obtain⟨_,_,rfl⟩:=q;exact⟨by simpa using q3,q4⟩
theorem mG.front {xs:List Int} (h:mG w o (xs++ys)):mG w o xs:=fun q=>by obtain⟨g,h1,h2,h3⟩:=h (by simp[q]);refine⟨g,h1,h2,fun i hi=> ?_⟩;rw[h3 i (by rw[au];omega),cq hi]
theorem LW (w:World) (log M:List Int) (lo lp:Option Addr) (lc ld:Nat) (h1:mG w lo (log++M)) (h2:mG w lp log) (hl:(log++M).length<=9223372036854775807) (hc:(log++M).length<=lc) (hm:lc<=maxLen):
 Calls Tryz.prog 17 #[.slice lo (log++M).length lc,.slice lp log.length ld] w fun e w'=>e= .returned (.bool true)/\Below w.heap.size w w':=by
 have IS:=ah (GN w log lo lp lc ld h1.front h2 (by rw[au]at hl;omega));have hle:log.length<=(log++M).length:=by rw[au];omega
 have hmm:lc<=9223372036854775807:=by unfold maxLen at hm;omega
 clear h1 h2 hm;generalize (log++M).length=n at*;generalize log.length=m at*;have t1:decide ((n:Int)<(m:Int))=false:=by simp;omega
 have t2:decide (n<m)=false:=by simp;omega
 have v1:(0:Int)<=(m:Int):=by omega
 have v2:(m:Int)<=(lc:Int):=by omega
 have v3:m<=lc:=by omega
 go_enter Tryz.func17,Tryz.ntmps17;go_wp2_with fail;refine(ae IS).mono ?_;rintro e w1 ⟨rfl,hb1⟩;have HB1:=ah hb1;clear hb1;go_wp2_with fail;go_ret;exact⟨rfl,ae HB1⟩
theorem Ox (w:World) (v v':List (List UInt8)) (xo yo:Option Addr) (xc yc:Nat) (h1:lT w xo (v.map fun x=>(⟨x.toArray⟩:ByteArray))) (h2:lT w yo (v'.map fun x=>(⟨x.toArray⟩:ByteArray))) (hm:JT v v') (he:B0 w) (hl:v.length<=9223372036854775807):
 Calls Tryz.prog 18 #[.slice xo v.length xc,.slice yo v'.length yc] w fun e w'=>e= .returned (.bool true)/\Below w.heap.size w w':=by
 rw[<-hm.1];have H1:=ah h1;have H2:=ah h2;have HM:=ah hm;have HE:=ah he;clear h1 h2 hm he;go_enter Tryz.func18,Tryz.ntmps18;go_wp2_with fail;go_loopg [5] v.length (fun k iv wr=>∃j:Nat,k+j=v.length/\iv= .int .i64 (j:Int)/\Below w.heap.size w wr)
 case atStart=>exact⟨0,by omega,rfl,Qx⟩
 case round=>
  obtain⟨j,hkj,rfl,hbe⟩:=hrel;have HKJ:=ah hkj;have HBE:=ah hbe;have zb:=hbe.size;by_cases hlt:j<v.length
  ·have hlt':j<v'.length:=by have:=(ae HM).1;omega
   obtain⟨g1,rfl,gz1,gc1⟩:=ae H1 (fun q=>by rw[dT]at q;rw[q]at hlt;simp at hlt);obtain⟨g2,rfl,gz2,gc2⟩:=ae H2 (fun q=>by rw[dT]at q;rw[q]at hlt';simp at hlt');have f1:wr.cell? ⟨g1,j,none⟩=some (.string ⟨v[j].toArray⟩):=by rw[hbe.cell (p:=⟨g1,j,none⟩) gz1,gc1 j (by simpa using hlt)];simp
   have f2:wr.cell? ⟨g2,j,none⟩=some (.string ⟨v'[j].toArray⟩):=by rw[hbe.cell (p:=⟨g2,j,none⟩) gz2,gc2 j (by simpa using hlt')];simp
   have gy1:g1<wr.heap.size:=by omega
   have gy2:g2<wr.heap.size:=by omega
   have i0:(0:Int)<=(j:Int):=by omega
   have i1:(j:Int)<(v.length:Int):=by omega
   have t1:decide ((j:Int)<(v.length:Int))=true:=by simp;omega
   have t2:decide (j<v.length)=true:=by simpa using hlt
   have IM:=ah (fun(W':World) (hb:Below wr.heap.size wr W')=>Nl W' ⟨v[j].toArray⟩ ⟨v'[j].toArray⟩ (((ae HE).below (hbe.trans (hb.mono hbe.size))).sg) (((ae HE).below (hbe.trans (hb.mono hbe.size))).pos) (fun la lb c1 d1 c2 d2 p t l1 l2 w1 w2 η=>(ae HM).2 j hlt hlt' _ _ la lb rfl rfl c1 d1 c2 d2 p t l1 l2 w1 w2 η));generalize (⟨v[j].toArray⟩:ByteArray)=s1 at*;generalize (⟨v'[j].toArray⟩:ByteArray)=s2 at*;clear hbe gc1 gc2 hkj;go_upto_region 6 with fail;go_cut [6,8] (fun nv ev wx=>∃n er:Nat,nv= .int .i64 (n:Int)/\ev= .int .i64 (er:Int)/\(er=0->n=1)/\Below wr.heap.size wr wx)
   case first=>
    go_region_with (go_at_call 28;refine(ae IM _ (by first | exact Qx | exact Qx.drew | exact Qx.drew.drew | exact Qx.drew.drew.drew)).mono ?_;rintro r w8 ⟨n,er,hn,rfl,hb8⟩;have HB8:=ah (show Below wr.heap.size wr w8 from by first | exact hb8 | exact Qx.drew.trans hb8 | exact Qx.drew.drew.trans hb8 | exact Qx.drew.drew.drew.trans hb8);have HNE:=ah hn;clear hb8 hn)
    all_goals
     go_wp2_with fail;go_meet;exact⟨n,er,rfl,rfl,ae HNE,by first | exact ae HB8 | exact(ae HB8).drew | exact(ae HB8).drew.drew⟩
   case rest=>
    obtain⟨n,er,rfl,rfl,hn,hbc⟩:=hcut;have HBC:=ah ((ae HBE).trans (hbc.mono zb));clear hbc f1 f2 IM;by_cases q:er=0
    ·obtain rfl:=hn q;subst q;go_wp2_with fail;go_roundg (gk - 1)
     case measure=>have:=ae HKJ;omega
     case rel=>exact⟨j+1,by have:=ae HKJ;omega,by go_num,ae HBC⟩
    ·have t3:((er:Int) == 0)=false:=by simpa using q
     have t4:(er == 0)=false:=by simpa using q
     clear hn;go_wp2_with fail;go_roundg (gk - 1)
     case measure=>have:=ae HKJ;omega
     case rel=>exact⟨j+1,by have:=ae HKJ;omega,by go_num,ae HBC⟩
  ·obtain rfl:j=v.length:=by omega
   have t1:decide ((v.length:Int)<(v.length:Int))=false:=by simp
   clear hbe hkj;go_wp2_with fail;go_ret;exact⟨rfl,ae HBE⟩
theorem uG.Od (h:uG w xb o n) (hy:xb<=yb):uG w yb o n:=⟨h.1,h.2.imp id fun⟨b,off,h1,h2,h3⟩=>⟨b,off,h1,by omega,h3⟩⟩
theorem EN (h:uG w w.heap.size o n):ip (w.alloc (.cells #[.slice o n c,.int .i64 0] 41)) w.heap.size:=
 ⟨o,n,c,0,aB w _,h.keep fun _ q=>aZ _ _ _ q,cI _⟩
theorem uq (W:World) (he:B0 W) (h0:uG W W.heap.size a0 l0) (h1:qZ W a1 l1 c1) (kv:Int) (kv1: -9223372036854775808<=kv) (kv2:kv<=9223372036854775807):
 Calls Tryz.prog 4 #[.slice a0 l0 c0,.slice a1 l1 c1,.int .i64 kv] W fun e w'=>e= .returned (.bool true)/\Below W.heap.size W w':=by
 have IWK:=ah (MJ W he);have HE:=ah he;have HRAW:=ah h0;have HPK:=ah h1;clear he h0 h1;go_enter Tryz.func4,Tryz.ntmps4;go_wp2_with fail;refine(ae IWK).mono ?_;rintro e w1 ⟨rfl,hb1⟩;have HB1:=ah hb1;have z1:=hb1.size;clear hb1 IWK;go_wp2_with fail;have HB1a:=ah ((ae HB1).alloc z1 (.cells #[.slice a0 l0 c0,.int .i64 0] 41));refine(wI _ _ (EN (((ae HRAW).keep fun b q=>(ae HB1).block b q).Od z1))).mono ?_;rintro e w2 ⟨⟨cs,hcs,rfl⟩,hs2,fr2⟩;have hb2:=fr2.down (b:=W.heap.size) (by simp;omega) (fun k q=>by have:k=w1.heap.size:=q;omega);have HB2:=ah ((ae HB1a).trans hb2);have HS2:=ah hs2;have HCS:=ah hcs;clear fr2 hb2 hs2 hcs;go_wp2_with fail;refine(vD _ _ (ae HS2)).mono ?_;rintro e w3 ⟨⟨ys,hys,rfl⟩,-,fr3⟩;have hb3:=fr3.down (b:=W.heap.size) (ae HB2).size (fun k q=>by have:k=w1.heap.size:=q;omega);have HB3:=ah ((ae HB2).trans hb3);have HYS:=ah hys;clear fr3 hb3 hys HS2;have ISM:=ah (Oi w3 a1 l1 c1 ((ae HPK).below (ae HB3)));go_wp2_with fail;refine(ae ISM).mono ?_;rintro e w4 ⟨⟨m,c2,rfl,hm,hpk⟩,rfl⟩;obtain⟨script,rfl,hsc1,hsc2,hsc,hsr⟩:=hpk;have IPK:=ah (Oo w4 kv (script.length+1) (by omega) (by omega) kv1 kv2);rw[show ((script.length+1:Nat):Int)=(script.length:Int)+1 by omega]at IPK;have hk:=Nb kv (n:=script.length+1) (by omega);generalize Mn kv (script.length+1)=k at*;have hkl:(script.take k).length=k:=by rw[df];omega
 have IR1:=ah (M0 w4 ((ae HE).below (ae HB3)) (ae HCS) (ae HYS) (script:=script.take k) (so:=a1) (sc:=c2) (hsc.take k) (fun p hp=>hsr p (eg hp)) (by omega));rw[hkl]at IR1;have IR2:=ah (fun(W':World) (hb:Below w4.heap.size w4 W')=>M0 W' ((ae HE).below ((ae HB3).trans (hb.mono (ae HB3).size))) (ae HCS) (ae HYS) (script:=script) (so:=a1) (sc:=c2) (hsc.below hb) hsr hm);have HK:=ah (show k<=script.length by omega)
 have v1:(0:Int)<=(k:Int):=by omega
 have hc2:c2<=9223372036854775807:=by unfold maxLen at hsc2;omega
 have v2:(k:Int)<=(c2:Int):=by omega
 have v3:k<=c2:=by omega
 generalize hml:script.length=m at*;have HML:=ah hml;clear hsc hsr hsc2 hml kv1 kv2 ISM hkl;go_wp2_with fail;refine(ae IPK).mono ?_;rintro e w5 ⟨rfl,rfl⟩;clear IPK;go_wp2_with fail;refine(ae IR1).mono ?_;rintro e w6 ⟨hok,R,r,P,S0,en,log,vals,gols,wts,rfl,hrel,hend,⟨lo,lc,xo,xc,go,gc,yo,yc,rfl,r1,r2,r3,r4,-⟩,hb6⟩;have hb7:=hb6.alloc hb6.size (.cells #[.int .i64 en,.slice lo log.length lc,.slice xo vals.length xc,.slice go gols.length gc,.slice yo wts.length yc] 29);have hz7:=aB w6 (.cells #[.int .i64 en,.slice lo log.length lc,.slice xo vals.length xc,.slice go gols.length gc,.slice yo wts.length yc] 29);have hb67:=(al w6.heap.size w6).alloc Qw (.cells #[.int .i64 en,.slice lo log.length lc,.slice xo vals.length xc,.slice go gols.length gc,.slice yo wts.length yc] 29);have HA:=ah (cP hok (cP hrel hend));have HC1:=ah (cP (o6 r1) (cP (o6 r2) (cP (o6 r3) (o6 r4))));have HR1:=ah ((mG.iB r1).below hb67);have HR2:=ah ((lT.iB (ys:=vals) r2).below hb67);have HR3:=ah ((lT.iB (ys:=gols) r3).below hb67);have HR4:=ah ((qJ.iB r4).below hb67);have HB7:=ah ((ae HB3).trans (hb7.mono (ae HB3).size));have HZ7:=ah hz7;have IR2':=ah (ae IR2 _ hb7);clear hok hrel hend r1 r2 r3 r4 hb6 hb7 hz7 hb67 IR1 IR2;go_wp2_with fail;refine(ae IR2').mono ?_;rintro e w8 ⟨-,R,r',P',S0',en',log',vals',gols',wts',rfl,hrel',hend',⟨lo',lc',xo',xc',go',gc',yo',yc',rfl,r1,r2,r3,r4,-⟩,hb8⟩;have hb9:=hb8.alloc hb8.size (.cells #[.int .i64 en',.slice lo' log'.length lc',.slice xo' vals'.length xc',.slice go' gols'.length gc',.slice yo' wts'.length yc'] 29);have hz9:=aB w8 (.cells #[.int .i64 en',.slice lo' log'.length lc',.slice xo' vals'.length xc',.slice go' gols'.length gc',.slice yo' wts'.length yc'] 29);have hb89:=(al w8.heap.size w8).alloc Qw (.cells #[.int .i64 en',.slice lo' log'.length lc',.slice xo' vals'.length xc',.slice go' gols'.length gc',.slice yo' wts'.length yc'] 29);have k1:=(mG.iB r1).below hb89;have k2:=(lT.iB (ys:=vals') r2).below hb89;have k3:=(lT.iB (ys:=gols') r3).below hb89;have k4:=(qJ.iB r4).below hb89;have hc1:=o6 r1;have zr:=aD (ae HZ7);have hzr:=(hb9.block _ zr).trans (ae HZ7);have e1:=(ae HR1).below hb9;have e2:=(ae HR2).below hb9;have e3:=(ae HR3).below hb9;have e4:=(ae HR4).below hb9;have HB9:=ah ((ae HB7).trans (hb9.mono (ae HB7).size));obtain⟨hok,hrel,hend⟩:=ae HA;have hpre:=KM hok (fun c hc x hx=>Ec (((ae HCS).2 c hc).goals x hx)) (S0:=mQ 1 (bE [] ys) ys) (by unfold mQ;exact Gy (fun x hx=>Ec ((ae HYS).2.2 x hx)) 1 (bE [] ys)) hrel hrel' (by rw[ae HML];exact ae HK) hend hend';have HE9:=ah ((ae HE).below (ae HB9));have HPRE:=ah hpre;have HZ9:=ah hz9;have HZR:=ah hzr;have HE1:=ah e1;have HE2:=ah e2;have HE3:=ah e3;have HE4:=ah e4;have HK1:=ah k1;have HK2:=ah k2;have HK3:=ah k3;have HK4:=ah k4;have HCC:=ah hc1;have zrs:w6.heap.size<w8.heap.size:=by have:=hb8.size;rw[aF]at this;omega
 clear hok hrel hend hrel' hend' r1 r2 r3 r4 hb8 hb9 hz9 hb89 k1 k2 k3 k4 hc1 zr hzr e1 e2 e3 e4 hpre IR2' HA HZ7 HR1 HR2 HR3 HR4 HB7;go_upto_region 9 with fail;generalize w8.alloc (.cells #[.int .i64 en',.slice lo' log'.length lc',.slice xo' vals'.length xc',.slice go' gols'.length gc',.slice yo' wts'.length yc'] 29)=w9 at*;generalize w8.heap.size=rs at*;generalize w6.heap.size=rr at*;have hzr:=ae HZR;have hz9:=ae HZ9;have a0':=aN hzr 0;have a1':=aN hzr 1;have a2':=aN hzr 2;have a3':=aN hzr 3;have a4':=aN hzr 4;have b0':=aN hz9 0;have b1':=aN hz9 1;have b2':=aN hz9 2;have b3':=aN hz9 3;have b4':=aN hz9 4;simp only[aE,aq,aA]at a0' a1' a2' a3' a4' b0' b1' b2' b3' b4';have zr:=aD hzr;have zs:=aD hz9;clear hzr hz9;obtain⟨⟨n1,n6⟩,hpre⟩:=ae HPRE;obtain⟨⟨c11,c12⟩,⟨c21,c22⟩,⟨c31,c32⟩,⟨c41,c42⟩⟩:=ae HC1;unfold maxLen at c12 c22 c32 c42;have t1:decide (en<1)=false:=by simp;omega
 have t2:decide (6<en)=false:=by simp;omega
 have t2':decide (en>6)=false:=by simp;omega
 rcases hpre with⟨q1,rfl,rfl,rfl,rfl,rfl,q7⟩ | ⟨rfl,⟨M,rfl⟩,q3,q4,q5,q6⟩
 ·have t3:(en' != 3)=true:=by simpa using q1
  have t4:decide ((log'.length:Int)<=(k:Int))=true:=by simp;omega
  have t5:decide (log'.length<=k)=true:=by simpa using q7
  have IS:=ah (GM w9 en' log' (vals'.map fun x=>(⟨x.toArray⟩:ByteArray)) (gols'.map fun x=>(⟨x.toArray⟩:ByteArray)) wts' lo lc xo xc go gc yo yc lo' lc' xo' xc' go' gc' yo' yc' (ae HE1) (ae HK1) (ae HE2) (ae HK2) (ae HE3) (ae HK3) (ae HE4) (ae HK4) (by omega) (by rw[bj];omega) (by rw[bj];omega) (by omega));rw[bj,bj]at IS;clear HE1 HE2 HE3 HE4 HK1 HK2 HK3 HK4 HPRE HC1 HCC q1;go_wp2_with fail;refine(ae IS).mono ?_;rintro e wA ⟨rfl,hbA⟩;have a1A:=(hbA.cell (p:=⟨rr,1,none⟩) zr).trans a1';have zrA:rr<wA.heap.size:=aJ zr hbA.size;have HBA:=ah ((ae HB9).trans (hbA.mono (ae HB9).size));clear hbA;go_wp2_with fail;go_ret;exact⟨rfl,ae HBA⟩
 ·have IB:=ah (LW w9 log M lo' lo lc' lc (ae HK1) (ae HE1) (by have:=(ae HCC).1;have:=(ae HCC).2;unfold maxLen at this;omega) (ae HCC).1 (ae HCC).2);have HMO:=ah q6;have hle:k<=(log++M).length:=by rw[au,q3];exact iq _ _
  have hwl:0<wts.length:=by rw[<-q4];exact q5
  rw[q3]at IB a1';rw[q4]at a3';clear HPRE HC1 q6 q3 q4 q5;generalize hLL:(log++M).length=LL at*;have u4:((k:Int) != (k:Int))=false:=by simp
  have u5:(k != k)=false:=by simp
  have u6:((wts.length:Int) == 0)=false:=by rw[mB];omega
  have u7:(wts.length == 0)=false:=by rw[mB];omega
  have u8:((wts.length:Int) != (wts.length:Int))=false:=by simp
  have u9:(wts.length != wts.length)=false:=by simp
  clear hLL;go_wp2_with fail;refine(ae IB).mono ?_;rintro e wA ⟨rfl,hbA⟩;have a1A:=(hbA.cell (p:=⟨rr,1,none⟩) zr).trans a1';have a2A:=(hbA.cell (p:=⟨rr,2,none⟩) zr).trans a2';have a3A:=(hbA.cell (p:=⟨rr,3,none⟩) zr).trans a3';have a4A:=(hbA.cell (p:=⟨rr,4,none⟩) zr).trans a4';have b0A:=(hbA.cell (p:=⟨rs,0,none⟩) zs).trans b0';have b1A:=(hbA.cell (p:=⟨rs,1,none⟩) zs).trans b1';have b2A:=(hbA.cell (p:=⟨rs,2,none⟩) zs).trans b2';have b3A:=(hbA.cell (p:=⟨rs,3,none⟩) zs).trans b3';have b4A:=(hbA.cell (p:=⟨rs,4,none⟩) zs).trans b4';have zrA:rr<wA.heap.size:=aJ zr hbA.size;have zsA:rs<wA.heap.size:=aJ zs hbA.size;have IMO:=ah (fun hmo=>Ox wA vals vals' xo xo' xc xc' ((ae HE2).below hbA) ((ae HK2).below hbA) hmo ((ae HE9).below hbA) (by omega));have HBA:=ah ((ae HB9).trans (hbA.mono (ae HB9).size));clear hbA a0' a1' a2' a3' a4' b0' b1' b2' b3' b4' HE1 HE2 HE3 HE4 HK1 HK2 HK3 HK4 IB;rcases ae HMO with⟨w1',rfl,rfl,rfl,w5'⟩ | ⟨w1',hmo⟩
  ·have u1:decide ((3:Int)<en')=true:=by simpa using w1'
   have u2:decide (en'>3)=true:=by simpa using w1'
   have u3:decide ((k:Int)<(LL:Int))=true:=by simp;omega
   have u10:decide ((LL:Int)>(k:Int))=true:=by simp;omega
   clear IMO HMO;go_wp2_with fail;go_ret;exact⟨rfl,ae HBA⟩
  ·have u1:decide ((3:Int)<en')=false:=by simp;omega
   have u2:decide (en'>3)=false:=by simp;omega
   have IM:=ah (ae IMO hmo);clear IMO HMO hmo;go_wp2_with fail;refine(ae IM).mono ?_;rintro e wD ⟨rfl,hbD⟩;have HBD:=ah ((ae HBA).trans (hbD.mono (ae HBA).size));clear hbD;go_wp2_with fail;go_ret;exact⟨rfl,ae HBD⟩
