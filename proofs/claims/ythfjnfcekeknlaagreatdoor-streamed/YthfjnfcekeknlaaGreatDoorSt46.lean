import Derived.Test.YthfjnfcekeknlaaGreatDoorSt33
import Derived.Test.YthfjnfcekeknlaaGreatDoorSt45
import Derived.Deep.DeepCutAuto
set_option maxHeartbeats 8000000
set_option maxRecDepth 100000
namespace Go.Proofs.YthfjnfcekeknlaaGreatDoor
open Go.RowKit
def mQ (a:List Nat) (y j:Nat):List (List UInt8):=Za.txL a :: Za.txL (a++[y]) :: (List.range j).map fun i=>Za.txL (a.drop (i+1))
theorem Mt (a:List Nat) (y:Nat):mQ a y a.length=(Za.wE a y).map Za.txL:=by
 unfold mQ Za.wE
 rw[List.map_cons,List.map_cons,List.map_map]
 rfl
theorem JK (a:List Nat) (y j:Nat):mQ a y (j+1)=mQ a y j++[Za.txL (a.drop (j+1))]:=by
 unfold mQ
 rw[List.range_succ]
 simp
theorem Pd (w:World) (a:List Nat) (y:Nat):(w.alloc (.cells #[.string ⟨(Za.txL a).toArray⟩,.string ⟨(Za.txL (a++[y])).toArray⟩] 9)).ownsRow w.heap.size 9 1 (.slice (some ⟨w.heap.size,0,none⟩) (0+2) 2) (0+2) ((mQ a y 0).map fun x=>Value.string ⟨x.toArray⟩):=by
 have e:(mQ a y 0).map (fun x=>Value.string ⟨x.toArray⟩)=(#[Value.string ⟨(Za.txL a).toArray⟩,.string ⟨(Za.txL (a++[y])).toArray⟩]:Array Value).toList:=by
  unfold mQ
  rw[List.range_zero,List.map_nil,List.map_cons,List.map_cons,List.map_nil]
 rw[e]
 exact World.ownsRow_lit w _ 2 (Nat.le_refl _) (by decide) (by simp)
theorem SJ (y:Nat) (l:List Nat):((⟨#[97,112,112,40,65,44,99,40]⟩:ByteArray)++⟨(Za.fM y).toArray⟩++⟨#[44,110,41,44,90,41]⟩)=⟨(Za.l7 y++Za.qtE 0 (l.take 0)).toArray⟩:=by
 rw[List.take_zero,Za.qtE,List.append_nil,Za.l7,←cJ,←cJ]
theorem Mu (a:List Nat) (y j:Nat):(mQ a y j).length=j+2:=by simp[mQ]
theorem Mv (w:World) (y:Nat) (T:TypeId):kP (w.alloc (.cells #[.int .i64 (y:Int)] T)) (some ⟨w.heap.size,0,none⟩) 1 [y]:=Or.inr ⟨w.heap.size,0,rfl,by simp,by simp,by omega,fun i hi=>by
 have hi':i<1:=hi
 obtain rfl:i=0:=by omega
 exact ag (heap_alloc_new w (.cells #[.int .i64 (y:Int)] T)) 0⟩
def SK (w1:World) (a:List Nat) (y k:Nat) (qv vv iv:Value) (wr:World):Prop:=∃(j:Nat) (vo:Option Addr) (vc:Nat),k+j=a.length∧iv= .int .i64 (j:Int)∧qv= .string ⟨(Za.l7 y++Za.qtE 0 (a.take j)).toArray⟩∧vv= .slice vo (j+2) vc∧wr.ownsRow w1.heap.size 9 1 (.slice vo (j+2) vc) (j+2) ((mQ a y j).map fun x=>Value.string ⟨x.toArray⟩)∧Below w1.heap.size w1 wr
theorem wrap_small {x:Int} (h1:0≤x) (h:x≤1000):IntKind.i64.wrap x=x:=by
 have e1:IntKind.i64.bits=64:=rfl
 unfold IntKind.wrap
 rw[e1]
 have e2:x % 2 ^ 64=x:=by omega
 simp only[e2]
 rw[if_neg]
 simp
 omega
theorem SL {a:List Nat} {j:Nat} (h:j<a.length) (y:Nat):Za.l7 y++Za.qtE 0 (a.take (j+1))=(Za.l7 y++Za.qtE 0 (a.take j))++[44]++[Za.sx j]++[61,99,40]++Za.fM a[j]++[44]++[Za.sx (j+1)]++[41]:=by
 have e:a.take (j+1)=a.take j++[a[j]]:=by rw[List.take_add_one,List.getElem?_eq_getElem h];rfl
 rw[e,Za.Db,List.length_take,Nat.min_eq_left (by omega),Nat.zero_add]
 simp
theorem Ae (W:World) (he:wq W) {a0 a2:Option Addr} {l0 c0 l2 c2:Nat} (h0:Lr W a0 l0) (yv:Int) (y1: -9223372036854775808≤yv) (y2:yv≤9223372036854775807) (h2:uu W a2 l2 c2):
 Calls Tryz.prog 9 #[.slice a0 l0 c0,.int .i64 yv,.slice a2 l2 c2] W fun e w'=>e= .returned (.bool true)∧Below W.heap.size W w':=by
 obtain⟨ti,hi,hz0,hz1,hz2⟩:=info_parts infoStrS
 have IN0:=hide (Ls W a0 l0 c0 4 h0 (by omega))
 have IP:=hide (fun W'=>Nb W' yv 10 (by omega) (by omega) y1 y2)
 have hy:=Jc yv (n:=10) (by omega)
 generalize xG yv 10=y at*
 have ID:=hide (fun W'=>decimalK y (by omega) W')
 have IS:=hide (fun W' (hb:Below W.heap.size W W') n hn=>Gc W' a2 l2 c2 n (h2.below hb) hn)
 have MD:=Za.qK (n:=y) (k:=0) (by omega)
 have Yn:(Za.fM y).length≤100:=by omega
 have HE:=hide he
 have HY:=hide hy
 clear he h0 h2 y1 y2 MD
 go_enter Tryz.func9,Tryz.ntmps9
 go_wp2_with fail
 refine(ae IN0).mono ?_
 rintro e w1 ⟨a,oa,ca,rfl,la,da,owa,hb1⟩
 have aZ:=hide hb1
 have uT:=hide da
 have Hz:=hide (kP.lU owa)
 have HOW:=hide owa
 have xa:=Za.txL_len a da
 have xa':(Za.txL a).length≤100:=by omega
 have xj:=Za.txL_len (a++[y]) (fun d hd=>by
  rcases List.mem_append.1 hd with q | q
  ·exact da d q
  ·rw[List.mem_singleton.1 q];exact hy)
 have xj':(Za.txL (a++[y])).length≤100:=by rw[List.length_append]at xj;simp at xj;omega
 clear IN0 hb1 da owa xa xj
 go_wp2_with fail
 refine(ae IP _).mono ?_
 rintro e w2 ⟨rfl,rfl⟩
 go_wp2_with fail
 refine(ae ID _).mono ?_
 rintro e w3 ⟨rfl,hb3⟩
 have IWA:=hide (wG w3 a oa ca ((ae Hz).below hb3) (fun d hd=>by have:=ae uT d hd;omega) (by omega))
 have bH:=hide hb3
 clear hb3
 go_wp2_with fail
 refine(ae IWA).mono ?_
 rintro e w4 ⟨rfl,hb4⟩
 have dC:=(ae bH).trans (hb4.mono (ae bH).size)
 have hby:=dC.alloc dC.size (.cells #[.int .i64 (y:Int)] 3)
 have IJ:=hide (Pc (w4.alloc (.cells #[.int .i64 (y:Int)] 3)) a [y] oa (some ⟨w4.heap.size,0,none⟩) ca 1 ((ae Hz).below hby) (Mv _ _ _) (by omega) (by simp))
 have SM:=hide hby
 clear hb4 dC hby IWA bH
 go_wp2_with fail
 refine(ae IP _).mono ?_
 rintro e w5 ⟨rfl,rfl⟩
 go_wp2_with fail
 refine(ae IJ).mono ?_
 rintro e w6 ⟨oj,cj,rfl,owj,gA⟩
 have hbz:=(ae SM).trans (gA.mono (ae SM).size)
 have IWJ:=hide (wG w6 (a++[y]) oj cj (kP.lU owj) (fun d hd=>by
  rcases List.mem_append.1 hd with q | q
  ·have:=ae uT d q;omega
  ·rw[List.mem_singleton.1 q];omega) (by simp;omega))
 rw[show (a++[y]).length=a.length+1 by simp]at IWJ
 have dG:=hide hbz
 clear gA owj hbz IJ SM
 go_wp2_with fail
 refine(ae IWJ).mono ?_
 rintro e w7 ⟨rfl,Cn⟩
 have Gr:=(ae dG).trans (Cn.mono (ae dG).size)
 have ml:=hide ((ae aZ).trans (Gr.mono (ae aZ).size))
 have ld:=hide ((ae Hz).below Gr)
 have YE:=hide (ah (ae HOW) fun k q=>Gr.block k ((ae HOW).lt k q).2)
 have HST:=hide (show SK w7 a y a.length (.string ((⟨#[97,112,112,40,65,44,99,40]⟩:ByteArray)++⟨(Za.fM y).toArray⟩++⟨#[44,110,41,44,90,41]⟩)) (.slice (some ⟨w7.heap.size,0,none⟩) 2 2) (.int .i64 0) (w7.alloc (.cells #[.string ⟨(Za.txL a).toArray⟩,.string ⟨(Za.txL (a++[y])).toArray⟩] 9))from ⟨0,some ⟨w7.heap.size,0,none⟩,2,by omega,rfl,by rw[SJ y a],rfl,Pd w7 a y,(Below.refl _ _).alloc (Nat.le_refl _) _⟩)
 clear Cn Gr dG IWJ aZ Hz HOW
 go_wp2_with fail
 go_loopg [8,9,10] a.length (fun k qv vv iv wr=>SK w7 a y k qv vv iv wr)
 case atStart=>exact ae HST
 case round=>
  clear HST
  obtain⟨j,vo,vc,hkj,rfl,rfl,rfl,hown,aM⟩:=hrel
  have aP:=hide hkj
  have HOWN:=hide hown
  have bJ:=hide aM
  have SN:=hide (fun h=>SL (a:=a) (j:=j) h y)
  have zb:=aM.size
  by_cases hlt:j<a.length
  ·obtain⟨g,fa,X8,gz,hle,hcm,gc⟩:∃g off,oa=some ⟨g,off,none⟩∧g<w7.heap.size∧a.length≤ca∧ca≤9223372036854775807∧∀i (h:i<a.length),w7.cell? ⟨g,off+i,none⟩=some (.int .i64 (a[i]:Int)):=by
    rcases ae ld with⟨_,q,_⟩ | q
    ·rw[q]at hlt;simp at hlt
    ·exact q
   subst X8
   have f0:wr.cell? ⟨g,fa+j,none⟩=some (.int .i64 (a[j]:Int)):=by
    rw[aM.cell (p:=⟨g,fa+j,none⟩) gz,gc j hlt]
   have gy:g<wr.heap.size:=by omega
   have d10:=ae uT _ (List.getElem_mem hlt)
   have IDJ:=hide (fun W'=>decimalK a[j] (by omega) W')
   have IW:=hide (fun(W':World) (off':Nat) (ho:j+1<ca→off'=fa+(j+1)) (hb:Below w7.heap.size w7 W')=>wG W' (a.drop (j+1)) (some ⟨g,off',none⟩) (ca - (j+1)) (kP.cut (Nat.lt_of_lt_of_le gz hb.size) hle hcm (fun i hi=>(hb.cell (p:=⟨g,fa+i,none⟩) gz).trans (gc i hi)) (by omega) ho) (fun d hd=>by have:=ae uT d (List.mem_of_mem_drop hd);omega) (by rw[List.length_drop];omega))
   have xq:(Za.l7 y++Za.qtE 0 (a.take j)).length≤1000:=by
    rw[List.length_append,Za.qtE_len _ 0 (fun d hd=>ae uT d (List.mem_of_mem_take hd)),List.length_take]
    unfold Za.l7
    simp
    omega
   have xd:(Za.fM a[j]).length≤100:=by have:=Za.qK (n:=a[j]) (k:=0) (by omega);omega
   have xx:(Za.txL (a.drop (j+1))).length≤1000:=by
    have:=Za.txL_len (a.drop (j+1)) (fun d hd=>ae uT d (List.mem_of_mem_drop hd))
    rw[List.length_drop]at this
    omega
   have HN:=hide (And.intro (ae SN hlt) (JK a y j))
   have j3:j≤3:=by omega
   have i0:(0:Int)≤(j:Int):=by omega
   have i1:(j:Int)<(a.length:Int):=by omega
   have t1:decide ((j:Int)<(a.length:Int))=true:=by simp;omega
   have t2:decide (j<a.length)=true:=by simpa using hlt
   have v1:(j:Int)≤(j:Int)+1:=by omega
   have v2:(j:Int)+1≤5:=by omega
   have v3:(j:Int)+1≤(j:Int)+2:=by omega
   have v4:(j:Int)+2≤5:=by omega
   have v5:(0:Int)≤(j:Int)+1:=by omega
   have v6:((j:Int)+1).toNat=j+1:=by omega
   have v7:((j:Int)+2).toNat=j+2:=by omega
   have v8:(j:Int)+1≤(a.length:Int):=by omega
   have va:=wrap_small (x:=(j:Int)+1) (by omega) (by omega)
   have vb:=wrap_small (x:=(j:Int)+2) (by omega) (by omega)
   have s1:=sx_cut j (by omega)
   have s2:(⟨#[65,66,67,68,69]⟩:ByteArray).extract (j+1) (j+2)=⟨[Za.sx (j+1)].toArray⟩:=sx_cut (j+1) (by omega)
   rw[List.length_drop]at IW
   generalize hQ:Za.l7 y++Za.qtE 0 (a.take j)=Q at*
   generalize hX:Za.txL (a.drop (j+1))=X at*
   generalize hD:Za.fM a[j]=D at*
   generalize (a[j]:Int)=d at*
   generalize Za.sx j=s8 at*
   generalize Za.sx (j+1)=s9 at*
   clear aM gc hkj hown d10 SN hQ hX hD
   go_upto_region 7 with fail
   go_cut [8] (fun qv wx=>qv= .string ⟨(Q++[44]++[s8]++[61,99,40]++D++[44]++[s9]++[41]).toArray⟩∧Below wr.heap.size wr wx)
   case first=>
    go_region_with (go_at_call 21;refine(ae IDJ _).mono ?_;rintro r w8 ⟨rfl,lq⟩;have qF:=hide (show Below wr.heap.size wr w8 from by first | exact lq | exact(Below.refl _ _).drew.trans lq | exact(Below.refl _ _).drew.drew.trans lq | exact(Below.refl _ _).drew.drew.drew.trans lq);clear lq)
    all_goals
     go_wp2_with fail
     go_meet
     exact⟨by rw[←cJ,←cJ,←cJ,←cJ,←cJ,←cJ,←cJ],by first | exact ae qF | exact(ae qF).drew | exact(ae qF).drew.drew | exact(ae qF).drew.drew.drew⟩
   case rest=>
    obtain⟨rfl,hbc⟩:=hcut
    have cY:Below w7.heap.size w7 wc:=(ae bJ).trans (hbc.mono zb)
    have uU:=hide cY
    have Mw:=hide (ah (ae HOWN) fun k q=>hbc.block k ((ae HOWN).lt k q).2)
    have zc:=cY.size
    clear hbc cY HOWN bJ f0 IDJ s1 s2 v2 v4
    have w1:(j:Int)+1≤(ca:Int):=by omega
    have w2:j+1≤ca:=by omega
    have w3:j+1≤a.length:=by omega
    generalize hZ:(mQ a y j).map (fun x=>Value.string ⟨x.toArray⟩)=ZZ at*
    have HZ:=hide hZ
    clear hZ
    by_cases hce:ca=j+1
    all_goals
     (first
      | (have p2:(ca == j+1)=false:=by simpa using hce
         have p3:(ca - (j+1) == 0)=false:=by simp;omega
         have p4:((ca:Int) == (j:Int)+1)=false:=by simp;omega
         have IX:=hide (ae IW wc (fa+(j+1)) (fun _=>rfl) (ae uU))
         skip)
      | (subst hce
         have IX:=hide (ae IW wc fa (fun q=>by omega) (ae uU))
         rw[show a.length - (j+1)=0 by omega,show j+1 - (j+1)=0 by omega]at IX
         skip))
     go_wp2_with fail
     refine(ae IX).mono ?_
     rintro e w8 ⟨rfl,lq⟩
     have Gs:=(ae uU).trans (lq.mono zc)
     have qF:=hide (Gs.alloc Gs.size (.cells #[.string ⟨X.toArray⟩] 9))
     have UX:=hide (ah (ae Mw) fun k q=>lq.block k ((ae Mw).lt k q).2)
     have z8:=Gs.size
     clear lq Gs IW Mw IX
     go_wp2_with (at_builtin;go_must (refine wpList_append_own_at _ rfl (.tmp 59) (.tmp 65) 29 rfl w7.heap.size 9 ti (.string ⟨#[]⟩) 1 16 Tryz.underlying29 hi hz0 hz1 hz2 rfl (by decide) (.slice vo (j+2) vc) (j+2) ZZ rfl ((ae UX).alloc _) ⟨w8.heap.size,0,none⟩ 1 1 [.string ⟨X.toArray⟩] rfl rfl (ie _ _ _ _ rfl) (by simp[Value.oneCell']) (by unfold maxLen;omega) (by omega) (by simp;omega) ?_);go_must (intro v' w9 hown' hgrow _ _;obtain⟨g',cap',hv',-⟩:=ed hown';subst hv';have pW:=hide ((ae qF).grown hgrow (ae qF).size (fun k r=>((ae UX).lt k r).1));have Ck:=hide hown';clear hown' hgrow))
     go_roundg (gk - 1)
     case measure=>have:=ae aP;omega
     case rel=>exact⟨j+1,_,cap',by have:=ae aP;omega,by go_num,by rw[(ae HN).1];simp,rfl,by rw[(ae HN).2,List.map_append,ae HZ];exact ae Ck,ae pW⟩
  ·obtain rfl:j=a.length:=by omega
   rw[List.take_length]at*
   have t1:decide ((a.length:Int)<(a.length:Int))=false:=by simp
   have hb0:=(ae ml).trans (aM.mono (ae ml).size)
   have IST:=hide (ae IS wr hb0 (4*(a.length+1)) (by omega))
   rw[show ((4*(a.length+1):Nat):Int)=4*((a.length:Int)+1)by omega]at IST
   have IRN:=hide (fun(W':World) (hb:Below W.heap.size W W') (sq:ByteArray) (hq:sq=⟨(Za.l7 y++Za.qtE 0 a++[44,Za.sx a.length,61,110]).toArray⟩) (S:List (Int×Int)) (so:Option Addr) (sc:Nat) (hl:S.length=4*(a.length+1)) (hr:∀p∈S,Nr p) (hs:pn W' so S) (log:List Int) (hend:Za.pq [Za.app1,Za.app2] S (Za.kB 1 (Za.ay [] (Za.qA y :: Za.eqs 0 a)) (Za.qA y :: Za.eqs 0 a)) 1 log ((Za.wE a y).map Za.txL) [] [])=>Wm W' ((ae HE).below hb) la (ae uT) (ae HY) hq sc hs hr (by omega) hend)
   have xq:(Za.l7 y++Za.qtE 0 a).length≤1000:=by
    rw[List.length_append,Za.qtE_len _ 0 (ae uT)]
    unfold Za.l7
    simp
    omega
   have UY:=hide (show (⟨(Za.l7 y++Za.qtE 0 a++[44,Za.sx a.length,61,110]).toArray⟩:ByteArray)=⟨(Za.l7 y++Za.qtE 0 a).toArray⟩++⟨#[44]⟩++⟨[Za.sx a.length].toArray⟩++⟨#[61,110]⟩by
    rw[show (⟨#[44]⟩:ByteArray)=⟨[44].toArray⟩from rfl,show (⟨#[61,110]⟩:ByteArray)=⟨[61,110].toArray⟩from rfl,cJ,cJ,cJ]
    simp)
   rw[ae UY]at IRN
   have v1:(a.length:Int)≤(a.length:Int)+1:=by omega
   have v2:(a.length:Int)+1≤5:=by omega
   have v5:(0:Int)≤(a.length:Int):=by omega
   have v6:((a.length:Int)+1).toNat=a.length+1:=by omega
   have s1:=sx_cut a.length (by omega)
   generalize Za.l7 y++Za.qtE 0 a=Q at*
   generalize X9:Za.sx a.length=s8 at*
   have aT:=hide hb0
   clear aM hkj hown SN UY X9 hb0 IS bJ
   go_wp2_with fail
   refine(ae IST).mono ?_
   rintro e w8 ⟨script,o8,c8,rfl,hsl,kA,hsc,lq⟩
   have hm:script.length≤100:=by omega
   obtain⟨log,hend,q1,q2,q3,q4⟩:=Za.Pb a y la script hsl
   have iX:log.length≤1000000:=by omega
   have HQ:=hide (And.intro q1 (And.intro q2 q3))
   have Mx:=(ae aT).trans (lq.mono (ae aT).size)
   have IR:=hide (ae IRN w8 Mx _ rfl script o8 c8 hsl kA hsc log hend)
   rw[←Mt]at IR
   have qF:=hide Mx
   have SP:=hide (ah (ae HOWN) fun k q=>lq.block k ((ae HOWN).lt k q).2)
   have JL:=hide (Mu a y a.length)
   generalize mQ a y a.length=VT at*
   generalize hns:script.length=ns at*
   clear hsc kA hend lq Mx hsl hns q1 q2 q3 q4 IST IRN HOWN
   go_wp2_with fail
   refine(ae IR).mono ?_
   rintro e w9 ⟨R,rfl,⟨lo,lc,xo,xc,go,gc,yo,yc,rfl,r1,r2,_⟩,mv⟩
   have hbA:=mv.alloc mv.size (.cells #[.int .i64 1,.slice lo log.length lc,.slice xo VT.length xc,.slice go 0 gc,.slice yo 0 yc] 32)
   have M8:=heap_alloc_new w9 (.cells #[.int .i64 1,.slice lo log.length lc,.slice xo VT.length xc,.slice go 0 gc,.slice yo 0 yc] 32)
   have My:=(Below.refl w9.heap.size w9).alloc (Nat.le_refl _) (.cells #[.int .i64 1,.slice lo log.length lc,.slice xo VT.length xc,.slice go 0 gc,.slice yo 0 yc] 32)
   have hvv:=ae SP
   rw[←ae JL]at hvv
   have ve:=hide ((vR.lU r1).below My)
   have IDN:=hide (Ti _ (VT.map fun x=>(⟨x.toArray⟩:ByteArray)) lo log.length lc xo xc go gc yo yc vo vc ((o7.lU (ys:=VT) r2).below My) ((o7.lU (ys:=VT) hvv).below hbA) (by rw[List.length_map,ae JL];omega))
   rw[List.length_map,ae JL]at IDN
   rw[ae JL]at M8 hbA ve
   have xJ:=hide ((ae qF).trans (hbA.mono (ae qF).size))
   have M9:=hide M8
   rw[ae JL]
   clear mv hbA IR r1 r2 My M8 hvv SP
   go_upto_region 12 with fail
   generalize w9.alloc (.cells #[.int .i64 1,.slice lo log.length lc,.slice xo (a.length+2) xc,.slice go 0 gc,.slice yo 0 yc] 32)=wB at*
   generalize w9.heap.size=rb at*
   have iE:=ae M9
   have f0:=ag iE 0
   have f1:=ag iE 1
   have f2:=ag iE 2
   have f3:=ag iE 3
   have f4:=ag iE 4
   simp only[List.getElem?_toArray,List.getElem?_cons_zero,List.getElem?_cons_succ]at f0 f1 f2 f3 f4
   have rz:rb<wB.heap.size:=af iE
   clear iE
   go_wp2_with fail
   refine(ae IDN).mono ?_
   rintro e wC ⟨rfl,dC⟩
   obtain⟨k1,k2,k3⟩:=ae HQ
   have IC:=hide (fun(W':World) (hb:Below wB.heap.size wB W') z=>(Sk W' log z lo lc ((ae ve).below hb) iX).mono (fun e w' (h:e= .returned (.int .i64 (log.count z:Int))∧Below W'.heap.size W' w')=>(show e= .returned (.int .i64 (log.count z:Int))∧Below wB.heap.size wB w' from ⟨h.1,hb.trans (h.2.mono hb.size)⟩)))
   have IC2:=hide (fun W' hb=>ae IC W' hb 2)
   have IC1:=hide (fun W' hb=>ae IC W' hb 1)
   have IC0:=hide (fun W' hb=>ae IC W' hb 0)
   rw[k2]at IC2
   rw[k1]at IC1
   rw[k3,show ((2*(a.length+1):Nat):Int)=2*((a.length:Int)+1)by omega]at IC0
   have nQ:=hide dC
   have g1:=(dC.cell (p:=⟨rb,1,none⟩) rz).trans f1
   have rzx:rb<wC.heap.size:=Nat.lt_of_lt_of_le rz dC.size
   clear k1 k2 k3 dC IC IDN
   go_wp2_with fail
   refine(ae IC1 _ (ae nQ)).mono ?_
   rintro e wd ⟨rfl,xI⟩
   have h1:=(xI.cell (p:=⟨rb,1,none⟩) rz).trans f1
   have rzd:rb<wd.heap.size:=Nat.lt_of_lt_of_le rz xI.size
   have Ya:=hide xI
   clear xI
   go_wp2_with fail
   refine(ae IC2 _ (ae Ya)).mono ?_
   rintro e we ⟨rfl,aM⟩
   have i1:=(aM.cell (p:=⟨rb,1,none⟩) rz).trans f1
   have rze:rb<we.heap.size:=Nat.lt_of_lt_of_le rz aM.size
   have bJ:=hide aM
   clear aM
   go_wp2_with fail
   refine(ae IC0 _ (ae bJ)).mono ?_
   rintro e wf ⟨rfl,UZ⟩
   have Yb:=hide ((ae xJ).trans (UZ.mono (ae xJ).size))
   clear UZ
   go_wp2_with fail
   go_ret
   exact⟨rfl,ae Yb⟩
end Go.Proofs.YthfjnfcekeknlaaGreatDoor
