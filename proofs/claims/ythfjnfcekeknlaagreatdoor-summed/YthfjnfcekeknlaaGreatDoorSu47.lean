import Derived.Test.YthfjnfcekeknlaaGreatDoorSu39
import Derived.Test.YthfjnfcekeknlaaGreatDoorSu44
import Derived.Test.YthfjnfcekeknlaaGreatDoorSu46
set_option maxHeartbeats 8000000
set_option maxRecDepth 100000
namespace Go.Proofs.YthfjnfcekeknlaaGreatDoor
open Go.RowKit
def smB:ByteArray:=⟨#[115,117,109,40,110,44,65,44,83,41,58,45,83,61,65,46,32,115,117,109,40,99,40,72,44,84,41,44,65,44,83,41,58,45,66,58,61,65,43,72,44,115,117,109,40,84,44,66,44,83,41,46]⟩
def qU (a:List Nat):ByteArray:=⟨#[115,117,109,40]⟩++⟨(Za.txL a).toArray⟩++⟨#[44,48,44,83,41]⟩
theorem Td {a:List Nat} (ha:a.length<7):qU a=⟨(Za.jf Za.idS false [Za.qS a]).toArray⟩:=by
 have e:Za.jf Za.idS false [Za.qS a]=Za.nSum++([40]++(Za.bp Za.idS 7 (Za.tL a)++([44]++(Za.bp Za.idS 7 (Za.tD 0)++([44]++(Za.bp Za.idS 7 (Za.tV 83)++[41])))))):=by
  show Za.jX Za.idS (Za.qS a)++[]=_
  rw[List.append_nil]
  show Za.bp Za.idS 8 (Za.tF Za.nSum (Za.tL a) (Za.tD 0) (Za.tV 83))++[]=_
  rw[List.append_nil]
  exact Za.Gt 7 Za.nSum _ _ _
 rw[e,Za.pr_L a 7 ha,Za.Sm,Za.Gp,Za.lL (show 0<10 by omega)]
 unfold qU
 rw[show (⟨#[115,117,109,40]⟩:ByteArray)=⟨[115,117,109,40].toArray⟩from rfl,show (⟨#[44,48,44,83,41]⟩:ByteArray)=⟨[44,48,44,83,41].toArray⟩from rfl,fJ,fJ]
 simp[Za.nSum]
theorem OO {a:List Nat} (da:∀d∈a,d<10):(qU a).size=5*a.length+10:=by
 unfold qU
 simp only[ByteArray.size_append]
 have e:∀l:List UInt8,(⟨l.toArray⟩:ByteArray).size=l.length:=fun l=>by simp[ByteArray.size]
 rw[show (⟨#[115,117,109,40]⟩:ByteArray)=⟨[115,117,109,40].toArray⟩from rfl,show (⟨#[44,48,44,83,41]⟩:ByteArray)=⟨[44,48,44,83,41].toArray⟩from rfl,e,e,e,Za.txL_len a da]
 simp only[List.length_cons,List.length_nil]
 omega
theorem Wc (W:World) (he:wR W) {a:List Nat} (la:a.length≤5) (da:∀d∈a,d<10) {script:List (Int×Int)} {so:Option Addr} (sc:Nat) (hsc:qE W so script) (kP:∀p∈script,RJ p) (ly:script.length≤100) {en:Int} {log:List Int} {vals gols:List (List UInt8)} {wts:List Bool} (hend:Za.rJ Za.sums script (Za.kQ 1 (Za.aD [] [Za.qS a]) [Za.qS a]) en log vals gols wts):
 Calls Tryz.prog 15 #[.string smB,.string (qU a),.slice so script.length sc] W fun e w'=>∃R,e= .returned (.tuple #[R,.int .i64 0])∧CZ w' W.heap.size R en log vals gols wts∧Below W.heap.size W w':=by
 refine Wa W he (sp:=smB) (by decide) (fun L hL hh=>Za.Mc (s:=smB) rfl hL hh) (fun c hc=>by simp only[List.mem_cons,List.not_mem_nil,or_false]at hc;rcases hc with rfl | rfl<;>rfl) (Td (by omega)) (by rw[OO da];omega) (by simp) (.call _ (Za.Gs Za.nSum_word (Za.ok_L a 7 da (by omega)) (Za.Sl (by omega)) (Za.nZ (by decide))) rfl (by unfold Za.isInt Za.tF;simp)) (fun y hy=>by cases hy) ?_ hsc kP ly hend
 show [(⟨Za.gq Za.idS 8 (Za.tF Za.nSum (Za.tL a) (Za.tD 0) (Za.tV 83)),[],none,[],none⟩:Za.aH)]=_
 have:Za.gq Za.idS 8 (Za.tF Za.nSum (Za.tL a) (Za.tD 0) (Za.tV 83))=Za.tF Za.nSum (Za.tL a) (Za.tD 0) (Za.tV 83):=by
  refine(Za.V9 7 Za.nSum [Za.tL a,Za.tD 0,Za.tV 83]).trans ?_
  rw[List.map_cons,List.map_cons,List.map_cons,List.map_nil,Za.mp_L a 7 (by omega)]
  rfl
 rw[this]
 rfl
theorem ux (w:World) (x:ByteArray) (T:TypeId):nV (w.alloc (.cells #[.string x] T)) (some ⟨w.heap.size,0,none⟩) [x]:=fun _=>⟨w.heap.size,rfl,by simp,fun i hi=>by
 have hi':i<1:=hi
 obtain rfl:i=0:=by omega
 exact ah (heap_alloc_new w (.cells #[.string x] T)) 0⟩
theorem Dt (W:World) (he:wR W) {a0 a1:Option Addr} {l0 l1 c0 c1:Nat} (h0:Lc W a0 l0) (h1:uW W a1 l1 c1):
 Calls Tryz.prog 11 #[.slice a0 l0 c0,.slice a1 l1 c1] W fun e w'=>e= .returned (.bool true)∧Below W.heap.size W w':=by
 have IN0:=af (Ld W a0 l0 c0 5 h0 (by omega))
 have IS:=af (fun W' (hb:Below W.heap.size W W') n hn=>Gh W' a1 l1 c1 n (h1.below hb) hn)
 have HE:=af he
 clear he h0 h1
 go_enter Tryz.func11,Tryz.ntmps11
 go_wp2_with fail
 refine(ae IN0).mono ?_
 rintro e w1 ⟨a,oa,ca,rfl,la,da,owa,hb1⟩
 have bD:=af hb1
 have BD:=af da
 have YE:=af owa
 have Sz:=af (nU.QI owa)
 have IS2:=af (fun W' (hb:Below w1.heap.size w1 W')=>ae IS W' (hb1.trans (hb.mono hb1.size)) (3*a.length+2) (by omega))
 rw[show ((3*a.length+2:Nat):Int)=3*(a.length:Int)+2 by omega]at IS2
 have X1:=af (Za.EI da)
 clear IN0 IS hb1 da owa
 go_wp2_with fail
 go_loopg [6,7] a.length (fun k nv iv wr=>∃j:Nat,k+j=a.length∧iv= .int .i64 (j:Int)∧nv= .int .i64 ((Za.dw a j:Nat):Int)∧Below w1.heap.size w1 wr)
 case atStart=>exact⟨0,by omega,rfl,rfl,Below.refl _ _⟩
 case round=>
  obtain⟨j,hkj,rfl,rfl,aO⟩:=hrel
  have bT:=af aO
  have aT:=af hkj
  have zb:=aO.size
  have UU:=ae X1 j
  have Yk:Za.dw a j≤1000:=by omega
  by_cases hlt:j<a.length
  ·obtain⟨g,rfl,gz,gc⟩:=ae Sz (fun q=>by rw[List.map_eq_nil_iff]at q;rw[q]at hlt;simp at hlt)
   have f0:wr.cell? ⟨g,j,none⟩=some (.int .i64 (a[j]:Int)):=by
    rw[aO.cell (p:=⟨g,j,none⟩) gz,gc j (by simpa using hlt)]
    simp
   have gy:g<wr.heap.size:=by omega
   have i0:(0:Int)≤(j:Int):=by omega
   have i1:(j:Int)<(a.length:Int):=by omega
   have t1:decide ((j:Int)<(a.length:Int))=true:=by simp;omega
   have t2:decide (j<a.length)=true:=by simpa using hlt
   have jx:=af (Za.zW hlt)
   have d10:=ae BD _ (List.getElem_mem hlt)
   have j5:j≤5:=by omega
   generalize a[j]=x at*
   generalize Za.dw a j=y at*
   clear aO gc hkj UU
   go_wp2_with fail
   go_roundg (gk - 1)
   case measure=>have:=ae aT;omega
   case rel=>exact⟨j+1,by have:=ae aT;omega,by go_num,by rw[ae jx];go_num,ae bT⟩
  ·obtain rfl:j=a.length:=by omega
   have t1:decide ((a.length:Int)<(a.length:Int))=false:=by simp
   have IST:=af (ae IS2 wr aO)
   have bf:=af ((ae bD).trans (aO.mono (ae bD).size))
   have X2:=af ((ae Sz).below aO)
   generalize rU:Za.dw a a.length=y at*
   have vB:=af rU
   clear aO hkj UU IS2 Sz rU
   go_wp2_with fail
   refine(ae IST).mono ?_
   rintro e w3 ⟨script,o3,c3,rfl,ly,kP,hsc,hb3⟩
   have hm:script.length≤100:=by omega
   obtain⟨log,hend,q1,q2,q3,q4⟩:=Za.Me a (ae BD) la script ly
   rw[ae vB]at hend
   have jl:log.length≤1000000:=by omega
   have HQ:=af (And.intro q1 (And.intro q2 q3))
   have Gu:=(ae bf).trans (hb3.mono (ae bf).size)
   have IWA:=af (L0 w3 a oa ca ((ae X2).below hb3) (fun d hd=>by have:=ae BD d hd;omega) (by omega))
   have IRN:=af (fun W' (hb:Below w3.heap.size w3 W')=>Wc W' ((ae HE).below (Gu.trans (hb.mono Gu.size))) la (ae BD) c3 (hsc.below hb) kP hm hend)
   have xa:=Za.txL_len a (ae BD)
   have xa':(Za.txL a).length≤100:=by omega
   have bQ:=af Gu
   generalize X3:script.length=ns at*
   clear hsc kP xa IST hend hb3 Gu ly X3 q1 q2 q3 q4
   go_wp2_with fail
   refine(ae IWA).mono ?_
   rintro e w5 ⟨rfl,bF⟩
   have bO:=af bF
   clear IWA bF
   go_wp2_with fail
   refine(ae IRN w5 (ae bO)).mono ?_
   rintro e w6 ⟨R,rfl,⟨lo,lc,xo,xc,go,gc,yo,yc,rfl,r1,r2,_⟩,gC⟩
   have hbA:=((ae bO).trans (gC.mono (ae bO).size)).alloc ((ae bO).trans (gC.mono (ae bO).size)).size (.cells #[.int .i64 1,.slice lo log.length lc,.slice xo 1 xc,.slice go 0 gc,.slice yo 0 yc] 32)
   have Mf:=(Below.refl w6.heap.size w6).alloc (Nat.le_refl _) (.cells #[.int .i64 1,.slice lo log.length lc,.slice xo 1 xc,.slice go 0 gc,.slice yo 0 yc] 32)
   have gW:=heap_alloc_new w6 (.cells #[.int .i64 1,.slice lo log.length lc,.slice xo 1 xc,.slice go 0 gc,.slice yo 0 yc] 32)
   have xN:=af ((nU.qT r1).below Mf)
   have Px:=af ((nV.qT (ys:=[Za.ir y]) r2).below Mf)
   have mE:=af ((ae bQ).trans (hbA.mono (ae bQ).size))
   have X4:=af gW
   clear gC hbA IRN r1 r2 Mf gW
   go_upto_region 9 with fail
   generalize w6.alloc (.cells #[.int .i64 1,.slice lo log.length lc,.slice xo 1 xc,.slice go 0 gc,.slice yo 0 yc] 32)=w7 at*
   generalize w6.heap.size=rb at*
   have gW:=ae X4
   have f0:=ah gW 0
   have f1:=ah gW 1
   have f2:=ah gW 2
   have f3:=ah gW 3
   have f4:=ah gW 4
   simp only[List.getElem?_toArray,List.getElem?_cons_zero,List.getElem?_cons_succ]at f0 f1 f2 f3 f4
   have rz:rb<w7.heap.size:=ag gW
   have ID:=af (fun W'=>decimalK y (by omega) W')
   generalize Za.ir y=X at*
   have IDN:=af (fun(W':World) (hb:Below w7.heap.size w7 W') (vo:Option Addr) (vc:Nat) (hv:nV W' vo [⟨X.toArray⟩])=>(S6 W' [⟨X.toArray⟩] lo log.length lc xo xc go gc yo yc vo vc ((ae Px).below hb) hv (by simp)).mono (fun e w' (h:e= .returned (.bool true)∧Below W'.heap.size W' w')=>(show e= .returned (.bool true)∧Below w7.heap.size w7 w' from ⟨h.1,hb.trans (h.2.mono hb.size)⟩)))
   clear gW bO
   go_cut [11] (fun dv wx=>dv= .bool true∧Below w7.heap.size w7 wx)
   case first=>
    go_region_with (first
     | (go_at_call 21;refine(ae ID _).mono ?_;rintro e w9 ⟨rfl,lM⟩;have zY:Below w7.heap.size w7 w9:=(by first | exact lM | exact(Below.refl _ _).drew.trans lM | exact(Below.refl _ _).drew.drew.trans lM | exact(Below.refl _ _).drew.drew.drew.trans lM);have k0:=(zY.cell (p:=⟨rb,0,none⟩) rz).trans f0;have k1:=(zY.cell (p:=⟨rb,1,none⟩) rz).trans f1;have k2:=(zY.cell (p:=⟨rb,2,none⟩) rz).trans f2;have k3:=(zY.cell (p:=⟨rb,3,none⟩) rz).trans f3;have k4:=(zY.cell (p:=⟨rb,4,none⟩) rz).trans f4;have rz9:rb<w9.heap.size:=Nat.lt_of_lt_of_le rz zY.size;have jL:=af zY;clear lM zY)
     | (go_at_call 18;refine(ae IDN _ (by first | exact(ae jL).alloc (ae jL).size _ | exact((ae jL).alloc (ae jL).size _).drew | exact((ae jL).alloc (ae jL).size _).drew.drew | exact(ae jL).drew.alloc (ae jL).size _ | exact((ae jL).drew.alloc (ae jL).size _).drew) _ _ (by first | exact ux _ _ _ | exact(ux _ _ _).below (Below.refl _ _).drew | exact(ux _ _ _).below (Below.refl _ _).drew.drew)).mono ?_;rintro e wA ⟨rfl,hbA⟩;have xQ:=af hbA;clear hbA))
    all_goals
     go_wp2_with fail
     go_meet
     exact⟨rfl,by first | exact ae xQ | exact(ae xQ).drew⟩
   case rest=>
    obtain⟨rfl,eE⟩:=hcut
    obtain⟨k1,k2,k3⟩:=ae HQ
    have IC:=af (fun(W':World) (hb:Below w7.heap.size w7 W') z=>(RH W' log z lo lc ((ae xN).below hb) jl).mono (fun e w' (h:e= .returned (.int .i64 (log.count z:Int))∧Below W'.heap.size W' w')=>(show e= .returned (.int .i64 (log.count z:Int))∧Below w7.heap.size w7 w' from ⟨h.1,hb.trans (h.2.mono hb.size)⟩)))
    have IC2:=af (fun W' hb=>ae IC W' hb 2)
    have IC1:=af (fun W' hb=>ae IC W' hb 1)
    have IC0:=af (fun W' hb=>ae IC W' hb 0)
    rw[k2]at IC2
    rw[k1]at IC1
    rw[k3,show ((a.length+1:Nat):Int)=(a.length:Int)+1 by omega]at IC0
    have oh:=af eE
    have g1:=(eE.cell (p:=⟨rb,1,none⟩) rz).trans f1
    have rzx:rb<wc.heap.size:=Nat.lt_of_lt_of_le rz eE.size
    clear k1 k2 k3 eE IC
    go_wp2_with fail
    refine(ae IC1 _ (ae oh)).mono ?_
    rintro e wd ⟨rfl,xP⟩
    have h1:=(xP.cell (p:=⟨rb,1,none⟩) rz).trans f1
    have rzd:rb<wd.heap.size:=Nat.lt_of_lt_of_le rz xP.size
    have X5:=af xP
    clear xP
    go_wp2_with fail
    refine(ae IC2 _ (ae X5)).mono ?_
    rintro e we ⟨rfl,aO⟩
    have i1:=(aO.cell (p:=⟨rb,1,none⟩) rz).trans f1
    have rze:rb<we.heap.size:=Nat.lt_of_lt_of_le rz aO.size
    have bT:=af aO
    clear aO
    go_wp2_with fail
    refine(ae IC0 _ (ae bT)).mono ?_
    rintro e wf ⟨rfl,UW⟩
    have X6:=af ((ae mE).trans (UW.mono (ae mE).size))
    clear UW
    go_wp2_with fail
    go_ret
    exact⟨rfl,ae X6⟩
end Go.Proofs.YthfjnfcekeknlaaGreatDoor
