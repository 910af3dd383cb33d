import Derived.Test.YthfjnfcekeknlaaGreatDoorMe38
import Derived.Test.YthfjnfcekeknlaaGreatDoorMe40
set_option maxHeartbeats 8000000
set_option maxRecDepth 100000
namespace Zc
theorem mE.mem {a b l:List Nat} (h:mE a b l):∀y∈l,y∈a∨y∈b:=by
 induction h with
 | nl b=>exact fun y hy=>Or.inr hy
 | nr a=>exact fun y hy=>Or.inl hy
 | left d h ih=>
  intro y hy
  rcases List.mem_cons.1 hy with rfl | hy
  ·exact Or.inl (by simp)
  ·exact(ih y hy).imp (fun q=>by simp[q]) id
 | right d h ih=>
  intro y hy
  rcases List.mem_cons.1 hy with rfl | hy
  ·exact Or.inr (by simp)
  ·exact(ih y hy).imp id (fun q=>by simp[q])
end Zc
namespace Go.Proofs.YthfjnfcekeknlaaGreatDoor
open Go.RowKit
def mrB:ByteArray:=⟨#[109,101,114,40,99,40,72,44,88,41,44,89,44,90,41,58,45,90,61,99,40,72,44,87,41,44,109,101,114,40,88,44,89,44,87,41,46,32,109,101,114,40,88,44,99,40,72,44,89,41,44,90,41,58,45,90,61,99,40,72,44,87,41,44,109,101,114,40,88,44,89,44,87,41,46,32,109,101,114,40,110,44,89,44,90,41,58,45,90,61,89,46,32,109,101,114,40,88,44,110,44,90,41,58,45,90,61,88,46]⟩
def qM (x:List UInt8) (a b:List Nat):ByteArray:=⟨x.toArray⟩++⟨(Zc.txL a).toArray⟩++⟨#[44]⟩++⟨(Zc.txL b).toArray⟩++⟨#[44,90,41]⟩
theorem TU (x:List UInt8) {a b:List Nat} (ha:a.length<7) (hb:b.length<7):qM (x++[40]) a b=⟨(Zc.jD Zc.idS false [Zc.qC x (Zc.tL a) (Zc.tL b) 90]).toArray⟩:=by
 rw[Zc.WU,Zc.pr_L a 7 ha,Zc.pr_L b 7 hb]
 unfold qM
 rw[show (⟨#[44]⟩:ByteArray)=⟨[44].toArray⟩from rfl,show (⟨#[44,90,41]⟩:ByteArray)=⟨[44,90,41].toArray⟩from rfl,dY,dY,dY,dY]
theorem PC (x:List UInt8) {a b:List Nat} (da:∀d∈a,d<10) (db:∀d∈b,d<10):(qM x a b).size=x.length+5*a.length+5*b.length+6:=by
 unfold qM
 simp only[ByteArray.size_append]
 have e:∀l:List UInt8,(⟨l.toArray⟩:ByteArray).size=l.length:=fun l=>by simp[ByteArray.size]
 rw[show (⟨#[44]⟩:ByteArray)=⟨[44].toArray⟩from rfl,show (⟨#[44,90,41]⟩:ByteArray)=⟨[44,90,41].toArray⟩from rfl,e,e,e,e,e,Zc.txL_len a da,Zc.txL_len b db]
 simp only[List.length_cons,List.length_nil]
 omega
theorem WW (W:World) (he:xj W) {a b:List Nat} (la:a.length≤5) (lb:b.length≤5) (da:∀d∈a,d<10) (db:∀d∈b,d<10) {script:List (Int×Int)} {so:Option Addr} (sc:Nat) (hsc:qL W so script) (kX:∀p∈script,SC p) (kN:script.length≤100) {en:Int} {log:List Int} {vals gols:List (List UInt8)} {wts:List Bool} (hend:Zc.rW Zc.mers script (Zc.jP 1 (Zc.aC [] [Zc.qC Zc.nMer (Zc.tL a) (Zc.tL b) 90]) [Zc.qC Zc.nMer (Zc.tL a) (Zc.tL b) 90]) en log vals gols wts):
 Calls Tryz.prog 15 #[.string mrB,.string (qM [109,101,114,40] a b),.slice so script.length sc] W fun e w'=>∃R,e= .returned (.tuple #[R,.int .i64 0])∧Dh w' W.heap.size R en log vals gols wts∧Below W.heap.size W w':=by
 refine runK W he (by rw[Zc.mer_pr];rfl) (by decide) (by decide) Zc.mer_ok Zc.mer_mp (fun c hc=>by simp only[Zc.mers,List.mem_cons,List.not_mem_nil,or_false] at hc;rcases hc with rfl|rfl|rfl|rfl<;>rfl) (TU Zc.nMer (by omega) (by omega)) (by rw[PC _ da db];simp only[Zc.nMer,List.length_append,List.length_cons,List.length_nil];omega) (by simp) (Zc.YB Zc.nMer_word (by decide) (Zc.ok_L a 7 da (by omega)) (Zc.ok_L b 7 db (by omega)) (by decide)) (fun y hy=>by cases hy) ?_ hsc kX kN hend
 show [(⟨Zc.gD Zc.idS 8 (Zc.tF Zc.nMer (Zc.tL a) (Zc.tL b) (Zc.tV 90)),[],none,[],none⟩:Zc.aH)]=_
 have:Zc.gD Zc.idS 8 (Zc.tF Zc.nMer (Zc.tL a) (Zc.tL b) (Zc.tV 90))=Zc.tF Zc.nMer (Zc.tL a) (Zc.tL b) (Zc.tV 90):=by
  refine(Zc.WT 7 Zc.nMer [Zc.tL a,Zc.tL b,Zc.tV 90]).trans ?_
  rw[List.map_cons,List.map_cons,List.map_cons,List.map_nil,Zc.mp_L a 7 (by omega),Zc.mp_L b 7 (by omega)]
  rfl
 rw[this]
 rfl
theorem DX (W:World) (he:xj W) {a0 a1 a2:Option Addr} {l0 l1 l2 c0 c1 c2:Nat} (h0:wN W a0 l0) (h1:wN W a1 l1) (h2:vq W a2 l2 c2):
 Calls Tryz.prog 10 #[.slice a0 l0 c0,.slice a1 l1 c1,.slice a2 l2 c2] W fun e w'=>e= .returned (.bool true)∧Below W.heap.size W w':=by
 have IN0:=af (CF W a0 l0 c0 5 h0 (by omega))
 have IN1:=af (fun W' (hb:Below W.heap.size W W')=>CF W' a1 l1 c1 5 (h1.below hb) (by omega))
 have IS:=af (fun W' (hb:Below W.heap.size W W') n hn=>GK W' a2 l2 c2 n (h2.below hb) hn)
 have HE:=af he
 clear he h0 h1 h2
 go_enter Tryz.func10,Tryz.ntmps10
 go_wp2_with fail
 refine(ae IN0).mono ?_
 rintro e w1 ⟨a,oa,ca,rfl,la,da,owa,hb1⟩
 have ba:=af hb1
 have IN:=af (ae IN1 _ hb1)
 have BZ:=af da
 have Te:=af owa
 clear IN0 IN1 hb1 da owa
 go_wp2_with fail
 refine(ae IN).mono ?_
 rintro e w2 ⟨b,ob,cb,rfl,lb,db,owb,hb2⟩
 have hbB:=(ae ba).trans (hb2.mono (ae ba).size)
 have IS2:=af (ae IS _ hbB (2*(a.length+b.length+1)) (by omega))
 rw[show ((2*(a.length+b.length+1):Nat):Int)=2*((a.length:Int)+(b.length:Int)+1)by omega]at IS2
 have Kf:=af db
 have Tf:=af owb
 have MU:=af (ai (ae Te) fun k r=>hb2.block k ((ae Te).lt k r).2)
 have aX:=af hbB
 clear IN IS hb2 hbB db owb Te ba
 go_wp2_with fail
 refine(ae IS2).mono ?_
 rintro e w3 ⟨script,o3,c3,rfl,kN,kX,hsc,hb3⟩
 have hm:script.length≤100:=by omega
 obtain⟨log,l,hend,tK,Tg,jo⟩:=Zc.MK a b la lb script kN
 have GM:log.length≤1000000:=by omega
 have zL:=af tK
 have WX:=af Tg
 have GY:=(ae aX).trans (hb3.mono (ae aX).size)
 have Vv:=af (ai (ae MU) fun k r=>hb3.block k ((ae MU).lt k r).2)
 have Vw:=af (ai (ae Tf) fun k r=>hb3.block k ((ae Tf).lt k r).2)
 have IWA:=af (rX w3 a oa ca (ly.xY (ae Vv)) (fun d hd=>by have:=ae BZ d hd;omega) (by omega))
 have IWB:=af (fun W' (hb:Below w3.heap.size w3 W')=>rX W' b ob cb ((ly.xY (ae Vw)).below hb) (fun d hd=>by have:=ae Kf d hd;omega) (by omega))
 have IRN:=af (fun W' (hb:Below w3.heap.size w3 W')=>WW W' ((ae HE).below (GY.trans (hb.mono GY.size))) la lb (ae BZ) (ae Kf) c3 (hsc.below hb) kX hm hend)
 have xa:=Zc.txL_len a (ae BZ)
 have xb:=Zc.txL_len b (ae Kf)
 have xa':(Zc.txL a).length≤100:=by omega
 have xb':(Zc.txL b).length≤100:=by omega
 have bu:=af GY
 have tJ:=af kN
 generalize YF:script.length=ns at*
 clear hsc kX xa xb IS2 hend tK Tg hb3 GY kN YF jo MU Tf aX
 go_wp2_with fail
 refine(ae IWA).mono ?_
 rintro e w4 ⟨rfl,hb4⟩
 have cu:=af hb4
 have IWB4:=af (ae IWB w4 hb4)
 clear IWA IWB hb4
 go_wp2_with fail
 refine(ae IWB4).mono ?_
 rintro e w5 ⟨rfl,bB⟩
 have bM:=af ((ae cu).trans (bB.mono (ae cu).size))
 clear bB IWB4
 go_wp2_with fail
 refine(ae IRN w5 (ae bM)).mono ?_
 rintro e w6 ⟨R,rfl,⟨lo,lc,xo,xc,go,gc,yo,yc,rfl,r1,r2,_⟩,eR⟩
 have hbA:=((ae bM).trans (eR.mono (ae bM).size)).alloc ((ae bM).trans (eR.mono (ae bM).size)).size (.cells #[.int .i64 1,.slice lo log.length lc,.slice xo 1 xc,.slice go 0 gc,.slice yo 0 yc] 32)
 have MV:=(Below.refl w6.heap.size w6).alloc (Nat.le_refl _) (.cells #[.int .i64 1,.slice lo log.length lc,.slice xo 1 xc,.slice go 0 gc,.slice yo 0 yc] 32)
 have ig:=heap_alloc_new w6 (.cells #[.int .i64 1,.slice lo log.length lc,.slice xo 1 xc,.slice go 0 gc,.slice yo 0 yc] 32)
 have eO:=(ly.mr r1).below MV
 obtain⟨gx,rfl,gxz,gxc⟩:=(yI.mr (ys:=[Zc.txL l]) r2).below MV (by simp)
 have x0:=gxc 0 (by simp)
 simp only[List.map_cons,List.map_nil,List.getElem_cons_zero]at x0
 have x9:=af eO
 have gZ:=af hbA
 have YG:=af ig
 have lt:=(ae zL).len
 have bY:=af (fun W' (hb:Below w3.heap.size w3 W')=>betweenK (a.length+b.length) a b l rfl (by omega) lt (ae BZ) (ae Kf) (fun y hy=>((ae zL).mem y hy).elim (ae BZ y) (ae Kf y)) W' oa ob ca cb ((ir.mr (ae Vv)).below hb) ((ir.mr (ae Vw)).below hb))
 rw[Zc.MM (ae zL)]at bY
 clear eR hbA r1 r2 MV ig eO gxc IRN lt
 generalize (⟨(Zc.txL l).toArray⟩:ByteArray)=X at*
 go_upto_region 5 with fail
 generalize w6.alloc (.cells #[.int .i64 1,.slice lo log.length lc,.slice (some ⟨gx,0,none⟩) 1 xc,.slice go 0 gc,.slice yo 0 yc] 32)=w7 at*
 generalize w6.heap.size=rb at*
 have ig:=ae YG
 have f0:=ah ig 0
 have f1:=ah ig 1
 have f2:=ah ig 2
 have f3:=ah ig 3
 have f4:=ah ig 4
 simp only[List.getElem?_toArray,List.getElem?_cons_zero,List.getElem?_cons_succ]at f0 f1 f2 f3 f4
 have rz:rb<w7.heap.size:=ag ig
 have IC:=af (SB w7 log (-1) lo lc (ae x9) GM)
 rw[ae WX]at IC
 clear ig cu bM
 go_wp2_with fail
 refine(ae IC).mono ?_
 rintro e w8 ⟨rfl,rh⟩
 have g2:=(rh.cell (p:=⟨rb,2,none⟩) rz).trans f2
 have x8:=(rh.cell (p:=⟨gx,0,none⟩) gxz).trans x0
 have rz8:rb<w8.heap.size:=Nat.lt_of_lt_of_le rz rh.size
 have gz8:gx<w8.heap.size:=Nat.lt_of_lt_of_le gxz rh.size
 have MW:=(ae gZ).trans (rh.mono (ae gZ).size)
 have IB:=af (ae bY _ MW)
 have JG:=af ((ae bu).trans (MW.mono (ae bu).size))
 clear rh MW IC
 go_wp2_with fail
 refine(ae IB).mono ?_
 rintro e w9 ⟨rfl,nS⟩
 have ql:=af ((ae JG).trans (nS.mono (ae JG).size))
 clear nS
 go_wp2_with fail
 go_ret
 exact⟨rfl,ae ql⟩
end Go.Proofs.YthfjnfcekeknlaaGreatDoor
namespace Go.Proofs.YthfjnfcekeknlaaGreatDoor
open Go.ChangeShapes Go.WideShapes Go.ChangeAt Go.RowKit
theorem GZ (os:Os):laidMet Tryz.prog Rows.mergedRow.laid ((uI os).forCall (fun _ _=>0) ⟨#[],#[.slice Option.none 0 0,.slice Option.none 0 0,.slice Option.none 0 0],[]⟩).memory:=
 laidMet_of_run' 8 (by kernel_rfl) (by kernel_rfl)
theorem ym (H:Type) (enc:TypeId×Value→H) (W:World) (base:Nat) (args:Array Value) (ds gs:List (DataW H)) (before:List MemPlace)
 (hval:∀(j:Nat) t v,Tryz.f10.params[j]?=some t→args[j]?=some v→Value.okWide Tryz.prog W .any base t v)
 (hW:DataW.Whole enc Tryz.prog Tryz.f10.params.toList Rows.mergedSpec.vars false W args.toList ds gs before) (hL:laidMetH Tryz.prog Rows.mergedRow.laid W):
 Calls Tryz.prog 10 args W fun e W'=>∃v,e= .returned v∧Rows.mergedSpec.post enc Tryz.prog Tryz.f10 false true false false W args v W':=by
 have hW':=hW
 obtain⟨p,q,hA0,hV,rfl,_,_⟩:=hW
 have hA:DataW.TrodAll enc Tryz.prog W 0 (fun _=>true) true Tryz.f10.params.toList args.toList ds p:=hA0
 rw[Tryz.params10]at hA hval
 obtain⟨v0,v1,v2,d0,d1,d2,p0,p1,p2,rfl,rfl,rfl,h0,h1,h2⟩:=trodAll_three hA
 obtain⟨rfl,rfl⟩:=trodVars_none hV
 obtain⟨a0,l0,c0,rfl⟩:=okWide_slice Tryz.underlying25 (hval 0 25 v0 rfl rfl)
 have k0:=h0
 obtain⟨f0,g0⟩:=h0
 obtain⟨a1,l1,c1,rfl⟩:=okWide_slice Tryz.underlying25 (hval 1 25 v1 rfl rfl)
 have k1:=h1
 obtain⟨f1,g1⟩:=h1
 obtain⟨a2,l2,c2,rfl⟩:=okWide_slice Tryz.underlying26 (hval 2 26 v2 rfl rfl)
 have k2:=h2
 obtain⟨f2,g2⟩:=h2
 clear hA0
 simp only[List.append_nil]at hW'
 have hlt:∀x∈p0++p1++p2,x.block<W.heap.size:=fun x hx=>by simpa using hW'.lt x hx
 have Th:∀x∈p0,x.block<W.heap.size:=fun x hx=>hlt x (by simp[hx])
 have tO:∀x∈p1,x.block<W.heap.size:=fun x hx=>hlt x (by simp[hx])
 have KR:∀x∈p2,x.block<W.heap.size:=fun x hx=>hlt x (by simp[hx])
 have he:=Td hL
 have walk:Calls Tryz.prog 10 #[.slice a0 l0 c0,.slice a1 l1 c1,.slice a2 l2 c2] W fun e w'=>e= .returned (.bool true)∧Below W.heap.size W w':=DX W he (Kc g0 Th) (Kc g1 tO) (ML g2 KR)
 refine walk.mono fun e W' ⟨he,hb⟩=> ?_
 subst he
 exact⟨_,rfl,_,_,_,[],p0++p1++p2,[],hW',trodAll_mk1 (shut_bool Tryz.underlying4 _),(by rw[List.append_assoc];exact trodAll_mk3 (Below.trod lawLaid (by kernel_rfl) (of_decide_eq_true (by kernel_rfl)) k0 hb Th) (Below.trod lawLaid (by kernel_rfl) (of_decide_eq_true (by kernel_rfl)) k1 hb tO) (Below.trod lawLaid (by kernel_rfl) (of_decide_eq_true (by kernel_rfl)) k2 hb KR)),rfl,hb.frame _,fun h=>by cases h⟩
theorem Dw (os:Os) {H:Type} (enc:TypeId×Value→H):∃places,DataW.whole enc Tryz.prog ((uI os).forCall (fun _ _=>0) ⟨#[],#[.slice Option.none 0 0,.slice Option.none 0 0,.slice Option.none 0 0],[]⟩).memory Tryz.f10.params.toList Rows.mergedSpec.vars false #[Value.slice Option.none 0 0,Value.slice Option.none 0 0,Value.slice Option.none 0 0].toList 8=some ([.nil,.nil,.nil],[],places):=
 ⟨[],by kernel_rfl⟩
theorem AL (os:Os) (started:os.Started) (H:Type) (enc:TypeId×Value→H) (F:Stop.Interp):
 ReturnsInHanded {} Tryz.checked os 10 .any ((OpenSpec.ofChange Rows.mergedSpec).preRow enc Tryz.prog Tryz.f10 Rows.mergedRow.domain false Rows.mergedRow.laid) (((OpenSpec.ofChange Rows.mergedSpec).at F).post enc Tryz.prog Tryz.f10 false true false false):=by
 obtain⟨places,hx⟩:=Dw os enc
 refine returnsInHanded_of_row (C:=Tryz.checked) (s:=OpenSpec.ofChange Rows.mergedSpec) lawOwn started (by kernel_rfl) Tryz.func10
  (witness_row_at (enc:=enc) (C:=Tryz.checked) false (uI os) #[.slice Option.none 0 0,.slice Option.none 0 0,.slice Option.none 0 0] rfl (by kernel_rfl) (by kernel_rfl) (by kernel_rfl)
   (OpenSpec.preRow_of_cond 8 hx (by kernel_rfl) (fun k hk=>by cases hk) (by kernel_rfl) (GZ os))) ?_
 intro W base args ds gs before hval hW _ _ _ hL _ _
 exact ym H enc W base args ds gs before hval hW hL
theorem merged_said:Rows.MergedSaid:=
 OpenClaim.holds_of_cond 10 Tryz.f10 rfl rfl rfl rfl rfl rfl rfl ⟨rfl,rfl,rfl,rfl,rfl⟩ rfl rfl rfl rfl rfl (by kernel_rfl) Tryz.func10 (by kernel_rfl)
  (of_decide_eq_true (by kernel_rfl)) (by unfold Func.isWrapper;first | (rw[if_pos (by decide+kernel)];kernel_rfl) | (rw[if_neg (by decide+kernel)];exact⟨rfl,rfl⟩))
  (fun os started H enc _ F=>by rw[OpenClaim.pre_eq_preRow];exact AL os started H enc F)
theorem Dx (f:FuncId) (fn:Func) (hf:Tryz.pinned.checked.prog.funcNamed "parley/parleykeep.Merged"=some f) (hfn:Tryz.pinned.checked.prog.funcs[f]?=some fn):
 false=Tryz.pinned.checked.prog.looks []∧∀(j:Nat) t,fn.params[j]?=some t→Tryz.pinned.checked.prog.wantsStandIn t=false:=by
 obtain rfl:f=10:=Option.some.inj ((show Tryz.prog.funcNamed "parley/parleykeep.Merged"=some 10 by kernel_rfl).symm.trans hf) |>.symm
 obtain rfl:fn=Tryz.f10:=(Option.some.inj (Tryz.func10.symm.trans hfn)).symm
 refine⟨by kernel_rfl,fun j t ht=> ?_⟩
 rw[Tryz.params10]at ht
 have nG:t=25∨t=25∨t=26:=by simpa using Array.mem_of_getElem? ht
 rcases nG with rfl | rfl | rfl
 ·exact(show Tryz.prog.wantsStandIn 25=false by kernel_rfl)
 ·exact(show Tryz.prog.wantsStandIn 25=false by kernel_rfl)
 ·exact(show Tryz.prog.wantsStandIn 26=false by kernel_rfl)
theorem merged_holds:Rows.MergedCardSaid:=
 Claim7.holds_tied_plain_at .later [] _ _ _ _ merged_said (fun _ h=>by cases h) (by kernel_rfl) (fun _ h=>by cases h) merged_row_tie rfl ⟨rfl,rfl⟩ (by kernel_rfl) rfl Dx (by kernel_rfl)
end Go.Proofs.YthfjnfcekeknlaaGreatDoor
