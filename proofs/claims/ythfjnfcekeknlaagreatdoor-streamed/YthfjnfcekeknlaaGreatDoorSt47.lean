import Derived.Test.YthfjnfcekeknlaaGreatDoorSt41
import Derived.Test.YthfjnfcekeknlaaGreatDoorSt46
set_option maxHeartbeats 8000000
set_option maxRecDepth 100000
namespace Go.Proofs.YthfjnfcekeknlaaGreatDoor
open Go.ChangeShapes Go.WideShapes Go.ChangeAt Go.RowKit
theorem Df (os:Os):laidMet Tryz.prog Rows.streamedRow.laid ((tP os).forCall (fun _ _=>0) ⟨#[],#[.slice Option.none 0 0,.int .i64 0,.slice Option.none 0 0],[]⟩).memory:=
 laidMet_of_run' 8 (by kernel_rfl) (by kernel_rfl)
theorem uE (H:Type) (enc:TypeId×Value→H) (W:World) (base:Nat) (args:Array Value) (ds gs:List (DataW H)) (before:List MemPlace)
 (hval:∀(j:Nat) t v,Tryz.f9.params[j]?=some t→args[j]?=some v→Value.okWide Tryz.prog W .any base t v)
 (hW:DataW.Whole enc Tryz.prog Tryz.f9.params.toList Rows.streamedSpec.vars false W args.toList ds gs before) (hL:laidMetH Tryz.prog Rows.streamedRow.laid W):
 Calls Tryz.prog 9 args W fun e W'=>∃v,e= .returned v∧Rows.streamedSpec.post enc Tryz.prog Tryz.f9 false true false false W args v W':=by
 have hW':=hW
 obtain⟨p,q,hA0,hV,rfl,_,_⟩:=hW
 have hA:DataW.TrodAll enc Tryz.prog W 0 (fun _=>true) true Tryz.f9.params.toList args.toList ds p:=hA0
 rw[Tryz.params9]at hA hval
 obtain⟨v0,v1,v2,d0,d1,d2,p0,p1,p2,rfl,rfl,rfl,h0,h1,h2⟩:=trodAll_three hA
 obtain⟨rfl,rfl⟩:=trodVars_none hV
 obtain⟨a0,l0,c0,rfl⟩:=okWide_slice Tryz.underlying25 (hval 0 25 v0 rfl rfl)
 have k0:=h0
 obtain⟨f0,g0⟩:=h0
 obtain⟨z1,rfl⟩:=okWide_int Tryz.underlying3 (hval 1 3 v1 rfl rfl)
 have k1:=h1
 obtain⟨f1,g1⟩:=h1
 obtain⟨_,e1,zl1,zh1⟩:=SE (v:= .int .i64 z1) g1
 cases e1
 obtain⟨a2,l2,c2,rfl⟩:=okWide_slice Tryz.underlying26 (hval 2 26 v2 rfl rfl)
 have k2:=h2
 obtain⟨f2,g2⟩:=h2
 clear hA0
 simp only[List.append_nil]at hW'
 have hlt:∀x∈p0++p1++p2,x.block<W.heap.size:=fun x hx=>by simpa using hW'.lt x hx
 have SQ:∀x∈p0,x.block<W.heap.size:=fun x hx=>hlt x (by simp[hx])
 have vD:∀x∈p1,x.block<W.heap.size:=fun x hx=>hlt x (by simp[hx])
 have Km:∀x∈p2,x.block<W.heap.size:=fun x hx=>hlt x (by simp[hx])
 have he:=SB hL
 have walk:Calls Tryz.prog 9 #[.slice a0 l0 c0,.int .i64 z1,.slice a2 l2 c2] W fun e w'=>e= .returned (.bool true)∧Below W.heap.size W w':=Ae W he (SC g0 SQ) z1 zl1 zh1 (Mk g2 Km)
 refine walk.mono fun e W' ⟨he,hb⟩=> ?_
 subst he
 exact⟨_,rfl,_,_,_,[],p0++p1++p2,[],hW',trodAll_mk1 (shut_bool Tryz.underlying4 _),(by rw[List.append_assoc];exact trodAll_mk3 (Below.trod lawLaid (by kernel_rfl) (of_decide_eq_true (by kernel_rfl)) k0 hb SQ) (Below.trod lawLaid (by kernel_rfl) (of_decide_eq_true (by kernel_rfl)) k1 hb vD) (Below.trod lawLaid (by kernel_rfl) (of_decide_eq_true (by kernel_rfl)) k2 hb Km)),rfl,hb.frame _,fun h=>by cases h⟩
theorem yG (os:Os) {H:Type} (enc:TypeId×Value→H):∃places,DataW.whole enc Tryz.prog ((tP os).forCall (fun _ _=>0) ⟨#[],#[.slice Option.none 0 0,.int .i64 0,.slice Option.none 0 0],[]⟩).memory Tryz.f9.params.toList Rows.streamedSpec.vars false #[Value.slice Option.none 0 0,Value.int .i64 0,Value.slice Option.none 0 0].toList 8=some ([.nil,.lit (.int .i64 0),.nil],[],places):=
 ⟨[],by kernel_rfl⟩
theorem xR (os:Os) (started:os.Started) (H:Type) (enc:TypeId×Value→H) (F:Stop.Interp):
 ReturnsInHanded {} Tryz.checked os 9 .any ((OpenSpec.ofChange Rows.streamedSpec).preRow enc Tryz.prog Tryz.f9 Rows.streamedRow.domain false Rows.streamedRow.laid) (((OpenSpec.ofChange Rows.streamedSpec).at F).post enc Tryz.prog Tryz.f9 false true false false):=by
 obtain⟨places,hx⟩:=yG os enc
 refine returnsInHanded_of_row (C:=Tryz.checked) (s:=OpenSpec.ofChange Rows.streamedSpec) lawOwn started (by kernel_rfl) Tryz.func9
  (witness_row_at (enc:=enc) (C:=Tryz.checked) false (tP os) #[.slice Option.none 0 0,.int .i64 0,.slice Option.none 0 0] rfl (by kernel_rfl) (by kernel_rfl) (by kernel_rfl)
   (OpenSpec.preRow_of_cond 8 hx (by kernel_rfl) (fun k hk=>by cases hk) (by kernel_rfl) (Df os))) ?_
 intro W base args ds gs before hval hW _ _ _ hL _ _
 exact uE H enc W base args ds gs before hval hW hL
theorem streamed_said:Rows.StreamedSaid:=
 OpenClaim.holds_of_cond 9 Tryz.f9 rfl rfl rfl rfl rfl rfl rfl ⟨rfl,rfl,rfl,rfl,rfl⟩ rfl rfl rfl rfl rfl (by kernel_rfl) Tryz.func9 (by kernel_rfl)
  (of_decide_eq_true (by kernel_rfl)) (by unfold Func.isWrapper;first | (rw[if_pos (by decide+kernel)];kernel_rfl) | (rw[if_neg (by decide+kernel)];exact⟨rfl,rfl⟩))
  (fun os started H enc _ F=>by rw[OpenClaim.pre_eq_preRow];exact xR os started H enc F)
theorem yH (f:FuncId) (fn:Func) (hf:Tryz.pinned.checked.prog.funcNamed "parley/parleykeep.Streamed"=some f) (hfn:Tryz.pinned.checked.prog.funcs[f]?=some fn):
 false=Tryz.pinned.checked.prog.looks []∧∀(j:Nat) t,fn.params[j]?=some t→Tryz.pinned.checked.prog.wantsStandIn t=false:=by
 obtain rfl:f=9:=Option.some.inj ((show Tryz.prog.funcNamed "parley/parleykeep.Streamed"=some 9 by kernel_rfl).symm.trans hf) |>.symm
 obtain rfl:fn=Tryz.f9:=(Option.some.inj (Tryz.func9.symm.trans hfn)).symm
 refine⟨by kernel_rfl,fun j t ht=> ?_⟩
 rw[Tryz.params9]at ht
 have ht':t=25∨t=3∨t=26:=by simpa using Array.mem_of_getElem? ht
 rcases ht' with rfl | rfl | rfl
 ·exact(show Tryz.prog.wantsStandIn 25=false by kernel_rfl)
 ·exact(show Tryz.prog.wantsStandIn 3=false by kernel_rfl)
 ·exact(show Tryz.prog.wantsStandIn 26=false by kernel_rfl)
theorem streamed_holds:Rows.StreamedCardSaid:=
 Claim7.holds_tied_plain_at .later [] _ _ _ _ streamed_said (fun _ h=>by cases h) (by kernel_rfl) (fun _ h=>by cases h) streamed_row_tie rfl ⟨rfl,rfl⟩ (by kernel_rfl) rfl yH (by kernel_rfl)
end Go.Proofs.YthfjnfcekeknlaaGreatDoor
