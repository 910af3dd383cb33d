import Derived.Test.YthfjnfcekeknlaaGreatDoorSu45
import Derived.Test.YthfjnfcekeknlaaGreatDoorSu47
set_option maxHeartbeats 8000000
set_option maxRecDepth 100000
namespace Go.Proofs.YthfjnfcekeknlaaGreatDoor
open Go.ChangeShapes Go.WideShapes Go.ChangeAt Go.RowKit
theorem Gv (os:Os):laidMet Tryz.prog Rows.summedRow.laid ((uu os).forCall (fun _ _=>0) ⟨#[],#[.slice Option.none 0 0,.slice Option.none 0 0],[]⟩).memory:=
 laidMet_of_run' 8 (by kernel_rfl) (by kernel_rfl)
theorem xY (H:Type) (enc:TypeId×Value→H) (W:World) (base:Nat) (args:Array Value) (ds gs:List (DataW H)) (before:List MemPlace)
 (hval:∀(j:Nat) t v,Tryz.f11.params[j]?=some t→args[j]?=some v→Value.okWide Tryz.prog W .any base t v)
 (hW:DataW.Whole enc Tryz.prog Tryz.f11.params.toList Rows.summedSpec.vars false W args.toList ds gs before) (hL:laidMetH Tryz.prog Rows.summedRow.laid W):
 Calls Tryz.prog 11 args W fun e W'=>∃v,e= .returned v∧Rows.summedSpec.post enc Tryz.prog Tryz.f11 false true false false W args v W':=by
 have hW':=hW
 obtain⟨p,q,hA0,hV,rfl,_,_⟩:=hW
 have hA:DataW.TrodAll enc Tryz.prog W 0 (fun _=>true) true Tryz.f11.params.toList args.toList ds p:=hA0
 rw[Tryz.params11]at hA hval
 obtain⟨v0,v1,d0,d1,p0,p1,rfl,rfl,rfl,h0,h1⟩:=trodAll_two hA
 obtain⟨rfl,rfl⟩:=trodVars_none hV
 obtain⟨a0,l0,c0,rfl⟩:=okWide_slice Tryz.underlying25 (hval 0 25 v0 rfl rfl)
 have k0:=h0
 obtain⟨f0,g0⟩:=h0
 obtain⟨a1,l1,c1,rfl⟩:=okWide_slice Tryz.underlying26 (hval 1 26 v1 rfl rfl)
 have k1:=h1
 obtain⟨f1,g1⟩:=h1
 clear hA0
 simp only[List.append_nil]at hW'
 have hlt:∀x∈p0++p1,x.block<W.heap.size:=fun x hx=>by simpa using hW'.lt x hx
 have SA:∀x∈p0,x.block<W.heap.size:=fun x hx=>hlt x (by simp[hx])
 have tG:∀x∈p1,x.block<W.heap.size:=fun x hx=>hlt x (by simp[hx])
 have he:=Sr hL
 have walk:Calls Tryz.prog 11 #[.slice a0 l0 c0,.slice a1 l1 c1] W fun e w'=>e= .returned (.bool true)∧Below W.heap.size W w':=Dt W he (Ss g0 SA) (Mb g1 tG)
 refine walk.mono fun e W' ⟨he,hb⟩=> ?_
 subst he
 exact⟨_,rfl,_,_,_,[],p0++p1,[],hW',trodAll_mk1 (shut_bool Tryz.underlying4 _),trodAll_mk2 (Below.trod lawLaid (by kernel_rfl) (of_decide_eq_true (by kernel_rfl)) k0 hb SA) (Below.trod lawLaid (by kernel_rfl) (of_decide_eq_true (by kernel_rfl)) k1 hb tG),rfl,hb.frame _,fun h=>by cases h⟩
theorem C7 (os:Os) {H:Type} (enc:TypeId×Value→H):∃places,DataW.whole enc Tryz.prog ((uu os).forCall (fun _ _=>0) ⟨#[],#[.slice Option.none 0 0,.slice Option.none 0 0],[]⟩).memory Tryz.f11.params.toList Rows.summedSpec.vars false #[Value.slice Option.none 0 0,Value.slice Option.none 0 0].toList 8=some ([.nil,.nil],[],places):=
 ⟨[],by kernel_rfl⟩
theorem Af (os:Os) (started:os.Started) (H:Type) (enc:TypeId×Value→H) (F:Stop.Interp):
 ReturnsInHanded {} Tryz.checked os 11 .any ((OpenSpec.ofChange Rows.summedSpec).preRow enc Tryz.prog Tryz.f11 Rows.summedRow.domain false Rows.summedRow.laid) (((OpenSpec.ofChange Rows.summedSpec).at F).post enc Tryz.prog Tryz.f11 false true false false):=by
 obtain⟨places,hx⟩:=C7 os enc
 refine returnsInHanded_of_row (C:=Tryz.checked) (s:=OpenSpec.ofChange Rows.summedSpec) lawOwn started (by kernel_rfl) Tryz.func11
  (witness_row_at (enc:=enc) (C:=Tryz.checked) false (uu os) #[.slice Option.none 0 0,.slice Option.none 0 0] rfl (by kernel_rfl) (by kernel_rfl) (by kernel_rfl)
   (OpenSpec.preRow_of_cond 8 hx (by kernel_rfl) (fun k hk=>by cases hk) (by kernel_rfl) (Gv os))) ?_
 intro W base args ds gs before hval hW _ _ _ hL _ _
 exact xY H enc W base args ds gs before hval hW hL
theorem summed_said:Rows.SummedSaid:=
 OpenClaim.holds_of_cond 11 Tryz.f11 rfl rfl rfl rfl rfl rfl rfl ⟨rfl,rfl,rfl,rfl,rfl⟩ rfl rfl rfl rfl rfl (by kernel_rfl) Tryz.func11 (by kernel_rfl)
  (of_decide_eq_true (by kernel_rfl)) (by unfold Func.isWrapper;first | (rw[if_pos (by decide+kernel)];kernel_rfl) | (rw[if_neg (by decide+kernel)];exact⟨rfl,rfl⟩))
  (fun os started H enc _ F=>by rw[OpenClaim.pre_eq_preRow];exact Af os started H enc F)
theorem C8 (f:FuncId) (fn:Func) (hf:Tryz.pinned.checked.prog.funcNamed "parley/parleykeep.Summed"=some f) (hfn:Tryz.pinned.checked.prog.funcs[f]?=some fn):
 false=Tryz.pinned.checked.prog.looks []∧∀(j:Nat) t,fn.params[j]?=some t→Tryz.pinned.checked.prog.wantsStandIn t=false:=by
 obtain rfl:f=11:=Option.some.inj ((show Tryz.prog.funcNamed "parley/parleykeep.Summed"=some 11 by kernel_rfl).symm.trans hf) |>.symm
 obtain rfl:fn=Tryz.f11:=(Option.some.inj (Tryz.func11.symm.trans hfn)).symm
 refine⟨by kernel_rfl,fun j t ht=> ?_⟩
 rw[Tryz.params11]at ht
 have nu:t=25∨t=26:=by simpa using Array.mem_of_getElem? ht
 rcases nu with rfl | rfl
 ·exact(show Tryz.prog.wantsStandIn 25=false by kernel_rfl)
 ·exact(show Tryz.prog.wantsStandIn 26=false by kernel_rfl)
theorem summed_holds:Rows.SummedCardSaid:=
 Claim7.holds_tied_plain_at .later [] _ _ _ _ summed_said (fun _ h=>by cases h) (by kernel_rfl) (fun _ h=>by cases h) summed_row_tie rfl ⟨rfl,rfl⟩ (by kernel_rfl) rfl C8 (by kernel_rfl)
end Go.Proofs.YthfjnfcekeknlaaGreatDoor
