import Derived.Test.YthfjnfcekeknlaaGreatDoorAp39
set_option maxHeartbeats 8000000
set_option maxRecDepth 100000
namespace Go.Proofs.YthfjnfcekeknlaaGreatDoor
open Go.ChangeShapes Go.WideShapes Go.ChangeAt Go.RowKit
theorem De (os:Os):laidMet Tryz.prog Rows.appendedRow.laid ((uv os).forCall (fun _ _=>0) ⟨#[],#[.slice Option.none 0 0,.slice Option.none 0 0,.slice Option.none 0 0],[]⟩).memory:=
 laidMet_of_run' 8 (by kernel_rfl) (by kernel_rfl)
theorem ve (H:Type) (enc:TypeId×Value→H) (W:World) (base:Nat) (args:Array Value) (ds gs:List (DataW H)) (before:List MemPlace)
 (hval:∀(j:Nat) t v,Tryz.f8.params[j]?=some t→args[j]?=some v→Value.okWide Tryz.prog W .any base t v)
 (hW:DataW.Whole enc Tryz.prog Tryz.f8.params.toList Rows.appendedSpec.vars false W args.toList ds gs before) (hL:laidMetH Tryz.prog Rows.appendedRow.laid W):
 Calls Tryz.prog 8 args W fun e W'=>∃v,e= .returned v∧Rows.appendedSpec.post enc Tryz.prog Tryz.f8 false true false false W args v W':=by
 have hW':=hW
 obtain⟨p,q,hA0,hV,rfl,_,_⟩:=hW
 have hA:DataW.TrodAll enc Tryz.prog W 0 (fun _=>true) true Tryz.f8.params.toList args.toList ds p:=hA0
 rw[Tryz.params8]at hA hval
 obtain⟨v0,v1,v2,d0,d1,d2,p0,p1,p2,rfl,rfl,rfl,h0,h1,h2⟩:=trodAll_three hA
 obtain⟨rfl,rfl⟩:=trodVars_none hV
 obtain⟨a0,l0,c0,rfl⟩:=okWide_slice Tryz.underlying25 (hval 0 25 v0 rfl rfl)
 have k0:=h0
 obtain⟨f0,g0⟩:=h0
 obtain⟨a1,l1,c1,rfl⟩:=okWide_slice Tryz.underlying25 (hval 1 25 v1 rfl rfl)
 have k1:=h1
 obtain⟨f1,g1⟩:=h1
 obtain⟨a2,l2,c2,rfl⟩:=okWide_slice Tryz.underlying26 (hval 2 26 v2 rfl rfl)
 have k2:=h2
 obtain⟨f2,g2⟩:=h2
 clear hA0
 simp only[List.append_nil]at hW'
 have hlt:∀x∈p0++p1++p2,x.block<W.heap.size:=fun x hx=>by simpa using hW'.lt x hx
 have Su:∀x∈p0,x.block<W.heap.size:=fun x hx=>hlt x (by simp[hx])
 have tE:∀x∈p1,x.block<W.heap.size:=fun x hx=>hlt x (by simp[hx])
 have Kh:∀x∈p2,x.block<W.heap.size:=fun x hx=>hlt x (by simp[hx])
 have he:=Sj hL
 have walk:Calls Tryz.prog 8 #[.slice a0 l0 c0,.slice a1 l1 c1,.slice a2 l2 c2] W fun e w'=>e= .returned (.bool true)∧Below W.heap.size W w':=Aj W he (Jx g0 Su) (Jx g1 tE) (L9 g2 Kh)
 refine walk.mono fun e W' ⟨he,hb⟩=> ?_
 subst he
 exact⟨_,rfl,_,_,_,[],p0++p1++p2,[],hW',trodAll_mk1 (shut_bool Tryz.underlying4 _),(by rw[List.append_assoc];exact trodAll_mk3 (Below.trod lawLaid (by kernel_rfl) (of_decide_eq_true (by kernel_rfl)) k0 hb Su) (Below.trod lawLaid (by kernel_rfl) (of_decide_eq_true (by kernel_rfl)) k1 hb tE) (Below.trod lawLaid (by kernel_rfl) (of_decide_eq_true (by kernel_rfl)) k2 hb Kh)),rfl,hb.frame _,fun h=>by cases h⟩
theorem yK (os:Os) {H:Type} (enc:TypeId×Value→H):∃places,DataW.whole enc Tryz.prog ((uv os).forCall (fun _ _=>0) ⟨#[],#[.slice Option.none 0 0,.slice Option.none 0 0,.slice Option.none 0 0],[]⟩).memory Tryz.f8.params.toList Rows.appendedSpec.vars false #[Value.slice Option.none 0 0,Value.slice Option.none 0 0,Value.slice Option.none 0 0].toList 8=some ([.nil,.nil,.nil],[],places):=
 ⟨[],by kernel_rfl⟩
theorem xX (os:Os) (started:os.Started) (H:Type) (enc:TypeId×Value→H) (F:Stop.Interp):
 ReturnsInHanded {} Tryz.checked os 8 .any ((OpenSpec.ofChange Rows.appendedSpec).preRow enc Tryz.prog Tryz.f8 Rows.appendedRow.domain false Rows.appendedRow.laid) (((OpenSpec.ofChange Rows.appendedSpec).at F).post enc Tryz.prog Tryz.f8 false true false false):=by
 obtain⟨places,hx⟩:=yK os enc
 refine returnsInHanded_of_row (C:=Tryz.checked) (s:=OpenSpec.ofChange Rows.appendedSpec) lawOwn started (by kernel_rfl) Tryz.func8
  (witness_row_at (enc:=enc) (C:=Tryz.checked) false (uv os) #[.slice Option.none 0 0,.slice Option.none 0 0,.slice Option.none 0 0] rfl (by kernel_rfl) (by kernel_rfl) (by kernel_rfl)
   (OpenSpec.preRow_of_cond 8 hx (by kernel_rfl) (fun k hk=>by cases hk) (by kernel_rfl) (De os))) ?_
 intro W base args ds gs before hval hW _ _ _ hL _ _
 exact ve H enc W base args ds gs before hval hW hL
theorem appended_said:Rows.AppendedSaid:=
 OpenClaim.holds_of_cond 8 Tryz.f8 rfl rfl rfl rfl rfl rfl rfl ⟨rfl,rfl,rfl,rfl,rfl⟩ rfl rfl rfl rfl rfl (by kernel_rfl) Tryz.func8 (by kernel_rfl)
  (of_decide_eq_true (by kernel_rfl)) (by unfold Func.isWrapper;first | (rw[if_pos (by decide+kernel)];kernel_rfl) | (rw[if_neg (by decide+kernel)];exact⟨rfl,rfl⟩))
  (fun os started H enc _ F=>by rw[OpenClaim.pre_eq_preRow];exact xX os started H enc F)
theorem yL (f:FuncId) (fn:Func) (hf:Tryz.pinned.checked.prog.funcNamed "parley/parleykeep.Appended"=some f) (hfn:Tryz.pinned.checked.prog.funcs[f]?=some fn):
 false=Tryz.pinned.checked.prog.looks []∧∀(j:Nat) t,fn.params[j]?=some t→Tryz.pinned.checked.prog.wantsStandIn t=false:=by
 obtain rfl:f=8:=Option.some.inj ((show Tryz.prog.funcNamed "parley/parleykeep.Appended"=some 8 by kernel_rfl).symm.trans hf) |>.symm
 obtain rfl:fn=Tryz.f8:=(Option.some.inj (Tryz.func8.symm.trans hfn)).symm
 refine⟨by kernel_rfl,fun j t ht=> ?_⟩
 rw[Tryz.params8]at ht
 have np:t=25∨t=25∨t=26:=by simpa using Array.mem_of_getElem? ht
 rcases np with rfl | rfl | rfl
 ·exact(show Tryz.prog.wantsStandIn 25=false by kernel_rfl)
 ·exact(show Tryz.prog.wantsStandIn 25=false by kernel_rfl)
 ·exact(show Tryz.prog.wantsStandIn 26=false by kernel_rfl)
theorem appended_holds:Rows.AppendedCardSaid:=
 Claim7.holds_tied_plain_at .later [] _ _ _ _ appended_said (fun _ h=>by cases h) (by kernel_rfl) (fun _ h=>by cases h) appended_row_tie rfl ⟨rfl,rfl⟩ (by kernel_rfl) rfl yL (by kernel_rfl)
end Go.Proofs.YthfjnfcekeknlaaGreatDoor
