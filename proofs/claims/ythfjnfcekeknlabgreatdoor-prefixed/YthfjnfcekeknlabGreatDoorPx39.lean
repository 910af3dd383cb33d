import Derived.Test.YthfjnfcekeknlabGreatDoorPx33
import Derived.Test.YthfjnfcekeknlabGreatDoorPx38
set_option maxHeartbeats 8000000
set_option maxRecDepth 100000
set_option linter.unusedSimpArgs false
set_option linter.unusedVariables false
namespace Go.Proofs.YthfjnfcekeknlabGreatDoor
open Go.ChangeShapes Go.WideShapes Go.ChangeAt Go.RowKit
theorem wJ (os:Os):laidMet Tryz.prog Rows.prefixedRow.laid ((qv os).forCall (fun _ _=>0) ⟨#[],#[.slice Option.none 0 0,.slice Option.none 0 0,.int .i64 0],[]⟩).memory:=
 laidMet_of_run' 8 (by kernel_rfl) (by kernel_rfl)
theorem o4 (H:Type) (enc:TypeId×Value->H) (W:World) (base:Nat) (args:Array Value) (ds gs:List (DataW H)) (before:List MemPlace)
 (hval:∀(j:Nat) t v,Tryz.f4.params[j]?=some t->args[j]?=some v->Value.okWide Tryz.prog W .any base t v)
 (hW:DataW.Whole enc Tryz.prog Tryz.f4.params.toList Rows.prefixedSpec.vars false W args.toList ds gs before) (hL:laidMetH Tryz.prog Rows.prefixedRow.laid W):
 Calls Tryz.prog 4 args W fun e W'=>∃v,e= .returned v/\Rows.prefixedSpec.post enc Tryz.prog Tryz.f4 false true false false W args v W':=by
 have hW':=hW;obtain⟨p,q,hA0,hV,rfl,_,_⟩:=hW;have hA:DataW.TrodAll enc Tryz.prog W 0 (fun _=>true) true Tryz.f4.params.toList args.toList ds p:=hA0;rw[Tryz.params4]at hA hval;obtain⟨v0,v1,v2,d0,d1,d2,p0,p1,p2,rfl,rfl,rfl,h0,h1,h2⟩:=trodAll_three hA;obtain⟨rfl,rfl⟩:=trodVars_none hV;obtain⟨a0,l0,c0,rfl⟩:=okWide_slice Tryz.underlying25 (hval 0 25 v0 rfl rfl);have k0:=h0;obtain⟨f0,g0⟩:=h0;obtain⟨a1,l1,c1,rfl⟩:=okWide_slice Tryz.underlying22 (hval 1 22 v1 rfl rfl);have k1:=h1;obtain⟨f1,g1⟩:=h1;obtain⟨z2,rfl⟩:=okWide_int Tryz.underlying3 (hval 2 3 v2 rfl rfl);have k2:=h2;obtain⟨f2,g2⟩:=h2;obtain⟨_,e2,zl2,zh2⟩:=Nt (v:= .int .i64 z2) g2;cases e2;clear hA0;simp only[br]at hW';have hlt:∀x∈p0++p1++p2,x.block<W.heap.size:=fun x hx=>by simpa using hW'.lt x hx
 have hlt0:∀x∈p0,x.block<W.heap.size:=fun x hx=>hlt x (by simp[hx]);have hlt1:∀x∈p1,x.block<W.heap.size:=fun x hx=>hlt x (by simp[hx]);have hlt2:∀x∈p2,x.block<W.heap.size:=fun x hx=>hlt x (by simp[hx]);have he:=NE hL;have walk:Calls Tryz.prog 4 #[.slice a0 l0 c0,.slice a1 l1 c1,.int .i64 z2] W fun e w'=>e= .returned (.bool true)/\Below W.heap.size W w':=uq W he (M6 g0 hlt0) (G7 g1 hlt1) z2 zl2 zh2;refine walk.mono fun e W' ⟨he,hb⟩=> ?_;subst he;exact⟨_,rfl,_,_,_,[],p0++p1++p2,[],hW',trodAll_mk1 (shut_bool Tryz.underlying4 _),(by rw[aK];exact trodAll_mk3 (Below.trod wV (by kernel_rfl) (fL (by kernel_rfl)) k0 hb hlt0) (Below.trod wV (by kernel_rfl) (fL (by kernel_rfl)) k1 hb hlt1) (Below.trod wV (by kernel_rfl) (fL (by kernel_rfl)) k2 hb hlt2)),rfl,hb.frame _,fun h=>by cases h⟩
theorem sD (os:Os) {H:Type} (enc:TypeId×Value->H):∃places,DataW.whole enc Tryz.prog ((qv os).forCall (fun _ _=>0) ⟨#[],#[.slice Option.none 0 0,.slice Option.none 0 0,.int .i64 0],[]⟩).memory Tryz.f4.params.toList Rows.prefixedSpec.vars false #[Value.slice Option.none 0 0,Value.slice Option.none 0 0,Value.int .i64 0].toList 8=some ([.nil,.nil,.lit (.int .i64 0)],[],places):=
 ⟨[],by kernel_rfl⟩
theorem ri (os:Os) (started:os.Started) (H:Type) (enc:TypeId×Value->H) (F:Stop.Interp):
 ReturnsInHanded {} Tryz.checked os 4 .any ((OpenSpec.ofChange Rows.prefixedSpec).preRow enc Tryz.prog Tryz.f4 Rows.prefixedRow.domain false Rows.prefixedRow.laid) (((OpenSpec.ofChange Rows.prefixedSpec).at F).post enc Tryz.prog Tryz.f4 false true false false):=by
 obtain⟨places,hx⟩:=sD os enc;refine returnsInHanded_of_row (C:=Tryz.checked) (s:=OpenSpec.ofChange Rows.prefixedSpec) Nq started (by kernel_rfl) Tryz.func4
  (witness_row_at (enc:=enc) (C:=Tryz.checked) false (qv os) #[.slice Option.none 0 0,.slice Option.none 0 0,.int .i64 0] rfl (by kernel_rfl) (by kernel_rfl) (by kernel_rfl)
   (OpenSpec.preRow_of_cond 8 hx (by kernel_rfl) (fun k hk=>by cases hk) (by kernel_rfl) (wJ os))) ?_
 intro W base args ds gs before hval hW _ _ _ hL _ _;exact o4 H enc W base args ds gs before hval hW hL
theorem ur:Rows.PrefixedSaid:=
 OpenClaim.holds_of_cond 4 Tryz.f4 rfl rfl rfl rfl rfl rfl rfl ⟨rfl,rfl,rfl,rfl,rfl⟩ rfl rfl rfl rfl rfl (by kernel_rfl) Tryz.func4 (by kernel_rfl)
  (fL (by kernel_rfl)) (by unfold Func.isWrapper;first | (rw[aH (by decide+kernel)];kernel_rfl) | (rw[aG (by decide+kernel)];exact⟨rfl,rfl⟩))
  (fun os started H enc _ F=>by rw[OpenClaim.pre_eq_preRow];exact ri os started H enc F)
theorem sE (f:FuncId) (fn:Func) (hf:Tryz.pinned.checked.prog.funcNamed "parley/parleykeep.Prefixed"=some f) (hfn:Tryz.pinned.checked.prog.funcs[f]?=some fn):
 false=Tryz.pinned.checked.prog.looks []/\∀(j:Nat) t,fn.params[j]?=some t->Tryz.pinned.checked.prog.wantsStandIn t=false:=by
 obtain rfl:f=4:=cF ((show Tryz.prog.funcNamed "parley/parleykeep.Prefixed"=some 4 by kernel_rfl).symm.trans hf) |>.symm
 obtain rfl:fn=Tryz.f4:=(cF (Tryz.func4.symm.trans hfn)).symm;refine⟨by kernel_rfl,fun j t ht=> ?_⟩;rw[Tryz.params4]at ht;have ht':t=25\/t=22\/t=3:=by simpa using Array.mem_of_getElem? ht
 rcases ht' with rfl | rfl | rfl
 ·exact(show Tryz.prog.wantsStandIn 25=false by kernel_rfl)
 ·exact(show Tryz.prog.wantsStandIn 22=false by kernel_rfl)
 ·exact(show Tryz.prog.wantsStandIn 3=false by kernel_rfl)
theorem prefixed_holds:Rows.PrefixedCardSaid:=
 Claim7.holds_tied_plain_at .later [] _ _ _ _ ur (fun _ h=>by cases h) (by kernel_rfl) (fun _ h=>by cases h) prefixed_row_tie rfl ⟨rfl,rfl⟩ (by kernel_rfl) rfl sE (by kernel_rfl)
