import Derived.Test.YthfjnfcekeknlaaGreatDoorSu27
import Derived.Test.YthfjnfcekeknlaaGreatDoorSu35
import Derived.Test.YthfjnfcekeknlaaGreatDoorSu36
import Derived.Deep.DeepCutAuto
import Derived.Deep.LoopGhost
set_option maxHeartbeats 8000000
set_option maxRecDepth 100000
namespace Za
def mW (A sg B op C:List UInt8):List UInt8:=if sg=[]then A else if op=[]then A++(sg++B)++[]else A++(sg++B)++(op++C)
end Za
namespace Go.Proofs.YthfjnfcekeknlaaGreatDoor
open Go.RowKit
theorem Og (w:World) (v:JV) (A B C:List UInt8) (hA:A.length≤1000000) (hB:B.length≤1000000) (hC:C.length≤1000000) (ly:v.sg.size≤2) (Um:v.op.size≤2) (IA:∀W,Below w.heap.size w W→Calls Tryz.prog 58 #[.agg #[.int .i64 v.a.k,.int .i64 v.a.val,.string v.a.tx,.slice v.a.ao v.a.n v.a.cap]] W fun e w'=>e= .returned (.string ⟨A.toArray⟩)∧Below W.heap.size W w') (IB:v.sg.toList≠[]→∀W,Below w.heap.size w W→Calls Tryz.prog 58 #[.agg #[.int .i64 v.b.k,.int .i64 v.b.val,.string v.b.tx,.slice v.b.ao v.b.n v.b.cap]] W fun e w'=>e= .returned (.string ⟨B.toArray⟩)∧Below W.heap.size W w') (IC:v.sg.toList≠[]→v.op.toList≠[]→∀W,Below w.heap.size w W→Calls Tryz.prog 58 #[.agg #[.int .i64 v.c.k,.int .i64 v.c.val,.string v.c.tx,.slice v.c.ao v.c.n v.c.cap]] W fun e w'=>e= .returned (.string ⟨C.toArray⟩)∧Below W.heap.size W w'):
 Calls Tryz.prog 87 #[.agg #[.int .i64 v.a.k,.int .i64 v.a.val,.string v.a.tx,.slice v.a.ao v.a.n v.a.cap,.string v.sg,.int .i64 v.b.k,.int .i64 v.b.val,.string v.b.tx,.slice v.b.ao v.b.n v.b.cap,.string v.op,.int .i64 v.c.k,.int .i64 v.c.val,.string v.c.tx,.slice v.c.ao v.c.n v.c.cap]] w fun e w'=>e= .returned (.string ⟨(Za.mW A v.sg.toList B v.op.toList C).toArray⟩)∧Below w.heap.size w w':=by
 obtain⟨⟨ak0,av0,ax0,ao0,an0,ac0⟩,⟨bk0,bv0,bx0,bo0,bn0,bc0⟩,⟨ck0,cv0,cx0,co0,cn0,cc0⟩,sg,op⟩:=v
 dsimp only at*
 have hb0:=(Below.refl w.heap.size w).alloc (Nat.le_refl _) (.cells #[.int .i64 ak0,.int .i64 av0,.string ax0,.slice ao0 an0 ac0,.string sg,.int .i64 bk0,.int .i64 bv0,.string bx0,.slice bo0 bn0 bc0,.string op,.int .i64 ck0,.int .i64 cv0,.string cx0,.slice co0 cn0 cc0] 151)
 have eE:=heap_alloc_new w (.cells #[.int .i64 ak0,.int .i64 av0,.string ax0,.slice ao0 an0 ac0,.string sg,.int .i64 bk0,.int .i64 bv0,.string bx0,.slice bo0 bn0 bc0,.string op,.int .i64 ck0,.int .i64 cv0,.string cx0,.slice co0 cn0 cc0] 151)
 have aY:=af hb0
 have oh:=af eE
 have Q5:=af (IA _ hb0)
 clear hb0 eE IA
 by_cases h1:sg.toList=[]
 ·have HF:=af (show Za.mW A sg.toList B op.toList C=A by unfold Za.mW;rw[if_pos h1])
  have t1:(sg.toList == [])=true:=by rw[h1];rfl
  clear IB IC h1
  go_enter Tryz.func87,Tryz.ntmps87
  go_wp2_with fail
  refine(ae Q5).mono ?_
  rintro e w1 ⟨rfl,hb1⟩
  have mX:=(hb1.block w.heap.size (by simp)).trans (ae oh)
  have r1:=ah mX 4
  have z1:=ag mX
  simp only[List.getElem?_toArray,List.getElem?_cons_zero,List.getElem?_cons_succ]at r1
  have bD:=af ((ae aY).trans (hb1.mono (ae aY).size))
  clear hb1 mX
  go_wp2_with fail
  go_ret
  exact⟨by rw[ae HF];rfl,ae bD⟩
 ·have t1:(sg.toList == [])=false:=by simpa using h1
  have jJ:=af (eX (rfl:sg.toList=sg.toList))
  have Ux:=af (IB h1)
  by_cases h2:op.toList=[]
  ·have HF:=af (show Za.mW A sg.toList B op.toList C=A++(sg.toList++B)++[]by unfold Za.mW;rw[if_neg h1,if_pos h2])
   have t2:(op.toList == [])=true:=by rw[h2];rfl
   clear IB IC h1 h2
   go_enter Tryz.func87,Tryz.ntmps87
   go_wp2_with fail
   refine(ae Q5).mono ?_
   rintro e w1 ⟨rfl,hb1⟩
   have mX:=(hb1.block w.heap.size (by simp)).trans (ae oh)
   have r1:=ah mX
   have z1:=ag mX
   have tZ:=(ae aY).trans (hb1.mono (ae aY).size)
   have bD:=af tZ
   have Lx:=af mX
   clear hb1 mX tZ
   go_wp2_with fail
   refine(ae Ux _ (ae bD)).mono ?_
   rintro e w2 ⟨rfl,hb2⟩
   have ud:=(hb2.block w.heap.size z1).trans (ae Lx)
   have r2:=ah ud
   have z2:=ag ud
   have bf:=af ((ae bD).trans (hb2.mono (ae bD).size))
   clear hb2 ud r1 z1
   go_wp2_with fail
   go_ret
   refine⟨?_,ae bf⟩
   rw[ae HF,←Vh,←ae jJ]
   rfl
  ·have HF:=af (show Za.mW A sg.toList B op.toList C=A++(sg.toList++B)++(op.toList++C)by unfold Za.mW;rw[if_neg h1,if_neg h2])
   have t2:(op.toList == [])=false:=by simpa using h2
   have Qy:=af (eX (rfl:op.toList=op.toList))
   have Xx:=af (IC h1 h2)
   clear IB IC h1 h2
   go_enter Tryz.func87,Tryz.ntmps87
   go_wp2_with fail
   refine(ae Q5).mono ?_
   rintro e w1 ⟨rfl,hb1⟩
   have mX:=(hb1.block w.heap.size (by simp)).trans (ae oh)
   have r1:=ah mX
   have z1:=ag mX
   have tZ:=(ae aY).trans (hb1.mono (ae aY).size)
   have bD:=af tZ
   have Lx:=af mX
   clear hb1 mX tZ
   go_wp2_with fail
   refine(ae Ux _ (ae bD)).mono ?_
   rintro e w2 ⟨rfl,hb2⟩
   have ud:=(hb2.block w.heap.size z1).trans (ae Lx)
   have r2:=ah ud
   have z2:=ag ud
   have Q6:=(ae bD).trans (hb2.mono (ae bD).size)
   have bf:=af Q6
   have VW:=af ud
   clear hb2 ud r1 z1 Q6
   go_wp2_with fail
   refine(ae Xx _ (ae bf)).mono ?_
   rintro e w3 ⟨rfl,hb3⟩
   have Lz:=(hb3.block w.heap.size z2).trans (ae VW)
   have r3:=ah Lz
   have z3:=ag Lz
   have bQ:=af ((ae bf).trans (hb3.mono (ae bf).size))
   clear hb3 Lz r2 z2
   go_wp2_with fail
   go_ret
   refine⟨?_,ae bQ⟩
   rw[ae HF,←Vi,←ae jJ,←ae Qy]
   rfl
def iD (T:Nat→Za.U) (N:List Za.Vr) (x:Int):List Za.Vr:=if x= -1 then N else Za.ba N (T x.toNat)
def Xy (T:Nat→Za.U) (nb:Nat) (N:List Nat) (mo:Option Addr) (x:Int) (w:World) (e:Ending) (w':World):Prop:=∃(a:AV) (N':List Nat) (mo':Option Addr) (mc':Nat),e= .returned (.agg #[.int .i64 a.k,.int .i64 a.val,.string a.tx,.slice a.ao a.n a.cap])∧fe w' nb N' mo' mc'∧Za.bt N'=iD T (Za.bt N) x∧(x≠-1→RV 1000 (Za.bt N') (fun g=>w.heap.size≤g) w' a (T x.toNat))∧au (br nb mo) (br nb mo') w w'
theorem MV (w:World) (mb:Nat) (cs:Array Value) (D:List Ng) (nO:Option Addr) (nC:Nat) (fr:Nat→Nat) (T:Nat→Za.U) (nb:Nat) (N:List Nat) (mo:Option Addr) (mc:Nat) (x:Int) (hs:bI w mb 1 cs 91 D nO nC) (ok:b6 D fr) (fD:Za.dG (aX D) fr T) (hn:fe w nb N mo mc) (bC:aZ w D (fun g=>¬br nb mo g)) (hx:pD D.length x) (hsz:x≠-1→Za.size (T x.toNat)≤1000) (hN:N.length≤900000):
 Calls Tryz.prog 57 #[.pointer (some ⟨mb,1,none⟩),.int .i64 x,.pointer (some ⟨nb,0,none⟩)] w fun e w'=>Xy T nb N mo x w e w':=by
 rcases hx with rfl | ⟨n,rfl,hl⟩
 ·refine(I3 w mb 1 nb cs _ D nO nC hs).mono ?_
  rintro e w' ⟨rfl,hb⟩
  exact⟨⟨0,0,⟨#[]⟩,none,0,0⟩,N,mo,mc,rfl,hn.below hb,by unfold iD;rw[if_pos rfl],fun q=>absurd rfl q,au.aw hb⟩
 ·have hne:((n:Int))≠-1:=by omega
  have hz:=hsz hne
  have e0:((n:Int)).toNat=n:=by simp
  rw[e0]at hz
  refine(tree_all 1000 w mb 1 cs _ D nO nC fr n (T n) nb N mo mc hs (by decide) (by decide) ok hn bC hl (fD.tr n) hz (by omega)).mono ?_
  rintro e w' ⟨a,N',mo',mc',rfl,h1,h2,h3,h4⟩
  refine⟨a,N',mo',mc',rfl,h1,by unfold iD;rw[if_neg hne,e0];exact h2,fun _=> ?_,h4⟩
  rw[e0]
  exact h3
theorem ry (u:Za.U):∀N,∃K,Za.ba N u=N++K:=by
 revert u
 refine Za.U.ind (fun x N=> ?_) (fun k tx num ss ih N=> ?_)
 ·show∃K,Za.kX N x=N++K
  unfold Za.kX
  split
  ·exact⟨[],by simp⟩
  ·exact⟨[x],rfl⟩
 ·rw[Za.gO]
  induction ss generalizing N with
  | nil=>exact⟨[],by simp⟩
  | cons a ss ihs=>
   obtain⟨K1,h1⟩:=ih a (by simp) N
   obtain⟨K2,h2⟩:=ihs (fun b hb=>ih b (by simp[hb])) (Za.ba N a)
   exact⟨K1++K2,by rw[List.foldl_cons,h2,h1,List.append_assoc]⟩
theorem En (T:Nat→Za.U) (N:List Za.Vr) (x:Int):∃K,iD T N x=N++K:=by
 unfold iD
 split
 ·exact⟨[],by simp⟩
 ·exact ry _ _
theorem i6 (u:Za.U):∀N,(Za.ba N u).length≤N.length+Za.size u:=by
 revert u
 refine Za.U.ind (fun x N=> ?_) (fun k tx num ss ih N=> ?_)
 ·show (Za.kX N x).length≤_
  unfold Za.kX
  rw[Za.size]
  split
  ·omega
  ·simp
 ·rw[Za.gO,Za.size]
  have key:∀(ss:List Za.U) N,(∀a∈ss,∀N,(Za.ba N a).length≤N.length+Za.size a)→(ss.foldl Za.ba N).length≤N.length+Za.sizeL ss:=by
   intro ss
   induction ss with
   | nil=>intro N _;simp
   | cons a ss ihs=>
    intro N h
    have h1:=h a (by simp) N
    have h2:=ihs (Za.ba N a) (fun b hb=>h b (by simp[hb]))
    rw[List.foldl_cons,Za.sizeL]
    omega
  have:=key ss N ih
  omega
theorem RV.fr {f:Nat} {N:List Za.Vr} {P:Nat→Prop} {w w':World} {a:AV} {u:Za.U} (h:RV f N P w a u) {nb:Nat} {M:List Nat} {mo:Option Addr} {mc:Nat} (hn:fe w nb M mo mc) {R':Nat→Prop} (hf:au (br nb mo) R' w w'):RV f N P w' a u:=h.keep fun g _ hp hg=>⟨(hf.block g (ag hg) (hn.apart hg (by decide) (by decide))).trans hg,hp⟩
theorem fe.nW {w:World} {nb:Nat} {N:List Nat} {mo:Option Addr} {mc:Nat} (h:fe w nb N mo mc) {b:Nat} {ys:Array Value} (hb:w.heap[b]?=some (.cells ys 76 (0,0))) (c:Nat) (v:Value):fe (w.setCell ⟨b,c,none⟩ v) nb N mo mc:=
 ⟨(aJ _ _ _ _ (fun e=>by have:=h.blk;rw[e,hb]at this;simp only[Option.some.injEq,Obj.cells.injEq]at this;exact absurd this.2.1 (by decide))).trans h.blk,ai h.own fun g q=>aJ _ _ _ _ (fun e=>by
   obtain⟨cur,hc⟩:=aK h.own (aI q)
   rw[e,hb]at hc
   simp only[Option.some.injEq,Obj.cells.injEq]at hc
   exact absurd hc.2.1 (by decide))⟩
def SR (T:Nat→Za.U) (nb:Nat) (x:Int) (W:World) (N1:List Nat) (mo1:Option Addr) (lv:Value) (wx:World):Prop:=∃(a:AV) (b:Nat) (N2:List Nat) (mo2:Option Addr) (mc2:Nat),lv= .pointer (some ⟨b,0,none⟩)∧au (br nb mo1) (br nb mo2) W wx∧fe wx nb N2 mo2 mc2∧Za.bt N2=iD T (Za.bt N1) x∧(x≠-1→RV 1000 (Za.bt N2) anyA wx a (T x.toNat))∧wx.heap[b]?=some (.cells #[.int .i64 a.k,.int .i64 a.val,.string a.tx,.slice a.ao a.n a.cap] 76 (0,0))
def Uy (T:Nat→Za.U) (nb:Nat) (N:List Nat) (mo:Option Addr) (g:Gl) (w:World) (e:Ending) (w':World):Prop:=∃(a b c:AV) (N':List Nat) (mo':Option Addr) (mc':Nat),e= .returned (.agg #[.int .i64 a.k,.int .i64 a.val,.string a.tx,.slice a.ao a.n a.cap,.string g.sg,.int .i64 b.k,.int .i64 b.val,.string b.tx,.slice b.ao b.n b.cap,.string g.op,.int .i64 c.k,.int .i64 c.val,.string c.tx,.slice c.ao c.n c.cap])∧fe w' nb N' mo' mc'∧Za.bt N'=iD T (iD T (iD T (Za.bt N) (g.l:Int)) g.r) g.z∧RV 1000 (Za.bt N') anyA w' a (T g.l)∧(g.r≠-1→RV 1000 (Za.bt N') anyA w' b (T g.r.toNat))∧(g.z≠-1→RV 1000 (Za.bt N') anyA w' c (T g.z.toNat))∧au (br nb mo) (br nb mo') w w'
theorem fe.other {w w':World} {nb:Nat} {N:List Nat} {mo:Option Addr} {mc:Nat} (h:fe w nb N mo mc) {b:Nat} {ys:Array Value} {Y:TypeId} (hb:w.heap[b]?=some (.cells ys Y (0,0))) (h1:Y≠123) (h2:Y≠3) (hk:∀k,k≠b→w'.heap[k]?=w.heap[k]?):fe w' nb N mo mc:=by
 have key:∀k,br nb mo k→w'.heap[k]?=w.heap[k]?:=fun k q=>hk k (fun e=>h.apart hb h1 h2 (e ▸ q))
 exact⟨(key nb (Or.inl rfl)).trans h.blk,ai h.own fun g q=>key g (Or.inr (aI q))⟩
theorem Q7 {T:Nat→Za.U} {nb:Nat} {N N1 N2 N3:List Nat} {mo mo3:Option Addr} {mc3 l nc:Nat} {sg op:ByteArray} {r z:Int} {wt:Bool} {no:Option Addr} {nd:List Nat} {w W3:World} {ak1 av1 ak2 av2 ak3 av3:Int} {ax1 ax2 ax3:ByteArray} {ao1 ao2 ao3:Option Addr} {an1 ac1 an2 ac2 an3 ac3:Nat} {ys:Array Value} (hf:au (br nb mo) (br nb mo3) w W3) (hn:fe W3 nb N3 mo3 mc3) (pG:W3.heap[w.heap.size+1]?=some (.cells ys 151 (0,0))) (hv:Za.bt N3=iD T (iD T (iD T (Za.bt N) (l:Int)) r) z) (hv2:Za.bt N2=iD T (Za.bt N1) r) (hv3:Za.bt N3=iD T (Za.bt N2) z) (h1:(l:Int)≠-1→RV 1000 (Za.bt N1) anyA W3 ⟨ak1,av1,ax1,ao1,an1,ac1⟩ (T (l:Int).toNat)) (h2:r≠-1→RV 1000 (Za.bt N2) anyA W3 ⟨ak2,av2,ax2,ao2,an2,ac2⟩ (T r.toNat)) (h3:z≠-1→RV 1000 (Za.bt N3) anyA W3 ⟨ak3,av3,ax3,ao3,an3,ac3⟩ (T z.toNat)):
 Uy T nb N mo ⟨l,sg,r,op,z,wt,no,nc,nd⟩ w (.returned (.agg #[.int .i64 ak1,.int .i64 av1,.string ax1,.slice ao1 an1 ac1,.string sg,.int .i64 ak2,.int .i64 av2,.string ax2,.slice ao2 an2 ac2,.string op,.int .i64 ak3,.int .i64 av3,.string ax3,.slice ao3 an3 ac3])) (((((((((((((((W3).setCell ⟨w.heap.size+1,0,none⟩ (.int .i64 ak1)).setCell ⟨w.heap.size+1,1,none⟩ (.int .i64 av1)).setCell ⟨w.heap.size+1,2,none⟩ (.string ax1)).setCell ⟨w.heap.size+1,3,none⟩ (.slice ao1 an1 ac1)).setCell ⟨w.heap.size+1,4,none⟩ (.string sg)).setCell ⟨w.heap.size+1,5,none⟩ (.int .i64 ak2)).setCell ⟨w.heap.size+1,6,none⟩ (.int .i64 av2)).setCell ⟨w.heap.size+1,7,none⟩ (.string ax2)).setCell ⟨w.heap.size+1,8,none⟩ (.slice ao2 an2 ac2)).setCell ⟨w.heap.size+1,9,none⟩ (.string op)).setCell ⟨w.heap.size+1,10,none⟩ (.int .i64 ak3)).setCell ⟨w.heap.size+1,11,none⟩ (.int .i64 av3)).setCell ⟨w.heap.size+1,12,none⟩ (.string ax3)).setCell ⟨w.heap.size+1,13,none⟩ (.slice ao3 an3 ac3)):=by
 have hk:∀k,k≠w.heap.size+1→(((((((((((((((W3).setCell ⟨w.heap.size+1,0,none⟩ (.int .i64 ak1)).setCell ⟨w.heap.size+1,1,none⟩ (.int .i64 av1)).setCell ⟨w.heap.size+1,2,none⟩ (.string ax1)).setCell ⟨w.heap.size+1,3,none⟩ (.slice ao1 an1 ac1)).setCell ⟨w.heap.size+1,4,none⟩ (.string sg)).setCell ⟨w.heap.size+1,5,none⟩ (.int .i64 ak2)).setCell ⟨w.heap.size+1,6,none⟩ (.int .i64 av2)).setCell ⟨w.heap.size+1,7,none⟩ (.string ax2)).setCell ⟨w.heap.size+1,8,none⟩ (.slice ao2 an2 ac2)).setCell ⟨w.heap.size+1,9,none⟩ (.string op)).setCell ⟨w.heap.size+1,10,none⟩ (.int .i64 ak3)).setCell ⟨w.heap.size+1,11,none⟩ (.int .i64 av3)).setCell ⟨w.heap.size+1,12,none⟩ (.string ax3)).setCell ⟨w.heap.size+1,13,none⟩ (.slice ao3 an3 ac3)).heap[k]?=W3.heap[k]?:=fun k q=>by
  rw[aJ _ _ _ _ q,aJ _ _ _ _ q,aJ _ _ _ _ q,aJ _ _ _ _ q,aJ _ _ _ _ q,aJ _ _ _ _ q,aJ _ _ _ _ q,aJ _ _ _ _ q,aJ _ _ _ _ q,aJ _ _ _ _ q,aJ _ _ _ _ q,aJ _ _ _ _ q,aJ _ _ _ _ q,aJ _ _ _ _ q]
 obtain⟨K2,e2⟩:=En T (Za.bt N1) r
 obtain⟨K3,e3⟩:=En T (Za.bt N2) z
 have keep:∀{f:Nat} {M:List Za.Vr} {a:AV} {u:Za.U},RV f M anyA W3 a u→RV f M anyA (((((((((((((((W3).setCell ⟨w.heap.size+1,0,none⟩ (.int .i64 ak1)).setCell ⟨w.heap.size+1,1,none⟩ (.int .i64 av1)).setCell ⟨w.heap.size+1,2,none⟩ (.string ax1)).setCell ⟨w.heap.size+1,3,none⟩ (.slice ao1 an1 ac1)).setCell ⟨w.heap.size+1,4,none⟩ (.string sg)).setCell ⟨w.heap.size+1,5,none⟩ (.int .i64 ak2)).setCell ⟨w.heap.size+1,6,none⟩ (.int .i64 av2)).setCell ⟨w.heap.size+1,7,none⟩ (.string ax2)).setCell ⟨w.heap.size+1,8,none⟩ (.slice ao2 an2 ac2)).setCell ⟨w.heap.size+1,9,none⟩ (.string op)).setCell ⟨w.heap.size+1,10,none⟩ (.int .i64 ak3)).setCell ⟨w.heap.size+1,11,none⟩ (.int .i64 av3)).setCell ⟨w.heap.size+1,12,none⟩ (.string ax3)).setCell ⟨w.heap.size+1,13,none⟩ (.slice ao3 an3 ac3)) a u:=fun {f M a u} q=>q.keep fun g _ _ hg=>⟨(hk g (fun e=>by rw[e,pG]at hg;simp only[Option.some.injEq,Obj.cells.injEq]at hg;exact absurd hg.2.1 (by decide))).trans hg,trivial⟩
 refine⟨⟨ak1,av1,ax1,ao1,an1,ac1⟩,⟨ak2,av2,ax2,ao2,an2,ac2⟩,⟨ak3,av3,ax3,ao3,an3,ac3⟩,N3,mo3,mc3,rfl,hn.other pG (by decide) (by decide) hk,hv,?_,fun q=> ?_,fun q=>keep (h3 q),((((((((((((((hf).eO (Nat.le_succ _) 0 _).eO (Nat.le_succ _) 1 _).eO (Nat.le_succ _) 2 _).eO (Nat.le_succ _) 3 _).eO (Nat.le_succ _) 4 _).eO (Nat.le_succ _) 5 _).eO (Nat.le_succ _) 6 _).eO (Nat.le_succ _) 7 _).eO (Nat.le_succ _) 8 _).eO (Nat.le_succ _) 9 _).eO (Nat.le_succ _) 10 _).eO (Nat.le_succ _) 11 _).eO (Nat.le_succ _) 12 _).eO (Nat.le_succ _) 13 _⟩
 ·have:=keep (h1 (by omega))
  have e0:((l:Int)).toNat=l:=by simp
  rw[e0]at this
  have t:=(this.more K2).more K3
  rwa [←e2,←hv2,←e3,←hv3]at t
 ·have t:=(keep (h2 q)).more K3
  rwa [←e3,←hv3]at t
theorem Ji (w:World) (mb:Nat) (cs:Array Value) (D:List Ng) (nO:Option Addr) (nC:Nat) (fr:Nat→Nat) (T:Nat→Za.U) (nb:Nat) (N:List Nat) (mo:Option Addr) (mc:Nat) (g:Gl) (hs:bI w mb 1 cs 91 D nO nC) (ok:b6 D fr) (fD:Za.dG (aX D) fr T) (hn:fe w nb N mo mc) (bC:aZ w D (fun g=>¬br nb mo g)) (hl:g.l<D.length) (hr:pD D.length g.r) (hz:pD D.length g.z) (hsz:∀x:Int,x=(g.l:Int)∨x=g.r∨x=g.z→x≠-1→Za.size (T x.toNat)≤1000) (hN:N.length≤800000):
 Calls Tryz.prog 86 #[.pointer (some ⟨mb,0,none⟩),.agg #[.int .i64 (g.l:Int),.string g.sg,.int .i64 g.r,.string g.op,.int .i64 g.z,.bool g.wt,.slice g.no g.nd.length g.nc],.pointer (some ⟨nb,0,none⟩)] w fun e w'=>Uy T nb N mo g w e w':=by
 obtain⟨l,sg,r,op,z,wt,no,nc,nd⟩:=g
 dsimp only at*
 have IT:=af (fun(x:Int) (N1:List Nat) (mo1:Option Addr) (mc1:Nat) (W:World) (hf:au (br nb mo) (br nb mo1) w W) (lG:fe W nb N1 mo1 mc1) (hx:pD D.length x) (hq:x≠-1→Za.size (T x.toNat)≤1000) (jE:N1.length≤900000)=>MV W mb cs D nO nC fr T nb N1 mo1 mc1 x (hs.Hq hn (by decide) (by decide) hf) ok fD lG (bC.Hq hf) hx hq jE)
 have xl:=af (show pD D.length (l:Int)from Or.inr ⟨l,rfl,hl⟩)
 have Xz:=af hr
 have XA:=af hz
 have j9:=af hsz
 have mz:=ag hs.blk
 have hb0:=((Below.refl w.heap.size w).alloc (Nat.le_refl _) (.cells #[.int .i64 (l:Int),.string sg,.int .i64 r,.string op,.int .i64 z,.bool wt,.slice no nd.length nc] 158)).alloc (by simp) (.cells #[.int .i64 0,.int .i64 0,.string ⟨#[]⟩,.slice none 0 0,.string ⟨#[]⟩,.int .i64 0,.int .i64 0,.string ⟨#[]⟩,.slice none 0 0,.string ⟨#[]⟩,.int .i64 0,.int .i64 0,.string ⟨#[]⟩,.slice none 0 0] 151)
 have hgx:=aB (heap_alloc_new w (.cells #[.int .i64 (l:Int),.string sg,.int .i64 r,.string op,.int .i64 z,.bool wt,.slice no nd.length nc] 158)) (.cells #[.int .i64 0,.int .i64 0,.string ⟨#[]⟩,.slice none 0 0,.string ⟨#[]⟩,.int .i64 0,.int .i64 0,.string ⟨#[]⟩,.slice none 0 0,.string ⟨#[]⟩,.int .i64 0,.int .i64 0,.string ⟨#[]⟩,.slice none 0 0] 151)
 have pG:=heap_alloc_new (w.alloc (.cells #[.int .i64 (l:Int),.string sg,.int .i64 r,.string op,.int .i64 z,.bool wt,.slice no nd.length nc] 158)) (.cells #[.int .i64 0,.int .i64 0,.string ⟨#[]⟩,.slice none 0 0,.string ⟨#[]⟩,.int .i64 0,.int .i64 0,.string ⟨#[]⟩,.slice none 0 0,.string ⟨#[]⟩,.int .i64 0,.int .i64 0,.string ⟨#[]⟩,.slice none 0 0] 151)
 rw[World.size_alloc]at pG
 have Yy:=af hn
 have HLEN:=af (show∀(N1:List Nat) (x:Int) (N2:List Nat),Za.bt N2=iD T (Za.bt N1) x→(x≠-1→Za.size (T x.toNat)≤1000)→N2.length≤N1.length+1000 from fun N1 x N2 he hq=>by
  have e1:(Za.bt N2).length=N2.length:=by unfold Za.bt;simp
  have e2:(Za.bt N1).length=N1.length:=by unfold Za.bt;simp
  rw[←e1,he,←e2]
  unfold iD
  split
  ·omega
  ·rename_i hne
   exact Nat.le_trans (i6 _ _) (by have:=hq hne;omega))
 have Q8:au (br nb mo) (br nb mo) w ((w.alloc (.cells #[.int .i64 (l:Int),.string sg,.int .i64 r,.string op,.int .i64 z,.bool wt,.slice no nd.length nc] 158)).alloc (.cells #[.int .i64 0,.int .i64 0,.string ⟨#[]⟩,.slice none 0 0,.string ⟨#[]⟩,.int .i64 0,.int .i64 0,.string ⟨#[]⟩,.slice none 0 0,.string ⟨#[]⟩,.int .i64 0,.int .i64 0,.string ⟨#[]⟩,.slice none 0 0] 151)):=au.aw hb0
 have Q9:=hn.below hb0
 have hz0:w.heap.size+2≤((w.alloc (.cells #[.int .i64 (l:Int),.string sg,.int .i64 r,.string op,.int .i64 z,.bool wt,.slice no nd.length nc] 158)).alloc (.cells #[.int .i64 0,.int .i64 0,.string ⟨#[]⟩,.slice none 0 0,.string ⟨#[]⟩,.int .i64 0,.int .i64 0,.string ⟨#[]⟩,.slice none 0 0,.string ⟨#[]⟩,.int .i64 0,.int .i64 0,.string ⟨#[]⟩,.slice none 0 0] 151)).heap.size:=by simp
 go_enter Tryz.func86,Tryz.ntmps86
 go_upto_region 1 with fail
 generalize hW0:((w.alloc (.cells #[.int .i64 (l:Int),.string sg,.int .i64 r,.string op,.int .i64 z,.bool wt,.slice no nd.length nc] 158)).alloc (.cells #[.int .i64 0,.int .i64 0,.string ⟨#[]⟩,.slice none 0 0,.string ⟨#[]⟩,.int .i64 0,.int .i64 0,.string ⟨#[]⟩,.slice none 0 0,.string ⟨#[]⟩,.int .i64 0,.int .i64 0,.string ⟨#[]⟩,.slice none 0 0] 151))=W0 at*
 have x0:=ah hgx 0
 have gz:=ag hgx
 simp only[List.getElem?_toArray,List.getElem?_cons_zero]at x0
 have nM:=af hgx
 have mq:=af pG
 have LC:=af Q8
 have Cu:=af Q9
 clear hs ok fD hn bC hl hr hz hsz hb0 hgx pG Q8 Q9 hW0
 go_cut [7] (fun lv wx=>SR T nb (l:Int) W0 N mo lv wx)
 case first=>
  go_region_with (go_at_call 57;refine(ae IT (l:Int) N mo mc _ ((ae LC).trans (au.aw (by first | exact Below.refl _ _ | exact(Below.refl _ _).drew | exact((Below.refl _ _).alloc (Nat.le_refl _) _).drew | exact(Below.refl _ _).alloc (Nat.le_refl _) _))) ((ae Cu).below (by first | exact Below.refl _ _ | exact(Below.refl _ _).drew | exact((Below.refl _ _).alloc (Nat.le_refl _) _).drew | exact(Below.refl _ _).alloc (Nat.le_refl _) _)) (ae xl) (ae j9 _ (Or.inl rfl)) (by have:=hN;omega)).mono ?_;rintro y w1 ⟨⟨ak,av,ax,ao,an,ac⟩,Nn,mon,mcn,rfl,nm,hv,rv,fg⟩;first | (have ab:=(fg.block W0.heap.size (by simp) (fun q=>by have:=(ae Cu).rows _ q;omega)).trans (heap_alloc_new W0 (.cells #[.int .i64 0,.int .i64 0,.string ⟨#[]⟩,.slice none 0 0] 76));have ab0:=ah ab 0;have ab1:=ah ab 1;have ab2:=ah ab 2;have ab3:=ah ab 3;have ay0:=ay ab 0;have ay1:=ay ab 1;have ay2:=ay ab 2;have ay3:=ay ab 3;have abz:=ag ab;simp only[List.getElem?_toArray,List.getElem?_cons_zero,List.getElem?_cons_succ]at ab0 ab1 ab2 ab3) | skip)
  all_goals
   first
    | (have hab:=aA (aA (aA (aA ab 0 (.int .i64 ak)) 1 (.int .i64 av)) 2 (.string ax)) 3 (.slice ao an ac)
       have fgn:=((((((au.aw (R:=br nb mo) (by first | exact Below.refl _ _ | exact(Below.refl _ _).drew | exact((Below.refl _ _).alloc (Nat.le_refl _) _).drew | exact(Below.refl _ _).alloc (Nat.le_refl _) _)).trans fg).eO (Nat.le_refl _) 0 (.int .i64 ak)).eO (Nat.le_refl _) 1 (.int .i64 av)).eO (Nat.le_refl _) 2 (.string ax)).eO (Nat.le_refl _) 3 (.slice ao an ac):au (br nb mo) (br nb mon) W0 _)
       have nmn:=((((nm.nW ab 0 (.int .i64 ak)).nW (aA ab 0 (.int .i64 ak)) 1 (.int .i64 av)).nW (aA (aA ab 0 (.int .i64 ak)) 1 (.int .i64 av)) 2 (.string ax)).nW (aA (aA (aA ab 0 (.int .i64 ak)) 1 (.int .i64 av)) 2 (.string ax)) 3 (.slice ao an ac))
       have rvn:=(fun q=>(rv q).keep (Q:=anyA) (w':=((((w1.setCell ⟨W0.heap.size,0,none⟩ (.int .i64 ak)).setCell ⟨W0.heap.size,1,none⟩ (.int .i64 av)).setCell ⟨W0.heap.size,2,none⟩ (.string ax)).setCell ⟨W0.heap.size,3,none⟩ (.slice ao an ac))) fun g _ hp hg=>⟨by have hne:g≠W0.heap.size:=(by have:W0.heap.size+1≤g:=(by simpa using hp);omega);rw[aJ _ _ _ _ hne,aJ _ _ _ _ hne,aJ _ _ _ _ hne,aJ _ _ _ _ hne];exact hg,trivial⟩))
    | (have hab:=heap_alloc_new w1 (.cells #[.int .i64 ak,.int .i64 av,.string ax,.slice ao an ac] 76)
       have fgn:=(((au.aw (R:=br nb mo) (by first | exact Below.refl _ _ | exact(Below.refl _ _).drew | exact((Below.refl _ _).alloc (Nat.le_refl _) _).drew | exact(Below.refl _ _).alloc (Nat.le_refl _) _)).trans fg).trans (au.aw ((Below.refl _ _).alloc (Nat.le_refl _) (.cells #[.int .i64 ak,.int .i64 av,.string ax,.slice ao an ac] 76))):au (br nb mo) (br nb mon) W0 _)
       have nmn:=nm.below ((Below.refl _ _).alloc (Nat.le_refl _) (.cells #[.int .i64 ak,.int .i64 av,.string ax,.slice ao an ac] 76))
       have rvn:=(fun q=>(rv q).keep (Q:=anyA) (w':=w1.alloc (.cells #[.int .i64 ak,.int .i64 av,.string ax,.slice ao an ac] 76)) fun g _ _ hg=>⟨(Below.heap_alloc _ _ _ (ag hg)).trans hg,trivial⟩))
   try simp only[List.setIfInBounds_toArray,List.set_cons_zero,List.set_cons_succ]at hab
   go_wp2_with fail
   go_meet
   exact⟨⟨ak,av,ax,ao,an,ac⟩,_,Nn,mon,mcn,rfl,fgn,nmn,hv,rvn,hab⟩
 case rest=>
  obtain⟨⟨ak1,av1,ax1,ao1,an1,ac1⟩,b1,N1,mo1,mc1,rfl,fgn,nmn,hv,rvn,hab⟩:=hcut
  generalize hWc:wc=W1 at*
  clear hWc
  have hgx:=(fgn.block _ (ag (ae nM)) ((ae Cu).apart (ae nM) (by decide) (by decide))).trans (ae nM)
  have pG:=(fgn.block _ (ag (ae mq)) ((ae Cu).apart (ae mq) (by decide) (by decide))).trans (ae mq)
  have HFGn:=af ((ae LC).trans fgn)
  have Ra:=af (show N1.length≤800000+1000 by have:=ae HLEN N (l:Int) N1 hv (ae j9 _ (Or.inl rfl));have:=hN;omega)
  have XB:=af hv
  clear nM mq LC Cu
  have nM:=af hgx
  have mq:=af pG
  have LD:=HFGn
  have wG:=af nmn
  have nX:=af hab
  have wH:=af rvn
  have x1:=ah hgx 2
  have gz1:=ag hgx
  simp only[List.getElem?_toArray,List.getElem?_cons_zero,List.getElem?_cons_succ]at x1
  clear hab fgn nmn rvn hgx pG hv x0 HFGn
  go_upto_region 2 with fail
  go_cut [8] (fun lv wx=>SR T nb r W1 N1 mo1 lv wx)
  case first=>
   go_region_with (go_at_call 57;refine(ae IT r N1 mo1 mc1 _ ((ae LD).trans (au.aw (by first | exact Below.refl _ _ | exact(Below.refl _ _).drew | exact((Below.refl _ _).alloc (Nat.le_refl _) _).drew | exact(Below.refl _ _).alloc (Nat.le_refl _) _))) ((ae wG).below (by first | exact Below.refl _ _ | exact(Below.refl _ _).drew | exact((Below.refl _ _).alloc (Nat.le_refl _) _).drew | exact(Below.refl _ _).alloc (Nat.le_refl _) _)) (ae Xz) (ae j9 _ (Or.inr (Or.inl rfl))) (by have:=(ae Ra);omega)).mono ?_;rintro y w1 ⟨⟨ak,av,ax,ao,an,ac⟩,Nn,mon,mcn,rfl,nm,hv,rv,fg⟩;first | (have ab:=(fg.block W1.heap.size (by simp) (fun q=>by have:=(ae wG).rows _ q;omega)).trans (heap_alloc_new W1 (.cells #[.int .i64 0,.int .i64 0,.string ⟨#[]⟩,.slice none 0 0] 76));have ab0:=ah ab 0;have ab1:=ah ab 1;have ab2:=ah ab 2;have ab3:=ah ab 3;have ay0:=ay ab 0;have ay1:=ay ab 1;have ay2:=ay ab 2;have ay3:=ay ab 3;have abz:=ag ab;simp only[List.getElem?_toArray,List.getElem?_cons_zero,List.getElem?_cons_succ]at ab0 ab1 ab2 ab3) | skip)
   all_goals
    first
     | (have hab:=aA (aA (aA (aA ab 0 (.int .i64 ak)) 1 (.int .i64 av)) 2 (.string ax)) 3 (.slice ao an ac)
        have fgn:=((((((au.aw (R:=br nb mo1) (by first | exact Below.refl _ _ | exact(Below.refl _ _).drew | exact((Below.refl _ _).alloc (Nat.le_refl _) _).drew | exact(Below.refl _ _).alloc (Nat.le_refl _) _)).trans fg).eO (Nat.le_refl _) 0 (.int .i64 ak)).eO (Nat.le_refl _) 1 (.int .i64 av)).eO (Nat.le_refl _) 2 (.string ax)).eO (Nat.le_refl _) 3 (.slice ao an ac):au (br nb mo1) (br nb mon) W1 _)
        have nmn:=((((nm.nW ab 0 (.int .i64 ak)).nW (aA ab 0 (.int .i64 ak)) 1 (.int .i64 av)).nW (aA (aA ab 0 (.int .i64 ak)) 1 (.int .i64 av)) 2 (.string ax)).nW (aA (aA (aA ab 0 (.int .i64 ak)) 1 (.int .i64 av)) 2 (.string ax)) 3 (.slice ao an ac))
        have rvn:=(fun q=>(rv q).keep (Q:=anyA) (w':=((((w1.setCell ⟨W1.heap.size,0,none⟩ (.int .i64 ak)).setCell ⟨W1.heap.size,1,none⟩ (.int .i64 av)).setCell ⟨W1.heap.size,2,none⟩ (.string ax)).setCell ⟨W1.heap.size,3,none⟩ (.slice ao an ac))) fun g _ hp hg=>⟨by have hne:g≠W1.heap.size:=(by have:W1.heap.size+1≤g:=(by simpa using hp);omega);rw[aJ _ _ _ _ hne,aJ _ _ _ _ hne,aJ _ _ _ _ hne,aJ _ _ _ _ hne];exact hg,trivial⟩))
     | (have hab:=heap_alloc_new w1 (.cells #[.int .i64 ak,.int .i64 av,.string ax,.slice ao an ac] 76)
        have fgn:=(((au.aw (R:=br nb mo1) (by first | exact Below.refl _ _ | exact(Below.refl _ _).drew | exact((Below.refl _ _).alloc (Nat.le_refl _) _).drew | exact(Below.refl _ _).alloc (Nat.le_refl _) _)).trans fg).trans (au.aw ((Below.refl _ _).alloc (Nat.le_refl _) (.cells #[.int .i64 ak,.int .i64 av,.string ax,.slice ao an ac] 76))):au (br nb mo1) (br nb mon) W1 _)
        have nmn:=nm.below ((Below.refl _ _).alloc (Nat.le_refl _) (.cells #[.int .i64 ak,.int .i64 av,.string ax,.slice ao an ac] 76))
        have rvn:=(fun q=>(rv q).keep (Q:=anyA) (w':=w1.alloc (.cells #[.int .i64 ak,.int .i64 av,.string ax,.slice ao an ac] 76)) fun g _ _ hg=>⟨(Below.heap_alloc _ _ _ (ag hg)).trans hg,trivial⟩))
    try simp only[List.setIfInBounds_toArray,List.set_cons_zero,List.set_cons_succ]at hab
    go_wp2_with fail
    go_meet
    exact⟨⟨ak,av,ax,ao,an,ac⟩,_,Nn,mon,mcn,rfl,fgn,nmn,hv,rvn,hab⟩
  case rest=>
   obtain⟨⟨ak2,av2,ax2,ao2,an2,ac2⟩,b2,N2,mo2,mc2,rfl,fgn,nmn,hv,rvn,hab⟩:=hcut
   generalize hWc:wc=W2 at*
   clear hWc
   have hgx:=(fgn.block _ (ag (ae nM)) ((ae wG).apart (ae nM) (by decide) (by decide))).trans (ae nM)
   have pG:=(fgn.block _ (ag (ae mq)) ((ae wG).apart (ae mq) (by decide) (by decide))).trans (ae mq)
   have Cv:=(fgn.block _ (ag (ae nX)) ((ae wG).apart (ae nX) (by decide) (by decide))).trans (ae nX)
   have rv1:=(fun q=>((ae wH) q).fr (ae wG) fgn)
   clear nX wH
   have nX:=af Cv
   have wH:=af rv1
   clear Cv rv1
   have HFGn:=af ((ae LD).trans fgn)
   have Rb:=af (show N2.length≤800000+2000 by have:=ae HLEN N1 r N2 hv (ae j9 _ (Or.inr (Or.inl rfl)));have:=(ae Ra);omega)
   have y9:=af hv
   clear nM mq LD wG
   have nM:=af hgx
   have mq:=af pG
   have LF:=HFGn
   have rI:=af nmn
   have wI:=af hab
   have F9:=af rvn
   have x2:=ah hgx 4
   have gz2:=ag hgx
   simp only[List.getElem?_toArray,List.getElem?_cons_zero,List.getElem?_cons_succ]at x2
   clear hab fgn nmn rvn hgx pG hv x1 HFGn
   go_upto_region 3 with fail
   go_cut [9] (fun lv wx=>SR T nb z W2 N2 mo2 lv wx)
   case first=>
    go_region_with (go_at_call 57;refine(ae IT z N2 mo2 mc2 _ ((ae LF).trans (au.aw (by first | exact Below.refl _ _ | exact(Below.refl _ _).drew | exact((Below.refl _ _).alloc (Nat.le_refl _) _).drew | exact(Below.refl _ _).alloc (Nat.le_refl _) _))) ((ae rI).below (by first | exact Below.refl _ _ | exact(Below.refl _ _).drew | exact((Below.refl _ _).alloc (Nat.le_refl _) _).drew | exact(Below.refl _ _).alloc (Nat.le_refl _) _)) (ae XA) (ae j9 _ (Or.inr (Or.inr rfl))) (by have:=(ae Rb);omega)).mono ?_;rintro y w1 ⟨⟨ak,av,ax,ao,an,ac⟩,Nn,mon,mcn,rfl,nm,hv,rv,fg⟩;first | (have ab:=(fg.block W2.heap.size (by simp) (fun q=>by have:=(ae rI).rows _ q;omega)).trans (heap_alloc_new W2 (.cells #[.int .i64 0,.int .i64 0,.string ⟨#[]⟩,.slice none 0 0] 76));have ab0:=ah ab 0;have ab1:=ah ab 1;have ab2:=ah ab 2;have ab3:=ah ab 3;have ay0:=ay ab 0;have ay1:=ay ab 1;have ay2:=ay ab 2;have ay3:=ay ab 3;have abz:=ag ab;simp only[List.getElem?_toArray,List.getElem?_cons_zero,List.getElem?_cons_succ]at ab0 ab1 ab2 ab3) | skip)
    all_goals
     first
      | (have hab:=aA (aA (aA (aA ab 0 (.int .i64 ak)) 1 (.int .i64 av)) 2 (.string ax)) 3 (.slice ao an ac)
         have fgn:=((((((au.aw (R:=br nb mo2) (by first | exact Below.refl _ _ | exact(Below.refl _ _).drew | exact((Below.refl _ _).alloc (Nat.le_refl _) _).drew | exact(Below.refl _ _).alloc (Nat.le_refl _) _)).trans fg).eO (Nat.le_refl _) 0 (.int .i64 ak)).eO (Nat.le_refl _) 1 (.int .i64 av)).eO (Nat.le_refl _) 2 (.string ax)).eO (Nat.le_refl _) 3 (.slice ao an ac):au (br nb mo2) (br nb mon) W2 _)
         have nmn:=((((nm.nW ab 0 (.int .i64 ak)).nW (aA ab 0 (.int .i64 ak)) 1 (.int .i64 av)).nW (aA (aA ab 0 (.int .i64 ak)) 1 (.int .i64 av)) 2 (.string ax)).nW (aA (aA (aA ab 0 (.int .i64 ak)) 1 (.int .i64 av)) 2 (.string ax)) 3 (.slice ao an ac))
         have rvn:=(fun q=>(rv q).keep (Q:=anyA) (w':=((((w1.setCell ⟨W2.heap.size,0,none⟩ (.int .i64 ak)).setCell ⟨W2.heap.size,1,none⟩ (.int .i64 av)).setCell ⟨W2.heap.size,2,none⟩ (.string ax)).setCell ⟨W2.heap.size,3,none⟩ (.slice ao an ac))) fun g _ hp hg=>⟨by have hne:g≠W2.heap.size:=(by have:W2.heap.size+1≤g:=(by simpa using hp);omega);rw[aJ _ _ _ _ hne,aJ _ _ _ _ hne,aJ _ _ _ _ hne,aJ _ _ _ _ hne];exact hg,trivial⟩))
      | (have hab:=heap_alloc_new w1 (.cells #[.int .i64 ak,.int .i64 av,.string ax,.slice ao an ac] 76)
         have fgn:=(((au.aw (R:=br nb mo2) (by first | exact Below.refl _ _ | exact(Below.refl _ _).drew | exact((Below.refl _ _).alloc (Nat.le_refl _) _).drew | exact(Below.refl _ _).alloc (Nat.le_refl _) _)).trans fg).trans (au.aw ((Below.refl _ _).alloc (Nat.le_refl _) (.cells #[.int .i64 ak,.int .i64 av,.string ax,.slice ao an ac] 76))):au (br nb mo2) (br nb mon) W2 _)
         have nmn:=nm.below ((Below.refl _ _).alloc (Nat.le_refl _) (.cells #[.int .i64 ak,.int .i64 av,.string ax,.slice ao an ac] 76))
         have rvn:=(fun q=>(rv q).keep (Q:=anyA) (w':=w1.alloc (.cells #[.int .i64 ak,.int .i64 av,.string ax,.slice ao an ac] 76)) fun g _ _ hg=>⟨(Below.heap_alloc _ _ _ (ag hg)).trans hg,trivial⟩))
     try simp only[List.setIfInBounds_toArray,List.set_cons_zero,List.set_cons_succ]at hab
     go_wp2_with fail
     go_meet
     exact⟨⟨ak,av,ax,ao,an,ac⟩,_,Nn,mon,mcn,rfl,fgn,nmn,hv,rvn,hab⟩
   case rest=>
    obtain⟨⟨ak3,av3,ax3,ao3,an3,ac3⟩,b3,N3,mo3,mc3,rfl,fgn,nmn,hv,rvn,hab⟩:=hcut
    generalize hWc:wc=W3 at*
    clear hWc
    have hgx:=(fgn.block _ (ag (ae nM)) ((ae rI).apart (ae nM) (by decide) (by decide))).trans (ae nM)
    have pG:=(fgn.block _ (ag (ae mq)) ((ae rI).apart (ae mq) (by decide) (by decide))).trans (ae mq)
    have Cv:=(fgn.block _ (ag (ae nX)) ((ae rI).apart (ae nX) (by decide) (by decide))).trans (ae nX)
    have rv1:=(fun q=>((ae wH) q).fr (ae rI) fgn)
    clear nX wH
    have nX:=af Cv
    have wH:=af rv1
    clear Cv rv1
    have Rc:=(fgn.block _ (ag (ae wI)) ((ae rI).apart (ae wI) (by decide) (by decide))).trans (ae wI)
    have rv2:=(fun q=>((ae F9) q).fr (ae rI) fgn)
    clear wI F9
    have wI:=af Rc
    have F9:=af rv2
    clear Rc rv2
    have HFGn:=af ((ae LF).trans fgn)
    have Yh:=af (show N3.length≤800000+3000 by have:=ae HLEN N2 z N3 hv (ae j9 _ (Or.inr (Or.inr rfl)));have:=(ae Rb);omega)
    have Uz:=af hv
    clear nM mq LF rI
    have nM:=af hgx
    have mq:=af pG
    have VX:=HFGn
    have VY:=af nmn
    have Re:=af hab
    have VZ:=af rvn
    have x3:=ah hgx 1
    have gz3:=ag hgx
    simp only[List.getElem?_toArray,List.getElem?_cons_zero,List.getElem?_cons_succ]at x3
    clear hab fgn nmn rvn hgx pG hv x2 HFGn
    have y0:=ah (ae nM) 1
    have y1:=ah (ae nM) 3
    have ra:=ah (ae nX)
    have rb:=ah (ae wI)
    have rc:=ah (ae Re)
    have rx:=ah (ae mq)
    have rxf:=ay (ae mq)
    have za:=ag (ae nX)
    have zb:=ag (ae wI)
    have zc:=ag (ae Re)
    have zx:=ag (ae mq)
    have a0:=ra 0
    have a1:=ra 1
    have a2:=ra 2
    have a3:=ra 3
    have c0:=rb 0
    have c1:=rb 1
    have c2:=rb 2
    have c3:=rb 3
    have d0:=rc 0
    have d1:=rc 1
    have d2:=rc 2
    have d3:=rc 3
    simp only[List.getElem?_toArray,List.getElem?_cons_zero,List.getElem?_cons_succ]at y0 y1 a0 a1 a2 a3 c0 c1 c2 c3 d0 d1 d2 d3
    clear ra rb rc
    go_wp2_with fail
    refine bodyPost_ret (v:= .agg #[.int .i64 ak1,.int .i64 av1,.string ax1,.slice ao1 an1 ac1,.string sg,.int .i64 ak2,.int .i64 av2,.string ax2,.slice ao2 an2 ac2,.string op,.int .i64 ak3,.int .i64 av3,.string ax3,.slice ao3 an3 ac3]) (by simp[results,Tryz.results86,go_sem,rx]) rfl ?_
    exact Q7 (ae VX) (ae VY) (ae mq) (by rw[ae Uz,ae y9,ae XB]) (ae y9) (ae Uz) (ae wH) (ae F9) (ae VZ)
theorem infoBl:(Tryz.prog.info? 4).map (fun i=>(i.zero,i.size,i.bytes))=some (some (.bool false),1,1):=by kernel_rfl
theorem Ga (w:World) (mb:Nat) (L:List Int) (lo:Option Addr) (lc:Nat) (en:Int) (h:kU w mb L lo lc en) (he:en=4∨en=5∨en=6):
 Calls Tryz.prog 47 #[.pointer (some ⟨mb,0,none⟩)] w fun e w'=>e= .returned (.agg #[.int .i64 en,.slice lo L.length lc,.slice none 0 0,.slice none 0 0,.slice none 0 0])∧Below w.heap.size w w':=by
 obtain⟨cs,hb,h6,h4,h5,ho⟩:=h
 have f4:=(ah hb 4).trans h4
 have f5:=(ah hb 5).trans h5
 have mz:=ag hb
 clear hb h6 h4 h5 ho
 rcases he with rfl | rfl | rfl
 all_goals
  go_enter Tryz.func47,Tryz.ntmps47
  go_wp2_with fail
  go_region
  all_goals
   go_wp2_with fail
   refine bodyPost_ret (v:= .agg #[.int .i64 _,.slice lo L.length lc,.slice none 0 0,.slice none 0 0,.slice none 0 0]) (by simp[results,Tryz.results47,go_sem];rfl) rfl ?_
   exact⟨rfl,(((Below.refl _ _).alloc (Nat.le_refl _) _).alloc (by simp) _).drew⟩
def uS (T:Nat→Za.U) (a:List (List UInt8)×List Za.Vr) (v:Nat):List (List UInt8)×List Za.Vr:=(a.1++[Za.bU Lib.itoa (Za.ba a.2 (T v)) (T v)],Za.ba a.2 (T v))
def eP (T:Nat→Za.U) (V:List Nat):List (List UInt8)×List Za.Vr:=V.foldl (uS T) ([],[])
theorem zO (T:Nat→Za.U) (V:List Nat) (v:Nat):eP T (V++[v])=uS T (eP T V) v:=by unfold eP;rw[List.foldl_append];rfl
theorem Cw (T:Nat→Za.U) (V:List Nat):(eP T V).1.length=V.length:=by
 have key:∀(V:List Nat) (a:List (List UInt8)×List Za.Vr),(V.foldl (uS T) a).1.length=a.1.length+V.length:=by
  intro V
  induction V with
  | nil=>intro a;simp
  | cons v V ih=>intro a;rw[List.foldl_cons,ih];simp[uS];omega
 have:=key V ([],[])
 simpa [eP] using this
def Jj (T:Nat→Za.U) (N:List Za.Vr) (g:Gl):List Za.Vr:=iD T (iD T (iD T N (g.l:Int)) g.r) g.z
def Eo (T:Nat→Za.U) (N:List Za.Vr) (g:Gl):List UInt8:=Za.mW (Za.bU Lib.itoa N (T g.l)) g.sg.toList (Za.bU Lib.itoa N (T g.r.toNat)) g.op.toList (Za.bU Lib.itoa N (T g.z.toNat))
def stepG (T:Nat→Za.U) (a:List (List UInt8)×List Za.Vr) (g:Gl):List (List UInt8)×List Za.Vr:=(a.1++[Eo T (Jj T a.2 g) g],Jj T a.2 g)
def kE (T:Nat→Za.U) (N:List Za.Vr) (G:List Gl):List (List UInt8)×List Za.Vr:=G.foldl (stepG T) ([],N)
theorem zP (T:Nat→Za.U) (N:List Za.Vr) (G:List Gl) (g:Gl):kE T N (G++[g])=stepG T (kE T N G) g:=by unfold kE;rw[List.foldl_append];rfl
theorem Cx (T:Nat→Za.U) (N:List Za.Vr) (G:List Gl):(kE T N G).1.length=G.length:=by
 have key:∀(G:List Gl) (a:List (List UInt8)×List Za.Vr),(G.foldl (stepG T) a).1.length=a.1.length+G.length:=by
  intro G
  induction G with
  | nil=>intro a;simp
  | cons v V ih=>intro a;rw[List.foldl_cons,ih];simp[stepG];omega
 have:=key G ([],N)
 simpa [kE] using this
def iB (s:List UInt8):Value:= .string ⟨s.toArray⟩
theorem Oh {D:List Ng} {fr:Nat→Nat} {T:Nat→Za.U} (ok:b6 D fr) (hS:Za.dG (aX D) fr T) (hv:∀d∈D,-1000000000≤d.val∧d.val≤1000000000) (ht:∀d∈D,d.tx.size≤240):∀n,n<D.length→Za.oZ (T n):=by
 have key:∀{n u},Za.Tr (aX D) fr n u→n<D.length→Za.oZ u:=by
  intro n u h
  induction h with
  | @var n _ _=>intro _ k tx num ss hm;simp[Za.subs]at hm
  | @node n k tx num us hg hl _ ih=>
   intro hn
   have hf:=ok.lt hn
   have hd:=ok.nd (fr n) hf
   have gX:D[fr n]∈D:=List.getElem_mem hf
   rw[lU hf]at hg
   rw[jS hf]at hl ih
   refine Za.oZ.mk ?_ fun a ha=> ?_
   ·have h1:=hv _ gX
    have h2:=ht _ gX
    have h3:D[fr n].args.length≤3:=by
     rcases hd.ks with q | q | q
     ·rw[(hd.v q).2.2.2];simp
     ·rw[(hd.m q).2.2];simp
     ·exact(hd.c q).2.2
    unfold fp at hg
    split at hg
    ·cases hg
    ·split at hg
     ·injection hg with hg
      injection hg with e1 hg
      injection hg with e2 e3
      subst e2 e3
      exact⟨by simp,h1.1,h1.2,by omega⟩
     ·injection hg with hg
      injection hg with e1 hg
      injection hg with e2 e3
      subst e2 e3
      exact⟨by rw[Za.nB];exact h2,by omega,by omega,by omega⟩
   ·obtain⟨i,hi,rfl⟩:=List.getElem_of_mem ha
    exact ih i _ us[i] (List.getElem?_eq_getElem (by omega)) (List.getElem?_eq_getElem hi) (hd.inn _ (List.getElem_mem _))
 exact fun n hn=>key (hS.tr n) hn
end Go.Proofs.YthfjnfcekeknlaaGreatDoor
namespace Za
open Go.Proofs.YthfjnfcekeknlaaGreatDoor (dX dL gY)
def zU:U:= .n 0 [] 0 []
structure MG where
 a:U
 sg:List UInt8
 b:U
 op:List UInt8
 c:U
 wt:Bool
 on:Nat→Prop
structure MS where
 vs:List U
 gs:List MG
 lim:Nat
def MG.stays (σ:Vr→U) (g:MG):Prop:=g.wt=true∧∀v,g.on v→σ ([],v)= .v ([],v)
open Classical in
noncomputable def MG.put (σ:Vr→U) (g:MG):MG:=⟨sub σ g.a,g.sg,sub σ g.b,g.op,sub σ g.c,decide (g.stays σ),fun v=>g.stays σ∧g.on v⟩
def MG.of (η:List UInt8→U) (x:aH):MG:=⟨bJ η 8 x.left,x.sign,x.right.elim zU (bJ η 8),x.op,x.last.elim zU (bJ η 8),false,fun _=>False⟩
def cM (u:U) (c:aL) (o:Nat→Nat) (y:List UInt8):U:=if y∈NH c then((matU 8 c.head u ⟨[],Wn.none⟩).st.find? (fun q=>q.1 == y)).elim zU (·.2)else .v ([],o ((NG c).idxOf y - (NH c).length))
def bY (lim:Nat) (u:U) (c:aL):Nat×List Nat:=if(matU 8 c.head u ⟨[],Wn.none⟩).w.says≠1 then((matU 8 c.head u ⟨[],Wn.none⟩).w.says,(matU 8 c.head u ⟨[],Wn.none⟩).w.wt)else((iR (cM u c (lim+·)) c.tests).says,(iR (cM u c (lim+·)) c.tests).wt.filter fun n=>decide (n<lim))
def js (gs:List MG):List Nat:=(List.range gs.length).filter fun i=>match gs[i]? with
 | some g=> !g.wt
 | none=>false
def XC (S S':MS) (i:Nat) (g:MG) (z:Int):Prop:=g.sg=[61]∧z=0∧∃σ,ek g.a g.b σ∧S'.vs=S.vs.map (sub σ)∧S'.gs=(S.gs.eraseIdx i).map (MG.put σ)
def XD (S S':MS) (i:Nat) (g:MG) (z:Int):Prop:=g.sg=[58,61]∧z= -1∧(dZ g.op g.b g.c).wt≠[]∧S'.vs=S.vs∧S'.gs=S.gs.set i ⟨g.a,g.sg,g.b,g.op,g.c,true,fun v=>v∈(dZ g.op g.b g.c).wt⟩
def XE (S S':MS) (i:Nat) (g:MG) (z:Int):Prop:=g.sg=[58,61]∧z=0∧(dZ g.op g.b g.c).wt=[]∧∃x σ,dX g.op g.b g.c=some x∧ek g.a (.n 3 [] x []) σ∧S'.vs=S.vs.map (sub σ)∧S'.gs=(S.gs.eraseIdx i).map (MG.put σ)
def XF (S S':MS) (i:Nat) (g:MG) (z:Int):Prop:=g.sg=[]∧z=0∧g.a= .n 1 [116,114,117,101] 0 []∧S'.vs=S.vs∧S'.gs=S.gs.eraseIdx i
def oJ (cls:List aL) (g:MG) (p:Int) (n:Nat) (lr:Nat→Nat):Prop:=g.sg=[]∧∃tx us,g.a= .n 1 tx 0 us∧¬(tx=[116,114,117,101]∧us=[])∧n=(cC cls tx us.length cls.length).length∧lr=gY (cC cls tx us.length cls.length) (dL p n)
def XG (cls:List aL) (S S':MS) (i:Nat) (g:MG) (p z:Int):Prop:=∃n lr,oJ cls g p n lr∧∃(t:Nat) (c:aL) (F:List Nat),t<n∧(∀t' c',t'<t→cls[lr t']?=some c'→(bY S.lim g.a c').1≠1)∧cls[lr t]?=some c∧(bY S.lim g.a c).1=1∧z=((lr t+1:Nat):Int)∧F.length+(NH c).length=(NG c).length∧F.Pairwise (·<·)∧(∀f∈F,S.lim≤f∧f<S'.lim)∧S'.vs=S.vs∧S'.gs=S.gs.eraseIdx i++c.goals.map (MG.of (cM g.a c fun k=>(F[k]?).getD 0))
def XH (cls:List aL) (S S':MS) (i:Nat) (g:MG) (p z:Int):Prop:=∃n lr,oJ cls g p n lr∧z= -1∧(∀t c,t<n→cls[lr t]?=some c→(bY S.lim g.a c).1≠1)∧(∃t c,t<n∧cls[lr t]?=some c∧(bY S.lim g.a c).1=3)∧S'.vs=S.vs∧S'.gs=S.gs.set i ⟨g.a,g.sg,g.b,g.op,g.c,true,fun v=>∃t c,t<n∧cls[lr t]?=some c∧(bY S.lim g.a c).1=3∧v∈(bY S.lim g.a c).2⟩
def kV (cls:List aL) (S S':MS) (i:Nat) (p z:Int):Prop:=S.lim≤S'.lim∧∃g,S.gs[i]?=some g∧(XC S S' i g z∨XD S S' i g z∨XE S S' i g z∨XF S S' i g z∨XG cls S S' i g p z∨XH cls S S' i g p z)
def Ep (cls:List aL) (S:MS) (i:Nat) (p en:Int):Prop:=∃g,S.gs[i]?=some g∧
 ((g.sg=[61]∧en=4∧∀θ,sub θ g.a≠sub θ g.b)∨
  (g.sg=[58,61]∧(dZ g.op g.b g.c).wt=[]∧((en=5∧dX g.op g.b g.c=none)∨(en=4∧∃x,dX g.op g.b g.c=some x∧∀θ,sub θ g.a≠ .n 3 [] x [])))∨
  (en=4∧∃n lr,oJ cls g p n lr∧∀t c,t<n→cls[lr t]?=some c→(bY S.lim g.a c).1=2))
def big (u:U):Bool:=decide (40<size u)
def lp (g:MG):Bool:=if g.sg=[]then(match g.a with
 | .v _=>false
 | .n _ _ _ us=>us.any big)else(big g.a||big g.b||big g.c)
def qD (S:MS):Bool:=decide (24<S.gs.length)||(S.vs.any big||S.gs.any lp)
def qo (a:List (List UInt8)×List Vr) (u:U):List (List UInt8)×List Vr:=(a.1++[bU Go.Lib.itoa (ba a.2 u) u],ba a.2 u)
def kF (vs:List U):List (List UInt8)×List Vr:=vs.foldl qo ([],[])
def jM (N:List Vr) (g:MG):List Vr:=ba (ba (ba N g.a) g.b) g.c
def uT (N:List Vr) (g:MG):List UInt8:=mW (bU Go.Lib.itoa N g.a) g.sg (bU Go.Lib.itoa N g.b) g.op (bU Go.Lib.itoa N g.c)
def nk (a:List (List UInt8)×List Vr) (g:MG):List (List UInt8)×List Vr:=(a.1++[uT (jM a.2 g) g],jM a.2 g)
def wJ (N:List Vr) (gs:List MG):List (List UInt8)×List Vr:=gs.foldl nk ([],N)
def yu (gs:List MG):Int:=if gs=[]then 1 else if js gs=[]then 2 else 3
inductive nY (cls:List aL) (script:List (Int×Int)) (S0:MS):Nat→MS→List Int→Prop
 | start:nY cls script S0 0 S0 []
 | step {j:Nat} {S S':MS} {L:List Int} {pg pc z:Int} {i:Nat} (h:nY cls script S0 j S L) (hs:script[j]?=some (pg,pc)) (hi:(js S.gs)[dL pg (js S.gs).length]?=some i) (hg:kV cls S S' i pc z) (hl:qD S'=false):nY cls script S0 (j+1) S' (L++[z])
def rJ (cls:List aL) (script:List (Int×Int)) (S0:MS) (en:Int) (log:List Int) (vals gols:List (List UInt8)) (wts:List Bool):Prop:=∃(j:Nat) (S:MS) (L:List Int),nY cls script S0 j S L∧
 (((j=script.length∨js S.gs=[])∧en=yu S.gs∧log=L∧vals=(kF S.vs).1∧gols=(wJ (kF S.vs).2 S.gs).1∧wts=S.gs.map (·.wt))∨
  (∃(pg pc:Int) (i:Nat) (z:Int),script[j]?=some (pg,pc)∧(js S.gs)[dL pg (js S.gs).length]?=some i∧((Ep cls S i pc en∧z= -2)∨(en=6∧∃S',kV cls S S' i pc z∧qD S'=true))∧log=L++[z]∧vals=[]∧gols=[]∧wts=[]))
theorem Jk (c:aL):∃K,NG c=NH c++K:=by
 have hO:∀(t:Option Tm) (ns:List (List UInt8)),∃M,cG ns t=ns++M:=fun t ns=>by
  cases t with
  | none=>exact⟨[],by simp[cG]⟩
  | some r=>exact namesV_ext 8 r ns
 have hI:∀(x:aH) (ns:List (List UInt8)),∃M,aQ ns x=ns++M:=fun x ns=>by
  obtain⟨M1,h1⟩:=namesV_ext 8 x.left ns
  obtain⟨M2,h2⟩:=hO x.right (namesF 8 ns x.left)
  obtain⟨M3,h3⟩:=hO x.last (cG (namesF 8 ns x.left) x.right)
  exact⟨M1++(M2++M3),by unfold aQ;rw[h3,h2,h1];simp⟩
 have hL:∀(xs:List aH) (ns:List (List UInt8)),∃M,aD ns xs=ns++M:=fun xs=>by
  induction xs with
  | nil=>exact fun ns=>⟨[],by simp[aD]⟩
  | cons x xs ih=>
   intro ns
   obtain⟨M1,h1⟩:=hI x ns
   obtain⟨M2,h2⟩:=ih (aQ ns x)
   exact⟨M1++M2,by show aD (aQ ns x) xs=_;rw[h2,h1];simp⟩
 obtain⟨M1,h1⟩:=hL c.tests (NH c)
 obtain⟨M2,h2⟩:=hL c.goals (NT c)
 exact⟨M1++M2,by unfold NG;rw[h2];unfold NT;rw[h1];simp⟩
theorem MW (c:aL):∀y∈NT c,y∈NG c:=fun y hy=>by
 have hO:∀(t:Option Tm) (ns:List (List UInt8)),∀y∈ns,y∈cG ns t:=fun t ns y hy=>by
  cases t with
  | none=>exact hy
  | some r=>
   obtain⟨K,hK⟩:=namesV_ext 8 r ns
   show y∈namesF 8 ns r
   rw[hK];exact List.mem_append_left _ hy
 have hI:∀(x:aH) (ns:List (List UInt8)),∀y∈ns,y∈aQ ns x:=fun x ns y hy=>by
  refine hO _ _ y (hO _ _ y ?_)
  obtain⟨K,hK⟩:=namesV_ext 8 x.left ns
  rw[hK];exact List.mem_append_left _ hy
 have hL:∀(xs:List aH) (ns:List (List UInt8)),∀y∈ns,y∈aD ns xs:=fun xs=>by
  induction xs with
  | nil=>exact fun ns y hy=>hy
  | cons x xs ih=>exact fun ns y hy=>ih _ y (hI x ns y hy)
 exact hL c.goals (NT c) y hy
theorem Gb {c:aL} {y:List UInt8} (hy:y∈NG c) (hn:y∉NH c):(NH c).length≤(NG c).idxOf y∧(NG c).idxOf y<(NG c).length:=by
 refine⟨?_,List.idxOf_lt_length_of_mem hy⟩
 obtain⟨K,hK⟩:=Jk c
 rw[hK,List.idxOf_append,if_neg hn]
 omega
theorem lN {r r':Nat→Nat} {P:Nat→Prop} (h:∀k,P k→r' k=r k) {u:U} (hu:bE (PQ P) u):bl r' u=bl r u:=sub_congr u fun x hx=>by
 unfold ren rn
 rw[h x.2 ((eZ u).1 hu x hx).2]
theorem Gc (r:Nat→Nat):bl r zU=zU:=by unfold zU;rw[fS];rfl
theorem Gd (Q:Vr→Prop):bE Q zU:= .n fun a ha=>by cases ha
theorem ue (Q:Vr→Prop):(bN.mk [] Wn.none).kN Q:=⟨fun _ hq=>absurd hq List.not_mem_nil,dF Q⟩
theorem wK {r r':Nat→Nat} {P:Nat→Prop} (hi:gZ r P) (h:∀k,P k→r' k=r k) {u:U} (hu:bE (PQ P) u) {c:aL} {o1 o2:Nat→Nat} {y:List UInt8} (ho:y∉NH c→r' (o1 ((NG c).idxOf y - (NH c).length))=o2 ((NG c).idxOf y - (NH c).length)):cM (bl r u) c o2 y=bl r' (cM u c o1 y):=by
 unfold cM
 by_cases hy:y∈NH c
 ·rw[if_pos hy,if_pos hy]
  have:=wF hi 8 c.head u ⟨[],Wn.none⟩ hu (ue _)
  have e:(bN.mk [] Wn.none).map r=⟨[],Wn.none⟩:=rfl
  rw[e]at this
  rw[this]
  show (((matU 8 c.head u ⟨[],Wn.none⟩).st.map fun q=>(q.1,bl r q.2)).find? (fun q=>q.1 == y)).elim zU (·.2)=_
  rw[Cr]
  cases hq:(matU 8 c.head u ⟨[],Wn.none⟩).st.find? (fun q=>q.1 == y)with
  | none=>exact(Gc r').symm
  | some q=>exact(lN h ((mR 8 c.head u _ hu (ue _)).1 q (List.mem_of_find?_eq_some hq))).symm
 ·rw[if_neg hy,if_neg hy,ql,ho hy]
theorem yw {P P':Nat→Prop} (h:∀k,P k→P' k) {u:U} (hu:bE (PQ P) u) {c:aL} {o:Nat→Nat} {y:List UInt8} (ho:y∉NH c→P' (o ((NG c).idxOf y - (NH c).length))):bE (PQ P') (cM u c o y):=by
 unfold cM
 by_cases hy:y∈NH c
 ·rw[if_pos hy]
  cases hq:(matU 8 c.head u ⟨[],Wn.none⟩).st.find? (fun q=>q.1 == y)with
  | none=>exact Gd _
  | some q=>exact((mR 8 c.head u _ hu (ue _)).1 q (List.mem_of_find?_eq_some hq)).mono fun x hx=>⟨hx.1,h _ hx.2⟩
 ·rw[if_neg hy]
  exact .v ⟨rfl,ho hy⟩
theorem Cy {r:Nat→Nat} {P:Nat→Prop} (hi:gZ r P) {l1 l2:Nat} (h1:∀k,P k→k<l1) (h2:∀k,P k→r k<l2) {u:U} (hu:bE (PQ P) u) {c:aL} (hc:∀x∈c.tests,iG x):(bY l2 (bl r u) c).1=(bY l1 u c).1∧(bY l2 (bl r u) c).2=(bY l1 u c).2.map r∧∀v∈(bY l1 u c).2,P v:=by
 have hm:=wF hi 8 c.head u ⟨[],Wn.none⟩ hu (ue _)
 have e:(bN.mk [] Wn.none).map r=⟨[],Wn.none⟩:=rfl
 rw[e]at hm
 have hw:(matU 8 c.head (bl r u) ⟨[],Wn.none⟩).w=(matU 8 c.head u ⟨[],Wn.none⟩).w.map r:=by rw[hm];rfl
 have uf:=(mR 8 c.head u ⟨[],Wn.none⟩ hu (ue _)).2
 unfold bY
 rw[hw,Wn.rG]
 by_cases hs:(matU 8 c.head u ⟨[],Wn.none⟩).w.says≠1
 ·rw[if_pos hs,if_pos hs]
  exact⟨rfl,rfl,uf.at⟩
 ·rw[if_neg hs,if_neg hs]
  let r':Nat→Nat:=fun k=>if k<l1 then r k else l2+(k - l1)
  let P':Nat→Prop:=fun k=>P k∨l1≤k
  have hr:∀k,P k→r' k=r k:=fun k hk=>if_pos (h1 k hk)
  have hr2:∀k,l1≤k→r' k=l2+(k - l1):=fun k hk=>if_neg (by omega)
  have hi':gZ r' P':=fun i j hPi hPj q=>by
   rcases hPi with a | a<;>rcases hPj with b | b
   ·rw[hr i a,hr j b]at q;exact hi i j a b q
   ·rw[hr i a,hr2 j b]at q;have:=h2 i a;omega
   ·rw[hr2 i a,hr j b]at q;have:=h2 j b;omega
   ·rw[hr2 i a,hr2 j b]at q;omega
  have hY:∀y,bE (PQ P') (cM u c (l1+·) y):=fun y=>yw (fun k hk=>Or.inl hk) hu fun _=>Or.inr (Nat.le_add_right _ _)
  have hE:cM (bl r u) c (l2+·)=fun y=>bl r' (cM u c (l1+·) y):=funext fun y=>wK hi hr hu fun _=>by
   rw[hr2 _ (Nat.le_add_right _ _)]
   congr 1
   omega
  rw[hE,Ek hi' c.tests [] hc (fun y _=>hY y)]
  have hwt:=yl (η:=cM u c (l1+·)) c.tests [] hc (fun y _=>hY y)
  refine⟨Wn.rG _ _,?_,fun v hv=> ?_⟩
  ·show ((iR (cM u c (l1+·)) c.tests).wt.map r').filter _=_
   rw[List.filter_map]
   have:(iR (cM u c (l1+·)) c.tests).wt.filter ((fun n=>decide (n<l2))∘r')=(iR (cM u c (l1+·)) c.tests).wt.filter fun n=>decide (n<l1):=List.filter_congr fun w hw=>by
    show decide (r' w<l2)=decide (w<l1)
    rcases hwt.at w hw with q | q
    ·rw[hr w q,decide_eq_true (h2 w q),decide_eq_true (h1 w q)]
    ·rw[hr2 w q,decide_eq_false (by omega),decide_eq_false (by omega)]
   rw[this]
   refine List.map_congr_left fun w hw=> ?_
   obtain⟨qQ,hw2⟩:=List.mem_filter.1 hw
   exact if_pos (of_decide_eq_true hw2)
  ·obtain⟨qQ,hw2⟩:=List.mem_filter.1 hv
   have:=of_decide_eq_true hw2
   rcases hwt.at v qQ with q | q
   ·exact q
   ·omega
end Za
