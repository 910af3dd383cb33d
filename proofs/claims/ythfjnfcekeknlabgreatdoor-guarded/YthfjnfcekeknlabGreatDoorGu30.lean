import Derived.Test.YthfjnfcekeknlabGreatDoorGu22
import Derived.Test.YthfjnfcekeknlabGreatDoorGu28
import Derived.Test.YthfjnfcekeknlabGreatDoorGu29
import Derived.Deep.DeepCutAuto
import Derived.Deep.LoopGhost
set_option maxHeartbeats 8000000
set_option maxRecDepth 100000
namespace Zf
def mZ (A sg B op C:List UInt8):List UInt8:=if sg=[]then A else if op=[]then A++(sg++B)++[]else A++(sg++B)++(op++C)
end Zf
namespace Go.Proofs.YthfjnfcekeknlabGreatDoor
open Go.RowKit
theorem Po (w:World) (v:JV) (A B C:List UInt8) (hA:A.length≤1000000) (hB:B.length≤1000000) (hC:C.length≤1000000) (hsl:v.sg.size≤2) (hol:v.op.size≤2) (IA:∀W,Below w.heap.size w W→Calls Tryz.prog 73 #[.agg #[.int .i64 v.a.k,.int .i64 v.a.val,.string v.a.tx,.slice v.a.ao v.a.n v.a.cap]] W fun e w'=>e= .returned (.string ⟨A.toArray⟩)∧Below W.heap.size W w') (IB:v.sg.toList≠[]→∀W,Below w.heap.size w W→Calls Tryz.prog 73 #[.agg #[.int .i64 v.b.k,.int .i64 v.b.val,.string v.b.tx,.slice v.b.ao v.b.n v.b.cap]] W fun e w'=>e= .returned (.string ⟨B.toArray⟩)∧Below W.heap.size W w') (IC:v.sg.toList≠[]→v.op.toList≠[]→∀W,Below w.heap.size w W→Calls Tryz.prog 73 #[.agg #[.int .i64 v.c.k,.int .i64 v.c.val,.string v.c.tx,.slice v.c.ao v.c.n v.c.cap]] W fun e w'=>e= .returned (.string ⟨C.toArray⟩)∧Below W.heap.size W w'):
 Calls Tryz.prog 75 #[.agg #[.int .i64 v.a.k,.int .i64 v.a.val,.string v.a.tx,.slice v.a.ao v.a.n v.a.cap,.string v.sg,.int .i64 v.b.k,.int .i64 v.b.val,.string v.b.tx,.slice v.b.ao v.b.n v.b.cap,.string v.op,.int .i64 v.c.k,.int .i64 v.c.val,.string v.c.tx,.slice v.c.ao v.c.n v.c.cap]] w fun e w'=>e= .returned (.string ⟨(Zf.mZ A v.sg.toList B v.op.toList C).toArray⟩)∧Below w.heap.size w w':=by
 obtain⟨⟨ak0,av0,ax0,ao0,an0,ac0⟩,⟨bk0,bv0,bx0,bo0,bn0,bc0⟩,⟨ck0,cv0,cx0,co0,cn0,cc0⟩,sg,op⟩:=v
 dsimp only at*
 have hb0:=(Below.refl w.heap.size w).alloc (Nat.le_refl _) (.cells #[.int .i64 ak0,.int .i64 av0,.string ax0,.slice ao0 an0 ac0,.string sg,.int .i64 bk0,.int .i64 bv0,.string bx0,.slice bo0 bn0 bc0,.string op,.int .i64 ck0,.int .i64 cv0,.string cx0,.slice co0 cn0 cc0] 125)
 have dN:=heap_alloc_new w (.cells #[.int .i64 ak0,.int .i64 av0,.string ax0,.slice ao0 an0 ac0,.string sg,.int .i64 bk0,.int .i64 bv0,.string bx0,.slice bo0 bn0 bc0,.string op,.int .i64 ck0,.int .i64 cv0,.string cx0,.slice co0 cn0 cc0] 125)
 have aS:=hide hb0
 have jZ:=hide dN
 have JH:=hide (IA _ hb0)
 clear hb0 dN IA
 by_cases h1:sg.toList=[]
 ·have HF:=hide (show Zf.mZ A sg.toList B op.toList C=A by unfold Zf.mZ;rw[if_pos h1])
  have t1:(sg.toList == [])=true:=by rw[h1];rfl
  clear IB IC h1
  go_enter Tryz.func75,Tryz.ntmps75
  go_wp2_with fail
  refine(ae JH).mono ?_
  rintro e w1 ⟨rfl,hb1⟩
  have ng:=(hb1.block w.heap.size (by simp)).trans (ae jZ)
  have r1:=ah ng 4
  have z1:=af ng
  simp only[List.getElem?_toArray,List.getElem?_cons_zero,List.getElem?_cons_succ]at r1
  have bC:=hide ((ae aS).trans (hb1.mono (ae aS).size))
  clear hb1 ng
  go_wp2_with fail
  go_ret
  exact⟨by rw[ae HF];rfl,ae bC⟩
 ·have t1:(sg.toList == [])=false:=by simpa using h1
  have jL:=hide (eU (rfl:sg.toList=sg.toList))
  have Ve:=hide (IB h1)
  by_cases h2:op.toList=[]
  ·have HF:=hide (show Zf.mZ A sg.toList B op.toList C=A++(sg.toList++B)++[]by unfold Zf.mZ;rw[if_neg h1,if_pos h2])
   have t2:(op.toList == [])=true:=by rw[h2];rfl
   clear IB IC h1 h2
   go_enter Tryz.func75,Tryz.ntmps75
   go_wp2_with fail
   refine(ae JH).mono ?_
   rintro e w1 ⟨rfl,hb1⟩
   have ng:=(hb1.block w.heap.size (by simp)).trans (ae jZ)
   have r1:=ah ng
   have z1:=af ng
   have tR:=(ae aS).trans (hb1.mono (ae aS).size)
   have bC:=hide tR
   have Mm:=hide ng
   clear hb1 ng tR
   go_wp2_with fail
   refine(ae Ve _ (ae bC)).mono ?_
   rintro e w2 ⟨rfl,hb2⟩
   have tS:=(hb2.block w.heap.size z1).trans (ae Mm)
   have r2:=ah tS
   have z2:=af tS
   have aP:=hide ((ae bC).trans (hb2.mono (ae bC).size))
   clear hb2 tS r1 z1
   go_wp2_with fail
   go_ret
   refine⟨?_,ae aP⟩
   rw[ae HF,←V3,←ae jL]
   rfl
  ·have HF:=hide (show Zf.mZ A sg.toList B op.toList C=A++(sg.toList++B)++(op.toList++C)by unfold Zf.mZ;rw[if_neg h1,if_neg h2])
   have t2:(op.toList == [])=false:=by simpa using h2
   have Rp:=hide (eU (rfl:op.toList=op.toList))
   have Yl:=hide (IC h1 h2)
   clear IB IC h1 h2
   go_enter Tryz.func75,Tryz.ntmps75
   go_wp2_with fail
   refine(ae JH).mono ?_
   rintro e w1 ⟨rfl,hb1⟩
   have ng:=(hb1.block w.heap.size (by simp)).trans (ae jZ)
   have r1:=ah ng
   have z1:=af ng
   have tR:=(ae aS).trans (hb1.mono (ae aS).size)
   have bC:=hide tR
   have Mm:=hide ng
   clear hb1 ng tR
   go_wp2_with fail
   refine(ae Ve _ (ae bC)).mono ?_
   rintro e w2 ⟨rfl,hb2⟩
   have tS:=(hb2.block w.heap.size z1).trans (ae Mm)
   have r2:=ah tS
   have z2:=af tS
   have Sa:=(ae bC).trans (hb2.mono (ae bC).size)
   have aP:=hide Sa
   have WQ:=hide tS
   clear hb2 tS r1 z1 Sa
   go_wp2_with fail
   refine(ae Yl _ (ae aP)).mono ?_
   rintro e w3 ⟨rfl,hb3⟩
   have Mn:=(hb3.block w.heap.size z2).trans (ae WQ)
   have r3:=ah Mn
   have z3:=af Mn
   have bu:=hide ((ae aP).trans (hb3.mono (ae aP).size))
   clear hb3 Mn r2 z2
   go_wp2_with fail
   go_ret
   refine⟨?_,ae bu⟩
   rw[ae HF,←V4,←ae jL,←ae Rp]
   rfl
def iC (T:Nat→Zf.U) (N:List Zf.Vr) (x:Int):List Zf.Vr:=if x= -1 then N else Zf.aZ N (T x.toNat)
def Ym (T:Nat→Zf.U) (nb:Nat) (N:List Nat) (mo:Option Addr) (x:Int) (w:World) (e:Ending) (w':World):Prop:=∃(a:AV) (N':List Nat) (mo':Option Addr) (mc':Nat),e= .returned (.agg #[.int .i64 a.k,.int .i64 a.val,.string a.tx,.slice a.ao a.n a.cap])∧fk w' nb N' mo' mc'∧Zf.bt N'=iC T (Zf.bt N) x∧(x≠-1→RV 1000 (Zf.bt N') (fun g=>w.heap.size≤g) w' a (T x.toNat))∧aq (br nb mo) (br nb mo') w w'
theorem NY (w:World) (mb:Nat) (cs:Array Value) (D:List Ng) (nO:Option Addr) (nC:Nat) (fr:Nat→Nat) (T:Nat→Zf.U) (nb:Nat) (N:List Nat) (mo:Option Addr) (mc:Nat) (x:Int) (hs:bG w mb 1 cs 88 D nO nC) (ok:bZ D fr) (fD:Zf.dI (aX D) fr T) (hn:fk w nb N mo mc) (har:aY w D (fun g=>¬br nb mo g)) (hx:pC D.length x) (hsz:x≠-1→Zf.size (T x.toNat)≤1000) (hN:N.length≤900000):
 Calls Tryz.prog 72 #[.pointer (some ⟨mb,1,none⟩),.int .i64 x,.pointer (some ⟨nb,0,none⟩)] w fun e w'=>Ym T nb N mo x w e w':=by
 rcases hx with rfl | ⟨n,rfl,hl⟩
 ·refine(Ju w mb 1 nb cs _ D nO nC hs).mono ?_
  rintro e w' ⟨rfl,hb⟩
  exact⟨⟨0,0,⟨#[]⟩,none,0,0⟩,N,mo,mc,rfl,hn.below hb,by unfold iC;rw[if_pos rfl],fun q=>absurd rfl q,aq.of_below hb⟩
 ·have hne:((n:Int))≠-1:=by omega
  have hz:=hsz hne
  have e0:((n:Int)).toNat=n:=by simp
  rw[e0]at hz
  refine(tree_all 1000 w mb 1 cs _ D nO nC fr n (T n) nb N mo mc hs (by decide) (by decide) ok hn har hl (fD.tr n) hz (by omega)).mono ?_
  rintro e w' ⟨a,N',mo',mc',rfl,h1,h2,h3,h4⟩
  refine⟨a,N',mo',mc',rfl,h1,by unfold iC;rw[if_neg hne,e0];exact h2,fun _=> ?_,h4⟩
  rw[e0]
  exact h3
theorem q8 (u:Zf.U):∀N,∃K,Zf.aZ N u=N++K:=by
 revert u
 refine Zf.U.ind (fun x N=> ?_) (fun k tx num ss ih N=> ?_)
 ·show∃K,Zf.kZ N x=N++K
  unfold Zf.kZ
  split
  ·exact⟨[],by simp⟩
  ·exact⟨[x],rfl⟩
 ·rw[Zf.gS]
  induction ss generalizing N with
  | nil=>exact⟨[],by simp⟩
  | cons a ss ihs=>
   obtain⟨K1,h1⟩:=ih a (by simp) N
   obtain⟨K2,h2⟩:=ihs (fun b hb=>ih b (by simp[hb])) (Zf.aZ N a)
   exact⟨K1++K2,by rw[List.foldl_cons,h2,h1,List.append_assoc]⟩
theorem EH (T:Nat→Zf.U) (N:List Zf.Vr) (x:Int):∃K,iC T N x=N++K:=by
 unfold iC
 split
 ·exact⟨[],by simp⟩
 ·exact q8 _ _
theorem iT (u:Zf.U):∀N,(Zf.aZ N u).length≤N.length+Zf.size u:=by
 revert u
 refine Zf.U.ind (fun x N=> ?_) (fun k tx num ss ih N=> ?_)
 ·show (Zf.kZ N x).length≤_
  unfold Zf.kZ
  rw[Zf.size]
  split
  ·omega
  ·simp
 ·rw[Zf.gS,Zf.size]
  have key:∀(ss:List Zf.U) N,(∀a∈ss,∀N,(Zf.aZ N a).length≤N.length+Zf.size a)→(ss.foldl Zf.aZ N).length≤N.length+Zf.sizeL ss:=by
   intro ss
   induction ss with
   | nil=>intro N _;simp
   | cons a ss ihs=>
    intro N h
    have h1:=h a (by simp) N
    have h2:=ihs (Zf.aZ N a) (fun b hb=>h b (by simp[hb]))
    rw[List.foldl_cons,Zf.sizeL]
    omega
  have:=key ss N ih
  omega
theorem RV.fr {f:Nat} {N:List Zf.Vr} {P:Nat→Prop} {w w':World} {a:AV} {u:Zf.U} (h:RV f N P w a u) {nb:Nat} {M:List Nat} {mo:Option Addr} {mc:Nat} (hn:fk w nb M mo mc) {R':Nat→Prop} (hf:aq (br nb mo) R' w w'):RV f N P w' a u:=h.keep fun g _ hp hg=>⟨(hf.block g (af hg) (hn.apart hg (by decide) (by decide))).trans hg,hp⟩
theorem fk.nT {w:World} {nb:Nat} {N:List Nat} {mo:Option Addr} {mc:Nat} (h:fk w nb N mo mc) {b:Nat} {ys:Array Value} (hb:w.heap[b]?=some (.cells ys 74 (0,0))) (c:Nat) (v:Value):fk (w.setCell ⟨b,c,none⟩ v) nb N mo mc:=
 ⟨(aC _ _ _ _ (fun e=>by have:=h.blk;rw[e,hb]at this;simp only[Option.some.injEq,Obj.cells.injEq]at this;exact absurd this.2.1 (by decide))).trans h.blk,ai h.own fun g q=>aC _ _ _ _ (fun e=>by
   obtain⟨cur,hc⟩:=aH h.own (aG q)
   rw[e,hb]at hc
   simp only[Option.some.injEq,Obj.cells.injEq]at hc
   exact absurd hc.2.1 (by decide))⟩
def SR (T:Nat→Zf.U) (nb:Nat) (x:Int) (W:World) (N1:List Nat) (mo1:Option Addr) (lv:Value) (wx:World):Prop:=∃(a:AV) (b:Nat) (N2:List Nat) (mo2:Option Addr) (mc2:Nat),lv= .pointer (some ⟨b,0,none⟩)∧aq (br nb mo1) (br nb mo2) W wx∧fk wx nb N2 mo2 mc2∧Zf.bt N2=iC T (Zf.bt N1) x∧(x≠-1→RV 1000 (Zf.bt N2) anyA wx a (T x.toNat))∧wx.heap[b]?=some (.cells #[.int .i64 a.k,.int .i64 a.val,.string a.tx,.slice a.ao a.n a.cap] 74 (0,0))
def Vf (T:Nat→Zf.U) (nb:Nat) (N:List Nat) (mo:Option Addr) (g:Gl) (w:World) (e:Ending) (w':World):Prop:=∃(a b c:AV) (N':List Nat) (mo':Option Addr) (mc':Nat),e= .returned (.agg #[.int .i64 a.k,.int .i64 a.val,.string a.tx,.slice a.ao a.n a.cap,.string g.sg,.int .i64 b.k,.int .i64 b.val,.string b.tx,.slice b.ao b.n b.cap,.string g.op,.int .i64 c.k,.int .i64 c.val,.string c.tx,.slice c.ao c.n c.cap])∧fk w' nb N' mo' mc'∧Zf.bt N'=iC T (iC T (iC T (Zf.bt N) (g.l:Int)) g.r) g.z∧RV 1000 (Zf.bt N') anyA w' a (T g.l)∧(g.r≠-1→RV 1000 (Zf.bt N') anyA w' b (T g.r.toNat))∧(g.z≠-1→RV 1000 (Zf.bt N') anyA w' c (T g.z.toNat))∧aq (br nb mo) (br nb mo') w w'
theorem fk.other {w w':World} {nb:Nat} {N:List Nat} {mo:Option Addr} {mc:Nat} (h:fk w nb N mo mc) {b:Nat} {ys:Array Value} {Y:TypeId} (hb:w.heap[b]?=some (.cells ys Y (0,0))) (h1:Y≠136) (h2:Y≠3) (hk:∀k,k≠b→w'.heap[k]?=w.heap[k]?):fk w' nb N mo mc:=by
 have key:∀k,br nb mo k→w'.heap[k]?=w.heap[k]?:=fun k q=>hk k (fun e=>h.apart hb h1 h2 (e ▸ q))
 exact⟨(key nb (Or.inl rfl)).trans h.blk,ai h.own fun g q=>key g (Or.inr (aG q))⟩
theorem Sb {T:Nat→Zf.U} {nb:Nat} {N N1 N2 N3:List Nat} {mo mo3:Option Addr} {mc3 l nc:Nat} {sg op:ByteArray} {r z:Int} {wt:Bool} {no:Option Addr} {nd:List Nat} {w W3:World} {ak1 av1 ak2 av2 ak3 av3:Int} {ax1 ax2 ax3:ByteArray} {ao1 ao2 ao3:Option Addr} {an1 ac1 an2 ac2 an3 ac3:Nat} {ys:Array Value} (hf:aq (br nb mo) (br nb mo3) w W3) (hn:fk W3 nb N3 mo3 mc3) (hrx:W3.heap[w.heap.size+1]?=some (.cells ys 125 (0,0))) (hv:Zf.bt N3=iC T (iC T (iC T (Zf.bt N) (l:Int)) r) z) (hv2:Zf.bt N2=iC T (Zf.bt N1) r) (hv3:Zf.bt N3=iC T (Zf.bt N2) z) (h1:(l:Int)≠-1→RV 1000 (Zf.bt N1) anyA W3 ⟨ak1,av1,ax1,ao1,an1,ac1⟩ (T (l:Int).toNat)) (h2:r≠-1→RV 1000 (Zf.bt N2) anyA W3 ⟨ak2,av2,ax2,ao2,an2,ac2⟩ (T r.toNat)) (h3:z≠-1→RV 1000 (Zf.bt N3) anyA W3 ⟨ak3,av3,ax3,ao3,an3,ac3⟩ (T z.toNat)):
 Vf T nb N mo ⟨l,sg,r,op,z,wt,no,nc,nd⟩ w (.returned (.agg #[.int .i64 ak1,.int .i64 av1,.string ax1,.slice ao1 an1 ac1,.string sg,.int .i64 ak2,.int .i64 av2,.string ax2,.slice ao2 an2 ac2,.string op,.int .i64 ak3,.int .i64 av3,.string ax3,.slice ao3 an3 ac3])) (((((((((((((((W3).setCell ⟨w.heap.size+1,0,none⟩ (.int .i64 ak1)).setCell ⟨w.heap.size+1,1,none⟩ (.int .i64 av1)).setCell ⟨w.heap.size+1,2,none⟩ (.string ax1)).setCell ⟨w.heap.size+1,3,none⟩ (.slice ao1 an1 ac1)).setCell ⟨w.heap.size+1,4,none⟩ (.string sg)).setCell ⟨w.heap.size+1,5,none⟩ (.int .i64 ak2)).setCell ⟨w.heap.size+1,6,none⟩ (.int .i64 av2)).setCell ⟨w.heap.size+1,7,none⟩ (.string ax2)).setCell ⟨w.heap.size+1,8,none⟩ (.slice ao2 an2 ac2)).setCell ⟨w.heap.size+1,9,none⟩ (.string op)).setCell ⟨w.heap.size+1,10,none⟩ (.int .i64 ak3)).setCell ⟨w.heap.size+1,11,none⟩ (.int .i64 av3)).setCell ⟨w.heap.size+1,12,none⟩ (.string ax3)).setCell ⟨w.heap.size+1,13,none⟩ (.slice ao3 an3 ac3)):=by
 have hk:∀k,k≠w.heap.size+1→(((((((((((((((W3).setCell ⟨w.heap.size+1,0,none⟩ (.int .i64 ak1)).setCell ⟨w.heap.size+1,1,none⟩ (.int .i64 av1)).setCell ⟨w.heap.size+1,2,none⟩ (.string ax1)).setCell ⟨w.heap.size+1,3,none⟩ (.slice ao1 an1 ac1)).setCell ⟨w.heap.size+1,4,none⟩ (.string sg)).setCell ⟨w.heap.size+1,5,none⟩ (.int .i64 ak2)).setCell ⟨w.heap.size+1,6,none⟩ (.int .i64 av2)).setCell ⟨w.heap.size+1,7,none⟩ (.string ax2)).setCell ⟨w.heap.size+1,8,none⟩ (.slice ao2 an2 ac2)).setCell ⟨w.heap.size+1,9,none⟩ (.string op)).setCell ⟨w.heap.size+1,10,none⟩ (.int .i64 ak3)).setCell ⟨w.heap.size+1,11,none⟩ (.int .i64 av3)).setCell ⟨w.heap.size+1,12,none⟩ (.string ax3)).setCell ⟨w.heap.size+1,13,none⟩ (.slice ao3 an3 ac3)).heap[k]?=W3.heap[k]?:=fun k q=>by
  rw[aC _ _ _ _ q,aC _ _ _ _ q,aC _ _ _ _ q,aC _ _ _ _ q,aC _ _ _ _ q,aC _ _ _ _ q,aC _ _ _ _ q,aC _ _ _ _ q,aC _ _ _ _ q,aC _ _ _ _ q,aC _ _ _ _ q,aC _ _ _ _ q,aC _ _ _ _ q,aC _ _ _ _ q]
 obtain⟨K2,e2⟩:=EH T (Zf.bt N1) r
 obtain⟨K3,e3⟩:=EH T (Zf.bt N2) z
 have keep:∀{f:Nat} {M:List Zf.Vr} {a:AV} {u:Zf.U},RV f M anyA W3 a u→RV f M anyA (((((((((((((((W3).setCell ⟨w.heap.size+1,0,none⟩ (.int .i64 ak1)).setCell ⟨w.heap.size+1,1,none⟩ (.int .i64 av1)).setCell ⟨w.heap.size+1,2,none⟩ (.string ax1)).setCell ⟨w.heap.size+1,3,none⟩ (.slice ao1 an1 ac1)).setCell ⟨w.heap.size+1,4,none⟩ (.string sg)).setCell ⟨w.heap.size+1,5,none⟩ (.int .i64 ak2)).setCell ⟨w.heap.size+1,6,none⟩ (.int .i64 av2)).setCell ⟨w.heap.size+1,7,none⟩ (.string ax2)).setCell ⟨w.heap.size+1,8,none⟩ (.slice ao2 an2 ac2)).setCell ⟨w.heap.size+1,9,none⟩ (.string op)).setCell ⟨w.heap.size+1,10,none⟩ (.int .i64 ak3)).setCell ⟨w.heap.size+1,11,none⟩ (.int .i64 av3)).setCell ⟨w.heap.size+1,12,none⟩ (.string ax3)).setCell ⟨w.heap.size+1,13,none⟩ (.slice ao3 an3 ac3)) a u:=fun {f M a u} q=>q.keep fun g _ _ hg=>⟨(hk g (fun e=>by rw[e,hrx]at hg;simp only[Option.some.injEq,Obj.cells.injEq]at hg;exact absurd hg.2.1 (by decide))).trans hg,trivial⟩
 refine⟨⟨ak1,av1,ax1,ao1,an1,ac1⟩,⟨ak2,av2,ax2,ao2,an2,ac2⟩,⟨ak3,av3,ax3,ao3,an3,ac3⟩,N3,mo3,mc3,rfl,hn.other hrx (by decide) (by decide) hk,hv,?_,fun q=> ?_,fun q=>keep (h3 q),((((((((((((((hf).eN (Nat.le_succ _) 0 _).eN (Nat.le_succ _) 1 _).eN (Nat.le_succ _) 2 _).eN (Nat.le_succ _) 3 _).eN (Nat.le_succ _) 4 _).eN (Nat.le_succ _) 5 _).eN (Nat.le_succ _) 6 _).eN (Nat.le_succ _) 7 _).eN (Nat.le_succ _) 8 _).eN (Nat.le_succ _) 9 _).eN (Nat.le_succ _) 10 _).eN (Nat.le_succ _) 11 _).eN (Nat.le_succ _) 12 _).eN (Nat.le_succ _) 13 _⟩
 ·have:=keep (h1 (by omega))
  have e0:((l:Int)).toNat=l:=by simp
  rw[e0]at this
  have t:=(this.more K2).more K3
  rwa [←e2,←hv2,←e3,←hv3]at t
 ·have t:=(keep (h2 q)).more K3
  rwa [←e3,←hv3]at t
theorem JI (w:World) (mb:Nat) (cs:Array Value) (D:List Ng) (nO:Option Addr) (nC:Nat) (fr:Nat→Nat) (T:Nat→Zf.U) (nb:Nat) (N:List Nat) (mo:Option Addr) (mc:Nat) (g:Gl) (hs:bG w mb 1 cs 88 D nO nC) (ok:bZ D fr) (fD:Zf.dI (aX D) fr T) (hn:fk w nb N mo mc) (har:aY w D (fun g=>¬br nb mo g)) (hl:g.l<D.length) (hr:pC D.length g.r) (hz:pC D.length g.z) (hsz:∀x:Int,x=(g.l:Int)∨x=g.r∨x=g.z→x≠-1→Zf.size (T x.toNat)≤1000) (hN:N.length≤800000):
 Calls Tryz.prog 74 #[.pointer (some ⟨mb,0,none⟩),.agg #[.int .i64 (g.l:Int),.string g.sg,.int .i64 g.r,.string g.op,.int .i64 g.z,.bool g.wt,.slice g.no g.nd.length g.nc],.pointer (some ⟨nb,0,none⟩)] w fun e w'=>Vf T nb N mo g w e w':=by
 obtain⟨l,sg,r,op,z,wt,no,nc,nd⟩:=g
 dsimp only at*
 have IT:=hide (fun(x:Int) (N1:List Nat) (mo1:Option Addr) (mc1:Nat) (W:World) (hf:aq (br nb mo) (br nb mo1) w W) (sV:fk W nb N1 mo1 mc1) (hx:pC D.length x) (hq:x≠-1→Zf.size (T x.toNat)≤1000) (jE:N1.length≤900000)=>NY W mb cs D nO nC fr T nb N1 mo1 mc1 x (hs.Iq hn (by decide) (by decide) hf) ok fD sV (har.Iq hf) hx hq jE)
 have xg:=hide (show pC D.length (l:Int)from Or.inr ⟨l,rfl,hl⟩)
 have Yn:=hide hr
 have Yo:=hide hz
 have jv:=hide hsz
 have mz:=af hs.blk
 have hb0:=((Below.refl w.heap.size w).alloc (Nat.le_refl _) (.cells #[.int .i64 (l:Int),.string sg,.int .i64 r,.string op,.int .i64 z,.bool wt,.slice no nd.length nc] 133)).alloc (by simp) (.cells #[.int .i64 0,.int .i64 0,.string ⟨#[]⟩,.slice none 0 0,.string ⟨#[]⟩,.int .i64 0,.int .i64 0,.string ⟨#[]⟩,.slice none 0 0,.string ⟨#[]⟩,.int .i64 0,.int .i64 0,.string ⟨#[]⟩,.slice none 0 0] 125)
 have hgx:=aA (heap_alloc_new w (.cells #[.int .i64 (l:Int),.string sg,.int .i64 r,.string op,.int .i64 z,.bool wt,.slice no nd.length nc] 133)) (.cells #[.int .i64 0,.int .i64 0,.string ⟨#[]⟩,.slice none 0 0,.string ⟨#[]⟩,.int .i64 0,.int .i64 0,.string ⟨#[]⟩,.slice none 0 0,.string ⟨#[]⟩,.int .i64 0,.int .i64 0,.string ⟨#[]⟩,.slice none 0 0] 125)
 have hrx:=heap_alloc_new (w.alloc (.cells #[.int .i64 (l:Int),.string sg,.int .i64 r,.string op,.int .i64 z,.bool wt,.slice no nd.length nc] 133)) (.cells #[.int .i64 0,.int .i64 0,.string ⟨#[]⟩,.slice none 0 0,.string ⟨#[]⟩,.int .i64 0,.int .i64 0,.string ⟨#[]⟩,.slice none 0 0,.string ⟨#[]⟩,.int .i64 0,.int .i64 0,.string ⟨#[]⟩,.slice none 0 0] 125)
 rw[World.size_alloc]at hrx
 have Y9:=hide hn
 have HLEN:=hide (show∀(N1:List Nat) (x:Int) (N2:List Nat),Zf.bt N2=iC T (Zf.bt N1) x→(x≠-1→Zf.size (T x.toNat)≤1000)→N2.length≤N1.length+1000 from fun N1 x N2 he hq=>by
  have e1:(Zf.bt N2).length=N2.length:=by unfold Zf.bt;simp
  have e2:(Zf.bt N1).length=N1.length:=by unfold Zf.bt;simp
  rw[←e1,he,←e2]
  unfold iC
  split
  ·omega
  ·rename_i hne
   exact Nat.le_trans (iT _ _) (by have:=hq hne;omega))
 have Sc:aq (br nb mo) (br nb mo) w ((w.alloc (.cells #[.int .i64 (l:Int),.string sg,.int .i64 r,.string op,.int .i64 z,.bool wt,.slice no nd.length nc] 133)).alloc (.cells #[.int .i64 0,.int .i64 0,.string ⟨#[]⟩,.slice none 0 0,.string ⟨#[]⟩,.int .i64 0,.int .i64 0,.string ⟨#[]⟩,.slice none 0 0,.string ⟨#[]⟩,.int .i64 0,.int .i64 0,.string ⟨#[]⟩,.slice none 0 0] 125)):=aq.of_below hb0
 have Sd:=hn.below hb0
 have hz0:w.heap.size+2≤((w.alloc (.cells #[.int .i64 (l:Int),.string sg,.int .i64 r,.string op,.int .i64 z,.bool wt,.slice no nd.length nc] 133)).alloc (.cells #[.int .i64 0,.int .i64 0,.string ⟨#[]⟩,.slice none 0 0,.string ⟨#[]⟩,.int .i64 0,.int .i64 0,.string ⟨#[]⟩,.slice none 0 0,.string ⟨#[]⟩,.int .i64 0,.int .i64 0,.string ⟨#[]⟩,.slice none 0 0] 125)).heap.size:=by simp
 go_enter Tryz.func74,Tryz.ntmps74
 go_upto_region 1 with fail
 generalize hW0:((w.alloc (.cells #[.int .i64 (l:Int),.string sg,.int .i64 r,.string op,.int .i64 z,.bool wt,.slice no nd.length nc] 133)).alloc (.cells #[.int .i64 0,.int .i64 0,.string ⟨#[]⟩,.slice none 0 0,.string ⟨#[]⟩,.int .i64 0,.int .i64 0,.string ⟨#[]⟩,.slice none 0 0,.string ⟨#[]⟩,.int .i64 0,.int .i64 0,.string ⟨#[]⟩,.slice none 0 0] 125))=W0 at*
 have x0:=ah hgx 0
 have gz:=af hgx
 simp only[List.getElem?_toArray,List.getElem?_cons_zero]at x0
 have nL:=hide hgx
 have mB:=hide hrx
 have Mo:=hide Sc
 have CS:=hide Sd
 clear hs ok fD hn har hl hr hz hsz hb0 hgx hrx Sc Sd hW0
 go_cut [7] (fun lv wx=>SR T nb (l:Int) W0 N mo lv wx)
 case first=>
  go_region_with (go_at_call 72;refine(ae IT (l:Int) N mo mc _ ((ae Mo).trans (aq.of_below (by first | exact Below.refl _ _ | exact(Below.refl _ _).drew | exact((Below.refl _ _).alloc (Nat.le_refl _) _).drew | exact(Below.refl _ _).alloc (Nat.le_refl _) _))) ((ae CS).below (by first | exact Below.refl _ _ | exact(Below.refl _ _).drew | exact((Below.refl _ _).alloc (Nat.le_refl _) _).drew | exact(Below.refl _ _).alloc (Nat.le_refl _) _)) (ae xg) (ae jv _ (Or.inl rfl)) (by have:=hN;omega)).mono ?_;rintro y w1 ⟨⟨ak,av,ax,ao,an,ac⟩,Nn,mon,mcn,rfl,nm,hv,rv,fg⟩;first | (have ab:=(fg.block W0.heap.size (by simp) (fun q=>by have:=(ae CS).rows _ q;omega)).trans (heap_alloc_new W0 (.cells #[.int .i64 0,.int .i64 0,.string ⟨#[]⟩,.slice none 0 0] 74));have ab0:=ah ab 0;have ab1:=ah ab 1;have ab2:=ah ab 2;have ab3:=ah ab 3;have ay0:=au ab 0;have ay1:=au ab 1;have ay2:=au ab 2;have ay3:=au ab 3;have abz:=af ab;simp only[List.getElem?_toArray,List.getElem?_cons_zero,List.getElem?_cons_succ]at ab0 ab1 ab2 ab3) | skip)
  all_goals
   first
    | (have hab:=aw (aw (aw (aw ab 0 (.int .i64 ak)) 1 (.int .i64 av)) 2 (.string ax)) 3 (.slice ao an ac)
       have fgn:=((((((aq.of_below (R:=br nb mo) (by first | exact Below.refl _ _ | exact(Below.refl _ _).drew | exact((Below.refl _ _).alloc (Nat.le_refl _) _).drew | exact(Below.refl _ _).alloc (Nat.le_refl _) _)).trans fg).eN (Nat.le_refl _) 0 (.int .i64 ak)).eN (Nat.le_refl _) 1 (.int .i64 av)).eN (Nat.le_refl _) 2 (.string ax)).eN (Nat.le_refl _) 3 (.slice ao an ac):aq (br nb mo) (br nb mon) W0 _)
       have nmn:=((((nm.nT ab 0 (.int .i64 ak)).nT (aw ab 0 (.int .i64 ak)) 1 (.int .i64 av)).nT (aw (aw ab 0 (.int .i64 ak)) 1 (.int .i64 av)) 2 (.string ax)).nT (aw (aw (aw ab 0 (.int .i64 ak)) 1 (.int .i64 av)) 2 (.string ax)) 3 (.slice ao an ac))
       have rvn:=(fun q=>(rv q).keep (Q:=anyA) (w':=((((w1.setCell ⟨W0.heap.size,0,none⟩ (.int .i64 ak)).setCell ⟨W0.heap.size,1,none⟩ (.int .i64 av)).setCell ⟨W0.heap.size,2,none⟩ (.string ax)).setCell ⟨W0.heap.size,3,none⟩ (.slice ao an ac))) fun g _ hp hg=>⟨by have hne:g≠W0.heap.size:=(by have:W0.heap.size+1≤g:=(by simpa using hp);omega);rw[aC _ _ _ _ hne,aC _ _ _ _ hne,aC _ _ _ _ hne,aC _ _ _ _ hne];exact hg,trivial⟩))
    | (have hab:=heap_alloc_new w1 (.cells #[.int .i64 ak,.int .i64 av,.string ax,.slice ao an ac] 74)
       have fgn:=(((aq.of_below (R:=br nb mo) (by first | exact Below.refl _ _ | exact(Below.refl _ _).drew | exact((Below.refl _ _).alloc (Nat.le_refl _) _).drew | exact(Below.refl _ _).alloc (Nat.le_refl _) _)).trans fg).trans (aq.of_below ((Below.refl _ _).alloc (Nat.le_refl _) (.cells #[.int .i64 ak,.int .i64 av,.string ax,.slice ao an ac] 74))):aq (br nb mo) (br nb mon) W0 _)
       have nmn:=nm.below ((Below.refl _ _).alloc (Nat.le_refl _) (.cells #[.int .i64 ak,.int .i64 av,.string ax,.slice ao an ac] 74))
       have rvn:=(fun q=>(rv q).keep (Q:=anyA) (w':=w1.alloc (.cells #[.int .i64 ak,.int .i64 av,.string ax,.slice ao an ac] 74)) fun g _ _ hg=>⟨(Below.heap_alloc _ _ _ (af hg)).trans hg,trivial⟩))
   try simp only[List.setIfInBounds_toArray,List.set_cons_zero,List.set_cons_succ]at hab
   go_wp2_with fail
   go_meet
   exact⟨⟨ak,av,ax,ao,an,ac⟩,_,Nn,mon,mcn,rfl,fgn,nmn,hv,rvn,hab⟩
 case rest=>
  obtain⟨⟨ak1,av1,ax1,ao1,an1,ac1⟩,b1,N1,mo1,mc1,rfl,fgn,nmn,hv,rvn,hab⟩:=hcut
  generalize hWc:wc=W1 at*
  clear hWc
  have hgx:=(fgn.block _ (af (ae nL)) ((ae CS).apart (ae nL) (by decide) (by decide))).trans (ae nL)
  have hrx:=(fgn.block _ (af (ae mB)) ((ae CS).apart (ae mB) (by decide) (by decide))).trans (ae mB)
  have HFGn:=hide ((ae Mo).trans fgn)
  have Sg:=hide (show N1.length≤800000+1000 by have:=ae HLEN N (l:Int) N1 hv (ae jv _ (Or.inl rfl));have:=hN;omega)
  have Yp:=hide hv
  clear nL mB Mo CS
  have nL:=hide hgx
  have mB:=hide hrx
  have Mq:=HFGn
  have wy:=hide nmn
  have nU:=hide hab
  have wB:=hide rvn
  have x1:=ah hgx 2
  have gz1:=af hgx
  simp only[List.getElem?_toArray,List.getElem?_cons_zero,List.getElem?_cons_succ]at x1
  clear hab fgn nmn rvn hgx hrx hv x0 HFGn
  go_upto_region 2 with fail
  go_cut [8] (fun lv wx=>SR T nb r W1 N1 mo1 lv wx)
  case first=>
   go_region_with (go_at_call 72;refine(ae IT r N1 mo1 mc1 _ ((ae Mq).trans (aq.of_below (by first | exact Below.refl _ _ | exact(Below.refl _ _).drew | exact((Below.refl _ _).alloc (Nat.le_refl _) _).drew | exact(Below.refl _ _).alloc (Nat.le_refl _) _))) ((ae wy).below (by first | exact Below.refl _ _ | exact(Below.refl _ _).drew | exact((Below.refl _ _).alloc (Nat.le_refl _) _).drew | exact(Below.refl _ _).alloc (Nat.le_refl _) _)) (ae Yn) (ae jv _ (Or.inr (Or.inl rfl))) (by have:=(ae Sg);omega)).mono ?_;rintro y w1 ⟨⟨ak,av,ax,ao,an,ac⟩,Nn,mon,mcn,rfl,nm,hv,rv,fg⟩;first | (have ab:=(fg.block W1.heap.size (by simp) (fun q=>by have:=(ae wy).rows _ q;omega)).trans (heap_alloc_new W1 (.cells #[.int .i64 0,.int .i64 0,.string ⟨#[]⟩,.slice none 0 0] 74));have ab0:=ah ab 0;have ab1:=ah ab 1;have ab2:=ah ab 2;have ab3:=ah ab 3;have ay0:=au ab 0;have ay1:=au ab 1;have ay2:=au ab 2;have ay3:=au ab 3;have abz:=af ab;simp only[List.getElem?_toArray,List.getElem?_cons_zero,List.getElem?_cons_succ]at ab0 ab1 ab2 ab3) | skip)
   all_goals
    first
     | (have hab:=aw (aw (aw (aw ab 0 (.int .i64 ak)) 1 (.int .i64 av)) 2 (.string ax)) 3 (.slice ao an ac)
        have fgn:=((((((aq.of_below (R:=br nb mo1) (by first | exact Below.refl _ _ | exact(Below.refl _ _).drew | exact((Below.refl _ _).alloc (Nat.le_refl _) _).drew | exact(Below.refl _ _).alloc (Nat.le_refl _) _)).trans fg).eN (Nat.le_refl _) 0 (.int .i64 ak)).eN (Nat.le_refl _) 1 (.int .i64 av)).eN (Nat.le_refl _) 2 (.string ax)).eN (Nat.le_refl _) 3 (.slice ao an ac):aq (br nb mo1) (br nb mon) W1 _)
        have nmn:=((((nm.nT ab 0 (.int .i64 ak)).nT (aw ab 0 (.int .i64 ak)) 1 (.int .i64 av)).nT (aw (aw ab 0 (.int .i64 ak)) 1 (.int .i64 av)) 2 (.string ax)).nT (aw (aw (aw ab 0 (.int .i64 ak)) 1 (.int .i64 av)) 2 (.string ax)) 3 (.slice ao an ac))
        have rvn:=(fun q=>(rv q).keep (Q:=anyA) (w':=((((w1.setCell ⟨W1.heap.size,0,none⟩ (.int .i64 ak)).setCell ⟨W1.heap.size,1,none⟩ (.int .i64 av)).setCell ⟨W1.heap.size,2,none⟩ (.string ax)).setCell ⟨W1.heap.size,3,none⟩ (.slice ao an ac))) fun g _ hp hg=>⟨by have hne:g≠W1.heap.size:=(by have:W1.heap.size+1≤g:=(by simpa using hp);omega);rw[aC _ _ _ _ hne,aC _ _ _ _ hne,aC _ _ _ _ hne,aC _ _ _ _ hne];exact hg,trivial⟩))
     | (have hab:=heap_alloc_new w1 (.cells #[.int .i64 ak,.int .i64 av,.string ax,.slice ao an ac] 74)
        have fgn:=(((aq.of_below (R:=br nb mo1) (by first | exact Below.refl _ _ | exact(Below.refl _ _).drew | exact((Below.refl _ _).alloc (Nat.le_refl _) _).drew | exact(Below.refl _ _).alloc (Nat.le_refl _) _)).trans fg).trans (aq.of_below ((Below.refl _ _).alloc (Nat.le_refl _) (.cells #[.int .i64 ak,.int .i64 av,.string ax,.slice ao an ac] 74))):aq (br nb mo1) (br nb mon) W1 _)
        have nmn:=nm.below ((Below.refl _ _).alloc (Nat.le_refl _) (.cells #[.int .i64 ak,.int .i64 av,.string ax,.slice ao an ac] 74))
        have rvn:=(fun q=>(rv q).keep (Q:=anyA) (w':=w1.alloc (.cells #[.int .i64 ak,.int .i64 av,.string ax,.slice ao an ac] 74)) fun g _ _ hg=>⟨(Below.heap_alloc _ _ _ (af hg)).trans hg,trivial⟩))
    try simp only[List.setIfInBounds_toArray,List.set_cons_zero,List.set_cons_succ]at hab
    go_wp2_with fail
    go_meet
    exact⟨⟨ak,av,ax,ao,an,ac⟩,_,Nn,mon,mcn,rfl,fgn,nmn,hv,rvn,hab⟩
  case rest=>
   obtain⟨⟨ak2,av2,ax2,ao2,an2,ac2⟩,b2,N2,mo2,mc2,rfl,fgn,nmn,hv,rvn,hab⟩:=hcut
   generalize hWc:wc=W2 at*
   clear hWc
   have hgx:=(fgn.block _ (af (ae nL)) ((ae wy).apart (ae nL) (by decide) (by decide))).trans (ae nL)
   have hrx:=(fgn.block _ (af (ae mB)) ((ae wy).apart (ae mB) (by decide) (by decide))).trans (ae mB)
   have CT:=(fgn.block _ (af (ae nU)) ((ae wy).apart (ae nU) (by decide) (by decide))).trans (ae nU)
   have rv1:=(fun q=>((ae wB) q).fr (ae wy) fgn)
   clear nU wB
   have nU:=hide CT
   have wB:=hide rv1
   clear CT rv1
   have HFGn:=hide ((ae Mq).trans fgn)
   have Gg:=hide (show N2.length≤800000+2000 by have:=ae HLEN N1 r N2 hv (ae jv _ (Or.inr (Or.inl rfl)));have:=(ae Sg);omega)
   have zC:=hide hv
   clear nL mB Mq wy
   have nL:=hide hgx
   have mB:=hide hrx
   have Mr:=HFGn
   have rD:=hide nmn
   have wC:=hide hab
   have GJ:=hide rvn
   have x2:=ah hgx 4
   have gz2:=af hgx
   simp only[List.getElem?_toArray,List.getElem?_cons_zero,List.getElem?_cons_succ]at x2
   clear hab fgn nmn rvn hgx hrx hv x1 HFGn
   go_upto_region 3 with fail
   go_cut [9] (fun lv wx=>SR T nb z W2 N2 mo2 lv wx)
   case first=>
    go_region_with (go_at_call 72;refine(ae IT z N2 mo2 mc2 _ ((ae Mr).trans (aq.of_below (by first | exact Below.refl _ _ | exact(Below.refl _ _).drew | exact((Below.refl _ _).alloc (Nat.le_refl _) _).drew | exact(Below.refl _ _).alloc (Nat.le_refl _) _))) ((ae rD).below (by first | exact Below.refl _ _ | exact(Below.refl _ _).drew | exact((Below.refl _ _).alloc (Nat.le_refl _) _).drew | exact(Below.refl _ _).alloc (Nat.le_refl _) _)) (ae Yo) (ae jv _ (Or.inr (Or.inr rfl))) (by have:=(ae Gg);omega)).mono ?_;rintro y w1 ⟨⟨ak,av,ax,ao,an,ac⟩,Nn,mon,mcn,rfl,nm,hv,rv,fg⟩;first | (have ab:=(fg.block W2.heap.size (by simp) (fun q=>by have:=(ae rD).rows _ q;omega)).trans (heap_alloc_new W2 (.cells #[.int .i64 0,.int .i64 0,.string ⟨#[]⟩,.slice none 0 0] 74));have ab0:=ah ab 0;have ab1:=ah ab 1;have ab2:=ah ab 2;have ab3:=ah ab 3;have ay0:=au ab 0;have ay1:=au ab 1;have ay2:=au ab 2;have ay3:=au ab 3;have abz:=af ab;simp only[List.getElem?_toArray,List.getElem?_cons_zero,List.getElem?_cons_succ]at ab0 ab1 ab2 ab3) | skip)
    all_goals
     first
      | (have hab:=aw (aw (aw (aw ab 0 (.int .i64 ak)) 1 (.int .i64 av)) 2 (.string ax)) 3 (.slice ao an ac)
         have fgn:=((((((aq.of_below (R:=br nb mo2) (by first | exact Below.refl _ _ | exact(Below.refl _ _).drew | exact((Below.refl _ _).alloc (Nat.le_refl _) _).drew | exact(Below.refl _ _).alloc (Nat.le_refl _) _)).trans fg).eN (Nat.le_refl _) 0 (.int .i64 ak)).eN (Nat.le_refl _) 1 (.int .i64 av)).eN (Nat.le_refl _) 2 (.string ax)).eN (Nat.le_refl _) 3 (.slice ao an ac):aq (br nb mo2) (br nb mon) W2 _)
         have nmn:=((((nm.nT ab 0 (.int .i64 ak)).nT (aw ab 0 (.int .i64 ak)) 1 (.int .i64 av)).nT (aw (aw ab 0 (.int .i64 ak)) 1 (.int .i64 av)) 2 (.string ax)).nT (aw (aw (aw ab 0 (.int .i64 ak)) 1 (.int .i64 av)) 2 (.string ax)) 3 (.slice ao an ac))
         have rvn:=(fun q=>(rv q).keep (Q:=anyA) (w':=((((w1.setCell ⟨W2.heap.size,0,none⟩ (.int .i64 ak)).setCell ⟨W2.heap.size,1,none⟩ (.int .i64 av)).setCell ⟨W2.heap.size,2,none⟩ (.string ax)).setCell ⟨W2.heap.size,3,none⟩ (.slice ao an ac))) fun g _ hp hg=>⟨by have hne:g≠W2.heap.size:=(by have:W2.heap.size+1≤g:=(by simpa using hp);omega);rw[aC _ _ _ _ hne,aC _ _ _ _ hne,aC _ _ _ _ hne,aC _ _ _ _ hne];exact hg,trivial⟩))
      | (have hab:=heap_alloc_new w1 (.cells #[.int .i64 ak,.int .i64 av,.string ax,.slice ao an ac] 74)
         have fgn:=(((aq.of_below (R:=br nb mo2) (by first | exact Below.refl _ _ | exact(Below.refl _ _).drew | exact((Below.refl _ _).alloc (Nat.le_refl _) _).drew | exact(Below.refl _ _).alloc (Nat.le_refl _) _)).trans fg).trans (aq.of_below ((Below.refl _ _).alloc (Nat.le_refl _) (.cells #[.int .i64 ak,.int .i64 av,.string ax,.slice ao an ac] 74))):aq (br nb mo2) (br nb mon) W2 _)
         have nmn:=nm.below ((Below.refl _ _).alloc (Nat.le_refl _) (.cells #[.int .i64 ak,.int .i64 av,.string ax,.slice ao an ac] 74))
         have rvn:=(fun q=>(rv q).keep (Q:=anyA) (w':=w1.alloc (.cells #[.int .i64 ak,.int .i64 av,.string ax,.slice ao an ac] 74)) fun g _ _ hg=>⟨(Below.heap_alloc _ _ _ (af hg)).trans hg,trivial⟩))
     try simp only[List.setIfInBounds_toArray,List.set_cons_zero,List.set_cons_succ]at hab
     go_wp2_with fail
     go_meet
     exact⟨⟨ak,av,ax,ao,an,ac⟩,_,Nn,mon,mcn,rfl,fgn,nmn,hv,rvn,hab⟩
   case rest=>
    obtain⟨⟨ak3,av3,ax3,ao3,an3,ac3⟩,b3,N3,mo3,mc3,rfl,fgn,nmn,hv,rvn,hab⟩:=hcut
    generalize hWc:wc=W3 at*
    clear hWc
    have hgx:=(fgn.block _ (af (ae nL)) ((ae rD).apart (ae nL) (by decide) (by decide))).trans (ae nL)
    have hrx:=(fgn.block _ (af (ae mB)) ((ae rD).apart (ae mB) (by decide) (by decide))).trans (ae mB)
    have CT:=(fgn.block _ (af (ae nU)) ((ae rD).apart (ae nU) (by decide) (by decide))).trans (ae nU)
    have rv1:=(fun q=>((ae wB) q).fr (ae rD) fgn)
    clear nU wB
    have nU:=hide CT
    have wB:=hide rv1
    clear CT rv1
    have Sh:=(fgn.block _ (af (ae wC)) ((ae rD).apart (ae wC) (by decide) (by decide))).trans (ae wC)
    have rv2:=(fun q=>((ae GJ) q).fr (ae rD) fgn)
    clear wC GJ
    have wC:=hide Sh
    have GJ:=hide rv2
    clear Sh rv2
    have HFGn:=hide ((ae Mr).trans fgn)
    have YY:=hide (show N3.length≤800000+3000 by have:=ae HLEN N2 z N3 hv (ae jv _ (Or.inr (Or.inr rfl)));have:=(ae Gg);omega)
    have Vg:=hide hv
    clear nL mB Mr rD
    have nL:=hide hgx
    have mB:=hide hrx
    have WR:=HFGn
    have WS:=hide nmn
    have Si:=hide hab
    have WT:=hide rvn
    have x3:=ah hgx 1
    have gz3:=af hgx
    simp only[List.getElem?_toArray,List.getElem?_cons_zero,List.getElem?_cons_succ]at x3
    clear hab fgn nmn rvn hgx hrx hv x2 HFGn
    have y0:=ah (ae nL) 1
    have y1:=ah (ae nL) 3
    have ra:=ah (ae nU)
    have rb:=ah (ae wC)
    have rc:=ah (ae Si)
    have rx:=ah (ae mB)
    have rxf:=au (ae mB)
    have za:=af (ae nU)
    have zb:=af (ae wC)
    have zc:=af (ae Si)
    have zx:=af (ae mB)
    have a0:=ra 0
    have a1:=ra 1
    have a2:=ra 2
    have a3:=ra 3
    have c0:=rb 0
    have c1:=rb 1
    have c2:=rb 2
    have c3:=rb 3
    have d0:=rc 0
    have d1:=rc 1
    have d2:=rc 2
    have d3:=rc 3
    simp only[List.getElem?_toArray,List.getElem?_cons_zero,List.getElem?_cons_succ]at y0 y1 a0 a1 a2 a3 c0 c1 c2 c3 d0 d1 d2 d3
    clear ra rb rc
    go_wp2_with fail
    refine bodyPost_ret (v:= .agg #[.int .i64 ak1,.int .i64 av1,.string ax1,.slice ao1 an1 ac1,.string sg,.int .i64 ak2,.int .i64 av2,.string ax2,.slice ao2 an2 ac2,.string op,.int .i64 ak3,.int .i64 av3,.string ax3,.slice ao3 an3 ac3]) (by simp[results,Tryz.results74,go_sem,rx]) rfl ?_
    exact Sb (ae WR) (ae WS) (ae mB) (by rw[ae Vg,ae zC,ae Yp]) (ae zC) (ae Vg) (ae wB) (ae GJ) (ae WT)
theorem infoBl:(Tryz.prog.info? 4).map (fun i=>(i.zero,i.size,i.bytes))=some (some (.bool false),1,1):=by kernel_rfl
theorem GK (w:World) (mb:Nat) (L:List Int) (lo:Option Addr) (lc:Nat) (en:Int) (h:kW w mb L lo lc en) (he:en=4∨en=5∨en=6):
 Calls Tryz.prog 39 #[.pointer (some ⟨mb,0,none⟩)] w fun e w'=>e= .returned (.agg #[.int .i64 en,.slice lo L.length lc,.slice none 0 0,.slice none 0 0,.slice none 0 0])∧Below w.heap.size w w':=by
 obtain⟨cs,hb,h6,h4,h5,ho⟩:=h
 have f4:=(ah hb 4).trans h4
 have f5:=(ah hb 5).trans h5
 have mz:=af hb
 clear hb h6 h4 h5 ho
 rcases he with rfl | rfl | rfl
 all_goals
  go_enter Tryz.func39,Tryz.ntmps39
  go_wp2_with fail
  go_region
  all_goals
   go_wp2_with fail
   refine bodyPost_ret (v:= .agg #[.int .i64 _,.slice lo L.length lc,.slice none 0 0,.slice none 0 0,.slice none 0 0]) (by simp[results,Tryz.results39,go_sem];rfl) rfl ?_
   exact⟨rfl,(((Below.refl _ _).alloc (Nat.le_refl _) _).alloc (by simp) _).drew⟩
def uI (T:Nat→Zf.U) (a:List (List UInt8)×List Zf.Vr) (v:Nat):List (List UInt8)×List Zf.Vr:=(a.1++[Zf.bP Lib.itoa (Zf.aZ a.2 (T v)) (T v)],Zf.aZ a.2 (T v))
def eO (T:Nat→Zf.U) (V:List Nat):List (List UInt8)×List Zf.Vr:=V.foldl (uI T) ([],[])
theorem Ac (T:Nat→Zf.U) (V:List Nat) (v:Nat):eO T (V++[v])=uI T (eO T V) v:=by unfold eO;rw[List.foldl_append];rfl
theorem CU (T:Nat→Zf.U) (V:List Nat):(eO T V).1.length=V.length:=by
 have key:∀(V:List Nat) (a:List (List UInt8)×List Zf.Vr),(V.foldl (uI T) a).1.length=a.1.length+V.length:=by
  intro V
  induction V with
  | nil=>intro a;simp
  | cons v V ih=>intro a;rw[List.foldl_cons,ih];simp[uI];omega
 have:=key V ([],[])
 simpa [eO] using this
def JJ (T:Nat→Zf.U) (N:List Zf.Vr) (g:Gl):List Zf.Vr:=iC T (iC T (iC T N (g.l:Int)) g.r) g.z
def EI (T:Nat→Zf.U) (N:List Zf.Vr) (g:Gl):List UInt8:=Zf.mZ (Zf.bP Lib.itoa N (T g.l)) g.sg.toList (Zf.bP Lib.itoa N (T g.r.toNat)) g.op.toList (Zf.bP Lib.itoa N (T g.z.toNat))
def stepG (T:Nat→Zf.U) (a:List (List UInt8)×List Zf.Vr) (g:Gl):List (List UInt8)×List Zf.Vr:=(a.1++[EI T (JJ T a.2 g) g],JJ T a.2 g)
def kE (T:Nat→Zf.U) (N:List Zf.Vr) (G:List Gl):List (List UInt8)×List Zf.Vr:=G.foldl (stepG T) ([],N)
theorem Ad (T:Nat→Zf.U) (N:List Zf.Vr) (G:List Gl) (g:Gl):kE T N (G++[g])=stepG T (kE T N G) g:=by unfold kE;rw[List.foldl_append];rfl
theorem CV (T:Nat→Zf.U) (N:List Zf.Vr) (G:List Gl):(kE T N G).1.length=G.length:=by
 have key:∀(G:List Gl) (a:List (List UInt8)×List Zf.Vr),(G.foldl (stepG T) a).1.length=a.1.length+G.length:=by
  intro G
  induction G with
  | nil=>intro a;simp
  | cons v V ih=>intro a;rw[List.foldl_cons,ih];simp[stepG];omega
 have:=key G ([],N)
 simpa [kE] using this
def iy (s:List UInt8):Value:= .string ⟨s.toArray⟩
theorem Pp {D:List Ng} {fr:Nat→Nat} {T:Nat→Zf.U} (ok:bZ D fr) (hS:Zf.dI (aX D) fr T) (hv:∀d∈D,-1000000000≤d.val∧d.val≤1000000000) (ht:∀d∈D,d.tx.size≤240):∀n,n<D.length→Zf.oX (T n):=by
 have key:∀{n u},Zf.Tr (aX D) fr n u→n<D.length→Zf.oX u:=by
  intro n u h
  induction h with
  | @var n _ _=>intro _ k tx num ss hm;simp[Zf.subs]at hm
  | @node n k tx num us hg hl _ ih=>
   intro hn
   have hf:=ok.lt hn
   have hd:=ok.nd (fr n) hf
   have hmem:D[fr n]∈D:=List.getElem_mem hf
   rw[mf hf]at hg
   rw[jS hf]at hl ih
   refine Zf.oX.mk ?_ fun a ha=> ?_
   ·have h1:=hv _ hmem
    have h2:=ht _ hmem
    have h3:D[fr n].args.length≤3:=by
     rcases hd.ks with q | q | q
     ·rw[(hd.v q).2.2.2];simp
     ·rw[(hd.m q).2.2];simp
     ·exact(hd.c q).2.2
    unfold eJ at hg
    split at hg
    ·cases hg
    ·split at hg
     ·injection hg with hg
      injection hg with e1 hg
      injection hg with e2 e3
      subst e2 e3
      exact⟨by simp,h1.1,h1.2,by omega⟩
     ·injection hg with hg
      injection hg with e1 hg
      injection hg with e2 e3
      subst e2 e3
      exact⟨by rw[Zf.nA];exact h2,by omega,by omega,by omega⟩
   ·obtain⟨i,hi,rfl⟩:=List.getElem_of_mem ha
    exact ih i _ us[i] (List.getElem?_eq_getElem (by omega)) (List.getElem?_eq_getElem hi) (hd.inn _ (List.getElem_mem _))
 exact fun n hn=>key (hS.tr n) hn
structure VS (w:World) (T:Nat→Zf.U) (V:List Nat) (en:Int) (lo:Option Addr) (ln lc:Nat) (N:List Nat) (mo:Option Addr) (mc:Nat) (xo:Option Addr) (xc:Nat) (wr:World):Prop where
 nm:fk wr (w.heap.size+2) N mo mc
 vr:Zf.bt N=(eO T V).2
 nl:N.length≤V.length*1000
 rw_:∀k,rowOf mo k→w.heap.size+3≤k
 ow:wr.ownsRow (w.heap.size+3) 9 1 (.slice xo V.length xc) V.length ((eO T V).1.map iy)
 rb:wr.heap[w.heap.size+1]?=some (.cells #[.int .i64 en,.slice lo ln lc,.slice xo V.length xc,.slice none 0 0,.slice none 0 0] 29 (0,0))
 zb:wr.heap[w.heap.size]?=some (.cells #[.int .i64 0,.slice none 0 0,.slice none 0 0,.slice none 0 0,.slice none 0 0] 29 (0,0))
 be:Below w.heap.size w wr
theorem pF {w4 w7:World} {n cell b rb:Nat} {xo:Option Addr} {xc:Nat} {Y:TypeId} {X:Obj} {xs:List Value} {C:Array Value} (ho:w4.ownsRow b Y 1 (.slice xo n xc) n xs) (hgr:(w4.alloc X).grownBy w7 (Value.slice xo n xc).ownBlock) (gY:w4.heap[rb]?=some (.cells C 29 (0,0))) (hY:Y≠29) (v:Value):
 (∀k,k≠rb→¬rowOf xo k→k<w4.heap.size→(w7.setCell ⟨rb,cell,none⟩ v).heap[k]?=w4.heap[k]?)∧(w7.setCell ⟨rb,cell,none⟩ v).heap[rb]?=some (.cells (C.setIfInBounds cell v) 29 (0,0)):=by
 have hz:=af gY
 refine⟨fun k h1 h2 h3=> ?_,?_⟩
 ·rw[aC _ _ _ _ h1,hgr.block k (by simp;omega) (bX h2),Below.heap_alloc _ _ _ h3]
 ·refine aw ?_ cell v
  rw[hgr.block rb (by simp;omega) (bX (aN ho gY (Ne.symm hY))),Below.heap_alloc _ _ _ hz]
  exact gY
theorem tT {w w4 w7:World} {n cell b rb:Nat} {xo:Option Addr} {xc:Nat} {Y:TypeId} {X:Obj} {xs:List Value} (aT:Below w.heap.size w w4) (ho:w4.ownsRow b Y 1 (.slice xo n xc) n xs) (hbb:w.heap.size≤b) (hgr:(w4.alloc X).grownBy w7 (Value.slice xo n xc).ownBlock) (gY:w.heap.size≤rb) (v:Value):Below w.heap.size w (w7.setCell ⟨rb,cell,none⟩ v):=
 ((aT.alloc aT.size X).grown hgr (by have:=aT.size;simp;omega) (fun k q=>by have:=(ho.lt k q).1;omega)).setCell gY v
theorem fk.res {w4 w7:World} {n cell b rb nb:Nat} {xo:Option Addr} {xc:Nat} {Y:TypeId} {X:Obj} {xs:List Value} {C:Array Value} {N:List Nat} {mo:Option Addr} {mc:Nat} (h:fk w4 nb N mo mc) (ho:w4.ownsRow b Y 1 (.slice xo n xc) n xs) (hgr:(w4.alloc X).grownBy w7 (Value.slice xo n xc).ownBlock) (gY:w4.heap[rb]?=some (.cells C 29 (0,0))) (hY:Y≠29) (h1:Y≠136) (h2:Y≠3) (v:Value):fk (w7.setCell ⟨rb,cell,none⟩ v) nb N mo mc:=by
 obtain⟨keep,_⟩:=pF (cell:=cell) ho hgr gY hY v
 have key:∀{k:Nat} {ys:Array Value} {Z:TypeId},w4.heap[k]?=some (.cells ys Z (0,0))→Z≠Y→Z≠29→(w7.setCell ⟨rb,cell,none⟩ v).heap[k]?=w4.heap[k]?:=fun {k ys Z} hk q1 q2=>keep k (fun e=>by
  rw[e,gY]at hk
  simp only[Option.some.injEq,Obj.cells.injEq]at hk
  exact q2 hk.2.1.symm) (aN ho hk q1) (af hk)
 refine⟨(key h.blk (Ne.symm h1) (by decide)).trans h.blk,ai h.own fun g q=> ?_⟩
 obtain⟨cur,hc⟩:=aH h.own (aG q)
 exact key hc (Ne.symm h2) (by decide)
theorem VS.next {w:World} {T:Nat→Zf.U} {V:List Nat} {en:Int} {lo:Option Addr} {ln lc:Nat} {N:List Nat} {mo:Option Addr} {mc:Nat} {xo:Option Addr} {xc:Nat} {w4:World} (h:VS w T V en lo ln lc N mo mc xo xc w4) {v:Nat} {N':List Nat} (hz:N'.length≤N.length+1000) (hv:Zf.bt N'=Zf.aZ (eO T V).2 (T v)) {mo':Option Addr} {mc':Nat} {w5:World} (hn:fk w5 (w.heap.size+2) N' mo' mc') (nI:∀k,rowOf mo' k→w.heap.size+3≤k) (how:w5.ownsRow (w.heap.size+3) 9 1 (.slice xo V.length xc) V.length ((eO T V).1.map iy)) (gY:w5.heap[w.heap.size+1]?=some (.cells #[.int .i64 en,.slice lo ln lc,.slice xo V.length xc,.slice none 0 0,.slice none 0 0] 29 (0,0))) (hzb:w5.heap[w.heap.size]?=some (.cells #[.int .i64 0,.slice none 0 0,.slice none 0 0,.slice none 0 0,.slice none 0 0] 29 (0,0))) (aT:Below w.heap.size w w5) {X:Obj} {w7:World} {g' cap':Nat} (hown:w7.ownsRow (w.heap.size+3) 9 1 (.slice (some ⟨g',0,none⟩) (V.length+1) cap') (V.length+1) ((eO T V).1.map iy++[iy (Zf.bP Lib.itoa (Zf.bt N') (T v))])) (hgr:(w5.alloc X).grownBy w7 (Value.slice xo V.length xc).ownBlock):
 VS w T (V++[v]) en lo ln lc N' mo' mc' (some ⟨g',0,none⟩) cap' (w7.setCell ⟨w.heap.size+1,2,none⟩ (.slice (some ⟨g',0,none⟩) (V.length+1) cap')):=by
 obtain⟨keep,CW⟩:=pF (cell:=2) how hgr gY (by decide) (.slice (some ⟨g',0,none⟩) (V.length+1) cap')
 have el:(V++[v]).length=V.length+1:=by simp
 refine⟨hn.res how hgr gY (by decide) (by decide) (by decide) _,by rw[Ac];exact hv,?_,nI,?_,by rw[el];exact CW,?_,tT aT how (by omega) hgr (by omega) _⟩
 ·have:=h.nl
  rw[el,Nat.add_mul]
  omega
 ·rw[el,Ac]
  have e:(uI T (eO T V) v).1.map iy=(eO T V).1.map iy++[iy (Zf.bP Lib.itoa (Zf.bt N') (T v))]:=by
   unfold uI
   rw[List.map_append,←hv]
   rfl
  rw[e]
  exact ai hown fun k q=>aC _ _ _ _ (fun e=>by have:=(hown.lt k q).1;omega)
 ·refine(keep w.heap.size (by omega) (fun q=> ?_) (af hzb)).trans hzb
  have:=(cF how q).1
  omega
structure BN (w:World) (en:Int) (lo:Option Addr) (ln lc:Nat) (xo:Option Addr) (xn xc:Nat) (xs:List Value) (b2:Nat) (N:List Nat) (mo:Option Addr) (mc:Nat) (go:Option Addr) (gn gc:Nat) (gs:List Value) (yo:Option Addr) (yn yc:Nat) (ys:List Value) (wr:World):Prop where
 nm:fk wr (w.heap.size+2) N mo mc
 rw_:∀k,rowOf mo k→w.heap.size+3≤k
 ox:wr.ownsRow (w.heap.size+3) 9 1 (.slice xo xn xc) xn xs
 xb:∀k,rowOf xo k→k<b2
 og:wr.ownsRow b2 9 1 (.slice go gn gc) gn gs
 oy:wr.ownsRow b2 4 1 (.slice yo yn yc) yn ys
 rb:wr.heap[w.heap.size+1]?=some (.cells #[.int .i64 en,.slice lo ln lc,.slice xo xn xc,.slice go gn gc,.slice yo yn yc] 29 (0,0))
 zb:wr.heap[w.heap.size]?=some (.cells #[.int .i64 0,.slice none 0 0,.slice none 0 0,.slice none 0 0,.slice none 0 0] 29 (0,0))
 be:Below w.heap.size w wr
 bw:w.heap.size+3≤b2
 bz:b2≤wr.heap.size
section
variable {w:World} {en:Int} {lo:Option Addr} {ln lc:Nat} {xo:Option Addr} {xn xc:Nat} {xs:List Value} {b2:Nat} {N:List Nat} {mo:Option Addr} {mc:Nat} {go:Option Addr} {gn gc:Nat} {gs:List Value} {yo:Option Addr} {yn yc:Nat} {ys:List Value} {wr:World}
theorem BN.below (h:BN w en lo ln lc xo xn xc xs b2 N mo mc go gn gc gs yo yn yc ys wr) {w':World} (hb:Below wr.heap.size wr w'):BN w en lo ln lc xo xn xc xs b2 N mo mc go gn gc gs yo yn yc ys w':=
 ⟨h.nm.below hb,h.rw_,ai h.ox (fun k q=>hb.block k (h.ox.lt k q).2),h.xb,ai h.og (fun k q=>hb.block k (h.og.lt k q).2),ai h.oy (fun k q=>hb.block k (h.oy.lt k q).2),(hb.block _ (af h.rb)).trans h.rb,(hb.block _ (af h.zb)).trans h.zb,h.be.trans (hb.mono h.be.size),h.bw,Nat.le_trans h.bz hb.size⟩
theorem BN.names (h:BN w en lo ln lc xo xn xc xs b2 N mo mc go gn gc gs yo yn yc ys wr) {w':World} {N':List Nat} {mo':Option Addr} {mc':Nat} (hn:fk w' (w.heap.size+2) N' mo' mc') (hf:aq (br (w.heap.size+2) mo) (br (w.heap.size+2) mo') wr w'):BN w en lo ln lc xo xn xc xs b2 N' mo' mc' go gn gc gs yo yn yc ys w':=by
 have yG:∀k,k<w.heap.size+2→¬br (w.heap.size+2) mo k:=fun k hk q=>by
  rcases q with e | e
  ·omega
  ·have:=h.rw_ k e;omega
 have row:∀{b n cap:Nat} {Y:TypeId} {o:Option Addr} {zs:List Value},wr.ownsRow b Y 1 (.slice o n cap) n zs→Y≠136→Y≠3→w'.ownsRow b Y 1 (.slice o n cap) n zs:=fun {b n cap Y o zs} ho h1 h2=>ai ho fun k q=>by
  obtain⟨cur,hc⟩:=aH ho (aG q)
  exact hf.block k (af hc) (h.nm.apart hc h1 h2)
 refine⟨hn,fun k q=> ?_,row h.ox (by decide) (by decide),h.xb,row h.og (by decide) (by decide),row h.oy (by decide) (by decide),(hf.block _ (af h.rb) (yG _ (by omega))).trans h.rb,(hf.block _ (af h.zb) (yG _ (by omega))).trans h.zb,h.be.trans (hf.down h.be.size fun k q=> ?_),h.bw,Nat.le_trans h.bz hf.size⟩
 ·rcases hf.row k (Or.inr q)with(e | e) | e
  ·exact absurd (e ▸ q) hn.ne
  ·exact h.rw_ k e
  ·have:=af h.nm.blk;omega
 ·rcases q with e | e
  ·omega
  ·have:=h.rw_ k e;omega
theorem BN.goal (h:BN w en lo ln lc xo xn xc xs b2 N mo mc go gn gc gs yo yn yc ys wr) {X:Obj} {w7:World} {g' cap':Nat} {s:Value} (hown:w7.ownsRow b2 9 1 (.slice (some ⟨g',0,none⟩) (gn+1) cap') (gn+1) (gs++[s])) (hgr:(wr.alloc X).grownBy w7 (Value.slice go gn gc).ownBlock):BN w en lo ln lc xo xn xc xs b2 N mo mc (some ⟨g',0,none⟩) (gn+1) cap' (gs++[s]) yo yn yc ys (w7.setCell ⟨w.heap.size+1,3,none⟩ (.slice (some ⟨g',0,none⟩) (gn+1) cap')):=by
 obtain⟨keep,CW⟩:=pF (cell:=3) h.og hgr h.rb (by decide) (.slice (some ⟨g',0,none⟩) (gn+1) cap')
 have bw:=h.bw
 refine⟨h.nm.res h.og hgr h.rb (by decide) (by decide) (by decide) _,h.rw_,ai h.ox fun k q=> ?_,h.xb,ai hown fun k q=>aC _ _ _ _ (fun e=>by have:=(hown.lt k q).1;omega),ai h.oy fun k q=> ?_,CW,?_,tT h.be h.og (by omega) hgr (by omega) _,h.bw,?_⟩
 ·have h1:=cF h.ox (aG q)
  have h2:=h.xb k (aG q)
  exact keep k (by omega) (fun r=>by have:=(cF h.og r).1;omega) h1.2
 ·obtain⟨cur,hc⟩:=aH h.oy (aG q)
  have h1:=(cF h.oy (aG q)).1
  exact keep k (by omega) (aN h.og hc (by decide)) (af hc)
 ·exact(keep w.heap.size (by omega) (fun r=>by have:=(cF h.og r).1;omega) (af h.zb)).trans h.zb
 ·rw[bS];have:=hgr.size;simp at this;have:=h.bz;omega
theorem BN.wait (h:BN w en lo ln lc xo xn xc xs b2 N mo mc go gn gc gs yo yn yc ys wr) {X:Obj} {w7:World} {g' cap':Nat} {s:Value} (hown:w7.ownsRow b2 4 1 (.slice (some ⟨g',0,none⟩) (yn+1) cap') (yn+1) (ys++[s])) (hgr:(wr.alloc X).grownBy w7 (Value.slice yo yn yc).ownBlock):BN w en lo ln lc xo xn xc xs b2 N mo mc go gn gc gs (some ⟨g',0,none⟩) (yn+1) cap' (ys++[s]) (w7.setCell ⟨w.heap.size+1,4,none⟩ (.slice (some ⟨g',0,none⟩) (yn+1) cap')):=by
 obtain⟨keep,CW⟩:=pF (cell:=4) h.oy hgr h.rb (by decide) (.slice (some ⟨g',0,none⟩) (yn+1) cap')
 have bw:=h.bw
 have kS:∀{b n cap:Nat} {o:Option Addr} {zs:List Value},wr.ownsRow b 9 1 (.slice o n cap) n zs→w.heap.size+3≤b→(w7.setCell ⟨w.heap.size+1,4,none⟩ (.slice (some ⟨g',0,none⟩) (yn+1) cap')).ownsRow b 9 1 (.slice o n cap) n zs:=fun {b n cap o zs} ho hb=>ai ho fun k q=>by
  obtain⟨cur,hc⟩:=aH ho (aG q)
  have h1:=(cF ho (aG q)).1
  exact keep k (by omega) (aN h.oy hc (by decide)) (af hc)
 refine⟨h.nm.res h.oy hgr h.rb (by decide) (by decide) (by decide) _,h.rw_,kS h.ox (Nat.le_refl _),h.xb,kS h.og bw,ai hown fun k q=>aC _ _ _ _ (fun e=>by have:=(hown.lt k q).1;omega),CW,?_,tT h.be h.oy (by omega) hgr (by omega) _,h.bw,?_⟩
 ·exact(keep w.heap.size (by omega) (fun r=>by have:=(cF h.oy r).1;omega) (af h.zb)).trans h.zb
 ·rw[bS];have:=hgr.size;simp at this;have:=h.bz;omega
end
def Vh (w:World) (fr:Nat→Nat) (T:Nat→Zf.U) (N0:List Zf.Vr) (G:List Gl) (en:Int) (lo:Option Addr) (ln lc:Nat) (xo:Option Addr) (xn xc:Nat) (xs:List Value) (b2:Nat) (k:Nat) (iv:Value) (wr:World):Prop:=
 ∃(j:Nat) (N:List Nat) (mo:Option Addr) (mc:Nat) (go:Option Addr) (gc:Nat) (yo:Option Addr) (yc:Nat),k+j=G.length∧iv= .int .i64 (j:Int)∧Zf.bt N=(kE T N0 (G.take j)).2∧N.length≤100000+j*3000∧BN w en lo ln lc xo xn xc xs b2 N mo mc go j gc ((kE T N0 (G.take j)).1.map iy) yo j yc ((G.take j).map fun g=> .bool (!gm fr g)) wr
def Vi (w:World) (T:Nat→Zf.U) (V:List Nat) (en:Int) (lo:Option Addr) (ln lc:Nat) (k:Nat) (iv:Value) (wr:World):Prop:=
 ∃(j:Nat) (N:List Nat) (mo:Option Addr) (mc:Nat) (xo:Option Addr) (xc:Nat),k+j=V.length∧iv= .int .i64 (j:Int)∧VS w T (V.take j) en lo ln lc N mo mc xo xc wr
theorem JK (w:World) (mb:Nat) (cls:List Zf.aI) (clo:Option Addr) (clc:Nat) (V:List Nat) (vo:Option Addr) (vc:Nat) (L:List Int) (lo:Option Addr) (lc:Nat) (S:cE) (nO:Option Addr) (nC:Nat) (po:Option Addr) (pc:Nat) (en:Int) (h:cR w mb (p7 clo cls.length clc nO S.D.length nC vo V.length vc po S.G.length pc lo L.length lc en) S.D nO nC S.fr S.G po pc) (fD:Zf.dI (aX S.D) S.fr S.T) (P:Nat→Prop) (har:aY w S.D P) (CX:w.ownsRow 0 3 1 (.slice vo V.length vc) V.length (V.map aJ)) (hvl:∀v∈V,v<S.D.length) (hvb:∀d∈S.D,-1000000000≤d.val∧d.val≤1000000000) (Iu:∀d∈S.D,d.tx.size≤240) (zE:∀g∈S.G,mA S.T S.D.length g) (hpw:Pow w) (hen:en=1∨en=2∨en=3) (hV:V.length≤100) (hG:S.G.length≤100) (hsV:∀v∈V,Zf.size (S.T v)≤1000) (hsG:∀g∈S.G,∀x:Int,x=(g.l:Int)∨x=g.r∨x=g.z→x≠-1→Zf.size (S.T x.toNat)≤1000):
 Calls Tryz.prog 39 #[.pointer (some ⟨mb,0,none⟩)] w fun e w'=>∃(xo:Option Addr) (xc:Nat) (go:Option Addr) (gc:Nat) (yo:Option Addr) (yc:Nat),e= .returned (.agg #[.int .i64 en,.slice lo L.length lc,.slice xo V.length xc,.slice go S.G.length gc,.slice yo S.G.length yc])∧w'.ownsRow w.heap.size 9 1 (.slice xo V.length xc) V.length ((eO S.T V).1.map iy)∧w'.ownsRow w.heap.size 9 1 (.slice go S.G.length gc) S.G.length ((kE S.T (eO S.T V).2 S.G).1.map iy)∧w'.ownsRow w.heap.size 4 1 (.slice yo S.G.length yc) S.G.length (S.G.map fun g=> .bool (!gm S.fr g))∧(∀k,rowOf xo k→¬rowOf go k)∧Below w.heap.size w w':=by
 have f2:w.cell? ⟨mb,2,none⟩=some (.slice vo V.length vc):=ah h.st.blk 2
 have f3:w.cell? ⟨mb,3,none⟩=some (.slice po S.G.length pc):=ah h.st.blk 3
 have f4:w.cell? ⟨mb,4,none⟩=some (.slice lo L.length lc):=ah h.st.blk 4
 have f5:w.cell? ⟨mb,5,none⟩=some (.int .i64 en):=ah h.st.blk 5
 have mz:=af h.st.blk
 have t4:(en == 4)=false:=by rcases hen with q | q | q<;>(rw[q];rfl)
 have t5:(en == 5)=false:=by rcases hen with q | q | q<;>(rw[q];rfl)
 have t6:(en == 6)=false:=by rcases hen with q | q | q<;>(rw[q];rfl)
 have Ms:aY w S.D (fun g=>g<w.heap.size):=har.keep fun g _ _ hg=>⟨hg,af hg⟩
 have HT:=hide (fun(x:Int) (N1:List Nat) (mo1:Option Addr) (mc1:Nat) (W:World) (hb:Below w.heap.size w W) (sV:fk W (w.heap.size+2) N1 mo1 mc1) (nI:∀k,rowOf mo1 k→w.heap.size+3≤k) (hx:pC S.D.length x) (hq:x≠-1→Zf.size (S.T x.toNat)≤1000) (jE:N1.length≤900000)=>NY W mb _ S.D nO nC S.fr S.T (w.heap.size+2) N1 mo1 mc1 x (h.st.below hb) h.ok fD sV ((Ms.below hb).keep fun g _ hp hg=>⟨hg,fun q=>by
  rcases q with e | e
  ·omega
  ·have:=nI g e;omega⟩) hx hq jE)
 have jf:=hide (Pp h.ok fD hvb Iu)
 have HST:=hide (show Vi w S.T V en lo L.length lc V.length (.int .i64 0) (((((w.alloc (.cells #[.int .i64 0,.slice none 0 0,.slice none 0 0,.slice none 0 0,.slice none 0 0] 29)).alloc (.cells #[.int .i64 en,.slice lo L.length lc,.slice none 0 0,.slice none 0 0,.slice none 0 0] 29)).drew).alloc (.cells #[.slice none 0 0] 136)))from by
  have tR:=(((Below.refl w.heap.size w).alloc (Nat.le_refl _) (.cells #[.int .i64 0,.slice none 0 0,.slice none 0 0,.slice none 0 0,.slice none 0 0] 29)).alloc (by simp) (.cells #[.int .i64 en,.slice lo L.length lc,.slice none 0 0,.slice none 0 0,.slice none 0 0] 29)).drew
  have hb1:=tR.alloc tR.size (.cells #[.slice none 0 0] 136)
  have q0:=aA (aA (heap_alloc_new w (.cells #[.int .i64 0,.slice none 0 0,.slice none 0 0,.slice none 0 0,.slice none 0 0] 29)) (.cells #[.int .i64 en,.slice lo L.length lc,.slice none 0 0,.slice none 0 0,.slice none 0 0] 29)) (.cells #[.slice none 0 0] 136)
  have q1:=aA (heap_alloc_new (w.alloc (.cells #[.int .i64 0,.slice none 0 0,.slice none 0 0,.slice none 0 0,.slice none 0 0] 29)) (.cells #[.int .i64 en,.slice lo L.length lc,.slice none 0 0,.slice none 0 0,.slice none 0 0] 29)) (.cells #[.slice none 0 0] 136)
  have q2:=heap_alloc_new ((w.alloc (.cells #[.int .i64 0,.slice none 0 0,.slice none 0 0,.slice none 0 0,.slice none 0 0] 29)).alloc (.cells #[.int .i64 en,.slice lo L.length lc,.slice none 0 0,.slice none 0 0,.slice none 0 0] 29)) (.cells #[.slice none 0 0] 136)
  simp only[World.size_alloc]at q1 q2
  exact⟨0,[],none,0,none,0,by omega,rfl,⟨⟨q2,World.ownsRow_nil _ _ _ _⟩,rfl,by simp,(fun k ⟨_,q,_⟩=>by cases q),World.ownsRow_nil _ _ _ _,q1,q0,hb1⟩⟩)
 have Sj:=hide CX
 have vt:=hide hvl
 have EG:=hide hpw
 have UL:=hide hsV
 have jL:=hide hsG
 have HH:=hide h
 have Yq:=hide zE
 have nX:=hide Ms
 have Ry:=hide fD
 obtain⟨ti,hi,hz0,hz1,hz2⟩:=info_parts infoStrS
 obtain⟨tb,Yr,hb0,hb1,hb2⟩:=info_parts infoBl
 clear h fD har Ms CX hvl hvb Iu zE hpw hen hsV hsG
 go_enter Tryz.func39,Tryz.ntmps39
 go_upto_region 1 with fail
 go_cut [3] (fun tv wx=>tv= .pointer (some ⟨w.heap.size+1,0,none⟩)∧wx=((w.alloc (.cells #[.int .i64 0,.slice none 0 0,.slice none 0 0,.slice none 0 0,.slice none 0 0] 29)).alloc (.cells #[.int .i64 en,.slice lo L.length lc,.slice none 0 0,.slice none 0 0,.slice none 0 0] 29)).drew)
 case first=>
  go_region
  all_goals
   go_wp2_with fail
   go_meet
   exact⟨rfl,rfl⟩
 case rest=>
  obtain⟨rfl,rfl⟩:=hcut
  have Ae:=(((Below.refl w.heap.size w).alloc (Nat.le_refl _) (.cells #[.int .i64 0,.slice none 0 0,.slice none 0 0,.slice none 0 0,.slice none 0 0] 29)).alloc (by simp) (.cells #[.int .i64 en,.slice lo L.length lc,.slice none 0 0,.slice none 0 0,.slice none 0 0] 29)).drew
  have ot:=Ae.alloc Ae.size (.cells #[.slice none 0 0] 136)
  have g2:=(ot.cell (p:=⟨mb,2,none⟩) mz).trans f2
  have g5:=(Ae.cell (p:=⟨mb,5,none⟩) mz).trans f5
  have Vj:=((((Below.refl w.heap.size w).alloc (Nat.le_refl _) (.cells #[.int .i64 0,.slice none 0 0,.slice none 0 0,.slice none 0 0,.slice none 0 0] 29)).alloc (by simp) (.cells #[.int .i64 en,.slice lo L.length lc,.slice none 0 0,.slice none 0 0,.slice none 0 0] 29)).alloc (by simp;omega) (.cells #[.slice none 0 0] 136)).drew
  have g2':=(Vj.cell (p:=⟨mb,2,none⟩) mz).trans f2
  clear Ae ot Vj
  go_wp2_with fail
  go_loopg [48] V.length (fun k iv wr=>Vi w S.T V en lo L.length lc k iv wr)
  case atStart=>exact ae HST
  case round=>
   clear HST
   obtain⟨j,N,mo,mc,xo,xc,hkj,rfl,hvs⟩:=hrel
   clear g2 g2' g5
   by_cases hlt:j<V.length
   ·obtain⟨g,hg⟩:∃g,vo=some ⟨g,0,none⟩:=by
     rcases(ae Sj).2 with⟨q,q2⟩ | ⟨g,cp,cur,q,_⟩
     ·omega
     ·simp only[Value.slice.injEq]at q
      exact⟨g,q.1⟩
    subst hg
    have gz0:=((ae Sj).lt g rfl).2
    have e0:wr.cell? ⟨g,j,none⟩=some (.int .i64 (V[j]:Int)):=by
     rw[hvs.be.cell (p:=⟨g,j,none⟩) gz0,(ae Sj).cellAt j (by omega),List.getElem?_map,List.getElem?_eq_getElem hlt]
     rfl
    have AY:V[j]∈V:=List.getElem_mem hlt
    have hsz:=ae UL _ AY
    have hvl:=ae vt _ AY
    have hsm:=ae jf _ hvl
    have htake:V.take (j+1)=V.take j++[V[j]]:=by rw[List.take_add_one,List.getElem?_eq_getElem hlt];rfl
    have hlen:(V.take j).length=j:=by rw[List.length_take];omega
    have gz:g<wr.heap.size:=Nat.lt_of_lt_of_le gz0 hvs.be.size
    have mzr:mb<wr.heap.size:=Nat.lt_of_lt_of_le mz hvs.be.size
    have i0:(0:Int)≤(j:Int):=by omega
    have i1:(j:Int)<(V.length:Int):=by omega
    generalize V[j]=v at*
    have hNl:N.length≤100000:=by have:=hvs.nl;rw[hlen]at this;omega
    have IT:=hide (ae HT (v:Int) N mo mc wr hvs.be hvs.nm hvs.rw_ (Or.inr ⟨v,rfl,hvl⟩) (fun _=>by simpa using hsz) (by omega))
    have nM:=hide hvs
    have aW:=hide hkj
    have ba:=hide hlt
    have rU:=hide htake
    have jv:=hide hsz
    have Sk:=hide hsm
    have HLEN:=hide hlen
    clear hvs hkj hlt htake hsz hvl hsm hlen AY
    go_wp2_with fail
    refine(ae IT).mono ?_
    rintro e w2 ⟨⟨ak,av,ax,ao,an,ac⟩,N',mo',mc',rfl,nm2,hv2,rv2,fg2⟩
    have hrow:∀k,br (w.heap.size+2) mo k→w.heap.size≤k:=fun k q=>by
     rcases q with e | e
     ·omega
     ·have:=(ae nM).rw_ k e;omega
    have tU:Below w.heap.size w w2:=(ae nM).be.trans (fg2.down (ae nM).be.size hrow)
    have Mt:=tU.alloc tU.size (.cells #[.int .i64 ak,.int .i64 av,.string ax,.slice ao an ac] 74)
    have yG:∀k,k<w.heap.size+2→¬br (w.heap.size+2) mo k:=fun k hk q=>by
     rcases q with e | e
     ·omega
     ·have:=(ae nM).rw_ k e;omega
    have Sl:=(fg2.block _ (af (ae nM).rb) (yG _ (by omega))).trans (ae nM).rb
    have Sm:=(fg2.block _ (af (ae nM).zb) (yG _ (by omega))).trans (ae nM).zb
    have Sn:w2.ownsRow (w.heap.size+3) 9 1 (.slice xo (V.take j).length xc) (V.take j).length ((eO S.T (V.take j)).1.map iy):=ai (ae nM).ow fun k q=>by
     obtain⟨cur,hc⟩:=aH (ae nM).ow (aG q)
     exact fg2.block k (af hc) ((ae nM).nm.apart hc (by decide) (by decide))
    have yA:∀k,rowOf mo' k→w.heap.size+3≤k:=fun k q=>by
     rcases fg2.row k (Or.inr q)with(e | e) | e
     ·exfalso
      exact nm2.ne (e ▸ q)
     ·exact(ae nM).rw_ k e
     ·have:=af (ae nM).nm.blk;omega
    have Mu:Zf.bt N'=Zf.aZ (eO S.T (V.take j)).2 (S.T v):=by
     rw[hv2]
     unfold iC
     rw[if_neg (by omega),(ae nM).vr]
     simp
    have hN2:N'.length≤N.length+1000:=by
     have e1:(Zf.bt N').length=N'.length:=by unfold Zf.bt;simp
     have e2:(Zf.bt N).length=N.length:=by unfold Zf.bt;simp
     have:=iT (S.T v) (eO S.T (V.take j)).2
     rw[←Mu,e1,←(ae nM).vr,e2]at this
     have:=ae jv
     omega
    have rv3:RV 1000 (Zf.bt N') anyA w2 ⟨ak,av,ax,ao,an,ac⟩ (S.T v):=by
     have:=rv2 (by omega)
     have e0:((v:Int)).toNat=v:=by simp
     rw[e0]at this
     exact this.keep fun g _ _ hg=>⟨hg,trivial⟩
    have rv4:=rv3.keep (Q:=anyA) (w':=w2.alloc (.cells #[.int .i64 ak,.int .i64 av,.string ax,.slice ao an ac] 74)) fun g _ _ hg=>⟨(Below.heap_alloc _ _ _ (af hg)).trans hg,trivial⟩
    have eV:(Zf.bt N').length=N'.length:=by unfold Zf.bt;simp
    have IS:=hide (stU_all 1000 _ (Zf.bt N') anyA ⟨ak,av,ax,ao,an,ac⟩ (S.T v) rv4 ((ae EG).below Mt) (by rw[eV];omega) (ae Sk) (ae jv))
    have hSl:=Zf.oY (N:=Zf.bt N') (by rw[eV];omega) (S.T v) (ae Sk)
    have hSl':(Zf.bP Lib.itoa (Zf.bt N') (S.T v)).length≤300000:=by have:=ae jv;omega
    have gX:=hide nm2
    have Yt:=hide Mu
    have nG:=hide hN2
    have Q8:=hide yA
    have yw:=hide Sn
    have Mv:=hide Sl
    have Mw:=hide Sm
    have WU:=hide Mt
    have Mx:=hide tU
    clear nm2 hv2 Mu hN2 yA Sn Sl Sm Mt tU rv2 rv3 rv4 fg2 eV hrow yG hSl IT e0
    generalize CY:Zf.bP Lib.itoa (Zf.bt N') (S.T v)=STR at*
    have My:=hide CY
    clear CY
    go_wp2_with fail
    refine(ae IS).mono ?_
    rintro e w4 ⟨rfl,hb4⟩
    have vG:Below w2.heap.size w2 w4:=((Below.refl _ w2).alloc (Nat.le_refl _) _).trans (hb4.mono (by simp))
    have GL:=ai (ae yw) fun k q=>vG.block k ((ae yw).lt k q).2
    have yH:=(vG.block _ (af (ae Mv))).trans (ae Mv)
    have Sp:=(vG.block _ (af (ae Mw))).trans (ae Mw)
    have Mz:=(ae gX).below vG
    have CZ:=(ae Mx).trans (vG.mono (ae Mx).size)
    have r2:=ah yH 2
    have rx2:=au yH 2
    have rz:=af yH
    simp only[List.getElem?_toArray,List.getElem?_cons_zero,List.getElem?_cons_succ]at r2
    rw[ae HLEN]at r2
    have JL:=hide (show some (w.heap.size+1)≠(Value.slice xo (V.take j).length xc).ownBlock from bX (aN GL yH (by decide)))
    rw[ae HLEN]at JL
    have jy:=hide (fun(w7:World) (g' cap':Nat) (X:Obj) a1 a2=>(ae nM).next (v:=v) (ae nG) (ae Yt) Mz (ae Q8) GL yH Sp CZ (X:=X) (w7:=w7) (g':=g') (cap':=cap') a1 a2)
    rw[ae HLEN]at jy
    have GM:=GL
    rw[ae HLEN]at GM
    have WV:=hide GM
    have z4:w.heap.size+3≤w4.heap.size:=by have:=af Mz.blk;omega
    rw[ae My]at jy
    clear GL GM yH Sp Mz CZ hb4 vG IS yw Mv Mw gX Mx WU
    generalize hzz:(eO S.T (V.take j)).1.map iy=ZZ at*
    clear hzz
    go_wp2_with (at_builtin;go_must (refine wpList_append_own_at _ rfl (.tmp 60) (.tmp 62) 26 rfl (w.heap.size+3) 9 ti (.string ⟨#[]⟩) 1 16 Tryz.underlying26 hi hz0 hz1 hz2 rfl (by decide) (.slice xo j xc) j ZZ rfl ((ae WV).alloc _) ⟨w4.heap.size,0,none⟩ 1 1 [.string ⟨STR.toArray⟩] rfl rfl (ju _ _ _ _ rfl) (by simp[Value.oneCell']) (by unfold maxLen;omega) (by omega) (by simp;omega) ?_);go_must (intro v' w7 hown' hgrow _ hat;obtain⟨g',cap',hv',-⟩:=ft hown';subst hv';have jD:=hide (ae jy w7 g' cap' _ hown' hgrow);have m2:=(hgrow.cell_far ⟨w.heap.size+1,2,none⟩ (by simp;omega) (ae JL)).trans ((World.cell?_alloc_past _ _ _ rz).trans r2);have k9:w7.frozen? ⟨w.heap.size+1,2,none⟩=false:=(by have:=au (ae jD).rb 2;rwa [World.frozen?_setCell]at this);have zz7:w.heap.size+1<w7.heap.size:=(by have:=af (ae jD).rb;rwa [bS]at this);clear hown' hgrow hat))
    go_roundg (gk - 1)
    case measure=>have:=ae aW;have:=ae ba;omega
    case rel=>exact⟨j+1,N',mo',mc',_,cap',by have:=ae aW;have:=ae ba;omega,by go_num,by rw[ae rU];exact ae jD⟩
   ·obtain rfl:j=V.length:=by omega
    rw[List.take_length]at hvs
    have nM:=hide hvs
    have g3:=(hvs.be.cell (p:=⟨mb,3,none⟩) mz).trans f3
    have mzr:mb<wr.heap.size:=Nat.lt_of_lt_of_le mz hvs.be.size
    have Sq:=hide (show Vh w S.fr S.T (eO S.T V).2 S.G en lo L.length lc xo V.length xc ((eO S.T V).1.map iy) wr.heap.size S.G.length (.int .i64 0) wr from ⟨0,N,mo,mc,none,0,none,0,by omega,rfl,hvs.vr,by have:=hvs.nl;omega,⟨hvs.nm,hvs.rw_,hvs.ow,fun k q=>(cF hvs.ow q).2,World.ownsRow_nil _ _ _ _,World.ownsRow_nil _ _ _ _,hvs.rb,hvs.zb,hvs.be,by have:=af hvs.nm.blk;omega,Nat.le_refl _⟩⟩)
    generalize hwb:wr.heap.size=b2 at*
    clear hvs hkj hlt
    go_wp2_with fail
    go_loopg [71] S.G.length (fun k iv wr=>Vh w S.fr S.T (eO S.T V).2 S.G en lo L.length lc xo V.length xc ((eO S.T V).1.map iy) b2 k iv wr)
    case atStart=>exact ae Sq
    case round=>
     clear Sq
     obtain⟨i,N3,mo3,mc3,go,gc,yo,yc,hkj,rfl,CX,hnl,ot⟩:=hrel
     by_cases hlt:i<S.G.length
     ·obtain⟨pg,RT⟩:∃pg,po=some ⟨pg,0,none⟩:=by
       rcases(ae HH).pool.2 with⟨q,q2⟩ | ⟨g,cp,cur,q,_⟩
       ·omega
       ·simp only[Value.slice.injEq]at q
        exact⟨g,q.1⟩
      subst RT
      have pz0:=((ae HH).pool.lt pg rfl).2
      have fc:∀k,k<7→wr.cell? ⟨pg,i*7+k,none⟩=(fL S.G[i])[k]?:=fun k hk=>by
       rw[ot.be.cell (p:=⟨pg,i*7+k,none⟩) pz0,(ae HH).pool.cellAt (i*7+k) (by omega)]
       exact qI hlt k hk
      have e0:=fc 0 (by omega)
      have e1:=fc 1 (by omega)
      have e2:=fc 2 (by omega)
      have e3:=fc 3 (by omega)
      have e4:=fc 4 (by omega)
      have e5:=fc 5 (by omega)
      have e6:=fc 6 (by omega)
      simp only[fL,List.getElem?_cons_zero,List.getElem?_cons_succ,Nat.add_zero]at e0 e1 e2 e3 e4 e5 e6
      have km:S.G[i]∈S.G:=List.getElem_mem hlt
      have gw:=ae Yq _ km
      have MA:=ae jL _ km
      have htake:S.G.take (i+1)=S.G.take i++[S.G[i]]:=by rw[List.take_add_one,List.getElem?_eq_getElem hlt];rfl
      have Sr:=(ae HH).nds _ km
      have Ss:=(ae HH).nlt _ km
      have Su:=(ae HH).nl _ km
      generalize S.G[i]=gg at*
      have pz:pg<wr.heap.size:=Nat.lt_of_lt_of_le pz0 ot.be.size
      have mzr':mb<wr.heap.size:=Nat.lt_of_lt_of_le mz ot.be.size
      have i0:(0:Int)≤(i:Int):=by omega
      have i1:(i:Int)<(S.G.length:Int):=by omega
      have JN:=(Below.refl wr.heap.size wr).alloc (Nat.le_refl _) (.cells #[.int .i64 (gg.l:Int),.string gg.sg,.int .i64 gg.r,.string gg.op,.int .i64 gg.z,.bool gg.wt,.slice gg.no gg.nd.length gg.nc] 133)
      have hbA:=ot.below JN
      have hndR:pC S.D.length gg.r:=by
       by_cases q:gg.sg.toList=[]
       ·exact Or.inl (gw.r0 q)
       ·exact Or.inr (gw.rr q)
      have hndZ:pC S.D.length gg.z:=by
       by_cases q:gg.op.toList=[]
       ·exact Or.inl (gw.z0 q)
       ·exact Or.inr (gw.zz q)
      have hN3:N3.length≤500000:=by omega
      have IM:=hide (JI _ mb _ S.D nO nC S.fr S.T (w.heap.size+2) N3 mo3 mc3 gg ((ae HH).st.below hbA.be) (ae HH).ok (ae Ry) hbA.nm (((ae nX).below hbA.be).keep fun k _ hp hk=>⟨hk,fun q=>by
       rcases q with e | e
       ·omega
       ·have:=hbA.rw_ k e;omega⟩) gw.ll hndR hndZ MA (by omega))
      have Sv:=hide (heap_alloc_new wr (.cells #[.int .i64 (gg.l:Int),.string gg.sg,.int .i64 gg.r,.string gg.op,.int .i64 gg.z,.bool gg.wt,.slice gg.no gg.nd.length gg.nc] 133))
      have xU:=hide hbA
      have yI:=hide gw
      have yJ:=hide MA
      have aW:=hide hkj
      have ba:=hide hlt
      have rU:=hide htake
      have WW:=hide CX
      have LY:=hide hnl
      have Sw:=hide Sr
      have WX:=hide Ss
      have WY:=hide Su
      clear ot JN hbA gw MA hkj hlt htake CX hnl Sr Ss Su fc km hndR hndZ
      go_wp2_with fail
      refine(ae IM).mono ?_
      rintro e w2 ⟨⟨ak,av,ax,ao,an,ac⟩,⟨bk,bv,bx,bo,bn,bc⟩,⟨ck,cv,cx,co,cn,cc⟩,N4,mo4,mc4,rfl,nm4,hv4,rvA,rvB,rvC,fg4⟩
      have hb2:=(ae xU).names nm4 fg4
      have Sy:=(fg4.block _ (af (ae Sv)) ((ae xU).nm.apart (ae Sv) (by decide) (by decide))).trans (ae Sv)
      have eV:(Zf.bt N4).length=N4.length:=by unfold Zf.bt;simp
      have eV3:(Zf.bt N3).length=N3.length:=by unfold Zf.bt;simp
      have hN4:N4.length≤N3.length+3000:=by
       have hz:∀(M:List Zf.Vr) (x:Int),(x=(gg.l:Int)∨x=gg.r∨x=gg.z)→(iC S.T M x).length≤M.length+1000:=fun M x hx=>by
        unfold iC
        split
        ·omega
        ·rename_i hne
         exact Nat.le_trans (iT _ _) (by have:=ae yJ x hx hne;omega)
       rw[←eV,hv4]
       have h1:=hz (iC S.T (iC S.T (Zf.bt N3) (gg.l:Int)) gg.r) gg.z (Or.inr (Or.inr rfl))
       have h2:=hz (iC S.T (Zf.bt N3) (gg.l:Int)) gg.r (Or.inr (Or.inl rfl))
       have h3:=hz (Zf.bt N3) (gg.l:Int) (Or.inl rfl)
       omega
      have Sz:Zf.bt N4=JJ S.T (kE S.T (eO S.T V).2 (S.G.take i)).2 gg:=by
       rw[hv4,ae WW]
       rfl
      have hsl:Zf.size (S.T gg.l)≤1000:=by have:=ae yJ (gg.l:Int) (Or.inl rfl) (by omega);simpa using this
      have hAl:=Zf.oY (N:=Zf.bt N4) (by rw[eV];omega) (S.T gg.l) (ae jf _ (ae yI).ll)
      have hR:gg.sg.toList≠[]→gg.r≠-1∧gg.r.toNat<S.D.length:=fun q=>by
       obtain⟨n,q1,q2⟩:=(ae yI).rr q
       rw[q1]
       exact⟨by omega,by simpa using q2⟩
      have hZ:gg.op.toList≠[]→gg.z≠-1∧gg.z.toNat<S.D.length:=fun q=>by
       obtain⟨n,q1,q2⟩:=(ae yI).zz q
       rw[q1]
       exact⟨by omega,by simpa using q2⟩
      have hbI:=(Below.refl w2.heap.size w2).alloc (Nat.le_refl _) (.cells #[.int .i64 ak,.int .i64 av,.string ax,.slice ao an ac,.string gg.sg,.int .i64 bk,.int .i64 bv,.string bx,.slice bo bn bc,.string gg.op,.int .i64 ck,.int .i64 cv,.string cx,.slice co cn cc] 125)
      have SA:gg.sg.size≤2:=by
       rw[←Zf.nA]
       rcases(ae yI).sg with q | q | q<;>(rw[q];decide)
      have IT:∀{a:AV} {u:Zf.U},RV 1000 (Zf.bt N4) anyA w2 a u→Zf.oX u→Zf.size u≤1000→∀W,Below w2.heap.size w2 W→Calls Tryz.prog 73 #[.agg #[.int .i64 a.k,.int .i64 a.val,.string a.tx,.slice a.ao a.n a.cap]] W fun e w'=>e= .returned (.string ⟨(Zf.bP Lib.itoa (Zf.bt N4) u).toArray⟩)∧Below W.heap.size W w':=fun {a u} rv hsm hsz W hu=>stU_all 1000 W (Zf.bt N4) anyA a u (rv.keep fun g _ _ hg=>⟨(hu.block g (af hg)).trans hg,trivial⟩) ((ae EG).below (hb2.be.trans (hu.mono hb2.be.size))) (by rw[eV];omega) hsm hsz
      have IS:=hide (Po _ ⟨⟨ak,av,ax,ao,an,ac⟩,⟨bk,bv,bx,bo,bn,bc⟩,⟨ck,cv,cx,co,cn,cc⟩,gg.sg,gg.op⟩ (Zf.bP Lib.itoa (Zf.bt N4) (S.T gg.l)) (if gg.sg.toList=[]then []else Zf.bP Lib.itoa (Zf.bt N4) (S.T gg.r.toNat)) (if gg.op.toList=[]then []else Zf.bP Lib.itoa (Zf.bt N4) (S.T gg.z.toNat)) (by omega) (by
       split
       ·simp
       ·rename_i q
        have h1:=Zf.oY (N:=Zf.bt N4) (by rw[eV];omega) (S.T gg.r.toNat) (ae jf _ (hR q).2)
        have h2:=ae yJ _ (Or.inr (Or.inl rfl)) (hR q).1
        omega) (by
       split
       ·simp
       ·rename_i q
        have h1:=Zf.oY (N:=Zf.bt N4) (by rw[eV];omega) (S.T gg.z.toNat) (ae jf _ (hZ q).2)
        have h2:=ae yJ _ (Or.inr (Or.inr rfl)) (hZ q).1
        omega) SA (ae yI).ol (fun W hu=>IT (a:=⟨ak,av,ax,ao,an,ac⟩) rvA (ae jf _ (ae yI).ll) hsl W (hbI.trans (hu.mono (by simp)))) (fun q W hu=>by
        rw[if_neg q]
        exact IT (a:=⟨bk,bv,bx,bo,bn,bc⟩) (rvB (hR q).1) (ae jf _ (hR q).2) (ae yJ _ (Or.inr (Or.inl rfl)) (hR q).1) W (hbI.trans (hu.mono (by simp)))) (fun _ q W hu=>by
        rw[if_neg q]
        exact IT (a:=⟨ck,cv,cx,co,cn,cc⟩) (rvC (hZ q).1) (ae jf _ (hZ q).2) (ae yJ _ (Or.inr (Or.inr rfl)) (hZ q).1) W (hbI.trans (hu.mono (by simp)))))
      have CY:Zf.mZ (Zf.bP Lib.itoa (Zf.bt N4) (S.T gg.l)) gg.sg.toList (if gg.sg.toList=[]then []else Zf.bP Lib.itoa (Zf.bt N4) (S.T gg.r.toNat)) gg.op.toList (if gg.op.toList=[]then []else Zf.bP Lib.itoa (Zf.bt N4) (S.T gg.z.toNat))=EI S.T (Zf.bt N4) gg:=by
       unfold EI Zf.mZ
       by_cases q1:gg.sg.toList=[]
       ·rw[if_pos q1,if_pos q1]
       ·rw[if_neg q1,if_neg q1,if_neg q1]
        by_cases q2:gg.op.toList=[]
        ·rw[if_pos q2,if_pos q2]
        ·rw[if_neg q2,if_neg q2,if_neg q2]
      dsimp only at IS
      rw[CY]at IS
      have aP:=hide hb2
      have MB:=hide Sy
      have jg:=hide hN4
      have SB:=hide Sz
      clear hb2 Sy hN4 Sz eV eV3 hsl hAl hR hZ hbI SA IT CY rvA rvB rvC fg4 nm4 hv4 IM e0 e1 e2 e3 e4 e5 e6
      generalize hSTR:EI S.T (Zf.bt N4) gg=STR at*
      have My:=hide hSTR
      clear hSTR
      go_wp2_with fail
      refine(ae IS).mono ?_
      rintro e w4 ⟨rfl,hb4⟩
      have vG:Below w2.heap.size w2 w4:=((Below.refl _ w2).alloc (Nat.le_refl _) _).trans (hb4.mono (by simp))
      have rE:=(ae aP).below vG
      have SC:=(vG.block _ (af (ae MB))).trans (ae MB)
      have r3:=ah rE.rb 3
      have rx3:=au rE.rb 3
      have rz:=af rE.rb
      simp only[List.getElem?_toArray,List.getElem?_cons_zero,List.getElem?_cons_succ]at r3
      have JL:=hide (show some (w.heap.size+1)≠(Value.slice go i gc).ownBlock from bX (aN rE.og rE.rb (by decide)))
      have Vk:=hide rE.og
      have yK:=hide rE
      have C0:=hide SC
      have bz4:b2≤w4.heap.size:=rE.bz
      have hil:i≤100:=by have:=ae ba;omega
      clear rE SC vG hb4 IS aP MB
      generalize uZ:(kE S.T (eO S.T V).2 (S.G.take i)).1.map iy=GS at*
      have Qr:=hide uZ
      clear uZ
      generalize hys:((S.G.take i).map fun g=>Value.bool (!gm S.fr g))=YS at*
      have Yu:=hide hys
      clear hys
      go_wp2_with (at_builtin;go_must (refine wpList_append_own_at _ rfl (.tmp 81) (.tmp 83) 26 rfl b2 9 ti (.string ⟨#[]⟩) 1 16 Tryz.underlying26 hi hz0 hz1 hz2 rfl (by decide) (.slice go i gc) i GS rfl ((ae Vk).alloc _) ⟨w4.heap.size,0,none⟩ 1 1 [.string ⟨STR.toArray⟩] rfl rfl (ju _ _ _ _ rfl) (by simp[Value.oneCell']) (by unfold maxLen;omega) (by omega) (by simp;omega) ?_);go_must (intro v' w7 hown' hgrow _ hat;obtain⟨g',cap',hv',-⟩:=ft hown';subst hv';have jD:=hide ((ae yK).goal (s:= .string ⟨STR.toArray⟩) hown' hgrow);have m2:=(hgrow.cell_far ⟨w.heap.size+1,3,none⟩ (by simp;omega) (ae JL)).trans ((World.cell?_alloc_past _ _ _ rz).trans r3);have k9:w7.frozen? ⟨w.heap.size+1,3,none⟩=false:=(by have:=au (ae jD).rb 3;rwa [World.frozen?_setCell]at this);have zz7:w.heap.size+1<w7.heap.size:=(by have:=af (ae jD).rb;rwa [bS]at this);have rF:=((pF (cell:=3) (ae yK).og hgrow (ae yK).rb (by decide) (.slice (some ⟨g',0,none⟩) (i+1) cap')).1 _ (fun e=>by have:=(ae yK).rb;rw[←e,ae C0]at this;simp only[Option.some.injEq,Obj.cells.injEq]at this;exact absurd this.2.1 (by decide)) (aN (ae yK).og (ae C0) (by decide)) (af (ae C0))).trans (ae C0);have d0:=ah rF 0;have d1:=ah rF 1;have d2:=ah rF 2;have d3:=ah rF 3;have d4:=ah rF 4;have d5:=ah rF 5;have d6:=ah rF 6;have dz:=af rF;simp only[List.getElem?_toArray,List.getElem?_cons_zero,List.getElem?_cons_succ]at d0 d1 d2 d3 d4 d5 d6;clear hown' hgrow hat rF))
      have lB:=(ae jD).be
      have IR:=hide (vC _ mb _ _ S.D nO nC S.fr gg 0 ((ae HH).st.below lB) (ae HH).ok (ai (ae Sw) fun k q=>lB.block k ((ae Sw).lt k q).2) (ae WX) (ae WY))
      clear lB
      refine(ae IR).mono ?_
      rintro e w8 ⟨rfl,ED⟩
      have rG:=(ae jD).below ED
      have r4:=ah rG.rb 4
      have rx4:=au rG.rb 4
      have rz8:=af rG.rb
      simp only[List.getElem?_toArray,List.getElem?_cons_zero,List.getElem?_cons_succ]at r4
      have WZ:=hide (show some (w.heap.size+1)≠(Value.slice yo i yc).ownBlock from bX (aN rG.oy rG.rb (by decide)))
      have Yv:=hide rG.oy
      have W5:=hide rG
      have bz8:b2≤w8.heap.size:=rG.bz
      clear rG ED IR jD m2 k9 zz7 d0 d1 d2 d3 d4 d5 d6 dz Vk yK C0 JL r3 rx3 rz
      generalize xI:gm S.fr gg=rd at*
      have Jq:=hide xI
      clear xI
      go_wp2_with (at_builtin;go_must (refine wpList_append_own_at _ rfl (.tmp 90) (.tmp 93) 27 rfl b2 4 tb (.bool false) 1 1 Tryz.underlying27 Yr hb0 hb1 hb2 rfl (by decide) (.slice yo i yc) i YS rfl ((ae Yv).alloc _) ⟨w8.heap.size,0,none⟩ 1 1 [.bool (!rd)] rfl rfl (ju _ _ _ _ rfl) (by simp[Value.oneCell']) (by unfold maxLen;omega) (by omega) (by simp;omega) ?_);go_must (intro v' w9 hown' hgrow _ hat;obtain⟨g9,cap9,hv',-⟩:=ft hown';subst hv';have jD:=hide ((ae W5).wait (s:= .bool (!rd)) hown' hgrow);have m2:=(hgrow.cell_far ⟨w.heap.size+1,4,none⟩ (by simp;omega) (ae WZ)).trans ((World.cell?_alloc_past _ _ _ rz8).trans r4);have k9:w9.frozen? ⟨w.heap.size+1,4,none⟩=false:=(by have:=au (ae jD).rb 4;rwa [World.frozen?_setCell]at this);have zz7:w.heap.size+1<w9.heap.size:=(by have:=af (ae jD).rb;rwa [bS]at this);clear hown' hgrow hat))
      go_roundg (gk - 1)
      case measure=>have:=ae aW;have:=ae ba;omega
      case rel=>
       refine⟨i+1,N4,mo4,mc4,some ⟨g',0,none⟩,cap',some ⟨g9,0,none⟩,cap9,by have:=ae aW;have:=ae ba;omega,by go_num,?_,by have:=ae jg;have:=ae LY;omega,?_⟩
       ·rw[ae rU,Ad]
        exact ae SB
       ·have hb:=ae jD
        rw[←ae Qr,←ae Yu]at hb
        rw[ae rU,Ad]
        have e1:(stepG S.T (kE S.T (eO S.T V).2 (S.G.take i)) gg).1.map iy=(kE S.T (eO S.T V).2 (S.G.take i)).1.map iy++[.string ⟨STR.toArray⟩]:=by
         unfold stepG
         rw[List.map_append,←ae SB,ae My]
         rfl
        have e2:((S.G.take i++[gg]).map fun g=>Value.bool (!gm S.fr g))=((S.G.take i).map fun g=>Value.bool (!gm S.fr g))++[.bool (!rd)]:=by
         rw[List.map_append,List.map_cons,ae Jq]
         rfl
        rw[e1,e2]
        exact hb
     ·obtain rfl:i=S.G.length:=by omega
      rw[List.take_length]at CX ot
      have Yw:=hide ot
      have r0:=ah ot.rb
      have z0:=ah ot.zb
      have zx:=au ot.zb
      have rz:=af ot.rb
      have zz:=af ot.zb
      clear ot hkj hlt CX hnl
      go_wp2_with fail
      refine bodyPost_ret (v:= .agg #[.int .i64 en,.slice lo L.length lc,.slice xo V.length xc,.slice go S.G.length gc,.slice yo S.G.length yc]) (by simp[results,Tryz.results39,go_sem,z0]) rfl ?_
      have hb:=ae Yw
      have hk:∀k,k≠w.heap.size→(((((wr.setCell ⟨w.heap.size,0,none⟩ (.int .i64 en)).setCell ⟨w.heap.size,1,none⟩ (.slice lo L.length lc)).setCell ⟨w.heap.size,2,none⟩ (.slice xo V.length xc)).setCell ⟨w.heap.size,3,none⟩ (.slice go S.G.length gc)).setCell ⟨w.heap.size,4,none⟩ (.slice yo S.G.length yc)).heap[k]?=wr.heap[k]?:=fun k q=>by
       rw[aC _ _ _ _ q,aC _ _ _ _ q,aC _ _ _ _ q,aC _ _ _ _ q,aC _ _ _ _ q]
      have bw:=hb.bw
      refine⟨xo,xc,go,gc,yo,yc,rfl,bV (ai hb.ox fun k q=>hk k (by have:=(hb.ox.lt k q).1;omega)) (by omega),bV (ai hb.og fun k q=>hk k (by have:=(hb.og.lt k q).1;omega)) (by omega),bV (ai hb.oy fun k q=>hk k (by have:=(hb.oy.lt k q).1;omega)) (by omega),fun k q r=> ?_,((((hb.be.setCell (Nat.le_refl _) _).setCell (Nat.le_refl _) _).setCell (Nat.le_refl _) _).setCell (Nat.le_refl _) _).setCell (Nat.le_refl _) _⟩
      have:=hb.xb k q
      have:=(cF hb.og r).1
      omega
end Go.Proofs.YthfjnfcekeknlabGreatDoor
namespace Go.Proofs.YthfjnfcekeknlabGreatDoor
open Go.RowKit
inductive yL (cls:List Zf.aI) (V:List Nat) (script:List (Int×Int)) (S0:cE):Nat→cE→List Int→Prop
 | start:yL cls V script S0 0 S0 []
 | step {j:Nat} {S S':cE} {L:List Int} {pg pc z:Int} {i:Nat} (h:yL cls V script S0 j S L) (hs:script[j]?=some (pg,pc)) (hi:(cJ S.fr S.G S.G.length)[dB pg (cJ S.fr S.G S.G.length).length]?=some i) (hg:CL cls S S' i pc z) (hl:mX V S'=false):yL cls V script S0 (j+1) S' (L++[z])
def SE (V:List Nat) (S:cE):Prop:=(∀v∈V,Zf.size (S.T v)≤300)∧∀g∈S.G,∀x:Int,x=(g.l:Int)∨x=g.r∨x=g.z→x≠-1→Zf.size (S.T x.toNat)≤300
theorem rH {T:Nat→Zf.U} {x:Int} (h:fY T x=false) (hx:x≠-1):Zf.size (T x.toNat)≤40:=by
 unfold fY at h
 have:=of_decide_eq_false h
 omega
theorem GN {w:World} {mb:Nat} {cls:List Zf.aI} {clo:Option Addr} {clc:Nat} {V:List Nat} {vo:Option Addr} {vc:Nat} {L:List Int} {lo:Option Addr} {lc:Nat} {S:cE} {nO:Option Addr} {nC:Nat} {po:Option Addr} {pc:Nat} (h:dW w mb cls clo clc V vo vc L lo lc S nO nC po pc) (hl:mX V S=false):SE V S∧S.G.length≤24:=by
 unfold mX at hl
 simp only[Bool.or_eq_false_iff,decide_eq_false_iff_not]at hl
 obtain⟨h1,h2,h3⟩:=hl
 refine⟨⟨fun v hv=> ?_,fun g hg x hx hne=> ?_⟩,by omega⟩
 ·have:=List.any_eq_false.1 h2 (v:Int) (List.mem_map.2 ⟨v,hv,rfl⟩)
  have:=rH (T:=S.T) (x:=(v:Int)) (by simpa using this) (by omega)
  simp at this
  omega
 ·have hb:∀y∈iL S.D S.fr g,fY S.T y=false:=fun y hy=>by
   have:=List.any_eq_false.1 h3 g hg
   unfold jr at this
   have:=List.any_eq_false.1 (by simpa using this) y hy
   simpa using this
  have gw:=h.gw g hg
  by_cases hs:g.sg.toList=[]
  ·have hr:=gw.r0 hs
   have hz:g.z= -1:=by
    by_cases ho:g.op.toList=[]
    ·exact gw.z0 ho
    ·have:=gw.oe ho;rw[hs]at this;cases this
   have hxl:x=(g.l:Int):=by
    rcases hx with q | q | q
    ·exact q
    ·exact absurd (q.trans hr) hne
    ·exact absurd (q.trans hz) hne
   rw[hxl]
   have e0:((g.l:Int)).toNat=g.l:=by simp
   rw[e0]
   have hf:=h.mc.ok.lt gw.ll
   obtain⟨d,hd,Aa,U8,NR,tA⟩:=(⟨h.mc.st,h.mc.ok,h.to,h.ar,Nat.le_refl _⟩:gj w w.heap.size mb 1 _ 88 S.D nO nC S.fr S.T _).node gw.ll
   obtain⟨tx,us,htx⟩:=gw.nm hs
   have hk1:d.k≠1:=fun q=>by rw[NR q]at htx;cases htx
   obtain⟨lk,ltx,lnum,hlab,hT⟩:=tA hk1
   rw[hT,Zf.size]
   have C2:iL S.D S.fr g=d.args.map fun n:Nat=>(n:Int):=by
    unfold iL
    rw[if_pos hs,hd]
    rfl
   have hal:d.args.length≤3:=by
    rcases Aa.ks with q | q | q
    ·rw[(Aa.v q).2.2.2];simp
    ·rw[(Aa.m q).2.2];simp
    ·exact(Aa.c q).2.2
   have key:∀(ns:List Nat),(∀n∈ns,Zf.size (S.T n)≤40)→Zf.sizeL (ns.map S.T)≤ns.length*40:=by
    intro ns
    induction ns with
    | nil=>intro _;simp[Zf.sizeL]
    | cons n ns ih=>
     intro hn
     have h1:=hn n (by simp)
     have h2:=ih (fun m hm=>hn m (by simp[hm]))
     rw[List.map_cons,Zf.sizeL,List.length_cons]
     omega
   have:=key d.args (fun n hn=>by
    have:=rH (T:=S.T) (x:=(n:Int)) (hb _ (by rw[C2];exact List.mem_map.2 ⟨n,hn,rfl⟩)) (by omega)
    simpa using this)
   omega
  ·have C2:iL S.D S.fr g=[(g.l:Int),g.r,g.z]:=by unfold iL;rw[if_neg hs]
   have:=rH (T:=S.T) (x:=x) (hb x (by rw[C2];rcases hx with q | q | q<;>simp[q])) hne
   omega
theorem dW.start {P:Nat→Prop} {w1 w3:World} {mb cb:Nat} {cls:List Zf.aI} {clo:Option Addr} {clc:Nat} {TT:Nat→Zf.U} {N:List (List UInt8)} {items:List Zf.aD} {E:List Ng} {F:List Nat} {no':Option Addr} {nc':Nat} {vo':Option Addr} {vc':Nat} {T':Nat→Zf.U} {Gn:List Gl} {po':Option Addr} {pc':Nat} (h:CD P w1 mb (p7 clo cls.length clc none 0 0 none 0 0 none 0 0 none 0 0 0) cb [] [] none none id TT [] none N [] items E F no' nc' vo' vc' T' Gn po' pc' w3) (hcl:dh w3 clo cls.length cls) (hgl:∀x∈items,Zf.iV x):
 dW (w3.setCell ⟨mb,2,none⟩ (.slice vo' F.length vc')) mb cls clo clc F vo' vc' [] none 0 ⟨E,id,T',Gn⟩ no' nc' po' pc':=by
 have ms:=h.ms
 have mc:=h.mc
 simp only[List.nil_append]at ms mc
 have hblk:=aw mc.st.blk 2 (.slice vo' F.length vc')
 have kT:∀{k:Nat} {ys:Array Value} {Y:TypeId},w3.heap[k]?=some (.cells ys Y (0,0))→Y≠88→(w3.setCell ⟨mb,2,none⟩ (.slice vo' F.length vc')).heap[k]?=w3.heap[k]?:=fun {k ys Y} hk h1=>aC _ _ _ _ (fun e=>by
  rw[e,mc.st.blk]at hk
  simp only[Option.some.injEq,Obj.cells.injEq]at hk
  exact h1 hk.2.1.symm)
 have kR:∀{b n cap sz:Nat} {Y:TypeId} {o:Option Addr} {zs:List Value},w3.ownsRow b Y sz (.slice o n cap) n zs→Y≠88→(w3.setCell ⟨mb,2,none⟩ (.slice vo' F.length vc')).ownsRow b Y sz (.slice o n cap) n zs:=fun {b n cap sz Y o zs} ho h1=>ai ho fun k q=>by
  obtain⟨cur,hc⟩:=aH ho (aG q)
  exact kT hc h1
 have tN:=h.gl.length
 refine⟨⟨⟨hblk,rfl,kR mc.st.own (by decide),mc.st.ty⟩,mc.ok,rfl,kR mc.pool (by decide),fun g hg=>kR (mc.nds g hg) (by decide),mc.nlt,mc.nl⟩,ms.to,ms.ad.args.keep fun g _ _ hg=>⟨(kT hg (by decide)).trans hg,fun⟨_,q,_⟩=>by cases q⟩,kR ms.ad.sc.own (by decide),ms.lt,World.ownsRow_nil _ _ _ _,(fun k ⟨_,q,_⟩=>by cases q),(fun g _ k _ ⟨_,q,_⟩=>by cases q),?_,?_,fun g hg=> ?_,?_⟩
 ·exact(show ez w3 _ from fun k ys Y hk hY=>(kT hk (by rcases hY with e | e | e<;>(rw[e];decide))).trans hk).cls hcl
 ·have:=h.nd.val (D:=[]) (fun d hd=>by cases hd)
  simpa using this
 ·change g∈Gn at hg
  obtain⟨j,hj,rfl⟩:=List.getElem_of_mem hg
  have:=(h.gl.at j (by omega) hj).gw (hgl _ (List.getElem_mem (by omega)))
  simpa using this
 ·have:=h.nd.EB (D:=[]) (fun d hd=>by cases hd)
  simpa using this
def kF (w:World) (so:Option Addr) (script:List (Int×Int)):Prop:=script≠[]→∃g off,so=some ⟨g,off,none⟩∧g<w.heap.size∧∀(i:Nat) (h:i<script.length),w.cell? ⟨g,off+i*2,none⟩=some (.int .i64 script[i].1)∧w.cell? ⟨g,off+i*2+1,none⟩=some (.int .i64 script[i].2)
structure C3 (N:List (List UInt8)) (items:List Zf.aD) (F:List Nat) (S:cE):Prop where
 fr:S.fr=id
 nd:dD 0 S.D
 nv:fe 0 S.D F
 ln:F.length=(Zf.ay [] items).length
 lt:∀v∈F,v<S.D.length
 sto:Zf.dI (aX S.D) S.fr S.T
 ok:bZ S.D S.fr
 gl:bR (mL S.T S.D.length (bT S.T F N)) items S.G
def tW (cls:List Zf.aI) (F:List Nat) (script:List (Int×Int)) (S0:cE) (b:Nat) (e:Ending) (w':World):Prop:=
 ∃(j:Nat) (S:cE) (L:List Int) (lo:Option Addr) (lc:Nat),yL cls F script S0 j S L∧
  ((((j=script.length∨cJ S.fr S.G S.G.length=[])∧∃(xo:Option Addr) (xc:Nat) (go:Option Addr) (gc:Nat) (yo:Option Addr) (yc:Nat),e= .returned (.agg #[.int .i64 (gJ S.fr S.G),.slice lo L.length lc,.slice xo F.length xc,.slice go S.G.length gc,.slice yo S.G.length yc])∧w'.ownsRow b 3 1 (.slice lo L.length lc) L.length (L.map fT)∧w'.ownsRow b 9 1 (.slice xo F.length xc) F.length ((eO S.T F).1.map iy)∧w'.ownsRow b 9 1 (.slice go S.G.length gc) S.G.length ((kE S.T (eO S.T F).2 S.G).1.map iy)∧w'.ownsRow b 4 1 (.slice yo S.G.length yc) S.G.length (S.G.map fun g=> .bool (!gm S.fr g))∧(∀k,rowOf xo k→¬rowOf go k)))∨
   (∃(pg pc:Int) (i:Nat) (en z:Int),script[j]?=some (pg,pc)∧(cJ S.fr S.G S.G.length)[dB pg (cJ S.fr S.G S.G.length).length]?=some i∧((JC cls S i pc en∧(en=4∨en=5)∧z= -2)∨(en=6∧∃S',CL cls S S' i pc z∧mX F S'=true))∧e= .returned (.agg #[.int .i64 en,.slice lo (L++[z]).length lc,.slice none 0 0,.slice none 0 0,.slice none 0 0])∧w'.ownsRow b 3 1 (.slice lo (L++[z]).length lc) (L++[z]).length ((L++[z]).map fT)))
structure QS (w:World) (cls:List Zf.aI) (clo:Option Addr) (clc:Nat) (F:List Nat) (vo:Option Addr) (vc:Nat) (script:List (Int×Int)) (S0:cE) (j:Nat) (S:cE) (L:List Int) (lo:Option Addr) (lc:Nat) (nO:Option Addr) (nC:Nat) (po:Option Addr) (pc:Nat) (wr:World):Prop where
 ru:yL cls F script S0 j S L
 ma:dW wr (w.heap.size+1) cls clo clc F vo vc L lo lc S nO nC po pc
 sm:SE F S
 gl:S.G.length≤100
 ll:L.length=j
 dl:S.D.length≤200000+j*1100000
 be:Below w.heap.size w wr
 rw_:∀k,(rowOf nO k∨rowOf po k∨rowOf lo k)→w.heap.size≤k
 zb:wr.heap[w.heap.size]?=some (.cells #[.int .i64 0,.slice none 0 0,.slice none 0 0,.slice none 0 0,.slice none 0 0] 29 (0,0))
def Vl (w:World) (cls:List Zf.aI) (clo:Option Addr) (clc:Nat) (F:List Nat) (vo:Option Addr) (vc:Nat) (script:List (Int×Int)) (S0:cE) (k:Nat) (iv:Value) (wr:World):Prop:=
 ∃(j:Nat) (S:cE) (L:List Int) (lo:Option Addr) (lc:Nat) (nO:Option Addr) (nC:Nat) (po:Option Addr) (pc:Nat),k+j=script.length∧iv= .int .i64 (j:Int)∧QS w cls clo clc F vo vc script S0 j S L lo lc nO nC po pc wr
theorem QS.below {w:World} {cls:List Zf.aI} {clo:Option Addr} {clc:Nat} {F:List Nat} {vo:Option Addr} {vc:Nat} {script:List (Int×Int)} {S0:cE} {j:Nat} {S:cE} {L:List Int} {lo:Option Addr} {lc:Nat} {nO:Option Addr} {nC:Nat} {po:Option Addr} {pc:Nat} {wr w':World} (h:QS w cls clo clc F vo vc script S0 j S L lo lc nO nC po pc wr) (hb:Below wr.heap.size wr w'):QS w cls clo clc F vo vc script S0 j S L lo lc nO nC po pc w':=
 ⟨h.ru,h.ma.below hb,h.sm,h.gl,h.ll,h.dl,h.be.trans (hb.mono h.be.size),h.rw_,(hb.block _ (af h.zb)).trans h.zb⟩
theorem sto_empty:Zf.dI (aX []) id (fun n=> .v ([],n)):=by
 have hg:∀n,Zf.gl (aX []) n=none:=fun n=>rfl
 have ha:∀n,Zf.ga (aX []) n=[]:=fun n=>rfl
 exact⟨⟨fun _=>rfl,fun n hn=>absurd (hg n) hn⟩,⟨fun n hn=>absurd (hg n) hn,fun n hn=>absurd (hg n) hn⟩,fun n=> .var (hg n) (ha n),fun n _=>ha n,fun n _=>Nat.le_refl _⟩
theorem okD_empty:bZ [] id:=⟨fun _ hn=>absurd hn (Nat.not_lt_zero _),fun _ hn=>absurd hn (Nat.not_lt_zero _),fun _ _=>rfl⟩
end Go.Proofs.YthfjnfcekeknlabGreatDoor
namespace Zf
open Go.Proofs.YthfjnfcekeknlabGreatDoor (fh dB gu)
def zU:U:= .n 0 [] 0 []
structure MG where
 a:U
 sg:List UInt8
 b:U
 op:List UInt8
 c:U
 wt:Bool
 on:Nat→Prop
structure MS where
 vs:List U
 gs:List MG
 lim:Nat
def MG.stays (σ:Vr→U) (g:MG):Prop:=g.wt=true∧∀v,g.on v→σ ([],v)= .v ([],v)
open Classical in
noncomputable def MG.put (σ:Vr→U) (g:MG):MG:=⟨sub σ g.a,g.sg,sub σ g.b,g.op,sub σ g.c,decide (g.stays σ),fun v=>g.stays σ∧g.on v⟩
def MG.of (η:List UInt8→U) (x:aD):MG:=⟨bJ η 8 x.left,x.sign,x.right.elim zU (bJ η 8),x.op,x.last.elim zU (bJ η 8),false,fun _=>False⟩
def di (u:U) (c:aI) (o:Nat→Nat) (y:List UInt8):U:=if y∈NH c then((matU 8 c.head u ⟨[],Wn.none⟩).st.find? (fun q=>q.1 == y)).elim zU (·.2)else .v ([],o ((NG c).idxOf y - (NH c).length))
def bI (lim:Nat) (u:U) (c:aI):Nat×List Nat:=if(matU 8 c.head u ⟨[],Wn.none⟩).w.says≠1 then((matU 8 c.head u ⟨[],Wn.none⟩).w.says,(matU 8 c.head u ⟨[],Wn.none⟩).w.wt)else((fP (di u c (lim+·)) c.tests).says,(fP (di u c (lim+·)) c.tests).wt.filter fun n=>decide (n<lim))
def jO (gs:List MG):List Nat:=(List.range gs.length).filter fun i=>match gs[i]? with
 | some g=> !g.wt
 | none=>false
def Yx (S S':MS) (i:Nat) (g:MG) (z:Int):Prop:=g.sg=[61]∧z=0∧∃σ,fF g.a g.b σ∧S'.vs=S.vs.map (sub σ)∧S'.gs=(S.gs.eraseIdx i).map (MG.put σ)
def Yy (S S':MS) (i:Nat) (g:MG) (z:Int):Prop:=g.sg=[58,61]∧z= -1∧(fp g.op g.b g.c).wt≠[]∧S'.vs=S.vs∧S'.gs=S.gs.set i ⟨g.a,g.sg,g.b,g.op,g.c,true,fun v=>v∈(fp g.op g.b g.c).wt⟩
def Yz (S S':MS) (i:Nat) (g:MG) (z:Int):Prop:=g.sg=[58,61]∧z=0∧(fp g.op g.b g.c).wt=[]∧∃x σ,fh g.op g.b g.c=some x∧fF g.a (.n 3 [] x []) σ∧S'.vs=S.vs.map (sub σ)∧S'.gs=(S.gs.eraseIdx i).map (MG.put σ)
def YA (S S':MS) (i:Nat) (g:MG) (z:Int):Prop:=g.sg=[]∧z=0∧g.a= .n 1 [116,114,117,101] 0 []∧S'.vs=S.vs∧S'.gs=S.gs.eraseIdx i
def oG (cls:List aI) (g:MG) (p:Int) (n:Nat) (lD:Nat→Nat):Prop:=g.sg=[]∧∃tx us,g.a= .n 1 tx 0 us∧¬(tx=[116,114,117,101]∧us=[])∧n=(bM cls tx us.length cls.length).length∧lD=gu (bM cls tx us.length cls.length) (dB p n)
def YB (cls:List aI) (S S':MS) (i:Nat) (g:MG) (p z:Int):Prop:=∃n lD,oG cls g p n lD∧∃(t:Nat) (c:aI) (F:List Nat),t<n∧(∀t' c',t'<t→cls[lD t']?=some c'→(bI S.lim g.a c').1≠1)∧cls[lD t]?=some c∧(bI S.lim g.a c).1=1∧z=((lD t+1:Nat):Int)∧F.length+(NH c).length=(NG c).length∧F.Pairwise (·<·)∧(∀f∈F,S.lim≤f∧f<S'.lim)∧S'.vs=S.vs∧S'.gs=S.gs.eraseIdx i++c.goals.map (MG.of (di g.a c fun k=>(F[k]?).getD 0))
def YC (cls:List aI) (S S':MS) (i:Nat) (g:MG) (p z:Int):Prop:=∃n lD,oG cls g p n lD∧z= -1∧(∀t c,t<n→cls[lD t]?=some c→(bI S.lim g.a c).1≠1)∧(∃t c,t<n∧cls[lD t]?=some c∧(bI S.lim g.a c).1=3)∧S'.vs=S.vs∧S'.gs=S.gs.set i ⟨g.a,g.sg,g.b,g.op,g.c,true,fun v=>∃t c,t<n∧cls[lD t]?=some c∧(bI S.lim g.a c).1=3∧v∈(bI S.lim g.a c).2⟩
def nr (cls:List aI) (S S':MS) (i:Nat) (p z:Int):Prop:=S.lim≤S'.lim∧∃g,S.gs[i]?=some g∧(Yx S S' i g z∨Yy S S' i g z∨Yz S S' i g z∨YA S S' i g z∨YB cls S S' i g p z∨YC cls S S' i g p z)
def EJ (cls:List aI) (S:MS) (i:Nat) (p en:Int):Prop:=∃g,S.gs[i]?=some g∧
 ((g.sg=[61]∧en=4∧∀θ,sub θ g.a≠sub θ g.b)∨
  (g.sg=[58,61]∧(fp g.op g.b g.c).wt=[]∧((en=5∧fh g.op g.b g.c=none)∨(en=4∧∃x,fh g.op g.b g.c=some x∧∀θ,sub θ g.a≠ .n 3 [] x [])))∨
  (en=4∧∃n lD,oG cls g p n lD∧∀t c,t<n→cls[lD t]?=some c→(bI S.lim g.a c).1=2))
def big (u:U):Bool:=decide (40<size u)
def pG (g:MG):Bool:=if g.sg=[]then(match g.a with
 | .v _=>false
 | .n _ _ _ us=>us.any big)else(big g.a||big g.b||big g.c)
def pH (S:MS):Bool:=decide (24<S.gs.length)||(S.vs.any big||S.gs.any pG)
def qd (a:List (List UInt8)×List Vr) (u:U):List (List UInt8)×List Vr:=(a.1++[bP Go.Lib.itoa (aZ a.2 u) u],aZ a.2 u)
def iW (vs:List U):List (List UInt8)×List Vr:=vs.foldl qd ([],[])
def iN (N:List Vr) (g:MG):List Vr:=aZ (aZ (aZ N g.a) g.b) g.c
def rI (N:List Vr) (g:MG):List UInt8:=mZ (bP Go.Lib.itoa N g.a) g.sg (bP Go.Lib.itoa N g.b) g.op (bP Go.Lib.itoa N g.c)
def nt (a:List (List UInt8)×List Vr) (g:MG):List (List UInt8)×List Vr:=(a.1++[rI (iN a.2 g) g],iN a.2 g)
def wD (N:List Vr) (gs:List MG):List (List UInt8)×List Vr:=gs.foldl nt ([],N)
def yM (gs:List MG):Int:=if gs=[]then 1 else if jO gs=[]then 2 else 3
inductive mC (cls:List aI) (script:List (Int×Int)) (S0:MS):Nat→MS→List Int→Prop
 | start:mC cls script S0 0 S0 []
 | step {j:Nat} {S S':MS} {L:List Int} {pg pc z:Int} {i:Nat} (h:mC cls script S0 j S L) (hs:script[j]?=some (pg,pc)) (hi:(jO S.gs)[dB pg (jO S.gs).length]?=some i) (hg:nr cls S S' i pc z) (hl:pH S'=false):mC cls script S0 (j+1) S' (L++[z])
def pI (cls:List aI) (script:List (Int×Int)) (S0:MS) (en:Int) (log:List Int) (vals gols:List (List UInt8)) (wts:List Bool):Prop:=∃(j:Nat) (S:MS) (L:List Int),mC cls script S0 j S L∧
 (((j=script.length∨jO S.gs=[])∧en=yM S.gs∧log=L∧vals=(iW S.vs).1∧gols=(wD (iW S.vs).2 S.gs).1∧wts=S.gs.map (·.wt))∨
  (∃(pg pc:Int) (i:Nat) (z:Int),script[j]?=some (pg,pc)∧(jO S.gs)[dB pg (jO S.gs).length]?=some i∧((EJ cls S i pc en∧z= -2)∨(en=6∧∃S',nr cls S S' i pc z∧pH S'=true))∧log=L++[z]∧vals=[]∧gols=[]∧wts=[]))
theorem JO (c:aI):∃K,NG c=NH c++K:=by
 have hO:∀(t:Option Tm) (ns:List (List UInt8)),∃M,cL ns t=ns++M:=fun t ns=>by
  cases t with
  | none=>exact⟨[],by simp[cL]⟩
  | some r=>exact namesV_ext 8 r ns
 have hI:∀(x:aD) (ns:List (List UInt8)),∃M,aL ns x=ns++M:=fun x ns=>by
  obtain⟨M1,h1⟩:=namesV_ext 8 x.left ns
  obtain⟨M2,h2⟩:=hO x.right (namesF 8 ns x.left)
  obtain⟨M3,h3⟩:=hO x.last (cL (namesF 8 ns x.left) x.right)
  exact⟨M1++(M2++M3),by unfold aL;rw[h3,h2,h1];simp⟩
 have hL:∀(xs:List aD) (ns:List (List UInt8)),∃M,ay ns xs=ns++M:=fun xs=>by
  induction xs with
  | nil=>exact fun ns=>⟨[],by simp[ay]⟩
  | cons x xs ih=>
   intro ns
   obtain⟨M1,h1⟩:=hI x ns
   obtain⟨M2,h2⟩:=ih (aL ns x)
   exact⟨M1++M2,by show ay (aL ns x) xs=_;rw[h2,h1];simp⟩
 obtain⟨M1,h1⟩:=hL c.tests (NH c)
 obtain⟨M2,h2⟩:=hL c.goals (NT c)
 exact⟨M1++M2,by unfold NG;rw[h2];unfold NT;rw[h1];simp⟩
theorem N5 (c:aI):∀y∈NT c,y∈NG c:=fun y hy=>by
 have hO:∀(t:Option Tm) (ns:List (List UInt8)),∀y∈ns,y∈cL ns t:=fun t ns y hy=>by
  cases t with
  | none=>exact hy
  | some r=>
   obtain⟨K,hK⟩:=namesV_ext 8 r ns
   show y∈namesF 8 ns r
   rw[hK];exact List.mem_append_left _ hy
 have hI:∀(x:aD) (ns:List (List UInt8)),∀y∈ns,y∈aL ns x:=fun x ns y hy=>by
  refine hO _ _ y (hO _ _ y ?_)
  obtain⟨K,hK⟩:=namesV_ext 8 x.left ns
  rw[hK];exact List.mem_append_left _ hy
 have hL:∀(xs:List aD) (ns:List (List UInt8)),∀y∈ns,y∈ay ns xs:=fun xs=>by
  induction xs with
  | nil=>exact fun ns y hy=>hy
  | cons x xs ih=>exact fun ns y hy=>ih _ y (hI x ns y hy)
 exact hL c.goals (NT c) y hy
theorem GP {c:aI} {y:List UInt8} (hy:y∈NG c) (hn:y∉NH c):(NH c).length≤(NG c).idxOf y∧(NG c).idxOf y<(NG c).length:=by
 refine⟨?_,List.idxOf_lt_length_of_mem hy⟩
 obtain⟨K,hK⟩:=JO c
 rw[hK,List.idxOf_append,if_neg hn]
 omega
theorem lU {r r':Nat→Nat} {P:Nat→Prop} (h:∀k,P k→r' k=r k) {u:U} (hu:bB (PQ P) u):bl r' u=bl r u:=sub_congr u fun x hx=>by
 unfold ren rn
 rw[h x.2 ((eX u).1 hu x hx).2]
theorem GQ (r:Nat→Nat):bl r zU=zU:=by unfold zU;rw[fR];rfl
theorem GR (Q:Vr→Prop):bB Q zU:= .n fun a ha=>by cases ha
theorem tX (Q:Vr→Prop):(bQ.mk [] Wn.none).kP Q:=⟨fun _ hq=>absurd hq List.not_mem_nil,dH Q⟩
theorem wE {r r':Nat→Nat} {P:Nat→Prop} (hi:ie r P) (h:∀k,P k→r' k=r k) {u:U} (hu:bB (PQ P) u) {c:aI} {o1 o2:Nat→Nat} {y:List UInt8} (ho:y∉NH c→r' (o1 ((NG c).idxOf y - (NH c).length))=o2 ((NG c).idxOf y - (NH c).length)):di (bl r u) c o2 y=bl r' (di u c o1 y):=by
 unfold di
 by_cases hy:y∈NH c
 ·rw[if_pos hy,if_pos hy]
  have:=wu hi 8 c.head u ⟨[],Wn.none⟩ hu (tX _)
  have e:(bQ.mk [] Wn.none).map r=⟨[],Wn.none⟩:=rfl
  rw[e]at this
  rw[this]
  show (((matU 8 c.head u ⟨[],Wn.none⟩).st.map fun q=>(q.1,bl r q.2)).find? (fun q=>q.1 == y)).elim zU (·.2)=_
  rw[CP]
  cases hq:(matU 8 c.head u ⟨[],Wn.none⟩).st.find? (fun q=>q.1 == y)with
  | none=>exact(GQ r').symm
  | some q=>exact(lU h ((mV 8 c.head u _ hu (tX _)).1 q (List.mem_of_find?_eq_some hq))).symm
 ·rw[if_neg hy,if_neg hy,p8,ho hy]
theorem yN {P P':Nat→Prop} (h:∀k,P k→P' k) {u:U} (hu:bB (PQ P) u) {c:aI} {o:Nat→Nat} {y:List UInt8} (ho:y∉NH c→P' (o ((NG c).idxOf y - (NH c).length))):bB (PQ P') (di u c o y):=by
 unfold di
 by_cases hy:y∈NH c
 ·rw[if_pos hy]
  cases hq:(matU 8 c.head u ⟨[],Wn.none⟩).st.find? (fun q=>q.1 == y)with
  | none=>exact GR _
  | some q=>exact((mV 8 c.head u _ hu (tX _)).1 q (List.mem_of_find?_eq_some hq)).mono fun x hx=>⟨hx.1,h _ hx.2⟩
 ·rw[if_neg hy]
  exact .v ⟨rfl,ho hy⟩
theorem C4 {r:Nat→Nat} {P:Nat→Prop} (hi:ie r P) {l1 l2:Nat} (h1:∀k,P k→k<l1) (h2:∀k,P k→r k<l2) {u:U} (hu:bB (PQ P) u) {c:aI} (hc:∀x∈c.tests,gW x):(bI l2 (bl r u) c).1=(bI l1 u c).1∧(bI l2 (bl r u) c).2=(bI l1 u c).2.map r∧∀v∈(bI l1 u c).2,P v:=by
 have hm:=wu hi 8 c.head u ⟨[],Wn.none⟩ hu (tX _)
 have e:(bQ.mk [] Wn.none).map r=⟨[],Wn.none⟩:=rfl
 rw[e]at hm
 have hw:(matU 8 c.head (bl r u) ⟨[],Wn.none⟩).w=(matU 8 c.head u ⟨[],Wn.none⟩).w.map r:=by rw[hm];rfl
 have hin:=(mV 8 c.head u ⟨[],Wn.none⟩ hu (tX _)).2
 unfold bI
 rw[hw,Wn.rB]
 by_cases hs:(matU 8 c.head u ⟨[],Wn.none⟩).w.says≠1
 ·rw[if_pos hs,if_pos hs]
  exact⟨rfl,rfl,hin.at⟩
 ·rw[if_neg hs,if_neg hs]
  let r':Nat→Nat:=fun k=>if k<l1 then r k else l2+(k - l1)
  let P':Nat→Prop:=fun k=>P k∨l1≤k
  have hr:∀k,P k→r' k=r k:=fun k hk=>if_pos (h1 k hk)
  have hr2:∀k,l1≤k→r' k=l2+(k - l1):=fun k hk=>if_neg (by omega)
  have hi':ie r' P':=fun i j hPi hPj q=>by
   rcases hPi with a | a<;>rcases hPj with b | b
   ·rw[hr i a,hr j b]at q;exact hi i j a b q
   ·rw[hr i a,hr2 j b]at q;have:=h2 i a;omega
   ·rw[hr2 i a,hr j b]at q;have:=h2 j b;omega
   ·rw[hr2 i a,hr2 j b]at q;omega
  have hY:∀y,bB (PQ P') (di u c (l1+·) y):=fun y=>yN (fun k hk=>Or.inl hk) hu fun _=>Or.inr (Nat.le_add_right _ _)
  have hE:di (bl r u) c (l2+·)=fun y=>bl r' (di u c (l1+·) y):=funext fun y=>wE hi hr hu fun _=>by
   rw[hr2 _ (Nat.le_add_right _ _)]
   congr 1
   omega
  rw[hE,EE hi' c.tests [] hc (fun y _=>hY y)]
  have hwt:=yC (η:=di u c (l1+·)) c.tests [] hc (fun y _=>hY y)
  refine⟨Wn.rB _ _,?_,fun v hv=> ?_⟩
  ·show ((fP (di u c (l1+·)) c.tests).wt.map r').filter _=_
   rw[List.filter_map]
   have:(fP (di u c (l1+·)) c.tests).wt.filter ((fun n=>decide (n<l2))∘r')=(fP (di u c (l1+·)) c.tests).wt.filter fun n=>decide (n<l1):=List.filter_congr fun w hw=>by
    show decide (r' w<l2)=decide (w<l1)
    rcases hwt.at w hw with q | q
    ·rw[hr w q,decide_eq_true (h2 w q),decide_eq_true (h1 w q)]
    ·rw[hr2 w q,decide_eq_false (by omega),decide_eq_false (by omega)]
   rw[this]
   refine List.map_congr_left fun w hw=> ?_
   obtain⟨hw1,hw2⟩:=List.mem_filter.1 hw
   exact if_pos (of_decide_eq_true hw2)
  ·obtain⟨hw1,hw2⟩:=List.mem_filter.1 hv
   have:=of_decide_eq_true hw2
   rcases hwt.at v hw1 with q | q
   ·exact q
   ·omega
end Zf
