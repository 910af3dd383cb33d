import Derived.Test.YthfjnfcekeknlaaGreatDoorMe25
import Derived.Test.YthfjnfcekeknlaaGreatDoorMe31
import Derived.Test.YthfjnfcekeknlaaGreatDoorMe32
import Derived.Deep.DeepCutAuto
import Derived.Deep.LoopGhost
set_option maxHeartbeats 8000000
set_option maxRecDepth 100000
namespace Zc
def ni (A sg B op C:List UInt8):List UInt8:=if sg=[]then A else if op=[]then A++(sg++B)++[]else A++(sg++B)++(op++C)
end Zc
namespace Go.Proofs.YthfjnfcekeknlaaGreatDoor
open Go.RowKit
theorem OW (w:World) (v:JV) (A B C:List UInt8) (hA:A.length≤1000000) (hB:B.length≤1000000) (hC:C.length≤1000000) (kN:v.sg.size≤2) (UY:v.op.size≤2) (IA:∀W,Below w.heap.size w W→Calls Tryz.prog 58 #[.agg #[.int .i64 v.a.k,.int .i64 v.a.val,.string v.a.tx,.slice v.a.ao v.a.n v.a.cap]] W fun e w'=>e= .returned (.string ⟨A.toArray⟩)∧Below W.heap.size W w') (IB:v.sg.toList≠[]→∀W,Below w.heap.size w W→Calls Tryz.prog 58 #[.agg #[.int .i64 v.b.k,.int .i64 v.b.val,.string v.b.tx,.slice v.b.ao v.b.n v.b.cap]] W fun e w'=>e= .returned (.string ⟨B.toArray⟩)∧Below W.heap.size W w') (IC:v.sg.toList≠[]→v.op.toList≠[]→∀W,Below w.heap.size w W→Calls Tryz.prog 58 #[.agg #[.int .i64 v.c.k,.int .i64 v.c.val,.string v.c.tx,.slice v.c.ao v.c.n v.c.cap]] W fun e w'=>e= .returned (.string ⟨C.toArray⟩)∧Below W.heap.size W w'):
 Calls Tryz.prog 87 #[.agg #[.int .i64 v.a.k,.int .i64 v.a.val,.string v.a.tx,.slice v.a.ao v.a.n v.a.cap,.string v.sg,.int .i64 v.b.k,.int .i64 v.b.val,.string v.b.tx,.slice v.b.ao v.b.n v.b.cap,.string v.op,.int .i64 v.c.k,.int .i64 v.c.val,.string v.c.tx,.slice v.c.ao v.c.n v.c.cap]] w fun e w'=>e= .returned (.string ⟨(Zc.ni A v.sg.toList B v.op.toList C).toArray⟩)∧Below w.heap.size w w':=by
 obtain⟨⟨ak0,av0,ax0,ao0,an0,ac0⟩,⟨bk0,bv0,bx0,bo0,bn0,bc0⟩,⟨ck0,cv0,cx0,co0,cn0,cc0⟩,sg,op⟩:=v
 dsimp only at*
 have hb0:=(Below.refl w.heap.size w).alloc (Nat.le_refl _) (.cells #[.int .i64 ak0,.int .i64 av0,.string ax0,.slice ao0 an0 ac0,.string sg,.int .i64 bk0,.int .i64 bv0,.string bx0,.slice bo0 bn0 bc0,.string op,.int .i64 ck0,.int .i64 cv0,.string cx0,.slice co0 cn0 cc0] 151)
 have eC:=heap_alloc_new w (.cells #[.int .i64 ak0,.int .i64 av0,.string ax0,.slice ao0 an0 ac0,.string sg,.int .i64 bk0,.int .i64 bv0,.string bx0,.slice bo0 bn0 bc0,.string op,.int .i64 ck0,.int .i64 cv0,.string cx0,.slice co0 cn0 cc0] 151)
 have bf:=af hb0
 have pZ:=af eC
 have RT:=af (IA _ hb0)
 clear hb0 eC IA
 by_cases h1:sg.toList=[]
 ·have HF:=af (show Zc.ni A sg.toList B op.toList C=A by unfold Zc.ni;rw[if_pos h1])
  have t1:(sg.toList == [])=true:=by rw[h1];rfl
  clear IB IC h1
  go_enter Tryz.func87,Tryz.ntmps87
  go_wp2_with fail
  refine(ae RT).mono ?_
  rintro e w1 ⟨rfl,hb1⟩
  have nj:=(hb1.block w.heap.size (by simp)).trans (ae pZ)
  have r1:=ah nj 4
  have z1:=ag nj
  simp only[List.getElem?_toArray,List.getElem?_cons_zero,List.getElem?_cons_succ]at r1
  have ba:=af ((ae bf).trans (hb1.mono (ae bf).size))
  clear hb1 nj
  go_wp2_with fail
  go_ret
  exact⟨by rw[ae HF];rfl,ae ba⟩
 ·have t1:(sg.toList == [])=false:=by simpa using h1
  have jM:=af (dA (rfl:sg.toList=sg.toList))
  have U9:=af (IB h1)
  by_cases h2:op.toList=[]
  ·have HF:=af (show Zc.ni A sg.toList B op.toList C=A++(sg.toList++B)++[]by unfold Zc.ni;rw[if_neg h1,if_pos h2])
   have t2:(op.toList == [])=true:=by rw[h2];rfl
   clear IB IC h1 h2
   go_enter Tryz.func87,Tryz.ntmps87
   go_wp2_with fail
   refine(ae RT).mono ?_
   rintro e w1 ⟨rfl,hb1⟩
   have nj:=(hb1.block w.heap.size (by simp)).trans (ae pZ)
   have r1:=ah nj
   have z1:=ag nj
   have uk:=(ae bf).trans (hb1.mono (ae bf).size)
   have ba:=af uk
   have Mc:=af nj
   clear hb1 nj uk
   go_wp2_with fail
   refine(ae U9 _ (ae ba)).mono ?_
   rintro e w2 ⟨rfl,hb2⟩
   have um:=(hb2.block w.heap.size z1).trans (ae Mc)
   have r2:=ah um
   have z2:=ag um
   have aX:=af ((ae ba).trans (hb2.mono (ae ba).size))
   clear hb2 um r1 z1
   go_wp2_with fail
   go_ret
   refine⟨?_,ae aX⟩
   rw[ae HF,←VT,←ae jM]
   rfl
  ·have HF:=af (show Zc.ni A sg.toList B op.toList C=A++(sg.toList++B)++(op.toList++C)by unfold Zc.ni;rw[if_neg h1,if_neg h2])
   have t2:(op.toList == [])=false:=by simpa using h2
   have Rg:=af (dA (rfl:op.toList=op.toList))
   have Ya:=af (IC h1 h2)
   clear IB IC h1 h2
   go_enter Tryz.func87,Tryz.ntmps87
   go_wp2_with fail
   refine(ae RT).mono ?_
   rintro e w1 ⟨rfl,hb1⟩
   have nj:=(hb1.block w.heap.size (by simp)).trans (ae pZ)
   have r1:=ah nj
   have z1:=ag nj
   have uk:=(ae bf).trans (hb1.mono (ae bf).size)
   have ba:=af uk
   have Mc:=af nj
   clear hb1 nj uk
   go_wp2_with fail
   refine(ae U9 _ (ae ba)).mono ?_
   rintro e w2 ⟨rfl,hb2⟩
   have um:=(hb2.block w.heap.size z1).trans (ae Mc)
   have r2:=ah um
   have z2:=ag um
   have RU:=(ae ba).trans (hb2.mono (ae ba).size)
   have aX:=af RU
   have Wy:=af um
   clear hb2 um r1 z1 RU
   go_wp2_with fail
   refine(ae Ya _ (ae aX)).mono ?_
   rintro e w3 ⟨rfl,hb3⟩
   have Md:=(hb3.block w.heap.size z2).trans (ae Wy)
   have r3:=ah Md
   have z3:=ag Md
   have bu:=af ((ae aX).trans (hb3.mono (ae aX).size))
   clear hb3 Md r2 z2
   go_wp2_with fail
   go_ret
   refine⟨?_,ae bu⟩
   rw[ae HF,←VU,←ae jM,←ae Rg]
   rfl
def iJ (T:Nat→Zc.U) (N:List Zc.Vr) (x:Int):List Zc.Vr:=if x= -1 then N else Zc.aU N (T x.toNat)
def Yb (T:Nat→Zc.U) (nb:Nat) (N:List Nat) (mo:Option Addr) (x:Int) (w:World) (e:Ending) (w':World):Prop:=∃(a:AV) (N':List Nat) (mo':Option Addr) (mc':Nat),e= .returned (.agg #[.int .i64 a.k,.int .i64 a.val,.string a.tx,.slice a.ao a.n a.cap])∧fj w' nb N' mo' mc'∧Zc.br N'=iJ T (Zc.br N) x∧(x≠-1→RV 1000 (Zc.br N') (fun g=>w.heap.size≤g) w' a (T x.toNat))∧au (bp nb mo) (bp nb mo') w w'
theorem NJ (w:World) (mb:Nat) (cs:Array Value) (D:List Ng) (nO:Option Addr) (nC:Nat) (fr:Nat→Nat) (T:Nat→Zc.U) (nb:Nat) (N:List Nat) (mo:Option Addr) (mc:Nat) (x:Int) (hs:bG w mb 1 cs 91 D nO nC) (ok:bV D fr) (fE:Zc.dH (aZ D) fr T) (hn:fj w nb N mo mc) (bt:a8 w D (fun g=>¬bp nb mo g)) (hx:pE D.length x) (hsz:x≠-1→Zc.size (T x.toNat)≤1000) (hN:N.length≤900000):
 Calls Tryz.prog 57 #[.pointer (some ⟨mb,1,none⟩),.int .i64 x,.pointer (some ⟨nb,0,none⟩)] w fun e w'=>Yb T nb N mo x w e w':=by
 rcases hx with rfl | ⟨n,rfl,hl⟩
 ·refine(Jq w mb 1 nb cs _ D nO nC hs).mono ?_
  rintro e w' ⟨rfl,hb⟩
  exact⟨⟨0,0,⟨#[]⟩,none,0,0⟩,N,mo,mc,rfl,hn.below hb,by unfold iJ;rw[if_pos rfl],fun q=>absurd rfl q,au.aw hb⟩
 ·have hne:((n:Int))≠-1:=by omega
  have hz:=hsz hne
  have e0:((n:Int)).toNat=n:=by simp
  rw[e0]at hz
  refine(tree_all 1000 w mb 1 cs _ D nO nC fr n (T n) nb N mo mc hs (by decide) (by decide) ok hn bt hl (fE.tr n) hz (by omega)).mono ?_
  rintro e w' ⟨a,N',mo',mc',rfl,h1,h2,h3,h4⟩
  refine⟨a,N',mo',mc',rfl,h1,by unfold iJ;rw[if_neg hne,e0];exact h2,fun _=> ?_,h4⟩
  rw[e0]
  exact h3
theorem rJ (u:Zc.U):∀N,∃K,Zc.aU N u=N++K:=by
 revert u
 refine Zc.U.ind (fun x N=> ?_) (fun k tx num ss ih N=> ?_)
 ·show∃K,Zc.lf N x=N++K
  unfold Zc.lf
  split
  ·exact⟨[],by simp⟩
  ·exact⟨[x],rfl⟩
 ·rw[Zc.fQ]
  induction ss generalizing N with
  | nil=>exact⟨[],by simp⟩
  | cons a ss ihs=>
   obtain⟨K1,h1⟩:=ih a (by simp) N
   obtain⟨K2,h2⟩:=ihs (fun b hb=>ih b (by simp[hb])) (Zc.aU N a)
   exact⟨K1++K2,by rw[List.foldl_cons,h2,h1,List.append_assoc]⟩
theorem EI (T:Nat→Zc.U) (N:List Zc.Vr) (x:Int):∃K,iJ T N x=N++K:=by
 unfold iJ
 split
 ·exact⟨[],by simp⟩
 ·exact rJ _ _
theorem je (u:Zc.U):∀N,(Zc.aU N u).length≤N.length+Zc.size u:=by
 revert u
 refine Zc.U.ind (fun x N=> ?_) (fun k tx num ss ih N=> ?_)
 ·show (Zc.lf N x).length≤_
  unfold Zc.lf
  rw[Zc.size]
  split
  ·omega
  ·simp
 ·rw[Zc.fQ,Zc.size]
  have key:∀(ss:List Zc.U) N,(∀a∈ss,∀N,(Zc.aU N a).length≤N.length+Zc.size a)→(ss.foldl Zc.aU N).length≤N.length+Zc.sizeL ss:=by
   intro ss
   induction ss with
   | nil=>intro N _;simp
   | cons a ss ihs=>
    intro N h
    have h1:=h a (by simp) N
    have h2:=ihs (Zc.aU N a) (fun b hb=>h b (by simp[hb]))
    rw[List.foldl_cons,Zc.sizeL]
    omega
  have:=key ss N ih
  omega
theorem RV.fr {f:Nat} {N:List Zc.Vr} {P:Nat→Prop} {w w':World} {a:AV} {u:Zc.U} (h:RV f N P w a u) {nb:Nat} {M:List Nat} {mo:Option Addr} {mc:Nat} (hn:fj w nb M mo mc) {R':Nat→Prop} (hf:au (bp nb mo) R' w w'):RV f N P w' a u:=h.keep fun g _ hp hg=>⟨(hf.block g (ag hg) (hn.apart hg (by decide) (by decide))).trans hg,hp⟩
theorem fj.n6 {w:World} {nb:Nat} {N:List Nat} {mo:Option Addr} {mc:Nat} (h:fj w nb N mo mc) {b:Nat} {ys:Array Value} (hb:w.heap[b]?=some (.cells ys 76 (0,0))) (c:Nat) (v:Value):fj (w.setCell ⟨b,c,none⟩ v) nb N mo mc:=
 ⟨(aL _ _ _ _ (fun e=>by have:=h.blk;rw[e,hb]at this;simp only[Option.some.injEq,Obj.cells.injEq]at this;exact absurd this.2.1 (by decide))).trans h.blk,ai h.own fun g q=>aL _ _ _ _ (fun e=>by
   obtain⟨cur,hc⟩:=aM h.own (aI q)
   rw[e,hb]at hc
   simp only[Option.some.injEq,Obj.cells.injEq]at hc
   exact absurd hc.2.1 (by decide))⟩
def SR (T:Nat→Zc.U) (nb:Nat) (x:Int) (W:World) (N1:List Nat) (mo1:Option Addr) (lv:Value) (wx:World):Prop:=∃(a:AV) (b:Nat) (N2:List Nat) (mo2:Option Addr) (mc2:Nat),lv= .pointer (some ⟨b,0,none⟩)∧au (bp nb mo1) (bp nb mo2) W wx∧fj wx nb N2 mo2 mc2∧Zc.br N2=iJ T (Zc.br N1) x∧(x≠-1→RV 1000 (Zc.br N2) anyA wx a (T x.toNat))∧wx.heap[b]?=some (.cells #[.int .i64 a.k,.int .i64 a.val,.string a.tx,.slice a.ao a.n a.cap] 76 (0,0))
def U' (T:Nat→Zc.U) (nb:Nat) (N:List Nat) (mo:Option Addr) (g:Gl) (w:World) (e:Ending) (w':World):Prop:=∃(a b c:AV) (N':List Nat) (mo':Option Addr) (mc':Nat),e= .returned (.agg #[.int .i64 a.k,.int .i64 a.val,.string a.tx,.slice a.ao a.n a.cap,.string g.sg,.int .i64 b.k,.int .i64 b.val,.string b.tx,.slice b.ao b.n b.cap,.string g.op,.int .i64 c.k,.int .i64 c.val,.string c.tx,.slice c.ao c.n c.cap])∧fj w' nb N' mo' mc'∧Zc.br N'=iJ T (iJ T (iJ T (Zc.br N) (g.l:Int)) g.r) g.z∧RV 1000 (Zc.br N') anyA w' a (T g.l)∧(g.r≠-1→RV 1000 (Zc.br N') anyA w' b (T g.r.toNat))∧(g.z≠-1→RV 1000 (Zc.br N') anyA w' c (T g.z.toNat))∧au (bp nb mo) (bp nb mo') w w'
theorem fj.other {w w':World} {nb:Nat} {N:List Nat} {mo:Option Addr} {mc:Nat} (h:fj w nb N mo mc) {b:Nat} {ys:Array Value} {Y:TypeId} (hb:w.heap[b]?=some (.cells ys Y (0,0))) (h1:Y≠123) (h2:Y≠3) (hk:∀k,k≠b→w'.heap[k]?=w.heap[k]?):fj w' nb N mo mc:=by
 have key:∀k,bp nb mo k→w'.heap[k]?=w.heap[k]?:=fun k q=>hk k (fun e=>h.apart hb h1 h2 (e ▸ q))
 exact⟨(key nb (Or.inl rfl)).trans h.blk,ai h.own fun g q=>key g (Or.inr (aI q))⟩
theorem RX {T:Nat→Zc.U} {nb:Nat} {N N1 N2 N3:List Nat} {mo mo3:Option Addr} {mc3 l nc:Nat} {sg op:ByteArray} {r z:Int} {wt:Bool} {no:Option Addr} {nd:List Nat} {w W3:World} {ak1 av1 ak2 av2 ak3 av3:Int} {ax1 ax2 ax3:ByteArray} {ao1 ao2 ao3:Option Addr} {an1 ac1 an2 ac2 an3 ac3:Nat} {ys:Array Value} (hf:au (bp nb mo) (bp nb mo3) w W3) (hn:fj W3 nb N3 mo3 mc3) (pH:W3.heap[w.heap.size+1]?=some (.cells ys 151 (0,0))) (hv:Zc.br N3=iJ T (iJ T (iJ T (Zc.br N) (l:Int)) r) z) (hv2:Zc.br N2=iJ T (Zc.br N1) r) (hv3:Zc.br N3=iJ T (Zc.br N2) z) (h1:(l:Int)≠-1→RV 1000 (Zc.br N1) anyA W3 ⟨ak1,av1,ax1,ao1,an1,ac1⟩ (T (l:Int).toNat)) (h2:r≠-1→RV 1000 (Zc.br N2) anyA W3 ⟨ak2,av2,ax2,ao2,an2,ac2⟩ (T r.toNat)) (h3:z≠-1→RV 1000 (Zc.br N3) anyA W3 ⟨ak3,av3,ax3,ao3,an3,ac3⟩ (T z.toNat)):
 U' T nb N mo ⟨l,sg,r,op,z,wt,no,nc,nd⟩ w (.returned (.agg #[.int .i64 ak1,.int .i64 av1,.string ax1,.slice ao1 an1 ac1,.string sg,.int .i64 ak2,.int .i64 av2,.string ax2,.slice ao2 an2 ac2,.string op,.int .i64 ak3,.int .i64 av3,.string ax3,.slice ao3 an3 ac3])) (((((((((((((((W3).setCell ⟨w.heap.size+1,0,none⟩ (.int .i64 ak1)).setCell ⟨w.heap.size+1,1,none⟩ (.int .i64 av1)).setCell ⟨w.heap.size+1,2,none⟩ (.string ax1)).setCell ⟨w.heap.size+1,3,none⟩ (.slice ao1 an1 ac1)).setCell ⟨w.heap.size+1,4,none⟩ (.string sg)).setCell ⟨w.heap.size+1,5,none⟩ (.int .i64 ak2)).setCell ⟨w.heap.size+1,6,none⟩ (.int .i64 av2)).setCell ⟨w.heap.size+1,7,none⟩ (.string ax2)).setCell ⟨w.heap.size+1,8,none⟩ (.slice ao2 an2 ac2)).setCell ⟨w.heap.size+1,9,none⟩ (.string op)).setCell ⟨w.heap.size+1,10,none⟩ (.int .i64 ak3)).setCell ⟨w.heap.size+1,11,none⟩ (.int .i64 av3)).setCell ⟨w.heap.size+1,12,none⟩ (.string ax3)).setCell ⟨w.heap.size+1,13,none⟩ (.slice ao3 an3 ac3)):=by
 have hk:∀k,k≠w.heap.size+1→(((((((((((((((W3).setCell ⟨w.heap.size+1,0,none⟩ (.int .i64 ak1)).setCell ⟨w.heap.size+1,1,none⟩ (.int .i64 av1)).setCell ⟨w.heap.size+1,2,none⟩ (.string ax1)).setCell ⟨w.heap.size+1,3,none⟩ (.slice ao1 an1 ac1)).setCell ⟨w.heap.size+1,4,none⟩ (.string sg)).setCell ⟨w.heap.size+1,5,none⟩ (.int .i64 ak2)).setCell ⟨w.heap.size+1,6,none⟩ (.int .i64 av2)).setCell ⟨w.heap.size+1,7,none⟩ (.string ax2)).setCell ⟨w.heap.size+1,8,none⟩ (.slice ao2 an2 ac2)).setCell ⟨w.heap.size+1,9,none⟩ (.string op)).setCell ⟨w.heap.size+1,10,none⟩ (.int .i64 ak3)).setCell ⟨w.heap.size+1,11,none⟩ (.int .i64 av3)).setCell ⟨w.heap.size+1,12,none⟩ (.string ax3)).setCell ⟨w.heap.size+1,13,none⟩ (.slice ao3 an3 ac3)).heap[k]?=W3.heap[k]?:=fun k q=>by
  rw[aL _ _ _ _ q,aL _ _ _ _ q,aL _ _ _ _ q,aL _ _ _ _ q,aL _ _ _ _ q,aL _ _ _ _ q,aL _ _ _ _ q,aL _ _ _ _ q,aL _ _ _ _ q,aL _ _ _ _ q,aL _ _ _ _ q,aL _ _ _ _ q,aL _ _ _ _ q,aL _ _ _ _ q]
 obtain⟨K2,e2⟩:=EI T (Zc.br N1) r
 obtain⟨K3,e3⟩:=EI T (Zc.br N2) z
 have keep:∀{f:Nat} {M:List Zc.Vr} {a:AV} {u:Zc.U},RV f M anyA W3 a u→RV f M anyA (((((((((((((((W3).setCell ⟨w.heap.size+1,0,none⟩ (.int .i64 ak1)).setCell ⟨w.heap.size+1,1,none⟩ (.int .i64 av1)).setCell ⟨w.heap.size+1,2,none⟩ (.string ax1)).setCell ⟨w.heap.size+1,3,none⟩ (.slice ao1 an1 ac1)).setCell ⟨w.heap.size+1,4,none⟩ (.string sg)).setCell ⟨w.heap.size+1,5,none⟩ (.int .i64 ak2)).setCell ⟨w.heap.size+1,6,none⟩ (.int .i64 av2)).setCell ⟨w.heap.size+1,7,none⟩ (.string ax2)).setCell ⟨w.heap.size+1,8,none⟩ (.slice ao2 an2 ac2)).setCell ⟨w.heap.size+1,9,none⟩ (.string op)).setCell ⟨w.heap.size+1,10,none⟩ (.int .i64 ak3)).setCell ⟨w.heap.size+1,11,none⟩ (.int .i64 av3)).setCell ⟨w.heap.size+1,12,none⟩ (.string ax3)).setCell ⟨w.heap.size+1,13,none⟩ (.slice ao3 an3 ac3)) a u:=fun {f M a u} q=>q.keep fun g _ _ hg=>⟨(hk g (fun e=>by rw[e,pH]at hg;simp only[Option.some.injEq,Obj.cells.injEq]at hg;exact absurd hg.2.1 (by decide))).trans hg,trivial⟩
 refine⟨⟨ak1,av1,ax1,ao1,an1,ac1⟩,⟨ak2,av2,ax2,ao2,an2,ac2⟩,⟨ak3,av3,ax3,ao3,an3,ac3⟩,N3,mo3,mc3,rfl,hn.other pH (by decide) (by decide) hk,hv,?_,fun q=> ?_,fun q=>keep (h3 q),((((((((((((((hf).eN (Nat.le_succ _) 0 _).eN (Nat.le_succ _) 1 _).eN (Nat.le_succ _) 2 _).eN (Nat.le_succ _) 3 _).eN (Nat.le_succ _) 4 _).eN (Nat.le_succ _) 5 _).eN (Nat.le_succ _) 6 _).eN (Nat.le_succ _) 7 _).eN (Nat.le_succ _) 8 _).eN (Nat.le_succ _) 9 _).eN (Nat.le_succ _) 10 _).eN (Nat.le_succ _) 11 _).eN (Nat.le_succ _) 12 _).eN (Nat.le_succ _) 13 _⟩
 ·have:=keep (h1 (by omega))
  have e0:((l:Int)).toNat=l:=by simp
  rw[e0]at this
  have t:=(this.more K2).more K3
  rwa [←e2,←hv2,←e3,←hv3]at t
 ·have t:=(keep (h2 q)).more K3
  rwa [←e3,←hv3]at t
theorem JI (w:World) (mb:Nat) (cs:Array Value) (D:List Ng) (nO:Option Addr) (nC:Nat) (fr:Nat→Nat) (T:Nat→Zc.U) (nb:Nat) (N:List Nat) (mo:Option Addr) (mc:Nat) (g:Gl) (hs:bG w mb 1 cs 91 D nO nC) (ok:bV D fr) (fE:Zc.dH (aZ D) fr T) (hn:fj w nb N mo mc) (bt:a8 w D (fun g=>¬bp nb mo g)) (hl:g.l<D.length) (hr:pE D.length g.r) (hz:pE D.length g.z) (hsz:∀x:Int,x=(g.l:Int)∨x=g.r∨x=g.z→x≠-1→Zc.size (T x.toNat)≤1000) (hN:N.length≤800000):
 Calls Tryz.prog 86 #[.pointer (some ⟨mb,0,none⟩),.agg #[.int .i64 (g.l:Int),.string g.sg,.int .i64 g.r,.string g.op,.int .i64 g.z,.bool g.wt,.slice g.no g.nd.length g.nc],.pointer (some ⟨nb,0,none⟩)] w fun e w'=>U' T nb N mo g w e w':=by
 obtain⟨l,sg,r,op,z,wt,no,nc,nd⟩:=g
 dsimp only at*
 have IT:=af (fun(x:Int) (N1:List Nat) (mo1:Option Addr) (mc1:Nat) (W:World) (hf:au (bp nb mo) (bp nb mo1) w W) (tB:fj W nb N1 mo1 mc1) (hx:pE D.length x) (hq:x≠-1→Zc.size (T x.toNat)≤1000) (jH:N1.length≤900000)=>NJ W mb cs D nO nC fr T nb N1 mo1 mc1 x (hs.Iq hn (by decide) (by decide) hf) ok fE tB (bt.Iq hf) hx hq jH)
 have xD:=af (show pE D.length (l:Int)from Or.inr ⟨l,rfl,hl⟩)
 have Yc:=af hr
 have Yd:=af hz
 have km:=af hsz
 have mz:=ag hs.blk
 have hb0:=((Below.refl w.heap.size w).alloc (Nat.le_refl _) (.cells #[.int .i64 (l:Int),.string sg,.int .i64 r,.string op,.int .i64 z,.bool wt,.slice no nd.length nc] 158)).alloc (by simp) (.cells #[.int .i64 0,.int .i64 0,.string ⟨#[]⟩,.slice none 0 0,.string ⟨#[]⟩,.int .i64 0,.int .i64 0,.string ⟨#[]⟩,.slice none 0 0,.string ⟨#[]⟩,.int .i64 0,.int .i64 0,.string ⟨#[]⟩,.slice none 0 0] 151)
 have hgx:=aB (heap_alloc_new w (.cells #[.int .i64 (l:Int),.string sg,.int .i64 r,.string op,.int .i64 z,.bool wt,.slice no nd.length nc] 158)) (.cells #[.int .i64 0,.int .i64 0,.string ⟨#[]⟩,.slice none 0 0,.string ⟨#[]⟩,.int .i64 0,.int .i64 0,.string ⟨#[]⟩,.slice none 0 0,.string ⟨#[]⟩,.int .i64 0,.int .i64 0,.string ⟨#[]⟩,.slice none 0 0] 151)
 have pH:=heap_alloc_new (w.alloc (.cells #[.int .i64 (l:Int),.string sg,.int .i64 r,.string op,.int .i64 z,.bool wt,.slice no nd.length nc] 158)) (.cells #[.int .i64 0,.int .i64 0,.string ⟨#[]⟩,.slice none 0 0,.string ⟨#[]⟩,.int .i64 0,.int .i64 0,.string ⟨#[]⟩,.slice none 0 0,.string ⟨#[]⟩,.int .i64 0,.int .i64 0,.string ⟨#[]⟩,.slice none 0 0] 151)
 rw[World.size_alloc]at pH
 have Y6:=af hn
 have HLEN:=af (show∀(N1:List Nat) (x:Int) (N2:List Nat),Zc.br N2=iJ T (Zc.br N1) x→(x≠-1→Zc.size (T x.toNat)≤1000)→N2.length≤N1.length+1000 from fun N1 x N2 he hq=>by
  have e1:(Zc.br N2).length=N2.length:=by unfold Zc.br;simp
  have e2:(Zc.br N1).length=N1.length:=by unfold Zc.br;simp
  rw[←e1,he,←e2]
  unfold iJ
  split
  ·omega
  ·rename_i hne
   exact Nat.le_trans (je _ _) (by have:=hq hne;omega))
 have RY:au (bp nb mo) (bp nb mo) w ((w.alloc (.cells #[.int .i64 (l:Int),.string sg,.int .i64 r,.string op,.int .i64 z,.bool wt,.slice no nd.length nc] 158)).alloc (.cells #[.int .i64 0,.int .i64 0,.string ⟨#[]⟩,.slice none 0 0,.string ⟨#[]⟩,.int .i64 0,.int .i64 0,.string ⟨#[]⟩,.slice none 0 0,.string ⟨#[]⟩,.int .i64 0,.int .i64 0,.string ⟨#[]⟩,.slice none 0 0] 151)):=au.aw hb0
 have RZ:=hn.below hb0
 have hz0:w.heap.size+2≤((w.alloc (.cells #[.int .i64 (l:Int),.string sg,.int .i64 r,.string op,.int .i64 z,.bool wt,.slice no nd.length nc] 158)).alloc (.cells #[.int .i64 0,.int .i64 0,.string ⟨#[]⟩,.slice none 0 0,.string ⟨#[]⟩,.int .i64 0,.int .i64 0,.string ⟨#[]⟩,.slice none 0 0,.string ⟨#[]⟩,.int .i64 0,.int .i64 0,.string ⟨#[]⟩,.slice none 0 0] 151)).heap.size:=by simp
 go_enter Tryz.func86,Tryz.ntmps86
 go_upto_region 1 with fail
 generalize hW0:((w.alloc (.cells #[.int .i64 (l:Int),.string sg,.int .i64 r,.string op,.int .i64 z,.bool wt,.slice no nd.length nc] 158)).alloc (.cells #[.int .i64 0,.int .i64 0,.string ⟨#[]⟩,.slice none 0 0,.string ⟨#[]⟩,.int .i64 0,.int .i64 0,.string ⟨#[]⟩,.slice none 0 0,.string ⟨#[]⟩,.int .i64 0,.int .i64 0,.string ⟨#[]⟩,.slice none 0 0] 151))=W0 at*
 have x0:=ah hgx 0
 have gz:=ag hgx
 simp only[List.getElem?_toArray,List.getElem?_cons_zero]at x0
 have nT:=af hgx
 have mB:=af pH
 have Me:=af RY
 have CP:=af RZ
 clear hs ok fE hn bt hl hr hz hsz hb0 hgx pH RY RZ hW0
 go_cut [7] (fun lv wx=>SR T nb (l:Int) W0 N mo lv wx)
 case first=>
  go_region_with (go_at_call 57;refine(ae IT (l:Int) N mo mc _ ((ae Me).trans (au.aw (by first | exact Below.refl _ _ | exact(Below.refl _ _).drew | exact((Below.refl _ _).alloc (Nat.le_refl _) _).drew | exact(Below.refl _ _).alloc (Nat.le_refl _) _))) ((ae CP).below (by first | exact Below.refl _ _ | exact(Below.refl _ _).drew | exact((Below.refl _ _).alloc (Nat.le_refl _) _).drew | exact(Below.refl _ _).alloc (Nat.le_refl _) _)) (ae xD) (ae km _ (Or.inl rfl)) (by have:=hN;omega)).mono ?_;rintro y w1 ⟨⟨ak,av,ax,ao,an,ac⟩,Nn,mon,mcn,rfl,nm,hv,rv,fg⟩;first | (have ab:=(fg.block W0.heap.size (by simp) (fun q=>by have:=(ae CP).rows _ q;omega)).trans (heap_alloc_new W0 (.cells #[.int .i64 0,.int .i64 0,.string ⟨#[]⟩,.slice none 0 0] 76));have ab0:=ah ab 0;have ab1:=ah ab 1;have ab2:=ah ab 2;have ab3:=ah ab 3;have ay0:=ay ab 0;have ay1:=ay ab 1;have ay2:=ay ab 2;have ay3:=ay ab 3;have abz:=ag ab;simp only[List.getElem?_toArray,List.getElem?_cons_zero,List.getElem?_cons_succ]at ab0 ab1 ab2 ab3) | skip)
  all_goals
   first
    | (have hab:=aA (aA (aA (aA ab 0 (.int .i64 ak)) 1 (.int .i64 av)) 2 (.string ax)) 3 (.slice ao an ac)
       have fgn:=((((((au.aw (R:=bp nb mo) (by first | exact Below.refl _ _ | exact(Below.refl _ _).drew | exact((Below.refl _ _).alloc (Nat.le_refl _) _).drew | exact(Below.refl _ _).alloc (Nat.le_refl _) _)).trans fg).eN (Nat.le_refl _) 0 (.int .i64 ak)).eN (Nat.le_refl _) 1 (.int .i64 av)).eN (Nat.le_refl _) 2 (.string ax)).eN (Nat.le_refl _) 3 (.slice ao an ac):au (bp nb mo) (bp nb mon) W0 _)
       have nmn:=((((nm.n6 ab 0 (.int .i64 ak)).n6 (aA ab 0 (.int .i64 ak)) 1 (.int .i64 av)).n6 (aA (aA ab 0 (.int .i64 ak)) 1 (.int .i64 av)) 2 (.string ax)).n6 (aA (aA (aA ab 0 (.int .i64 ak)) 1 (.int .i64 av)) 2 (.string ax)) 3 (.slice ao an ac))
       have rvn:=(fun q=>(rv q).keep (Q:=anyA) (w':=((((w1.setCell ⟨W0.heap.size,0,none⟩ (.int .i64 ak)).setCell ⟨W0.heap.size,1,none⟩ (.int .i64 av)).setCell ⟨W0.heap.size,2,none⟩ (.string ax)).setCell ⟨W0.heap.size,3,none⟩ (.slice ao an ac))) fun g _ hp hg=>⟨by have hne:g≠W0.heap.size:=(by have:W0.heap.size+1≤g:=(by simpa using hp);omega);rw[aL _ _ _ _ hne,aL _ _ _ _ hne,aL _ _ _ _ hne,aL _ _ _ _ hne];exact hg,trivial⟩))
    | (have hab:=heap_alloc_new w1 (.cells #[.int .i64 ak,.int .i64 av,.string ax,.slice ao an ac] 76)
       have fgn:=(((au.aw (R:=bp nb mo) (by first | exact Below.refl _ _ | exact(Below.refl _ _).drew | exact((Below.refl _ _).alloc (Nat.le_refl _) _).drew | exact(Below.refl _ _).alloc (Nat.le_refl _) _)).trans fg).trans (au.aw ((Below.refl _ _).alloc (Nat.le_refl _) (.cells #[.int .i64 ak,.int .i64 av,.string ax,.slice ao an ac] 76))):au (bp nb mo) (bp nb mon) W0 _)
       have nmn:=nm.below ((Below.refl _ _).alloc (Nat.le_refl _) (.cells #[.int .i64 ak,.int .i64 av,.string ax,.slice ao an ac] 76))
       have rvn:=(fun q=>(rv q).keep (Q:=anyA) (w':=w1.alloc (.cells #[.int .i64 ak,.int .i64 av,.string ax,.slice ao an ac] 76)) fun g _ _ hg=>⟨(Below.heap_alloc _ _ _ (ag hg)).trans hg,trivial⟩))
   try simp only[List.setIfInBounds_toArray,List.set_cons_zero,List.set_cons_succ]at hab
   go_wp2_with fail
   go_meet
   exact⟨⟨ak,av,ax,ao,an,ac⟩,_,Nn,mon,mcn,rfl,fgn,nmn,hv,rvn,hab⟩
 case rest=>
  obtain⟨⟨ak1,av1,ax1,ao1,an1,ac1⟩,b1,N1,mo1,mc1,rfl,fgn,nmn,hv,rvn,hab⟩:=hcut
  generalize hWc:wc=W1 at*
  clear hWc
  have hgx:=(fgn.block _ (ag (ae nT)) ((ae CP).apart (ae nT) (by decide) (by decide))).trans (ae nT)
  have pH:=(fgn.block _ (ag (ae mB)) ((ae CP).apart (ae mB) (by decide) (by decide))).trans (ae mB)
  have HFGn:=af ((ae Me).trans fgn)
  have R5:=af (show N1.length≤800000+1000 by have:=ae HLEN N (l:Int) N1 hv (ae km _ (Or.inl rfl));have:=hN;omega)
  have Ye:=af hv
  clear nT mB Me CP
  have nT:=af hgx
  have mB:=af pH
  have Mf:=HFGn
  have wQ:=af nmn
  have n7:=af hab
  have wR:=af rvn
  have x1:=ah hgx 2
  have gz1:=ag hgx
  simp only[List.getElem?_toArray,List.getElem?_cons_zero,List.getElem?_cons_succ]at x1
  clear hab fgn nmn rvn hgx pH hv x0 HFGn
  go_upto_region 2 with fail
  go_cut [8] (fun lv wx=>SR T nb r W1 N1 mo1 lv wx)
  case first=>
   go_region_with (go_at_call 57;refine(ae IT r N1 mo1 mc1 _ ((ae Mf).trans (au.aw (by first | exact Below.refl _ _ | exact(Below.refl _ _).drew | exact((Below.refl _ _).alloc (Nat.le_refl _) _).drew | exact(Below.refl _ _).alloc (Nat.le_refl _) _))) ((ae wQ).below (by first | exact Below.refl _ _ | exact(Below.refl _ _).drew | exact((Below.refl _ _).alloc (Nat.le_refl _) _).drew | exact(Below.refl _ _).alloc (Nat.le_refl _) _)) (ae Yc) (ae km _ (Or.inr (Or.inl rfl))) (by have:=(ae R5);omega)).mono ?_;rintro y w1 ⟨⟨ak,av,ax,ao,an,ac⟩,Nn,mon,mcn,rfl,nm,hv,rv,fg⟩;first | (have ab:=(fg.block W1.heap.size (by simp) (fun q=>by have:=(ae wQ).rows _ q;omega)).trans (heap_alloc_new W1 (.cells #[.int .i64 0,.int .i64 0,.string ⟨#[]⟩,.slice none 0 0] 76));have ab0:=ah ab 0;have ab1:=ah ab 1;have ab2:=ah ab 2;have ab3:=ah ab 3;have ay0:=ay ab 0;have ay1:=ay ab 1;have ay2:=ay ab 2;have ay3:=ay ab 3;have abz:=ag ab;simp only[List.getElem?_toArray,List.getElem?_cons_zero,List.getElem?_cons_succ]at ab0 ab1 ab2 ab3) | skip)
   all_goals
    first
     | (have hab:=aA (aA (aA (aA ab 0 (.int .i64 ak)) 1 (.int .i64 av)) 2 (.string ax)) 3 (.slice ao an ac)
        have fgn:=((((((au.aw (R:=bp nb mo1) (by first | exact Below.refl _ _ | exact(Below.refl _ _).drew | exact((Below.refl _ _).alloc (Nat.le_refl _) _).drew | exact(Below.refl _ _).alloc (Nat.le_refl _) _)).trans fg).eN (Nat.le_refl _) 0 (.int .i64 ak)).eN (Nat.le_refl _) 1 (.int .i64 av)).eN (Nat.le_refl _) 2 (.string ax)).eN (Nat.le_refl _) 3 (.slice ao an ac):au (bp nb mo1) (bp nb mon) W1 _)
        have nmn:=((((nm.n6 ab 0 (.int .i64 ak)).n6 (aA ab 0 (.int .i64 ak)) 1 (.int .i64 av)).n6 (aA (aA ab 0 (.int .i64 ak)) 1 (.int .i64 av)) 2 (.string ax)).n6 (aA (aA (aA ab 0 (.int .i64 ak)) 1 (.int .i64 av)) 2 (.string ax)) 3 (.slice ao an ac))
        have rvn:=(fun q=>(rv q).keep (Q:=anyA) (w':=((((w1.setCell ⟨W1.heap.size,0,none⟩ (.int .i64 ak)).setCell ⟨W1.heap.size,1,none⟩ (.int .i64 av)).setCell ⟨W1.heap.size,2,none⟩ (.string ax)).setCell ⟨W1.heap.size,3,none⟩ (.slice ao an ac))) fun g _ hp hg=>⟨by have hne:g≠W1.heap.size:=(by have:W1.heap.size+1≤g:=(by simpa using hp);omega);rw[aL _ _ _ _ hne,aL _ _ _ _ hne,aL _ _ _ _ hne,aL _ _ _ _ hne];exact hg,trivial⟩))
     | (have hab:=heap_alloc_new w1 (.cells #[.int .i64 ak,.int .i64 av,.string ax,.slice ao an ac] 76)
        have fgn:=(((au.aw (R:=bp nb mo1) (by first | exact Below.refl _ _ | exact(Below.refl _ _).drew | exact((Below.refl _ _).alloc (Nat.le_refl _) _).drew | exact(Below.refl _ _).alloc (Nat.le_refl _) _)).trans fg).trans (au.aw ((Below.refl _ _).alloc (Nat.le_refl _) (.cells #[.int .i64 ak,.int .i64 av,.string ax,.slice ao an ac] 76))):au (bp nb mo1) (bp nb mon) W1 _)
        have nmn:=nm.below ((Below.refl _ _).alloc (Nat.le_refl _) (.cells #[.int .i64 ak,.int .i64 av,.string ax,.slice ao an ac] 76))
        have rvn:=(fun q=>(rv q).keep (Q:=anyA) (w':=w1.alloc (.cells #[.int .i64 ak,.int .i64 av,.string ax,.slice ao an ac] 76)) fun g _ _ hg=>⟨(Below.heap_alloc _ _ _ (ag hg)).trans hg,trivial⟩))
    try simp only[List.setIfInBounds_toArray,List.set_cons_zero,List.set_cons_succ]at hab
    go_wp2_with fail
    go_meet
    exact⟨⟨ak,av,ax,ao,an,ac⟩,_,Nn,mon,mcn,rfl,fgn,nmn,hv,rvn,hab⟩
  case rest=>
   obtain⟨⟨ak2,av2,ax2,ao2,an2,ac2⟩,b2,N2,mo2,mc2,rfl,fgn,nmn,hv,rvn,hab⟩:=hcut
   generalize hWc:wc=W2 at*
   clear hWc
   have hgx:=(fgn.block _ (ag (ae nT)) ((ae wQ).apart (ae nT) (by decide) (by decide))).trans (ae nT)
   have pH:=(fgn.block _ (ag (ae mB)) ((ae wQ).apart (ae mB) (by decide) (by decide))).trans (ae mB)
   have CQ:=(fgn.block _ (ag (ae n7)) ((ae wQ).apart (ae n7) (by decide) (by decide))).trans (ae n7)
   have rv1:=(fun q=>((ae wR) q).fr (ae wQ) fgn)
   clear n7 wR
   have n7:=af CQ
   have wR:=af rv1
   clear CQ rv1
   have HFGn:=af ((ae Mf).trans fgn)
   have Sa:=af (show N2.length≤800000+2000 by have:=ae HLEN N1 r N2 hv (ae km _ (Or.inr (Or.inl rfl)));have:=(ae R5);omega)
   have zM:=af hv
   clear nT mB Mf wQ
   have nT:=af hgx
   have mB:=af pH
   have Mg:=HFGn
   have rR:=af nmn
   have wS:=af hab
   have Gz:=af rvn
   have x2:=ah hgx 4
   have gz2:=ag hgx
   simp only[List.getElem?_toArray,List.getElem?_cons_zero,List.getElem?_cons_succ]at x2
   clear hab fgn nmn rvn hgx pH hv x1 HFGn
   go_upto_region 3 with fail
   go_cut [9] (fun lv wx=>SR T nb z W2 N2 mo2 lv wx)
   case first=>
    go_region_with (go_at_call 57;refine(ae IT z N2 mo2 mc2 _ ((ae Mg).trans (au.aw (by first | exact Below.refl _ _ | exact(Below.refl _ _).drew | exact((Below.refl _ _).alloc (Nat.le_refl _) _).drew | exact(Below.refl _ _).alloc (Nat.le_refl _) _))) ((ae rR).below (by first | exact Below.refl _ _ | exact(Below.refl _ _).drew | exact((Below.refl _ _).alloc (Nat.le_refl _) _).drew | exact(Below.refl _ _).alloc (Nat.le_refl _) _)) (ae Yd) (ae km _ (Or.inr (Or.inr rfl))) (by have:=(ae Sa);omega)).mono ?_;rintro y w1 ⟨⟨ak,av,ax,ao,an,ac⟩,Nn,mon,mcn,rfl,nm,hv,rv,fg⟩;first | (have ab:=(fg.block W2.heap.size (by simp) (fun q=>by have:=(ae rR).rows _ q;omega)).trans (heap_alloc_new W2 (.cells #[.int .i64 0,.int .i64 0,.string ⟨#[]⟩,.slice none 0 0] 76));have ab0:=ah ab 0;have ab1:=ah ab 1;have ab2:=ah ab 2;have ab3:=ah ab 3;have ay0:=ay ab 0;have ay1:=ay ab 1;have ay2:=ay ab 2;have ay3:=ay ab 3;have abz:=ag ab;simp only[List.getElem?_toArray,List.getElem?_cons_zero,List.getElem?_cons_succ]at ab0 ab1 ab2 ab3) | skip)
    all_goals
     first
      | (have hab:=aA (aA (aA (aA ab 0 (.int .i64 ak)) 1 (.int .i64 av)) 2 (.string ax)) 3 (.slice ao an ac)
         have fgn:=((((((au.aw (R:=bp nb mo2) (by first | exact Below.refl _ _ | exact(Below.refl _ _).drew | exact((Below.refl _ _).alloc (Nat.le_refl _) _).drew | exact(Below.refl _ _).alloc (Nat.le_refl _) _)).trans fg).eN (Nat.le_refl _) 0 (.int .i64 ak)).eN (Nat.le_refl _) 1 (.int .i64 av)).eN (Nat.le_refl _) 2 (.string ax)).eN (Nat.le_refl _) 3 (.slice ao an ac):au (bp nb mo2) (bp nb mon) W2 _)
         have nmn:=((((nm.n6 ab 0 (.int .i64 ak)).n6 (aA ab 0 (.int .i64 ak)) 1 (.int .i64 av)).n6 (aA (aA ab 0 (.int .i64 ak)) 1 (.int .i64 av)) 2 (.string ax)).n6 (aA (aA (aA ab 0 (.int .i64 ak)) 1 (.int .i64 av)) 2 (.string ax)) 3 (.slice ao an ac))
         have rvn:=(fun q=>(rv q).keep (Q:=anyA) (w':=((((w1.setCell ⟨W2.heap.size,0,none⟩ (.int .i64 ak)).setCell ⟨W2.heap.size,1,none⟩ (.int .i64 av)).setCell ⟨W2.heap.size,2,none⟩ (.string ax)).setCell ⟨W2.heap.size,3,none⟩ (.slice ao an ac))) fun g _ hp hg=>⟨by have hne:g≠W2.heap.size:=(by have:W2.heap.size+1≤g:=(by simpa using hp);omega);rw[aL _ _ _ _ hne,aL _ _ _ _ hne,aL _ _ _ _ hne,aL _ _ _ _ hne];exact hg,trivial⟩))
      | (have hab:=heap_alloc_new w1 (.cells #[.int .i64 ak,.int .i64 av,.string ax,.slice ao an ac] 76)
         have fgn:=(((au.aw (R:=bp nb mo2) (by first | exact Below.refl _ _ | exact(Below.refl _ _).drew | exact((Below.refl _ _).alloc (Nat.le_refl _) _).drew | exact(Below.refl _ _).alloc (Nat.le_refl _) _)).trans fg).trans (au.aw ((Below.refl _ _).alloc (Nat.le_refl _) (.cells #[.int .i64 ak,.int .i64 av,.string ax,.slice ao an ac] 76))):au (bp nb mo2) (bp nb mon) W2 _)
         have nmn:=nm.below ((Below.refl _ _).alloc (Nat.le_refl _) (.cells #[.int .i64 ak,.int .i64 av,.string ax,.slice ao an ac] 76))
         have rvn:=(fun q=>(rv q).keep (Q:=anyA) (w':=w1.alloc (.cells #[.int .i64 ak,.int .i64 av,.string ax,.slice ao an ac] 76)) fun g _ _ hg=>⟨(Below.heap_alloc _ _ _ (ag hg)).trans hg,trivial⟩))
     try simp only[List.setIfInBounds_toArray,List.set_cons_zero,List.set_cons_succ]at hab
     go_wp2_with fail
     go_meet
     exact⟨⟨ak,av,ax,ao,an,ac⟩,_,Nn,mon,mcn,rfl,fgn,nmn,hv,rvn,hab⟩
   case rest=>
    obtain⟨⟨ak3,av3,ax3,ao3,an3,ac3⟩,b3,N3,mo3,mc3,rfl,fgn,nmn,hv,rvn,hab⟩:=hcut
    generalize hWc:wc=W3 at*
    clear hWc
    have hgx:=(fgn.block _ (ag (ae nT)) ((ae rR).apart (ae nT) (by decide) (by decide))).trans (ae nT)
    have pH:=(fgn.block _ (ag (ae mB)) ((ae rR).apart (ae mB) (by decide) (by decide))).trans (ae mB)
    have CQ:=(fgn.block _ (ag (ae n7)) ((ae rR).apart (ae n7) (by decide) (by decide))).trans (ae n7)
    have rv1:=(fun q=>((ae wR) q).fr (ae rR) fgn)
    clear n7 wR
    have n7:=af CQ
    have wR:=af rv1
    clear CQ rv1
    have Sb:=(fgn.block _ (ag (ae wS)) ((ae rR).apart (ae wS) (by decide) (by decide))).trans (ae wS)
    have rv2:=(fun q=>((ae Gz) q).fr (ae rR) fgn)
    clear wS Gz
    have wS:=af Sb
    have Gz:=af rv2
    clear Sb rv2
    have HFGn:=af ((ae Mg).trans fgn)
    have YQ:=af (show N3.length≤800000+3000 by have:=ae HLEN N2 z N3 hv (ae km _ (Or.inr (Or.inr rfl)));have:=(ae Sa);omega)
    have Va:=af hv
    clear nT mB Mg rR
    have nT:=af hgx
    have mB:=af pH
    have Wz:=HFGn
    have WC:=af nmn
    have Sc:=af hab
    have WD:=af rvn
    have x3:=ah hgx 1
    have gz3:=ag hgx
    simp only[List.getElem?_toArray,List.getElem?_cons_zero,List.getElem?_cons_succ]at x3
    clear hab fgn nmn rvn hgx pH hv x2 HFGn
    have y0:=ah (ae nT) 1
    have y1:=ah (ae nT) 3
    have ra:=ah (ae n7)
    have rb:=ah (ae wS)
    have rc:=ah (ae Sc)
    have rx:=ah (ae mB)
    have rxf:=ay (ae mB)
    have za:=ag (ae n7)
    have zb:=ag (ae wS)
    have zc:=ag (ae Sc)
    have zx:=ag (ae mB)
    have a0:=ra 0
    have a1:=ra 1
    have a2:=ra 2
    have a3:=ra 3
    have c0:=rb 0
    have c1:=rb 1
    have c2:=rb 2
    have c3:=rb 3
    have d0:=rc 0
    have d1:=rc 1
    have d2:=rc 2
    have d3:=rc 3
    simp only[List.getElem?_toArray,List.getElem?_cons_zero,List.getElem?_cons_succ]at y0 y1 a0 a1 a2 a3 c0 c1 c2 c3 d0 d1 d2 d3
    clear ra rb rc
    go_wp2_with fail
    refine bodyPost_ret (v:= .agg #[.int .i64 ak1,.int .i64 av1,.string ax1,.slice ao1 an1 ac1,.string sg,.int .i64 ak2,.int .i64 av2,.string ax2,.slice ao2 an2 ac2,.string op,.int .i64 ak3,.int .i64 av3,.string ax3,.slice ao3 an3 ac3]) (by simp[results,Tryz.results86,go_sem,rx]) rfl ?_
    exact RX (ae Wz) (ae WC) (ae mB) (by rw[ae Va,ae zM,ae Ye]) (ae zM) (ae Va) (ae wR) (ae Gz) (ae WD)
theorem infoBl:(Tryz.prog.info? 4).map (fun i=>(i.zero,i.size,i.bytes))=some (some (.bool false),1,1):=by kernel_rfl
theorem GA (w:World) (mb:Nat) (L:List Int) (lo:Option Addr) (lc:Nat) (en:Int) (h:kY w mb L lo lc en) (he:en=4∨en=5∨en=6):
 Calls Tryz.prog 47 #[.pointer (some ⟨mb,0,none⟩)] w fun e w'=>e= .returned (.agg #[.int .i64 en,.slice lo L.length lc,.slice none 0 0,.slice none 0 0,.slice none 0 0])∧Below w.heap.size w w':=by
 obtain⟨cs,hb,h6,h4,h5,ho⟩:=h
 have f4:=(ah hb 4).trans h4
 have f5:=(ah hb 5).trans h5
 have mz:=ag hb
 clear hb h6 h4 h5 ho
 rcases he with rfl | rfl | rfl
 all_goals
  go_enter Tryz.func47,Tryz.ntmps47
  go_wp2_with fail
  go_region
  all_goals
   go_wp2_with fail
   refine bodyPost_ret (v:= .agg #[.int .i64 _,.slice lo L.length lc,.slice none 0 0,.slice none 0 0,.slice none 0 0]) (by simp[results,Tryz.results47,go_sem];rfl) rfl ?_
   exact⟨rfl,(((Below.refl _ _).alloc (Nat.le_refl _) _).alloc (by simp) _).drew⟩
def vg (T:Nat→Zc.U) (a:List (List UInt8)×List Zc.Vr) (v:Nat):List (List UInt8)×List Zc.Vr:=(a.1++[Zc.bP Lib.itoa (Zc.aU a.2 (T v)) (T v)],Zc.aU a.2 (T v))
def eP (T:Nat→Zc.U) (V:List Nat):List (List UInt8)×List Zc.Vr:=V.foldl (vg T) ([],[])
theorem Am (T:Nat→Zc.U) (V:List Nat) (v:Nat):eP T (V++[v])=vg T (eP T V) v:=by unfold eP;rw[List.foldl_append];rfl
theorem CR (T:Nat→Zc.U) (V:List Nat):(eP T V).1.length=V.length:=by
 have key:∀(V:List Nat) (a:List (List UInt8)×List Zc.Vr),(V.foldl (vg T) a).1.length=a.1.length+V.length:=by
  intro V
  induction V with
  | nil=>intro a;simp
  | cons v V ih=>intro a;rw[List.foldl_cons,ih];simp[vg];omega
 have:=key V ([],[])
 simpa [eP] using this
def JJ (T:Nat→Zc.U) (N:List Zc.Vr) (g:Gl):List Zc.Vr:=iJ T (iJ T (iJ T N (g.l:Int)) g.r) g.z
def EJ (T:Nat→Zc.U) (N:List Zc.Vr) (g:Gl):List UInt8:=Zc.ni (Zc.bP Lib.itoa N (T g.l)) g.sg.toList (Zc.bP Lib.itoa N (T g.r.toNat)) g.op.toList (Zc.bP Lib.itoa N (T g.z.toNat))
def stepG (T:Nat→Zc.U) (a:List (List UInt8)×List Zc.Vr) (g:Gl):List (List UInt8)×List Zc.Vr:=(a.1++[EJ T (JJ T a.2 g) g],JJ T a.2 g)
def kJ (T:Nat→Zc.U) (N:List Zc.Vr) (G:List Gl):List (List UInt8)×List Zc.Vr:=G.foldl (stepG T) ([],N)
theorem Ao (T:Nat→Zc.U) (N:List Zc.Vr) (G:List Gl) (g:Gl):kJ T N (G++[g])=stepG T (kJ T N G) g:=by unfold kJ;rw[List.foldl_append];rfl
theorem CS (T:Nat→Zc.U) (N:List Zc.Vr) (G:List Gl):(kJ T N G).1.length=G.length:=by
 have key:∀(G:List Gl) (a:List (List UInt8)×List Zc.Vr),(G.foldl (stepG T) a).1.length=a.1.length+G.length:=by
  intro G
  induction G with
  | nil=>intro a;simp
  | cons v V ih=>intro a;rw[List.foldl_cons,ih];simp[stepG];omega
 have:=key G ([],N)
 simpa [kJ] using this
def iH (s:List UInt8):Value:= .string ⟨s.toArray⟩
theorem OX {D:List Ng} {fr:Nat→Nat} {T:Nat→Zc.U} (ok:bV D fr) (hS:Zc.dH (aZ D) fr T) (hv:∀d∈D,-1000000000≤d.val∧d.val≤1000000000) (ht:∀d∈D,d.tx.size≤240):∀n,n<D.length→Zc.o0 (T n):=by
 have key:∀{n u},Zc.Tr (aZ D) fr n u→n<D.length→Zc.o0 u:=by
  intro n u h
  induction h with
  | @var n _ _=>intro _ k tx num ss hm;simp[Zc.subs]at hm
  | @node n k tx num us hg hl _ ih=>
   intro hn
   have hf:=ok.lt hn
   have hd:=ok.nd (fr n) hf
   have ij:D[fr n]∈D:=List.getElem_mem hf
   rw[lY hf]at hg
   rw[jT hf]at hl ih
   refine Zc.o0.mk ?_ fun a ha=> ?_
   ·have h1:=hv _ ij
    have h2:=ht _ ij
    have h3:D[fr n].args.length≤3:=by
     rcases hd.ks with q | q | q
     ·rw[(hd.v q).2.2.2];simp
     ·rw[(hd.m q).2.2];simp
     ·exact(hd.c q).2.2
    unfold fw at hg
    split at hg
    ·cases hg
    ·split at hg
     ·injection hg with hg
      injection hg with e1 hg
      injection hg with e2 e3
      subst e2 e3
      exact⟨by simp,h1.1,h1.2,by omega⟩
     ·injection hg with hg
      injection hg with e1 hg
      injection hg with e2 e3
      subst e2 e3
      exact⟨by rw[Zc.nJ];exact h2,by omega,by omega,by omega⟩
   ·obtain⟨i,hi,rfl⟩:=List.getElem_of_mem ha
    exact ih i _ us[i] (List.getElem?_eq_getElem (by omega)) (List.getElem?_eq_getElem hi) (hd.inn _ (List.getElem_mem _))
 exact fun n hn=>key (hS.tr n) hn
structure VS (w:World) (T:Nat→Zc.U) (V:List Nat) (en:Int) (lo:Option Addr) (ln lc:Nat) (N:List Nat) (mo:Option Addr) (mc:Nat) (xo:Option Addr) (xc:Nat) (wr:World):Prop where
 nm:fj wr (w.heap.size+2) N mo mc
 vr:Zc.br N=(eP T V).2
 nl:N.length≤V.length*1000
 rw_:∀k,rowOf mo k→w.heap.size+3≤k
 ow:wr.ownsRow (w.heap.size+3) 9 1 (.slice xo V.length xc) V.length ((eP T V).1.map iH)
 rb:wr.heap[w.heap.size+1]?=some (.cells #[.int .i64 en,.slice lo ln lc,.slice xo V.length xc,.slice none 0 0,.slice none 0 0] 32 (0,0))
 zb:wr.heap[w.heap.size]?=some (.cells #[.int .i64 0,.slice none 0 0,.slice none 0 0,.slice none 0 0,.slice none 0 0] 32 (0,0))
 be:Below w.heap.size w wr
theorem pI {w4 w7:World} {n cell b rb:Nat} {xo:Option Addr} {xc:Nat} {Y:TypeId} {X:Obj} {xs:List Value} {C:Array Value} (ho:w4.ownsRow b Y 1 (.slice xo n xc) n xs) (hgr:(w4.alloc X).grownBy w7 (Value.slice xo n xc).ownBlock) (mH:w4.heap[rb]?=some (.cells C 32 (0,0))) (hY:Y≠32) (v:Value):
 (∀k,k≠rb→¬rowOf xo k→k<w4.heap.size→(w7.setCell ⟨rb,cell,none⟩ v).heap[k]?=w4.heap[k]?)∧(w7.setCell ⟨rb,cell,none⟩ v).heap[rb]?=some (.cells (C.setIfInBounds cell v) 32 (0,0)):=by
 have hz:=ag mH
 refine⟨fun k h1 h2 h3=> ?_,?_⟩
 ·rw[aL _ _ _ _ h1,hgr.block k (by simp;omega) (bS h2),Below.heap_alloc _ _ _ h3]
 ·refine aA ?_ cell v
  rw[hgr.block rb (by simp;omega) (bS (aQ ho mH (Ne.symm hY))),Below.heap_alloc _ _ _ hz]
  exact mH
theorem uo {w w4 w7:World} {n cell b rb:Nat} {xo:Option Addr} {xc:Nat} {Y:TypeId} {X:Obj} {xs:List Value} (aY:Below w.heap.size w w4) (ho:w4.ownsRow b Y 1 (.slice xo n xc) n xs) (zR:w.heap.size≤b) (hgr:(w4.alloc X).grownBy w7 (Value.slice xo n xc).ownBlock) (mH:w.heap.size≤rb) (v:Value):Below w.heap.size w (w7.setCell ⟨rb,cell,none⟩ v):=
 ((aY.alloc aY.size X).grown hgr (by have:=aY.size;simp;omega) (fun k q=>by have:=(ho.lt k q).1;omega)).setCell mH v
theorem fj.res {w4 w7:World} {n cell b rb nb:Nat} {xo:Option Addr} {xc:Nat} {Y:TypeId} {X:Obj} {xs:List Value} {C:Array Value} {N:List Nat} {mo:Option Addr} {mc:Nat} (h:fj w4 nb N mo mc) (ho:w4.ownsRow b Y 1 (.slice xo n xc) n xs) (hgr:(w4.alloc X).grownBy w7 (Value.slice xo n xc).ownBlock) (mH:w4.heap[rb]?=some (.cells C 32 (0,0))) (hY:Y≠32) (h1:Y≠123) (h2:Y≠3) (v:Value):fj (w7.setCell ⟨rb,cell,none⟩ v) nb N mo mc:=by
 obtain⟨keep,_⟩:=pI (cell:=cell) ho hgr mH hY v
 have key:∀{k:Nat} {ys:Array Value} {Z:TypeId},w4.heap[k]?=some (.cells ys Z (0,0))→Z≠Y→Z≠32→(w7.setCell ⟨rb,cell,none⟩ v).heap[k]?=w4.heap[k]?:=fun {k ys Z} hk q1 q2=>keep k (fun e=>by
  rw[e,mH]at hk
  simp only[Option.some.injEq,Obj.cells.injEq]at hk
  exact q2 hk.2.1.symm) (aQ ho hk q1) (ag hk)
 refine⟨(key h.blk (Ne.symm h1) (by decide)).trans h.blk,ai h.own fun g q=> ?_⟩
 obtain⟨cur,hc⟩:=aM h.own (aI q)
 exact key hc (Ne.symm h2) (by decide)
theorem VS.next {w:World} {T:Nat→Zc.U} {V:List Nat} {en:Int} {lo:Option Addr} {ln lc:Nat} {N:List Nat} {mo:Option Addr} {mc:Nat} {xo:Option Addr} {xc:Nat} {w4:World} (h:VS w T V en lo ln lc N mo mc xo xc w4) {v:Nat} {N':List Nat} (hz:N'.length≤N.length+1000) (hv:Zc.br N'=Zc.aU (eP T V).2 (T v)) {mo':Option Addr} {mc':Nat} {w5:World} (hn:fj w5 (w.heap.size+2) N' mo' mc') (nP:∀k,rowOf mo' k→w.heap.size+3≤k) (how:w5.ownsRow (w.heap.size+3) 9 1 (.slice xo V.length xc) V.length ((eP T V).1.map iH)) (mH:w5.heap[w.heap.size+1]?=some (.cells #[.int .i64 en,.slice lo ln lc,.slice xo V.length xc,.slice none 0 0,.slice none 0 0] 32 (0,0))) (hzb:w5.heap[w.heap.size]?=some (.cells #[.int .i64 0,.slice none 0 0,.slice none 0 0,.slice none 0 0,.slice none 0 0] 32 (0,0))) (aY:Below w.heap.size w w5) {X:Obj} {w7:World} {g' cap':Nat} (hown:w7.ownsRow (w.heap.size+3) 9 1 (.slice (some ⟨g',0,none⟩) (V.length+1) cap') (V.length+1) ((eP T V).1.map iH++[iH (Zc.bP Lib.itoa (Zc.br N') (T v))])) (hgr:(w5.alloc X).grownBy w7 (Value.slice xo V.length xc).ownBlock):
 VS w T (V++[v]) en lo ln lc N' mo' mc' (some ⟨g',0,none⟩) cap' (w7.setCell ⟨w.heap.size+1,2,none⟩ (.slice (some ⟨g',0,none⟩) (V.length+1) cap')):=by
 obtain⟨keep,CT⟩:=pI (cell:=2) how hgr mH (by decide) (.slice (some ⟨g',0,none⟩) (V.length+1) cap')
 have el:(V++[v]).length=V.length+1:=by simp
 refine⟨hn.res how hgr mH (by decide) (by decide) (by decide) _,by rw[Am];exact hv,?_,nP,?_,by rw[el];exact CT,?_,uo aY how (by omega) hgr (by omega) _⟩
 ·have:=h.nl
  rw[el,Nat.add_mul]
  omega
 ·rw[el,Am]
  have e:(vg T (eP T V) v).1.map iH=(eP T V).1.map iH++[iH (Zc.bP Lib.itoa (Zc.br N') (T v))]:=by
   unfold vg
   rw[List.map_append,←hv]
   rfl
  rw[e]
  exact ai hown fun k q=>aL _ _ _ _ (fun e=>by have:=(hown.lt k q).1;omega)
 ·refine(keep w.heap.size (by omega) (fun q=> ?_) (ag hzb)).trans hzb
  have:=(b9 how q).1
  omega
structure BN (w:World) (en:Int) (lo:Option Addr) (ln lc:Nat) (xo:Option Addr) (xn xc:Nat) (xs:List Value) (b2:Nat) (N:List Nat) (mo:Option Addr) (mc:Nat) (go:Option Addr) (gn gc:Nat) (gs:List Value) (yo:Option Addr) (yn yc:Nat) (ys:List Value) (wr:World):Prop where
 nm:fj wr (w.heap.size+2) N mo mc
 rw_:∀k,rowOf mo k→w.heap.size+3≤k
 ox:wr.ownsRow (w.heap.size+3) 9 1 (.slice xo xn xc) xn xs
 xb:∀k,rowOf xo k→k<b2
 og:wr.ownsRow b2 9 1 (.slice go gn gc) gn gs
 oy:wr.ownsRow b2 4 1 (.slice yo yn yc) yn ys
 rb:wr.heap[w.heap.size+1]?=some (.cells #[.int .i64 en,.slice lo ln lc,.slice xo xn xc,.slice go gn gc,.slice yo yn yc] 32 (0,0))
 zb:wr.heap[w.heap.size]?=some (.cells #[.int .i64 0,.slice none 0 0,.slice none 0 0,.slice none 0 0,.slice none 0 0] 32 (0,0))
 be:Below w.heap.size w wr
 bw:w.heap.size+3≤b2
 bz:b2≤wr.heap.size
section
variable {w:World} {en:Int} {lo:Option Addr} {ln lc:Nat} {xo:Option Addr} {xn xc:Nat} {xs:List Value} {b2:Nat} {N:List Nat} {mo:Option Addr} {mc:Nat} {go:Option Addr} {gn gc:Nat} {gs:List Value} {yo:Option Addr} {yn yc:Nat} {ys:List Value} {wr:World}
theorem BN.below (h:BN w en lo ln lc xo xn xc xs b2 N mo mc go gn gc gs yo yn yc ys wr) {w':World} (hb:Below wr.heap.size wr w'):BN w en lo ln lc xo xn xc xs b2 N mo mc go gn gc gs yo yn yc ys w':=
 ⟨h.nm.below hb,h.rw_,ai h.ox (fun k q=>hb.block k (h.ox.lt k q).2),h.xb,ai h.og (fun k q=>hb.block k (h.og.lt k q).2),ai h.oy (fun k q=>hb.block k (h.oy.lt k q).2),(hb.block _ (ag h.rb)).trans h.rb,(hb.block _ (ag h.zb)).trans h.zb,h.be.trans (hb.mono h.be.size),h.bw,Nat.le_trans h.bz hb.size⟩
theorem BN.names (h:BN w en lo ln lc xo xn xc xs b2 N mo mc go gn gc gs yo yn yc ys wr) {w':World} {N':List Nat} {mo':Option Addr} {mc':Nat} (hn:fj w' (w.heap.size+2) N' mo' mc') (hf:au (bp (w.heap.size+2) mo) (bp (w.heap.size+2) mo') wr w'):BN w en lo ln lc xo xn xc xs b2 N' mo' mc' go gn gc gs yo yn yc ys w':=by
 have yK:∀k,k<w.heap.size+2→¬bp (w.heap.size+2) mo k:=fun k hk q=>by
  rcases q with e | e
  ·omega
  ·have:=h.rw_ k e;omega
 have row:∀{b n cap:Nat} {Y:TypeId} {o:Option Addr} {zs:List Value},wr.ownsRow b Y 1 (.slice o n cap) n zs→Y≠123→Y≠3→w'.ownsRow b Y 1 (.slice o n cap) n zs:=fun {b n cap Y o zs} ho h1 h2=>ai ho fun k q=>by
  obtain⟨cur,hc⟩:=aM ho (aI q)
  exact hf.block k (ag hc) (h.nm.apart hc h1 h2)
 refine⟨hn,fun k q=> ?_,row h.ox (by decide) (by decide),h.xb,row h.og (by decide) (by decide),row h.oy (by decide) (by decide),(hf.block _ (ag h.rb) (yK _ (by omega))).trans h.rb,(hf.block _ (ag h.zb) (yK _ (by omega))).trans h.zb,h.be.trans (hf.down h.be.size fun k q=> ?_),h.bw,Nat.le_trans h.bz hf.size⟩
 ·rcases hf.row k (Or.inr q)with(e | e) | e
  ·exact absurd (e ▸ q) hn.ne
  ·exact h.rw_ k e
  ·have:=ag h.nm.blk;omega
 ·rcases q with e | e
  ·omega
  ·have:=h.rw_ k e;omega
theorem BN.goal (h:BN w en lo ln lc xo xn xc xs b2 N mo mc go gn gc gs yo yn yc ys wr) {X:Obj} {w7:World} {g' cap':Nat} {s:Value} (hown:w7.ownsRow b2 9 1 (.slice (some ⟨g',0,none⟩) (gn+1) cap') (gn+1) (gs++[s])) (hgr:(wr.alloc X).grownBy w7 (Value.slice go gn gc).ownBlock):BN w en lo ln lc xo xn xc xs b2 N mo mc (some ⟨g',0,none⟩) (gn+1) cap' (gs++[s]) yo yn yc ys (w7.setCell ⟨w.heap.size+1,3,none⟩ (.slice (some ⟨g',0,none⟩) (gn+1) cap')):=by
 obtain⟨keep,CT⟩:=pI (cell:=3) h.og hgr h.rb (by decide) (.slice (some ⟨g',0,none⟩) (gn+1) cap')
 have bw:=h.bw
 refine⟨h.nm.res h.og hgr h.rb (by decide) (by decide) (by decide) _,h.rw_,ai h.ox fun k q=> ?_,h.xb,ai hown fun k q=>aL _ _ _ _ (fun e=>by have:=(hown.lt k q).1;omega),ai h.oy fun k q=> ?_,CT,?_,uo h.be h.og (by omega) hgr (by omega) _,h.bw,?_⟩
 ·have h1:=b9 h.ox (aI q)
  have h2:=h.xb k (aI q)
  exact keep k (by omega) (fun r=>by have:=(b9 h.og r).1;omega) h1.2
 ·obtain⟨cur,hc⟩:=aM h.oy (aI q)
  have h1:=(b9 h.oy (aI q)).1
  exact keep k (by omega) (aQ h.og hc (by decide)) (ag hc)
 ·exact(keep w.heap.size (by omega) (fun r=>by have:=(b9 h.og r).1;omega) (ag h.zb)).trans h.zb
 ·rw[cN];have:=hgr.size;simp at this;have:=h.bz;omega
theorem BN.wait (h:BN w en lo ln lc xo xn xc xs b2 N mo mc go gn gc gs yo yn yc ys wr) {X:Obj} {w7:World} {g' cap':Nat} {s:Value} (hown:w7.ownsRow b2 4 1 (.slice (some ⟨g',0,none⟩) (yn+1) cap') (yn+1) (ys++[s])) (hgr:(wr.alloc X).grownBy w7 (Value.slice yo yn yc).ownBlock):BN w en lo ln lc xo xn xc xs b2 N mo mc go gn gc gs (some ⟨g',0,none⟩) (yn+1) cap' (ys++[s]) (w7.setCell ⟨w.heap.size+1,4,none⟩ (.slice (some ⟨g',0,none⟩) (yn+1) cap')):=by
 obtain⟨keep,CT⟩:=pI (cell:=4) h.oy hgr h.rb (by decide) (.slice (some ⟨g',0,none⟩) (yn+1) cap')
 have bw:=h.bw
 have kS:∀{b n cap:Nat} {o:Option Addr} {zs:List Value},wr.ownsRow b 9 1 (.slice o n cap) n zs→w.heap.size+3≤b→(w7.setCell ⟨w.heap.size+1,4,none⟩ (.slice (some ⟨g',0,none⟩) (yn+1) cap')).ownsRow b 9 1 (.slice o n cap) n zs:=fun {b n cap o zs} ho hb=>ai ho fun k q=>by
  obtain⟨cur,hc⟩:=aM ho (aI q)
  have h1:=(b9 ho (aI q)).1
  exact keep k (by omega) (aQ h.oy hc (by decide)) (ag hc)
 refine⟨h.nm.res h.oy hgr h.rb (by decide) (by decide) (by decide) _,h.rw_,kS h.ox (Nat.le_refl _),h.xb,kS h.og bw,ai hown fun k q=>aL _ _ _ _ (fun e=>by have:=(hown.lt k q).1;omega),CT,?_,uo h.be h.oy (by omega) hgr (by omega) _,h.bw,?_⟩
 ·exact(keep w.heap.size (by omega) (fun r=>by have:=(b9 h.oy r).1;omega) (ag h.zb)).trans h.zb
 ·rw[cN];have:=hgr.size;simp at this;have:=h.bz;omega
end
def Vb (w:World) (fr:Nat→Nat) (T:Nat→Zc.U) (N0:List Zc.Vr) (G:List Gl) (en:Int) (lo:Option Addr) (ln lc:Nat) (xo:Option Addr) (xn xc:Nat) (xs:List Value) (b2:Nat) (k:Nat) (iv:Value) (wr:World):Prop:=
 ∃(j:Nat) (N:List Nat) (mo:Option Addr) (mc:Nat) (go:Option Addr) (gc:Nat) (yo:Option Addr) (yc:Nat),k+j=G.length∧iv= .int .i64 (j:Int)∧Zc.br N=(kJ T N0 (G.take j)).2∧N.length≤100000+j*3000∧BN w en lo ln lc xo xn xc xs b2 N mo mc go j gc ((kJ T N0 (G.take j)).1.map iH) yo j yc ((G.take j).map fun g=> .bool (!fU fr g)) wr
def Vc (w:World) (T:Nat→Zc.U) (V:List Nat) (en:Int) (lo:Option Addr) (ln lc:Nat) (k:Nat) (iv:Value) (wr:World):Prop:=
 ∃(j:Nat) (N:List Nat) (mo:Option Addr) (mc:Nat) (xo:Option Addr) (xc:Nat),k+j=V.length∧iv= .int .i64 (j:Int)∧VS w T (V.take j) en lo ln lc N mo mc xo xc wr
theorem JK (w:World) (mb:Nat) (cls:List Zc.aJ) (clo:Option Addr) (clc:Nat) (V:List Nat) (vo:Option Addr) (vc:Nat) (L:List Int) (lo:Option Addr) (lc:Nat) (S:b8) (nO:Option Addr) (nC:Nat) (po:Option Addr) (pc:Nat) (en:Int) (h:cQ w mb (qq clo cls.length clc nO S.D.length nC vo V.length vc po S.G.length pc lo L.length lc en) S.D nO nC S.fr S.G po pc) (fE:Zc.dH (aZ S.D) S.fr S.T) (P:Nat→Prop) (bt:a8 w S.D P) (CU:w.ownsRow 0 3 1 (.slice vo V.length vc) V.length (V.map aK)) (jI:∀v∈V,v<S.D.length) (Aj:∀d∈S.D,-1000000000≤d.val∧d.val≤1000000000) (Iu:∀d∈S.D,d.tx.size≤240) (zN:∀g∈S.G,mA S.T S.D.length g) (CV:Pow w) (hen:en=1∨en=2∨en=3) (hV:V.length≤100) (hG:S.G.length≤100) (hsV:∀v∈V,Zc.size (S.T v)≤1000) (hsG:∀g∈S.G,∀x:Int,x=(g.l:Int)∨x=g.r∨x=g.z→x≠-1→Zc.size (S.T x.toNat)≤1000):
 Calls Tryz.prog 47 #[.pointer (some ⟨mb,0,none⟩)] w fun e w'=>∃(xo:Option Addr) (xc:Nat) (go:Option Addr) (gc:Nat) (yo:Option Addr) (yc:Nat),e= .returned (.agg #[.int .i64 en,.slice lo L.length lc,.slice xo V.length xc,.slice go S.G.length gc,.slice yo S.G.length yc])∧w'.ownsRow w.heap.size 9 1 (.slice xo V.length xc) V.length ((eP S.T V).1.map iH)∧w'.ownsRow w.heap.size 9 1 (.slice go S.G.length gc) S.G.length ((kJ S.T (eP S.T V).2 S.G).1.map iH)∧w'.ownsRow w.heap.size 4 1 (.slice yo S.G.length yc) S.G.length (S.G.map fun g=> .bool (!fU S.fr g))∧(∀k,rowOf xo k→¬rowOf go k)∧Below w.heap.size w w':=by
 have f2:w.cell? ⟨mb,2,none⟩=some (.slice vo V.length vc):=ah h.st.blk 2
 have f3:w.cell? ⟨mb,3,none⟩=some (.slice po S.G.length pc):=ah h.st.blk 3
 have f4:w.cell? ⟨mb,4,none⟩=some (.slice lo L.length lc):=ah h.st.blk 4
 have f5:w.cell? ⟨mb,5,none⟩=some (.int .i64 en):=ah h.st.blk 5
 have mz:=ag h.st.blk
 have t4:(en == 4)=false:=by rcases hen with q | q | q<;>(rw[q];rfl)
 have t5:(en == 5)=false:=by rcases hen with q | q | q<;>(rw[q];rfl)
 have t6:(en == 6)=false:=by rcases hen with q | q | q<;>(rw[q];rfl)
 have Mh:a8 w S.D (fun g=>g<w.heap.size):=bt.keep fun g _ _ hg=>⟨hg,ag hg⟩
 have HT:=af (fun(x:Int) (N1:List Nat) (mo1:Option Addr) (mc1:Nat) (W:World) (hb:Below w.heap.size w W) (tB:fj W (w.heap.size+2) N1 mo1 mc1) (nP:∀k,rowOf mo1 k→w.heap.size+3≤k) (hx:pE S.D.length x) (hq:x≠-1→Zc.size (S.T x.toNat)≤1000) (jH:N1.length≤900000)=>NJ W mb _ S.D nO nC S.fr S.T (w.heap.size+2) N1 mo1 mc1 x (h.st.below hb) h.ok fE tB ((Mh.below hb).keep fun g _ hp hg=>⟨hg,fun q=>by
  rcases q with e | e
  ·omega
  ·have:=nP g e;omega⟩) hx hq jH)
 have jm:=af (OX h.ok fE Aj Iu)
 have HST:=af (show Vc w S.T V en lo L.length lc V.length (.int .i64 0) (((((w.alloc (.cells #[.int .i64 0,.slice none 0 0,.slice none 0 0,.slice none 0 0,.slice none 0 0] 32)).alloc (.cells #[.int .i64 en,.slice lo L.length lc,.slice none 0 0,.slice none 0 0,.slice none 0 0] 32)).drew).alloc (.cells #[.slice none 0 0] 123)))from by
  have uk:=(((Below.refl w.heap.size w).alloc (Nat.le_refl _) (.cells #[.int .i64 0,.slice none 0 0,.slice none 0 0,.slice none 0 0,.slice none 0 0] 32)).alloc (by simp) (.cells #[.int .i64 en,.slice lo L.length lc,.slice none 0 0,.slice none 0 0,.slice none 0 0] 32)).drew
  have hb1:=uk.alloc uk.size (.cells #[.slice none 0 0] 123)
  have q0:=aB (aB (heap_alloc_new w (.cells #[.int .i64 0,.slice none 0 0,.slice none 0 0,.slice none 0 0,.slice none 0 0] 32)) (.cells #[.int .i64 en,.slice lo L.length lc,.slice none 0 0,.slice none 0 0,.slice none 0 0] 32)) (.cells #[.slice none 0 0] 123)
  have q1:=aB (heap_alloc_new (w.alloc (.cells #[.int .i64 0,.slice none 0 0,.slice none 0 0,.slice none 0 0,.slice none 0 0] 32)) (.cells #[.int .i64 en,.slice lo L.length lc,.slice none 0 0,.slice none 0 0,.slice none 0 0] 32)) (.cells #[.slice none 0 0] 123)
  have q2:=heap_alloc_new ((w.alloc (.cells #[.int .i64 0,.slice none 0 0,.slice none 0 0,.slice none 0 0,.slice none 0 0] 32)).alloc (.cells #[.int .i64 en,.slice lo L.length lc,.slice none 0 0,.slice none 0 0,.slice none 0 0] 32)) (.cells #[.slice none 0 0] 123)
  simp only[World.size_alloc]at q1 q2
  exact⟨0,[],none,0,none,0,by omega,rfl,⟨⟨q2,World.ownsRow_nil _ _ _ _⟩,rfl,by simp,(fun k ⟨_,q,_⟩=>by cases q),World.ownsRow_nil _ _ _ _,q1,q0,hb1⟩⟩)
 have Sd:=af CU
 have BV:=af jI
 have EH:=af CV
 have UG:=af hsV
 have jM:=af hsG
 have HH:=af h
 have Yf:=af zN
 have oq:=af Mh
 have Rp:=af fE
 obtain⟨ti,hi,hz0,hz1,hz2⟩:=info_parts infoStrS
 obtain⟨tb,Yg,hb0,hb1,hb2⟩:=info_parts infoBl
 clear h fE bt Mh CU jI Aj Iu zN CV hen hsV hsG
 go_enter Tryz.func47,Tryz.ntmps47
 go_upto_region 1 with fail
 go_cut [3] (fun tv wx=>tv= .pointer (some ⟨w.heap.size+1,0,none⟩)∧wx=((w.alloc (.cells #[.int .i64 0,.slice none 0 0,.slice none 0 0,.slice none 0 0,.slice none 0 0] 32)).alloc (.cells #[.int .i64 en,.slice lo L.length lc,.slice none 0 0,.slice none 0 0,.slice none 0 0] 32)).drew)
 case first=>
  go_region
  all_goals
   go_wp2_with fail
   go_meet
   exact⟨rfl,rfl⟩
 case rest=>
  obtain⟨rfl,rfl⟩:=hcut
  have NK:=(((Below.refl w.heap.size w).alloc (Nat.le_refl _) (.cells #[.int .i64 0,.slice none 0 0,.slice none 0 0,.slice none 0 0,.slice none 0 0] 32)).alloc (by simp) (.cells #[.int .i64 en,.slice lo L.length lc,.slice none 0 0,.slice none 0 0,.slice none 0 0] 32)).drew
  have oD:=NK.alloc NK.size (.cells #[.slice none 0 0] 123)
  have g2:=(oD.cell (p:=⟨mb,2,none⟩) mz).trans f2
  have g5:=(NK.cell (p:=⟨mb,5,none⟩) mz).trans f5
  have Vd:=((((Below.refl w.heap.size w).alloc (Nat.le_refl _) (.cells #[.int .i64 0,.slice none 0 0,.slice none 0 0,.slice none 0 0,.slice none 0 0] 32)).alloc (by simp) (.cells #[.int .i64 en,.slice lo L.length lc,.slice none 0 0,.slice none 0 0,.slice none 0 0] 32)).alloc (by simp;omega) (.cells #[.slice none 0 0] 123)).drew
  have g2':=(Vd.cell (p:=⟨mb,2,none⟩) mz).trans f2
  clear NK oD Vd
  go_wp2_with fail
  go_loopg [48] V.length (fun k iv wr=>Vc w S.T V en lo L.length lc k iv wr)
  case atStart=>exact ae HST
  case round=>
   clear HST
   obtain⟨j,N,mo,mc,xo,xc,hkj,rfl,iY⟩:=hrel
   clear g2 g2' g5
   by_cases hlt:j<V.length
   ·obtain⟨g,hg⟩:∃g,vo=some ⟨g,0,none⟩:=by
     rcases(ae Sd).2 with⟨q,q2⟩ | ⟨g,cp,cur,q,_⟩
     ·omega
     ·simp only[Value.slice.injEq]at q
      exact⟨g,q.1⟩
    subst hg
    have gz0:=((ae Sd).lt g rfl).2
    have e0:wr.cell? ⟨g,j,none⟩=some (.int .i64 (V[j]:Int)):=by
     rw[iY.be.cell (p:=⟨g,j,none⟩) gz0,(ae Sd).cellAt j (by omega),List.getElem?_map,List.getElem?_eq_getElem hlt]
     rfl
    have A9:V[j]∈V:=List.getElem_mem hlt
    have hsz:=ae UG _ A9
    have jI:=ae BV _ A9
    have hsm:=ae jm _ jI
    have oJ:V.take (j+1)=V.take j++[V[j]]:=by rw[List.take_add_one,List.getElem?_eq_getElem hlt];rfl
    have hlen:(V.take j).length=j:=by rw[List.length_take];omega
    have gz:g<wr.heap.size:=Nat.lt_of_lt_of_le gz0 iY.be.size
    have mzr:mb<wr.heap.size:=Nat.lt_of_lt_of_le mz iY.be.size
    have i0:(0:Int)≤(j:Int):=by omega
    have i1:(j:Int)<(V.length:Int):=by omega
    generalize V[j]=v at*
    have hNl:N.length≤100000:=by have:=iY.nl;rw[hlen]at this;omega
    have IT:=af (ae HT (v:Int) N mo mc wr iY.be iY.nm iY.rw_ (Or.inr ⟨v,rfl,jI⟩) (fun _=>by simpa using hsz) (by omega))
    have nU:=af iY
    have aW:=af hkj
    have bh:=af hlt
    have sD:=af oJ
    have km:=af hsz
    have Sg:=af hsm
    have HLEN:=af hlen
    clear iY hkj hlt oJ hsz jI hsm hlen A9
    go_wp2_with fail
    refine(ae IT).mono ?_
    rintro e w2 ⟨⟨ak,av,ax,ao,an,ac⟩,N',mo',mc',rfl,nm2,hv2,rv2,fg2⟩
    have hrow:∀k,bp (w.heap.size+2) mo k→w.heap.size≤k:=fun k q=>by
     rcases q with e | e
     ·omega
     ·have:=(ae nU).rw_ k e;omega
    have uq:Below w.heap.size w w2:=(ae nU).be.trans (fg2.down (ae nU).be.size hrow)
    have Mi:=uq.alloc uq.size (.cells #[.int .i64 ak,.int .i64 av,.string ax,.slice ao an ac] 76)
    have yK:∀k,k<w.heap.size+2→¬bp (w.heap.size+2) mo k:=fun k hk q=>by
     rcases q with e | e
     ·omega
     ·have:=(ae nU).rw_ k e;omega
    have Sh:=(fg2.block _ (ag (ae nU).rb) (yK _ (by omega))).trans (ae nU).rb
    have Si:=(fg2.block _ (ag (ae nU).zb) (yK _ (by omega))).trans (ae nU).zb
    have Sj:w2.ownsRow (w.heap.size+3) 9 1 (.slice xo (V.take j).length xc) (V.take j).length ((eP S.T (V.take j)).1.map iH):=ai (ae nU).ow fun k q=>by
     obtain⟨cur,hc⟩:=aM (ae nU).ow (aI q)
     exact fg2.block k (ag hc) ((ae nU).nm.apart hc (by decide) (by decide))
    have yD:∀k,rowOf mo' k→w.heap.size+3≤k:=fun k q=>by
     rcases fg2.row k (Or.inr q)with(e | e) | e
     ·exfalso
      exact nm2.ne (e ▸ q)
     ·exact(ae nU).rw_ k e
     ·have:=ag (ae nU).nm.blk;omega
    have Mj:Zc.br N'=Zc.aU (eP S.T (V.take j)).2 (S.T v):=by
     rw[hv2]
     unfold iJ
     rw[if_neg (by omega),(ae nU).vr]
     simp
    have hN2:N'.length≤N.length+1000:=by
     have e1:(Zc.br N').length=N'.length:=by unfold Zc.br;simp
     have e2:(Zc.br N).length=N.length:=by unfold Zc.br;simp
     have:=je (S.T v) (eP S.T (V.take j)).2
     rw[←Mj,e1,←(ae nU).vr,e2]at this
     have:=ae km
     omega
    have rv3:RV 1000 (Zc.br N') anyA w2 ⟨ak,av,ax,ao,an,ac⟩ (S.T v):=by
     have:=rv2 (by omega)
     have e0:((v:Int)).toNat=v:=by simp
     rw[e0]at this
     exact this.keep fun g _ _ hg=>⟨hg,trivial⟩
    have rv4:=rv3.keep (Q:=anyA) (w':=w2.alloc (.cells #[.int .i64 ak,.int .i64 av,.string ax,.slice ao an ac] 76)) fun g _ _ hg=>⟨(Below.heap_alloc _ _ _ (ag hg)).trans hg,trivial⟩
    have eV:(Zc.br N').length=N'.length:=by unfold Zc.br;simp
    have IS:=af (stU_all 1000 _ (Zc.br N') anyA ⟨ak,av,ax,ao,an,ac⟩ (S.T v) rv4 ((ae EH).below Mi) (by rw[eV];omega) (ae Sg) (ae km))
    have hSl:=Zc.o5 (N:=Zc.br N') (by rw[eV];omega) (S.T v) (ae Sg)
    have hSl':(Zc.bP Lib.itoa (Zc.br N') (S.T v)).length≤300000:=by have:=ae km;omega
    have gW:=af nm2
    have Yh:=af Mj
    have tM:=af hN2
    have Yi:=af yD
    have yC:=af Sj
    have Mk:=af Sh
    have Ml:=af Si
    have WE:=af Mi
    have Mm:=af uq
    clear nm2 hv2 Mj hN2 yD Sj Sh Si Mi uq rv2 rv3 rv4 fg2 eV hrow yK hSl IT e0
    generalize CW:Zc.bP Lib.itoa (Zc.br N') (S.T v)=STR at*
    have Mn:=af CW
    clear CW
    go_wp2_with fail
    refine(ae IS).mono ?_
    rintro e w4 ⟨rfl,hb4⟩
    have vW:Below w2.heap.size w2 w4:=((Below.refl _ w2).alloc (Nat.le_refl _) _).trans (hb4.mono (by simp))
    have GC:=ai (ae yC) fun k q=>vW.block k ((ae yC).lt k q).2
    have yL:=(vW.block _ (ag (ae Mk))).trans (ae Mk)
    have Sk:=(vW.block _ (ag (ae Ml))).trans (ae Ml)
    have Mo:=(ae gW).below vW
    have CX:=(ae Mm).trans (vW.mono (ae Mm).size)
    have r2:=ah yL 2
    have rx2:=ay yL 2
    have rz:=ag yL
    simp only[List.getElem?_toArray,List.getElem?_cons_zero,List.getElem?_cons_succ]at r2
    rw[ae HLEN]at r2
    have JL:=af (show some (w.heap.size+1)≠(Value.slice xo (V.take j).length xc).ownBlock from bS (aQ GC yL (by decide)))
    rw[ae HLEN]at JL
    have kx:=af (fun(w7:World) (g' cap':Nat) (X:Obj) a1 a2=>(ae nU).next (v:=v) (ae tM) (ae Yh) Mo (ae Yi) GC yL Sk CX (X:=X) (w7:=w7) (g':=g') (cap':=cap') a1 a2)
    rw[ae HLEN]at kx
    have GD:=GC
    rw[ae HLEN]at GD
    have WG:=af GD
    have z4:w.heap.size+3≤w4.heap.size:=by have:=ag Mo.blk;omega
    rw[ae Mn]at kx
    clear GC GD yL Sk Mo CX hb4 vW IS yC Mk Ml gW Mm WE
    generalize hzz:(eP S.T (V.take j)).1.map iH=ZZ at*
    clear hzz
    go_wp2_with (at_builtin;go_must (refine wpList_append_own_at _ rfl (.tmp 60) (.tmp 62) 29 rfl (w.heap.size+3) 9 ti (.string ⟨#[]⟩) 1 16 Tryz.underlying29 hi hz0 hz1 hz2 rfl (by decide) (.slice xo j xc) j ZZ rfl ((ae WG).alloc _) ⟨w4.heap.size,0,none⟩ 1 1 [.string ⟨STR.toArray⟩] rfl rfl (jd _ _ _ _ rfl) (by simp[Value.oneCell']) (by unfold maxLen;omega) (by omega) (by simp;omega) ?_);go_must (intro v' w7 hown' hgrow _ hat;obtain⟨g',cap',hv',-⟩:=fp hown';subst hv';have jG:=af (ae kx w7 g' cap' _ hown' hgrow);have m2:=(hgrow.cell_far ⟨w.heap.size+1,2,none⟩ (by simp;omega) (ae JL)).trans ((World.cell?_alloc_past _ _ _ rz).trans r2);have k9:w7.frozen? ⟨w.heap.size+1,2,none⟩=false:=(by have:=ay (ae jG).rb 2;rwa [World.frozen?_setCell]at this);have zz7:w.heap.size+1<w7.heap.size:=(by have:=ag (ae jG).rb;rwa [cN]at this);clear hown' hgrow hat))
    go_roundg (gk - 1)
    case measure=>have:=ae aW;have:=ae bh;omega
    case rel=>exact⟨j+1,N',mo',mc',_,cap',by have:=ae aW;have:=ae bh;omega,by go_num,by rw[ae sD];exact ae jG⟩
   ·obtain rfl:j=V.length:=by omega
    rw[List.take_length]at iY
    have nU:=af iY
    have g3:=(iY.be.cell (p:=⟨mb,3,none⟩) mz).trans f3
    have mzr:mb<wr.heap.size:=Nat.lt_of_lt_of_le mz iY.be.size
    have Sl:=af (show Vb w S.fr S.T (eP S.T V).2 S.G en lo L.length lc xo V.length xc ((eP S.T V).1.map iH) wr.heap.size S.G.length (.int .i64 0) wr from ⟨0,N,mo,mc,none,0,none,0,by omega,rfl,iY.vr,by have:=iY.nl;omega,⟨iY.nm,iY.rw_,iY.ow,fun k q=>(b9 iY.ow q).2,World.ownsRow_nil _ _ _ _,World.ownsRow_nil _ _ _ _,iY.rb,iY.zb,iY.be,by have:=ag iY.nm.blk;omega,Nat.le_refl _⟩⟩)
    generalize Y7:wr.heap.size=b2 at*
    clear iY hkj hlt
    go_wp2_with fail
    go_loopg [71] S.G.length (fun k iv wr=>Vb w S.fr S.T (eP S.T V).2 S.G en lo L.length lc xo V.length xc ((eP S.T V).1.map iH) b2 k iv wr)
    case atStart=>exact ae Sl
    case round=>
     clear Sl
     obtain⟨i,N3,mo3,mc3,go,gc,yo,yc,hkj,rfl,CU,pT,oD⟩:=hrel
     by_cases hlt:i<S.G.length
     ·obtain⟨pg,RI⟩:∃pg,po=some ⟨pg,0,none⟩:=by
       rcases(ae HH).pool.2 with⟨q,q2⟩ | ⟨g,cp,cur,q,_⟩
       ·omega
       ·simp only[Value.slice.injEq]at q
        exact⟨g,q.1⟩
      subst RI
      have pz0:=((ae HH).pool.lt pg rfl).2
      have fc:∀k,k<7→wr.cell? ⟨pg,i*7+k,none⟩=(fN S.G[i])[k]?:=fun k hk=>by
       rw[oD.be.cell (p:=⟨pg,i*7+k,none⟩) pz0,(ae HH).pool.cellAt (i*7+k) (by omega)]
       exact rf hlt k hk
      have e0:=fc 0 (by omega)
      have e1:=fc 1 (by omega)
      have e2:=fc 2 (by omega)
      have e3:=fc 3 (by omega)
      have e4:=fc 4 (by omega)
      have e5:=fc 5 (by omega)
      have e6:=fc 6 (by omega)
      simp only[fN,List.getElem?_cons_zero,List.getElem?_cons_succ,Nat.add_zero]at e0 e1 e2 e3 e4 e5 e6
      have ky:S.G[i]∈S.G:=List.getElem_mem hlt
      have gw:=ae Yf _ ky
      have Mp:=ae jM _ ky
      have oJ:S.G.take (i+1)=S.G.take i++[S.G[i]]:=by rw[List.take_add_one,List.getElem?_eq_getElem hlt];rfl
      have Sm:=(ae HH).nds _ ky
      have Sn:=(ae HH).nlt _ ky
      have Sp:=(ae HH).nl _ ky
      generalize S.G[i]=gg at*
      have pz:pg<wr.heap.size:=Nat.lt_of_lt_of_le pz0 oD.be.size
      have mzr':mb<wr.heap.size:=Nat.lt_of_lt_of_le mz oD.be.size
      have i0:(0:Int)≤(i:Int):=by omega
      have i1:(i:Int)<(S.G.length:Int):=by omega
      have JN:=(Below.refl wr.heap.size wr).alloc (Nat.le_refl _) (.cells #[.int .i64 (gg.l:Int),.string gg.sg,.int .i64 gg.r,.string gg.op,.int .i64 gg.z,.bool gg.wt,.slice gg.no gg.nd.length gg.nc] 158)
      have hbA:=oD.below JN
      have hndR:pE S.D.length gg.r:=by
       by_cases q:gg.sg.toList=[]
       ·exact Or.inl (gw.r0 q)
       ·exact Or.inr (gw.rr q)
      have hndZ:pE S.D.length gg.z:=by
       by_cases q:gg.op.toList=[]
       ·exact Or.inl (gw.z0 q)
       ·exact Or.inr (gw.zz q)
      have hN3:N3.length≤500000:=by omega
      have IM:=af (JI _ mb _ S.D nO nC S.fr S.T (w.heap.size+2) N3 mo3 mc3 gg ((ae HH).st.below hbA.be) (ae HH).ok (ae Rp) hbA.nm (((ae oq).below hbA.be).keep fun k _ hp hk=>⟨hk,fun q=>by
       rcases q with e | e
       ·omega
       ·have:=hbA.rw_ k e;omega⟩) gw.ll hndR hndZ Mp (by omega))
      have Sq:=af (heap_alloc_new wr (.cells #[.int .i64 (gg.l:Int),.string gg.sg,.int .i64 gg.r,.string gg.op,.int .i64 gg.z,.bool gg.wt,.slice gg.no gg.nd.length gg.nc] 158))
      have EK:=af hbA
      have yM:=af gw
      have yN:=af Mp
      have aW:=af hkj
      have bh:=af hlt
      have sD:=af oJ
      have WH:=af CU
      have LJ:=af pT
      have Sr:=af Sm
      have WI:=af Sn
      have WJ:=af Sp
      clear oD JN hbA gw Mp hkj hlt oJ CU pT Sm Sn Sp fc ky hndR hndZ
      go_wp2_with fail
      refine(ae IM).mono ?_
      rintro e w2 ⟨⟨ak,av,ax,ao,an,ac⟩,⟨bk,bv,bx,bo,bn,bc⟩,⟨ck,cv,cx,co,cn,cc⟩,N4,mo4,mc4,rfl,nm4,hv4,rvA,rvB,rvC,fg4⟩
      have hb2:=(ae EK).names nm4 fg4
      have Ss:=(fg4.block _ (ag (ae Sq)) ((ae EK).nm.apart (ae Sq) (by decide) (by decide))).trans (ae Sq)
      have eV:(Zc.br N4).length=N4.length:=by unfold Zc.br;simp
      have eV3:(Zc.br N3).length=N3.length:=by unfold Zc.br;simp
      have hN4:N4.length≤N3.length+3000:=by
       have hz:∀(M:List Zc.Vr) (x:Int),(x=(gg.l:Int)∨x=gg.r∨x=gg.z)→(iJ S.T M x).length≤M.length+1000:=fun M x hx=>by
        unfold iJ
        split
        ·omega
        ·rename_i hne
         exact Nat.le_trans (je _ _) (by have:=ae yN x hx hne;omega)
       rw[←eV,hv4]
       have h1:=hz (iJ S.T (iJ S.T (Zc.br N3) (gg.l:Int)) gg.r) gg.z (Or.inr (Or.inr rfl))
       have h2:=hz (iJ S.T (Zc.br N3) (gg.l:Int)) gg.r (Or.inr (Or.inl rfl))
       have h3:=hz (Zc.br N3) (gg.l:Int) (Or.inl rfl)
       omega
      have Su:Zc.br N4=JJ S.T (kJ S.T (eP S.T V).2 (S.G.take i)).2 gg:=by
       rw[hv4,ae WH]
       rfl
      have kN:Zc.size (S.T gg.l)≤1000:=by have:=ae yN (gg.l:Int) (Or.inl rfl) (by omega);simpa using this
      have hAl:=Zc.o5 (N:=Zc.br N4) (by rw[eV];omega) (S.T gg.l) (ae jm _ (ae yM).ll)
      have hR:gg.sg.toList≠[]→gg.r≠-1∧gg.r.toNat<S.D.length:=fun q=>by
       obtain⟨n,q1,q2⟩:=(ae yM).rr q
       rw[q1]
       exact⟨by omega,by simpa using q2⟩
      have hZ:gg.op.toList≠[]→gg.z≠-1∧gg.z.toNat<S.D.length:=fun q=>by
       obtain⟨n,q1,q2⟩:=(ae yM).zz q
       rw[q1]
       exact⟨by omega,by simpa using q2⟩
      have hbI:=(Below.refl w2.heap.size w2).alloc (Nat.le_refl _) (.cells #[.int .i64 ak,.int .i64 av,.string ax,.slice ao an ac,.string gg.sg,.int .i64 bk,.int .i64 bv,.string bx,.slice bo bn bc,.string gg.op,.int .i64 ck,.int .i64 cv,.string cx,.slice co cn cc] 151)
      have Sv:gg.sg.size≤2:=by
       rw[←Zc.nJ]
       rcases(ae yM).sg with q | q | q<;>(rw[q];decide)
      have IT:∀{a:AV} {u:Zc.U},RV 1000 (Zc.br N4) anyA w2 a u→Zc.o0 u→Zc.size u≤1000→∀W,Below w2.heap.size w2 W→Calls Tryz.prog 58 #[.agg #[.int .i64 a.k,.int .i64 a.val,.string a.tx,.slice a.ao a.n a.cap]] W fun e w'=>e= .returned (.string ⟨(Zc.bP Lib.itoa (Zc.br N4) u).toArray⟩)∧Below W.heap.size W w':=fun {a u} rv hsm hsz W hu=>stU_all 1000 W (Zc.br N4) anyA a u (rv.keep fun g _ _ hg=>⟨(hu.block g (ag hg)).trans hg,trivial⟩) ((ae EH).below (hb2.be.trans (hu.mono hb2.be.size))) (by rw[eV];omega) hsm hsz
      have IS:=af (OW _ ⟨⟨ak,av,ax,ao,an,ac⟩,⟨bk,bv,bx,bo,bn,bc⟩,⟨ck,cv,cx,co,cn,cc⟩,gg.sg,gg.op⟩ (Zc.bP Lib.itoa (Zc.br N4) (S.T gg.l)) (if gg.sg.toList=[]then []else Zc.bP Lib.itoa (Zc.br N4) (S.T gg.r.toNat)) (if gg.op.toList=[]then []else Zc.bP Lib.itoa (Zc.br N4) (S.T gg.z.toNat)) (by omega) (by
       split
       ·simp
       ·rename_i q
        have h1:=Zc.o5 (N:=Zc.br N4) (by rw[eV];omega) (S.T gg.r.toNat) (ae jm _ (hR q).2)
        have h2:=ae yN _ (Or.inr (Or.inl rfl)) (hR q).1
        omega) (by
       split
       ·simp
       ·rename_i q
        have h1:=Zc.o5 (N:=Zc.br N4) (by rw[eV];omega) (S.T gg.z.toNat) (ae jm _ (hZ q).2)
        have h2:=ae yN _ (Or.inr (Or.inr rfl)) (hZ q).1
        omega) Sv (ae yM).ol (fun W hu=>IT (a:=⟨ak,av,ax,ao,an,ac⟩) rvA (ae jm _ (ae yM).ll) kN W (hbI.trans (hu.mono (by simp)))) (fun q W hu=>by
        rw[if_neg q]
        exact IT (a:=⟨bk,bv,bx,bo,bn,bc⟩) (rvB (hR q).1) (ae jm _ (hR q).2) (ae yN _ (Or.inr (Or.inl rfl)) (hR q).1) W (hbI.trans (hu.mono (by simp)))) (fun _ q W hu=>by
        rw[if_neg q]
        exact IT (a:=⟨ck,cv,cx,co,cn,cc⟩) (rvC (hZ q).1) (ae jm _ (hZ q).2) (ae yN _ (Or.inr (Or.inr rfl)) (hZ q).1) W (hbI.trans (hu.mono (by simp)))))
      have CW:Zc.ni (Zc.bP Lib.itoa (Zc.br N4) (S.T gg.l)) gg.sg.toList (if gg.sg.toList=[]then []else Zc.bP Lib.itoa (Zc.br N4) (S.T gg.r.toNat)) gg.op.toList (if gg.op.toList=[]then []else Zc.bP Lib.itoa (Zc.br N4) (S.T gg.z.toNat))=EJ S.T (Zc.br N4) gg:=by
       unfold EJ Zc.ni
       by_cases q1:gg.sg.toList=[]
       ·rw[if_pos q1,if_pos q1]
       ·rw[if_neg q1,if_neg q1,if_neg q1]
        by_cases q2:gg.op.toList=[]
        ·rw[if_pos q2,if_pos q2]
        ·rw[if_neg q2,if_neg q2,if_neg q2]
      dsimp only at IS
      rw[CW]at IS
      have aX:=af hb2
      have Mq:=af Ss
      have jn:=af hN4
      have Sw:=af Su
      clear hb2 Ss hN4 Su eV eV3 kN hAl hR hZ hbI Sv IT CW rvA rvB rvC fg4 nm4 hv4 IM e0 e1 e2 e3 e4 e5 e6
      generalize hSTR:EJ S.T (Zc.br N4) gg=STR at*
      have Mn:=af hSTR
      clear hSTR
      go_wp2_with fail
      refine(ae IS).mono ?_
      rintro e w4 ⟨rfl,hb4⟩
      have vW:Below w2.heap.size w2 w4:=((Below.refl _ w2).alloc (Nat.le_refl _) _).trans (hb4.mono (by simp))
      have rS:=(ae aX).below vW
      have Sx:=(vW.block _ (ag (ae Mq))).trans (ae Mq)
      have r3:=ah rS.rb 3
      have rx3:=ay rS.rb 3
      have rz:=ag rS.rb
      simp only[List.getElem?_toArray,List.getElem?_cons_zero,List.getElem?_cons_succ]at r3
      have JL:=af (show some (w.heap.size+1)≠(Value.slice go i gc).ownBlock from bS (aQ rS.og rS.rb (by decide)))
      have Ve:=af rS.og
      have yO:=af rS
      have CY:=af Sx
      have bz4:b2≤w4.heap.size:=rS.bz
      have sI:i≤100:=by have:=ae bh;omega
      clear rS Sx vW hb4 IS aX Mq
      generalize vO:(kJ S.T (eP S.T V).2 (S.G.take i)).1.map iH=GS at*
      have Qk:=af vO
      clear vO
      generalize Nx:((S.G.take i).map fun g=>Value.bool (!fU S.fr g))=YS at*
      have Yj:=af Nx
      clear Nx
      go_wp2_with (at_builtin;go_must (refine wpList_append_own_at _ rfl (.tmp 81) (.tmp 83) 29 rfl b2 9 ti (.string ⟨#[]⟩) 1 16 Tryz.underlying29 hi hz0 hz1 hz2 rfl (by decide) (.slice go i gc) i GS rfl ((ae Ve).alloc _) ⟨w4.heap.size,0,none⟩ 1 1 [.string ⟨STR.toArray⟩] rfl rfl (jd _ _ _ _ rfl) (by simp[Value.oneCell']) (by unfold maxLen;omega) (by omega) (by simp;omega) ?_);go_must (intro v' w7 hown' hgrow _ hat;obtain⟨g',cap',hv',-⟩:=fp hown';subst hv';have jG:=af ((ae yO).goal (s:= .string ⟨STR.toArray⟩) hown' hgrow);have m2:=(hgrow.cell_far ⟨w.heap.size+1,3,none⟩ (by simp;omega) (ae JL)).trans ((World.cell?_alloc_past _ _ _ rz).trans r3);have k9:w7.frozen? ⟨w.heap.size+1,3,none⟩=false:=(by have:=ay (ae jG).rb 3;rwa [World.frozen?_setCell]at this);have zz7:w.heap.size+1<w7.heap.size:=(by have:=ag (ae jG).rb;rwa [cN]at this);have rT:=((pI (cell:=3) (ae yO).og hgrow (ae yO).rb (by decide) (.slice (some ⟨g',0,none⟩) (i+1) cap')).1 _ (fun e=>by have:=(ae yO).rb;rw[←e,ae CY]at this;simp only[Option.some.injEq,Obj.cells.injEq]at this;exact absurd this.2.1 (by decide)) (aQ (ae yO).og (ae CY) (by decide)) (ag (ae CY))).trans (ae CY);have d0:=ah rT 0;have d1:=ah rT 1;have d2:=ah rT 2;have d3:=ah rT 3;have d4:=ah rT 4;have d5:=ah rT 5;have d6:=ah rT 6;have dz:=ag rT;simp only[List.getElem?_toArray,List.getElem?_cons_zero,List.getElem?_cons_succ]at d0 d1 d2 d3 d4 d5 d6;clear hown' hgrow hat rT))
      have lA:=(ae jG).be
      have IR:=af (vT _ mb _ _ S.D nO nC S.fr gg 0 ((ae HH).st.below lA) (ae HH).ok (ai (ae Sr) fun k q=>lA.block k ((ae Sr).lt k q).2) (ae WI) (ae WJ))
      clear lA
      refine(ae IR).mono ?_
      rintro e w8 ⟨rfl,rh⟩
      have rU:=(ae jG).below rh
      have r4:=ah rU.rb 4
      have rx4:=ay rU.rb 4
      have rz8:=ag rU.rb
      simp only[List.getElem?_toArray,List.getElem?_cons_zero,List.getElem?_cons_succ]at r4
      have WK:=af (show some (w.heap.size+1)≠(Value.slice yo i yc).ownBlock from bS (aQ rU.oy rU.rb (by decide)))
      have Yk:=af rU.oy
      have WL:=af rU
      have bz8:b2≤w8.heap.size:=rU.bz
      clear rU rh IR jG m2 k9 zz7 d0 d1 d2 d3 d4 d5 d6 dz Ve yO CY JL r3 rx3 rz
      generalize xQ:fU S.fr gg=rd at*
      have Jm:=af xQ
      clear xQ
      go_wp2_with (at_builtin;go_must (refine wpList_append_own_at _ rfl (.tmp 90) (.tmp 93) 30 rfl b2 4 tb (.bool false) 1 1 Tryz.underlying30 Yg hb0 hb1 hb2 rfl (by decide) (.slice yo i yc) i YS rfl ((ae Yk).alloc _) ⟨w8.heap.size,0,none⟩ 1 1 [.bool (!rd)] rfl rfl (jd _ _ _ _ rfl) (by simp[Value.oneCell']) (by unfold maxLen;omega) (by omega) (by simp;omega) ?_);go_must (intro v' w9 hown' hgrow _ hat;obtain⟨g9,cap9,hv',-⟩:=fp hown';subst hv';have jG:=af ((ae WL).wait (s:= .bool (!rd)) hown' hgrow);have m2:=(hgrow.cell_far ⟨w.heap.size+1,4,none⟩ (by simp;omega) (ae WK)).trans ((World.cell?_alloc_past _ _ _ rz8).trans r4);have k9:w9.frozen? ⟨w.heap.size+1,4,none⟩=false:=(by have:=ay (ae jG).rb 4;rwa [World.frozen?_setCell]at this);have zz7:w.heap.size+1<w9.heap.size:=(by have:=ag (ae jG).rb;rwa [cN]at this);clear hown' hgrow hat))
      go_roundg (gk - 1)
      case measure=>have:=ae aW;have:=ae bh;omega
      case rel=>
       refine⟨i+1,N4,mo4,mc4,some ⟨g',0,none⟩,cap',some ⟨g9,0,none⟩,cap9,by have:=ae aW;have:=ae bh;omega,by go_num,?_,by have:=ae jn;have:=ae LJ;omega,?_⟩
       ·rw[ae sD,Ao]
        exact ae Sw
       ·have hb:=ae jG
        rw[←ae Qk,←ae Yj]at hb
        rw[ae sD,Ao]
        have e1:(stepG S.T (kJ S.T (eP S.T V).2 (S.G.take i)) gg).1.map iH=(kJ S.T (eP S.T V).2 (S.G.take i)).1.map iH++[.string ⟨STR.toArray⟩]:=by
         unfold stepG
         rw[List.map_append,←ae Sw,ae Mn]
         rfl
        have e2:((S.G.take i++[gg]).map fun g=>Value.bool (!fU S.fr g))=((S.G.take i).map fun g=>Value.bool (!fU S.fr g))++[.bool (!rd)]:=by
         rw[List.map_append,List.map_cons,ae Jm]
         rfl
        rw[e1,e2]
        exact hb
     ·obtain rfl:i=S.G.length:=by omega
      rw[List.take_length]at CU oD
      have Yl:=af oD
      have r0:=ah oD.rb
      have z0:=ah oD.zb
      have zx:=ay oD.zb
      have rz:=ag oD.rb
      have zz:=ag oD.zb
      clear oD hkj hlt CU pT
      go_wp2_with fail
      refine bodyPost_ret (v:= .agg #[.int .i64 en,.slice lo L.length lc,.slice xo V.length xc,.slice go S.G.length gc,.slice yo S.G.length yc]) (by simp[results,Tryz.results47,go_sem,z0]) rfl ?_
      have hb:=ae Yl
      have hk:∀k,k≠w.heap.size→(((((wr.setCell ⟨w.heap.size,0,none⟩ (.int .i64 en)).setCell ⟨w.heap.size,1,none⟩ (.slice lo L.length lc)).setCell ⟨w.heap.size,2,none⟩ (.slice xo V.length xc)).setCell ⟨w.heap.size,3,none⟩ (.slice go S.G.length gc)).setCell ⟨w.heap.size,4,none⟩ (.slice yo S.G.length yc)).heap[k]?=wr.heap[k]?:=fun k q=>by
       rw[aL _ _ _ _ q,aL _ _ _ _ q,aL _ _ _ _ q,aL _ _ _ _ q,aL _ _ _ _ q]
      have bw:=hb.bw
      refine⟨xo,xc,go,gc,yo,yc,rfl,cf (ai hb.ox fun k q=>hk k (by have:=(hb.ox.lt k q).1;omega)) (by omega),cf (ai hb.og fun k q=>hk k (by have:=(hb.og.lt k q).1;omega)) (by omega),cf (ai hb.oy fun k q=>hk k (by have:=(hb.oy.lt k q).1;omega)) (by omega),fun k q r=> ?_,((((hb.be.setCell (Nat.le_refl _) _).setCell (Nat.le_refl _) _).setCell (Nat.le_refl _) _).setCell (Nat.le_refl _) _).setCell (Nat.le_refl _) _⟩
      have:=hb.xb k q
      have:=(b9 hb.og r).1
      omega
end Go.Proofs.YthfjnfcekeknlaaGreatDoor
namespace Go.Proofs.YthfjnfcekeknlaaGreatDoor
open Go.RowKit
inductive yP (cls:List Zc.aJ) (V:List Nat) (script:List (Int×Int)) (S0:b8):Nat→b8→List Int→Prop
 | start:yP cls V script S0 0 S0 []
 | step {j:Nat} {S S':b8} {L:List Int} {pg pc z:Int} {i:Nat} (h:yP cls V script S0 j S L) (hs:script[j]?=some (pg,pc)) (hi:(cD S.fr S.G S.G.length)[dE pg (cD S.fr S.G S.G.length).length]?=some i) (hg:CI cls S S' i pc z) (hl:ng V S'=false):yP cls V script S0 (j+1) S' (L++[z])
def Sy (V:List Nat) (S:b8):Prop:=(∀v∈V,Zc.size (S.T v)≤300)∧∀g∈S.G,∀x:Int,x=(g.l:Int)∨x=g.r∨x=g.z→x≠-1→Zc.size (S.T x.toNat)≤300
theorem rV {T:Nat→Zc.U} {x:Int} (h:gf T x=false) (hx:x≠-1):Zc.size (T x.toNat)≤40:=by
 unfold gf at h
 have:=of_decide_eq_false h
 omega
theorem GF {w:World} {mb:Nat} {cls:List Zc.aJ} {clo:Option Addr} {clc:Nat} {V:List Nat} {vo:Option Addr} {vc:Nat} {L:List Int} {lo:Option Addr} {lc:Nat} {S:b8} {nO:Option Addr} {nC:Nat} {po:Option Addr} {pc:Nat} (h:dW w mb cls clo clc V vo vc L lo lc S nO nC po pc) (hl:ng V S=false):Sy V S∧S.G.length≤24:=by
 unfold ng at hl
 simp only[Bool.or_eq_false_iff,decide_eq_false_iff_not]at hl
 obtain⟨h1,h2,h3⟩:=hl
 refine⟨⟨fun v hv=> ?_,fun g hg x hx hne=> ?_⟩,by omega⟩
 ·have:=List.any_eq_false.1 h2 (v:Int) (List.mem_map.2 ⟨v,hv,rfl⟩)
  have:=rV (T:=S.T) (x:=(v:Int)) (by simpa using this) (by omega)
  simp at this
  omega
 ·have hb:∀y∈iV S.D S.fr g,gf S.T y=false:=fun y hy=>by
   have:=List.any_eq_false.1 h3 g hg
   unfold ju at this
   have:=List.any_eq_false.1 (by simpa using this) y hy
   simpa using this
  have gw:=h.gw g hg
  by_cases hs:g.sg.toList=[]
  ·have hr:=gw.r0 hs
   have hz:g.z= -1:=by
    by_cases ho:g.op.toList=[]
    ·exact gw.z0 ho
    ·have:=gw.oe ho;rw[hs]at this;cases this
   have oh:x=(g.l:Int):=by
    rcases hx with q | q | q
    ·exact q
    ·exact absurd (q.trans hr) hne
    ·exact absurd (q.trans hz) hne
   rw[oh]
   have e0:((g.l:Int)).toNat=g.l:=by simp
   rw[e0]
   have hf:=h.mc.ok.lt gw.ll
   obtain⟨d,hd,Ak,U2,NC,tS⟩:=(⟨h.mc.st,h.mc.ok,h.to,h.ar,Nat.le_refl _⟩:gB w w.heap.size mb 1 _ 91 S.D nO nC S.fr S.T _).node gw.ll
   obtain⟨tx,us,bj⟩:=gw.nm hs
   have ft:d.k≠1:=fun q=>by rw[NC q]at bj;cases bj
   obtain⟨lk,ltx,lnum,dS,hT⟩:=tS ft
   rw[hT,Zc.size]
   have CZ:iV S.D S.fr g=d.args.map fun n:Nat=>(n:Int):=by
    unfold iV
    rw[if_pos hs,hd]
    rfl
   have Io:d.args.length≤3:=by
    rcases Ak.ks with q | q | q
    ·rw[(Ak.v q).2.2.2];simp
    ·rw[(Ak.m q).2.2];simp
    ·exact(Ak.c q).2.2
   have key:∀(ns:List Nat),(∀n∈ns,Zc.size (S.T n)≤40)→Zc.sizeL (ns.map S.T)≤ns.length*40:=by
    intro ns
    induction ns with
    | nil=>intro _;simp[Zc.sizeL]
    | cons n ns ih=>
     intro hn
     have h1:=hn n (by simp)
     have h2:=ih (fun m hm=>hn m (by simp[hm]))
     rw[List.map_cons,Zc.sizeL,List.length_cons]
     omega
   have:=key d.args (fun n hn=>by
    have:=rV (T:=S.T) (x:=(n:Int)) (hb _ (by rw[CZ];exact List.mem_map.2 ⟨n,hn,rfl⟩)) (by omega)
    simpa using this)
   omega
  ·have CZ:iV S.D S.fr g=[(g.l:Int),g.r,g.z]:=by unfold iV;rw[if_neg hs]
   have:=rV (T:=S.T) (x:=x) (hb x (by rw[CZ];rcases hx with q | q | q<;>simp[q])) hne
   omega
theorem dW.start {P:Nat→Prop} {w1 w3:World} {mb cb:Nat} {cls:List Zc.aJ} {clo:Option Addr} {clc:Nat} {TT:Nat→Zc.U} {N:List (List UInt8)} {items:List Zc.aH} {E:List Ng} {F:List Nat} {no':Option Addr} {nc':Nat} {vo':Option Addr} {vc':Nat} {T':Nat→Zc.U} {Gn:List Gl} {po':Option Addr} {pc':Nat} (h:Cv P w1 mb (qq clo cls.length clc none 0 0 none 0 0 none 0 0 none 0 0 0) cb [] [] none none id TT [] none N [] items E F no' nc' vo' vc' T' Gn po' pc' w3) (gu:df w3 clo cls.length cls) (dM:∀x∈items,Zc.jf x):
 dW (w3.setCell ⟨mb,2,none⟩ (.slice vo' F.length vc')) mb cls clo clc F vo' vc' [] none 0 ⟨E,id,T',Gn⟩ no' nc' po' pc':=by
 have ms:=h.ms
 have mc:=h.mc
 simp only[List.nil_append]at ms mc
 have hblk:=aA mc.st.blk 2 (.slice vo' F.length vc')
 have kT:∀{k:Nat} {ys:Array Value} {Y:TypeId},w3.heap[k]?=some (.cells ys Y (0,0))→Y≠91→(w3.setCell ⟨mb,2,none⟩ (.slice vo' F.length vc')).heap[k]?=w3.heap[k]?:=fun {k ys Y} hk h1=>aL _ _ _ _ (fun e=>by
  rw[e,mc.st.blk]at hk
  simp only[Option.some.injEq,Obj.cells.injEq]at hk
  exact h1 hk.2.1.symm)
 have kR:∀{b n cap sz:Nat} {Y:TypeId} {o:Option Addr} {zs:List Value},w3.ownsRow b Y sz (.slice o n cap) n zs→Y≠91→(w3.setCell ⟨mb,2,none⟩ (.slice vo' F.length vc')).ownsRow b Y sz (.slice o n cap) n zs:=fun {b n cap sz Y o zs} ho h1=>ai ho fun k q=>by
  obtain⟨cur,hc⟩:=aM ho (aI q)
  exact kT hc h1
 have ue:=h.gl.length
 refine⟨⟨⟨hblk,rfl,kR mc.st.own (by decide),mc.st.ty⟩,mc.ok,rfl,kR mc.pool (by decide),fun g hg=>kR (mc.nds g hg) (by decide),mc.nlt,mc.nl⟩,ms.to,ms.ad.args.keep fun g _ _ hg=>⟨(kT hg (by decide)).trans hg,fun⟨_,q,_⟩=>by cases q⟩,kR ms.ad.sc.own (by decide),ms.lt,World.ownsRow_nil _ _ _ _,(fun k ⟨_,q,_⟩=>by cases q),(fun g _ k _ ⟨_,q,_⟩=>by cases q),?_,?_,fun g hg=> ?_,?_⟩
 ·exact(show eG w3 _ from fun k ys Y hk hY=>(kT hk (by rcases hY with e | e | e<;>(rw[e];decide))).trans hk).cls gu
 ·have:=h.nd.val (D:=[]) (fun d hd=>by cases hd)
  simpa using this
 ·change g∈Gn at hg
  obtain⟨j,hj,rfl⟩:=List.getElem_of_mem hg
  have:=(h.gl.at j (by omega) hj).gw (dM _ (List.getElem_mem (by omega)))
  simpa using this
 ·have:=h.nd.ED (D:=[]) (fun d hd=>by cases hd)
  simpa using this
def qL (w:World) (so:Option Addr) (script:List (Int×Int)):Prop:=script≠[]→∃g off,so=some ⟨g,off,none⟩∧g<w.heap.size∧∀(i:Nat) (h:i<script.length),w.cell? ⟨g,off+i*2,none⟩=some (.int .i64 script[i].1)∧w.cell? ⟨g,off+i*2+1,none⟩=some (.int .i64 script[i].2)
structure C0 (N:List (List UInt8)) (items:List Zc.aH) (F:List Nat) (S:b8):Prop where
 fr:S.fr=id
 nd:dL 0 S.D
 nv:fH 0 S.D F
 ln:F.length=(Zc.aC [] items).length
 lt:∀v∈F,v<S.D.length
 sto:Zc.dH (aZ S.D) S.fr S.T
 ok:bV S.D S.fr
 gl:bO (mN S.T S.D.length (cR S.T F N)) items S.G
def ur (cls:List Zc.aJ) (F:List Nat) (script:List (Int×Int)) (S0:b8) (b:Nat) (e:Ending) (w':World):Prop:=
 ∃(j:Nat) (S:b8) (L:List Int) (lo:Option Addr) (lc:Nat),yP cls F script S0 j S L∧
  ((((j=script.length∨cD S.fr S.G S.G.length=[])∧∃(xo:Option Addr) (xc:Nat) (go:Option Addr) (gc:Nat) (yo:Option Addr) (yc:Nat),e= .returned (.agg #[.int .i64 (gK S.fr S.G),.slice lo L.length lc,.slice xo F.length xc,.slice go S.G.length gc,.slice yo S.G.length yc])∧w'.ownsRow b 3 1 (.slice lo L.length lc) L.length (L.map fX)∧w'.ownsRow b 9 1 (.slice xo F.length xc) F.length ((eP S.T F).1.map iH)∧w'.ownsRow b 9 1 (.slice go S.G.length gc) S.G.length ((kJ S.T (eP S.T F).2 S.G).1.map iH)∧w'.ownsRow b 4 1 (.slice yo S.G.length yc) S.G.length (S.G.map fun g=> .bool (!fU S.fr g))∧(∀k,rowOf xo k→¬rowOf go k)))∨
   (∃(pg pc:Int) (i:Nat) (en z:Int),script[j]?=some (pg,pc)∧(cD S.fr S.G S.G.length)[dE pg (cD S.fr S.G S.G.length).length]?=some i∧((JC cls S i pc en∧(en=4∨en=5)∧z= -2)∨(en=6∧∃S',CI cls S S' i pc z∧ng F S'=true))∧e= .returned (.agg #[.int .i64 en,.slice lo (L++[z]).length lc,.slice none 0 0,.slice none 0 0,.slice none 0 0])∧w'.ownsRow b 3 1 (.slice lo (L++[z]).length lc) (L++[z]).length ((L++[z]).map fX)))
structure QS (w:World) (cls:List Zc.aJ) (clo:Option Addr) (clc:Nat) (F:List Nat) (vo:Option Addr) (vc:Nat) (script:List (Int×Int)) (S0:b8) (j:Nat) (S:b8) (L:List Int) (lo:Option Addr) (lc:Nat) (nO:Option Addr) (nC:Nat) (po:Option Addr) (pc:Nat) (wr:World):Prop where
 ru:yP cls F script S0 j S L
 ma:dW wr (w.heap.size+1) cls clo clc F vo vc L lo lc S nO nC po pc
 sm:Sy F S
 gl:S.G.length≤100
 ll:L.length=j
 dl:S.D.length≤200000+j*1100000
 be:Below w.heap.size w wr
 rw_:∀k,(rowOf nO k∨rowOf po k∨rowOf lo k)→w.heap.size≤k
 zb:wr.heap[w.heap.size]?=some (.cells #[.int .i64 0,.slice none 0 0,.slice none 0 0,.slice none 0 0,.slice none 0 0] 32 (0,0))
def Vf (w:World) (cls:List Zc.aJ) (clo:Option Addr) (clc:Nat) (F:List Nat) (vo:Option Addr) (vc:Nat) (script:List (Int×Int)) (S0:b8) (k:Nat) (iv:Value) (wr:World):Prop:=
 ∃(j:Nat) (S:b8) (L:List Int) (lo:Option Addr) (lc:Nat) (nO:Option Addr) (nC:Nat) (po:Option Addr) (pc:Nat),k+j=script.length∧iv= .int .i64 (j:Int)∧QS w cls clo clc F vo vc script S0 j S L lo lc nO nC po pc wr
theorem QS.below {w:World} {cls:List Zc.aJ} {clo:Option Addr} {clc:Nat} {F:List Nat} {vo:Option Addr} {vc:Nat} {script:List (Int×Int)} {S0:b8} {j:Nat} {S:b8} {L:List Int} {lo:Option Addr} {lc:Nat} {nO:Option Addr} {nC:Nat} {po:Option Addr} {pc:Nat} {wr w':World} (h:QS w cls clo clc F vo vc script S0 j S L lo lc nO nC po pc wr) (hb:Below wr.heap.size wr w'):QS w cls clo clc F vo vc script S0 j S L lo lc nO nC po pc w':=
 ⟨h.ru,h.ma.below hb,h.sm,h.gl,h.ll,h.dl,h.be.trans (hb.mono h.be.size),h.rw_,(hb.block _ (ag h.zb)).trans h.zb⟩
theorem sto_empty:Zc.dH (aZ []) id (fun n=> .v ([],n)):=by
 have hg:∀n,Zc.gl (aZ []) n=none:=fun n=>rfl
 have ha:∀n,Zc.ga (aZ []) n=[]:=fun n=>rfl
 exact⟨⟨fun _=>rfl,fun n hn=>absurd (hg n) hn⟩,⟨fun n hn=>absurd (hg n) hn,fun n hn=>absurd (hg n) hn⟩,fun n=> .var (hg n) (ha n),fun n _=>ha n,fun n _=>Nat.le_refl _⟩
theorem okD_empty:bV [] id:=⟨fun _ hn=>absurd hn (Nat.not_lt_zero _),fun _ hn=>absurd hn (Nat.not_lt_zero _),fun _ _=>rfl⟩
end Go.Proofs.YthfjnfcekeknlaaGreatDoor
namespace Zc
open Go.Proofs.YthfjnfcekeknlaaGreatDoor (fA dE iW)
def zU:U:= .n 0 [] 0 []
structure MG where
 a:U
 sg:List UInt8
 b:U
 op:List UInt8
 c:U
 wt:Bool
 on:Nat→Prop
structure MS where
 vs:List U
 gs:List MG
 lim:Nat
def MG.stays (σ:Vr→U) (g:MG):Prop:=g.wt=true∧∀v,g.on v→σ ([],v)= .v ([],v)
open Classical in
noncomputable def MG.put (σ:Vr→U) (g:MG):MG:=⟨sub σ g.a,g.sg,sub σ g.b,g.op,sub σ g.c,decide (g.stays σ),fun v=>g.stays σ∧g.on v⟩
def MG.of (η:List UInt8→U) (x:aH):MG:=⟨bH η 8 x.left,x.sign,x.right.elim zU (bH η 8),x.op,x.last.elim zU (bH η 8),false,fun _=>False⟩
def cT (u:U) (c:aJ) (o:Nat→Nat) (y:List UInt8):U:=if y∈NH c then((matU 8 c.head u ⟨[],Wn.none⟩).st.find? (fun q=>q.1 == y)).elim zU (·.2)else .v ([],o ((NG c).idxOf y - (NH c).length))
def bT (lim:Nat) (u:U) (c:aJ):Nat×List Nat:=if(matU 8 c.head u ⟨[],Wn.none⟩).w.says≠1 then((matU 8 c.head u ⟨[],Wn.none⟩).w.says,(matU 8 c.head u ⟨[],Wn.none⟩).w.wt)else((iU (cT u c (lim+·)) c.tests).says,(iU (cT u c (lim+·)) c.tests).wt.filter fun n=>decide (n<lim))
def iq (gs:List MG):List Nat:=(List.range gs.length).filter fun i=>match gs[i]? with
 | some g=> !g.wt
 | none=>false
def Ym (S S':MS) (i:Nat) (g:MG) (z:Int):Prop:=g.sg=[61]∧z=0∧∃σ,fG g.a g.b σ∧S'.vs=S.vs.map (sub σ)∧S'.gs=(S.gs.eraseIdx i).map (MG.put σ)
def Yn (S S':MS) (i:Nat) (g:MG) (z:Int):Prop:=g.sg=[58,61]∧z= -1∧(fo g.op g.b g.c).wt≠[]∧S'.vs=S.vs∧S'.gs=S.gs.set i ⟨g.a,g.sg,g.b,g.op,g.c,true,fun v=>v∈(fo g.op g.b g.c).wt⟩
def Yo (S S':MS) (i:Nat) (g:MG) (z:Int):Prop:=g.sg=[58,61]∧z=0∧(fo g.op g.b g.c).wt=[]∧∃x σ,fA g.op g.b g.c=some x∧fG g.a (.n 3 [] x []) σ∧S'.vs=S.vs.map (sub σ)∧S'.gs=(S.gs.eraseIdx i).map (MG.put σ)
def Yp (S S':MS) (i:Nat) (g:MG) (z:Int):Prop:=g.sg=[]∧z=0∧g.a= .n 1 [116,114,117,101] 0 []∧S'.vs=S.vs∧S'.gs=S.gs.eraseIdx i
def oK (cls:List aJ) (g:MG) (p:Int) (n:Nat) (jw:Nat→Nat):Prop:=g.sg=[]∧∃tx us,g.a= .n 1 tx 0 us∧¬(tx=[116,114,117,101]∧us=[])∧n=(cr cls tx us.length cls.length).length∧jw=iW (cr cls tx us.length cls.length) (dE p n)
def Yq (cls:List aJ) (S S':MS) (i:Nat) (g:MG) (p z:Int):Prop:=∃n jw,oK cls g p n jw∧∃(t:Nat) (c:aJ) (F:List Nat),t<n∧(∀t' c',t'<t→cls[jw t']?=some c'→(bT S.lim g.a c').1≠1)∧cls[jw t]?=some c∧(bT S.lim g.a c).1=1∧z=((jw t+1:Nat):Int)∧F.length+(NH c).length=(NG c).length∧F.Pairwise (·<·)∧(∀f∈F,S.lim≤f∧f<S'.lim)∧S'.vs=S.vs∧S'.gs=S.gs.eraseIdx i++c.goals.map (MG.of (cT g.a c fun k=>(F[k]?).getD 0))
def Yr (cls:List aJ) (S S':MS) (i:Nat) (g:MG) (p z:Int):Prop:=∃n jw,oK cls g p n jw∧z= -1∧(∀t c,t<n→cls[jw t]?=some c→(bT S.lim g.a c).1≠1)∧(∃t c,t<n∧cls[jw t]?=some c∧(bT S.lim g.a c).1=3)∧S'.vs=S.vs∧S'.gs=S.gs.set i ⟨g.a,g.sg,g.b,g.op,g.c,true,fun v=>∃t c,t<n∧cls[jw t]?=some c∧(bT S.lim g.a c).1=3∧v∈(bT S.lim g.a c).2⟩
def kZ (cls:List aJ) (S S':MS) (i:Nat) (p z:Int):Prop:=S.lim≤S'.lim∧∃g,S.gs[i]?=some g∧(Ym S S' i g z∨Yn S S' i g z∨Yo S S' i g z∨Yp S S' i g z∨Yq cls S S' i g p z∨Yr cls S S' i g p z)
def EL (cls:List aJ) (S:MS) (i:Nat) (p en:Int):Prop:=∃g,S.gs[i]?=some g∧
 ((g.sg=[61]∧en=4∧∀θ,sub θ g.a≠sub θ g.b)∨
  (g.sg=[58,61]∧(fo g.op g.b g.c).wt=[]∧((en=5∧fA g.op g.b g.c=none)∨(en=4∧∃x,fA g.op g.b g.c=some x∧∀θ,sub θ g.a≠ .n 3 [] x [])))∨
  (en=4∧∃n jw,oK cls g p n jw∧∀t c,t<n→cls[jw t]?=some c→(bT S.lim g.a c).1=2))
def big (u:U):Bool:=decide (40<size u)
def mC (g:MG):Bool:=if g.sg=[]then(match g.a with
 | .v _=>false
 | .n _ _ _ us=>us.any big)else(big g.a||big g.b||big g.c)
def qN (S:MS):Bool:=decide (24<S.gs.length)||(S.vs.any big||S.gs.any mC)
def qw (a:List (List UInt8)×List Vr) (u:U):List (List UInt8)×List Vr:=(a.1++[bP Go.Lib.itoa (aU a.2 u) u],aU a.2 u)
def kK (vs:List U):List (List UInt8)×List Vr:=vs.foldl qw ([],[])
def jO (N:List Vr) (g:MG):List Vr:=aU (aU (aU N g.a) g.b) g.c
def vh (N:List Vr) (g:MG):List UInt8:=ni (bP Go.Lib.itoa N g.a) g.sg (bP Go.Lib.itoa N g.b) g.op (bP Go.Lib.itoa N g.c)
def nD (a:List (List UInt8)×List Vr) (g:MG):List (List UInt8)×List Vr:=(a.1++[vh (jO a.2 g) g],jO a.2 g)
def wT (N:List Vr) (gs:List MG):List (List UInt8)×List Vr:=gs.foldl nD ([],N)
def yQ (gs:List MG):Int:=if gs=[]then 1 else if iq gs=[]then 2 else 3
inductive nk (cls:List aJ) (script:List (Int×Int)) (S0:MS):Nat→MS→List Int→Prop
 | start:nk cls script S0 0 S0 []
 | step {j:Nat} {S S':MS} {L:List Int} {pg pc z:Int} {i:Nat} (h:nk cls script S0 j S L) (hs:script[j]?=some (pg,pc)) (hi:(iq S.gs)[dE pg (iq S.gs).length]?=some i) (hg:kZ cls S S' i pc z) (hl:qN S'=false):nk cls script S0 (j+1) S' (L++[z])
def rW (cls:List aJ) (script:List (Int×Int)) (S0:MS) (en:Int) (log:List Int) (vals gols:List (List UInt8)) (wts:List Bool):Prop:=∃(j:Nat) (S:MS) (L:List Int),nk cls script S0 j S L∧
 (((j=script.length∨iq S.gs=[])∧en=yQ S.gs∧log=L∧vals=(kK S.vs).1∧gols=(wT (kK S.vs).2 S.gs).1∧wts=S.gs.map (·.wt))∨
  (∃(pg pc:Int) (i:Nat) (z:Int),script[j]?=some (pg,pc)∧(iq S.gs)[dE pg (iq S.gs).length]?=some i∧((EL cls S i pc en∧z= -2)∨(en=6∧∃S',kZ cls S S' i pc z∧qN S'=true))∧log=L++[z]∧vals=[]∧gols=[]∧wts=[]))
theorem JO (c:aJ):∃K,NG c=NH c++K:=by
 have hO:∀(t:Option Tm) (ns:List (List UInt8)),∃M,cq ns t=ns++M:=fun t ns=>by
  cases t with
  | none=>exact⟨[],by simp[cq]⟩
  | some r=>exact namesV_ext 8 r ns
 have hI:∀(x:aH) (ns:List (List UInt8)),∃M,aO ns x=ns++M:=fun x ns=>by
  obtain⟨M1,h1⟩:=namesV_ext 8 x.left ns
  obtain⟨M2,h2⟩:=hO x.right (namesF 8 ns x.left)
  obtain⟨M3,h3⟩:=hO x.last (cq (namesF 8 ns x.left) x.right)
  exact⟨M1++(M2++M3),by unfold aO;rw[h3,h2,h1];simp⟩
 have hL:∀(xs:List aH) (ns:List (List UInt8)),∃M,aC ns xs=ns++M:=fun xs=>by
  induction xs with
  | nil=>exact fun ns=>⟨[],by simp[aC]⟩
  | cons x xs ih=>
   intro ns
   obtain⟨M1,h1⟩:=hI x ns
   obtain⟨M2,h2⟩:=ih (aO ns x)
   exact⟨M1++M2,by show aC (aO ns x) xs=_;rw[h2,h1];simp⟩
 obtain⟨M1,h1⟩:=hL c.tests (NH c)
 obtain⟨M2,h2⟩:=hL c.goals (NT c)
 exact⟨M1++M2,by unfold NG;rw[h2];unfold NT;rw[h1];simp⟩
theorem NL (c:aJ):∀y∈NT c,y∈NG c:=fun y hy=>by
 have hO:∀(t:Option Tm) (ns:List (List UInt8)),∀y∈ns,y∈cq ns t:=fun t ns y hy=>by
  cases t with
  | none=>exact hy
  | some r=>
   obtain⟨K,hK⟩:=namesV_ext 8 r ns
   show y∈namesF 8 ns r
   rw[hK];exact List.mem_append_left _ hy
 have hI:∀(x:aH) (ns:List (List UInt8)),∀y∈ns,y∈aO ns x:=fun x ns y hy=>by
  refine hO _ _ y (hO _ _ y ?_)
  obtain⟨K,hK⟩:=namesV_ext 8 x.left ns
  rw[hK];exact List.mem_append_left _ hy
 have hL:∀(xs:List aH) (ns:List (List UInt8)),∀y∈ns,y∈aC ns xs:=fun xs=>by
  induction xs with
  | nil=>exact fun ns y hy=>hy
  | cons x xs ih=>exact fun ns y hy=>ih _ y (hI x ns y hy)
 exact hL c.goals (NT c) y hy
theorem GH {c:aJ} {y:List UInt8} (hy:y∈NG c) (hn:y∉NH c):(NH c).length≤(NG c).idxOf y∧(NG c).idxOf y<(NG c).length:=by
 refine⟨?_,List.idxOf_lt_length_of_mem hy⟩
 obtain⟨K,hK⟩:=JO c
 rw[hK,List.idxOf_append,if_neg hn]
 omega
theorem lR {r r':Nat→Nat} {P:Nat→Prop} (h:∀k,P k→r' k=r k) {u:U} (hu:bA (PQ P) u):bl r' u=bl r u:=sub_congr u fun x hx=>by
 unfold ren rn
 rw[h x.2 ((e9 u).1 hu x hx).2]
theorem GI (r:Nat→Nat):bl r zU=zU:=by unfold zU;rw[fV];rfl
theorem GJ (Q:Vr→Prop):bA Q zU:= .n fun a ha=>by cases ha
theorem uu (Q:Vr→Prop):(bJ.mk [] Wn.none).kV Q:=⟨fun _ hq=>absurd hq List.not_mem_nil,dG Q⟩
theorem wU {r r':Nat→Nat} {P:Nat→Prop} (hi:ik r P) (h:∀k,P k→r' k=r k) {u:U} (hu:bA (PQ P) u) {c:aJ} {o1 o2:Nat→Nat} {y:List UInt8} (ho:y∉NH c→r' (o1 ((NG c).idxOf y - (NH c).length))=o2 ((NG c).idxOf y - (NH c).length)):cT (bl r u) c o2 y=bl r' (cT u c o1 y):=by
 unfold cT
 by_cases hy:y∈NH c
 ·rw[if_pos hy,if_pos hy]
  have:=wP hi 8 c.head u ⟨[],Wn.none⟩ hu (uu _)
  have e:(bJ.mk [] Wn.none).map r=⟨[],Wn.none⟩:=rfl
  rw[e]at this
  rw[this]
  show (((matU 8 c.head u ⟨[],Wn.none⟩).st.map fun q=>(q.1,bl r q.2)).find? (fun q=>q.1 == y)).elim zU (·.2)=_
  rw[CM]
  cases hq:(matU 8 c.head u ⟨[],Wn.none⟩).st.find? (fun q=>q.1 == y)with
  | none=>exact(GI r').symm
  | some q=>exact(lR h ((mY 8 c.head u _ hu (uu _)).1 q (List.mem_of_find?_eq_some hq))).symm
 ·rw[if_neg hy,if_neg hy,qs,ho hy]
theorem yR {P P':Nat→Prop} (h:∀k,P k→P' k) {u:U} (hu:bA (PQ P) u) {c:aJ} {o:Nat→Nat} {y:List UInt8} (ho:y∉NH c→P' (o ((NG c).idxOf y - (NH c).length))):bA (PQ P') (cT u c o y):=by
 unfold cT
 by_cases hy:y∈NH c
 ·rw[if_pos hy]
  cases hq:(matU 8 c.head u ⟨[],Wn.none⟩).st.find? (fun q=>q.1 == y)with
  | none=>exact GJ _
  | some q=>exact((mY 8 c.head u _ hu (uu _)).1 q (List.mem_of_find?_eq_some hq)).mono fun x hx=>⟨hx.1,h _ hx.2⟩
 ·rw[if_neg hy]
  exact .v ⟨rfl,ho hy⟩
theorem C2 {r:Nat→Nat} {P:Nat→Prop} (hi:ik r P) {l1 l2:Nat} (h1:∀k,P k→k<l1) (h2:∀k,P k→r k<l2) {u:U} (hu:bA (PQ P) u) {c:aJ} (hc:∀x∈c.tests,iL x):(bT l2 (bl r u) c).1=(bT l1 u c).1∧(bT l2 (bl r u) c).2=(bT l1 u c).2.map r∧∀v∈(bT l1 u c).2,P v:=by
 have hm:=wP hi 8 c.head u ⟨[],Wn.none⟩ hu (uu _)
 have e:(bJ.mk [] Wn.none).map r=⟨[],Wn.none⟩:=rfl
 rw[e]at hm
 have hw:(matU 8 c.head (bl r u) ⟨[],Wn.none⟩).w=(matU 8 c.head u ⟨[],Wn.none⟩).w.map r:=by rw[hm];rfl
 have uv:=(mY 8 c.head u ⟨[],Wn.none⟩ hu (uu _)).2
 unfold bT
 rw[hw,Wn.rP]
 by_cases hs:(matU 8 c.head u ⟨[],Wn.none⟩).w.says≠1
 ·rw[if_pos hs,if_pos hs]
  exact⟨rfl,rfl,uv.at⟩
 ·rw[if_neg hs,if_neg hs]
  let r':Nat→Nat:=fun k=>if k<l1 then r k else l2+(k - l1)
  let P':Nat→Prop:=fun k=>P k∨l1≤k
  have hr:∀k,P k→r' k=r k:=fun k hk=>if_pos (h1 k hk)
  have hr2:∀k,l1≤k→r' k=l2+(k - l1):=fun k hk=>if_neg (by omega)
  have hi':ik r' P':=fun i j hPi hPj q=>by
   rcases hPi with a | a<;>rcases hPj with b | b
   ·rw[hr i a,hr j b]at q;exact hi i j a b q
   ·rw[hr i a,hr2 j b]at q;have:=h2 i a;omega
   ·rw[hr2 i a,hr j b]at q;have:=h2 j b;omega
   ·rw[hr2 i a,hr2 j b]at q;omega
  have hY:∀y,bA (PQ P') (cT u c (l1+·) y):=fun y=>yR (fun k hk=>Or.inl hk) hu fun _=>Or.inr (Nat.le_add_right _ _)
  have hE:cT (bl r u) c (l2+·)=fun y=>bl r' (cT u c (l1+·) y):=funext fun y=>wU hi hr hu fun _=>by
   rw[hr2 _ (Nat.le_add_right _ _)]
   congr 1
   omega
  rw[hE,EF hi' c.tests [] hc (fun y _=>hY y)]
  have hwt:=yE (η:=cT u c (l1+·)) c.tests [] hc (fun y _=>hY y)
  refine⟨Wn.rP _ _,?_,fun v hv=> ?_⟩
  ·show ((iU (cT u c (l1+·)) c.tests).wt.map r').filter _=_
   rw[List.filter_map]
   have:(iU (cT u c (l1+·)) c.tests).wt.filter ((fun n=>decide (n<l2))∘r')=(iU (cT u c (l1+·)) c.tests).wt.filter fun n=>decide (n<l1):=List.filter_congr fun w hw=>by
    show decide (r' w<l2)=decide (w<l1)
    rcases hwt.at w hw with q | q
    ·rw[hr w q,decide_eq_true (h2 w q),decide_eq_true (h1 w q)]
    ·rw[hr2 w q,decide_eq_false (by omega),decide_eq_false (by omega)]
   rw[this]
   refine List.map_congr_left fun w hw=> ?_
   obtain⟨q8,hw2⟩:=List.mem_filter.1 hw
   exact if_pos (of_decide_eq_true hw2)
  ·obtain⟨q8,hw2⟩:=List.mem_filter.1 hv
   have:=of_decide_eq_true hw2
   rcases hwt.at v q8 with q | q
   ·exact q
   ·omega
def MG.ren (r:Nat→Nat) (g:MG):MG:=⟨bl r g.a,g.sg,bl r g.b,g.op,bl r g.c,g.wt,fun w=>∃v,g.on v∧r v=w⟩
structure rj (P:Nat→Prop) (g:MG):Prop where
 a:bA (PQ P) g.a
 b:bA (PQ P) g.b
 c:bA (PQ P) g.c
 on:∀v,g.on v→P v
structure eQ (r:Nat→Nat) (P:Nat→Prop) (S S':MS):Prop where
 mono:∀i j,P i→P j→i<j→r i<r j
 l1:∀k,P k→k<S.lim
 l2:∀k,P k→r k<S'.lim
 wv:∀u∈S.vs,bA (PQ P) u
 wg:∀g∈S.gs,rj P g
 vs:S'.vs=S.vs.map (bl r)
 gs:S'.gs=S.gs.map (MG.ren r)
def pJ (r:Nat→Nat) (P:Nat→Prop):Prop:=∀i j,P i→P j→i<j→r i<r j
theorem pJ.inj {r:Nat→Nat} {P:Nat→Prop} (h:pJ r P):ik r P:=fun i j hi hj e=>by
 rcases Nat.lt_trichotomy i j with q | q | q
 ·have:=h i j hi hj q;omega
 ·exact q
 ·have:=h j i hj hi q;omega
theorem fG.rn {r:Nat→Nat} {P:Nat→Prop} (hm:pJ r P) {a b:U} {σ τ:Vr→U} (h:fG a b σ) (k:fG (bl r a) (bl r b) τ) (ha:bA (PQ P) a) (hb:bA (PQ P) b) {u:U} (hu:bA (PQ P) u):sub τ (bl r u)=bl r (sub σ u):=
 h.ren (ρ:=Zc.rn r) (Q:=PQ P) (fun x y hx hy e=>hm.inj.on x y hx hy e) (fun x y hx hy _ hl=>⟨rfl,by
  show r y.2≤r x.2
  rcases Nat.lt_or_eq_of_le hl with q | q
  ·exact Nat.le_of_lt (hm _ _ hy.2 hx.2 q)
  ·rw[q];exact Nat.le_refl _⟩) ((e9 a).1 ha) ((e9 b).1 hb) k u ((e9 u).1 hu)
theorem fG.uw {Q:Vr→Prop} {a b:U} {σ:Vr→U} (h:fG a b σ) (ha:bA Q a) (hb:bA Q b) {u:U} (hu:bA Q u):bA Q (sub σ u):=by
 induction hu with
 | @v x hx=>
  refine(e9 _).2 fun z hz=> ?_
  rcases h.vars hz with q | q | q
  ·rw[q];exact hx
  ·exact(e9 a).1 ha z q
  ·exact(e9 b).1 hb z q
 | @n k tx num ss hs ih=>
  rw[ek]
  refine .n fun u hu=> ?_
  obtain⟨s,hs',rfl⟩:=List.mem_map.1 hu
  exact ih s hs'
theorem EM {r:Nat→Nat} {P:Nat→Prop} (hm:pJ r P) {a b:U} {σ τ:Vr→U} (h:fG a b σ) (k:fG (bl r a) (bl r b) τ) (ha:bA (PQ P) a) (hb:bA (PQ P) b) {g:MG} (hg:rj P g):MG.put τ (MG.ren r g)=MG.ren r (MG.put σ g)∧rj P (MG.put σ g):=by
 have hs:(MG.ren r g).stays τ↔g.stays σ:=by
  refine⟨fun q=>⟨q.1,fun v hv=> ?_⟩,fun q=>⟨q.1,fun w hw=> ?_⟩⟩
  ·have e:τ ([],r v)= .v ([],r v):=q.2 (r v) ⟨v,hv,rfl⟩
   have e2:τ ([],r v)=bl r (σ ([],v)):=h.rn hm k ha hb (u:= .v ([],v)) (.v ⟨rfl,hg.on v hv⟩)
   rw[e]at e2
   have uv:bA (PQ P) (σ ([],v)):=h.uw ha hb (u:= .v ([],v)) (.v ⟨rfl,hg.on v hv⟩)
   generalize σ ([],v)=s at e2 uv
   cases s with
   | n kk tx num ss=>rw[fV]at e2;cases e2
   | v z=>
    rw[qs]at e2
    injection e2 with e2
    injection e2 with _ e2
    have:=hm.inj _ _ (hg.on v hv) uv.var.2 e2
    congr 1
    exact Prod.ext uv.var.1 this.symm
  ·obtain⟨v,hv,rfl⟩:=hw
   have e2:τ ([],r v)=bl r (σ ([],v)):=h.rn hm k ha hb (u:= .v ([],v)) (.v ⟨rfl,hg.on v hv⟩)
   rw[e2,q.2 v hv]
   rfl
 refine⟨?_,⟨h.uw ha hb hg.a,h.uw ha hb hg.b,h.uw ha hb hg.c,fun v hv=>hg.on v hv.2⟩⟩
 unfold MG.put
 have e1:(MG.ren r g).a=bl r g.a:=rfl
 have e2:(MG.ren r g).b=bl r g.b:=rfl
 have e3:(MG.ren r g).c=bl r g.c:=rfl
 rw[e1,e2,e3,h.rn hm k ha hb hg.a,h.rn hm k ha hb hg.b,h.rn hm k ha hb hg.c]
 unfold MG.ren at hs⊢
 dsimp only at hs⊢
 congr 1
 ·exact decide_eq_decide.2 hs
 ·funext w
  apply propext
  constructor
  ·rintro⟨q1,v,q2,q3⟩
   exact⟨v,⟨hs.1 q1,q2⟩,q3⟩
  ·rintro⟨v,⟨q1,q2⟩,q3⟩
   exact⟨hs.2 q1,v,q2,q3⟩
theorem EN {r:Nat→Nat} {P:Nat→Prop} (hi:ik r P) {a b:U} (ha:bA (PQ P) a) (hb:bA (PQ P) b) (h:∀θ,sub θ (bl r a)≠sub θ (bl r b)):∀θ,sub θ a≠sub θ b:=by
 classical
 refine PH (ρ:=Zc.rn r) (ρ':=fun w=>if q:∃v,PQ P v∧Zc.rn r v=w then Classical.choose q else w) (fun v hv=> ?_) h
 have hp:PQ P v:=by
  rcases hv with q | q
  ·exact(e9 a).1 ha v q
  ·exact(e9 b).1 hb v q
 have q:∃z,PQ P z∧Zc.rn r z=Zc.rn r v:=⟨v,hp,rfl⟩
 rw[dif_pos q]
 exact hi.on _ _ (Classical.choose_spec q).1 hp (Classical.choose_spec q).2
theorem Mr {r:Nat→Nat} {a b:U} (h:∀θ,sub θ a≠sub θ b):∀θ,sub θ (bl r a)≠sub θ (bl r b):=fun θ e=>by
 unfold bl at e
 rw[sub_sub,sub_sub]at e
 exact h _ e
theorem ug.parts {x:aH} (h:ug x) (ns:List (List UInt8)):∀t,(t=x.left∨x.right=some t∨x.last=some t)→wfK 8 t∧∃ns',∀y∈namesF 8 ns' t,y∈aO ns x:=fun t ht=>by
 have hO:∀(t:Option Tm) (ns:List (List UInt8)),∀y∈ns,y∈cq ns t:=fun t ns y hy=>by
  cases t with
  | none=>exact hy
  | some r=>
   obtain⟨K,hK⟩:=namesV_ext 8 r ns
   show y∈namesF 8 ns r
   rw[hK];exact List.mem_append_left _ hy
 rcases ht with q | q | q
 ·subst q;exact⟨h.wl,ns,fun y hy=>hO _ _ y (hO _ _ y hy)⟩
 ·refine⟨?_,namesF 8 ns x.left,fun y hy=>hO _ _ y (by rw[q];exact hy)⟩
  by_cases e:x.sign=[]
  ·rw[h.r0 e]at q;cases q
  ·obtain⟨r,h1,h2⟩:=h.r1 e
   rw[h1]at q;cases q;exact h2
 ·refine⟨?_,cq (namesF 8 ns x.left) x.right,fun y hy=>by unfold aO;rw[q];exact hy⟩
  by_cases e:x.op=[]
  ·rw[h.z0 e]at q;cases q
  ·obtain⟨r,h1,h2⟩:=h.z1 e
   rw[h1]at q;cases q;exact h2
theorem JP {r:Nat→Nat} {η θ:List UInt8→U} {x:aH} (h:ug x) (ns:List (List UInt8)) (hy:∀y∈aO ns x,θ y=bl r (η y)):MG.of θ x=MG.ren r (MG.of η x):=by
 have hp:∀t,(t=x.left∨x.right=some t∨x.last=some t)→bH θ 8 t=bl r (bH η 8 t):=fun t ht=>by
  obtain⟨h1,ns',h2⟩:=h.parts ns t ht
  rw[iy (θ:=fun y=>bl r (η y)) 8 t ns' h1 (fun y q=>hy y (h2 y q)),ve r η 8 t h1]
 unfold MG.of MG.ren
 dsimp only
 rw[hp x.left (Or.inl rfl)]
 congr 1
 ·cases e:x.right with
  | none=>exact(GI r).symm
  | some t=>exact hp t (Or.inr (Or.inl e))
 ·cases e:x.last with
  | none=>exact(GI r).symm
  | some t=>exact hp t (Or.inr (Or.inr e))
 ·funext w
  apply propext
  constructor
  ·intro q;exact q.elim
  ·rintro⟨_,q,_⟩;exact q.elim
theorem NM {P:Nat→Prop} {η:List UInt8→U} {x:aH} (h:ug x) (ns:List (List UInt8)) (hy:∀y∈aO ns x,bA (PQ P) (η y)):rj P (MG.of η x):=by
 have hp:∀t,(t=x.left∨x.right=some t∨x.last=some t)→bA (PQ P) (bH η 8 t):=fun t ht=>by
  obtain⟨h1,ns',h2⟩:=h.parts ns t ht
  exact pD 8 t ns' h1 fun y q=>hy y (h2 y q)
 refine⟨hp x.left (Or.inl rfl),?_,?_,fun v q=>q.elim⟩
 ·show bA (PQ P) (x.right.elim zU (bH η 8))
  cases e:x.right with
  | none=>exact GJ _
  | some t=>exact hp t (Or.inr (Or.inl e))
 ·show bA (PQ P) (x.last.elim zU (bH η 8))
  cases e:x.last with
  | none=>exact GJ _
  | some t=>exact hp t (Or.inr (Or.inr e))
theorem Ms {r:Nat→Nat} {P:Nat→Prop} (hm:pJ r P) {l1 l2:Nat} (h1:∀k,P k→k<l1) (h2:∀k,P k→r k<l2) {F F':List Nat} (hl:F.length=F'.length) (hF:F.Pairwise (·<·)) (hF':F'.Pairwise (·<·)) (hf:∀f∈F,l1≤f) (hf':∀f∈F',l2≤f):∃r':Nat→Nat,pJ r' (fun k=>P k∨k∈F)∧(∀k,P k→r' k=r k)∧(∀k,k<F.length→r' ((F[k]?).getD 0)=(F'[k]?).getD 0)∧(∀f∈F,r' f∈F'):=by
 have dC:∀i (hi:i<F.length),F.idxOf F[i]=i:=fun i hi=>by
  have hk:F.idxOf F[i]<F.length:=List.idxOf_lt_length_of_mem (List.getElem_mem hi)
  have he:F[F.idxOf F[i]]=F[i]:=List.getElem_idxOf hk
  rcases Nat.lt_trichotomy (F.idxOf F[i]) i with q | q | q
  ·have:=List.pairwise_iff_getElem.1 hF _ _ hk hi q;omega
  ·exact q
  ·have:=List.pairwise_iff_getElem.1 hF _ _ hi hk q;omega
 refine⟨fun k=>if k<l1 then r k else(F'[F.idxOf k]?).getD 0,?_,fun k hk=>if_pos (h1 k hk),fun k hk=> ?_,fun f Ys=> ?_⟩
 ·have hat:∀i (hi:i<F.length),(if F[i]<l1 then r F[i]else(F'[F.idxOf F[i]]?).getD 0)=F'[i]'(by omega):=fun i hi=>by
   have:=hf _ (List.getElem_mem hi)
   rw[if_neg (by omega),dC i hi,List.getElem?_eq_getElem (by omega)]
   rfl
  intro i j hi hj JQ
  dsimp only
  rcases hi with hi | hi<;>rcases hj with hj | hj
  ·rw[if_pos (h1 i hi),if_pos (h1 j hj)];exact hm i j hi hj JQ
  ·obtain⟨b,hb,rfl⟩:=List.getElem_of_mem hj
   rw[hat b hb,if_pos (h1 i hi)]
   have:=h2 i hi
   have:=hf' _ (List.getElem_mem (show b<F'.length by omega))
   omega
  ·have:=hf i hi
   have:=h1 j hj
   omega
  ·obtain⟨a,ha,rfl⟩:=List.getElem_of_mem hi
   obtain⟨b,hb,rfl⟩:=List.getElem_of_mem hj
   rw[hat a ha,hat b hb]
   have:a<b:=by
    rcases Nat.lt_trichotomy a b with q | q | q
    ·exact q
    ·subst q;omega
    ·have:=List.pairwise_iff_getElem.1 hF _ _ hb ha q;omega
   exact List.pairwise_iff_getElem.1 hF' _ _ _ _ this
 ·have qi:=hf _ (List.getElem_mem hk)
  rw[List.getElem?_eq_getElem hk]
  dsimp only[Option.getD_some]
  rw[if_neg (by omega),dC k hk]
 ·obtain⟨a,ha,rfl⟩:=List.getElem_of_mem Ys
  have:=hf _ (List.getElem_mem ha)
  dsimp only
  rw[if_neg (by omega),dC a ha,List.getElem?_eq_getElem (by omega)]
  exact List.getElem_mem _
theorem MG.JR {r r':Nat→Nat} {P:Nat→Prop} (h:∀k,P k→r' k=r k) {g:MG} (hg:rj P g):MG.ren r' g=MG.ren r g:=by
 unfold MG.ren
 rw[lR h hg.a,lR h hg.b,lR h hg.c]
 congr 1
 funext w
 apply propext
 constructor
 ·rintro⟨v,q1,q2⟩;exact⟨v,q1,by rw[←h v (hg.on v q1)];exact q2⟩
 ·rintro⟨v,q1,q2⟩;exact⟨v,q1,by rw[h v (hg.on v q1)];exact q2⟩
theorem rj.mono {P P':Nat→Prop} (h:∀k,P k→P' k) {g:MG} (hg:rj P g):rj P' g:=⟨hg.a.mono fun _ hx=>⟨hx.1,h _ hx.2⟩,hg.b.mono fun _ hx=>⟨hx.1,h _ hx.2⟩,hg.c.mono fun _ hx=>⟨hx.1,h _ hx.2⟩,fun v hv=>h v (hg.on v hv)⟩
theorem i7 {α β:Type} (f:α→β):∀(l:List α) (i:Nat),(l.map f).eraseIdx i=(l.eraseIdx i).map f
 | [],_=>by simp
 | a :: l,0=>by simp
 | a :: l,i+1=>by simp[i7 f l i]
section
variable {cls:List aJ} {r:Nat→Nat} {P:Nat→Prop} {S S':MS}
theorem eQ.at {i:Nat} {g g':MG} (h:eQ r P S S') (hg:S.gs[i]?=some g) (oZ:S'.gs[i]?=some g'):g'=MG.ren r g∧rj P g:=by
 rw[h.gs,List.getElem?_map,hg]at oZ
 exact⟨(Option.some.inj oZ).symm,h.wg g (List.mem_of_getElem? hg)⟩
theorem oK.same {g:MG} {p:Int} {n n':Nat} {a a':Nat→Nat} (h:oK cls g p n a) (k:oK cls (MG.ren r g) p n' a'):n'=n∧a'=a:=by
 obtain⟨_,tx,us,h1,_,h2,h3⟩:=h
 obtain⟨_,tx',us',k1,_,k2,k3⟩:=k
 have:bl r g.a= .n 1 tx' 0 us':=k1
 rw[h1,fV]at this
 injection this with _ e1 _ e2
 subst e1 e2
 rw[List.length_map]at k2 k3
 have en:n'=n:=k2.trans h2.symm
 subst en
 exact⟨rfl,k3.trans h3.symm⟩
theorem oK.back {g:MG} {p:Int} {n':Nat} {a':Nat→Nat} (k:oK cls (MG.ren r g) p n' a'):oK cls g p n' a':=by
 obtain⟨k0,tx,us,k1,k2,k3,k4⟩:=k
 have k1':bl r g.a= .n 1 tx 0 us:=k1
 refine⟨k0,?_⟩
 cases hg:g.a with
 | v x=>rw[hg,qs]at k1';cases k1'
 | n kk tx' num ss=>
  rw[hg,fV]at k1'
  injection k1' with e1 e2 e3 e4
  subst e1 e2 e3 e4
  rw[List.length_map]at k3 k4
  exact⟨tx',ss,rfl,fun q=>k2 ⟨q.1,by rw[q.2];rfl⟩,k3,k4⟩
theorem eQ.ux (h:eQ r P S S') (aF:∀c∈cls,jN c) {g:MG} (hg:rj P g) {i:Nat} {c:aJ} (hc:cls[i]?=some c):(bT S'.lim (bl r g.a) c).1=(bT S.lim g.a c).1∧(bT S'.lim (bl r g.a) c).2=(bT S.lim g.a c).2.map r∧∀v∈(bT S.lim g.a c).2,P v:=C2 (pJ.inj h.mono) h.l1 h.l2 hg.a (aF c (List.mem_of_getElem? hc)).ts
theorem eQ.Sz {S1 S1':MS} (h:eQ r P S S') (hl:S.lim≤S1.lim) (hl':S'.lim≤S1'.lim) {a b:U} {σ τ:Vr→U} (hs:fG a b σ) (ht:fG (bl r a) (bl r b) τ) (ha:bA (PQ P) a) (hb:bA (PQ P) b) {i:Nat} (v1:S1.vs=S.vs.map (sub σ)) (g1:S1.gs=(S.gs.eraseIdx i).map (MG.put σ)) (v2:S1'.vs=S'.vs.map (sub τ)) (g2:S1'.gs=(S'.gs.eraseIdx i).map (MG.put τ)):eQ r P S1 S1':=by
 refine⟨h.mono,fun k hk=>Nat.lt_of_lt_of_le (h.l1 k hk) hl,fun k hk=>Nat.lt_of_lt_of_le (h.l2 k hk) hl',fun u hu=> ?_,fun g hg=> ?_,?_,?_⟩
 ·rw[v1]at hu
  obtain⟨w,hw,rfl⟩:=List.mem_map.1 hu
  exact hs.uw ha hb (h.wv w hw)
 ·rw[g1]at hg
  obtain⟨w,hw,rfl⟩:=List.mem_map.1 hg
  exact(EM h.mono hs ht ha hb (h.wg w (List.mem_of_mem_eraseIdx hw))).2
 ·rw[v2,v1,h.vs,List.map_map,List.map_map]
  exact List.map_congr_left fun u hu=>hs.rn h.mono ht ha hb (h.wv u hu)
 ·rw[g2,g1,h.gs,i7,List.map_map,List.map_map]
  exact List.map_congr_left fun u hu=>(EM h.mono hs ht ha hb (h.wg u (List.mem_of_mem_eraseIdx hu))).1
theorem eQ.SA {S1 S1':MS} (h:eQ r P S S') (hl:S.lim≤S1.lim) (hl':S'.lim≤S1'.lim) {i:Nat} {g g':MG} (hw:rj P g) (he:g'=MG.ren r g) (v1:S1.vs=S.vs) (g1:S1.gs=S.gs.set i g) (v2:S1'.vs=S'.vs) (g2:S1'.gs=S'.gs.set i g'):eQ r P S1 S1':=by
 refine⟨h.mono,fun k hk=>Nat.lt_of_lt_of_le (h.l1 k hk) hl,fun k hk=>Nat.lt_of_lt_of_le (h.l2 k hk) hl',by rw[v1];exact h.wv,fun x hx=> ?_,by rw[v2,v1];exact h.vs,by rw[g2,g1,h.gs,he,List.map_set]⟩
 rw[g1]at hx
 rcases List.mem_or_eq_of_mem_set hx with q | q
 ·exact h.wg x q
 ·rw[q];exact hw
theorem oQ {g:MG} (hm:ik r P) (hg:rj P g):(fo (MG.ren r g).op (MG.ren r g).b (MG.ren r g).c).wt=(fo g.op g.b g.c).wt.map r∧∀v∈(fo g.op g.b g.c).wt,P v:=by
 have:=OT hm g.op hg.b (fun _=>hg.c)
 refine⟨by show (fo g.op (bl r g.b) (bl r g.c)).wt=_;rw[this];rfl,?_⟩
 have uv:(fo g.op g.b g.c).fk (PQ P):=by
  unfold fo
  split
  ·exact(dG _).bN hg.b
  ·exact((dG _).bN hg.b).bN hg.c
 exact uv.at
theorem eQ.step (h:eQ r P S S') (aF:∀c∈cls,jN c) {S1 S1':MS} {i:Nat} {p z z':Int} (hs:kZ cls S S1 i p z) (ht:kZ cls S' S1' i p z'):z'=z∧∃r' P',eQ r' P' S1 S1':=by
 obtain⟨hl,g,hg,hs⟩:=hs
 obtain⟨hl',g',oZ,ht⟩:=ht
 obtain⟨rfl,hw⟩:=h.at hg oZ
 have e0:(MG.ren r g).sg=g.sg:=rfl
 have hi:=pJ.inj h.mono
 rcases hs with⟨s1,rfl,σ,s2,s3,s4⟩ | ⟨s1,rfl,s2,s3,s4⟩ | ⟨s1,rfl,s2,x,σ,s3,s4,s5,s6⟩ | ⟨s1,rfl,s2,s3,s4⟩ | ⟨n,a,s1,t,c,F,s2,s3,s4,s5,rfl,s6,s7,s8,s9,s10⟩ | ⟨n,a,s1,rfl,s2,s3,s4,s5⟩
 ·rcases ht with⟨t1,rfl,τ,t2,t3,t4⟩ | ⟨t1,_⟩ | ⟨t1,_⟩ | ⟨t1,_⟩ | ⟨n',a',⟨t1,_⟩,_⟩ | ⟨n',a',⟨t1,_⟩,_⟩
  ·exact⟨rfl,r,P,h.Sz hl hl' s2 t2 hw.a hw.b s3 s4 t3 t4⟩
  all_goals (rw[e0,s1]at t1;cases t1)
 ·rcases ht with⟨t1,_⟩ | ⟨t1,rfl,t2,t3,t4⟩ | ⟨t1,_,t2,_⟩ | ⟨t1,_⟩ | ⟨n',a',⟨t1,_⟩,_⟩ | ⟨n',a',⟨t1,_⟩,_⟩
  ·rw[e0,s1]at t1;cases t1
  ·refine⟨rfl,r,P,h.SA hl hl' ?_ ?_ s3 s4 t3 t4⟩
   ·exact⟨hw.a,hw.b,hw.c,(oQ hi hw).2⟩
   ·unfold MG.ren
    dsimp only
    congr 1
    funext w
    apply propext
    have:=(oQ hi hw).1
    unfold MG.ren at this
    dsimp only at this
    rw[this,List.mem_map]
  ·exfalso
   rw[(oQ hi hw).1]at t2
   exact s2 (List.map_eq_nil_iff.1 t2)
  all_goals (rw[e0,s1]at t1;cases t1)
 ·rcases ht with⟨t1,_⟩ | ⟨t1,rfl,t2,_⟩ | ⟨t1,rfl,t2,x',τ,t3,t4,t5,t6⟩ | ⟨t1,_⟩ | ⟨n',a',⟨t1,_⟩,_⟩ | ⟨n',a',⟨t1,_⟩,_⟩
  ·rw[e0,s1]at t1;cases t1
  ·exfalso
   rw[(oQ hi hw).1,s2]at t2
   exact t2 rfl
  ·have ev:fA g.op (bl r g.b) (bl r g.c)=some x':=t3
   rw[rQ,s3]at ev
   cases ev
   exact⟨rfl,r,P,h.Sz hl hl' s4 (by rw[fV];exact t4) hw.a (.n fun a ha=>by cases ha) s5 s6 t5 t6⟩
  all_goals (rw[e0,s1]at t1;cases t1)
 ·rcases ht with⟨t1,_⟩ | ⟨t1,_⟩ | ⟨t1,_⟩ | ⟨t1,rfl,t2,t3,t4⟩ | ⟨n',a',t1,_⟩ | ⟨n',a',t1,_⟩
  ·rw[e0,s1]at t1;cases t1
  ·rw[e0,s1]at t1;cases t1
  ·rw[e0,s1]at t1;cases t1
  ·refine⟨rfl,r,P,⟨h.mono,fun k hk=>Nat.lt_of_lt_of_le (h.l1 k hk) hl,fun k hk=>Nat.lt_of_lt_of_le (h.l2 k hk) hl',by rw[s3];exact h.wv,fun x hx=> ?_,by rw[t3,s3];exact h.vs,by rw[t4,s4,h.gs,i7]⟩⟩
   rw[s4]at hx
   exact h.wg x (List.mem_of_mem_eraseIdx hx)
  all_goals
   obtain⟨_,tx,us,t2,t3,_⟩:=t1.back
   rw[s2]at t2
   injection t2 with _ e1 _ e2
   exact absurd ⟨e1.symm,e2.symm⟩ t3
 ·rcases ht with⟨t1,_⟩ | ⟨t1,_⟩ | ⟨t1,_⟩ | ⟨t1,_,t2,_⟩ | ⟨n',a',t1,t',c',F',t2,t3,t4,t5,rfl,t6,t7,t8,t9,t10⟩ | ⟨n',a',t1,_,t2,_⟩
  ·rw[e0,s1.1]at t1;cases t1
  ·rw[e0,s1.1]at t1;cases t1
  ·rw[e0,s1.1]at t1;cases t1
  ·exfalso
   obtain⟨_,tx,us,q2,q3,_⟩:=s1
   have t2':bl r g.a= .n 1 [116,114,117,101] 0 []:=t2
   rw[q2,fV]at t2'
   injection t2' with _ e1 _ e2
   exact q3 ⟨e1,List.map_eq_nil_iff.1 e2⟩
  ·obtain⟨rfl,rfl⟩:=s1.same t1
   have et:t'=t:=by
    rcases Nat.lt_trichotomy t' t with q | q | q
    ·have:=s3 t' c' q t4
     rw[←(h.ux aF hw t4).1]at this
     exact absurd t5 this
    ·exact q
    ·have:=t3 t c q s4
     have e1:(bT S'.lim (MG.ren r g).a c).1=_:=(h.ux aF hw s4).1
     rw[e1]at this
     exact absurd s5 this
   subst et
   rw[s4]at t4
   cases t4
   have hcm:=aF c (List.mem_of_getElem? s4)
   obtain⟨r',m',o1,o2,o3⟩:=Ms h.mono h.l1 h.l2 (F:=F) (F':=F') (by omega) s7 t7 (fun f hf=>(s8 f hf).1) (fun f hf=>(t8 f hf).1)
   have qG:∀y∈NG c,y∉NH c→(NG c).idxOf y - (NH c).length<F.length:=fun y hy hn=>by
    have:=GH hy hn
    omega
   have Gh:∀y∈NG c,cT (bl r g.a) c (fun k=>(F'[k]?).getD 0) y=bl r' (cT g.a c (fun k=>(F[k]?).getD 0) y):=fun y hy=>wU hi o1 hw.a fun hn=>o2 _ (qG y hy hn)
   have uv:∀y∈NG c,bA (PQ fun k=>P k∨k∈F) (cT g.a c (fun k=>(F[k]?).getD 0) y):=fun y hy=>yR (fun k hk=>Or.inl hk) hw.a fun hn=>Or.inr (by
    have:=qG y hy hn
    rw[List.getElem?_eq_getElem this]
    exact List.getElem_mem _)
   refine⟨rfl,r',fun k=>P k∨k∈F,⟨m',fun k hk=> ?_,fun k hk=> ?_,fun u hu=> ?_,fun x hx=> ?_,?_,?_⟩⟩
   ·rcases hk with q | q
    ·exact Nat.lt_of_lt_of_le (h.l1 k q) hl
    ·exact(s8 k q).2
   ·rcases hk with q | q
    ·rw[o1 k q];exact Nat.lt_of_lt_of_le (h.l2 k q) hl'
    ·exact(t8 _ (o3 k q)).2
   ·rw[s9]at hu
    exact(h.wv u hu).mono fun x hx=>⟨hx.1,Or.inl hx.2⟩
   ·rw[s10]at hx
    rcases List.mem_append.1 hx with q | q
    ·exact(h.wg x (List.mem_of_mem_eraseIdx q)).mono fun k hk=>Or.inl hk
    ·obtain⟨y,hy,rfl⟩:=List.mem_map.1 q
     obtain⟨ns,hn⟩:=fz c.goals (NT c) y hy
     exact NM (hcm.gs y hy) ns fun z hz=>uv z (hn z hz)
   ·rw[t9,s9,h.vs]
    exact List.map_congr_left fun u hu=>(lR o1 (h.wv u hu)).symm
   ·rw[t10,s10,h.gs,i7,List.map_append,List.map_map]
    congr 1
    ·exact List.map_congr_left fun u hu=>(MG.JR o1 (h.wg u (List.mem_of_mem_eraseIdx hu))).symm
    ·refine List.map_congr_left fun y hy=> ?_
     obtain⟨ns,hn⟩:=fz c.goals (NT c) y hy
     exact JP (hcm.gs y hy) ns fun z hz=>Gh z (hn z hz)
  ·exfalso
   obtain⟨rfl,rfl⟩:=s1.same t1
   have:=t2 t c s2 s4
   have e1:(bT S'.lim (MG.ren r g).a c).1=_:=(h.ux aF hw s4).1
   rw[e1]at this
   exact this s5
 ·rcases ht with⟨t1,_⟩ | ⟨t1,_⟩ | ⟨t1,_⟩ | ⟨t1,_,t2,_⟩ | ⟨n',a',t1,t',c',F',t2,t3,t4,t5,_⟩ | ⟨n',a',t1,rfl,t2,t3,t4,t5⟩
  ·rw[e0,s1.1]at t1;cases t1
  ·rw[e0,s1.1]at t1;cases t1
  ·rw[e0,s1.1]at t1;cases t1
  ·exfalso
   obtain⟨_,tx,us,q2,q3,_⟩:=s1
   have t2':bl r g.a= .n 1 [116,114,117,101] 0 []:=t2
   rw[q2,fV]at t2'
   injection t2' with _ e1 _ e2
   exact q3 ⟨e1,List.map_eq_nil_iff.1 e2⟩
  ·exfalso
   obtain⟨rfl,rfl⟩:=s1.same t1
   have:=s2 t' c' t2 t4
   rw[←(h.ux aF hw t4).1]at this
   exact this t5
  ·obtain⟨rfl,rfl⟩:=s1.same t1
   refine⟨rfl,r,P,h.SA hl hl' ?_ ?_ s4 s5 t4 t5⟩
   ·refine⟨hw.a,hw.b,hw.c,fun v hv=> ?_⟩
    obtain⟨t,c,_,q2,_,q4⟩:=hv
    exact(h.ux aF hw q2).2.2 v q4
   ·unfold MG.ren
    dsimp only
    congr 1
    funext w
    apply propext
    constructor
    ·rintro⟨t,c,q1,q2,q3,q4⟩
     have ha:=h.ux aF hw q2
     rw[ha.1]at q3
     rw[ha.2.1]at q4
     obtain⟨v,hv,e⟩:=List.mem_map.1 q4
     exact⟨v,⟨t,c,q1,q2,q3,hv⟩,e⟩
    ·rintro⟨v,⟨t,c,q1,q2,q3,q4⟩,rfl⟩
     have ha:=h.ux aF hw q2
     exact⟨t,c,q1,q2,ha.1.trans q3,by rw[ha.2.1];exact List.mem_map_of_mem q4⟩
end
end Zc
namespace Zc
open Go.Proofs.YthfjnfcekeknlaaGreatDoor (fA dE iW)
section
variable {cls:List aJ} {r:Nat→Nat} {P:Nat→Prop} {S S':MS}
theorem eQ.NN (h:eQ r P S S') (aF:∀c∈cls,jN c) {S1:MS} {i:Nat} {p z en:Int} (hs:kZ cls S S1 i p z) (ht:EL cls S' i p en):False:=by
 obtain⟨_,g,hg,hs⟩:=hs
 obtain⟨g',oZ,ht⟩:=ht
 obtain⟨rfl,hw⟩:=h.at hg oZ
 have e0:(MG.ren r g).sg=g.sg:=rfl
 have hi:=pJ.inj h.mono
 rcases ht with⟨t1,_,t2⟩ | ⟨t1,t2,t3⟩ | ⟨_,n',a',t1,t2⟩
 ·rcases hs with⟨s1,_,σ,s2,_⟩ | ⟨s1,_⟩ | ⟨s1,_⟩ | ⟨s1,_⟩ | ⟨_,_,⟨s1,_⟩,_⟩ | ⟨_,_,⟨s1,_⟩,_⟩
  ·exact EN hi hw.a hw.b t2 σ s2.one
  all_goals (rw[e0,s1]at t1;cases t1)
 ·rw[(oQ hi hw).1]at t2
  have t2':=List.map_eq_nil_iff.1 t2
  have ev:fA (MG.ren r g).op (MG.ren r g).b (MG.ren r g).c=fA g.op g.b g.c:=rQ r g.op g.b g.c
  rw[ev]at t3
  rcases hs with⟨s1,_⟩ | ⟨s1,_,s2,_⟩ | ⟨s1,_,s2,x,σ,s3,s4,_⟩ | ⟨s1,_⟩ | ⟨_,_,⟨s1,_⟩,_⟩ | ⟨_,_,⟨s1,_⟩,_⟩
  ·rw[e0,s1]at t1;cases t1
  ·exact s2 t2'
  ·rcases t3 with⟨_,q⟩ | ⟨_,x',q1,q2⟩
   ·rw[s3]at q;cases q
   ·rw[s3]at q1
    cases q1
    refine EN hi hw.a (b:= .n 3 [] x []) (.n fun a ha=>by cases ha) (fun θ q=> ?_) σ s4.one
    rw[fV,List.map_nil,ek,List.map_nil]at q
    exact q2 θ q
  all_goals (rw[e0,s1]at t1;cases t1)
 ·rcases hs with⟨s1,_⟩ | ⟨s1,_⟩ | ⟨s1,_⟩ | ⟨s1,_,s2,_⟩ | ⟨n,a,s1,t,c,F,s2,s3,s4,s5,_⟩ | ⟨n,a,s1,_,s2,⟨t,c,s3,s4,s5⟩,_⟩
  ·have:=t1.1;rw[e0,s1]at this;cases this
  ·have:=t1.1;rw[e0,s1]at this;cases this
  ·have:=t1.1;rw[e0,s1]at this;cases this
  ·obtain⟨_,tx,us,q2,q3,_⟩:=t1.back
   rw[s2]at q2
   injection q2 with _ e1 _ e2
   exact q3 ⟨e1.symm,e2.symm⟩
  ·obtain⟨rfl,rfl⟩:=s1.same t1
   have:=t2 t c s2 s4
   have e1:(bT S'.lim (MG.ren r g).a c).1=_:=(h.ux aF hw s4).1
   rw[e1,s5]at this
   cases this
  ·obtain⟨rfl,rfl⟩:=s1.same t1
   have:=t2 t c s3 s4
   have e1:(bT S'.lim (MG.ren r g).a c).1=_:=(h.ux aF hw s4).1
   rw[e1,s5]at this
   cases this
theorem eQ.NP (h:eQ r P S S') (aF:∀c∈cls,jN c) {S1:MS} {i:Nat} {p z en:Int} (ht:EL cls S i p en) (hs:kZ cls S' S1 i p z):False:=by
 obtain⟨_,g',oZ,hs⟩:=hs
 obtain⟨g,hg,ht⟩:=ht
 obtain⟨rfl,hw⟩:=h.at hg oZ
 have e0:(MG.ren r g).sg=g.sg:=rfl
 have hi:=pJ.inj h.mono
 rcases ht with⟨t1,_,t2⟩ | ⟨t1,t2,t3⟩ | ⟨_,n',a',t1,t2⟩
 ·rcases hs with⟨s1,_,σ,s2,_⟩ | ⟨s1,_⟩ | ⟨s1,_⟩ | ⟨s1,_⟩ | ⟨_,_,⟨s1,_⟩,_⟩ | ⟨_,_,⟨s1,_⟩,_⟩
  ·exact Mr t2 σ s2.one
  all_goals (rw[e0,t1]at s1;cases s1)
 ·have ew:=(oQ hi hw).1
  rw[t2]at ew
  have ev:fA (MG.ren r g).op (MG.ren r g).b (MG.ren r g).c=fA g.op g.b g.c:=rQ r g.op g.b g.c
  rcases hs with⟨s1,_⟩ | ⟨s1,_,s2,_⟩ | ⟨s1,_,s2,x,σ,s3,s4,_⟩ | ⟨s1,_⟩ | ⟨_,_,⟨s1,_⟩,_⟩ | ⟨_,_,⟨s1,_⟩,_⟩
  ·rw[e0,t1]at s1;cases s1
  ·exact s2 ew
  ·rw[ev]at s3
   rcases t3 with⟨_,q⟩ | ⟨_,x',q1,q2⟩
   ·rw[s3]at q;cases q
   ·rw[s3]at q1
    cases q1
    have:=s4.one
    rw[ek,List.map_nil]at this
    have e2:sub σ (bl r g.a)=sub (fun y=>sub σ (Zc.ren (Zc.rn r) y)) g.a:=sub_sub _ _ _
    exact q2 _ (e2.symm.trans this)
  all_goals (rw[e0,t1]at s1;cases s1)
 ·rcases hs with⟨s1,_⟩ | ⟨s1,_⟩ | ⟨s1,_⟩ | ⟨s1,_,s2,_⟩ | ⟨n,a,s1,t,c,F,s2,s3,s4,s5,_⟩ | ⟨n,a,s1,_,s2,⟨t,c,s3,s4,s5⟩,_⟩
  ·have:=t1.1;rw[e0,this]at s1;cases s1
  ·have:=t1.1;rw[e0,this]at s1;cases s1
  ·have:=t1.1;rw[e0,this]at s1;cases s1
  ·obtain⟨_,tx,us,q2,q3,_⟩:=t1
   have s2':bl r g.a= .n 1 [116,114,117,101] 0 []:=s2
   rw[q2,fV]at s2'
   injection s2' with _ e1 _ e2
   exact q3 ⟨e1,List.map_eq_nil_iff.1 e2⟩
  ·obtain⟨rfl,rfl⟩:=t1.same s1
   have:=t2 t c s2 s4
   have e1:(bT S'.lim (MG.ren r g).a c).1=_:=(h.ux aF hw s4).1
   rw[e1,this]at s5
   cases s5
  ·obtain⟨rfl,rfl⟩:=t1.same s1
   have:=t2 t c s3 s4
   have e1:(bT S'.lim (MG.ren r g).a c).1=_:=(h.ux aF hw s4).1
   rw[e1,this]at s5
   cases s5
theorem eQ.fl (h:eQ r P S S') {i:Nat} {p en en':Int} (hs:EL cls S i p en) (ht:EL cls S' i p en'):en'=en:=by
 obtain⟨g,hg,hs⟩:=hs
 obtain⟨g',oZ,ht⟩:=ht
 obtain⟨rfl,hw⟩:=h.at hg oZ
 have e0:(MG.ren r g).sg=g.sg:=rfl
 have ev:fA (MG.ren r g).op (MG.ren r g).b (MG.ren r g).c=fA g.op g.b g.c:=rQ r g.op g.b g.c
 rcases hs with⟨s1,rfl,s2⟩ | ⟨s1,s2,s3⟩ | ⟨rfl,n,a,s1,s2⟩
 ·rcases ht with⟨_,rfl,_⟩ | ⟨t1,_⟩ | ⟨rfl,_⟩
  ·rfl
  ·rw[e0,s1]at t1;cases t1
  ·rfl
 ·rcases ht with⟨t1,_⟩ | ⟨t1,t2,t3⟩ | ⟨_,_,_,⟨t1,_⟩,_⟩
  ·rw[e0,s1]at t1;cases t1
  ·rw[ev]at t3
   rcases s3 with⟨rfl,q⟩ | ⟨rfl,x,q,_⟩<;>rcases t3 with⟨rfl,q'⟩ | ⟨rfl,x',q',_⟩
   ·rfl
   ·rw[q]at q';cases q'
   ·rw[q]at q';cases q'
   ·rfl
  ·rw[e0,s1]at t1;cases t1
 ·rcases ht with⟨t1,rfl,_⟩ | ⟨t1,_⟩ | ⟨rfl,_⟩
  ·rfl
  ·have:=s1.1;rw[e0,this]at t1;cases t1
  ·rfl
theorem vk (r:Nat→Nat) (u:U):big (bl r u)=big u:=by unfold big bl;rw[KB]
theorem EO (r:Nat→Nat) (us:List U):(us.map (bl r)).any big=us.any big:=by
 rw[List.any_map]
 congr 1
 funext u
 exact vk r u
theorem eQ.big (h:eQ r P S S'):qN S'=qN S:=by
 unfold qN
 rw[h.gs,h.vs,List.length_map,EO,List.any_map]
 congr 3
 funext g
 show mC (MG.ren r g)=mC g
 unfold mC MG.ren
 dsimp only
 rw[vk,vk,vk]
 cases g.a with
 | v x=>rfl
 | n k tx num us=>rw[fV];dsimp only;rw[EO]
theorem eQ.fU (h:eQ r P S S'):iq S'.gs=iq S.gs:=by
 unfold iq
 rw[h.gs,List.length_map]
 refine List.filter_congr fun i _=> ?_
 rw[List.getElem?_map]
 cases S.gs[i]?<;>rfl
theorem eQ.fin (h:eQ r P S S'):yQ S'.gs=yQ S.gs:=by
 unfold yQ
 rw[h.fU]
 have:S'.gs=[]↔S.gs=[]:=by rw[h.gs,List.map_eq_nil_iff]
 by_cases q:S.gs=[]
 ·rw[if_pos q,if_pos (this.2 q)]
 ·rw[if_neg q,if_neg (fun e=>q (this.1 e))]
theorem C3 (hi:ik r P):∀(vs:List U) (ts:List (List UInt8)) (N:List Vr),(∀u∈vs,bA (PQ P) u)→(∀x∈N,PQ P x)→(vs.map (bl r)).foldl qw (ts,N.map (rn r))=((vs.foldl qw (ts,N)).1,(vs.foldl qw (ts,N)).2.map (rn r))∧∀x∈(vs.foldl qw (ts,N)).2,PQ P x
 | [],ts,N,_,hN=>⟨rfl,hN⟩
 | u :: vs,ts,N,hu,hN=>by
  have h1:=(e9 u).1 (hu u (by simp))
  have hn:=zk hi.on u N h1 hN
  have hN':∀x∈aU N u,PQ P x:=fun x hx=>by
   rcases(rE u N).1 hx with q | q
   ·exact hN x q
   ·exact h1 x q
  have hs:=uL (D:=Go.Lib.itoa) hi.on hN' u h1
  rw[List.map_cons,List.foldl_cons,List.foldl_cons]
  have e:qw (ts,N.map (rn r)) (bl r u)=((qw (ts,N) u).1,(aU N u).map (rn r)):=by
   unfold qw
   dsimp only
   unfold bl
   rw[hn,hs]
  rw[e]
  exact C3 hi vs _ _ (fun w hw=>hu w (by simp[hw])) hN'
theorem C4 (hi:ik r P):∀(gs:List MG) (ts:List (List UInt8)) (N:List Vr),(∀g∈gs,rj P g)→(∀x∈N,PQ P x)→(gs.map (MG.ren r)).foldl nD (ts,N.map (rn r))=((gs.foldl nD (ts,N)).1,(gs.foldl nD (ts,N)).2.map (rn r))
 | [],ts,N,_,_=>rfl
 | g :: gs,ts,N,hg,hN=>by
  have hw:=hg g (by simp)
  have step:∀(u:U) (N:List Vr),bA (PQ P) u→(∀x∈N,PQ P x)→aU (N.map (rn r)) (bl r u)=(aU N u).map (rn r)∧∀x∈aU N u,PQ P x:=fun u N hu hN=>by
   have h1:=(e9 u).1 hu
   refine⟨zk hi.on u N h1 hN,fun x hx=> ?_⟩
   rcases(rE u N).1 hx with q | q
   ·exact hN x q
   ·exact h1 x q
  obtain⟨a1,a2⟩:=step g.a N hw.a hN
  obtain⟨b1,b2⟩:=step g.b _ hw.b a2
  obtain⟨c1,c2⟩:=step g.c _ hw.c b2
  have en:jO (N.map (rn r)) (MG.ren r g)=(jO N g).map (rn r):=by
   unfold jO MG.ren
   dsimp only
   rw[a1,b1,c1]
  have ht:vh ((jO N g).map (rn r)) (MG.ren r g)=vh (jO N g) g:=by
   unfold vh MG.ren
   dsimp only
   unfold bl
   have c3:∀x∈jO N g,PQ P x:=c2
   rw[uL hi.on c3 g.a ((e9 _).1 hw.a),uL hi.on c3 g.b ((e9 _).1 hw.b),uL hi.on c3 g.c ((e9 _).1 hw.c)]
  rw[List.map_cons,List.foldl_cons,List.foldl_cons]
  have e:nD (ts,N.map (rn r)) (MG.ren r g)=((nD (ts,N) g).1,(jO N g).map (rn r)):=by
   unfold nD
   dsimp only
   rw[en,ht]
  rw[e]
  exact C4 hi gs _ _ (fun w hw=>hg w (by simp[hw])) c2
theorem eQ.told (h:eQ r P S S'):(kK S'.vs).1=(kK S.vs).1∧(wT (kK S'.vs).2 S'.gs).1=(wT (kK S.vs).2 S.gs).1∧S'.gs.map (·.wt)=S.gs.map (·.wt):=by
 have hi:=pJ.inj h.mono
 obtain⟨v1,v2⟩:=C3 hi S.vs [] [] h.wv (fun x hx=>by cases hx)
 have ev:kK S'.vs=((kK S.vs).1,(kK S.vs).2.map (rn r)):=by
  unfold kK
  rw[h.vs]
  exact v1
 refine⟨by rw[ev],?_,?_⟩
 ·rw[ev,h.gs]
  unfold wT
  dsimp only
  rw[C4 hi S.gs [] (kK S.vs).2 h.wg v2]
 ·rw[h.gs,List.map_map]
  rfl
end
section
variable {cls:List aJ} {script:List (Int×Int)} {S0 S0':MS}
theorem nk.rel (aF:∀c∈cls,jN c) {r:Nat→Nat} {P:Nat→Prop} (h0:eQ r P S0 S0') {j:Nat} {S:MS} {L:List Int} (h:nk cls script S0 j S L):∀{S':MS} {L':List Int},nk cls script S0' j S' L'→L'=L∧∃r P,eQ r P S S':=by
 induction h with
 | start=>
  intro S' L' k
  cases k with
  | start=>exact⟨rfl,r,P,h0⟩
 | @step j S S1 L pg pc z i h hs hi hg hl ih=>
  intro S' L' k
  cases k with
  | @step _ T S1' L1 pg' pc' z' i' k ks ki kg kl=>
   obtain⟨rfl,r1,P1,hr⟩:=ih k
   rw[hs]at ks
   cases ks
   rw[hr.fU,hi]at ki
   cases ki
   obtain⟨rfl,r2,P2,hr2⟩:=hr.step aF hg kg
   exact⟨rfl,r2,P2,hr2⟩
theorem nk.before {j:Nat} {S:MS} {L:List Int} (h:nk cls script S0 j S L):∀{i:Nat},i<j→∃(T T':MS) (K:List Int) (pg pc z:Int) (k:Nat),nk cls script S0 i T K∧script[i]?=some (pg,pc)∧(iq T.gs)[dE pg (iq T.gs).length]?=some k∧kZ cls T T' k pc z∧qN T'=false:=by
 induction h with
 | start=>intro i hi;omega
 | @step j S S1 L pg pc z k h hs hi hg hl ih=>
  intro i JQ
  by_cases e:i=j
  ·subst e;exact⟨S,S1,L,pg,pc,z,k,h,hs,hi,hg,hl⟩
  ·exact ih (by omega)
theorem rW.same (aF:∀c∈cls,jN c) {r:Nat→Nat} {P:Nat→Prop} (h0:eQ r P S0 S0') {en en':Int} {log log':List Int} {v v' g g':List (List UInt8)} {w w':List Bool} (h:rW cls script S0 en log v g w) (k:rW cls script S0' en' log' v' g' w'):en'=en∧log'=log∧v'=v∧g'=g∧w'=w:=by
 obtain⟨j,S,L,hr,he⟩:=h
 obtain⟨j',S',L',kr,ke⟩:=k
 rcases Nat.lt_trichotomy j j' with q | q | q
 ·exfalso
  obtain⟨T,T',K,pg,pc,z,i,b1,b2,b3,b4,b5⟩:=kr.before q
  obtain⟨_,r1,P1,hR⟩:=hr.rel aF h0 b1
  rw[hR.fU]at b3
  rcases he with⟨e1,_⟩ | ⟨pg',pc',i',z',e1,e2,e3,_⟩
  ·rcases e1 with e1 | e1
   ·rw[e1]at b2
    rw[List.getElem?_eq_none (Nat.le_refl _)]at b2
    cases b2
   ·rw[e1]at b3;cases b3
  ·rw[b2]at e1
   cases e1
   rw[b3]at e2
   cases e2
   rcases e3 with⟨e3,_⟩ | ⟨_,S1,e3,e4⟩
   ·exact hR.NP aF e3 b4
   ·obtain⟨_,r2,P2,hR2⟩:=hR.step aF e3 b4
    rw[hR2.big,e4]at b5
    cases b5
 ·subst q
  obtain⟨rfl,r1,P1,hR⟩:=hr.rel aF h0 kr
  obtain⟨t1,t2,t3⟩:=hR.told
  rw[hR.fU]at ke
  rcases he with⟨e1,rfl,rfl,rfl,rfl,rfl⟩ | ⟨pg,pc,i,z,e1,e2,e3,rfl,rfl,rfl,rfl⟩<;>rcases ke with⟨k1,rfl,rfl,rfl,rfl,rfl⟩ | ⟨pg',pc',i',z',k1,k2,k3,rfl,rfl,rfl,rfl⟩
  ·exact⟨hR.fin,rfl,t1,t2,t3⟩
  ·exfalso
   rcases e1 with e1 | e1
   ·rw[e1]at k1
    rw[List.getElem?_eq_none (Nat.le_refl _)]at k1
    cases k1
   ·rw[e1]at k2;cases k2
  ·exfalso
   rcases k1 with k1 | k1
   ·rw[k1]at e1
    rw[List.getElem?_eq_none (Nat.le_refl _)]at e1
    cases e1
   ·rw[k1]at e2;cases e2
  ·rw[e1]at k1
   cases k1
   rw[e2]at k2
   cases k2
   rcases e3 with⟨e3,rfl⟩ | ⟨rfl,S1,e3,e4⟩<;>rcases k3 with⟨k3,rfl⟩ | ⟨rfl,S1',k3,k4⟩
   ·exact⟨hR.fl e3 k3,rfl,rfl,rfl,rfl⟩
   ·exact(hR.NP aF e3 k3).elim
   ·exact(hR.NN aF e3 k3).elim
   ·obtain⟨rfl,_⟩:=hR.step aF e3 k3
    exact⟨rfl,rfl,rfl,rfl,rfl⟩
 ·exfalso
  obtain⟨T,T',K,pg,pc,z,i,b1,b2,b3,b4,b5⟩:=hr.before q
  obtain⟨_,r1,P1,hR⟩:=b1.rel aF h0 kr
  rw[hR.fU]at ke
  rcases ke with⟨e1,_⟩ | ⟨pg',pc',i',z',e1,e2,e3,_⟩
  ·rcases e1 with e1 | e1
   ·rw[e1]at b2
    rw[List.getElem?_eq_none (Nat.le_refl _)]at b2
    cases b2
   ·rw[e1]at b3;cases b3
  ·rw[b2]at e1
   cases e1
   rw[b3]at e2
   cases e2
   rcases e3 with⟨e3,_⟩ | ⟨_,S1,e3,e4⟩
   ·exact hR.NN aF b4 e3
   ·obtain⟨_,r2,P2,hR2⟩:=hR.step aF b4 e3
    rw[hR2.big,b5]at e4
    cases e4
end
end Zc
namespace Go.Proofs.YthfjnfcekeknlaaGreatDoor
open Go.RowKit
open Zc (U Vr aJ)
theorem JS {T:Nat→U} {u:U} {c:aJ} {V F:List Nat} (hV:Zc.uZ T u c V) (hF:∀f∈F,T f= .v ([],f)) {y:List UInt8} (hy:y∈Zc.NG c) (hl:(Zc.NG c).idxOf y<(V++F).length):cR T (V++F) (Zc.NG c) y=Zc.cT u c (fun k=>(F[k]?).getD 0) y:=by
 have jI:V.length=(Zc.NH c).length:=hV.1
 unfold cR Zc.cT
 by_cases hn:y∈Zc.NH c
 ·rw[if_pos hn]
  obtain⟨K,hK⟩:=Zc.JO c
  have ei:(Zc.NG c).idxOf y=(Zc.NH c).idxOf y:=by rw[hK,List.idxOf_append,if_pos hn]
  have hi:(Zc.NH c).idxOf y<(Zc.NH c).length:=List.idxOf_lt_length_of_mem hn
  have h1:(Zc.namesF 8 [] c.head)[(Zc.NH c).idxOf y]?=some y:=by
   show (Zc.NH c)[(Zc.NH c).idxOf y]?=some y
   rw[List.getElem?_eq_getElem hi,List.getElem_idxOf]
  have h2:V[(Zc.NH c).idxOf y]?=some (V[(Zc.NH c).idxOf y]'(by omega)):=List.getElem?_eq_getElem (by omega)
  obtain⟨q,q1,q2⟩:=hV.2 _ y _ h1 h2
  rw[ei,List.getElem?_append_left (by omega),h2,q1]
  exact q2
 ·rw[if_neg hn]
  have:=(Zc.GH hy hn).1
  rw[List.getElem?_append_right (by omega),jI]
  rw[List.length_append]at hl
  have hk:(Zc.NG c).idxOf y - (Zc.NH c).length<F.length:=by omega
  dsimp only
  rw[List.getElem?_eq_getElem hk]
  exact hF _ (List.getElem_mem hk)
theorem C5 {u:U} {b:Nat} {c:aJ} {V F:List Nat} {T:Nat→U} {says:Nat} {ws:List Nat} (h:qJ u b c V F T says ws) (hu:Zc.bA (Zc.PQ (·<b)) u) (aF:Zc.jN c):(Zc.bT b u c).1=says∧∀v,v∈ws↔v∈(Zc.bT b u c).2:=by
 rcases h with⟨h1,rfl,rfl⟩ | ⟨h1,hV,hl,hF,hp,rfl,rfl⟩
 ·unfold Zc.bT
  rw[if_pos h1]
  exact⟨rfl,fun v=>Iff.rfl⟩
 ·unfold Zc.bT
  rw[if_neg (by rw[h1];simp)]
  have jI:V.length=(Zc.NH c).length:=hV.1
  have hNT:∀y∈Zc.NT c,(Zc.NG c).idxOf y<(V++F).length:=fun y hy=>by
   have WM:∃K,Zc.NG c=Zc.NT c++K:=by
    have hO:∀(t:Option Zc.Tm) (ns:List (List UInt8)),∃M,Zc.cq ns t=ns++M:=fun t ns=>by
     cases t with
     | none=>exact⟨[],by simp[Zc.cq]⟩
     | some r=>exact Zc.namesV_ext 8 r ns
    have hI:∀(x:Zc.aH) (ns:List (List UInt8)),∃M,Zc.aO ns x=ns++M:=fun x ns=>by
     obtain⟨M1,h1⟩:=Zc.namesV_ext 8 x.left ns
     obtain⟨M2,h2⟩:=hO x.right (Zc.namesF 8 ns x.left)
     obtain⟨M3,h3⟩:=hO x.last (Zc.cq (Zc.namesF 8 ns x.left) x.right)
     exact⟨M1++(M2++M3),by unfold Zc.aO;rw[h3,h2,h1];simp⟩
    have hL:∀(xs:List Zc.aH) (ns:List (List UInt8)),∃M,Zc.aC ns xs=ns++M:=fun xs=>by
     induction xs with
     | nil=>exact fun ns=>⟨[],by simp[Zc.aC]⟩
     | cons x xs ih=>
      intro ns
      obtain⟨M1,h1⟩:=hI x ns
      obtain⟨M2,h2⟩:=ih (Zc.aO ns x)
      exact⟨M1++M2,by show Zc.aC (Zc.aO ns x) xs=_;rw[h2,h1];simp⟩
    exact hL c.goals (Zc.NT c)
   obtain⟨K,hK⟩:=WM
   rw[hK,List.idxOf_append,if_pos hy,hl]
   exact List.idxOf_lt_length_of_mem hy
  have he:Zc.iU (cR T (V++F) (Zc.NG c)) c.tests=Zc.iU (Zc.cT u c fun k=>(F[k]?).getD 0) c.tests:=Zc.zV c.tests (Zc.NH c) aF.ts fun y hy=>JS hV (fun f hf=>(hF f hf).2) (Zc.NL c y hy) (hNT y hy)
  let r:Nat→Nat:=fun k=>if k<b then k else(F[k - b]?).getD 0
  let P:Nat→Prop:=fun k=>k<b∨(b≤k∧k - b<F.length)
  have r1:∀k,k<b→r k=k:=fun k hk=>if_pos hk
  have r2:∀k,b≤k→∀hk:k - b<F.length,r k=F[k - b]:=fun k hk gj=>by
   show (if k<b then k else(F[k - b]?).getD 0)=_
   rw[if_neg (by omega),List.getElem?_eq_getElem gj]
   rfl
  have hi:Zc.ik r P:=fun i j hPi hPj q=>by
   rcases hPi with a | ⟨a1,a2⟩<;>rcases hPj with d | ⟨d1,d2⟩
   ·rw[r1 i a,r1 j d]at q;exact q
   ·rw[r1 i a,r2 j d1 d2]at q;have:=(hF _ (List.getElem_mem d2)).1;omega
   ·rw[r2 i a1 a2,r1 j d]at q;have:=(hF _ (List.getElem_mem a2)).1;omega
   ·rw[r2 i a1 a2,r2 j d1 d2]at q
    rcases Nat.lt_trichotomy (i - b) (j - b)with s | s | s
    ·have:=List.pairwise_iff_getElem.1 hp _ _ a2 d2 s;omega
    ·omega
    ·have:=List.pairwise_iff_getElem.1 hp _ _ d2 a2 s;omega
  have Nc:∀y∈Zc.NT c,y∉Zc.NH c→(Zc.NG c).idxOf y - (Zc.NH c).length<F.length:=fun y hy hn=>by
   have h2:=(Zc.GH (Zc.NL c y hy) hn).1
   have h3:=hNT y hy
   rw[List.length_append]at h3
   omega
  have hY:∀y∈Zc.NT c,Zc.bA (Zc.PQ P) (Zc.cT u c (b+·) y):=fun y hy=>Zc.yR (fun k hk=>Or.inl hk) hu fun hn=>Or.inr ⟨Nat.le_add_right _ _,by have:=Nc y hy hn;omega⟩
  have hid:Zc.bl (fun k=>k) u=u:=by
   have:=Zc.lR (r:=fun k=>k) (r':=fun k=>k) (P:=(·<b)) (fun _ _=>rfl) hu
   unfold Zc.bl
   rw[Zc.sub_congr (τ:= .v) u (fun x hx=> ?_),Zc.sub_self]
   have hx1:=((Zc.e9 u).1 hu x hx).1
   show U.v ([],x.2)= .v x
   congr 1
   exact Prod.ext hx1.symm rfl
  have hE:∀y∈Zc.NT c,Zc.cT u c (fun k=>(F[k]?).getD 0) y=Zc.bl r (Zc.cT u c (b+·) y):=fun y hy=>by
   have:=Zc.wU (r:=fun k=>k) (r':=r) (P:=(·<b)) (fun i j _ _ q=>q) (fun k hk=>r1 k hk) hu (c:=c) (o1:=(b+·)) (o2:=fun k=>(F[k]?).getD 0) (y:=y) (fun hn=>by
    have:=Nc y hy hn
    rw[r2 _ (Nat.le_add_right _ _) (by omega),List.getElem?_eq_getElem this]
    simp)
   rw[hid]at this
   exact this
  rw[he,Zc.zV (θ:=fun y=>Zc.bl r (Zc.cT u c (b+·) y)) c.tests (Zc.NH c) aF.ts hE,Zc.EF hi c.tests (Zc.NH c) aF.ts hY]
  have hwt:=Zc.yE (η:=Zc.cT u c (b+·)) c.tests (Zc.NH c) aF.ts hY
  refine⟨(Zc.Wn.rP _ _).symm,fun v=> ?_⟩
  unfold Zc.ko
  rw[List.mem_filter,List.mem_filter,List.drop_left]
  show (v∈(Zc.iU (Zc.cT u c (b+·)) c.tests).wt.map r∧_)↔_
  rw[List.mem_map]
  constructor
  ·rintro⟨⟨w,hw,rfl⟩,h2⟩
   rcases hwt.at w hw with q | ⟨q1,q2⟩
   ·rw[r1 w q];exact⟨hw,decide_eq_true q⟩
   ·exfalso
    rw[r2 w q1 q2]at h2
    simp at h2
  ·rintro⟨h1,h2⟩
   have hv:=of_decide_eq_true h2
   refine⟨⟨v,h1,r1 v hv⟩,?_⟩
   simp only[Bool.not_eq_true',decide_eq_false_iff_not]
   intro q
   have:=(hF v q).1
   omega
def ct (T:Nat→U) (x:Int):U:=if x= -1 then Zc.zU else T x.toNat
def eU (fr:Nat→Nat) (T:Nat→U) (g:Gl):Zc.MG:=⟨T g.l,g.sg.toList,ct T g.r,g.op.toList,ct T g.z,!fU fr g,fun v=>fU fr g=false∧v∈g.nd⟩
def jv (V:List Nat) (S:b8):Zc.MS:=⟨V.map S.T,S.G.map (eU S.fr S.T),S.D.length⟩
structure yb (V:List Nat) (S:b8):Prop where
 wf:ND S
 nd:∀g∈S.G,∀v∈g.nd,Zc.gl (aZ S.D) v=none
 vl:∀v∈V,v<S.D.length
theorem vp (fr:Nat→Nat) (g:Gl):fU fr g=false↔g.wt=true∧∀v∈g.nd,fr v=v:=by
 unfold fU
 simp
theorem gA (T:Nat→U) (n:Nat):ct T (n:Int)=T n:=by
 unfold ct
 rw[if_neg (by omega)]
 rfl
theorem mA.rc {T:Nat→U} {len:Nat} {g:Gl} (h:mA T len g):g.r= -1∨∃n:Nat,g.r=(n:Int)∧n<len:=by
 by_cases q:g.sg.toList=[]
 ·exact Or.inl (h.r0 q)
 ·exact Or.inr (h.rr q)
theorem mA.zc {T:Nat→U} {len:Nat} {g:Gl} (h:mA T len g):g.z= -1∨∃n:Nat,g.z=(n:Int)∧n<len:=by
 by_cases q:g.op.toList=[]
 ·exact Or.inl (h.z0 q)
 ·exact Or.inr (h.zz q)
theorem np {T T':Nat→U} {len:Nat} {f:U→U} (hf:f Zc.zU=Zc.zU) (h:∀m,m<len→T' m=f (T m)) {x:Int} (hx:x= -1∨∃n:Nat,x=(n:Int)∧n<len):ct T' x=f (ct T x):=by
 rcases hx with q | ⟨n,q,hn⟩
 ·unfold ct;rw[if_pos q,if_pos q,hf]
 ·rw[q,gA,gA,h n hn]
theorem EP {fr:Nat→Nat} {T T':Nat→U} {len:Nat} (h:∀m,m<len→T' m=T m) {g:Gl} (hg:mA T len g):eU fr T' g=eU fr T g:=by
 unfold eU
 rw[h g.l hg.ll,np (f:=id) rfl h hg.rc,np (f:=id) rfl h hg.zc]
 rfl
section
variable {G:List Zc.Gn} {fr fr':Nat→Nat} {T T':Nat→U} {a b:U} {σ:Vr→U}
theorem C6 (hm:Zc.Made G fr fr' T T' a b σ) (hs:Zc.dH G fr T) {g:Gl} (dC:∀v∈g.nd,Zc.gl G v=none):fU fr' g=false↔fU fr g=false∧∀v∈g.nd,σ ([],v)= .v ([],v):=by
 rw[vp,vp]
 constructor
 ·rintro⟨h1,h2⟩
  have key:∀v∈g.nd,fr v=v∧σ ([],v)= .v ([],v):=fun v hv=>by
   have e1:=h2 v hv
   have g0:=dC v hv
   have t1:T' v= .v ([],v):=by
    have:=hm.sto.var (n:=v) (by rw[e1];exact g0)
    rwa [e1]at this
   have hu:fr v=v:=by
    by_cases q:Zc.gl G (fr v)=none
    ·have v1:=hs.sO v q
     have v2:fr' (fr v)=v:=(hm.left.mono _ _ (hs.fronts.idem v)).trans e1
     have v3:=hm.sto.sO (fr v) (by rw[v2];exact g0)
     omega
    ·exfalso
     have ht:=hs.tr v
     have e2:=hm.is v
     rw[t1]at e2
     generalize T v=x at ht e2
     cases ht with
     | var h _=>exact q h
     | node _ _ _=>rw[Zc.ek]at e2;cases e2
   exact⟨hu,(hm.jw v hu g0).trans t1⟩
  exact⟨⟨h1,fun v hv=>(key v hv).1⟩,fun v hv=>(key v hv).2⟩
 ·rintro⟨⟨h1,h2⟩,h3⟩
  refine⟨h1,fun v hv=> ?_⟩
  have e1:T' v= .v ([],v):=(hm.jw v (h2 v hv) (dC v hv)).symm.trans (h3 v hv)
  have ht:=hm.sto.tr v
  generalize T' v=x at ht e1
  cases ht with
  | var h _=>
   injection e1 with e1
   injection e1
  | node _ _ _=>cases e1
theorem ER {T0:Nat→U} {len:Nat} (hm:Zc.Made G fr fr' T T' a b σ) (hs:Zc.dH G fr T) (h0:∀m,m<len→T m=T0 m) {g:Gl} (hg:mA T0 len g) (dC:∀v∈g.nd,Zc.gl G v=none):eU fr' T' g=Zc.MG.put σ (eU fr T0 g):=by
 have hT:∀m,m<len→T' m=Zc.sub σ (T0 m):=fun m q=>by rw[hm.is,h0 m q]
 have hz:Zc.sub σ Zc.zU=Zc.zU:=by unfold Zc.zU;rw[Zc.ek];rfl
 have hst:(eU fr T0 g).stays σ↔fU fr' g=false:=by
  rw[C6 hm hs dC]
  unfold Zc.MG.stays eU
  dsimp only
  constructor
  ·rintro⟨h1,h2⟩
   have h1':fU fr g=false:=by simpa using h1
   exact⟨h1',fun v hv=>h2 v ⟨h1',hv⟩⟩
  ·rintro⟨h1,h2⟩
   exact⟨by rw[h1];rfl,fun v hv=>h2 v hv.2⟩
 unfold Zc.MG.put
 have e1:(eU fr T0 g).a=T0 g.l:=rfl
 have e2:(eU fr T0 g).b=ct T0 g.r:=rfl
 have e3:(eU fr T0 g).c=ct T0 g.z:=rfl
 rw[e1,e2,e3,←hT g.l hg.ll,←np hz hT hg.rc,←np hz hT hg.zc]
 unfold eU at hst⊢
 dsimp only at hst⊢
 congr 1
 ·cases hq:fU fr' g with
  | false=>exact(@decide_eq_true _ (_) (hst.2 hq)).symm
  | true=>exact(@decide_eq_false _ (_) (fun e=>by rw[hst.1 e]at hq;cases hq)).symm
 ·funext v
  apply propext
  constructor
  ·rintro⟨q1,q2⟩
   exact⟨hst.2 q1,((C6 hm hs dC).1 q1).1,q2⟩
  ·rintro⟨q1,q2⟩
   exact⟨hst.1 q1,q2.2⟩
end
def isVar (S:b8) (k:Nat):Prop:=k<S.D.length∧S.fr k=k∧Zc.gl (aZ S.D) k=none
theorem ND.uw {S:b8} (h:ND S) {n:Nat} (hn:n<S.D.length):Zc.bA (Zc.PQ (isVar S)) (S.T n):=(Zc.e9 _).2 fun x hx=>by
 have h1:=(Zc.e9 _).1 (h.ok.kV h.sto n hn) x hx
 have h2:=(h.sto.tr n).vars x hx
 exact⟨h1.1,h1.2.1,h1.2.2,h2.2.1⟩
theorem C7 {T:Nat→U} {op:List UInt8} {r z:Int} {rn zn:Nat} (hr:r=(rn:Int)) (hz:op≠[]→z=(zn:Int)):Zc.fo op (ct T r) (ct T z)=Zc.fo op (T rn) (T zn)∧fA op (ct T r) (ct T z)=fA op (T rn) (T zn):=by
 rw[hr,gA]
 by_cases q:op=[]
 ·subst q
  unfold Zc.fo fA
  simp
 ·rw[hz q,gA]
  exact⟨rfl,rfl⟩
end Go.Proofs.YthfjnfcekeknlaaGreatDoor
