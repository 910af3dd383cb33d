import Derived.Test.YthfjnfcekeknlaaGreatDoorAp27
import Derived.Test.YthfjnfcekeknlaaGreatDoorAp33
import Derived.Test.YthfjnfcekeknlaaGreatDoorAp34
import Derived.Deep.DeepCutAuto
import Derived.Deep.LoopGhost
set_option maxHeartbeats 8000000
set_option maxRecDepth 100000
namespace Za
def mU (A sg B op C:List UInt8):List UInt8:=if sg=[]then A else if op=[]then A++(sg++B)++[]else A++(sg++B)++(op++C)
end Za
namespace Go.Proofs.YthfjnfcekeknlaaGreatDoor
open Go.RowKit
theorem Oh (w:World) (v:JV) (A B C:List UInt8) (hA:A.length≤1000000) (hB:B.length≤1000000) (hC:C.length≤1000000) (pO:v.sg.size≤2) (Uf:v.op.size≤2) (IA:∀W,Below w.heap.size w W→Calls Tryz.prog 58 #[.agg #[.int .i64 v.a.k,.int .i64 v.a.val,.string v.a.tx,.slice v.a.ao v.a.n v.a.cap]] W fun e w'=>e= .returned (.string ⟨A.toArray⟩)∧Below W.heap.size W w') (IB:v.sg.toList≠[]→∀W,Below w.heap.size w W→Calls Tryz.prog 58 #[.agg #[.int .i64 v.b.k,.int .i64 v.b.val,.string v.b.tx,.slice v.b.ao v.b.n v.b.cap]] W fun e w'=>e= .returned (.string ⟨B.toArray⟩)∧Below W.heap.size W w') (IC:v.sg.toList≠[]→v.op.toList≠[]→∀W,Below w.heap.size w W→Calls Tryz.prog 58 #[.agg #[.int .i64 v.c.k,.int .i64 v.c.val,.string v.c.tx,.slice v.c.ao v.c.n v.c.cap]] W fun e w'=>e= .returned (.string ⟨C.toArray⟩)∧Below W.heap.size W w'):
 Calls Tryz.prog 87 #[.agg #[.int .i64 v.a.k,.int .i64 v.a.val,.string v.a.tx,.slice v.a.ao v.a.n v.a.cap,.string v.sg,.int .i64 v.b.k,.int .i64 v.b.val,.string v.b.tx,.slice v.b.ao v.b.n v.b.cap,.string v.op,.int .i64 v.c.k,.int .i64 v.c.val,.string v.c.tx,.slice v.c.ao v.c.n v.c.cap]] w fun e w'=>e= .returned (.string ⟨(Za.mU A v.sg.toList B v.op.toList C).toArray⟩)∧Below w.heap.size w w':=by
 obtain⟨⟨ak0,av0,ax0,ao0,an0,ac0⟩,⟨bk0,bv0,bx0,bo0,bn0,bc0⟩,⟨ck0,cv0,cx0,co0,cn0,cc0⟩,sg,op⟩:=v
 dsimp only at*
 have hb0:=(Below.refl w.heap.size w).alloc (Nat.le_refl _) (.cells #[.int .i64 ak0,.int .i64 av0,.string ax0,.slice ao0 an0 ac0,.string sg,.int .i64 bk0,.int .i64 bv0,.string bx0,.slice bo0 bn0 bc0,.string op,.int .i64 ck0,.int .i64 cv0,.string cx0,.slice co0 cn0 cc0] 151)
 have dZ:=heap_alloc_new w (.cells #[.int .i64 ak0,.int .i64 av0,.string ax0,.slice ao0 an0 ac0,.string sg,.int .i64 bk0,.int .i64 bv0,.string bx0,.slice bo0 bn0 bc0,.string op,.int .i64 ck0,.int .i64 cv0,.string cx0,.slice co0 cn0 cc0] 151)
 have aX:=af hb0
 have nY:=af dZ
 have QZ:=af (IA _ hb0)
 clear hb0 dZ IA
 by_cases h1:sg.toList=[]
 ·have HF:=af (show Za.mU A sg.toList B op.toList C=A by unfold Za.mU;rw[if_pos h1])
  have t1:(sg.toList == [])=true:=by rw[h1];rfl
  clear IB IC h1
  go_enter Tryz.func87,Tryz.ntmps87
  go_wp2_with fail
  refine(ae QZ).mono ?_
  rintro e w1 ⟨rfl,hb1⟩
  have mV:=(hb1.block w.heap.size (by simp)).trans (ae nY)
  have r1:=ah mV 4
  have z1:=ag mV
  simp only[List.getElem?_toArray,List.getElem?_cons_zero,List.getElem?_cons_succ]at r1
  have bj:=af ((ae aX).trans (hb1.mono (ae aX).size))
  clear hb1 mV
  go_wp2_with fail
  go_ret
  exact⟨by rw[ae HF];rfl,ae bj⟩
 ·have t1:(sg.toList == [])=false:=by simpa using h1
  have jG:=af (fM (rfl:sg.toList=sg.toList))
  have Uq:=af (IB h1)
  by_cases h2:op.toList=[]
  ·have HF:=af (show Za.mU A sg.toList B op.toList C=A++(sg.toList++B)++[]by unfold Za.mU;rw[if_neg h1,if_pos h2])
   have t2:(op.toList == [])=true:=by rw[h2];rfl
   clear IB IC h1 h2
   go_enter Tryz.func87,Tryz.ntmps87
   go_wp2_with fail
   refine(ae QZ).mono ?_
   rintro e w1 ⟨rfl,hb1⟩
   have mV:=(hb1.block w.heap.size (by simp)).trans (ae nY)
   have r1:=ah mV
   have z1:=ag mV
   have tZ:=(ae aX).trans (hb1.mono (ae aX).size)
   have bj:=af tZ
   have Lt:=af mV
   clear hb1 mV tZ
   go_wp2_with fail
   refine(ae Uq _ (ae bj)).mono ?_
   rintro e w2 ⟨rfl,hb2⟩
   have ud:=(hb2.block w.heap.size z1).trans (ae Lt)
   have r2:=ah ud
   have z2:=ag ud
   have aZ:=af ((ae bj).trans (hb2.mono (ae bj).size))
   clear hb2 ud r1 z1
   go_wp2_with fail
   go_ret
   refine⟨?_,ae aZ⟩
   rw[ae HF,←U',←ae jG]
   rfl
  ·have HF:=af (show Za.mU A sg.toList B op.toList C=A++(sg.toList++B)++(op.toList++C)by unfold Za.mU;rw[if_neg h1,if_neg h2])
   have t2:(op.toList == [])=false:=by simpa using h2
   have Qt:=af (fM (rfl:op.toList=op.toList))
   have Xu:=af (IC h1 h2)
   clear IB IC h1 h2
   go_enter Tryz.func87,Tryz.ntmps87
   go_wp2_with fail
   refine(ae QZ).mono ?_
   rintro e w1 ⟨rfl,hb1⟩
   have mV:=(hb1.block w.heap.size (by simp)).trans (ae nY)
   have r1:=ah mV
   have z1:=ag mV
   have tZ:=(ae aX).trans (hb1.mono (ae aX).size)
   have bj:=af tZ
   have Lt:=af mV
   clear hb1 mV tZ
   go_wp2_with fail
   refine(ae Uq _ (ae bj)).mono ?_
   rintro e w2 ⟨rfl,hb2⟩
   have ud:=(hb2.block w.heap.size z1).trans (ae Lt)
   have r2:=ah ud
   have z2:=ag ud
   have Q0:=(ae bj).trans (hb2.mono (ae bj).size)
   have aZ:=af Q0
   have VM:=af ud
   clear hb2 ud r1 z1 Q0
   go_wp2_with fail
   refine(ae Xu _ (ae aZ)).mono ?_
   rintro e w3 ⟨rfl,hb3⟩
   have Lu:=(hb3.block w.heap.size z2).trans (ae VM)
   have r3:=ah Lu
   have z3:=ag Lu
   have bQ:=af ((ae aZ).trans (hb3.mono (ae aZ).size))
   clear hb3 Lu r2 z2
   go_wp2_with fail
   go_ret
   refine⟨?_,ae bQ⟩
   rw[ae HF,←Va,←ae jG,←ae Qt]
   rfl
def iA (T:Nat→Za.U) (N:List Za.Vr) (x:Int):List Za.Vr:=if x= -1 then N else Za.aV N (T x.toNat)
def Xv (T:Nat→Za.U) (nb:Nat) (N:List Nat) (mo:Option Addr) (x:Int) (w:World) (e:Ending) (w':World):Prop:=∃(a:AV) (N':List Nat) (mo':Option Addr) (mc':Nat),e= .returned (.agg #[.int .i64 a.k,.int .i64 a.val,.string a.tx,.slice a.ao a.n a.cap])∧eR w' nb N' mo' mc'∧Za.bu N'=iA T (Za.bu N) x∧(x≠-1→RV 1000 (Za.bu N') (fun g=>w.heap.size≤g) w' a (T x.toNat))∧au (br nb mo) (br nb mo') w w'
theorem MT (w:World) (mb:Nat) (cs:Array Value) (D:List Ng) (nO:Option Addr) (nC:Nat) (fr:Nat→Nat) (T:Nat→Za.U) (nb:Nat) (N:List Nat) (mo:Option Addr) (mc:Nat) (x:Int) (hs:bG w mb 1 cs 91 D nO nC) (ok:bW D fr) (fz:Za.dD (aY D) fr T) (hn:eR w nb N mo mc) (bA:a8 w D (fun g=>¬br nb mo g)) (hx:pj D.length x) (hsz:x≠-1→Za.size (T x.toNat)≤1000) (hN:N.length≤900000):
 Calls Tryz.prog 57 #[.pointer (some ⟨mb,1,none⟩),.int .i64 x,.pointer (some ⟨nb,0,none⟩)] w fun e w'=>Xv T nb N mo x w e w':=by
 rcases hx with rfl | ⟨n,rfl,hl⟩
 ·refine(Iz w mb 1 nb cs _ D nO nC hs).mono ?_
  rintro e w' ⟨rfl,hb⟩
  exact⟨⟨0,0,⟨#[]⟩,none,0,0⟩,N,mo,mc,rfl,hn.below hb,by unfold iA;rw[if_pos rfl],fun q=>absurd rfl q,au.aw hb⟩
 ·have hne:((n:Int))≠-1:=by omega
  have hz:=hsz hne
  have e0:((n:Int)).toNat=n:=by simp
  rw[e0]at hz
  refine(tree_all 1000 w mb 1 cs _ D nO nC fr n (T n) nb N mo mc hs (by decide) (by decide) ok hn bA hl (fz.tr n) hz (by omega)).mono ?_
  rintro e w' ⟨a,N',mo',mc',rfl,h1,h2,h3,h4⟩
  refine⟨a,N',mo',mc',rfl,h1,by unfold iA;rw[if_neg hne,e0];exact h2,fun _=> ?_,h4⟩
  rw[e0]
  exact h3
theorem rC (u:Za.U):∀N,∃K,Za.aV N u=N++K:=by
 revert u
 refine Za.U.ind (fun x N=> ?_) (fun k tx num ss ih N=> ?_)
 ·show∃K,Za.kU N x=N++K
  unfold Za.kU
  split
  ·exact⟨[],by simp⟩
  ·exact⟨[x],rfl⟩
 ·rw[Za.fN]
  induction ss generalizing N with
  | nil=>exact⟨[],by simp⟩
  | cons a ss ihs=>
   obtain⟨K1,h1⟩:=ih a (by simp) N
   obtain⟨K2,h2⟩:=ihs (fun b hb=>ih b (by simp[hb])) (Za.aV N a)
   exact⟨K1++K2,by rw[List.foldl_cons,h2,h1,List.append_assoc]⟩
theorem Ep (T:Nat→Za.U) (N:List Za.Vr) (x:Int):∃K,iA T N x=N++K:=by
 unfold iA
 split
 ·exact⟨[],by simp⟩
 ·exact rC _ _
theorem iV (u:Za.U):∀N,(Za.aV N u).length≤N.length+Za.size u:=by
 revert u
 refine Za.U.ind (fun x N=> ?_) (fun k tx num ss ih N=> ?_)
 ·show (Za.kU N x).length≤_
  unfold Za.kU
  rw[Za.size]
  split
  ·omega
  ·simp
 ·rw[Za.fN,Za.size]
  have key:∀(ss:List Za.U) N,(∀a∈ss,∀N,(Za.aV N a).length≤N.length+Za.size a)→(ss.foldl Za.aV N).length≤N.length+Za.sizeL ss:=by
   intro ss
   induction ss with
   | nil=>intro N _;simp
   | cons a ss ihs=>
    intro N h
    have h1:=h a (by simp) N
    have h2:=ihs (Za.aV N a) (fun b hb=>h b (by simp[hb]))
    rw[List.foldl_cons,Za.sizeL]
    omega
  have:=key ss N ih
  omega
theorem RV.fr {f:Nat} {N:List Za.Vr} {P:Nat→Prop} {w w':World} {a:AV} {u:Za.U} (h:RV f N P w a u) {nb:Nat} {M:List Nat} {mo:Option Addr} {mc:Nat} (hn:eR w nb M mo mc) {R':Nat→Prop} (hf:au (br nb mo) R' w w'):RV f N P w' a u:=h.keep fun g _ hp hg=>⟨(hf.block g (ag hg) (hn.apart hg (by decide) (by decide))).trans hg,hp⟩
theorem eR.nS {w:World} {nb:Nat} {N:List Nat} {mo:Option Addr} {mc:Nat} (h:eR w nb N mo mc) {b:Nat} {ys:Array Value} (hb:w.heap[b]?=some (.cells ys 76 (0,0))) (c:Nat) (v:Value):eR (w.setCell ⟨b,c,none⟩ v) nb N mo mc:=
 ⟨(aJ _ _ _ _ (fun e=>by have:=h.blk;rw[e,hb]at this;simp only[Option.some.injEq,Obj.cells.injEq]at this;exact absurd this.2.1 (by decide))).trans h.blk,ai h.own fun g q=>aJ _ _ _ _ (fun e=>by
   obtain⟨cur,hc⟩:=aK h.own (aI q)
   rw[e,hb]at hc
   simp only[Option.some.injEq,Obj.cells.injEq]at hc
   exact absurd hc.2.1 (by decide))⟩
def SR (T:Nat→Za.U) (nb:Nat) (x:Int) (W:World) (N1:List Nat) (mo1:Option Addr) (lv:Value) (wx:World):Prop:=∃(a:AV) (b:Nat) (N2:List Nat) (mo2:Option Addr) (mc2:Nat),lv= .pointer (some ⟨b,0,none⟩)∧au (br nb mo1) (br nb mo2) W wx∧eR wx nb N2 mo2 mc2∧Za.bu N2=iA T (Za.bu N1) x∧(x≠-1→RV 1000 (Za.bu N2) anyA wx a (T x.toNat))∧wx.heap[b]?=some (.cells #[.int .i64 a.k,.int .i64 a.val,.string a.tx,.slice a.ao a.n a.cap] 76 (0,0))
def Ur (T:Nat→Za.U) (nb:Nat) (N:List Nat) (mo:Option Addr) (g:Gl) (w:World) (e:Ending) (w':World):Prop:=∃(a b c:AV) (N':List Nat) (mo':Option Addr) (mc':Nat),e= .returned (.agg #[.int .i64 a.k,.int .i64 a.val,.string a.tx,.slice a.ao a.n a.cap,.string g.sg,.int .i64 b.k,.int .i64 b.val,.string b.tx,.slice b.ao b.n b.cap,.string g.op,.int .i64 c.k,.int .i64 c.val,.string c.tx,.slice c.ao c.n c.cap])∧eR w' nb N' mo' mc'∧Za.bu N'=iA T (iA T (iA T (Za.bu N) (g.l:Int)) g.r) g.z∧RV 1000 (Za.bu N') anyA w' a (T g.l)∧(g.r≠-1→RV 1000 (Za.bu N') anyA w' b (T g.r.toNat))∧(g.z≠-1→RV 1000 (Za.bu N') anyA w' c (T g.z.toNat))∧au (br nb mo) (br nb mo') w w'
theorem eR.other {w w':World} {nb:Nat} {N:List Nat} {mo:Option Addr} {mc:Nat} (h:eR w nb N mo mc) {b:Nat} {ys:Array Value} {Y:TypeId} (hb:w.heap[b]?=some (.cells ys Y (0,0))) (h1:Y≠123) (h2:Y≠3) (hk:∀k,k≠b→w'.heap[k]?=w.heap[k]?):eR w' nb N mo mc:=by
 have key:∀k,br nb mo k→w'.heap[k]?=w.heap[k]?:=fun k q=>hk k (fun e=>h.apart hb h1 h2 (e ▸ q))
 exact⟨(key nb (Or.inl rfl)).trans h.blk,ai h.own fun g q=>key g (Or.inr (aI q))⟩
theorem Q1 {T:Nat→Za.U} {nb:Nat} {N N1 N2 N3:List Nat} {mo mo3:Option Addr} {mc3 l nc:Nat} {sg op:ByteArray} {r z:Int} {wt:Bool} {no:Option Addr} {nd:List Nat} {w W3:World} {ak1 av1 ak2 av2 ak3 av3:Int} {ax1 ax2 ax3:ByteArray} {ao1 ao2 ao3:Option Addr} {an1 ac1 an2 ac2 an3 ac3:Nat} {ys:Array Value} (hf:au (br nb mo) (br nb mo3) w W3) (hn:eR W3 nb N3 mo3 mc3) (px:W3.heap[w.heap.size+1]?=some (.cells ys 151 (0,0))) (hv:Za.bu N3=iA T (iA T (iA T (Za.bu N) (l:Int)) r) z) (hv2:Za.bu N2=iA T (Za.bu N1) r) (hv3:Za.bu N3=iA T (Za.bu N2) z) (h1:(l:Int)≠-1→RV 1000 (Za.bu N1) anyA W3 ⟨ak1,av1,ax1,ao1,an1,ac1⟩ (T (l:Int).toNat)) (h2:r≠-1→RV 1000 (Za.bu N2) anyA W3 ⟨ak2,av2,ax2,ao2,an2,ac2⟩ (T r.toNat)) (h3:z≠-1→RV 1000 (Za.bu N3) anyA W3 ⟨ak3,av3,ax3,ao3,an3,ac3⟩ (T z.toNat)):
 Ur T nb N mo ⟨l,sg,r,op,z,wt,no,nc,nd⟩ w (.returned (.agg #[.int .i64 ak1,.int .i64 av1,.string ax1,.slice ao1 an1 ac1,.string sg,.int .i64 ak2,.int .i64 av2,.string ax2,.slice ao2 an2 ac2,.string op,.int .i64 ak3,.int .i64 av3,.string ax3,.slice ao3 an3 ac3])) (((((((((((((((W3).setCell ⟨w.heap.size+1,0,none⟩ (.int .i64 ak1)).setCell ⟨w.heap.size+1,1,none⟩ (.int .i64 av1)).setCell ⟨w.heap.size+1,2,none⟩ (.string ax1)).setCell ⟨w.heap.size+1,3,none⟩ (.slice ao1 an1 ac1)).setCell ⟨w.heap.size+1,4,none⟩ (.string sg)).setCell ⟨w.heap.size+1,5,none⟩ (.int .i64 ak2)).setCell ⟨w.heap.size+1,6,none⟩ (.int .i64 av2)).setCell ⟨w.heap.size+1,7,none⟩ (.string ax2)).setCell ⟨w.heap.size+1,8,none⟩ (.slice ao2 an2 ac2)).setCell ⟨w.heap.size+1,9,none⟩ (.string op)).setCell ⟨w.heap.size+1,10,none⟩ (.int .i64 ak3)).setCell ⟨w.heap.size+1,11,none⟩ (.int .i64 av3)).setCell ⟨w.heap.size+1,12,none⟩ (.string ax3)).setCell ⟨w.heap.size+1,13,none⟩ (.slice ao3 an3 ac3)):=by
 have hk:∀k,k≠w.heap.size+1→(((((((((((((((W3).setCell ⟨w.heap.size+1,0,none⟩ (.int .i64 ak1)).setCell ⟨w.heap.size+1,1,none⟩ (.int .i64 av1)).setCell ⟨w.heap.size+1,2,none⟩ (.string ax1)).setCell ⟨w.heap.size+1,3,none⟩ (.slice ao1 an1 ac1)).setCell ⟨w.heap.size+1,4,none⟩ (.string sg)).setCell ⟨w.heap.size+1,5,none⟩ (.int .i64 ak2)).setCell ⟨w.heap.size+1,6,none⟩ (.int .i64 av2)).setCell ⟨w.heap.size+1,7,none⟩ (.string ax2)).setCell ⟨w.heap.size+1,8,none⟩ (.slice ao2 an2 ac2)).setCell ⟨w.heap.size+1,9,none⟩ (.string op)).setCell ⟨w.heap.size+1,10,none⟩ (.int .i64 ak3)).setCell ⟨w.heap.size+1,11,none⟩ (.int .i64 av3)).setCell ⟨w.heap.size+1,12,none⟩ (.string ax3)).setCell ⟨w.heap.size+1,13,none⟩ (.slice ao3 an3 ac3)).heap[k]?=W3.heap[k]?:=fun k q=>by
  rw[aJ _ _ _ _ q,aJ _ _ _ _ q,aJ _ _ _ _ q,aJ _ _ _ _ q,aJ _ _ _ _ q,aJ _ _ _ _ q,aJ _ _ _ _ q,aJ _ _ _ _ q,aJ _ _ _ _ q,aJ _ _ _ _ q,aJ _ _ _ _ q,aJ _ _ _ _ q,aJ _ _ _ _ q,aJ _ _ _ _ q]
 obtain⟨K2,e2⟩:=Ep T (Za.bu N1) r
 obtain⟨K3,e3⟩:=Ep T (Za.bu N2) z
 have keep:∀{f:Nat} {M:List Za.Vr} {a:AV} {u:Za.U},RV f M anyA W3 a u→RV f M anyA (((((((((((((((W3).setCell ⟨w.heap.size+1,0,none⟩ (.int .i64 ak1)).setCell ⟨w.heap.size+1,1,none⟩ (.int .i64 av1)).setCell ⟨w.heap.size+1,2,none⟩ (.string ax1)).setCell ⟨w.heap.size+1,3,none⟩ (.slice ao1 an1 ac1)).setCell ⟨w.heap.size+1,4,none⟩ (.string sg)).setCell ⟨w.heap.size+1,5,none⟩ (.int .i64 ak2)).setCell ⟨w.heap.size+1,6,none⟩ (.int .i64 av2)).setCell ⟨w.heap.size+1,7,none⟩ (.string ax2)).setCell ⟨w.heap.size+1,8,none⟩ (.slice ao2 an2 ac2)).setCell ⟨w.heap.size+1,9,none⟩ (.string op)).setCell ⟨w.heap.size+1,10,none⟩ (.int .i64 ak3)).setCell ⟨w.heap.size+1,11,none⟩ (.int .i64 av3)).setCell ⟨w.heap.size+1,12,none⟩ (.string ax3)).setCell ⟨w.heap.size+1,13,none⟩ (.slice ao3 an3 ac3)) a u:=fun {f M a u} q=>q.keep fun g _ _ hg=>⟨(hk g (fun e=>by rw[e,px]at hg;simp only[Option.some.injEq,Obj.cells.injEq]at hg;exact absurd hg.2.1 (by decide))).trans hg,trivial⟩
 refine⟨⟨ak1,av1,ax1,ao1,an1,ac1⟩,⟨ak2,av2,ax2,ao2,an2,ac2⟩,⟨ak3,av3,ax3,ao3,an3,ac3⟩,N3,mo3,mc3,rfl,hn.other px (by decide) (by decide) hk,hv,?_,fun q=> ?_,fun q=>keep (h3 q),((((((((((((((hf).eC (Nat.le_succ _) 0 _).eC (Nat.le_succ _) 1 _).eC (Nat.le_succ _) 2 _).eC (Nat.le_succ _) 3 _).eC (Nat.le_succ _) 4 _).eC (Nat.le_succ _) 5 _).eC (Nat.le_succ _) 6 _).eC (Nat.le_succ _) 7 _).eC (Nat.le_succ _) 8 _).eC (Nat.le_succ _) 9 _).eC (Nat.le_succ _) 10 _).eC (Nat.le_succ _) 11 _).eC (Nat.le_succ _) 12 _).eC (Nat.le_succ _) 13 _⟩
 ·have:=keep (h1 (by omega))
  have e0:((l:Int)).toNat=l:=by simp
  rw[e0]at this
  have t:=(this.more K2).more K3
  rwa [←e2,←hv2,←e3,←hv3]at t
 ·have t:=(keep (h2 q)).more K3
  rwa [←e3,←hv3]at t
theorem Jc (w:World) (mb:Nat) (cs:Array Value) (D:List Ng) (nO:Option Addr) (nC:Nat) (fr:Nat→Nat) (T:Nat→Za.U) (nb:Nat) (N:List Nat) (mo:Option Addr) (mc:Nat) (g:Gl) (hs:bG w mb 1 cs 91 D nO nC) (ok:bW D fr) (fz:Za.dD (aY D) fr T) (hn:eR w nb N mo mc) (bA:a8 w D (fun g=>¬br nb mo g)) (hl:g.l<D.length) (hr:pj D.length g.r) (hz:pj D.length g.z) (hsz:∀x:Int,x=(g.l:Int)∨x=g.r∨x=g.z→x≠-1→Za.size (T x.toNat)≤1000) (hN:N.length≤800000):
 Calls Tryz.prog 86 #[.pointer (some ⟨mb,0,none⟩),.agg #[.int .i64 (g.l:Int),.string g.sg,.int .i64 g.r,.string g.op,.int .i64 g.z,.bool g.wt,.slice g.no g.nd.length g.nc],.pointer (some ⟨nb,0,none⟩)] w fun e w'=>Ur T nb N mo g w e w':=by
 obtain⟨l,sg,r,op,z,wt,no,nc,nd⟩:=g
 dsimp only at*
 have IT:=af (fun(x:Int) (N1:List Nat) (mo1:Option Addr) (mc1:Nat) (W:World) (hf:au (br nb mo) (br nb mo1) w W) (th:eR W nb N1 mo1 mc1) (hx:pj D.length x) (hq:x≠-1→Za.size (T x.toNat)≤1000) (jB:N1.length≤900000)=>MT W mb cs D nO nC fr T nb N1 mo1 mc1 x (hs.Hk hn (by decide) (by decide) hf) ok fz th (bA.Hk hf) hx hq jB)
 have xl:=af (show pj D.length (l:Int)from Or.inr ⟨l,rfl,hl⟩)
 have Xw:=af hr
 have Xx:=af hz
 have jV:=af hsz
 have mz:=ag hs.blk
 have hb0:=((Below.refl w.heap.size w).alloc (Nat.le_refl _) (.cells #[.int .i64 (l:Int),.string sg,.int .i64 r,.string op,.int .i64 z,.bool wt,.slice no nd.length nc] 158)).alloc (by simp) (.cells #[.int .i64 0,.int .i64 0,.string ⟨#[]⟩,.slice none 0 0,.string ⟨#[]⟩,.int .i64 0,.int .i64 0,.string ⟨#[]⟩,.slice none 0 0,.string ⟨#[]⟩,.int .i64 0,.int .i64 0,.string ⟨#[]⟩,.slice none 0 0] 151)
 have hgx:=aB (heap_alloc_new w (.cells #[.int .i64 (l:Int),.string sg,.int .i64 r,.string op,.int .i64 z,.bool wt,.slice no nd.length nc] 158)) (.cells #[.int .i64 0,.int .i64 0,.string ⟨#[]⟩,.slice none 0 0,.string ⟨#[]⟩,.int .i64 0,.int .i64 0,.string ⟨#[]⟩,.slice none 0 0,.string ⟨#[]⟩,.int .i64 0,.int .i64 0,.string ⟨#[]⟩,.slice none 0 0] 151)
 have px:=heap_alloc_new (w.alloc (.cells #[.int .i64 (l:Int),.string sg,.int .i64 r,.string op,.int .i64 z,.bool wt,.slice no nd.length nc] 158)) (.cells #[.int .i64 0,.int .i64 0,.string ⟨#[]⟩,.slice none 0 0,.string ⟨#[]⟩,.int .i64 0,.int .i64 0,.string ⟨#[]⟩,.slice none 0 0,.string ⟨#[]⟩,.int .i64 0,.int .i64 0,.string ⟨#[]⟩,.slice none 0 0] 151)
 rw[World.size_alloc]at px
 have Yn:=af hn
 have HLEN:=af (show∀(N1:List Nat) (x:Int) (N2:List Nat),Za.bu N2=iA T (Za.bu N1) x→(x≠-1→Za.size (T x.toNat)≤1000)→N2.length≤N1.length+1000 from fun N1 x N2 he hq=>by
  have e1:(Za.bu N2).length=N2.length:=by unfold Za.bu;simp
  have e2:(Za.bu N1).length=N1.length:=by unfold Za.bu;simp
  rw[←e1,he,←e2]
  unfold iA
  split
  ·omega
  ·rename_i hne
   exact Nat.le_trans (iV _ _) (by have:=hq hne;omega))
 have Q2:au (br nb mo) (br nb mo) w ((w.alloc (.cells #[.int .i64 (l:Int),.string sg,.int .i64 r,.string op,.int .i64 z,.bool wt,.slice no nd.length nc] 158)).alloc (.cells #[.int .i64 0,.int .i64 0,.string ⟨#[]⟩,.slice none 0 0,.string ⟨#[]⟩,.int .i64 0,.int .i64 0,.string ⟨#[]⟩,.slice none 0 0,.string ⟨#[]⟩,.int .i64 0,.int .i64 0,.string ⟨#[]⟩,.slice none 0 0] 151)):=au.aw hb0
 have Q3:=hn.below hb0
 have hz0:w.heap.size+2≤((w.alloc (.cells #[.int .i64 (l:Int),.string sg,.int .i64 r,.string op,.int .i64 z,.bool wt,.slice no nd.length nc] 158)).alloc (.cells #[.int .i64 0,.int .i64 0,.string ⟨#[]⟩,.slice none 0 0,.string ⟨#[]⟩,.int .i64 0,.int .i64 0,.string ⟨#[]⟩,.slice none 0 0,.string ⟨#[]⟩,.int .i64 0,.int .i64 0,.string ⟨#[]⟩,.slice none 0 0] 151)).heap.size:=by simp
 go_enter Tryz.func86,Tryz.ntmps86
 go_upto_region 1 with fail
 generalize hW0:((w.alloc (.cells #[.int .i64 (l:Int),.string sg,.int .i64 r,.string op,.int .i64 z,.bool wt,.slice no nd.length nc] 158)).alloc (.cells #[.int .i64 0,.int .i64 0,.string ⟨#[]⟩,.slice none 0 0,.string ⟨#[]⟩,.int .i64 0,.int .i64 0,.string ⟨#[]⟩,.slice none 0 0,.string ⟨#[]⟩,.int .i64 0,.int .i64 0,.string ⟨#[]⟩,.slice none 0 0] 151))=W0 at*
 have x0:=ah hgx 0
 have gz:=ag hgx
 simp only[List.getElem?_toArray,List.getElem?_cons_zero]at x0
 have nI:=af hgx
 have mg:=af px
 have Lv:=af Q2
 have CG:=af Q3
 clear hs ok fz hn bA hl hr hz hsz hb0 hgx px Q2 Q3 hW0
 go_cut [7] (fun lv wx=>SR T nb (l:Int) W0 N mo lv wx)
 case first=>
  go_region_with (go_at_call 57;refine(ae IT (l:Int) N mo mc _ ((ae Lv).trans (au.aw (by first | exact Below.refl _ _ | exact(Below.refl _ _).drew | exact((Below.refl _ _).alloc (Nat.le_refl _) _).drew | exact(Below.refl _ _).alloc (Nat.le_refl _) _))) ((ae CG).below (by first | exact Below.refl _ _ | exact(Below.refl _ _).drew | exact((Below.refl _ _).alloc (Nat.le_refl _) _).drew | exact(Below.refl _ _).alloc (Nat.le_refl _) _)) (ae xl) (ae jV _ (Or.inl rfl)) (by have:=hN;omega)).mono ?_;rintro y w1 ⟨⟨ak,av,ax,ao,an,ac⟩,Nn,mon,mcn,rfl,nm,hv,rv,fg⟩;first | (have ab:=(fg.block W0.heap.size (by simp) (fun q=>by have:=(ae CG).rows _ q;omega)).trans (heap_alloc_new W0 (.cells #[.int .i64 0,.int .i64 0,.string ⟨#[]⟩,.slice none 0 0] 76));have ab0:=ah ab 0;have ab1:=ah ab 1;have ab2:=ah ab 2;have ab3:=ah ab 3;have ay0:=ay ab 0;have ay1:=ay ab 1;have ay2:=ay ab 2;have ay3:=ay ab 3;have abz:=ag ab;simp only[List.getElem?_toArray,List.getElem?_cons_zero,List.getElem?_cons_succ]at ab0 ab1 ab2 ab3) | skip)
  all_goals
   first
    | (have hab:=aA (aA (aA (aA ab 0 (.int .i64 ak)) 1 (.int .i64 av)) 2 (.string ax)) 3 (.slice ao an ac)
       have fgn:=((((((au.aw (R:=br nb mo) (by first | exact Below.refl _ _ | exact(Below.refl _ _).drew | exact((Below.refl _ _).alloc (Nat.le_refl _) _).drew | exact(Below.refl _ _).alloc (Nat.le_refl _) _)).trans fg).eC (Nat.le_refl _) 0 (.int .i64 ak)).eC (Nat.le_refl _) 1 (.int .i64 av)).eC (Nat.le_refl _) 2 (.string ax)).eC (Nat.le_refl _) 3 (.slice ao an ac):au (br nb mo) (br nb mon) W0 _)
       have nmn:=((((nm.nS ab 0 (.int .i64 ak)).nS (aA ab 0 (.int .i64 ak)) 1 (.int .i64 av)).nS (aA (aA ab 0 (.int .i64 ak)) 1 (.int .i64 av)) 2 (.string ax)).nS (aA (aA (aA ab 0 (.int .i64 ak)) 1 (.int .i64 av)) 2 (.string ax)) 3 (.slice ao an ac))
       have rvn:=(fun q=>(rv q).keep (Q:=anyA) (w':=((((w1.setCell ⟨W0.heap.size,0,none⟩ (.int .i64 ak)).setCell ⟨W0.heap.size,1,none⟩ (.int .i64 av)).setCell ⟨W0.heap.size,2,none⟩ (.string ax)).setCell ⟨W0.heap.size,3,none⟩ (.slice ao an ac))) fun g _ hp hg=>⟨by have hne:g≠W0.heap.size:=(by have:W0.heap.size+1≤g:=(by simpa using hp);omega);rw[aJ _ _ _ _ hne,aJ _ _ _ _ hne,aJ _ _ _ _ hne,aJ _ _ _ _ hne];exact hg,trivial⟩))
    | (have hab:=heap_alloc_new w1 (.cells #[.int .i64 ak,.int .i64 av,.string ax,.slice ao an ac] 76)
       have fgn:=(((au.aw (R:=br nb mo) (by first | exact Below.refl _ _ | exact(Below.refl _ _).drew | exact((Below.refl _ _).alloc (Nat.le_refl _) _).drew | exact(Below.refl _ _).alloc (Nat.le_refl _) _)).trans fg).trans (au.aw ((Below.refl _ _).alloc (Nat.le_refl _) (.cells #[.int .i64 ak,.int .i64 av,.string ax,.slice ao an ac] 76))):au (br nb mo) (br nb mon) W0 _)
       have nmn:=nm.below ((Below.refl _ _).alloc (Nat.le_refl _) (.cells #[.int .i64 ak,.int .i64 av,.string ax,.slice ao an ac] 76))
       have rvn:=(fun q=>(rv q).keep (Q:=anyA) (w':=w1.alloc (.cells #[.int .i64 ak,.int .i64 av,.string ax,.slice ao an ac] 76)) fun g _ _ hg=>⟨(Below.heap_alloc _ _ _ (ag hg)).trans hg,trivial⟩))
   try simp only[List.setIfInBounds_toArray,List.set_cons_zero,List.set_cons_succ]at hab
   go_wp2_with fail
   go_meet
   exact⟨⟨ak,av,ax,ao,an,ac⟩,_,Nn,mon,mcn,rfl,fgn,nmn,hv,rvn,hab⟩
 case rest=>
  obtain⟨⟨ak1,av1,ax1,ao1,an1,ac1⟩,b1,N1,mo1,mc1,rfl,fgn,nmn,hv,rvn,hab⟩:=hcut
  generalize hWc:wc=W1 at*
  clear hWc
  have hgx:=(fgn.block _ (ag (ae nI)) ((ae CG).apart (ae nI) (by decide) (by decide))).trans (ae nI)
  have px:=(fgn.block _ (ag (ae mg)) ((ae CG).apart (ae mg) (by decide) (by decide))).trans (ae mg)
  have HFGn:=af ((ae Lv).trans fgn)
  have Q4:=af (show N1.length≤800000+1000 by have:=ae HLEN N (l:Int) N1 hv (ae jV _ (Or.inl rfl));have:=hN;omega)
  have Xy:=af hv
  clear nI mg Lv CG
  have nI:=af hgx
  have mg:=af px
  have Lx:=HFGn
  have wD:=af nmn
  have nT:=af hab
  have wE:=af rvn
  have x1:=ah hgx 2
  have gz1:=ag hgx
  simp only[List.getElem?_toArray,List.getElem?_cons_zero,List.getElem?_cons_succ]at x1
  clear hab fgn nmn rvn hgx px hv x0 HFGn
  go_upto_region 2 with fail
  go_cut [8] (fun lv wx=>SR T nb r W1 N1 mo1 lv wx)
  case first=>
   go_region_with (go_at_call 57;refine(ae IT r N1 mo1 mc1 _ ((ae Lx).trans (au.aw (by first | exact Below.refl _ _ | exact(Below.refl _ _).drew | exact((Below.refl _ _).alloc (Nat.le_refl _) _).drew | exact(Below.refl _ _).alloc (Nat.le_refl _) _))) ((ae wD).below (by first | exact Below.refl _ _ | exact(Below.refl _ _).drew | exact((Below.refl _ _).alloc (Nat.le_refl _) _).drew | exact(Below.refl _ _).alloc (Nat.le_refl _) _)) (ae Xw) (ae jV _ (Or.inr (Or.inl rfl))) (by have:=(ae Q4);omega)).mono ?_;rintro y w1 ⟨⟨ak,av,ax,ao,an,ac⟩,Nn,mon,mcn,rfl,nm,hv,rv,fg⟩;first | (have ab:=(fg.block W1.heap.size (by simp) (fun q=>by have:=(ae wD).rows _ q;omega)).trans (heap_alloc_new W1 (.cells #[.int .i64 0,.int .i64 0,.string ⟨#[]⟩,.slice none 0 0] 76));have ab0:=ah ab 0;have ab1:=ah ab 1;have ab2:=ah ab 2;have ab3:=ah ab 3;have ay0:=ay ab 0;have ay1:=ay ab 1;have ay2:=ay ab 2;have ay3:=ay ab 3;have abz:=ag ab;simp only[List.getElem?_toArray,List.getElem?_cons_zero,List.getElem?_cons_succ]at ab0 ab1 ab2 ab3) | skip)
   all_goals
    first
     | (have hab:=aA (aA (aA (aA ab 0 (.int .i64 ak)) 1 (.int .i64 av)) 2 (.string ax)) 3 (.slice ao an ac)
        have fgn:=((((((au.aw (R:=br nb mo1) (by first | exact Below.refl _ _ | exact(Below.refl _ _).drew | exact((Below.refl _ _).alloc (Nat.le_refl _) _).drew | exact(Below.refl _ _).alloc (Nat.le_refl _) _)).trans fg).eC (Nat.le_refl _) 0 (.int .i64 ak)).eC (Nat.le_refl _) 1 (.int .i64 av)).eC (Nat.le_refl _) 2 (.string ax)).eC (Nat.le_refl _) 3 (.slice ao an ac):au (br nb mo1) (br nb mon) W1 _)
        have nmn:=((((nm.nS ab 0 (.int .i64 ak)).nS (aA ab 0 (.int .i64 ak)) 1 (.int .i64 av)).nS (aA (aA ab 0 (.int .i64 ak)) 1 (.int .i64 av)) 2 (.string ax)).nS (aA (aA (aA ab 0 (.int .i64 ak)) 1 (.int .i64 av)) 2 (.string ax)) 3 (.slice ao an ac))
        have rvn:=(fun q=>(rv q).keep (Q:=anyA) (w':=((((w1.setCell ⟨W1.heap.size,0,none⟩ (.int .i64 ak)).setCell ⟨W1.heap.size,1,none⟩ (.int .i64 av)).setCell ⟨W1.heap.size,2,none⟩ (.string ax)).setCell ⟨W1.heap.size,3,none⟩ (.slice ao an ac))) fun g _ hp hg=>⟨by have hne:g≠W1.heap.size:=(by have:W1.heap.size+1≤g:=(by simpa using hp);omega);rw[aJ _ _ _ _ hne,aJ _ _ _ _ hne,aJ _ _ _ _ hne,aJ _ _ _ _ hne];exact hg,trivial⟩))
     | (have hab:=heap_alloc_new w1 (.cells #[.int .i64 ak,.int .i64 av,.string ax,.slice ao an ac] 76)
        have fgn:=(((au.aw (R:=br nb mo1) (by first | exact Below.refl _ _ | exact(Below.refl _ _).drew | exact((Below.refl _ _).alloc (Nat.le_refl _) _).drew | exact(Below.refl _ _).alloc (Nat.le_refl _) _)).trans fg).trans (au.aw ((Below.refl _ _).alloc (Nat.le_refl _) (.cells #[.int .i64 ak,.int .i64 av,.string ax,.slice ao an ac] 76))):au (br nb mo1) (br nb mon) W1 _)
        have nmn:=nm.below ((Below.refl _ _).alloc (Nat.le_refl _) (.cells #[.int .i64 ak,.int .i64 av,.string ax,.slice ao an ac] 76))
        have rvn:=(fun q=>(rv q).keep (Q:=anyA) (w':=w1.alloc (.cells #[.int .i64 ak,.int .i64 av,.string ax,.slice ao an ac] 76)) fun g _ _ hg=>⟨(Below.heap_alloc _ _ _ (ag hg)).trans hg,trivial⟩))
    try simp only[List.setIfInBounds_toArray,List.set_cons_zero,List.set_cons_succ]at hab
    go_wp2_with fail
    go_meet
    exact⟨⟨ak,av,ax,ao,an,ac⟩,_,Nn,mon,mcn,rfl,fgn,nmn,hv,rvn,hab⟩
  case rest=>
   obtain⟨⟨ak2,av2,ax2,ao2,an2,ac2⟩,b2,N2,mo2,mc2,rfl,fgn,nmn,hv,rvn,hab⟩:=hcut
   generalize hWc:wc=W2 at*
   clear hWc
   have hgx:=(fgn.block _ (ag (ae nI)) ((ae wD).apart (ae nI) (by decide) (by decide))).trans (ae nI)
   have px:=(fgn.block _ (ag (ae mg)) ((ae wD).apart (ae mg) (by decide) (by decide))).trans (ae mg)
   have CH:=(fgn.block _ (ag (ae nT)) ((ae wD).apart (ae nT) (by decide) (by decide))).trans (ae nT)
   have rv1:=(fun q=>((ae wE) q).fr (ae wD) fgn)
   clear nT wE
   have nT:=af CH
   have wE:=af rv1
   clear CH rv1
   have HFGn:=af ((ae Lx).trans fgn)
   have Q5:=af (show N2.length≤800000+2000 by have:=ae HLEN N1 r N2 hv (ae jV _ (Or.inr (Or.inl rfl)));have:=(ae Q4);omega)
   have zj:=af hv
   clear nI mg Lx wD
   have nI:=af hgx
   have mg:=af px
   have Lz:=HFGn
   have rL:=af nmn
   have wF:=af hab
   have F7:=af rvn
   have x2:=ah hgx 4
   have gz2:=ag hgx
   simp only[List.getElem?_toArray,List.getElem?_cons_zero,List.getElem?_cons_succ]at x2
   clear hab fgn nmn rvn hgx px hv x1 HFGn
   go_upto_region 3 with fail
   go_cut [9] (fun lv wx=>SR T nb z W2 N2 mo2 lv wx)
   case first=>
    go_region_with (go_at_call 57;refine(ae IT z N2 mo2 mc2 _ ((ae Lz).trans (au.aw (by first | exact Below.refl _ _ | exact(Below.refl _ _).drew | exact((Below.refl _ _).alloc (Nat.le_refl _) _).drew | exact(Below.refl _ _).alloc (Nat.le_refl _) _))) ((ae rL).below (by first | exact Below.refl _ _ | exact(Below.refl _ _).drew | exact((Below.refl _ _).alloc (Nat.le_refl _) _).drew | exact(Below.refl _ _).alloc (Nat.le_refl _) _)) (ae Xx) (ae jV _ (Or.inr (Or.inr rfl))) (by have:=(ae Q5);omega)).mono ?_;rintro y w1 ⟨⟨ak,av,ax,ao,an,ac⟩,Nn,mon,mcn,rfl,nm,hv,rv,fg⟩;first | (have ab:=(fg.block W2.heap.size (by simp) (fun q=>by have:=(ae rL).rows _ q;omega)).trans (heap_alloc_new W2 (.cells #[.int .i64 0,.int .i64 0,.string ⟨#[]⟩,.slice none 0 0] 76));have ab0:=ah ab 0;have ab1:=ah ab 1;have ab2:=ah ab 2;have ab3:=ah ab 3;have ay0:=ay ab 0;have ay1:=ay ab 1;have ay2:=ay ab 2;have ay3:=ay ab 3;have abz:=ag ab;simp only[List.getElem?_toArray,List.getElem?_cons_zero,List.getElem?_cons_succ]at ab0 ab1 ab2 ab3) | skip)
    all_goals
     first
      | (have hab:=aA (aA (aA (aA ab 0 (.int .i64 ak)) 1 (.int .i64 av)) 2 (.string ax)) 3 (.slice ao an ac)
         have fgn:=((((((au.aw (R:=br nb mo2) (by first | exact Below.refl _ _ | exact(Below.refl _ _).drew | exact((Below.refl _ _).alloc (Nat.le_refl _) _).drew | exact(Below.refl _ _).alloc (Nat.le_refl _) _)).trans fg).eC (Nat.le_refl _) 0 (.int .i64 ak)).eC (Nat.le_refl _) 1 (.int .i64 av)).eC (Nat.le_refl _) 2 (.string ax)).eC (Nat.le_refl _) 3 (.slice ao an ac):au (br nb mo2) (br nb mon) W2 _)
         have nmn:=((((nm.nS ab 0 (.int .i64 ak)).nS (aA ab 0 (.int .i64 ak)) 1 (.int .i64 av)).nS (aA (aA ab 0 (.int .i64 ak)) 1 (.int .i64 av)) 2 (.string ax)).nS (aA (aA (aA ab 0 (.int .i64 ak)) 1 (.int .i64 av)) 2 (.string ax)) 3 (.slice ao an ac))
         have rvn:=(fun q=>(rv q).keep (Q:=anyA) (w':=((((w1.setCell ⟨W2.heap.size,0,none⟩ (.int .i64 ak)).setCell ⟨W2.heap.size,1,none⟩ (.int .i64 av)).setCell ⟨W2.heap.size,2,none⟩ (.string ax)).setCell ⟨W2.heap.size,3,none⟩ (.slice ao an ac))) fun g _ hp hg=>⟨by have hne:g≠W2.heap.size:=(by have:W2.heap.size+1≤g:=(by simpa using hp);omega);rw[aJ _ _ _ _ hne,aJ _ _ _ _ hne,aJ _ _ _ _ hne,aJ _ _ _ _ hne];exact hg,trivial⟩))
      | (have hab:=heap_alloc_new w1 (.cells #[.int .i64 ak,.int .i64 av,.string ax,.slice ao an ac] 76)
         have fgn:=(((au.aw (R:=br nb mo2) (by first | exact Below.refl _ _ | exact(Below.refl _ _).drew | exact((Below.refl _ _).alloc (Nat.le_refl _) _).drew | exact(Below.refl _ _).alloc (Nat.le_refl _) _)).trans fg).trans (au.aw ((Below.refl _ _).alloc (Nat.le_refl _) (.cells #[.int .i64 ak,.int .i64 av,.string ax,.slice ao an ac] 76))):au (br nb mo2) (br nb mon) W2 _)
         have nmn:=nm.below ((Below.refl _ _).alloc (Nat.le_refl _) (.cells #[.int .i64 ak,.int .i64 av,.string ax,.slice ao an ac] 76))
         have rvn:=(fun q=>(rv q).keep (Q:=anyA) (w':=w1.alloc (.cells #[.int .i64 ak,.int .i64 av,.string ax,.slice ao an ac] 76)) fun g _ _ hg=>⟨(Below.heap_alloc _ _ _ (ag hg)).trans hg,trivial⟩))
     try simp only[List.setIfInBounds_toArray,List.set_cons_zero,List.set_cons_succ]at hab
     go_wp2_with fail
     go_meet
     exact⟨⟨ak,av,ax,ao,an,ac⟩,_,Nn,mon,mcn,rfl,fgn,nmn,hv,rvn,hab⟩
   case rest=>
    obtain⟨⟨ak3,av3,ax3,ao3,an3,ac3⟩,b3,N3,mo3,mc3,rfl,fgn,nmn,hv,rvn,hab⟩:=hcut
    generalize hWc:wc=W3 at*
    clear hWc
    have hgx:=(fgn.block _ (ag (ae nI)) ((ae rL).apart (ae nI) (by decide) (by decide))).trans (ae nI)
    have px:=(fgn.block _ (ag (ae mg)) ((ae rL).apart (ae mg) (by decide) (by decide))).trans (ae mg)
    have CH:=(fgn.block _ (ag (ae nT)) ((ae rL).apart (ae nT) (by decide) (by decide))).trans (ae nT)
    have rv1:=(fun q=>((ae wE) q).fr (ae rL) fgn)
    clear nT wE
    have nT:=af CH
    have wE:=af rv1
    clear CH rv1
    have Q6:=(fgn.block _ (ag (ae wF)) ((ae rL).apart (ae wF) (by decide) (by decide))).trans (ae wF)
    have rv2:=(fun q=>((ae F7) q).fr (ae rL) fgn)
    clear wF F7
    have wF:=af Q6
    have F7:=af rv2
    clear Q6 rv2
    have HFGn:=af ((ae Lz).trans fgn)
    have X7:=af (show N3.length≤800000+3000 by have:=ae HLEN N2 z N3 hv (ae jV _ (Or.inr (Or.inr rfl)));have:=(ae Q5);omega)
    have Us:=af hv
    clear nI mg Lz rL
    have nI:=af hgx
    have mg:=af px
    have VN:=HFGn
    have VO:=af nmn
    have Q7:=af hab
    have VP:=af rvn
    have x3:=ah hgx 1
    have gz3:=ag hgx
    simp only[List.getElem?_toArray,List.getElem?_cons_zero,List.getElem?_cons_succ]at x3
    clear hab fgn nmn rvn hgx px hv x2 HFGn
    have y0:=ah (ae nI) 1
    have y1:=ah (ae nI) 3
    have ra:=ah (ae nT)
    have rb:=ah (ae wF)
    have rc:=ah (ae Q7)
    have rx:=ah (ae mg)
    have rxf:=ay (ae mg)
    have za:=ag (ae nT)
    have zb:=ag (ae wF)
    have zc:=ag (ae Q7)
    have zx:=ag (ae mg)
    have a0:=ra 0
    have a1:=ra 1
    have a2:=ra 2
    have a3:=ra 3
    have c0:=rb 0
    have c1:=rb 1
    have c2:=rb 2
    have c3:=rb 3
    have d0:=rc 0
    have d1:=rc 1
    have d2:=rc 2
    have d3:=rc 3
    simp only[List.getElem?_toArray,List.getElem?_cons_zero,List.getElem?_cons_succ]at y0 y1 a0 a1 a2 a3 c0 c1 c2 c3 d0 d1 d2 d3
    clear ra rb rc
    go_wp2_with fail
    refine bodyPost_ret (v:= .agg #[.int .i64 ak1,.int .i64 av1,.string ax1,.slice ao1 an1 ac1,.string sg,.int .i64 ak2,.int .i64 av2,.string ax2,.slice ao2 an2 ac2,.string op,.int .i64 ak3,.int .i64 av3,.string ax3,.slice ao3 an3 ac3]) (by simp[results,Tryz.results86,go_sem,rx]) rfl ?_
    exact Q1 (ae VN) (ae VO) (ae mg) (by rw[ae Us,ae zj,ae Xy]) (ae zj) (ae Us) (ae wE) (ae F7) (ae VP)
theorem infoBl:(Tryz.prog.info? 4).map (fun i=>(i.zero,i.size,i.bytes))=some (some (.bool false),1,1):=by kernel_rfl
theorem F9 (w:World) (mb:Nat) (L:List Int) (lo:Option Addr) (lc:Nat) (en:Int) (h:kN w mb L lo lc en) (he:en=4∨en=5∨en=6):
 Calls Tryz.prog 47 #[.pointer (some ⟨mb,0,none⟩)] w fun e w'=>e= .returned (.agg #[.int .i64 en,.slice lo L.length lc,.slice none 0 0,.slice none 0 0,.slice none 0 0])∧Below w.heap.size w w':=by
 obtain⟨cs,hb,h6,h4,h5,ho⟩:=h
 have f4:=(ah hb 4).trans h4
 have f5:=(ah hb 5).trans h5
 have mz:=ag hb
 clear hb h6 h4 h5 ho
 rcases he with rfl | rfl | rfl
 all_goals
  go_enter Tryz.func47,Tryz.ntmps47
  go_wp2_with fail
  go_region
  all_goals
   go_wp2_with fail
   refine bodyPost_ret (v:= .agg #[.int .i64 _,.slice lo L.length lc,.slice none 0 0,.slice none 0 0,.slice none 0 0]) (by simp[results,Tryz.results47,go_sem];rfl) rfl ?_
   exact⟨rfl,(((Below.refl _ _).alloc (Nat.le_refl _) _).alloc (by simp) _).drew⟩
def uR (T:Nat→Za.U) (a:List (List UInt8)×List Za.Vr) (v:Nat):List (List UInt8)×List Za.Vr:=(a.1++[Za.bP Lib.itoa (Za.aV a.2 (T v)) (T v)],Za.aV a.2 (T v))
def eE (T:Nat→Za.U) (V:List Nat):List (List UInt8)×List Za.Vr:=V.foldl (uR T) ([],[])
theorem zV (T:Nat→Za.U) (V:List Nat) (v:Nat):eE T (V++[v])=uR T (eE T V) v:=by unfold eE;rw[List.foldl_append];rfl
theorem CI (T:Nat→Za.U) (V:List Nat):(eE T V).1.length=V.length:=by
 have key:∀(V:List Nat) (a:List (List UInt8)×List Za.Vr),(V.foldl (uR T) a).1.length=a.1.length+V.length:=by
  intro V
  induction V with
  | nil=>intro a;simp
  | cons v V ih=>intro a;rw[List.foldl_cons,ih];simp[uR];omega
 have:=key V ([],[])
 simpa [eE] using this
def Jd (T:Nat→Za.U) (N:List Za.Vr) (g:Gl):List Za.Vr:=iA T (iA T (iA T N (g.l:Int)) g.r) g.z
def Er (T:Nat→Za.U) (N:List Za.Vr) (g:Gl):List UInt8:=Za.mU (Za.bP Lib.itoa N (T g.l)) g.sg.toList (Za.bP Lib.itoa N (T g.r.toNat)) g.op.toList (Za.bP Lib.itoa N (T g.z.toNat))
def stepG (T:Nat→Za.U) (a:List (List UInt8)×List Za.Vr) (g:Gl):List (List UInt8)×List Za.Vr:=(a.1++[Er T (Jd T a.2 g) g],Jd T a.2 g)
def kA (T:Nat→Za.U) (N:List Za.Vr) (G:List Gl):List (List UInt8)×List Za.Vr:=G.foldl (stepG T) ([],N)
theorem zW (T:Nat→Za.U) (N:List Za.Vr) (G:List Gl) (g:Gl):kA T N (G++[g])=stepG T (kA T N G) g:=by unfold kA;rw[List.foldl_append];rfl
theorem CJ (T:Nat→Za.U) (N:List Za.Vr) (G:List Gl):(kA T N G).1.length=G.length:=by
 have key:∀(G:List Gl) (a:List (List UInt8)×List Za.Vr),(G.foldl (stepG T) a).1.length=a.1.length+G.length:=by
  intro G
  induction G with
  | nil=>intro a;simp
  | cons v V ih=>intro a;rw[List.foldl_cons,ih];simp[stepG];omega
 have:=key G ([],N)
 simpa [kA] using this
def iw (s:List UInt8):Value:= .string ⟨s.toArray⟩
theorem Oi {D:List Ng} {fr:Nat→Nat} {T:Nat→Za.U} (ok:bW D fr) (hS:Za.dD (aY D) fr T) (hv:∀d∈D,-1000000000≤d.val∧d.val≤1000000000) (ht:∀d∈D,d.tx.size≤240):∀n,n<D.length→Za.oT (T n):=by
 have key:∀{n u},Za.Tr (aY D) fr n u→n<D.length→Za.oT u:=by
  intro n u h
  induction h with
  | @var n _ _=>intro _ k tx num ss hm;simp[Za.subs]at hm
  | @node n k tx num us hg hl _ ih=>
   intro hn
   have hf:=ok.lt hn
   have hd:=ok.nd (fr n) hf
   have gX:D[fr n]∈D:=List.getElem_mem hf
   rw[lN hf]at hg
   rw[jN hf]at hl ih
   refine Za.oT.mk ?_ fun a ha=> ?_
   ·have h1:=hv _ gX
    have h2:=ht _ gX
    have h3:D[fr n].args.length≤3:=by
     rcases hd.ks with q | q | q
     ·rw[(hd.v q).2.2.2];simp
     ·rw[(hd.m q).2.2];simp
     ·exact(hd.c q).2.2
    unfold fj at hg
    split at hg
    ·cases hg
    ·split at hg
     ·injection hg with hg
      injection hg with e1 hg
      injection hg with e2 e3
      subst e2 e3
      exact⟨by simp,h1.1,h1.2,by omega⟩
     ·injection hg with hg
      injection hg with e1 hg
      injection hg with e2 e3
      subst e2 e3
      exact⟨by rw[Za.nu];exact h2,by omega,by omega,by omega⟩
   ·obtain⟨i,hi,rfl⟩:=List.getElem_of_mem ha
    exact ih i _ us[i] (List.getElem?_eq_getElem (by omega)) (List.getElem?_eq_getElem hi) (hd.inn _ (List.getElem_mem _))
 exact fun n hn=>key (hS.tr n) hn
end Go.Proofs.YthfjnfcekeknlaaGreatDoor
namespace Za
open Go.Proofs.YthfjnfcekeknlaaGreatDoor (eP dA ir)
def zU:U:= .n 0 [] 0 []
structure MG where
 a:U
 sg:List UInt8
 b:U
 op:List UInt8
 c:U
 wt:Bool
 on:Nat→Prop
structure MS where
 vs:List U
 gs:List MG
 lim:Nat
def MG.stays (σ:Vr→U) (g:MG):Prop:=g.wt=true∧∀v,g.on v→σ ([],v)= .v ([],v)
open Classical in
noncomputable def MG.put (σ:Vr→U) (g:MG):MG:=⟨sub σ g.a,g.sg,sub σ g.b,g.op,sub σ g.c,decide (g.stays σ),fun v=>g.stays σ∧g.on v⟩
def MG.of (η:List UInt8→U) (x:aH):MG:=⟨bJ η 8 x.left,x.sign,x.right.elim zU (bJ η 8),x.op,x.last.elim zU (bJ η 8),false,fun _=>False⟩
def cJ (u:U) (c:aL) (o:Nat→Nat) (y:List UInt8):U:=if y∈NH c then((matU 8 c.head u ⟨[],Wn.none⟩).st.find? (fun q=>q.1 == y)).elim zU (·.2)else .v ([],o ((NG c).idxOf y - (NH c).length))
def bU (lim:Nat) (u:U) (c:aL):Nat×List Nat:=if(matU 8 c.head u ⟨[],Wn.none⟩).w.says≠1 then((matU 8 c.head u ⟨[],Wn.none⟩).w.says,(matU 8 c.head u ⟨[],Wn.none⟩).w.wt)else((iJ (cJ u c (lim+·)) c.tests).says,(iJ (cJ u c (lim+·)) c.tests).wt.filter fun n=>decide (n<lim))
def jk (gs:List MG):List Nat:=(List.range gs.length).filter fun i=>match gs[i]? with
 | some g=> !g.wt
 | none=>false
def Xz (S S':MS) (i:Nat) (g:MG) (z:Int):Prop:=g.sg=[61]∧z=0∧∃σ,fB g.a g.b σ∧S'.vs=S.vs.map (sub σ)∧S'.gs=(S.gs.eraseIdx i).map (MG.put σ)
def XA (S S':MS) (i:Nat) (g:MG) (z:Int):Prop:=g.sg=[58,61]∧z= -1∧(e7 g.op g.b g.c).wt≠[]∧S'.vs=S.vs∧S'.gs=S.gs.set i ⟨g.a,g.sg,g.b,g.op,g.c,true,fun v=>v∈(e7 g.op g.b g.c).wt⟩
def XB (S S':MS) (i:Nat) (g:MG) (z:Int):Prop:=g.sg=[58,61]∧z=0∧(e7 g.op g.b g.c).wt=[]∧∃x σ,eP g.op g.b g.c=some x∧fB g.a (.n 3 [] x []) σ∧S'.vs=S.vs.map (sub σ)∧S'.gs=(S.gs.eraseIdx i).map (MG.put σ)
def XC (S S':MS) (i:Nat) (g:MG) (z:Int):Prop:=g.sg=[]∧z=0∧g.a= .n 1 [116,114,117,101] 0 []∧S'.vs=S.vs∧S'.gs=S.gs.eraseIdx i
def oD (cls:List aL) (g:MG) (p:Int) (n:Nat) (jm:Nat→Nat):Prop:=g.sg=[]∧∃tx us,g.a= .n 1 tx 0 us∧¬(tx=[116,114,117,101]∧us=[])∧n=(cr cls tx us.length cls.length).length∧jm=ir (cr cls tx us.length cls.length) (dA p n)
def XD (cls:List aL) (S S':MS) (i:Nat) (g:MG) (p z:Int):Prop:=∃n jm,oD cls g p n jm∧∃(t:Nat) (c:aL) (F:List Nat),t<n∧(∀t' c',t'<t→cls[jm t']?=some c'→(bU S.lim g.a c').1≠1)∧cls[jm t]?=some c∧(bU S.lim g.a c).1=1∧z=((jm t+1:Nat):Int)∧F.length+(NH c).length=(NG c).length∧F.Pairwise (·<·)∧(∀f∈F,S.lim≤f∧f<S'.lim)∧S'.vs=S.vs∧S'.gs=S.gs.eraseIdx i++c.goals.map (MG.of (cJ g.a c fun k=>(F[k]?).getD 0))
def XE (cls:List aL) (S S':MS) (i:Nat) (g:MG) (p z:Int):Prop:=∃n jm,oD cls g p n jm∧z= -1∧(∀t c,t<n→cls[jm t]?=some c→(bU S.lim g.a c).1≠1)∧(∃t c,t<n∧cls[jm t]?=some c∧(bU S.lim g.a c).1=3)∧S'.vs=S.vs∧S'.gs=S.gs.set i ⟨g.a,g.sg,g.b,g.op,g.c,true,fun v=>∃t c,t<n∧cls[jm t]?=some c∧(bU S.lim g.a c).1=3∧v∈(bU S.lim g.a c).2⟩
def nj (cls:List aL) (S S':MS) (i:Nat) (p z:Int):Prop:=S.lim≤S'.lim∧∃g,S.gs[i]?=some g∧(Xz S S' i g z∨XA S S' i g z∨XB S S' i g z∨XC S S' i g z∨XD cls S S' i g p z∨XE cls S S' i g p z)
def Es (cls:List aL) (S:MS) (i:Nat) (p en:Int):Prop:=∃g,S.gs[i]?=some g∧
 ((g.sg=[61]∧en=4∧∀θ,sub θ g.a≠sub θ g.b)∨
  (g.sg=[58,61]∧(e7 g.op g.b g.c).wt=[]∧((en=5∧eP g.op g.b g.c=none)∨(en=4∧∃x,eP g.op g.b g.c=some x∧∀θ,sub θ g.a≠ .n 3 [] x [])))∨
  (en=4∧∃n jm,oD cls g p n jm∧∀t c,t<n→cls[jm t]?=some c→(bU S.lim g.a c).1=2))
def big (u:U):Bool:=decide (40<size u)
def mh (g:MG):Bool:=if g.sg=[]then(match g.a with
 | .v _=>false
 | .n _ _ _ us=>us.any big)else(big g.a||big g.b||big g.c)
def qE (S:MS):Bool:=decide (24<S.gs.length)||(S.vs.any big||S.gs.any mh)
def qj (a:List (List UInt8)×List Vr) (u:U):List (List UInt8)×List Vr:=(a.1++[bP Go.Lib.itoa (aV a.2 u) u],aV a.2 u)
def kB (vs:List U):List (List UInt8)×List Vr:=vs.foldl qj ([],[])
def jI (N:List Vr) (g:MG):List Vr:=aV (aV (aV N g.a) g.b) g.c
def uS (N:List Vr) (g:MG):List UInt8:=mU (bP Go.Lib.itoa N g.a) g.sg (bP Go.Lib.itoa N g.b) g.op (bP Go.Lib.itoa N g.c)
def mi (a:List (List UInt8)×List Vr) (g:MG):List (List UInt8)×List Vr:=(a.1++[uS (jI a.2 g) g],jI a.2 g)
def rM (N:List Vr) (gs:List MG):List (List UInt8)×List Vr:=gs.foldl mi ([],N)
def wG (gs:List MG):Int:=if gs=[]then 1 else if jk gs=[]then 2 else 3
inductive mW (cls:List aL) (script:List (Int×Int)) (S0:MS):Nat→MS→List Int→Prop
 | start:mW cls script S0 0 S0 []
 | step {j:Nat} {S S':MS} {L:List Int} {pg pc z:Int} {i:Nat} (h:mW cls script S0 j S L) (hs:script[j]?=some (pg,pc)) (hi:(jk S.gs)[dA pg (jk S.gs).length]?=some i) (hg:nj cls S S' i pc z) (hl:qE S'=false):mW cls script S0 (j+1) S' (L++[z])
def nU (cls:List aL) (script:List (Int×Int)) (S0:MS) (en:Int) (log:List Int) (vals gols:List (List UInt8)) (wts:List Bool):Prop:=∃(j:Nat) (S:MS) (L:List Int),mW cls script S0 j S L∧
 (((j=script.length∨jk S.gs=[])∧en=wG S.gs∧log=L∧vals=(kB S.vs).1∧gols=(rM (kB S.vs).2 S.gs).1∧wts=S.gs.map (·.wt))∨
  (∃(pg pc:Int) (i:Nat) (z:Int),script[j]?=some (pg,pc)∧(jk S.gs)[dA pg (jk S.gs).length]?=some i∧((Es cls S i pc en∧z= -2)∨(en=6∧∃S',nj cls S S' i pc z∧qE S'=true))∧log=L++[z]∧vals=[]∧gols=[]∧wts=[]))
theorem Je (c:aL):∃K,NG c=NH c++K:=by
 have hO:∀(t:Option Tm) (ns:List (List UInt8)),∃M,cD ns t=ns++M:=fun t ns=>by
  cases t with
  | none=>exact⟨[],by simp[cD]⟩
  | some r=>exact namesV_ext 8 r ns
 have hI:∀(x:aH) (ns:List (List UInt8)),∃M,aP ns x=ns++M:=fun x ns=>by
  obtain⟨M1,h1⟩:=namesV_ext 8 x.left ns
  obtain⟨M2,h2⟩:=hO x.right (namesF 8 ns x.left)
  obtain⟨M3,h3⟩:=hO x.last (cD (namesF 8 ns x.left) x.right)
  exact⟨M1++(M2++M3),by unfold aP;rw[h3,h2,h1];simp⟩
 have hL:∀(xs:List aH) (ns:List (List UInt8)),∃M,aC ns xs=ns++M:=fun xs=>by
  induction xs with
  | nil=>exact fun ns=>⟨[],by simp[aC]⟩
  | cons x xs ih=>
   intro ns
   obtain⟨M1,h1⟩:=hI x ns
   obtain⟨M2,h2⟩:=ih (aP ns x)
   exact⟨M1++M2,by show aC (aP ns x) xs=_;rw[h2,h1];simp⟩
 obtain⟨M1,h1⟩:=hL c.tests (NH c)
 obtain⟨M2,h2⟩:=hL c.goals (NT c)
 exact⟨M1++M2,by unfold NG;rw[h2];unfold NT;rw[h1];simp⟩
theorem MU (c:aL):∀y∈NT c,y∈NG c:=fun y hy=>by
 have hO:∀(t:Option Tm) (ns:List (List UInt8)),∀y∈ns,y∈cD ns t:=fun t ns y hy=>by
  cases t with
  | none=>exact hy
  | some r=>
   obtain⟨K,hK⟩:=namesV_ext 8 r ns
   show y∈namesF 8 ns r
   rw[hK];exact List.mem_append_left _ hy
 have hI:∀(x:aH) (ns:List (List UInt8)),∀y∈ns,y∈aP ns x:=fun x ns y hy=>by
  refine hO _ _ y (hO _ _ y ?_)
  obtain⟨K,hK⟩:=namesV_ext 8 x.left ns
  rw[hK];exact List.mem_append_left _ hy
 have hL:∀(xs:List aH) (ns:List (List UInt8)),∀y∈ns,y∈aC ns xs:=fun xs=>by
  induction xs with
  | nil=>exact fun ns y hy=>hy
  | cons x xs ih=>exact fun ns y hy=>ih _ y (hI x ns y hy)
 exact hL c.goals (NT c) y hy
theorem Ga {c:aL} {y:List UInt8} (hy:y∈NG c) (hn:y∉NH c):(NH c).length≤(NG c).idxOf y∧(NG c).idxOf y<(NG c).length:=by
 refine⟨?_,List.idxOf_lt_length_of_mem hy⟩
 obtain⟨K,hK⟩:=Je c
 rw[hK,List.idxOf_append,if_neg hn]
 omega
theorem lF {r r':Nat→Nat} {P:Nat→Prop} (h:∀k,P k→r' k=r k) {u:U} (hu:bB (PQ P) u):bl r' u=bl r u:=sub_congr u fun x hx=>by
 unfold ren rn
 rw[h x.2 ((eN u).1 hu x hx).2]
theorem Gb (r:Nat→Nat):bl r zU=zU:=by unfold zU;rw[fS];rfl
theorem Gc (Q:Vr→Prop):bB Q zU:= .n fun a ha=>by cases ha
theorem ue (Q:Vr→Prop):(bM.mk [] Wn.none).kJ Q:=⟨fun _ hq=>absurd hq List.not_mem_nil,dC Q⟩
theorem wH {r r':Nat→Nat} {P:Nat→Prop} (hi:gY r P) (h:∀k,P k→r' k=r k) {u:U} (hu:bB (PQ P) u) {c:aL} {o1 o2:Nat→Nat} {y:List UInt8} (ho:y∉NH c→r' (o1 ((NG c).idxOf y - (NH c).length))=o2 ((NG c).idxOf y - (NH c).length)):cJ (bl r u) c o2 y=bl r' (cJ u c o1 y):=by
 unfold cJ
 by_cases hy:y∈NH c
 ·rw[if_pos hy,if_pos hy]
  have:=wC hi 8 c.head u ⟨[],Wn.none⟩ hu (ue _)
  have e:(bM.mk [] Wn.none).map r=⟨[],Wn.none⟩:=rfl
  rw[e]at this
  rw[this]
  show (((matU 8 c.head u ⟨[],Wn.none⟩).st.map fun q=>(q.1,bl r q.2)).find? (fun q=>q.1 == y)).elim zU (·.2)=_
  rw[CD]
  cases hq:(matU 8 c.head u ⟨[],Wn.none⟩).st.find? (fun q=>q.1 == y)with
  | none=>exact(Gb r').symm
  | some q=>exact(lF h ((mO 8 c.head u _ hu (ue _)).1 q (List.mem_of_find?_eq_some hq))).symm
 ·rw[if_neg hy,if_neg hy,qh,ho hy]
theorem yu {P P':Nat→Prop} (h:∀k,P k→P' k) {u:U} (hu:bB (PQ P) u) {c:aL} {o:Nat→Nat} {y:List UInt8} (ho:y∉NH c→P' (o ((NG c).idxOf y - (NH c).length))):bB (PQ P') (cJ u c o y):=by
 unfold cJ
 by_cases hy:y∈NH c
 ·rw[if_pos hy]
  cases hq:(matU 8 c.head u ⟨[],Wn.none⟩).st.find? (fun q=>q.1 == y)with
  | none=>exact Gc _
  | some q=>exact((mO 8 c.head u _ hu (ue _)).1 q (List.mem_of_find?_eq_some hq)).mono fun x hx=>⟨hx.1,h _ hx.2⟩
 ·rw[if_neg hy]
  exact .v ⟨rfl,ho hy⟩
theorem CK {r:Nat→Nat} {P:Nat→Prop} (hi:gY r P) {l1 l2:Nat} (h1:∀k,P k→k<l1) (h2:∀k,P k→r k<l2) {u:U} (hu:bB (PQ P) u) {c:aL} (hc:∀x∈c.tests,iC x):(bU l2 (bl r u) c).1=(bU l1 u c).1∧(bU l2 (bl r u) c).2=(bU l1 u c).2.map r∧∀v∈(bU l1 u c).2,P v:=by
 have hm:=wC hi 8 c.head u ⟨[],Wn.none⟩ hu (ue _)
 have e:(bM.mk [] Wn.none).map r=⟨[],Wn.none⟩:=rfl
 rw[e]at hm
 have hw:(matU 8 c.head (bl r u) ⟨[],Wn.none⟩).w=(matU 8 c.head u ⟨[],Wn.none⟩).w.map r:=by rw[hm];rfl
 have uf:=(mO 8 c.head u ⟨[],Wn.none⟩ hu (ue _)).2
 unfold bU
 rw[hw,Wn.rJ]
 by_cases hs:(matU 8 c.head u ⟨[],Wn.none⟩).w.says≠1
 ·rw[if_pos hs,if_pos hs]
  exact⟨rfl,rfl,uf.at⟩
 ·rw[if_neg hs,if_neg hs]
  let r':Nat→Nat:=fun k=>if k<l1 then r k else l2+(k - l1)
  let P':Nat→Prop:=fun k=>P k∨l1≤k
  have hr:∀k,P k→r' k=r k:=fun k hk=>if_pos (h1 k hk)
  have hr2:∀k,l1≤k→r' k=l2+(k - l1):=fun k hk=>if_neg (by omega)
  have hi':gY r' P':=fun i j hPi hPj q=>by
   rcases hPi with a | a<;>rcases hPj with b | b
   ·rw[hr i a,hr j b]at q;exact hi i j a b q
   ·rw[hr i a,hr2 j b]at q;have:=h2 i a;omega
   ·rw[hr2 i a,hr j b]at q;have:=h2 j b;omega
   ·rw[hr2 i a,hr2 j b]at q;omega
  have hY:∀y,bB (PQ P') (cJ u c (l1+·) y):=fun y=>yu (fun k hk=>Or.inl hk) hu fun _=>Or.inr (Nat.le_add_right _ _)
  have hE:cJ (bl r u) c (l2+·)=fun y=>bl r' (cJ u c (l1+·) y):=funext fun y=>wH hi hr hu fun _=>by
   rw[hr2 _ (Nat.le_add_right _ _)]
   congr 1
   omega
  rw[hE,Em hi' c.tests [] hc (fun y _=>hY y)]
  have hwt:=yl (η:=cJ u c (l1+·)) c.tests [] hc (fun y _=>hY y)
  refine⟨Wn.rJ _ _,?_,fun v hv=> ?_⟩
  ·show ((iJ (cJ u c (l1+·)) c.tests).wt.map r').filter _=_
   rw[List.filter_map]
   have:(iJ (cJ u c (l1+·)) c.tests).wt.filter ((fun n=>decide (n<l2))∘r')=(iJ (cJ u c (l1+·)) c.tests).wt.filter fun n=>decide (n<l1):=List.filter_congr fun w hw=>by
    show decide (r' w<l2)=decide (w<l1)
    rcases hwt.at w hw with q | q
    ·rw[hr w q,decide_eq_true (h2 w q),decide_eq_true (h1 w q)]
    ·rw[hr2 w q,decide_eq_false (by omega),decide_eq_false (by omega)]
   rw[this]
   refine List.map_congr_left fun w hw=> ?_
   obtain⟨qT,hw2⟩:=List.mem_filter.1 hw
   exact if_pos (of_decide_eq_true hw2)
  ·obtain⟨qT,hw2⟩:=List.mem_filter.1 hv
   have:=of_decide_eq_true hw2
   rcases hwt.at v qT with q | q
   ·exact q
   ·omega
end Za
