import Derived.Test.YthfjnfcekeknlaaGreatDoorSt22
import Derived.Test.YthfjnfcekeknlaaGreatDoorSt29
import Derived.Test.YthfjnfcekeknlaaGreatDoorSt30
import Derived.Deep.DeepCutAuto
import Derived.Deep.LoopGhost
set_option maxHeartbeats 8000000
set_option maxRecDepth 100000
namespace Za
def mM (A sg B op C:List UInt8):List UInt8:=if sg=[]then A else if op=[]then A++(sg++B)++[]else A++(sg++B)++(op++C)
end Za
namespace Go.Proofs.YthfjnfcekeknlaaGreatDoor
open Go.RowKit
theorem OG (w:World) (v:JV) (A B C:List UInt8) (hA:A.length≤1000000) (hB:B.length≤1000000) (hC:C.length≤1000000) (hsl:v.sg.size≤2) (hol:v.op.size≤2) (IA:∀W,Below w.heap.size w W→Calls Tryz.prog 58 #[.agg #[.int .i64 v.a.k,.int .i64 v.a.val,.string v.a.tx,.slice v.a.ao v.a.n v.a.cap]] W fun e w'=>e= .returned (.string ⟨A.toArray⟩)∧Below W.heap.size W w') (IB:v.sg.toList≠[]→∀W,Below w.heap.size w W→Calls Tryz.prog 58 #[.agg #[.int .i64 v.b.k,.int .i64 v.b.val,.string v.b.tx,.slice v.b.ao v.b.n v.b.cap]] W fun e w'=>e= .returned (.string ⟨B.toArray⟩)∧Below W.heap.size W w') (IC:v.sg.toList≠[]→v.op.toList≠[]→∀W,Below w.heap.size w W→Calls Tryz.prog 58 #[.agg #[.int .i64 v.c.k,.int .i64 v.c.val,.string v.c.tx,.slice v.c.ao v.c.n v.c.cap]] W fun e w'=>e= .returned (.string ⟨C.toArray⟩)∧Below W.heap.size W w'):
 Calls Tryz.prog 87 #[.agg #[.int .i64 v.a.k,.int .i64 v.a.val,.string v.a.tx,.slice v.a.ao v.a.n v.a.cap,.string v.sg,.int .i64 v.b.k,.int .i64 v.b.val,.string v.b.tx,.slice v.b.ao v.b.n v.b.cap,.string v.op,.int .i64 v.c.k,.int .i64 v.c.val,.string v.c.tx,.slice v.c.ao v.c.n v.c.cap]] w fun e w'=>e= .returned (.string ⟨(Za.mM A v.sg.toList B v.op.toList C).toArray⟩)∧Below w.heap.size w w':=by
 obtain⟨⟨ak0,av0,ax0,ao0,an0,ac0⟩,⟨bk0,bv0,bx0,bo0,bn0,bc0⟩,⟨ck0,cv0,cx0,co0,cn0,cc0⟩,sg,op⟩:=v
 dsimp only at*
 have hb0:=(Below.refl w.heap.size w).alloc (Nat.le_refl _) (.cells #[.int .i64 ak0,.int .i64 av0,.string ax0,.slice ao0 an0 ac0,.string sg,.int .i64 bk0,.int .i64 bv0,.string bx0,.slice bo0 bn0 bc0,.string op,.int .i64 ck0,.int .i64 cv0,.string cx0,.slice co0 cn0 cc0] 151)
 have dC:=heap_alloc_new w (.cells #[.int .i64 ak0,.int .i64 av0,.string ax0,.slice ao0 an0 ac0,.string sg,.int .i64 bk0,.int .i64 bv0,.string bx0,.slice bo0 bn0 bc0,.string op,.int .i64 ck0,.int .i64 cv0,.string cx0,.slice co0 cn0 cc0] 151)
 have aT:=hide hb0
 have nQ:=hide dC
 have Rf:=hide (IA _ hb0)
 clear hb0 dC IA
 by_cases h1:sg.toList=[]
 ·have HF:=hide (show Za.mM A sg.toList B op.toList C=A by unfold Za.mM;rw[if_pos h1])
  have t1:(sg.toList == [])=true:=by rw[h1];rfl
  clear IB IC h1
  go_enter Tryz.func87,Tryz.ntmps87
  go_wp2_with fail
  refine(ae Rf).mono ?_
  rintro e w1 ⟨rfl,hb1⟩
  have mN:=(hb1.block w.heap.size (by simp)).trans (ae nQ)
  have r1:=ag mN 4
  have z1:=af mN
  simp only[List.getElem?_toArray,List.getElem?_cons_zero,List.getElem?_cons_succ]at r1
  have aZ:=hide ((ae aT).trans (hb1.mono (ae aT).size))
  clear hb1 mN
  go_wp2_with fail
  go_ret
  exact⟨by rw[ae HF];rfl,ae aZ⟩
 ·have t1:(sg.toList == [])=false:=by simpa using h1
  have jw:=hide (fK (rfl:sg.toList=sg.toList))
  have UE:=hide (IB h1)
  by_cases h2:op.toList=[]
  ·have HF:=hide (show Za.mM A sg.toList B op.toList C=A++(sg.toList++B)++[]by unfold Za.mM;rw[if_neg h1,if_pos h2])
   have t2:(op.toList == [])=true:=by rw[h2];rfl
   clear IB IC h1 h2
   go_enter Tryz.func87,Tryz.ntmps87
   go_wp2_with fail
   refine(ae Rf).mono ?_
   rintro e w1 ⟨rfl,hb1⟩
   have mN:=(hb1.block w.heap.size (by simp)).trans (ae nQ)
   have r1:=ag mN
   have z1:=af mN
   have tz:=(ae aT).trans (hb1.mono (ae aT).size)
   have aZ:=hide tz
   have LH:=hide mN
   clear hb1 mN tz
   go_wp2_with fail
   refine(ae UE _ (ae aZ)).mono ?_
   rintro e w2 ⟨rfl,hb2⟩
   have tA:=(hb2.block w.heap.size z1).trans (ae LH)
   have r2:=ag tA
   have z2:=af tA
   have aX:=hide ((ae aZ).trans (hb2.mono (ae aZ).size))
   clear hb2 tA r1 z1
   go_wp2_with fail
   go_ret
   refine⟨?_,ae aX⟩
   rw[ae HF,←Vi,←ae jw]
   rfl
  ·have HF:=hide (show Za.mM A sg.toList B op.toList C=A++(sg.toList++B)++(op.toList++C)by unfold Za.mM;rw[if_neg h1,if_neg h2])
   have t2:(op.toList == [])=false:=by simpa using h2
   have QJ:=hide (fK (rfl:op.toList=op.toList))
   have XB:=hide (IC h1 h2)
   clear IB IC h1 h2
   go_enter Tryz.func87,Tryz.ntmps87
   go_wp2_with fail
   refine(ae Rf).mono ?_
   rintro e w1 ⟨rfl,hb1⟩
   have mN:=(hb1.block w.heap.size (by simp)).trans (ae nQ)
   have r1:=ag mN
   have z1:=af mN
   have tz:=(ae aT).trans (hb1.mono (ae aT).size)
   have aZ:=hide tz
   have LH:=hide mN
   clear hb1 mN tz
   go_wp2_with fail
   refine(ae UE _ (ae aZ)).mono ?_
   rintro e w2 ⟨rfl,hb2⟩
   have tA:=(hb2.block w.heap.size z1).trans (ae LH)
   have r2:=ag tA
   have z2:=af tA
   have Rg:=(ae aZ).trans (hb2.mono (ae aZ).size)
   have aX:=hide Rg
   have VY:=hide tA
   clear hb2 tA r1 z1 Rg
   go_wp2_with fail
   refine(ae XB _ (ae aX)).mono ?_
   rintro e w3 ⟨rfl,hb3⟩
   have LI:=(hb3.block w.heap.size z2).trans (ae VY)
   have r3:=ag LI
   have z3:=af LI
   have bH:=hide ((ae aX).trans (hb3.mono (ae aX).size))
   clear hb3 LI r2 z2
   go_wp2_with fail
   go_ret
   refine⟨?_,ae bH⟩
   rw[ae HF,←Vj,←ae jw,←ae QJ]
   rfl
def gY (T:Nat→Za.U) (N:List Za.Vr) (x:Int):List Za.Vr:=if x= -1 then N else Za.aS N (T x.toNat)
def XC (T:Nat→Za.U) (nb:Nat) (N:List Nat) (mo:Option Addr) (x:Int) (w:World) (e:Ending) (w':World):Prop:=∃(a:AV) (N':List Nat) (mo':Option Addr) (mc':Nat),e= .returned (.agg #[.int .i64 a.k,.int .i64 a.val,.string a.tx,.slice a.ao a.n a.cap])∧eJ w' nb N' mo' mc'∧Za.bh N'=gY T (Za.bh N) x∧(x≠-1→RV 1000 (Za.bh N') (fun g=>w.heap.size≤g) w' a (T x.toNat))∧aj (bf nb mo) (bf nb mo') w w'
theorem Nj (w:World) (mb:Nat) (cs:Array Value) (D:List Ng) (nO:Option Addr) (nC:Nat) (fr:Nat→Nat) (T:Nat→Za.U) (nb:Nat) (N:List Nat) (mo:Option Addr) (mc:Nat) (x:Int) (hs:bt w mb 1 cs 91 D nO nC) (ok:bR D fr) (fu:Za.dw (aV D) fr T) (hn:eJ w nb N mo mc) (har:aW w D (fun g=>¬bf nb mo g)) (hx:o5 D.length x) (hsz:x≠-1→Za.size (T x.toNat)≤1000) (hN:N.length≤900000):
 Calls Tryz.prog 57 #[.pointer (some ⟨mb,1,none⟩),.int .i64 x,.pointer (some ⟨nb,0,none⟩)] w fun e w'=>XC T nb N mo x w e w':=by
 rcases hx with rfl | ⟨n,rfl,hl⟩
 ·refine(I5 w mb 1 nb cs _ D nO nC hs).mono ?_
  rintro e w' ⟨rfl,hb⟩
  exact⟨⟨0,0,⟨#[]⟩,none,0,0⟩,N,mo,mc,rfl,hn.below hb,by unfold gY;rw[if_pos rfl],fun q=>absurd rfl q,aj.of_below hb⟩
 ·have hne:((n:Int))≠-1:=by omega
  have hz:=hsz hne
  have e0:((n:Int)).toNat=n:=by simp
  rw[e0]at hz
  refine(tree_all 1000 w mb 1 cs _ D nO nC fr n (T n) nb N mo mc hs (by decide) (by decide) ok hn har hl (fu.tr n) hz (by omega)).mono ?_
  rintro e w' ⟨a,N',mo',mc',rfl,h1,h2,h3,h4⟩
  refine⟨a,N',mo',mc',rfl,h1,by unfold gY;rw[if_neg hne,e0];exact h2,fun _=> ?_,h4⟩
  rw[e0]
  exact h3
theorem qT (u:Za.U):∀N,∃K,Za.aS N u=N++K:=by
 revert u
 refine Za.U.ind (fun x N=> ?_) (fun k tx num ss ih N=> ?_)
 ·show∃K,Za.kE N x=N++K
  unfold Za.kE
  split
  ·exact⟨[],by simp⟩
  ·exact⟨[x],rfl⟩
 ·rw[Za.fI]
  induction ss generalizing N with
  | nil=>exact⟨[],by simp⟩
  | cons a ss ihs=>
   obtain⟨K1,h1⟩:=ih a (by simp) N
   obtain⟨K2,h2⟩:=ihs (fun b hb=>ih b (by simp[hb])) (Za.aS N a)
   exact⟨K1++K2,by rw[List.foldl_cons,h2,h1,List.append_assoc]⟩
theorem Em (T:Nat→Za.U) (N:List Za.Vr) (x:Int):∃K,gY T N x=N++K:=by
 unfold gY
 split
 ·exact⟨[],by simp⟩
 ·exact qT _ _
theorem iM (u:Za.U):∀N,(Za.aS N u).length≤N.length+Za.size u:=by
 revert u
 refine Za.U.ind (fun x N=> ?_) (fun k tx num ss ih N=> ?_)
 ·show (Za.kE N x).length≤_
  unfold Za.kE
  rw[Za.size]
  split
  ·omega
  ·simp
 ·rw[Za.fI,Za.size]
  have key:∀(ss:List Za.U) N,(∀a∈ss,∀N,(Za.aS N a).length≤N.length+Za.size a)→(ss.foldl Za.aS N).length≤N.length+Za.sizeL ss:=by
   intro ss
   induction ss with
   | nil=>intro N _;simp
   | cons a ss ihs=>
    intro N h
    have h1:=h a (by simp) N
    have h2:=ihs (Za.aS N a) (fun b hb=>h b (by simp[hb]))
    rw[List.foldl_cons,Za.sizeL]
    omega
  have:=key ss N ih
  omega
theorem RV.fr {f:Nat} {N:List Za.Vr} {P:Nat→Prop} {w w':World} {a:AV} {u:Za.U} (h:RV f N P w a u) {nb:Nat} {M:List Nat} {mo:Option Addr} {mc:Nat} (hn:eJ w nb M mo mc) {R':Nat→Prop} (hf:aj (bf nb mo) R' w w'):RV f N P w' a u:=h.keep fun g _ hp hg=>⟨(hf.block g (af hg) (hn.apart hg (by decide) (by decide))).trans hg,hp⟩
theorem eJ.nJ {w:World} {nb:Nat} {N:List Nat} {mo:Option Addr} {mc:Nat} (h:eJ w nb N mo mc) {b:Nat} {ys:Array Value} (hb:w.heap[b]?=some (.cells ys 76 (0,0))) (c:Nat) (v:Value):eJ (w.setCell ⟨b,c,none⟩ v) nb N mo mc:=
 ⟨(aF _ _ _ _ (fun e=>by have:=h.blk;rw[e,hb]at this;simp only[Option.some.injEq,Obj.cells.injEq]at this;exact absurd this.2.1 (by decide))).trans h.blk,ah h.own fun g q=>aF _ _ _ _ (fun e=>by
   obtain⟨cur,hc⟩:=aH h.own (aD q)
   rw[e,hb]at hc
   simp only[Option.some.injEq,Obj.cells.injEq]at hc
   exact absurd hc.2.1 (by decide))⟩
def SR (T:Nat→Za.U) (nb:Nat) (x:Int) (W:World) (N1:List Nat) (mo1:Option Addr) (lv:Value) (wx:World):Prop:=∃(a:AV) (b:Nat) (N2:List Nat) (mo2:Option Addr) (mc2:Nat),lv= .pointer (some ⟨b,0,none⟩)∧aj (bf nb mo1) (bf nb mo2) W wx∧eJ wx nb N2 mo2 mc2∧Za.bh N2=gY T (Za.bh N1) x∧(x≠-1→RV 1000 (Za.bh N2) anyA wx a (T x.toNat))∧wx.heap[b]?=some (.cells #[.int .i64 a.k,.int .i64 a.val,.string a.tx,.slice a.ao a.n a.cap] 76 (0,0))
def UF (T:Nat→Za.U) (nb:Nat) (N:List Nat) (mo:Option Addr) (g:Gl) (w:World) (e:Ending) (w':World):Prop:=∃(a b c:AV) (N':List Nat) (mo':Option Addr) (mc':Nat),e= .returned (.agg #[.int .i64 a.k,.int .i64 a.val,.string a.tx,.slice a.ao a.n a.cap,.string g.sg,.int .i64 b.k,.int .i64 b.val,.string b.tx,.slice b.ao b.n b.cap,.string g.op,.int .i64 c.k,.int .i64 c.val,.string c.tx,.slice c.ao c.n c.cap])∧eJ w' nb N' mo' mc'∧Za.bh N'=gY T (gY T (gY T (Za.bh N) (g.l:Int)) g.r) g.z∧RV 1000 (Za.bh N') anyA w' a (T g.l)∧(g.r≠-1→RV 1000 (Za.bh N') anyA w' b (T g.r.toNat))∧(g.z≠-1→RV 1000 (Za.bh N') anyA w' c (T g.z.toNat))∧aj (bf nb mo) (bf nb mo') w w'
theorem eJ.other {w w':World} {nb:Nat} {N:List Nat} {mo:Option Addr} {mc:Nat} (h:eJ w nb N mo mc) {b:Nat} {ys:Array Value} {Y:TypeId} (hb:w.heap[b]?=some (.cells ys Y (0,0))) (h1:Y≠123) (h2:Y≠3) (hk:∀k,k≠b→w'.heap[k]?=w.heap[k]?):eJ w' nb N mo mc:=by
 have key:∀k,bf nb mo k→w'.heap[k]?=w.heap[k]?:=fun k q=>hk k (fun e=>h.apart hb h1 h2 (e ▸ q))
 exact⟨(key nb (Or.inl rfl)).trans h.blk,ah h.own fun g q=>key g (Or.inr (aD q))⟩
theorem Rh {T:Nat→Za.U} {nb:Nat} {N N1 N2 N3:List Nat} {mo mo3:Option Addr} {mc3 l nc:Nat} {sg op:ByteArray} {r z:Int} {wt:Bool} {no:Option Addr} {nd:List Nat} {w W3:World} {ak1 av1 ak2 av2 ak3 av3:Int} {ax1 ax2 ax3:ByteArray} {ao1 ao2 ao3:Option Addr} {an1 ac1 an2 ac2 an3 ac3:Nat} {ys:Array Value} (hf:aj (bf nb mo) (bf nb mo3) w W3) (hn:eJ W3 nb N3 mo3 mc3) (hrx:W3.heap[w.heap.size+1]?=some (.cells ys 151 (0,0))) (hv:Za.bh N3=gY T (gY T (gY T (Za.bh N) (l:Int)) r) z) (hv2:Za.bh N2=gY T (Za.bh N1) r) (hv3:Za.bh N3=gY T (Za.bh N2) z) (h1:(l:Int)≠-1→RV 1000 (Za.bh N1) anyA W3 ⟨ak1,av1,ax1,ao1,an1,ac1⟩ (T (l:Int).toNat)) (h2:r≠-1→RV 1000 (Za.bh N2) anyA W3 ⟨ak2,av2,ax2,ao2,an2,ac2⟩ (T r.toNat)) (h3:z≠-1→RV 1000 (Za.bh N3) anyA W3 ⟨ak3,av3,ax3,ao3,an3,ac3⟩ (T z.toNat)):
 UF T nb N mo ⟨l,sg,r,op,z,wt,no,nc,nd⟩ w (.returned (.agg #[.int .i64 ak1,.int .i64 av1,.string ax1,.slice ao1 an1 ac1,.string sg,.int .i64 ak2,.int .i64 av2,.string ax2,.slice ao2 an2 ac2,.string op,.int .i64 ak3,.int .i64 av3,.string ax3,.slice ao3 an3 ac3])) (((((((((((((((W3).setCell ⟨w.heap.size+1,0,none⟩ (.int .i64 ak1)).setCell ⟨w.heap.size+1,1,none⟩ (.int .i64 av1)).setCell ⟨w.heap.size+1,2,none⟩ (.string ax1)).setCell ⟨w.heap.size+1,3,none⟩ (.slice ao1 an1 ac1)).setCell ⟨w.heap.size+1,4,none⟩ (.string sg)).setCell ⟨w.heap.size+1,5,none⟩ (.int .i64 ak2)).setCell ⟨w.heap.size+1,6,none⟩ (.int .i64 av2)).setCell ⟨w.heap.size+1,7,none⟩ (.string ax2)).setCell ⟨w.heap.size+1,8,none⟩ (.slice ao2 an2 ac2)).setCell ⟨w.heap.size+1,9,none⟩ (.string op)).setCell ⟨w.heap.size+1,10,none⟩ (.int .i64 ak3)).setCell ⟨w.heap.size+1,11,none⟩ (.int .i64 av3)).setCell ⟨w.heap.size+1,12,none⟩ (.string ax3)).setCell ⟨w.heap.size+1,13,none⟩ (.slice ao3 an3 ac3)):=by
 have hk:∀k,k≠w.heap.size+1→(((((((((((((((W3).setCell ⟨w.heap.size+1,0,none⟩ (.int .i64 ak1)).setCell ⟨w.heap.size+1,1,none⟩ (.int .i64 av1)).setCell ⟨w.heap.size+1,2,none⟩ (.string ax1)).setCell ⟨w.heap.size+1,3,none⟩ (.slice ao1 an1 ac1)).setCell ⟨w.heap.size+1,4,none⟩ (.string sg)).setCell ⟨w.heap.size+1,5,none⟩ (.int .i64 ak2)).setCell ⟨w.heap.size+1,6,none⟩ (.int .i64 av2)).setCell ⟨w.heap.size+1,7,none⟩ (.string ax2)).setCell ⟨w.heap.size+1,8,none⟩ (.slice ao2 an2 ac2)).setCell ⟨w.heap.size+1,9,none⟩ (.string op)).setCell ⟨w.heap.size+1,10,none⟩ (.int .i64 ak3)).setCell ⟨w.heap.size+1,11,none⟩ (.int .i64 av3)).setCell ⟨w.heap.size+1,12,none⟩ (.string ax3)).setCell ⟨w.heap.size+1,13,none⟩ (.slice ao3 an3 ac3)).heap[k]?=W3.heap[k]?:=fun k q=>by
  rw[aF _ _ _ _ q,aF _ _ _ _ q,aF _ _ _ _ q,aF _ _ _ _ q,aF _ _ _ _ q,aF _ _ _ _ q,aF _ _ _ _ q,aF _ _ _ _ q,aF _ _ _ _ q,aF _ _ _ _ q,aF _ _ _ _ q,aF _ _ _ _ q,aF _ _ _ _ q,aF _ _ _ _ q]
 obtain⟨K2,e2⟩:=Em T (Za.bh N1) r
 obtain⟨K3,e3⟩:=Em T (Za.bh N2) z
 have keep:∀{f:Nat} {M:List Za.Vr} {a:AV} {u:Za.U},RV f M anyA W3 a u→RV f M anyA (((((((((((((((W3).setCell ⟨w.heap.size+1,0,none⟩ (.int .i64 ak1)).setCell ⟨w.heap.size+1,1,none⟩ (.int .i64 av1)).setCell ⟨w.heap.size+1,2,none⟩ (.string ax1)).setCell ⟨w.heap.size+1,3,none⟩ (.slice ao1 an1 ac1)).setCell ⟨w.heap.size+1,4,none⟩ (.string sg)).setCell ⟨w.heap.size+1,5,none⟩ (.int .i64 ak2)).setCell ⟨w.heap.size+1,6,none⟩ (.int .i64 av2)).setCell ⟨w.heap.size+1,7,none⟩ (.string ax2)).setCell ⟨w.heap.size+1,8,none⟩ (.slice ao2 an2 ac2)).setCell ⟨w.heap.size+1,9,none⟩ (.string op)).setCell ⟨w.heap.size+1,10,none⟩ (.int .i64 ak3)).setCell ⟨w.heap.size+1,11,none⟩ (.int .i64 av3)).setCell ⟨w.heap.size+1,12,none⟩ (.string ax3)).setCell ⟨w.heap.size+1,13,none⟩ (.slice ao3 an3 ac3)) a u:=fun {f M a u} q=>q.keep fun g _ _ hg=>⟨(hk g (fun e=>by rw[e,hrx]at hg;simp only[Option.some.injEq,Obj.cells.injEq]at hg;exact absurd hg.2.1 (by decide))).trans hg,trivial⟩
 refine⟨⟨ak1,av1,ax1,ao1,an1,ac1⟩,⟨ak2,av2,ax2,ao2,an2,ac2⟩,⟨ak3,av3,ax3,ao3,an3,ac3⟩,N3,mo3,mc3,rfl,hn.other hrx (by decide) (by decide) hk,hv,?_,fun q=> ?_,fun q=>keep (h3 q),((((((((((((((hf).dW (Nat.le_succ _) 0 _).dW (Nat.le_succ _) 1 _).dW (Nat.le_succ _) 2 _).dW (Nat.le_succ _) 3 _).dW (Nat.le_succ _) 4 _).dW (Nat.le_succ _) 5 _).dW (Nat.le_succ _) 6 _).dW (Nat.le_succ _) 7 _).dW (Nat.le_succ _) 8 _).dW (Nat.le_succ _) 9 _).dW (Nat.le_succ _) 10 _).dW (Nat.le_succ _) 11 _).dW (Nat.le_succ _) 12 _).dW (Nat.le_succ _) 13 _⟩
 ·have:=keep (h1 (by omega))
  have e0:((l:Int)).toNat=l:=by simp
  rw[e0]at this
  have t:=(this.more K2).more K3
  rwa [←e2,←hv2,←e3,←hv3]at t
 ·have t:=(keep (h2 q)).more K3
  rwa [←e3,←hv3]at t
theorem Ji (w:World) (mb:Nat) (cs:Array Value) (D:List Ng) (nO:Option Addr) (nC:Nat) (fr:Nat→Nat) (T:Nat→Za.U) (nb:Nat) (N:List Nat) (mo:Option Addr) (mc:Nat) (g:Gl) (hs:bt w mb 1 cs 91 D nO nC) (ok:bR D fr) (fu:Za.dw (aV D) fr T) (hn:eJ w nb N mo mc) (har:aW w D (fun g=>¬bf nb mo g)) (hl:g.l<D.length) (hr:o5 D.length g.r) (hz:o5 D.length g.z) (hsz:∀x:Int,x=(g.l:Int)∨x=g.r∨x=g.z→x≠-1→Za.size (T x.toNat)≤1000) (hN:N.length≤800000):
 Calls Tryz.prog 86 #[.pointer (some ⟨mb,0,none⟩),.agg #[.int .i64 (g.l:Int),.string g.sg,.int .i64 g.r,.string g.op,.int .i64 g.z,.bool g.wt,.slice g.no g.nd.length g.nc],.pointer (some ⟨nb,0,none⟩)] w fun e w'=>UF T nb N mo g w e w':=by
 obtain⟨l,sg,r,op,z,wt,no,nc,nd⟩:=g
 dsimp only at*
 have IT:=hide (fun(x:Int) (N1:List Nat) (mo1:Option Addr) (mc1:Nat) (W:World) (hf:aj (bf nb mo) (bf nb mo1) w W) (nj:eJ W nb N1 mo1 mc1) (hx:o5 D.length x) (hq:x≠-1→Za.size (T x.toNat)≤1000) (jr:N1.length≤900000)=>Nj W mb cs D nO nC fr T nb N1 mo1 mc1 x (hs.Hq hn (by decide) (by decide) hf) ok fu nj (har.Hq hf) hx hq jr)
 have wT:=hide (show o5 D.length (l:Int)from Or.inr ⟨l,rfl,hl⟩)
 have XD:=hide hr
 have XE:=hide hz
 have jJ:=hide hsz
 have mz:=af hs.blk
 have hb0:=((Below.refl w.heap.size w).alloc (Nat.le_refl _) (.cells #[.int .i64 (l:Int),.string sg,.int .i64 r,.string op,.int .i64 z,.bool wt,.slice no nd.length nc] 158)).alloc (by simp) (.cells #[.int .i64 0,.int .i64 0,.string ⟨#[]⟩,.slice none 0 0,.string ⟨#[]⟩,.int .i64 0,.int .i64 0,.string ⟨#[]⟩,.slice none 0 0,.string ⟨#[]⟩,.int .i64 0,.int .i64 0,.string ⟨#[]⟩,.slice none 0 0] 151)
 have hgx:=aw (heap_alloc_new w (.cells #[.int .i64 (l:Int),.string sg,.int .i64 r,.string op,.int .i64 z,.bool wt,.slice no nd.length nc] 158)) (.cells #[.int .i64 0,.int .i64 0,.string ⟨#[]⟩,.slice none 0 0,.string ⟨#[]⟩,.int .i64 0,.int .i64 0,.string ⟨#[]⟩,.slice none 0 0,.string ⟨#[]⟩,.int .i64 0,.int .i64 0,.string ⟨#[]⟩,.slice none 0 0] 151)
 have hrx:=heap_alloc_new (w.alloc (.cells #[.int .i64 (l:Int),.string sg,.int .i64 r,.string op,.int .i64 z,.bool wt,.slice no nd.length nc] 158)) (.cells #[.int .i64 0,.int .i64 0,.string ⟨#[]⟩,.slice none 0 0,.string ⟨#[]⟩,.int .i64 0,.int .i64 0,.string ⟨#[]⟩,.slice none 0 0,.string ⟨#[]⟩,.int .i64 0,.int .i64 0,.string ⟨#[]⟩,.slice none 0 0] 151)
 rw[World.size_alloc]at hrx
 have Yz:=hide hn
 have HLEN:=hide (show∀(N1:List Nat) (x:Int) (N2:List Nat),Za.bh N2=gY T (Za.bh N1) x→(x≠-1→Za.size (T x.toNat)≤1000)→N2.length≤N1.length+1000 from fun N1 x N2 he hq=>by
  have e1:(Za.bh N2).length=N2.length:=by unfold Za.bh;simp
  have e2:(Za.bh N1).length=N1.length:=by unfold Za.bh;simp
  rw[←e1,he,←e2]
  unfold gY
  split
  ·omega
  ·rename_i hne
   exact Nat.le_trans (iM _ _) (by have:=hq hne;omega))
 have Ri:aj (bf nb mo) (bf nb mo) w ((w.alloc (.cells #[.int .i64 (l:Int),.string sg,.int .i64 r,.string op,.int .i64 z,.bool wt,.slice no nd.length nc] 158)).alloc (.cells #[.int .i64 0,.int .i64 0,.string ⟨#[]⟩,.slice none 0 0,.string ⟨#[]⟩,.int .i64 0,.int .i64 0,.string ⟨#[]⟩,.slice none 0 0,.string ⟨#[]⟩,.int .i64 0,.int .i64 0,.string ⟨#[]⟩,.slice none 0 0] 151)):=aj.of_below hb0
 have Rj:=hn.below hb0
 have hz0:w.heap.size+2≤((w.alloc (.cells #[.int .i64 (l:Int),.string sg,.int .i64 r,.string op,.int .i64 z,.bool wt,.slice no nd.length nc] 158)).alloc (.cells #[.int .i64 0,.int .i64 0,.string ⟨#[]⟩,.slice none 0 0,.string ⟨#[]⟩,.int .i64 0,.int .i64 0,.string ⟨#[]⟩,.slice none 0 0,.string ⟨#[]⟩,.int .i64 0,.int .i64 0,.string ⟨#[]⟩,.slice none 0 0] 151)).heap.size:=by simp
 go_enter Tryz.func86,Tryz.ntmps86
 go_upto_region 1 with fail
 generalize hW0:((w.alloc (.cells #[.int .i64 (l:Int),.string sg,.int .i64 r,.string op,.int .i64 z,.bool wt,.slice no nd.length nc] 158)).alloc (.cells #[.int .i64 0,.int .i64 0,.string ⟨#[]⟩,.slice none 0 0,.string ⟨#[]⟩,.int .i64 0,.int .i64 0,.string ⟨#[]⟩,.slice none 0 0,.string ⟨#[]⟩,.int .i64 0,.int .i64 0,.string ⟨#[]⟩,.slice none 0 0] 151))=W0 at*
 have x0:=ag hgx 0
 have gz:=af hgx
 simp only[List.getElem?_toArray,List.getElem?_cons_zero]at x0
 have ny:=hide hgx
 have lY:=hide hrx
 have LJ:=hide Ri
 have Cu:=hide Rj
 clear hs ok fu hn har hl hr hz hsz hb0 hgx hrx Ri Rj hW0
 go_cut [7] (fun lv wx=>SR T nb (l:Int) W0 N mo lv wx)
 case first=>
  go_region_with (go_at_call 57;refine(ae IT (l:Int) N mo mc _ ((ae LJ).trans (aj.of_below (by first | exact Below.refl _ _ | exact(Below.refl _ _).drew | exact((Below.refl _ _).alloc (Nat.le_refl _) _).drew | exact(Below.refl _ _).alloc (Nat.le_refl _) _))) ((ae Cu).below (by first | exact Below.refl _ _ | exact(Below.refl _ _).drew | exact((Below.refl _ _).alloc (Nat.le_refl _) _).drew | exact(Below.refl _ _).alloc (Nat.le_refl _) _)) (ae wT) (ae jJ _ (Or.inl rfl)) (by have:=hN;omega)).mono ?_;rintro y w1 ⟨⟨ak,av,ax,ao,an,ac⟩,Nn,mon,mcn,rfl,nm,hv,rv,fg⟩;first | (have ab:=(fg.block W0.heap.size (by simp) (fun q=>by have:=(ae Cu).rows _ q;omega)).trans (heap_alloc_new W0 (.cells #[.int .i64 0,.int .i64 0,.string ⟨#[]⟩,.slice none 0 0] 76));have ab0:=ag ab 0;have ab1:=ag ab 1;have ab2:=ag ab 2;have ab3:=ag ab 3;have ay0:=aq ab 0;have ay1:=aq ab 1;have ay2:=aq ab 2;have ay3:=aq ab 3;have abz:=af ab;simp only[List.getElem?_toArray,List.getElem?_cons_zero,List.getElem?_cons_succ]at ab0 ab1 ab2 ab3) | skip)
  all_goals
   first
    | (have hab:=au (au (au (au ab 0 (.int .i64 ak)) 1 (.int .i64 av)) 2 (.string ax)) 3 (.slice ao an ac)
       have fgn:=((((((aj.of_below (R:=bf nb mo) (by first | exact Below.refl _ _ | exact(Below.refl _ _).drew | exact((Below.refl _ _).alloc (Nat.le_refl _) _).drew | exact(Below.refl _ _).alloc (Nat.le_refl _) _)).trans fg).dW (Nat.le_refl _) 0 (.int .i64 ak)).dW (Nat.le_refl _) 1 (.int .i64 av)).dW (Nat.le_refl _) 2 (.string ax)).dW (Nat.le_refl _) 3 (.slice ao an ac):aj (bf nb mo) (bf nb mon) W0 _)
       have nmn:=((((nm.nJ ab 0 (.int .i64 ak)).nJ (au ab 0 (.int .i64 ak)) 1 (.int .i64 av)).nJ (au (au ab 0 (.int .i64 ak)) 1 (.int .i64 av)) 2 (.string ax)).nJ (au (au (au ab 0 (.int .i64 ak)) 1 (.int .i64 av)) 2 (.string ax)) 3 (.slice ao an ac))
       have rvn:=(fun q=>(rv q).keep (Q:=anyA) (w':=((((w1.setCell ⟨W0.heap.size,0,none⟩ (.int .i64 ak)).setCell ⟨W0.heap.size,1,none⟩ (.int .i64 av)).setCell ⟨W0.heap.size,2,none⟩ (.string ax)).setCell ⟨W0.heap.size,3,none⟩ (.slice ao an ac))) fun g _ hp hg=>⟨by have hne:g≠W0.heap.size:=(by have:W0.heap.size+1≤g:=(by simpa using hp);omega);rw[aF _ _ _ _ hne,aF _ _ _ _ hne,aF _ _ _ _ hne,aF _ _ _ _ hne];exact hg,trivial⟩))
    | (have hab:=heap_alloc_new w1 (.cells #[.int .i64 ak,.int .i64 av,.string ax,.slice ao an ac] 76)
       have fgn:=(((aj.of_below (R:=bf nb mo) (by first | exact Below.refl _ _ | exact(Below.refl _ _).drew | exact((Below.refl _ _).alloc (Nat.le_refl _) _).drew | exact(Below.refl _ _).alloc (Nat.le_refl _) _)).trans fg).trans (aj.of_below ((Below.refl _ _).alloc (Nat.le_refl _) (.cells #[.int .i64 ak,.int .i64 av,.string ax,.slice ao an ac] 76))):aj (bf nb mo) (bf nb mon) W0 _)
       have nmn:=nm.below ((Below.refl _ _).alloc (Nat.le_refl _) (.cells #[.int .i64 ak,.int .i64 av,.string ax,.slice ao an ac] 76))
       have rvn:=(fun q=>(rv q).keep (Q:=anyA) (w':=w1.alloc (.cells #[.int .i64 ak,.int .i64 av,.string ax,.slice ao an ac] 76)) fun g _ _ hg=>⟨(Below.heap_alloc _ _ _ (af hg)).trans hg,trivial⟩))
   try simp only[List.setIfInBounds_toArray,List.set_cons_zero,List.set_cons_succ]at hab
   go_wp2_with fail
   go_meet
   exact⟨⟨ak,av,ax,ao,an,ac⟩,_,Nn,mon,mcn,rfl,fgn,nmn,hv,rvn,hab⟩
 case rest=>
  obtain⟨⟨ak1,av1,ax1,ao1,an1,ac1⟩,b1,N1,mo1,mc1,rfl,fgn,nmn,hv,rvn,hab⟩:=hcut
  generalize hWc:wc=W1 at*
  clear hWc
  have hgx:=(fgn.block _ (af (ae ny)) ((ae Cu).apart (ae ny) (by decide) (by decide))).trans (ae ny)
  have hrx:=(fgn.block _ (af (ae lY)) ((ae Cu).apart (ae lY) (by decide) (by decide))).trans (ae lY)
  have HFGn:=hide ((ae LJ).trans fgn)
  have Rk:=hide (show N1.length≤800000+1000 by have:=ae HLEN N (l:Int) N1 hv (ae jJ _ (Or.inl rfl));have:=hN;omega)
  have XF:=hide hv
  clear ny lY LJ Cu
  have ny:=hide hgx
  have lY:=hide hrx
  have LM:=HFGn
  have vT:=hide nmn
  have nK:=hide hab
  have vU:=hide rvn
  have x1:=ag hgx 2
  have gz1:=af hgx
  simp only[List.getElem?_toArray,List.getElem?_cons_zero,List.getElem?_cons_succ]at x1
  clear hab fgn nmn rvn hgx hrx hv x0 HFGn
  go_upto_region 2 with fail
  go_cut [8] (fun lv wx=>SR T nb r W1 N1 mo1 lv wx)
  case first=>
   go_region_with (go_at_call 57;refine(ae IT r N1 mo1 mc1 _ ((ae LM).trans (aj.of_below (by first | exact Below.refl _ _ | exact(Below.refl _ _).drew | exact((Below.refl _ _).alloc (Nat.le_refl _) _).drew | exact(Below.refl _ _).alloc (Nat.le_refl _) _))) ((ae vT).below (by first | exact Below.refl _ _ | exact(Below.refl _ _).drew | exact((Below.refl _ _).alloc (Nat.le_refl _) _).drew | exact(Below.refl _ _).alloc (Nat.le_refl _) _)) (ae XD) (ae jJ _ (Or.inr (Or.inl rfl))) (by have:=(ae Rk);omega)).mono ?_;rintro y w1 ⟨⟨ak,av,ax,ao,an,ac⟩,Nn,mon,mcn,rfl,nm,hv,rv,fg⟩;first | (have ab:=(fg.block W1.heap.size (by simp) (fun q=>by have:=(ae vT).rows _ q;omega)).trans (heap_alloc_new W1 (.cells #[.int .i64 0,.int .i64 0,.string ⟨#[]⟩,.slice none 0 0] 76));have ab0:=ag ab 0;have ab1:=ag ab 1;have ab2:=ag ab 2;have ab3:=ag ab 3;have ay0:=aq ab 0;have ay1:=aq ab 1;have ay2:=aq ab 2;have ay3:=aq ab 3;have abz:=af ab;simp only[List.getElem?_toArray,List.getElem?_cons_zero,List.getElem?_cons_succ]at ab0 ab1 ab2 ab3) | skip)
   all_goals
    first
     | (have hab:=au (au (au (au ab 0 (.int .i64 ak)) 1 (.int .i64 av)) 2 (.string ax)) 3 (.slice ao an ac)
        have fgn:=((((((aj.of_below (R:=bf nb mo1) (by first | exact Below.refl _ _ | exact(Below.refl _ _).drew | exact((Below.refl _ _).alloc (Nat.le_refl _) _).drew | exact(Below.refl _ _).alloc (Nat.le_refl _) _)).trans fg).dW (Nat.le_refl _) 0 (.int .i64 ak)).dW (Nat.le_refl _) 1 (.int .i64 av)).dW (Nat.le_refl _) 2 (.string ax)).dW (Nat.le_refl _) 3 (.slice ao an ac):aj (bf nb mo1) (bf nb mon) W1 _)
        have nmn:=((((nm.nJ ab 0 (.int .i64 ak)).nJ (au ab 0 (.int .i64 ak)) 1 (.int .i64 av)).nJ (au (au ab 0 (.int .i64 ak)) 1 (.int .i64 av)) 2 (.string ax)).nJ (au (au (au ab 0 (.int .i64 ak)) 1 (.int .i64 av)) 2 (.string ax)) 3 (.slice ao an ac))
        have rvn:=(fun q=>(rv q).keep (Q:=anyA) (w':=((((w1.setCell ⟨W1.heap.size,0,none⟩ (.int .i64 ak)).setCell ⟨W1.heap.size,1,none⟩ (.int .i64 av)).setCell ⟨W1.heap.size,2,none⟩ (.string ax)).setCell ⟨W1.heap.size,3,none⟩ (.slice ao an ac))) fun g _ hp hg=>⟨by have hne:g≠W1.heap.size:=(by have:W1.heap.size+1≤g:=(by simpa using hp);omega);rw[aF _ _ _ _ hne,aF _ _ _ _ hne,aF _ _ _ _ hne,aF _ _ _ _ hne];exact hg,trivial⟩))
     | (have hab:=heap_alloc_new w1 (.cells #[.int .i64 ak,.int .i64 av,.string ax,.slice ao an ac] 76)
        have fgn:=(((aj.of_below (R:=bf nb mo1) (by first | exact Below.refl _ _ | exact(Below.refl _ _).drew | exact((Below.refl _ _).alloc (Nat.le_refl _) _).drew | exact(Below.refl _ _).alloc (Nat.le_refl _) _)).trans fg).trans (aj.of_below ((Below.refl _ _).alloc (Nat.le_refl _) (.cells #[.int .i64 ak,.int .i64 av,.string ax,.slice ao an ac] 76))):aj (bf nb mo1) (bf nb mon) W1 _)
        have nmn:=nm.below ((Below.refl _ _).alloc (Nat.le_refl _) (.cells #[.int .i64 ak,.int .i64 av,.string ax,.slice ao an ac] 76))
        have rvn:=(fun q=>(rv q).keep (Q:=anyA) (w':=w1.alloc (.cells #[.int .i64 ak,.int .i64 av,.string ax,.slice ao an ac] 76)) fun g _ _ hg=>⟨(Below.heap_alloc _ _ _ (af hg)).trans hg,trivial⟩))
    try simp only[List.setIfInBounds_toArray,List.set_cons_zero,List.set_cons_succ]at hab
    go_wp2_with fail
    go_meet
    exact⟨⟨ak,av,ax,ao,an,ac⟩,_,Nn,mon,mcn,rfl,fgn,nmn,hv,rvn,hab⟩
  case rest=>
   obtain⟨⟨ak2,av2,ax2,ao2,an2,ac2⟩,b2,N2,mo2,mc2,rfl,fgn,nmn,hv,rvn,hab⟩:=hcut
   generalize hWc:wc=W2 at*
   clear hWc
   have hgx:=(fgn.block _ (af (ae ny)) ((ae vT).apart (ae ny) (by decide) (by decide))).trans (ae ny)
   have hrx:=(fgn.block _ (af (ae lY)) ((ae vT).apart (ae lY) (by decide) (by decide))).trans (ae lY)
   have Cv:=(fgn.block _ (af (ae nK)) ((ae vT).apart (ae nK) (by decide) (by decide))).trans (ae nK)
   have rv1:=(fun q=>((ae vU) q).fr (ae vT) fgn)
   clear nK vU
   have nK:=hide Cv
   have vU:=hide rv1
   clear Cv rv1
   have HFGn:=hide ((ae LM).trans fgn)
   have Rl:=hide (show N2.length≤800000+2000 by have:=ae HLEN N1 r N2 hv (ae jJ _ (Or.inr (Or.inl rfl)));have:=(ae Rk);omega)
   have zg:=hide hv
   clear ny lY LM vT
   have ny:=hide hgx
   have lY:=hide hrx
   have LO:=HFGn
   have rf:=hide nmn
   have vV:=hide hab
   have FY:=hide rvn
   have x2:=ag hgx 4
   have gz2:=af hgx
   simp only[List.getElem?_toArray,List.getElem?_cons_zero,List.getElem?_cons_succ]at x2
   clear hab fgn nmn rvn hgx hrx hv x1 HFGn
   go_upto_region 3 with fail
   go_cut [9] (fun lv wx=>SR T nb z W2 N2 mo2 lv wx)
   case first=>
    go_region_with (go_at_call 57;refine(ae IT z N2 mo2 mc2 _ ((ae LO).trans (aj.of_below (by first | exact Below.refl _ _ | exact(Below.refl _ _).drew | exact((Below.refl _ _).alloc (Nat.le_refl _) _).drew | exact(Below.refl _ _).alloc (Nat.le_refl _) _))) ((ae rf).below (by first | exact Below.refl _ _ | exact(Below.refl _ _).drew | exact((Below.refl _ _).alloc (Nat.le_refl _) _).drew | exact(Below.refl _ _).alloc (Nat.le_refl _) _)) (ae XE) (ae jJ _ (Or.inr (Or.inr rfl))) (by have:=(ae Rl);omega)).mono ?_;rintro y w1 ⟨⟨ak,av,ax,ao,an,ac⟩,Nn,mon,mcn,rfl,nm,hv,rv,fg⟩;first | (have ab:=(fg.block W2.heap.size (by simp) (fun q=>by have:=(ae rf).rows _ q;omega)).trans (heap_alloc_new W2 (.cells #[.int .i64 0,.int .i64 0,.string ⟨#[]⟩,.slice none 0 0] 76));have ab0:=ag ab 0;have ab1:=ag ab 1;have ab2:=ag ab 2;have ab3:=ag ab 3;have ay0:=aq ab 0;have ay1:=aq ab 1;have ay2:=aq ab 2;have ay3:=aq ab 3;have abz:=af ab;simp only[List.getElem?_toArray,List.getElem?_cons_zero,List.getElem?_cons_succ]at ab0 ab1 ab2 ab3) | skip)
    all_goals
     first
      | (have hab:=au (au (au (au ab 0 (.int .i64 ak)) 1 (.int .i64 av)) 2 (.string ax)) 3 (.slice ao an ac)
         have fgn:=((((((aj.of_below (R:=bf nb mo2) (by first | exact Below.refl _ _ | exact(Below.refl _ _).drew | exact((Below.refl _ _).alloc (Nat.le_refl _) _).drew | exact(Below.refl _ _).alloc (Nat.le_refl _) _)).trans fg).dW (Nat.le_refl _) 0 (.int .i64 ak)).dW (Nat.le_refl _) 1 (.int .i64 av)).dW (Nat.le_refl _) 2 (.string ax)).dW (Nat.le_refl _) 3 (.slice ao an ac):aj (bf nb mo2) (bf nb mon) W2 _)
         have nmn:=((((nm.nJ ab 0 (.int .i64 ak)).nJ (au ab 0 (.int .i64 ak)) 1 (.int .i64 av)).nJ (au (au ab 0 (.int .i64 ak)) 1 (.int .i64 av)) 2 (.string ax)).nJ (au (au (au ab 0 (.int .i64 ak)) 1 (.int .i64 av)) 2 (.string ax)) 3 (.slice ao an ac))
         have rvn:=(fun q=>(rv q).keep (Q:=anyA) (w':=((((w1.setCell ⟨W2.heap.size,0,none⟩ (.int .i64 ak)).setCell ⟨W2.heap.size,1,none⟩ (.int .i64 av)).setCell ⟨W2.heap.size,2,none⟩ (.string ax)).setCell ⟨W2.heap.size,3,none⟩ (.slice ao an ac))) fun g _ hp hg=>⟨by have hne:g≠W2.heap.size:=(by have:W2.heap.size+1≤g:=(by simpa using hp);omega);rw[aF _ _ _ _ hne,aF _ _ _ _ hne,aF _ _ _ _ hne,aF _ _ _ _ hne];exact hg,trivial⟩))
      | (have hab:=heap_alloc_new w1 (.cells #[.int .i64 ak,.int .i64 av,.string ax,.slice ao an ac] 76)
         have fgn:=(((aj.of_below (R:=bf nb mo2) (by first | exact Below.refl _ _ | exact(Below.refl _ _).drew | exact((Below.refl _ _).alloc (Nat.le_refl _) _).drew | exact(Below.refl _ _).alloc (Nat.le_refl _) _)).trans fg).trans (aj.of_below ((Below.refl _ _).alloc (Nat.le_refl _) (.cells #[.int .i64 ak,.int .i64 av,.string ax,.slice ao an ac] 76))):aj (bf nb mo2) (bf nb mon) W2 _)
         have nmn:=nm.below ((Below.refl _ _).alloc (Nat.le_refl _) (.cells #[.int .i64 ak,.int .i64 av,.string ax,.slice ao an ac] 76))
         have rvn:=(fun q=>(rv q).keep (Q:=anyA) (w':=w1.alloc (.cells #[.int .i64 ak,.int .i64 av,.string ax,.slice ao an ac] 76)) fun g _ _ hg=>⟨(Below.heap_alloc _ _ _ (af hg)).trans hg,trivial⟩))
     try simp only[List.setIfInBounds_toArray,List.set_cons_zero,List.set_cons_succ]at hab
     go_wp2_with fail
     go_meet
     exact⟨⟨ak,av,ax,ao,an,ac⟩,_,Nn,mon,mcn,rfl,fgn,nmn,hv,rvn,hab⟩
   case rest=>
    obtain⟨⟨ak3,av3,ax3,ao3,an3,ac3⟩,b3,N3,mo3,mc3,rfl,fgn,nmn,hv,rvn,hab⟩:=hcut
    generalize hWc:wc=W3 at*
    clear hWc
    have hgx:=(fgn.block _ (af (ae ny)) ((ae rf).apart (ae ny) (by decide) (by decide))).trans (ae ny)
    have hrx:=(fgn.block _ (af (ae lY)) ((ae rf).apart (ae lY) (by decide) (by decide))).trans (ae lY)
    have Cv:=(fgn.block _ (af (ae nK)) ((ae rf).apart (ae nK) (by decide) (by decide))).trans (ae nK)
    have rv1:=(fun q=>((ae vU) q).fr (ae rf) fgn)
    clear nK vU
    have nK:=hide Cv
    have vU:=hide rv1
    clear Cv rv1
    have Rm:=(fgn.block _ (af (ae vV)) ((ae rf).apart (ae vV) (by decide) (by decide))).trans (ae vV)
    have rv2:=(fun q=>((ae FY) q).fr (ae rf) fgn)
    clear vV FY
    have vV:=hide Rm
    have FY:=hide rv2
    clear Rm rv2
    have HFGn:=hide ((ae LO).trans fgn)
    have Yl:=hide (show N3.length≤800000+3000 by have:=ae HLEN N2 z N3 hv (ae jJ _ (Or.inr (Or.inr rfl)));have:=(ae Rl);omega)
    have UG:=hide hv
    clear ny lY LO rf
    have ny:=hide hgx
    have lY:=hide hrx
    have VZ:=HFGn
    have V2:=hide nmn
    have Rn:=hide hab
    have V3:=hide rvn
    have x3:=ag hgx 1
    have gz3:=af hgx
    simp only[List.getElem?_toArray,List.getElem?_cons_zero,List.getElem?_cons_succ]at x3
    clear hab fgn nmn rvn hgx hrx hv x2 HFGn
    have y0:=ag (ae ny) 1
    have y1:=ag (ae ny) 3
    have ra:=ag (ae nK)
    have rb:=ag (ae vV)
    have rc:=ag (ae Rn)
    have rx:=ag (ae lY)
    have rxf:=aq (ae lY)
    have za:=af (ae nK)
    have zb:=af (ae vV)
    have zc:=af (ae Rn)
    have zx:=af (ae lY)
    have a0:=ra 0
    have a1:=ra 1
    have a2:=ra 2
    have a3:=ra 3
    have c0:=rb 0
    have c1:=rb 1
    have c2:=rb 2
    have c3:=rb 3
    have d0:=rc 0
    have d1:=rc 1
    have d2:=rc 2
    have d3:=rc 3
    simp only[List.getElem?_toArray,List.getElem?_cons_zero,List.getElem?_cons_succ]at y0 y1 a0 a1 a2 a3 c0 c1 c2 c3 d0 d1 d2 d3
    clear ra rb rc
    go_wp2_with fail
    refine bodyPost_ret (v:= .agg #[.int .i64 ak1,.int .i64 av1,.string ax1,.slice ao1 an1 ac1,.string sg,.int .i64 ak2,.int .i64 av2,.string ax2,.slice ao2 an2 ac2,.string op,.int .i64 ak3,.int .i64 av3,.string ax3,.slice ao3 an3 ac3]) (by simp[results,Tryz.results86,go_sem,rx]) rfl ?_
    exact Rh (ae VZ) (ae V2) (ae lY) (by rw[ae UG,ae zg,ae XF]) (ae zg) (ae UG) (ae vU) (ae FY) (ae V3)
theorem infoBl:(Tryz.prog.info? 4).map (fun i=>(i.zero,i.size,i.bytes))=some (some (.bool false),1,1):=by kernel_rfl
theorem FZ (w:World) (mb:Nat) (L:List Int) (lo:Option Addr) (lc:Nat) (en:Int) (h:kD w mb L lo lc en) (he:en=4∨en=5∨en=6):
 Calls Tryz.prog 47 #[.pointer (some ⟨mb,0,none⟩)] w fun e w'=>e= .returned (.agg #[.int .i64 en,.slice lo L.length lc,.slice none 0 0,.slice none 0 0,.slice none 0 0])∧Below w.heap.size w w':=by
 obtain⟨cs,hb,h6,h4,h5,ho⟩:=h
 have f4:=(ag hb 4).trans h4
 have f5:=(ag hb 5).trans h5
 have mz:=af hb
 clear hb h6 h4 h5 ho
 rcases he with rfl | rfl | rfl
 all_goals
  go_enter Tryz.func47,Tryz.ntmps47
  go_wp2_with fail
  go_region
  all_goals
   go_wp2_with fail
   refine bodyPost_ret (v:= .agg #[.int .i64 _,.slice lo L.length lc,.slice none 0 0,.slice none 0 0,.slice none 0 0]) (by simp[results,Tryz.results47,go_sem];rfl) rfl ?_
   exact⟨rfl,(((Below.refl _ _).alloc (Nat.le_refl _) _).alloc (by simp) _).drew⟩
def ur (T:Nat→Za.U) (a:List (List UInt8)×List Za.Vr) (v:Nat):List (List UInt8)×List Za.Vr:=(a.1++[Za.bM Lib.itoa (Za.aS a.2 (T v)) (T v)],Za.aS a.2 (T v))
def dX (T:Nat→Za.U) (V:List Nat):List (List UInt8)×List Za.Vr:=V.foldl (ur T) ([],[])
theorem zO (T:Nat→Za.U) (V:List Nat) (v:Nat):dX T (V++[v])=ur T (dX T V) v:=by unfold dX;rw[List.foldl_append];rfl
theorem Cw (T:Nat→Za.U) (V:List Nat):(dX T V).1.length=V.length:=by
 have key:∀(V:List Nat) (a:List (List UInt8)×List Za.Vr),(V.foldl (ur T) a).1.length=a.1.length+V.length:=by
  intro V
  induction V with
  | nil=>intro a;simp
  | cons v V ih=>intro a;rw[List.foldl_cons,ih];simp[ur];omega
 have:=key V ([],[])
 simpa [dX] using this
def Jj (T:Nat→Za.U) (N:List Za.Vr) (g:Gl):List Za.Vr:=gY T (gY T (gY T N (g.l:Int)) g.r) g.z
def En (T:Nat→Za.U) (N:List Za.Vr) (g:Gl):List UInt8:=Za.mM (Za.bM Lib.itoa N (T g.l)) g.sg.toList (Za.bM Lib.itoa N (T g.r.toNat)) g.op.toList (Za.bM Lib.itoa N (T g.z.toNat))
def stepG (T:Nat→Za.U) (a:List (List UInt8)×List Za.Vr) (g:Gl):List (List UInt8)×List Za.Vr:=(a.1++[En T (Jj T a.2 g) g],Jj T a.2 g)
def jW (T:Nat→Za.U) (N:List Za.Vr) (G:List Gl):List (List UInt8)×List Za.Vr:=G.foldl (stepG T) ([],N)
theorem zP (T:Nat→Za.U) (N:List Za.Vr) (G:List Gl) (g:Gl):jW T N (G++[g])=stepG T (jW T N G) g:=by unfold jW;rw[List.foldl_append];rfl
theorem Cx (T:Nat→Za.U) (N:List Za.Vr) (G:List Gl):(jW T N G).1.length=G.length:=by
 have key:∀(G:List Gl) (a:List (List UInt8)×List Za.Vr),(G.foldl (stepG T) a).1.length=a.1.length+G.length:=by
  intro G
  induction G with
  | nil=>intro a;simp
  | cons v V ih=>intro a;rw[List.foldl_cons,ih];simp[stepG];omega
 have:=key G ([],N)
 simpa [jW] using this
def gW (s:List UInt8):Value:= .string ⟨s.toArray⟩
theorem OH {D:List Ng} {fr:Nat→Nat} {T:Nat→Za.U} (ok:bR D fr) (hS:Za.dw (aV D) fr T) (hv:∀d∈D,-1000000000≤d.val∧d.val≤1000000000) (ht:∀d∈D,d.tx.size≤240):∀n,n<D.length→Za.oM (T n):=by
 have key:∀{n u},Za.Tr (aV D) fr n u→n<D.length→Za.oM u:=by
  intro n u h
  induction h with
  | @var n _ _=>intro _ k tx num ss hm;simp[Za.subs]at hm
  | @node n k tx num us hg hl _ ih=>
   intro hn
   have hf:=ok.lt hn
   have hd:=ok.nd (fr n) hf
   have hmem:D[fr n]∈D:=List.getElem_mem hf
   rw[lH hf]at hg
   rw[jC hf]at hl ih
   refine Za.oM.mk ?_ fun a ha=> ?_
   ·have h1:=hv _ hmem
    have h2:=ht _ hmem
    have h3:D[fr n].args.length≤3:=by
     rcases hd.ks with q | q | q
     ·rw[(hd.v q).2.2.2];simp
     ·rw[(hd.m q).2.2];simp
     ·exact(hd.c q).2.2
    unfold eQ at hg
    split at hg
    ·cases hg
    ·split at hg
     ·injection hg with hg
      injection hg with e1 hg
      injection hg with e2 e3
      subst e2 e3
      exact⟨by simp,h1.1,h1.2,by omega⟩
     ·injection hg with hg
      injection hg with e1 hg
      injection hg with e2 e3
      subst e2 e3
      exact⟨by rw[Za.ng];exact h2,by omega,by omega,by omega⟩
   ·obtain⟨i,hi,rfl⟩:=List.getElem_of_mem ha
    exact ih i _ us[i] (List.getElem?_eq_getElem (by omega)) (List.getElem?_eq_getElem hi) (hd.inn _ (List.getElem_mem _))
 exact fun n hn=>key (hS.tr n) hn
structure VS (w:World) (T:Nat→Za.U) (V:List Nat) (en:Int) (lo:Option Addr) (ln lc:Nat) (N:List Nat) (mo:Option Addr) (mc:Nat) (xo:Option Addr) (xc:Nat) (wr:World):Prop where
 nm:eJ wr (w.heap.size+2) N mo mc
 vr:Za.bh N=(dX T V).2
 nl:N.length≤V.length*1000
 rw_:∀k,rowOf mo k→w.heap.size+3≤k
 ow:wr.ownsRow (w.heap.size+3) 9 1 (.slice xo V.length xc) V.length ((dX T V).1.map gW)
 rb:wr.heap[w.heap.size+1]?=some (.cells #[.int .i64 en,.slice lo ln lc,.slice xo V.length xc,.slice none 0 0,.slice none 0 0] 32 (0,0))
 zb:wr.heap[w.heap.size]?=some (.cells #[.int .i64 0,.slice none 0 0,.slice none 0 0,.slice none 0 0,.slice none 0 0] 32 (0,0))
 be:Below w.heap.size w wr
theorem pj {w4 w7:World} {n cell b rb:Nat} {xo:Option Addr} {xc:Nat} {Y:TypeId} {X:Obj} {xs:List Value} {C:Array Value} (ho:w4.ownsRow b Y 1 (.slice xo n xc) n xs) (hgr:(w4.alloc X).grownBy w7 (Value.slice xo n xc).ownBlock) (mg:w4.heap[rb]?=some (.cells C 32 (0,0))) (hY:Y≠32) (v:Value):
 (∀k,k≠rb→¬rowOf xo k→k<w4.heap.size→(w7.setCell ⟨rb,cell,none⟩ v).heap[k]?=w4.heap[k]?)∧(w7.setCell ⟨rb,cell,none⟩ v).heap[rb]?=some (.cells (C.setIfInBounds cell v) 32 (0,0)):=by
 have hz:=af mg
 refine⟨fun k h1 h2 h3=> ?_,?_⟩
 ·rw[aF _ _ _ _ h1,hgr.block k (by simp;omega) (bP h2),Below.heap_alloc _ _ _ h3]
 ·refine au ?_ cell v
  rw[hgr.block rb (by simp;omega) (bP (aN ho mg (Ne.symm hY))),Below.heap_alloc _ _ _ hz]
  exact mg
theorem tB {w w4 w7:World} {n cell b rb:Nat} {xo:Option Addr} {xc:Nat} {Y:TypeId} {X:Obj} {xs:List Value} (aM:Below w.heap.size w w4) (ho:w4.ownsRow b Y 1 (.slice xo n xc) n xs) (hbb:w.heap.size≤b) (hgr:(w4.alloc X).grownBy w7 (Value.slice xo n xc).ownBlock) (mg:w.heap.size≤rb) (v:Value):Below w.heap.size w (w7.setCell ⟨rb,cell,none⟩ v):=
 ((aM.alloc aM.size X).grown hgr (by have:=aM.size;simp;omega) (fun k q=>by have:=(ho.lt k q).1;omega)).setCell mg v
theorem eJ.res {w4 w7:World} {n cell b rb nb:Nat} {xo:Option Addr} {xc:Nat} {Y:TypeId} {X:Obj} {xs:List Value} {C:Array Value} {N:List Nat} {mo:Option Addr} {mc:Nat} (h:eJ w4 nb N mo mc) (ho:w4.ownsRow b Y 1 (.slice xo n xc) n xs) (hgr:(w4.alloc X).grownBy w7 (Value.slice xo n xc).ownBlock) (mg:w4.heap[rb]?=some (.cells C 32 (0,0))) (hY:Y≠32) (h1:Y≠123) (h2:Y≠3) (v:Value):eJ (w7.setCell ⟨rb,cell,none⟩ v) nb N mo mc:=by
 obtain⟨keep,_⟩:=pj (cell:=cell) ho hgr mg hY v
 have key:∀{k:Nat} {ys:Array Value} {Z:TypeId},w4.heap[k]?=some (.cells ys Z (0,0))→Z≠Y→Z≠32→(w7.setCell ⟨rb,cell,none⟩ v).heap[k]?=w4.heap[k]?:=fun {k ys Z} hk q1 q2=>keep k (fun e=>by
  rw[e,mg]at hk
  simp only[Option.some.injEq,Obj.cells.injEq]at hk
  exact q2 hk.2.1.symm) (aN ho hk q1) (af hk)
 refine⟨(key h.blk (Ne.symm h1) (by decide)).trans h.blk,ah h.own fun g q=> ?_⟩
 obtain⟨cur,hc⟩:=aH h.own (aD q)
 exact key hc (Ne.symm h2) (by decide)
theorem VS.next {w:World} {T:Nat→Za.U} {V:List Nat} {en:Int} {lo:Option Addr} {ln lc:Nat} {N:List Nat} {mo:Option Addr} {mc:Nat} {xo:Option Addr} {xc:Nat} {w4:World} (h:VS w T V en lo ln lc N mo mc xo xc w4) {v:Nat} {N':List Nat} (hz:N'.length≤N.length+1000) (hv:Za.bh N'=Za.aS (dX T V).2 (T v)) {mo':Option Addr} {mc':Nat} {w5:World} (hn:eJ w5 (w.heap.size+2) N' mo' mc') (nr:∀k,rowOf mo' k→w.heap.size+3≤k) (how:w5.ownsRow (w.heap.size+3) 9 1 (.slice xo V.length xc) V.length ((dX T V).1.map gW)) (mg:w5.heap[w.heap.size+1]?=some (.cells #[.int .i64 en,.slice lo ln lc,.slice xo V.length xc,.slice none 0 0,.slice none 0 0] 32 (0,0))) (hzb:w5.heap[w.heap.size]?=some (.cells #[.int .i64 0,.slice none 0 0,.slice none 0 0,.slice none 0 0,.slice none 0 0] 32 (0,0))) (aM:Below w.heap.size w w5) {X:Obj} {w7:World} {g' cap':Nat} (hown:w7.ownsRow (w.heap.size+3) 9 1 (.slice (some ⟨g',0,none⟩) (V.length+1) cap') (V.length+1) ((dX T V).1.map gW++[gW (Za.bM Lib.itoa (Za.bh N') (T v))])) (hgr:(w5.alloc X).grownBy w7 (Value.slice xo V.length xc).ownBlock):
 VS w T (V++[v]) en lo ln lc N' mo' mc' (some ⟨g',0,none⟩) cap' (w7.setCell ⟨w.heap.size+1,2,none⟩ (.slice (some ⟨g',0,none⟩) (V.length+1) cap')):=by
 obtain⟨keep,Cy⟩:=pj (cell:=2) how hgr mg (by decide) (.slice (some ⟨g',0,none⟩) (V.length+1) cap')
 have el:(V++[v]).length=V.length+1:=by simp
 refine⟨hn.res how hgr mg (by decide) (by decide) (by decide) _,by rw[zO];exact hv,?_,nr,?_,by rw[el];exact Cy,?_,tB aM how (by omega) hgr (by omega) _⟩
 ·have:=h.nl
  rw[el,Nat.add_mul]
  omega
 ·rw[el,zO]
  have e:(ur T (dX T V) v).1.map gW=(dX T V).1.map gW++[gW (Za.bM Lib.itoa (Za.bh N') (T v))]:=by
   unfold ur
   rw[List.map_append,←hv]
   rfl
  rw[e]
  exact ah hown fun k q=>aF _ _ _ _ (fun e=>by have:=(hown.lt k q).1;omega)
 ·refine(keep w.heap.size (by omega) (fun q=> ?_) (af hzb)).trans hzb
  have:=(bY how q).1
  omega
structure BN (w:World) (en:Int) (lo:Option Addr) (ln lc:Nat) (xo:Option Addr) (xn xc:Nat) (xs:List Value) (b2:Nat) (N:List Nat) (mo:Option Addr) (mc:Nat) (go:Option Addr) (gn gc:Nat) (gs:List Value) (yo:Option Addr) (yn yc:Nat) (ys:List Value) (wr:World):Prop where
 nm:eJ wr (w.heap.size+2) N mo mc
 rw_:∀k,rowOf mo k→w.heap.size+3≤k
 ox:wr.ownsRow (w.heap.size+3) 9 1 (.slice xo xn xc) xn xs
 xb:∀k,rowOf xo k→k<b2
 og:wr.ownsRow b2 9 1 (.slice go gn gc) gn gs
 oy:wr.ownsRow b2 4 1 (.slice yo yn yc) yn ys
 rb:wr.heap[w.heap.size+1]?=some (.cells #[.int .i64 en,.slice lo ln lc,.slice xo xn xc,.slice go gn gc,.slice yo yn yc] 32 (0,0))
 zb:wr.heap[w.heap.size]?=some (.cells #[.int .i64 0,.slice none 0 0,.slice none 0 0,.slice none 0 0,.slice none 0 0] 32 (0,0))
 be:Below w.heap.size w wr
 bw:w.heap.size+3≤b2
 bz:b2≤wr.heap.size
section
variable {w:World} {en:Int} {lo:Option Addr} {ln lc:Nat} {xo:Option Addr} {xn xc:Nat} {xs:List Value} {b2:Nat} {N:List Nat} {mo:Option Addr} {mc:Nat} {go:Option Addr} {gn gc:Nat} {gs:List Value} {yo:Option Addr} {yn yc:Nat} {ys:List Value} {wr:World}
theorem BN.below (h:BN w en lo ln lc xo xn xc xs b2 N mo mc go gn gc gs yo yn yc ys wr) {w':World} (hb:Below wr.heap.size wr w'):BN w en lo ln lc xo xn xc xs b2 N mo mc go gn gc gs yo yn yc ys w':=
 ⟨h.nm.below hb,h.rw_,ah h.ox (fun k q=>hb.block k (h.ox.lt k q).2),h.xb,ah h.og (fun k q=>hb.block k (h.og.lt k q).2),ah h.oy (fun k q=>hb.block k (h.oy.lt k q).2),(hb.block _ (af h.rb)).trans h.rb,(hb.block _ (af h.zb)).trans h.zb,h.be.trans (hb.mono h.be.size),h.bw,Nat.le_trans h.bz hb.size⟩
theorem BN.names (h:BN w en lo ln lc xo xn xc xs b2 N mo mc go gn gc gs yo yn yc ys wr) {w':World} {N':List Nat} {mo':Option Addr} {mc':Nat} (hn:eJ w' (w.heap.size+2) N' mo' mc') (hf:aj (bf (w.heap.size+2) mo) (bf (w.heap.size+2) mo') wr w'):BN w en lo ln lc xo xn xc xs b2 N' mo' mc' go gn gc gs yo yn yc ys w':=by
 have yj:∀k,k<w.heap.size+2→¬bf (w.heap.size+2) mo k:=fun k hk q=>by
  rcases q with e | e
  ·omega
  ·have:=h.rw_ k e;omega
 have row:∀{b n cap:Nat} {Y:TypeId} {o:Option Addr} {zs:List Value},wr.ownsRow b Y 1 (.slice o n cap) n zs→Y≠123→Y≠3→w'.ownsRow b Y 1 (.slice o n cap) n zs:=fun {b n cap Y o zs} ho h1 h2=>ah ho fun k q=>by
  obtain⟨cur,hc⟩:=aH ho (aD q)
  exact hf.block k (af hc) (h.nm.apart hc h1 h2)
 refine⟨hn,fun k q=> ?_,row h.ox (by decide) (by decide),h.xb,row h.og (by decide) (by decide),row h.oy (by decide) (by decide),(hf.block _ (af h.rb) (yj _ (by omega))).trans h.rb,(hf.block _ (af h.zb) (yj _ (by omega))).trans h.zb,h.be.trans (hf.down h.be.size fun k q=> ?_),h.bw,Nat.le_trans h.bz hf.size⟩
 ·rcases hf.row k (Or.inr q)with(e | e) | e
  ·exact absurd (e ▸ q) hn.ne
  ·exact h.rw_ k e
  ·have:=af h.nm.blk;omega
 ·rcases q with e | e
  ·omega
  ·have:=h.rw_ k e;omega
theorem BN.goal (h:BN w en lo ln lc xo xn xc xs b2 N mo mc go gn gc gs yo yn yc ys wr) {X:Obj} {w7:World} {g' cap':Nat} {s:Value} (hown:w7.ownsRow b2 9 1 (.slice (some ⟨g',0,none⟩) (gn+1) cap') (gn+1) (gs++[s])) (hgr:(wr.alloc X).grownBy w7 (Value.slice go gn gc).ownBlock):BN w en lo ln lc xo xn xc xs b2 N mo mc (some ⟨g',0,none⟩) (gn+1) cap' (gs++[s]) yo yn yc ys (w7.setCell ⟨w.heap.size+1,3,none⟩ (.slice (some ⟨g',0,none⟩) (gn+1) cap')):=by
 obtain⟨keep,Cy⟩:=pj (cell:=3) h.og hgr h.rb (by decide) (.slice (some ⟨g',0,none⟩) (gn+1) cap')
 have bw:=h.bw
 refine⟨h.nm.res h.og hgr h.rb (by decide) (by decide) (by decide) _,h.rw_,ah h.ox fun k q=> ?_,h.xb,ah hown fun k q=>aF _ _ _ _ (fun e=>by have:=(hown.lt k q).1;omega),ah h.oy fun k q=> ?_,Cy,?_,tB h.be h.og (by omega) hgr (by omega) _,h.bw,?_⟩
 ·have h1:=bY h.ox (aD q)
  have h2:=h.xb k (aD q)
  exact keep k (by omega) (fun r=>by have:=(bY h.og r).1;omega) h1.2
 ·obtain⟨cur,hc⟩:=aH h.oy (aD q)
  have h1:=(bY h.oy (aD q)).1
  exact keep k (by omega) (aN h.og hc (by decide)) (af hc)
 ·exact(keep w.heap.size (by omega) (fun r=>by have:=(bY h.og r).1;omega) (af h.zb)).trans h.zb
 ·rw[cC];have:=hgr.size;simp at this;have:=h.bz;omega
theorem BN.wait (h:BN w en lo ln lc xo xn xc xs b2 N mo mc go gn gc gs yo yn yc ys wr) {X:Obj} {w7:World} {g' cap':Nat} {s:Value} (hown:w7.ownsRow b2 4 1 (.slice (some ⟨g',0,none⟩) (yn+1) cap') (yn+1) (ys++[s])) (hgr:(wr.alloc X).grownBy w7 (Value.slice yo yn yc).ownBlock):BN w en lo ln lc xo xn xc xs b2 N mo mc go gn gc gs (some ⟨g',0,none⟩) (yn+1) cap' (ys++[s]) (w7.setCell ⟨w.heap.size+1,4,none⟩ (.slice (some ⟨g',0,none⟩) (yn+1) cap')):=by
 obtain⟨keep,Cy⟩:=pj (cell:=4) h.oy hgr h.rb (by decide) (.slice (some ⟨g',0,none⟩) (yn+1) cap')
 have bw:=h.bw
 have kS:∀{b n cap:Nat} {o:Option Addr} {zs:List Value},wr.ownsRow b 9 1 (.slice o n cap) n zs→w.heap.size+3≤b→(w7.setCell ⟨w.heap.size+1,4,none⟩ (.slice (some ⟨g',0,none⟩) (yn+1) cap')).ownsRow b 9 1 (.slice o n cap) n zs:=fun {b n cap o zs} ho hb=>ah ho fun k q=>by
  obtain⟨cur,hc⟩:=aH ho (aD q)
  have h1:=(bY ho (aD q)).1
  exact keep k (by omega) (aN h.oy hc (by decide)) (af hc)
 refine⟨h.nm.res h.oy hgr h.rb (by decide) (by decide) (by decide) _,h.rw_,kS h.ox (Nat.le_refl _),h.xb,kS h.og bw,ah hown fun k q=>aF _ _ _ _ (fun e=>by have:=(hown.lt k q).1;omega),Cy,?_,tB h.be h.oy (by omega) hgr (by omega) _,h.bw,?_⟩
 ·exact(keep w.heap.size (by omega) (fun r=>by have:=(bY h.oy r).1;omega) (af h.zb)).trans h.zb
 ·rw[cC];have:=hgr.size;simp at this;have:=h.bz;omega
end
def UH (w:World) (fr:Nat→Nat) (T:Nat→Za.U) (N0:List Za.Vr) (G:List Gl) (en:Int) (lo:Option Addr) (ln lc:Nat) (xo:Option Addr) (xn xc:Nat) (xs:List Value) (b2:Nat) (k:Nat) (iv:Value) (wr:World):Prop:=
 ∃(j:Nat) (N:List Nat) (mo:Option Addr) (mc:Nat) (go:Option Addr) (gc:Nat) (yo:Option Addr) (yc:Nat),k+j=G.length∧iv= .int .i64 (j:Int)∧Za.bh N=(jW T N0 (G.take j)).2∧N.length≤100000+j*3000∧BN w en lo ln lc xo xn xc xs b2 N mo mc go j gc ((jW T N0 (G.take j)).1.map gW) yo j yc ((G.take j).map fun g=> .bool (!fT fr g)) wr
def UI (w:World) (T:Nat→Za.U) (V:List Nat) (en:Int) (lo:Option Addr) (ln lc:Nat) (k:Nat) (iv:Value) (wr:World):Prop:=
 ∃(j:Nat) (N:List Nat) (mo:Option Addr) (mc:Nat) (xo:Option Addr) (xc:Nat),k+j=V.length∧iv= .int .i64 (j:Int)∧VS w T (V.take j) en lo ln lc N mo mc xo xc wr
theorem Jk (w:World) (mb:Nat) (cls:List Za.aG) (clo:Option Addr) (clc:Nat) (V:List Nat) (vo:Option Addr) (vc:Nat) (L:List Int) (lo:Option Addr) (lc:Nat) (S:bX) (nO:Option Addr) (nC:Nat) (po:Option Addr) (pc:Nat) (en:Int) (h:cG w mb (pX clo cls.length clc nO S.D.length nC vo V.length vc po S.G.length pc lo L.length lc en) S.D nO nC S.fr S.G po pc) (fu:Za.dw (aV S.D) S.fr S.T) (P:Nat→Prop) (har:aW w S.D P) (Cz:w.ownsRow 0 3 1 (.slice vo V.length vc) V.length (V.map aI)) (hvl:∀v∈V,v<S.D.length) (hvb:∀d∈S.D,-1000000000≤d.val∧d.val≤1000000000) (Hs:∀d∈S.D,d.tx.size≤240) (uS:∀g∈S.G,lX S.T S.D.length g) (hpw:Pow w) (hen:en=1∨en=2∨en=3) (hV:V.length≤100) (hG:S.G.length≤100) (hsV:∀v∈V,Za.size (S.T v)≤1000) (hsG:∀g∈S.G,∀x:Int,x=(g.l:Int)∨x=g.r∨x=g.z→x≠-1→Za.size (S.T x.toNat)≤1000):
 Calls Tryz.prog 47 #[.pointer (some ⟨mb,0,none⟩)] w fun e w'=>∃(xo:Option Addr) (xc:Nat) (go:Option Addr) (gc:Nat) (yo:Option Addr) (yc:Nat),e= .returned (.agg #[.int .i64 en,.slice lo L.length lc,.slice xo V.length xc,.slice go S.G.length gc,.slice yo S.G.length yc])∧w'.ownsRow w.heap.size 9 1 (.slice xo V.length xc) V.length ((dX S.T V).1.map gW)∧w'.ownsRow w.heap.size 9 1 (.slice go S.G.length gc) S.G.length ((jW S.T (dX S.T V).2 S.G).1.map gW)∧w'.ownsRow w.heap.size 4 1 (.slice yo S.G.length yc) S.G.length (S.G.map fun g=> .bool (!fT S.fr g))∧(∀k,rowOf xo k→¬rowOf go k)∧Below w.heap.size w w':=by
 have f2:w.cell? ⟨mb,2,none⟩=some (.slice vo V.length vc):=ag h.st.blk 2
 have f3:w.cell? ⟨mb,3,none⟩=some (.slice po S.G.length pc):=ag h.st.blk 3
 have f4:w.cell? ⟨mb,4,none⟩=some (.slice lo L.length lc):=ag h.st.blk 4
 have f5:w.cell? ⟨mb,5,none⟩=some (.int .i64 en):=ag h.st.blk 5
 have mz:=af h.st.blk
 have t4:(en == 4)=false:=by rcases hen with q | q | q<;>(rw[q];rfl)
 have t5:(en == 5)=false:=by rcases hen with q | q | q<;>(rw[q];rfl)
 have t6:(en == 6)=false:=by rcases hen with q | q | q<;>(rw[q];rfl)
 have LR:aW w S.D (fun g=>g<w.heap.size):=har.keep fun g _ _ hg=>⟨hg,af hg⟩
 have HT:=hide (fun(x:Int) (N1:List Nat) (mo1:Option Addr) (mc1:Nat) (W:World) (hb:Below w.heap.size w W) (nj:eJ W (w.heap.size+2) N1 mo1 mc1) (nr:∀k,rowOf mo1 k→w.heap.size+3≤k) (hx:o5 S.D.length x) (hq:x≠-1→Za.size (S.T x.toNat)≤1000) (jr:N1.length≤900000)=>Nj W mb _ S.D nO nC S.fr S.T (w.heap.size+2) N1 mo1 mc1 x (h.st.below hb) h.ok fu nj ((LR.below hb).keep fun g _ hp hg=>⟨hg,fun q=>by
  rcases q with e | e
  ·omega
  ·have:=nr g e;omega⟩) hx hq jr)
 have iV:=hide (OH h.ok fu hvb Hs)
 have HST:=hide (show UI w S.T V en lo L.length lc V.length (.int .i64 0) (((((w.alloc (.cells #[.int .i64 0,.slice none 0 0,.slice none 0 0,.slice none 0 0,.slice none 0 0] 32)).alloc (.cells #[.int .i64 en,.slice lo L.length lc,.slice none 0 0,.slice none 0 0,.slice none 0 0] 32)).drew).alloc (.cells #[.slice none 0 0] 123)))from by
  have tz:=(((Below.refl w.heap.size w).alloc (Nat.le_refl _) (.cells #[.int .i64 0,.slice none 0 0,.slice none 0 0,.slice none 0 0,.slice none 0 0] 32)).alloc (by simp) (.cells #[.int .i64 en,.slice lo L.length lc,.slice none 0 0,.slice none 0 0,.slice none 0 0] 32)).drew
  have hb1:=tz.alloc tz.size (.cells #[.slice none 0 0] 123)
  have q0:=aw (aw (heap_alloc_new w (.cells #[.int .i64 0,.slice none 0 0,.slice none 0 0,.slice none 0 0,.slice none 0 0] 32)) (.cells #[.int .i64 en,.slice lo L.length lc,.slice none 0 0,.slice none 0 0,.slice none 0 0] 32)) (.cells #[.slice none 0 0] 123)
  have q1:=aw (heap_alloc_new (w.alloc (.cells #[.int .i64 0,.slice none 0 0,.slice none 0 0,.slice none 0 0,.slice none 0 0] 32)) (.cells #[.int .i64 en,.slice lo L.length lc,.slice none 0 0,.slice none 0 0,.slice none 0 0] 32)) (.cells #[.slice none 0 0] 123)
  have q2:=heap_alloc_new ((w.alloc (.cells #[.int .i64 0,.slice none 0 0,.slice none 0 0,.slice none 0 0,.slice none 0 0] 32)).alloc (.cells #[.int .i64 en,.slice lo L.length lc,.slice none 0 0,.slice none 0 0,.slice none 0 0] 32)) (.cells #[.slice none 0 0] 123)
  simp only[World.size_alloc]at q1 q2
  exact⟨0,[],none,0,none,0,by omega,rfl,⟨⟨q2,World.ownsRow_nil _ _ _ _⟩,rfl,by simp,(fun k ⟨_,q,_⟩=>by cases q),World.ownsRow_nil _ _ _ _,q1,q0,hb1⟩⟩)
 have Ro:=hide Cz
 have Br:=hide hvl
 have El:=hide hpw
 have Uf:=hide hsV
 have jw:=hide hsG
 have HH:=hide h
 have XG:=hide uS
 have nP:=hide LR
 have QT:=hide fu
 obtain⟨ti,hi,hz0,hz1,hz2⟩:=info_parts infoStrS
 obtain⟨tb,XH,hb0,hb1,hb2⟩:=info_parts infoBl
 clear h fu har LR Cz hvl hvb Hs uS hpw hen hsV hsG
 go_enter Tryz.func47,Tryz.ntmps47
 go_upto_region 1 with fail
 go_cut [3] (fun tv wx=>tv= .pointer (some ⟨w.heap.size+1,0,none⟩)∧wx=((w.alloc (.cells #[.int .i64 0,.slice none 0 0,.slice none 0 0,.slice none 0 0,.slice none 0 0] 32)).alloc (.cells #[.int .i64 en,.slice lo L.length lc,.slice none 0 0,.slice none 0 0,.slice none 0 0] 32)).drew)
 case first=>
  go_region
  all_goals
   go_wp2_with fail
   go_meet
   exact⟨rfl,rfl⟩
 case rest=>
  obtain⟨rfl,rfl⟩:=hcut
  have xI:=(((Below.refl w.heap.size w).alloc (Nat.le_refl _) (.cells #[.int .i64 0,.slice none 0 0,.slice none 0 0,.slice none 0 0,.slice none 0 0] 32)).alloc (by simp) (.cells #[.int .i64 en,.slice lo L.length lc,.slice none 0 0,.slice none 0 0,.slice none 0 0] 32)).drew
  have nW:=xI.alloc xI.size (.cells #[.slice none 0 0] 123)
  have g2:=(nW.cell (p:=⟨mb,2,none⟩) mz).trans f2
  have g5:=(xI.cell (p:=⟨mb,5,none⟩) mz).trans f5
  have UJ:=((((Below.refl w.heap.size w).alloc (Nat.le_refl _) (.cells #[.int .i64 0,.slice none 0 0,.slice none 0 0,.slice none 0 0,.slice none 0 0] 32)).alloc (by simp) (.cells #[.int .i64 en,.slice lo L.length lc,.slice none 0 0,.slice none 0 0,.slice none 0 0] 32)).alloc (by simp;omega) (.cells #[.slice none 0 0] 123)).drew
  have g2':=(UJ.cell (p:=⟨mb,2,none⟩) mz).trans f2
  clear xI nW UJ
  go_wp2_with fail
  go_loopg [48] V.length (fun k iv wr=>UI w S.T V en lo L.length lc k iv wr)
  case atStart=>exact ae HST
  case round=>
   clear HST
   obtain⟨j,N,mo,mc,xo,xc,hkj,rfl,hvs⟩:=hrel
   clear g2 g2' g5
   by_cases hlt:j<V.length
   ·obtain⟨g,hg⟩:∃g,vo=some ⟨g,0,none⟩:=by
     rcases(ae Ro).2 with⟨q,q2⟩ | ⟨g,cp,cur,q,_⟩
     ·omega
     ·simp only[Value.slice.injEq]at q
      exact⟨g,q.1⟩
    subst hg
    have gz0:=((ae Ro).lt g rfl).2
    have e0:wr.cell? ⟨g,j,none⟩=some (.int .i64 (V[j]:Int)):=by
     rw[hvs.be.cell (p:=⟨g,j,none⟩) gz0,(ae Ro).cellAt j (by omega),List.getElem?_map,List.getElem?_eq_getElem hlt]
     rfl
    have Ax:V[j]∈V:=List.getElem_mem hlt
    have hsz:=ae Uf _ Ax
    have hvl:=ae Br _ Ax
    have hsm:=ae iV _ hvl
    have htake:V.take (j+1)=V.take j++[V[j]]:=by rw[List.take_add_one,List.getElem?_eq_getElem hlt];rfl
    have hlen:(V.take j).length=j:=by rw[List.length_take];omega
    have gz:g<wr.heap.size:=Nat.lt_of_lt_of_le gz0 hvs.be.size
    have mzr:mb<wr.heap.size:=Nat.lt_of_lt_of_le mz hvs.be.size
    have i0:(0:Int)≤(j:Int):=by omega
    have i1:(j:Int)<(V.length:Int):=by omega
    generalize V[j]=v at*
    have hNl:N.length≤100000:=by have:=hvs.nl;rw[hlen]at this;omega
    have IT:=hide (ae HT (v:Int) N mo mc wr hvs.be hvs.nm hvs.rw_ (Or.inr ⟨v,rfl,hvl⟩) (fun _=>by simpa using hsz) (by omega))
    have nA:=hide hvs
    have aP:=hide hkj
    have aY:=hide hlt
    have rK:=hide htake
    have jJ:=hide hsz
    have Rp:=hide hsm
    have HLEN:=hide hlen
    clear hvs hkj hlt htake hsz hvl hsm hlen Ax
    go_wp2_with fail
    refine(ae IT).mono ?_
    rintro e w2 ⟨⟨ak,av,ax,ao,an,ac⟩,N',mo',mc',rfl,nm2,hv2,rv2,fg2⟩
    have hrow:∀k,bf (w.heap.size+2) mo k→w.heap.size≤k:=fun k q=>by
     rcases q with e | e
     ·omega
     ·have:=(ae nA).rw_ k e;omega
    have tE:Below w.heap.size w w2:=(ae nA).be.trans (fg2.down (ae nA).be.size hrow)
    have LU:=tE.alloc tE.size (.cells #[.int .i64 ak,.int .i64 av,.string ax,.slice ao an ac] 76)
    have yj:∀k,k<w.heap.size+2→¬bf (w.heap.size+2) mo k:=fun k hk q=>by
     rcases q with e | e
     ·omega
     ·have:=(ae nA).rw_ k e;omega
    have Rq:=(fg2.block _ (af (ae nA).rb) (yj _ (by omega))).trans (ae nA).rb
    have Rs:=(fg2.block _ (af (ae nA).zb) (yj _ (by omega))).trans (ae nA).zb
    have Rt:w2.ownsRow (w.heap.size+3) 9 1 (.slice xo (V.take j).length xc) (V.take j).length ((dX S.T (V.take j)).1.map gW):=ah (ae nA).ow fun k q=>by
     obtain⟨cur,hc⟩:=aH (ae nA).ow (aD q)
     exact fg2.block k (af hc) ((ae nA).nm.apart hc (by decide) (by decide))
    have yb:∀k,rowOf mo' k→w.heap.size+3≤k:=fun k q=>by
     rcases fg2.row k (Or.inr q)with(e | e) | e
     ·exfalso
      exact nm2.ne (e ▸ q)
     ·exact(ae nA).rw_ k e
     ·have:=af (ae nA).nm.blk;omega
    have LV:Za.bh N'=Za.aS (dX S.T (V.take j)).2 (S.T v):=by
     rw[hv2]
     unfold gY
     rw[if_neg (by omega),(ae nA).vr]
     simp
    have hN2:N'.length≤N.length+1000:=by
     have e1:(Za.bh N').length=N'.length:=by unfold Za.bh;simp
     have e2:(Za.bh N).length=N.length:=by unfold Za.bh;simp
     have:=iM (S.T v) (dX S.T (V.take j)).2
     rw[←LV,e1,←(ae nA).vr,e2]at this
     have:=ae jJ
     omega
    have rv3:RV 1000 (Za.bh N') anyA w2 ⟨ak,av,ax,ao,an,ac⟩ (S.T v):=by
     have:=rv2 (by omega)
     have e0:((v:Int)).toNat=v:=by simp
     rw[e0]at this
     exact this.keep fun g _ _ hg=>⟨hg,trivial⟩
    have rv4:=rv3.keep (Q:=anyA) (w':=w2.alloc (.cells #[.int .i64 ak,.int .i64 av,.string ax,.slice ao an ac] 76)) fun g _ _ hg=>⟨(Below.heap_alloc _ _ _ (af hg)).trans hg,trivial⟩
    have eV:(Za.bh N').length=N'.length:=by unfold Za.bh;simp
    have IS:=hide (stU_all 1000 _ (Za.bh N') anyA ⟨ak,av,ax,ao,an,ac⟩ (S.T v) rv4 ((ae El).below LU) (by rw[eV];omega) (ae Rp) (ae jJ))
    have hSl:=Za.oN (N:=Za.bh N') (by rw[eV];omega) (S.T v) (ae Rp)
    have hSl':(Za.bM Lib.itoa (Za.bh N') (S.T v)).length≤300000:=by have:=ae jJ;omega
    have gK:=hide nm2
    have XI:=hide LV
    have sI:=hide hN2
    have XJ:=hide yb
    have ya:=hide Rt
    have LW:=hide Rq
    have LX:=hide Rs
    have V4:=hide LU
    have LY:=hide tE
    clear nm2 hv2 LV hN2 yb Rt Rq Rs LU tE rv2 rv3 rv4 fg2 eV hrow yj hSl IT e0
    generalize CD:Za.bM Lib.itoa (Za.bh N') (S.T v)=STR at*
    have LZ:=hide CD
    clear CD
    go_wp2_with fail
    refine(ae IS).mono ?_
    rintro e w4 ⟨rfl,hb4⟩
    have vh:Below w2.heap.size w2 w4:=((Below.refl _ w2).alloc (Nat.le_refl _) _).trans (hb4.mono (by simp))
    have F4:=ah (ae ya) fun k q=>vh.block k ((ae ya).lt k q).2
    have yl:=(vh.block _ (af (ae LW))).trans (ae LW)
    have Ru:=(vh.block _ (af (ae LX))).trans (ae LX)
    have L3:=(ae gK).below vh
    have CE:=(ae LY).trans (vh.mono (ae LY).size)
    have r2:=ag yl 2
    have rx2:=aq yl 2
    have rz:=af yl
    simp only[List.getElem?_toArray,List.getElem?_cons_zero,List.getElem?_cons_succ]at r2
    rw[ae HLEN]at r2
    have Jl:=hide (show some (w.heap.size+1)≠(Value.slice xo (V.take j).length xc).ownBlock from bP (aN F4 yl (by decide)))
    rw[ae HLEN]at Jl
    have jM:=hide (fun(w7:World) (g' cap':Nat) (X:Obj) a1 a2=>(ae nA).next (v:=v) (ae sI) (ae XI) L3 (ae XJ) F4 yl Ru CE (X:=X) (w7:=w7) (g':=g') (cap':=cap') a1 a2)
    rw[ae HLEN]at jM
    have F5:=F4
    rw[ae HLEN]at F5
    have V5:=hide F5
    have z4:w.heap.size+3≤w4.heap.size:=by have:=af L3.blk;omega
    rw[ae LZ]at jM
    clear F4 F5 yl Ru L3 CE hb4 vh IS ya LW LX gK LY V4
    generalize hzz:(dX S.T (V.take j)).1.map gW=ZZ at*
    clear hzz
    go_wp2_with (at_builtin;go_must (refine wpList_append_own_at _ rfl (.tmp 60) (.tmp 62) 29 rfl (w.heap.size+3) 9 ti (.string ⟨#[]⟩) 1 16 Tryz.underlying29 hi hz0 hz1 hz2 rfl (by decide) (.slice xo j xc) j ZZ rfl ((ae V5).alloc _) ⟨w4.heap.size,0,none⟩ 1 1 [.string ⟨STR.toArray⟩] rfl rfl (ie _ _ _ _ rfl) (by simp[Value.oneCell']) (by unfold maxLen;omega) (by omega) (by simp;omega) ?_);go_must (intro v' w7 hown' hgrow _ hat;obtain⟨g',cap',hv',-⟩:=ed hown';subst hv';have jq:=hide (ae jM w7 g' cap' _ hown' hgrow);have m2:=(hgrow.cell_far ⟨w.heap.size+1,2,none⟩ (by simp;omega) (ae Jl)).trans ((World.cell?_alloc_past _ _ _ rz).trans r2);have k9:w7.frozen? ⟨w.heap.size+1,2,none⟩=false:=(by have:=aq (ae jq).rb 2;rwa [World.frozen?_setCell]at this);have zz7:w.heap.size+1<w7.heap.size:=(by have:=af (ae jq).rb;rwa [cC]at this);clear hown' hgrow hat))
    go_roundg (gk - 1)
    case measure=>have:=ae aP;have:=ae aY;omega
    case rel=>exact⟨j+1,N',mo',mc',_,cap',by have:=ae aP;have:=ae aY;omega,by go_num,by rw[ae rK];exact ae jq⟩
   ·obtain rfl:j=V.length:=by omega
    rw[List.take_length]at hvs
    have nA:=hide hvs
    have g3:=(hvs.be.cell (p:=⟨mb,3,none⟩) mz).trans f3
    have mzr:mb<wr.heap.size:=Nat.lt_of_lt_of_le mz hvs.be.size
    have Rv:=hide (show UH w S.fr S.T (dX S.T V).2 S.G en lo L.length lc xo V.length xc ((dX S.T V).1.map gW) wr.heap.size S.G.length (.int .i64 0) wr from ⟨0,N,mo,mc,none,0,none,0,by omega,rfl,hvs.vr,by have:=hvs.nl;omega,⟨hvs.nm,hvs.rw_,hvs.ow,fun k q=>(bY hvs.ow q).2,World.ownsRow_nil _ _ _ _,World.ownsRow_nil _ _ _ _,hvs.rb,hvs.zb,hvs.be,by have:=af hvs.nm.blk;omega,Nat.le_refl _⟩⟩)
    generalize hwb:wr.heap.size=b2 at*
    clear hvs hkj hlt
    go_wp2_with fail
    go_loopg [71] S.G.length (fun k iv wr=>UH w S.fr S.T (dX S.T V).2 S.G en lo L.length lc xo V.length xc ((dX S.T V).1.map gW) b2 k iv wr)
    case atStart=>exact ae Rv
    case round=>
     clear Rv
     obtain⟨i,N3,mo3,mc3,go,gc,yo,yc,hkj,rfl,Cz,hnl,nW⟩:=hrel
     by_cases hlt:i<S.G.length
     ·obtain⟨pg,Q8⟩:∃pg,po=some ⟨pg,0,none⟩:=by
       rcases(ae HH).pool.2 with⟨q,q2⟩ | ⟨g,cp,cur,q,_⟩
       ·omega
       ·simp only[Value.slice.injEq]at q
        exact⟨g,q.1⟩
      subst Q8
      have pz0:=((ae HH).pool.lt pg rfl).2
      have fc:∀k,k<7→wr.cell? ⟨pg,i*7+k,none⟩=(fG S.G[i])[k]?:=fun k hk=>by
       rw[nW.be.cell (p:=⟨pg,i*7+k,none⟩) pz0,(ae HH).pool.cellAt (i*7+k) (by omega)]
       exact qE hlt k hk
      have e0:=fc 0 (by omega)
      have e1:=fc 1 (by omega)
      have e2:=fc 2 (by omega)
      have e3:=fc 3 (by omega)
      have e4:=fc 4 (by omega)
      have e5:=fc 5 (by omega)
      have e6:=fc 6 (by omega)
      simp only[fG,List.getElem?_cons_zero,List.getElem?_cons_succ,Nat.add_zero]at e0 e1 e2 e3 e4 e5 e6
      have jN:S.G[i]∈S.G:=List.getElem_mem hlt
      have gw:=ae XG _ jN
      have L4:=ae jw _ jN
      have htake:S.G.take (i+1)=S.G.take i++[S.G[i]]:=by rw[List.take_add_one,List.getElem?_eq_getElem hlt];rfl
      have Rw:=(ae HH).nds _ jN
      have Rx:=(ae HH).nlt _ jN
      have Ry:=(ae HH).nl _ jN
      generalize S.G[i]=gg at*
      have pz:pg<wr.heap.size:=Nat.lt_of_lt_of_le pz0 nW.be.size
      have mzr':mb<wr.heap.size:=Nat.lt_of_lt_of_le mz nW.be.size
      have i0:(0:Int)≤(i:Int):=by omega
      have i1:(i:Int)<(S.G.length:Int):=by omega
      have Jm:=(Below.refl wr.heap.size wr).alloc (Nat.le_refl _) (.cells #[.int .i64 (gg.l:Int),.string gg.sg,.int .i64 gg.r,.string gg.op,.int .i64 gg.z,.bool gg.wt,.slice gg.no gg.nd.length gg.nc] 158)
      have hbA:=nW.below Jm
      have hndR:o5 S.D.length gg.r:=by
       by_cases q:gg.sg.toList=[]
       ·exact Or.inl (gw.r0 q)
       ·exact Or.inr (gw.rr q)
      have hndZ:o5 S.D.length gg.z:=by
       by_cases q:gg.op.toList=[]
       ·exact Or.inl (gw.z0 q)
       ·exact Or.inr (gw.zz q)
      have hN3:N3.length≤500000:=by omega
      have IM:=hide (Ji _ mb _ S.D nO nC S.fr S.T (w.heap.size+2) N3 mo3 mc3 gg ((ae HH).st.below hbA.be) (ae HH).ok (ae QT) hbA.nm (((ae nP).below hbA.be).keep fun k _ hp hk=>⟨hk,fun q=>by
       rcases q with e | e
       ·omega
       ·have:=hbA.rw_ k e;omega⟩) gw.ll hndR hndZ L4 (by omega))
      have Rz:=hide (heap_alloc_new wr (.cells #[.int .i64 (gg.l:Int),.string gg.sg,.int .i64 gg.r,.string gg.op,.int .i64 gg.z,.bool gg.wt,.slice gg.no gg.nd.length gg.nc] 158))
      have xJ:=hide hbA
      have ym:=hide gw
      have yq:=hide L4
      have aP:=hide hkj
      have aY:=hide hlt
      have rK:=hide htake
      have V6:=hide Cz
      have Le:=hide hnl
      have RD:=hide Rw
      have V7:=hide Rx
      have V8:=hide Ry
      clear nW Jm hbA gw L4 hkj hlt htake Cz hnl Rw Rx Ry fc jN hndR hndZ
      go_wp2_with fail
      refine(ae IM).mono ?_
      rintro e w2 ⟨⟨ak,av,ax,ao,an,ac⟩,⟨bk,bv,bx,bo,bn,bc⟩,⟨ck,cv,cx,co,cn,cc⟩,N4,mo4,mc4,rfl,nm4,hv4,rvA,rvB,rvC,fg4⟩
      have hb2:=(ae xJ).names nm4 fg4
      have RF:=(fg4.block _ (af (ae Rz)) ((ae xJ).nm.apart (ae Rz) (by decide) (by decide))).trans (ae Rz)
      have eV:(Za.bh N4).length=N4.length:=by unfold Za.bh;simp
      have eV3:(Za.bh N3).length=N3.length:=by unfold Za.bh;simp
      have hN4:N4.length≤N3.length+3000:=by
       have hz:∀(M:List Za.Vr) (x:Int),(x=(gg.l:Int)∨x=gg.r∨x=gg.z)→(gY S.T M x).length≤M.length+1000:=fun M x hx=>by
        unfold gY
        split
        ·omega
        ·rename_i hne
         exact Nat.le_trans (iM _ _) (by have:=ae yq x hx hne;omega)
       rw[←eV,hv4]
       have h1:=hz (gY S.T (gY S.T (Za.bh N3) (gg.l:Int)) gg.r) gg.z (Or.inr (Or.inr rfl))
       have h2:=hz (gY S.T (Za.bh N3) (gg.l:Int)) gg.r (Or.inr (Or.inl rfl))
       have h3:=hz (Za.bh N3) (gg.l:Int) (Or.inl rfl)
       omega
      have RG:Za.bh N4=Jj S.T (jW S.T (dX S.T V).2 (S.G.take i)).2 gg:=by
       rw[hv4,ae V6]
       rfl
      have hsl:Za.size (S.T gg.l)≤1000:=by have:=ae yq (gg.l:Int) (Or.inl rfl) (by omega);simpa using this
      have hAl:=Za.oN (N:=Za.bh N4) (by rw[eV];omega) (S.T gg.l) (ae iV _ (ae ym).ll)
      have hR:gg.sg.toList≠[]→gg.r≠-1∧gg.r.toNat<S.D.length:=fun q=>by
       obtain⟨n,q1,q2⟩:=(ae ym).rr q
       rw[q1]
       exact⟨by omega,by simpa using q2⟩
      have hZ:gg.op.toList≠[]→gg.z≠-1∧gg.z.toNat<S.D.length:=fun q=>by
       obtain⟨n,q1,q2⟩:=(ae ym).zz q
       rw[q1]
       exact⟨by omega,by simpa using q2⟩
      have hbI:=(Below.refl w2.heap.size w2).alloc (Nat.le_refl _) (.cells #[.int .i64 ak,.int .i64 av,.string ax,.slice ao an ac,.string gg.sg,.int .i64 bk,.int .i64 bv,.string bx,.slice bo bn bc,.string gg.op,.int .i64 ck,.int .i64 cv,.string cx,.slice co cn cc] 151)
      have RH:gg.sg.size≤2:=by
       rw[←Za.ng]
       rcases(ae ym).sg with q | q | q<;>(rw[q];decide)
      have IT:∀{a:AV} {u:Za.U},RV 1000 (Za.bh N4) anyA w2 a u→Za.oM u→Za.size u≤1000→∀W,Below w2.heap.size w2 W→Calls Tryz.prog 58 #[.agg #[.int .i64 a.k,.int .i64 a.val,.string a.tx,.slice a.ao a.n a.cap]] W fun e w'=>e= .returned (.string ⟨(Za.bM Lib.itoa (Za.bh N4) u).toArray⟩)∧Below W.heap.size W w':=fun {a u} rv hsm hsz W hu=>stU_all 1000 W (Za.bh N4) anyA a u (rv.keep fun g _ _ hg=>⟨(hu.block g (af hg)).trans hg,trivial⟩) ((ae El).below (hb2.be.trans (hu.mono hb2.be.size))) (by rw[eV];omega) hsm hsz
      have IS:=hide (OG _ ⟨⟨ak,av,ax,ao,an,ac⟩,⟨bk,bv,bx,bo,bn,bc⟩,⟨ck,cv,cx,co,cn,cc⟩,gg.sg,gg.op⟩ (Za.bM Lib.itoa (Za.bh N4) (S.T gg.l)) (if gg.sg.toList=[]then []else Za.bM Lib.itoa (Za.bh N4) (S.T gg.r.toNat)) (if gg.op.toList=[]then []else Za.bM Lib.itoa (Za.bh N4) (S.T gg.z.toNat)) (by omega) (by
       split
       ·simp
       ·rename_i q
        have h1:=Za.oN (N:=Za.bh N4) (by rw[eV];omega) (S.T gg.r.toNat) (ae iV _ (hR q).2)
        have h2:=ae yq _ (Or.inr (Or.inl rfl)) (hR q).1
        omega) (by
       split
       ·simp
       ·rename_i q
        have h1:=Za.oN (N:=Za.bh N4) (by rw[eV];omega) (S.T gg.z.toNat) (ae iV _ (hZ q).2)
        have h2:=ae yq _ (Or.inr (Or.inr rfl)) (hZ q).1
        omega) RH (ae ym).ol (fun W hu=>IT (a:=⟨ak,av,ax,ao,an,ac⟩) rvA (ae iV _ (ae ym).ll) hsl W (hbI.trans (hu.mono (by simp)))) (fun q W hu=>by
        rw[if_neg q]
        exact IT (a:=⟨bk,bv,bx,bo,bn,bc⟩) (rvB (hR q).1) (ae iV _ (hR q).2) (ae yq _ (Or.inr (Or.inl rfl)) (hR q).1) W (hbI.trans (hu.mono (by simp)))) (fun _ q W hu=>by
        rw[if_neg q]
        exact IT (a:=⟨ck,cv,cx,co,cn,cc⟩) (rvC (hZ q).1) (ae iV _ (hZ q).2) (ae yq _ (Or.inr (Or.inr rfl)) (hZ q).1) W (hbI.trans (hu.mono (by simp)))))
      have CD:Za.mM (Za.bM Lib.itoa (Za.bh N4) (S.T gg.l)) gg.sg.toList (if gg.sg.toList=[]then []else Za.bM Lib.itoa (Za.bh N4) (S.T gg.r.toNat)) gg.op.toList (if gg.op.toList=[]then []else Za.bM Lib.itoa (Za.bh N4) (S.T gg.z.toNat))=En S.T (Za.bh N4) gg:=by
       unfold En Za.mM
       by_cases q1:gg.sg.toList=[]
       ·rw[if_pos q1,if_pos q1]
       ·rw[if_neg q1,if_neg q1,if_neg q1]
        by_cases q2:gg.op.toList=[]
        ·rw[if_pos q2,if_pos q2]
        ·rw[if_neg q2,if_neg q2,if_neg q2]
      dsimp only at IS
      rw[CD]at IS
      have aX:=hide hb2
      have L5:=hide RF
      have iW:=hide hN4
      have RI:=hide RG
      clear hb2 RF hN4 RG eV eV3 hsl hAl hR hZ hbI RH IT CD rvA rvB rvC fg4 nm4 hv4 IM e0 e1 e2 e3 e4 e5 e6
      generalize hSTR:En S.T (Za.bh N4) gg=STR at*
      have LZ:=hide hSTR
      clear hSTR
      go_wp2_with fail
      refine(ae IS).mono ?_
      rintro e w4 ⟨rfl,hb4⟩
      have vh:Below w2.heap.size w2 w4:=((Below.refl _ w2).alloc (Nat.le_refl _) _).trans (hb4.mono (by simp))
      have rh:=(ae aX).below vh
      have RJ:=(vh.block _ (af (ae L5))).trans (ae L5)
      have r3:=ag rh.rb 3
      have rx3:=aq rh.rb 3
      have rz:=af rh.rb
      simp only[List.getElem?_toArray,List.getElem?_cons_zero,List.getElem?_cons_succ]at r3
      have Jl:=hide (show some (w.heap.size+1)≠(Value.slice go i gc).ownBlock from bP (aN rh.og rh.rb (by decide)))
      have UK:=hide rh.og
      have yr:=hide rh
      have CF:=hide RJ
      have bz4:b2≤w4.heap.size:=rh.bz
      have hil:i≤100:=by have:=ae aY;omega
      clear rh RJ vh hb4 IS aX L5
      generalize uR:(jW S.T (dX S.T V).2 (S.G.take i)).1.map gW=GS at*
      have PR:=hide uR
      clear uR
      generalize hys:((S.G.take i).map fun g=>Value.bool (!fT S.fr g))=YS at*
      have XK:=hide hys
      clear hys
      go_wp2_with (at_builtin;go_must (refine wpList_append_own_at _ rfl (.tmp 81) (.tmp 83) 29 rfl b2 9 ti (.string ⟨#[]⟩) 1 16 Tryz.underlying29 hi hz0 hz1 hz2 rfl (by decide) (.slice go i gc) i GS rfl ((ae UK).alloc _) ⟨w4.heap.size,0,none⟩ 1 1 [.string ⟨STR.toArray⟩] rfl rfl (ie _ _ _ _ rfl) (by simp[Value.oneCell']) (by unfold maxLen;omega) (by omega) (by simp;omega) ?_);go_must (intro v' w7 hown' hgrow _ hat;obtain⟨g',cap',hv',-⟩:=ed hown';subst hv';have jq:=hide ((ae yr).goal (s:= .string ⟨STR.toArray⟩) hown' hgrow);have m2:=(hgrow.cell_far ⟨w.heap.size+1,3,none⟩ (by simp;omega) (ae Jl)).trans ((World.cell?_alloc_past _ _ _ rz).trans r3);have k9:w7.frozen? ⟨w.heap.size+1,3,none⟩=false:=(by have:=aq (ae jq).rb 3;rwa [World.frozen?_setCell]at this);have zz7:w.heap.size+1<w7.heap.size:=(by have:=af (ae jq).rb;rwa [cC]at this);have rq:=((pj (cell:=3) (ae yr).og hgrow (ae yr).rb (by decide) (.slice (some ⟨g',0,none⟩) (i+1) cap')).1 _ (fun e=>by have:=(ae yr).rb;rw[←e,ae CF]at this;simp only[Option.some.injEq,Obj.cells.injEq]at this;exact absurd this.2.1 (by decide)) (aN (ae yr).og (ae CF) (by decide)) (af (ae CF))).trans (ae CF);have d0:=ag rq 0;have d1:=ag rq 1;have d2:=ag rq 2;have d3:=ag rq 3;have d4:=ag rq 4;have d5:=ag rq 5;have d6:=ag rq 6;have dz:=af rq;simp only[List.getElem?_toArray,List.getElem?_cons_zero,List.getElem?_cons_succ]at d0 d1 d2 d3 d4 d5 d6;clear hown' hgrow hat rq))
      have kO:=(ae jq).be
      have IR:=hide (uZ _ mb _ _ S.D nO nC S.fr gg 0 ((ae HH).st.below kO) (ae HH).ok (ah (ae RD) fun k q=>kO.block k ((ae RD).lt k q).2) (ae V7) (ae V8))
      clear kO
      refine(ae IR).mono ?_
      rintro e w8 ⟨rfl,lq⟩
      have ry:=(ae jq).below lq
      have r4:=ag ry.rb 4
      have rx4:=aq ry.rb 4
      have rz8:=af ry.rb
      simp only[List.getElem?_toArray,List.getElem?_cons_zero,List.getElem?_cons_succ]at r4
      have V9:=hide (show some (w.heap.size+1)≠(Value.slice yo i yc).ownBlock from bP (aN ry.oy ry.rb (by decide)))
      have XL:=hide ry.oy
      have Wa:=hide ry
      have bz8:b2≤w8.heap.size:=ry.bz
      clear ry lq IR jq m2 k9 zz7 d0 d1 d2 d3 d4 d5 d6 dz UK yr CF Jl r3 rx3 rz
      generalize xp:fT S.fr gg=rd at*
      have I0:=hide xp
      clear xp
      go_wp2_with (at_builtin;go_must (refine wpList_append_own_at _ rfl (.tmp 90) (.tmp 93) 30 rfl b2 4 tb (.bool false) 1 1 Tryz.underlying30 XH hb0 hb1 hb2 rfl (by decide) (.slice yo i yc) i YS rfl ((ae XL).alloc _) ⟨w8.heap.size,0,none⟩ 1 1 [.bool (!rd)] rfl rfl (ie _ _ _ _ rfl) (by simp[Value.oneCell']) (by unfold maxLen;omega) (by omega) (by simp;omega) ?_);go_must (intro v' w9 hown' hgrow _ hat;obtain⟨g9,cap9,hv',-⟩:=ed hown';subst hv';have jq:=hide ((ae Wa).wait (s:= .bool (!rd)) hown' hgrow);have m2:=(hgrow.cell_far ⟨w.heap.size+1,4,none⟩ (by simp;omega) (ae V9)).trans ((World.cell?_alloc_past _ _ _ rz8).trans r4);have k9:w9.frozen? ⟨w.heap.size+1,4,none⟩=false:=(by have:=aq (ae jq).rb 4;rwa [World.frozen?_setCell]at this);have zz7:w.heap.size+1<w9.heap.size:=(by have:=af (ae jq).rb;rwa [cC]at this);clear hown' hgrow hat))
      go_roundg (gk - 1)
      case measure=>have:=ae aP;have:=ae aY;omega
      case rel=>
       refine⟨i+1,N4,mo4,mc4,some ⟨g',0,none⟩,cap',some ⟨g9,0,none⟩,cap9,by have:=ae aP;have:=ae aY;omega,by go_num,?_,by have:=ae iW;have:=ae Le;omega,?_⟩
       ·rw[ae rK,zP]
        exact ae RI
       ·have hb:=ae jq
        rw[←ae PR,←ae XK]at hb
        rw[ae rK,zP]
        have e1:(stepG S.T (jW S.T (dX S.T V).2 (S.G.take i)) gg).1.map gW=(jW S.T (dX S.T V).2 (S.G.take i)).1.map gW++[.string ⟨STR.toArray⟩]:=by
         unfold stepG
         rw[List.map_append,←ae RI,ae LZ]
         rfl
        have e2:((S.G.take i++[gg]).map fun g=>Value.bool (!fT S.fr g))=((S.G.take i).map fun g=>Value.bool (!fT S.fr g))++[.bool (!rd)]:=by
         rw[List.map_append,List.map_cons,ae I0]
         rfl
        rw[e1,e2]
        exact hb
     ·obtain rfl:i=S.G.length:=by omega
      rw[List.take_length]at Cz nW
      have XM:=hide nW
      have r0:=ag nW.rb
      have z0:=ag nW.zb
      have zx:=aq nW.zb
      have rz:=af nW.rb
      have zz:=af nW.zb
      clear nW hkj hlt Cz hnl
      go_wp2_with fail
      refine bodyPost_ret (v:= .agg #[.int .i64 en,.slice lo L.length lc,.slice xo V.length xc,.slice go S.G.length gc,.slice yo S.G.length yc]) (by simp[results,Tryz.results47,go_sem,z0]) rfl ?_
      have hb:=ae XM
      have hk:∀k,k≠w.heap.size→(((((wr.setCell ⟨w.heap.size,0,none⟩ (.int .i64 en)).setCell ⟨w.heap.size,1,none⟩ (.slice lo L.length lc)).setCell ⟨w.heap.size,2,none⟩ (.slice xo V.length xc)).setCell ⟨w.heap.size,3,none⟩ (.slice go S.G.length gc)).setCell ⟨w.heap.size,4,none⟩ (.slice yo S.G.length yc)).heap[k]?=wr.heap[k]?:=fun k q=>by
       rw[aF _ _ _ _ q,aF _ _ _ _ q,aF _ _ _ _ q,aF _ _ _ _ q,aF _ _ _ _ q]
      have bw:=hb.bw
      refine⟨xo,xc,go,gc,yo,yc,rfl,bZ (ah hb.ox fun k q=>hk k (by have:=(hb.ox.lt k q).1;omega)) (by omega),bZ (ah hb.og fun k q=>hk k (by have:=(hb.og.lt k q).1;omega)) (by omega),bZ (ah hb.oy fun k q=>hk k (by have:=(hb.oy.lt k q).1;omega)) (by omega),fun k q r=> ?_,((((hb.be.setCell (Nat.le_refl _) _).setCell (Nat.le_refl _) _).setCell (Nat.le_refl _) _).setCell (Nat.le_refl _) _).setCell (Nat.le_refl _) _⟩
      have:=hb.xb k q
      have:=(bY hb.og r).1
      omega
end Go.Proofs.YthfjnfcekeknlaaGreatDoor
namespace Go.Proofs.YthfjnfcekeknlaaGreatDoor
open Go.RowKit
inductive yt (cls:List Za.aG) (V:List Nat) (script:List (Int×Int)) (S0:bX):Nat→bX→List Int→Prop
 | start:yt cls V script S0 0 S0 []
 | step {j:Nat} {S S':bX} {L:List Int} {pg pc z:Int} {i:Nat} (h:yt cls V script S0 j S L) (hs:script[j]?=some (pg,pc)) (hi:(b9 S.fr S.G S.G.length)[dh pg (b9 S.fr S.G S.G.length).length]?=some i) (hg:Cl cls S S' i pc z) (hl:mK V S'=false):yt cls V script S0 (j+1) S' (L++[z])
def RM (V:List Nat) (S:bX):Prop:=(∀v∈V,Za.size (S.T v)≤300)∧∀g∈S.G,∀x:Int,x=(g.l:Int)∨x=g.r∨x=g.z→x≠-1→Za.size (S.T x.toNat)≤300
theorem rA {T:Nat→Za.U} {x:Int} (h:fR T x=false) (hx:x≠-1):Za.size (T x.toNat)≤40:=by
 unfold fR at h
 have:=of_decide_eq_false h
 omega
theorem F6 {w:World} {mb:Nat} {cls:List Za.aG} {clo:Option Addr} {clc:Nat} {V:List Nat} {vo:Option Addr} {vc:Nat} {L:List Int} {lo:Option Addr} {lc:Nat} {S:bX} {nO:Option Addr} {nC:Nat} {po:Option Addr} {pc:Nat} (h:dM w mb cls clo clc V vo vc L lo lc S nO nC po pc) (hl:mK V S=false):RM V S∧S.G.length≤24:=by
 unfold mK at hl
 simp only[Bool.or_eq_false_iff,decide_eq_false_iff_not]at hl
 obtain⟨h1,h2,h3⟩:=hl
 refine⟨⟨fun v hv=> ?_,fun g hg x hx hne=> ?_⟩,by omega⟩
 ·have:=List.any_eq_false.1 h2 (v:Int) (List.mem_map.2 ⟨v,hv,rfl⟩)
  have:=rA (T:=S.T) (x:=(v:Int)) (by simpa using this) (by omega)
  simp at this
  omega
 ·have hb:∀y∈iC S.D S.fr g,fR S.T y=false:=fun y hy=>by
   have:=List.any_eq_false.1 h3 g hg
   unfold je at this
   have:=List.any_eq_false.1 (by simpa using this) y hy
   simpa using this
  have gw:=h.gw g hg
  by_cases hs:g.sg.toList=[]
  ·have hr:=gw.r0 hs
   have hz:g.z= -1:=by
    by_cases ho:g.op.toList=[]
    ·exact gw.z0 ho
    ·have:=gw.oe ho;rw[hs]at this;cases this
   have hxl:x=(g.l:Int):=by
    rcases hx with q | q | q
    ·exact q
    ·exact absurd (q.trans hr) hne
    ·exact absurd (q.trans hz) hne
   rw[hxl]
   have e0:((g.l:Int)).toNat=g.l:=by simp
   rw[e0]
   have hf:=h.mc.ok.lt gw.ll
   obtain⟨d,hd,zM,Ux,Nc,sN⟩:=(⟨h.mc.st,h.mc.ok,h.to,h.ar,Nat.le_refl _⟩:fW w w.heap.size mb 1 _ 91 S.D nO nC S.fr S.T _).node gw.ll
   obtain⟨tx,us,htx⟩:=gw.nm hs
   have hk1:d.k≠1:=fun q=>by rw[Nc q]at htx;cases htx
   obtain⟨lk,ltx,lnum,hlab,hT⟩:=sN hk1
   rw[hT,Za.size]
   have CG:iC S.D S.fr g=d.args.map fun n:Nat=>(n:Int):=by
    unfold iC
    rw[if_pos hs,hd]
    rfl
   have hal:d.args.length≤3:=by
    rcases zM.ks with q | q | q
    ·rw[(zM.v q).2.2.2];simp
    ·rw[(zM.m q).2.2];simp
    ·exact(zM.c q).2.2
   have key:∀(ns:List Nat),(∀n∈ns,Za.size (S.T n)≤40)→Za.sizeL (ns.map S.T)≤ns.length*40:=by
    intro ns
    induction ns with
    | nil=>intro _;simp[Za.sizeL]
    | cons n ns ih=>
     intro hn
     have h1:=hn n (by simp)
     have h2:=ih (fun m hm=>hn m (by simp[hm]))
     rw[List.map_cons,Za.sizeL,List.length_cons]
     omega
   have:=key d.args (fun n hn=>by
    have:=rA (T:=S.T) (x:=(n:Int)) (hb _ (by rw[CG];exact List.mem_map.2 ⟨n,hn,rfl⟩)) (by omega)
    simpa using this)
   omega
  ·have CG:iC S.D S.fr g=[(g.l:Int),g.r,g.z]:=by unfold iC;rw[if_neg hs]
   have:=rA (T:=S.T) (x:=x) (hb x (by rw[CG];rcases hx with q | q | q<;>simp[q])) hne
   omega
theorem dM.start {P:Nat→Prop} {w1 w3:World} {mb cb:Nat} {cls:List Za.aG} {clo:Option Addr} {clc:Nat} {TT:Nat→Za.U} {N:List (List UInt8)} {items:List Za.aC} {E:List Ng} {F:List Nat} {no':Option Addr} {nc':Nat} {vo':Option Addr} {vc':Nat} {T':Nat→Za.U} {Gn:List Gl} {po':Option Addr} {pc':Nat} (h:Ca P w1 mb (pX clo cls.length clc none 0 0 none 0 0 none 0 0 none 0 0 0) cb [] [] none none id TT [] none N [] items E F no' nc' vo' vc' T' Gn po' pc' w3) (hcl:cP w3 clo cls.length cls) (hgl:∀x∈items,Za.iN x):
 dM (w3.setCell ⟨mb,2,none⟩ (.slice vo' F.length vc')) mb cls clo clc F vo' vc' [] none 0 ⟨E,id,T',Gn⟩ no' nc' po' pc':=by
 have ms:=h.ms
 have mc:=h.mc
 simp only[List.nil_append]at ms mc
 have hblk:=au mc.st.blk 2 (.slice vo' F.length vc')
 have kT:∀{k:Nat} {ys:Array Value} {Y:TypeId},w3.heap[k]?=some (.cells ys Y (0,0))→Y≠91→(w3.setCell ⟨mb,2,none⟩ (.slice vo' F.length vc')).heap[k]?=w3.heap[k]?:=fun {k ys Y} hk h1=>aF _ _ _ _ (fun e=>by
  rw[e,mc.st.blk]at hk
  simp only[Option.some.injEq,Obj.cells.injEq]at hk
  exact h1 hk.2.1.symm)
 have kR:∀{b n cap sz:Nat} {Y:TypeId} {o:Option Addr} {zs:List Value},w3.ownsRow b Y sz (.slice o n cap) n zs→Y≠91→(w3.setCell ⟨mb,2,none⟩ (.slice vo' F.length vc')).ownsRow b Y sz (.slice o n cap) n zs:=fun {b n cap sz Y o zs} ho h1=>ah ho fun k q=>by
  obtain⟨cur,hc⟩:=aH ho (aD q)
  exact kT hc h1
 have sY:=h.gl.length
 refine⟨⟨⟨hblk,rfl,kR mc.st.own (by decide),mc.st.ty⟩,mc.ok,rfl,kR mc.pool (by decide),fun g hg=>kR (mc.nds g hg) (by decide),mc.nlt,mc.nl⟩,ms.to,ms.ad.args.keep fun g _ _ hg=>⟨(kT hg (by decide)).trans hg,fun⟨_,q,_⟩=>by cases q⟩,kR ms.ad.sc.own (by decide),ms.lt,World.ownsRow_nil _ _ _ _,(fun k ⟨_,q,_⟩=>by cases q),(fun g _ k _ ⟨_,q,_⟩=>by cases q),?_,?_,fun g hg=> ?_,?_⟩
 ·exact(show dR w3 _ from fun k ys Y hk hY=>(kT hk (by rcases hY with e | e | e<;>(rw[e];decide))).trans hk).cls hcl
 ·have:=h.nd.val (D:=[]) (fun d hd=>by cases hd)
  simpa using this
 ·change g∈Gn at hg
  obtain⟨j,hj,rfl⟩:=List.getElem_of_mem hg
  have:=(h.gl.at j (by omega) hj).gw (hgl _ (List.getElem_mem (by omega)))
  simpa using this
 ·have:=h.nd.Eh (D:=[]) (fun d hd=>by cases hd)
  simpa using this
end Go.Proofs.YthfjnfcekeknlaaGreatDoor
