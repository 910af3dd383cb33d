import Derived.Test.YthfjnfcekeknlabGreatDoorPx23
import Derived.Test.YthfjnfcekeknlabGreatDoorPx28
import Derived.Test.YthfjnfcekeknlabGreatDoorPx29
import Derived.Deep.DeepCutAuto
import Derived.Deep.LoopGhost
import Derived.Lib.SlBytesRow
import Derived.OpenShut
import Derived.Lib.ItoaNum
set_option maxHeartbeats 8000000
set_option maxRecDepth 100000
set_option linter.unusedSimpArgs false
namespace af
def p9 (A sg B op C:List UInt8):List UInt8:=if sg=[]then A else if op=[]then A++(sg++B)++[]else A++(sg++B)++(op++C)
end af
namespace Go.Proofs.YthfjnfcekeknlabGreatDoor
open Go.RowKit af
theorem Kq (w:World) (v:JV) (A B C:List UInt8) (hA:A.length<=1000000) (hB:B.length<=1000000) (hC:C.length<=1000000) (hsl:v.sg.size<=2) (hol:v.op.size<=2) (IA:∀W,Below w.heap.size w W->Calls Tryz.prog 73 #[.agg #[.int .i64 v.a.k,.int .i64 v.a.val,.string v.a.tx,.slice v.a.ao v.a.n v.a.cap]] W fun e w'=>e= .returned (.string ⟨A.toArray⟩)/\Below W.heap.size W w') (IB:v.sg.toList≠[]->∀W,Below w.heap.size w W->Calls Tryz.prog 73 #[.agg #[.int .i64 v.b.k,.int .i64 v.b.val,.string v.b.tx,.slice v.b.ao v.b.n v.b.cap]] W fun e w'=>e= .returned (.string ⟨B.toArray⟩)/\Below W.heap.size W w') (IC:v.sg.toList≠[]->v.op.toList≠[]->∀W,Below w.heap.size w W->Calls Tryz.prog 73 #[.agg #[.int .i64 v.c.k,.int .i64 v.c.val,.string v.c.tx,.slice v.c.ao v.c.n v.c.cap]] W fun e w'=>e= .returned (.string ⟨C.toArray⟩)/\Below W.heap.size W w'):
 Calls Tryz.prog 75 #[.agg #[.int .i64 v.a.k,.int .i64 v.a.val,.string v.a.tx,.slice v.a.ao v.a.n v.a.cap,.string v.sg,.int .i64 v.b.k,.int .i64 v.b.val,.string v.b.tx,.slice v.b.ao v.b.n v.b.cap,.string v.op,.int .i64 v.c.k,.int .i64 v.c.val,.string v.c.tx,.slice v.c.ao v.c.n v.c.cap]] w fun e w'=>e= .returned (.string ⟨(p9 A v.sg.toList B v.op.toList C).toArray⟩)/\Below w.heap.size w w':=by
 obtain⟨⟨ak0,av0,ax0,ao0,an0,ac0⟩,⟨bk0,bv0,bx0,bo0,bn0,bc0⟩,⟨ck0,cv0,cx0,co0,cn0,cc0⟩,sg,op⟩:=v;dsimp only at*;have hb0:=(al w.heap.size w).alloc Qw (.cells #[.int .i64 ak0,.int .i64 av0,.string ax0,.slice ao0 an0 ac0,.string sg,.int .i64 bk0,.int .i64 bv0,.string bx0,.slice bo0 bn0 bc0,.string op,.int .i64 ck0,.int .i64 cv0,.string cx0,.slice co0 cn0 cc0] 125);have hbx:=aB w (.cells #[.int .i64 ak0,.int .i64 av0,.string ax0,.slice ao0 an0 ac0,.string sg,.int .i64 bk0,.int .i64 bv0,.string bx0,.slice bo0 bn0 bc0,.string op,.int .i64 ck0,.int .i64 cv0,.string cx0,.slice co0 cn0 cc0] 125);have HB0:=ah hb0;have HBX:=ah hbx;have HIA:=ah (IA _ hb0);clear hb0 hbx IA;by_cases h1:sg.toList=[]
 ·have HF:=ah (show p9 A sg.toList B op.toList C=A by unfold p9;rw[aH h1])
  have t1:(sg.toList == [])=true:=by rw[h1];rfl
  clear IB IC h1;go_enter Tryz.func75,Tryz.ntmps75;go_wp2_with fail;refine(ae HIA).mono ?_;rintro e w1 ⟨rfl,hb1⟩;have hbx1:=(hb1.block w.heap.size (by simp)).trans (ae HBX);have r1:=aN hbx1 4;have z1:=aD hbx1;simp only[aE,aq,aA]at r1;have HB1:=ah ((ae HB0).trans (hb1.mono (ae HB0).size));clear hb1 hbx1;go_wp2_with fail;go_ret;exact⟨by rw[ae HF];rfl,ae HB1⟩
 ·have t1:(sg.toList == [])=false:=by simpa using h1
  have HSG:=ah (fx (rfl:sg.toList=sg.toList));have HIB:=ah (IB h1);by_cases h2:op.toList=[]
  ·have HF:=ah (show p9 A sg.toList B op.toList C=A++(sg.toList++B)++[]by unfold p9;rw[aG h1,aH h2])
   have t2:(op.toList == [])=true:=by rw[h2];rfl
   clear IB IC h1 h2;go_enter Tryz.func75,Tryz.ntmps75;go_wp2_with fail;refine(ae HIA).mono ?_;rintro e w1 ⟨rfl,hb1⟩;have hbx1:=(hb1.block w.heap.size (by simp)).trans (ae HBX);have r1:=aN hbx1;have z1:=aD hbx1;have hb1':=(ae HB0).trans (hb1.mono (ae HB0).size);have HB1:=ah hb1';have HBX1:=ah hbx1;clear hb1 hbx1 hb1';go_wp2_with fail;refine(ae HIB _ (ae HB1)).mono ?_;rintro e w2 ⟨rfl,hb2⟩;have hbx2:=(hb2.block w.heap.size z1).trans (ae HBX1);have r2:=aN hbx2;have z2:=aD hbx2;have HB2:=ah ((ae HB1).trans (hb2.mono (ae HB1).size));clear hb2 hbx2 r1 z1;go_wp2_with fail;go_ret;refine⟨?_,ae HB2⟩;rw[ae HF,<-O',<-ae HSG];rfl
  ·have HF:=ah (show p9 A sg.toList B op.toList C=A++(sg.toList++B)++(op.toList++C)by unfold p9;rw[aG h1,aG h2])
   have t2:(op.toList == [])=false:=by simpa using h2
   have HOP:=ah (fx (rfl:op.toList=op.toList));have HIC:=ah (IC h1 h2);clear IB IC h1 h2;go_enter Tryz.func75,Tryz.ntmps75;go_wp2_with fail;refine(ae HIA).mono ?_;rintro e w1 ⟨rfl,hb1⟩;have hbx1:=(hb1.block w.heap.size (by simp)).trans (ae HBX);have r1:=aN hbx1;have z1:=aD hbx1;have hb1':=(ae HB0).trans (hb1.mono (ae HB0).size);have HB1:=ah hb1';have HBX1:=ah hbx1;clear hb1 hbx1 hb1';go_wp2_with fail;refine(ae HIB _ (ae HB1)).mono ?_;rintro e w2 ⟨rfl,hb2⟩;have hbx2:=(hb2.block w.heap.size z1).trans (ae HBX1);have r2:=aN hbx2;have z2:=aD hbx2;have hb2':=(ae HB1).trans (hb2.mono (ae HB1).size);have HB2:=ah hb2';have HBX2:=ah hbx2;clear hb2 hbx2 r1 z1 hb2';go_wp2_with fail;refine(ae HIC _ (ae HB2)).mono ?_;rintro e w3 ⟨rfl,hb3⟩;have hbx3:=(hb3.block w.heap.size z2).trans (ae HBX2);have r3:=aN hbx3;have z3:=aD hbx3;have HB3:=ah ((ae HB2).trans (hb3.mono (ae HB2).size));clear hb3 hbx3 r2 z2;go_wp2_with fail;go_ret;refine⟨?_,ae HB3⟩;rw[ae HF,<-O9,<-ae HSG,<-ae HOP];rfl
def pW (T:Nat->af.U) (N:List af.Vr) (x:Int):List af.Vr:=if x= -1 then N else cJ N (T x.toNat)
def Qc (T:Nat->af.U) (nb:Nat) (N:List Nat) (mo:Option Addr) (x:Int) (w:World) (e:Ending) (w':World):Prop:=∃(a:AV) (N':List Nat) (mo':Option Addr) (mc':Nat),e= .returned (.agg #[.int .i64 a.k,.int .i64 a.val,.string a.tx,.slice a.ao a.n a.cap])/\lZ w' nb N' mo' mc'/\fK N'=pW T (fK N) x/\(x≠-1->RV 1000 (fK N') (fun g=>w.heap.size<=g) w' a (T x.toNat))/\bZ (dw nb mo) (dw nb mo') w w'
theorem Mj (w:World) (mb:Nat) (cs:Array Value) (D:List Ng) (nO:Option Addr) (nC:Nat) (fr:Nat->Nat) (T:Nat->af.U) (nb:Nat) (N:List Nat) (mo:Option Addr) (mc:Nat) (x:Int) (hs:fS w mb 1 cs 88 D nO nC) (ok:g8 D fr) (hto:kx (e8 D) fr T) (hn:lZ w nb N mo mc) (har:di w D (fun g=>¬dw nb mo g)) (hx:tf D.length x) (hsz:x≠-1->af.size (T x.toNat)<=1000) (hN:N.length<=900000):
 Calls Tryz.prog 72 #[.pointer (some ⟨mb,1,none⟩),.int .i64 x,.pointer (some ⟨nb,0,none⟩)] w fun e w'=>Qc T nb N mo x w e w':=by
 rcases hx with rfl | ⟨n,rfl,hl⟩
 ·refine(EB w mb 1 nb cs _ D nO nC hs).mono ?_;rintro e w' ⟨rfl,hb⟩;exact⟨⟨0,0,⟨#[]⟩,none,0,0⟩,N,mo,mc,rfl,hn.below hb,by unfold pW;rw[aH rfl],fun q=>absurd rfl q,bZ.aX hb⟩
 ·have hne:((n:Int))≠-1:=by omega
  have hz:=hsz hne;have e0:((n:Int)).toNat=n:=by simp
  rw[e0]at hz;refine(Aa 1000 w mb 1 cs _ D nO nC fr n (T n) nb N mo mc hs (by decide) (by decide) ok hn har hl (hto.tr n) hz (by omega)).mono ?_;rintro e w' ⟨a,N',mo',mc',rfl,h1,h2,h3,h4⟩;refine⟨a,N',mo',mc',rfl,h1,by unfold pW;rw[aG hne,e0];exact h2,fun _=> ?_,h4⟩;rw[e0];exact h3
theorem oI (u:af.U):∀N,∃K,cJ N u=N++K:=by
 revert u;refine af.U.ind (fun x N=> ?_) (fun k tx num ss ih N=> ?_)
 ·show∃K,nk N x=N++K;unfold nk;split
  ·exact⟨[],by simp⟩
  ·exact⟨[x],rfl⟩
 ·rw[ij];induction ss generalizing N with
  | nil=>exact⟨[],by simp⟩
  | cons a ss ihs=>obtain⟨K1,h1⟩:=ih a (by simp) N;obtain⟨K2,h2⟩:=ihs (fun b hb=>ih b (by simp[hb])) (cJ N a);exact⟨K1++K2,by rw[bF,h2,h1,aK]⟩
theorem DQ (T:Nat->af.U) (N:List af.Vr) (x:Int):∃K,pW T N x=N++K:=by
 unfold pW;split
 ·exact⟨[],by simp⟩
 ·exact oI _ _
theorem iK (u:af.U):∀N,(cJ N u).length<=N.length+af.size u:=by
 revert u;refine af.U.ind (fun x N=> ?_) (fun k tx num ss ih N=> ?_)
 ·show (nk N x).length<=_;unfold nk;rw[af.size];split
  ·omega
  ·simp
 ·rw[ij,af.size]
  have key:∀(ss:List af.U) N,(∀a∈ss,∀N,(cJ N a).length<=N.length+af.size a)->(ss.foldl cJ N).length<=N.length+b8 ss:=by
   intro ss;induction ss with
   | nil=>intro N _;simp
   | cons a ss ihs=>intro N h;have h1:=h a (by simp) N;have h2:=ihs (cJ N a) (fun b hb=>h b (by simp[hb]));rw[bF,b8];omega
  have:=key ss N ih;omega
theorem RV.fr {f:Nat} {N:List af.Vr} {P:Nat->Prop} {w w':World} {a:AV} {u:af.U} (h:RV f N P w a u) {nb:Nat} {M:List Nat} {mo:Option Addr} {mc:Nat} (hn:lZ w nb M mo mc) {R':Nat->Prop} (hf:bZ (dw nb mo) R' w w'):RV f N P w' a u:=h.keep fun g _ hp hg=>⟨(hf.block g (aD hg) (hn.apart hg (by decide) (by decide))).trans hg,hp⟩
theorem lZ.rf {w:World} {nb:Nat} {N:List Nat} {mo:Option Addr} {mc:Nat} (h:lZ w nb N mo mc) {b:Nat} {ys:Array Value} (hb:w.heap[b]?=some (.cells ys 74 (0,0))) (c:Nat) (v:Value):lZ (w.setCell ⟨b,c,none⟩ v) nb N mo mc:=
 ⟨(b6 _ _ _ _ (fun e=>by have:=h.blk;rw[e,hb]at this;simp only[aM,aR]at this;exact absurd this.2.1 (by decide))).trans h.blk,aO h.own fun g q=>b6 _ _ _ _ (fun e=>by obtain⟨cur,hc⟩:=bL h.own (bP q);rw[e,hb]at hc;simp only[aM,aR]at hc;exact absurd hc.2.1 (by decide))⟩
def SR (T:Nat->af.U) (nb:Nat) (x:Int) (W:World) (N1:List Nat) (mo1:Option Addr) (lv:Value) (wx:World):Prop:=∃(a:AV) (b:Nat) (N2:List Nat) (mo2:Option Addr) (mc2:Nat),lv= .pointer (some ⟨b,0,none⟩)/\bZ (dw nb mo1) (dw nb mo2) W wx/\lZ wx nb N2 mo2 mc2/\fK N2=pW T (fK N1) x/\(x≠-1->RV 1000 (fK N2) fk wx a (T x.toNat))/\wx.heap[b]?=some (.cells #[.int .i64 a.k,.int .i64 a.val,.string a.tx,.slice a.ao a.n a.cap] 74 (0,0))
def PK (T:Nat->af.U) (nb:Nat) (N:List Nat) (mo:Option Addr) (g:Gl) (w:World) (e:Ending) (w':World):Prop:=∃(a b c:AV) (N':List Nat) (mo':Option Addr) (mc':Nat),e= .returned (.agg #[.int .i64 a.k,.int .i64 a.val,.string a.tx,.slice a.ao a.n a.cap,.string g.sg,.int .i64 b.k,.int .i64 b.val,.string b.tx,.slice b.ao b.n b.cap,.string g.op,.int .i64 c.k,.int .i64 c.val,.string c.tx,.slice c.ao c.n c.cap])/\lZ w' nb N' mo' mc'/\fK N'=pW T (pW T (pW T (fK N) (g.l:Int)) g.r) g.z/\RV 1000 (fK N') fk w' a (T g.l)/\(g.r≠-1->RV 1000 (fK N') fk w' b (T g.r.toNat))/\(g.z≠-1->RV 1000 (fK N') fk w' c (T g.z.toNat))/\bZ (dw nb mo) (dw nb mo') w w'
theorem lZ.other {w w':World} {nb:Nat} {N:List Nat} {mo:Option Addr} {mc:Nat} (h:lZ w nb N mo mc) {b:Nat} {ys:Array Value} {Y:TypeId} (hb:w.heap[b]?=some (.cells ys Y (0,0))) (h1:Y≠136) (h2:Y≠3) (hk:∀k,k≠b->w'.heap[k]?=w.heap[k]?):lZ w' nb N mo mc:=by have key:∀k,dw nb mo k->w'.heap[k]?=w.heap[k]?:=fun k q=>hk k (fun e=>h.apart hb h1 h2 (e ▸ q));exact⟨(key nb (ay rfl)).trans h.blk,aO h.own fun g q=>key g (aw (bP q))⟩
theorem Nx {T:Nat->af.U} {nb:Nat} {N N1 N2 N3:List Nat} {mo mo3:Option Addr} {mc3 l nc:Nat} {sg op:ByteArray} {r z:Int} {wt:Bool} {no:Option Addr} {nd:List Nat} {w W3:World} {ak1 av1 ak2 av2 ak3 av3:Int} {ax1 ax2 ax3:ByteArray} {ao1 ao2 ao3:Option Addr} {an1 ac1 an2 ac2 an3 ac3:Nat} {ys:Array Value} (hf:bZ (dw nb mo) (dw nb mo3) w W3) (hn:lZ W3 nb N3 mo3 mc3) (hrx:W3.heap[w.heap.size+1]?=some (.cells ys 125 (0,0))) (hv:fK N3=pW T (pW T (pW T (fK N) (l:Int)) r) z) (hv2:fK N2=pW T (fK N1) r) (hv3:fK N3=pW T (fK N2) z) (h1:(l:Int)≠-1->RV 1000 (fK N1) fk W3 ⟨ak1,av1,ax1,ao1,an1,ac1⟩ (T (l:Int).toNat)) (h2:r≠-1->RV 1000 (fK N2) fk W3 ⟨ak2,av2,ax2,ao2,an2,ac2⟩ (T r.toNat)) (h3:z≠-1->RV 1000 (fK N3) fk W3 ⟨ak3,av3,ax3,ao3,an3,ac3⟩ (T z.toNat)):
 PK T nb N mo ⟨l,sg,r,op,z,wt,no,nc,nd⟩ w (.returned (.agg #[.int .i64 ak1,.int .i64 av1,.string ax1,.slice ao1 an1 ac1,.string sg,.int .i64 ak2,.int .i64 av2,.string ax2,.slice ao2 an2 ac2,.string op,.int .i64 ak3,.int .i64 av3,.string ax3,.slice ao3 an3 ac3])) (((((((((((((((W3).setCell ⟨w.heap.size+1,0,none⟩ (.int .i64 ak1)).setCell ⟨w.heap.size+1,1,none⟩ (.int .i64 av1)).setCell ⟨w.heap.size+1,2,none⟩ (.string ax1)).setCell ⟨w.heap.size+1,3,none⟩ (.slice ao1 an1 ac1)).setCell ⟨w.heap.size+1,4,none⟩ (.string sg)).setCell ⟨w.heap.size+1,5,none⟩ (.int .i64 ak2)).setCell ⟨w.heap.size+1,6,none⟩ (.int .i64 av2)).setCell ⟨w.heap.size+1,7,none⟩ (.string ax2)).setCell ⟨w.heap.size+1,8,none⟩ (.slice ao2 an2 ac2)).setCell ⟨w.heap.size+1,9,none⟩ (.string op)).setCell ⟨w.heap.size+1,10,none⟩ (.int .i64 ak3)).setCell ⟨w.heap.size+1,11,none⟩ (.int .i64 av3)).setCell ⟨w.heap.size+1,12,none⟩ (.string ax3)).setCell ⟨w.heap.size+1,13,none⟩ (.slice ao3 an3 ac3)):=by
 have hk:∀k,k≠w.heap.size+1->(((((((((((((((W3).setCell ⟨w.heap.size+1,0,none⟩ (.int .i64 ak1)).setCell ⟨w.heap.size+1,1,none⟩ (.int .i64 av1)).setCell ⟨w.heap.size+1,2,none⟩ (.string ax1)).setCell ⟨w.heap.size+1,3,none⟩ (.slice ao1 an1 ac1)).setCell ⟨w.heap.size+1,4,none⟩ (.string sg)).setCell ⟨w.heap.size+1,5,none⟩ (.int .i64 ak2)).setCell ⟨w.heap.size+1,6,none⟩ (.int .i64 av2)).setCell ⟨w.heap.size+1,7,none⟩ (.string ax2)).setCell ⟨w.heap.size+1,8,none⟩ (.slice ao2 an2 ac2)).setCell ⟨w.heap.size+1,9,none⟩ (.string op)).setCell ⟨w.heap.size+1,10,none⟩ (.int .i64 ak3)).setCell ⟨w.heap.size+1,11,none⟩ (.int .i64 av3)).setCell ⟨w.heap.size+1,12,none⟩ (.string ax3)).setCell ⟨w.heap.size+1,13,none⟩ (.slice ao3 an3 ac3)).heap[k]?=W3.heap[k]?:=fun k q=>by rw[b6 _ _ _ _ q,b6 _ _ _ _ q,b6 _ _ _ _ q,b6 _ _ _ _ q,b6 _ _ _ _ q,b6 _ _ _ _ q,b6 _ _ _ _ q,b6 _ _ _ _ q,b6 _ _ _ _ q,b6 _ _ _ _ q,b6 _ _ _ _ q,b6 _ _ _ _ q,b6 _ _ _ _ q,b6 _ _ _ _ q]
 obtain⟨K2,e2⟩:=DQ T (fK N1) r;obtain⟨K3,e3⟩:=DQ T (fK N2) z;have keep:∀{f:Nat} {M:List af.Vr} {a:AV} {u:af.U},RV f M fk W3 a u->RV f M fk (((((((((((((((W3).setCell ⟨w.heap.size+1,0,none⟩ (.int .i64 ak1)).setCell ⟨w.heap.size+1,1,none⟩ (.int .i64 av1)).setCell ⟨w.heap.size+1,2,none⟩ (.string ax1)).setCell ⟨w.heap.size+1,3,none⟩ (.slice ao1 an1 ac1)).setCell ⟨w.heap.size+1,4,none⟩ (.string sg)).setCell ⟨w.heap.size+1,5,none⟩ (.int .i64 ak2)).setCell ⟨w.heap.size+1,6,none⟩ (.int .i64 av2)).setCell ⟨w.heap.size+1,7,none⟩ (.string ax2)).setCell ⟨w.heap.size+1,8,none⟩ (.slice ao2 an2 ac2)).setCell ⟨w.heap.size+1,9,none⟩ (.string op)).setCell ⟨w.heap.size+1,10,none⟩ (.int .i64 ak3)).setCell ⟨w.heap.size+1,11,none⟩ (.int .i64 av3)).setCell ⟨w.heap.size+1,12,none⟩ (.string ax3)).setCell ⟨w.heap.size+1,13,none⟩ (.slice ao3 an3 ac3)) a u:=fun {f M a u} q=>q.keep fun g _ _ hg=>⟨(hk g (fun e=>by rw[e,hrx]at hg;simp only[aM,aR]at hg;exact absurd hg.2.1 (by decide))).trans hg,trivial⟩;refine⟨⟨ak1,av1,ax1,ao1,an1,ac1⟩,⟨ak2,av2,ax2,ao2,an2,ac2⟩,⟨ak3,av3,ax3,ao3,an3,ac3⟩,N3,mo3,mc3,rfl,hn.other hrx (by decide) (by decide) hk,hv,?_,fun q=> ?_,fun q=>keep (h3 q),((((((((((((((hf).iG (bS _) 0 _).iG (bS _) 1 _).iG (bS _) 2 _).iG (bS _) 3 _).iG (bS _) 4 _).iG (bS _) 5 _).iG (bS _) 6 _).iG (bS _) 7 _).iG (bS _) 8 _).iG (bS _) 9 _).iG (bS _) 10 _).iG (bS _) 11 _).iG (bS _) 12 _).iG (bS _) 13 _⟩
 ·have:=keep (h1 (by omega));have e0:((l:Int)).toNat=l:=by simp
  rw[e0]at this;have t:=(this.more K2).more K3;rwa [<-e2,<-hv2,<-e3,<-hv3]at t
 ·have t:=(keep (h2 q)).more K3;rwa [<-e3,<-hv3]at t
theorem Fp (w:World) (mb:Nat) (cs:Array Value) (D:List Ng) (nO:Option Addr) (nC:Nat) (fr:Nat->Nat) (T:Nat->af.U) (nb:Nat) (N:List Nat) (mo:Option Addr) (mc:Nat) (g:Gl) (hs:fS w mb 1 cs 88 D nO nC) (ok:g8 D fr) (hto:kx (e8 D) fr T) (hn:lZ w nb N mo mc) (har:di w D (fun g=>¬dw nb mo g)) (hl:g.l<D.length) (hr:tf D.length g.r) (hz:tf D.length g.z) (hsz:∀x:Int,x=(g.l:Int)\/x=g.r\/x=g.z->x≠-1->af.size (T x.toNat)<=1000) (hN:N.length<=800000):
 Calls Tryz.prog 74 #[.pointer (some ⟨mb,0,none⟩),.agg #[.int .i64 (g.l:Int),.string g.sg,.int .i64 g.r,.string g.op,.int .i64 g.z,.bool g.wt,.slice g.no g.nd.length g.nc],.pointer (some ⟨nb,0,none⟩)] w fun e w'=>PK T nb N mo g w e w':=by
 obtain⟨l,sg,r,op,z,wt,no,nc,nd⟩:=g;dsimp only at*;have IT:=ah (fun(x:Int) (N1:List Nat) (mo1:Option Addr) (mc1:Nat) (W:World) (hf:bZ (dw nb mo) (dw nb mo1) w W) (hn1:lZ W nb N1 mo1 mc1) (hx:tf D.length x) (hq:x≠-1->af.size (T x.toNat)<=1000) (hl1:N1.length<=900000)=>Mj W mb cs D nO nC fr T nb N1 mo1 mc1 x (hs.OI hn (by decide) (by decide) hf) ok hto hn1 (har.OI hf) hx hq hl1);have HXL:=ah (show tf D.length (l:Int)from aw ⟨l,rfl,hl⟩)
 have HXR:=ah hr;have HXZ:=ah hz;have HSZ:=ah hsz;have mz:=aD hs.blk;have hb0:=((al w.heap.size w).alloc Qw (.cells #[.int .i64 (l:Int),.string sg,.int .i64 r,.string op,.int .i64 z,.bool wt,.slice no nd.length nc] 133)).alloc (by simp) (.cells #[.int .i64 0,.int .i64 0,.string ⟨#[]⟩,.slice none 0 0,.string ⟨#[]⟩,.int .i64 0,.int .i64 0,.string ⟨#[]⟩,.slice none 0 0,.string ⟨#[]⟩,.int .i64 0,.int .i64 0,.string ⟨#[]⟩,.slice none 0 0] 125);have hgx:=aQ (aB w (.cells #[.int .i64 (l:Int),.string sg,.int .i64 r,.string op,.int .i64 z,.bool wt,.slice no nd.length nc] 133)) (.cells #[.int .i64 0,.int .i64 0,.string ⟨#[]⟩,.slice none 0 0,.string ⟨#[]⟩,.int .i64 0,.int .i64 0,.string ⟨#[]⟩,.slice none 0 0,.string ⟨#[]⟩,.int .i64 0,.int .i64 0,.string ⟨#[]⟩,.slice none 0 0] 125);have hrx:=aB (w.alloc (.cells #[.int .i64 (l:Int),.string sg,.int .i64 r,.string op,.int .i64 z,.bool wt,.slice no nd.length nc] 133)) (.cells #[.int .i64 0,.int .i64 0,.string ⟨#[]⟩,.slice none 0 0,.string ⟨#[]⟩,.int .i64 0,.int .i64 0,.string ⟨#[]⟩,.slice none 0 0,.string ⟨#[]⟩,.int .i64 0,.int .i64 0,.string ⟨#[]⟩,.slice none 0 0] 125);rw[aF]at hrx;have HN0:=ah hn;have HLEN:=ah (show∀(N1:List Nat) (x:Int) (N2:List Nat),fK N2=pW T (fK N1) x->(x≠-1->af.size (T x.toNat)<=1000)->N2.length<=N1.length+1000 from fun N1 x N2 he hq=>by
  have e1:(fK N2).length=N2.length:=by unfold fK;simp
  have e2:(fK N1).length=N1.length:=by unfold fK;simp
  rw[<-e1,he,<-e2];unfold pW;split
  ·omega
  ·rename_i hne;exact aW (iK _ _) (by have:=hq hne;omega))
 have hfg0:bZ (dw nb mo) (dw nb mo) w ((w.alloc (.cells #[.int .i64 (l:Int),.string sg,.int .i64 r,.string op,.int .i64 z,.bool wt,.slice no nd.length nc] 133)).alloc (.cells #[.int .i64 0,.int .i64 0,.string ⟨#[]⟩,.slice none 0 0,.string ⟨#[]⟩,.int .i64 0,.int .i64 0,.string ⟨#[]⟩,.slice none 0 0,.string ⟨#[]⟩,.int .i64 0,.int .i64 0,.string ⟨#[]⟩,.slice none 0 0] 125)):=bZ.aX hb0;have hnm0:=hn.below hb0;have hz0:w.heap.size+2<=((w.alloc (.cells #[.int .i64 (l:Int),.string sg,.int .i64 r,.string op,.int .i64 z,.bool wt,.slice no nd.length nc] 133)).alloc (.cells #[.int .i64 0,.int .i64 0,.string ⟨#[]⟩,.slice none 0 0,.string ⟨#[]⟩,.int .i64 0,.int .i64 0,.string ⟨#[]⟩,.slice none 0 0,.string ⟨#[]⟩,.int .i64 0,.int .i64 0,.string ⟨#[]⟩,.slice none 0 0] 125)).heap.size:=by simp
 go_enter Tryz.func74,Tryz.ntmps74;go_upto_region 1 with fail;generalize hW0:((w.alloc (.cells #[.int .i64 (l:Int),.string sg,.int .i64 r,.string op,.int .i64 z,.bool wt,.slice no nd.length nc] 133)).alloc (.cells #[.int .i64 0,.int .i64 0,.string ⟨#[]⟩,.slice none 0 0,.string ⟨#[]⟩,.int .i64 0,.int .i64 0,.string ⟨#[]⟩,.slice none 0 0,.string ⟨#[]⟩,.int .i64 0,.int .i64 0,.string ⟨#[]⟩,.slice none 0 0] 125))=W0 at*;have x0:=aN hgx 0;have gz:=aD hgx;simp only[aE,aq]at x0;have HGX:=ah hgx;have HRX:=ah hrx;have HFG0:=ah hfg0;have HNM0:=ah hnm0;clear hs ok hto hn har hl hr hz hsz hb0 hgx hrx hfg0 hnm0 hW0;go_cut [7] (fun lv wx=>SR T nb (l:Int) W0 N mo lv wx)
 case first=>
  go_region_with (go_at_call 72;refine(ae IT (l:Int) N mo mc _ ((ae HFG0).trans (bZ.aX (by first | exact Qx | exact Qx.drew | exact(Qx.alloc Qw _).drew | exact Qx.alloc Qw _))) ((ae HNM0).below (by first | exact Qx | exact Qx.drew | exact(Qx.alloc Qw _).drew | exact Qx.alloc Qw _)) (ae HXL) (ae HSZ _ (ay rfl)) (by have:=hN;omega)).mono ?_;rintro y w1 ⟨⟨ak,av,ax,ao,an,ac⟩,Nn,mon,mcn,rfl,nm,hv,rv,fg⟩;first | (have ab:=(fg.block W0.heap.size (by simp) (fun q=>by have:=(ae HNM0).rows _ q;omega)).trans (aB W0 (.cells #[.int .i64 0,.int .i64 0,.string ⟨#[]⟩,.slice none 0 0] 74));have ab0:=aN ab 0;have ab1:=aN ab 1;have ab2:=aN ab 2;have ab3:=aN ab 3;have ay0:=bI ab 0;have ay1:=bI ab 1;have ay2:=bI ab 2;have ay3:=bI ab 3;have abz:=aD ab;simp only[aE,aq,aA]at ab0 ab1 ab2 ab3) | skip)
  all_goals
   first
    | (have hab:=bB (bB (bB (bB ab 0 (.int .i64 ak)) 1 (.int .i64 av)) 2 (.string ax)) 3 (.slice ao an ac)
       have fgn:=((((((bZ.aX (R:=dw nb mo) (by first | exact Qx | exact Qx.drew | exact(Qx.alloc Qw _).drew | exact Qx.alloc Qw _)).trans fg).iG Qw 0 (.int .i64 ak)).iG Qw 1 (.int .i64 av)).iG Qw 2 (.string ax)).iG Qw 3 (.slice ao an ac):bZ (dw nb mo) (dw nb mon) W0 _);have nmn:=((((nm.rf ab 0 (.int .i64 ak)).rf (bB ab 0 (.int .i64 ak)) 1 (.int .i64 av)).rf (bB (bB ab 0 (.int .i64 ak)) 1 (.int .i64 av)) 2 (.string ax)).rf (bB (bB (bB ab 0 (.int .i64 ak)) 1 (.int .i64 av)) 2 (.string ax)) 3 (.slice ao an ac));have rvn:=(fun q=>(rv q).keep (Q:=fk) (w':=((((w1.setCell ⟨W0.heap.size,0,none⟩ (.int .i64 ak)).setCell ⟨W0.heap.size,1,none⟩ (.int .i64 av)).setCell ⟨W0.heap.size,2,none⟩ (.string ax)).setCell ⟨W0.heap.size,3,none⟩ (.slice ao an ac))) fun g _ hp hg=>⟨by have hne:g≠W0.heap.size:=(by have:W0.heap.size+1<=g:=(by simpa using hp);omega);rw[b6 _ _ _ _ hne,b6 _ _ _ _ hne,b6 _ _ _ _ hne,b6 _ _ _ _ hne];exact hg,trivial⟩))
    | (have hab:=aB w1 (.cells #[.int .i64 ak,.int .i64 av,.string ax,.slice ao an ac] 74)
       have fgn:=(((bZ.aX (R:=dw nb mo) (by first | exact Qx | exact Qx.drew | exact(Qx.alloc Qw _).drew | exact Qx.alloc Qw _)).trans fg).trans (bZ.aX (Qx.alloc Qw (.cells #[.int .i64 ak,.int .i64 av,.string ax,.slice ao an ac] 74))):bZ (dw nb mo) (dw nb mon) W0 _);have nmn:=nm.below (Qx.alloc Qw (.cells #[.int .i64 ak,.int .i64 av,.string ax,.slice ao an ac] 74));have rvn:=(fun q=>(rv q).keep (Q:=fk) (w':=w1.alloc (.cells #[.int .i64 ak,.int .i64 av,.string ax,.slice ao an ac] 74)) fun g _ _ hg=>⟨(aZ _ _ _ (aD hg)).trans hg,trivial⟩))
   try simp only[ef,ec,ed]at hab
   go_wp2_with fail;go_meet;exact⟨⟨ak,av,ax,ao,an,ac⟩,_,Nn,mon,mcn,rfl,fgn,nmn,hv,rvn,hab⟩
 case rest=>
  obtain⟨⟨ak1,av1,ax1,ao1,an1,ac1⟩,b1,N1,mo1,mc1,rfl,fgn,nmn,hv,rvn,hab⟩:=hcut;generalize hWc:wc=W1 at*;clear hWc;have hgx:=(fgn.block _ (aD (ae HGX)) ((ae HNM0).apart (ae HGX) (by decide) (by decide))).trans (ae HGX);have hrx:=(fgn.block _ (aD (ae HRX)) ((ae HNM0).apart (ae HRX) (by decide) (by decide))).trans (ae HRX);have HFGn:=ah ((ae HFG0).trans fgn);have HLN1:=ah (show N1.length<=800000+1000 by have:=ae HLEN N (l:Int) N1 hv (ae HSZ _ (ay rfl));have:=hN;omega)
  have HV1:=ah hv;clear HGX HRX HFG0 HNM0;have HGX:=ah hgx;have HRX:=ah hrx;have HFG1:=HFGn;have HNM1:=ah nmn;have HAB1:=ah hab;have HRV1:=ah rvn;have x1:=aN hgx 2;have gz1:=aD hgx;simp only[aE,aq,aA]at x1;clear hab fgn nmn rvn hgx hrx hv x0 HFGn;go_upto_region 2 with fail;go_cut [8] (fun lv wx=>SR T nb r W1 N1 mo1 lv wx)
  case first=>
   go_region_with (go_at_call 72;refine(ae IT r N1 mo1 mc1 _ ((ae HFG1).trans (bZ.aX (by first | exact Qx | exact Qx.drew | exact(Qx.alloc Qw _).drew | exact Qx.alloc Qw _))) ((ae HNM1).below (by first | exact Qx | exact Qx.drew | exact(Qx.alloc Qw _).drew | exact Qx.alloc Qw _)) (ae HXR) (ae HSZ _ (aw (ay rfl))) (by have:=(ae HLN1);omega)).mono ?_;rintro y w1 ⟨⟨ak,av,ax,ao,an,ac⟩,Nn,mon,mcn,rfl,nm,hv,rv,fg⟩;first | (have ab:=(fg.block W1.heap.size (by simp) (fun q=>by have:=(ae HNM1).rows _ q;omega)).trans (aB W1 (.cells #[.int .i64 0,.int .i64 0,.string ⟨#[]⟩,.slice none 0 0] 74));have ab0:=aN ab 0;have ab1:=aN ab 1;have ab2:=aN ab 2;have ab3:=aN ab 3;have ay0:=bI ab 0;have ay1:=bI ab 1;have ay2:=bI ab 2;have ay3:=bI ab 3;have abz:=aD ab;simp only[aE,aq,aA]at ab0 ab1 ab2 ab3) | skip)
   all_goals
    first
     | (have hab:=bB (bB (bB (bB ab 0 (.int .i64 ak)) 1 (.int .i64 av)) 2 (.string ax)) 3 (.slice ao an ac)
        have fgn:=((((((bZ.aX (R:=dw nb mo1) (by first | exact Qx | exact Qx.drew | exact(Qx.alloc Qw _).drew | exact Qx.alloc Qw _)).trans fg).iG Qw 0 (.int .i64 ak)).iG Qw 1 (.int .i64 av)).iG Qw 2 (.string ax)).iG Qw 3 (.slice ao an ac):bZ (dw nb mo1) (dw nb mon) W1 _);have nmn:=((((nm.rf ab 0 (.int .i64 ak)).rf (bB ab 0 (.int .i64 ak)) 1 (.int .i64 av)).rf (bB (bB ab 0 (.int .i64 ak)) 1 (.int .i64 av)) 2 (.string ax)).rf (bB (bB (bB ab 0 (.int .i64 ak)) 1 (.int .i64 av)) 2 (.string ax)) 3 (.slice ao an ac));have rvn:=(fun q=>(rv q).keep (Q:=fk) (w':=((((w1.setCell ⟨W1.heap.size,0,none⟩ (.int .i64 ak)).setCell ⟨W1.heap.size,1,none⟩ (.int .i64 av)).setCell ⟨W1.heap.size,2,none⟩ (.string ax)).setCell ⟨W1.heap.size,3,none⟩ (.slice ao an ac))) fun g _ hp hg=>⟨by have hne:g≠W1.heap.size:=(by have:W1.heap.size+1<=g:=(by simpa using hp);omega);rw[b6 _ _ _ _ hne,b6 _ _ _ _ hne,b6 _ _ _ _ hne,b6 _ _ _ _ hne];exact hg,trivial⟩))
     | (have hab:=aB w1 (.cells #[.int .i64 ak,.int .i64 av,.string ax,.slice ao an ac] 74)
        have fgn:=(((bZ.aX (R:=dw nb mo1) (by first | exact Qx | exact Qx.drew | exact(Qx.alloc Qw _).drew | exact Qx.alloc Qw _)).trans fg).trans (bZ.aX (Qx.alloc Qw (.cells #[.int .i64 ak,.int .i64 av,.string ax,.slice ao an ac] 74))):bZ (dw nb mo1) (dw nb mon) W1 _);have nmn:=nm.below (Qx.alloc Qw (.cells #[.int .i64 ak,.int .i64 av,.string ax,.slice ao an ac] 74));have rvn:=(fun q=>(rv q).keep (Q:=fk) (w':=w1.alloc (.cells #[.int .i64 ak,.int .i64 av,.string ax,.slice ao an ac] 74)) fun g _ _ hg=>⟨(aZ _ _ _ (aD hg)).trans hg,trivial⟩))
    try simp only[ef,ec,ed]at hab
    go_wp2_with fail;go_meet;exact⟨⟨ak,av,ax,ao,an,ac⟩,_,Nn,mon,mcn,rfl,fgn,nmn,hv,rvn,hab⟩
  case rest=>
   obtain⟨⟨ak2,av2,ax2,ao2,an2,ac2⟩,b2,N2,mo2,mc2,rfl,fgn,nmn,hv,rvn,hab⟩:=hcut;generalize hWc:wc=W2 at*;clear hWc;have hgx:=(fgn.block _ (aD (ae HGX)) ((ae HNM1).apart (ae HGX) (by decide) (by decide))).trans (ae HGX);have hrx:=(fgn.block _ (aD (ae HRX)) ((ae HNM1).apart (ae HRX) (by decide) (by decide))).trans (ae HRX);have hab1:=(fgn.block _ (aD (ae HAB1)) ((ae HNM1).apart (ae HAB1) (by decide) (by decide))).trans (ae HAB1);have rv1:=(fun q=>((ae HRV1) q).fr (ae HNM1) fgn);clear HAB1 HRV1;have HAB1:=ah hab1;have HRV1:=ah rv1;clear hab1 rv1;have HFGn:=ah ((ae HFG1).trans fgn);have HLN2:=ah (show N2.length<=800000+2000 by have:=ae HLEN N1 r N2 hv (ae HSZ _ (aw (ay rfl)));have:=(ae HLN1);omega)
   have HV2:=ah hv;clear HGX HRX HFG1 HNM1;have HGX:=ah hgx;have HRX:=ah hrx;have HFG2:=HFGn;have HNM2:=ah nmn;have HAB2:=ah hab;have HRV2:=ah rvn;have x2:=aN hgx 4;have gz2:=aD hgx;simp only[aE,aq,aA]at x2;clear hab fgn nmn rvn hgx hrx hv x1 HFGn;go_upto_region 3 with fail;go_cut [9] (fun lv wx=>SR T nb z W2 N2 mo2 lv wx)
   case first=>
    go_region_with (go_at_call 72;refine(ae IT z N2 mo2 mc2 _ ((ae HFG2).trans (bZ.aX (by first | exact Qx | exact Qx.drew | exact(Qx.alloc Qw _).drew | exact Qx.alloc Qw _))) ((ae HNM2).below (by first | exact Qx | exact Qx.drew | exact(Qx.alloc Qw _).drew | exact Qx.alloc Qw _)) (ae HXZ) (ae HSZ _ (aw (aw rfl))) (by have:=(ae HLN2);omega)).mono ?_;rintro y w1 ⟨⟨ak,av,ax,ao,an,ac⟩,Nn,mon,mcn,rfl,nm,hv,rv,fg⟩;first | (have ab:=(fg.block W2.heap.size (by simp) (fun q=>by have:=(ae HNM2).rows _ q;omega)).trans (aB W2 (.cells #[.int .i64 0,.int .i64 0,.string ⟨#[]⟩,.slice none 0 0] 74));have ab0:=aN ab 0;have ab1:=aN ab 1;have ab2:=aN ab 2;have ab3:=aN ab 3;have ay0:=bI ab 0;have ay1:=bI ab 1;have ay2:=bI ab 2;have ay3:=bI ab 3;have abz:=aD ab;simp only[aE,aq,aA]at ab0 ab1 ab2 ab3) | skip)
    all_goals
     first
      | (have hab:=bB (bB (bB (bB ab 0 (.int .i64 ak)) 1 (.int .i64 av)) 2 (.string ax)) 3 (.slice ao an ac)
         have fgn:=((((((bZ.aX (R:=dw nb mo2) (by first | exact Qx | exact Qx.drew | exact(Qx.alloc Qw _).drew | exact Qx.alloc Qw _)).trans fg).iG Qw 0 (.int .i64 ak)).iG Qw 1 (.int .i64 av)).iG Qw 2 (.string ax)).iG Qw 3 (.slice ao an ac):bZ (dw nb mo2) (dw nb mon) W2 _);have nmn:=((((nm.rf ab 0 (.int .i64 ak)).rf (bB ab 0 (.int .i64 ak)) 1 (.int .i64 av)).rf (bB (bB ab 0 (.int .i64 ak)) 1 (.int .i64 av)) 2 (.string ax)).rf (bB (bB (bB ab 0 (.int .i64 ak)) 1 (.int .i64 av)) 2 (.string ax)) 3 (.slice ao an ac));have rvn:=(fun q=>(rv q).keep (Q:=fk) (w':=((((w1.setCell ⟨W2.heap.size,0,none⟩ (.int .i64 ak)).setCell ⟨W2.heap.size,1,none⟩ (.int .i64 av)).setCell ⟨W2.heap.size,2,none⟩ (.string ax)).setCell ⟨W2.heap.size,3,none⟩ (.slice ao an ac))) fun g _ hp hg=>⟨by have hne:g≠W2.heap.size:=(by have:W2.heap.size+1<=g:=(by simpa using hp);omega);rw[b6 _ _ _ _ hne,b6 _ _ _ _ hne,b6 _ _ _ _ hne,b6 _ _ _ _ hne];exact hg,trivial⟩))
      | (have hab:=aB w1 (.cells #[.int .i64 ak,.int .i64 av,.string ax,.slice ao an ac] 74)
         have fgn:=(((bZ.aX (R:=dw nb mo2) (by first | exact Qx | exact Qx.drew | exact(Qx.alloc Qw _).drew | exact Qx.alloc Qw _)).trans fg).trans (bZ.aX (Qx.alloc Qw (.cells #[.int .i64 ak,.int .i64 av,.string ax,.slice ao an ac] 74))):bZ (dw nb mo2) (dw nb mon) W2 _);have nmn:=nm.below (Qx.alloc Qw (.cells #[.int .i64 ak,.int .i64 av,.string ax,.slice ao an ac] 74));have rvn:=(fun q=>(rv q).keep (Q:=fk) (w':=w1.alloc (.cells #[.int .i64 ak,.int .i64 av,.string ax,.slice ao an ac] 74)) fun g _ _ hg=>⟨(aZ _ _ _ (aD hg)).trans hg,trivial⟩))
     try simp only[ef,ec,ed]at hab
     go_wp2_with fail;go_meet;exact⟨⟨ak,av,ax,ao,an,ac⟩,_,Nn,mon,mcn,rfl,fgn,nmn,hv,rvn,hab⟩
   case rest=>
    obtain⟨⟨ak3,av3,ax3,ao3,an3,ac3⟩,b3,N3,mo3,mc3,rfl,fgn,nmn,hv,rvn,hab⟩:=hcut;generalize hWc:wc=W3 at*;clear hWc;have hgx:=(fgn.block _ (aD (ae HGX)) ((ae HNM2).apart (ae HGX) (by decide) (by decide))).trans (ae HGX);have hrx:=(fgn.block _ (aD (ae HRX)) ((ae HNM2).apart (ae HRX) (by decide) (by decide))).trans (ae HRX);have hab1:=(fgn.block _ (aD (ae HAB1)) ((ae HNM2).apart (ae HAB1) (by decide) (by decide))).trans (ae HAB1);have rv1:=(fun q=>((ae HRV1) q).fr (ae HNM2) fgn);clear HAB1 HRV1;have HAB1:=ah hab1;have HRV1:=ah rv1;clear hab1 rv1;have hab2:=(fgn.block _ (aD (ae HAB2)) ((ae HNM2).apart (ae HAB2) (by decide) (by decide))).trans (ae HAB2);have rv2:=(fun q=>((ae HRV2) q).fr (ae HNM2) fgn);clear HAB2 HRV2;have HAB2:=ah hab2;have HRV2:=ah rv2;clear hab2 rv2;have HFGn:=ah ((ae HFG2).trans fgn);have HLN3:=ah (show N3.length<=800000+3000 by have:=ae HLEN N2 z N3 hv (ae HSZ _ (aw (aw rfl)));have:=(ae HLN2);omega)
    have HV3:=ah hv;clear HGX HRX HFG2 HNM2;have HGX:=ah hgx;have HRX:=ah hrx;have HFG3:=HFGn;have HNM3:=ah nmn;have HAB3:=ah hab;have HRV3:=ah rvn;have x3:=aN hgx 1;have gz3:=aD hgx;simp only[aE,aq,aA]at x3;clear hab fgn nmn rvn hgx hrx hv x2 HFGn;have y0:=aN (ae HGX) 1;have y1:=aN (ae HGX) 3;have ra:=aN (ae HAB1);have rb:=aN (ae HAB2);have rc:=aN (ae HAB3);have rx:=aN (ae HRX);have rxf:=bI (ae HRX);have za:=aD (ae HAB1);have zb:=aD (ae HAB2);have zc:=aD (ae HAB3);have zx:=aD (ae HRX);have a0:=ra 0;have a1:=ra 1;have a2:=ra 2;have a3:=ra 3;have c0:=rb 0;have c1:=rb 1;have c2:=rb 2;have c3:=rb 3;have d0:=rc 0;have d1:=rc 1;have d2:=rc 2;have d3:=rc 3;simp only[aE,aq,aA]at y0 y1 a0 a1 a2 a3 c0 c1 c2 c3 d0 d1 d2 d3;clear ra rb rc;go_wp2_with fail;refine aI (v:= .agg #[.int .i64 ak1,.int .i64 av1,.string ax1,.slice ao1 an1 ac1,.string sg,.int .i64 ak2,.int .i64 av2,.string ax2,.slice ao2 an2 ac2,.string op,.int .i64 ak3,.int .i64 av3,.string ax3,.slice ao3 an3 ac3]) (by simp[results,Tryz.results74,go_sem,rx]) rfl ?_;exact Nx (ae HFG3) (ae HNM3) (ae HRX) (by rw[ae HV3,ae HV2,ae HV1]) (ae HV2) (ae HV3) (ae HRV1) (ae HRV2) (ae HRV3)
theorem Nu:(Tryz.prog.info? 4).map (fun i=>(i.zero,i.size,i.bytes))=some (some (.bool false),1,1):=by kernel_rfl
theorem Ck (w:World) (mb:Nat) (L:List Int) (lo:Option Addr) (lc:Nat) (en:Int) (h:my w mb L lo lc en) (he:en=4\/en=5\/en=6):
 Calls Tryz.prog 39 #[.pointer (some ⟨mb,0,none⟩)] w fun e w'=>e= .returned (.agg #[.int .i64 en,.slice lo L.length lc,.slice none 0 0,.slice none 0 0,.slice none 0 0])/\Below w.heap.size w w':=by
 obtain⟨cs,hb,h6,h4,h5,ho⟩:=h;have f4:=(aN hb 4).trans h4;have f5:=(aN hb 5).trans h5;have mz:=aD hb;clear hb h6 h4 h5 ho;rcases he with rfl | rfl | rfl
 all_goals
  go_enter Tryz.func39,Tryz.ntmps39;go_wp2_with fail;go_region
  all_goals
   go_wp2_with fail;refine aI (v:= .agg #[.int .i64 _,.slice lo L.length lc,.slice none 0 0,.slice none 0 0,.slice none 0 0]) (by simp[results,Tryz.results39,go_sem];rfl) rfl ?_;exact⟨rfl,((Qx.alloc Qw _).alloc (by simp) _).drew⟩
def uS (T:Nat->af.U) (a:List (List UInt8)×List af.Vr) (v:Nat):List (List UInt8)×List af.Vr:=(a.1++[d7 Lib.itoa (cJ a.2 (T v)) (T v)],cJ a.2 (T v))
def iF (T:Nat->af.U) (V:List Nat):List (List UInt8)×List af.Vr:=V.foldl (uS T) ([],[])
theorem uL (T:Nat->af.U) (V:List Nat) (v:Nat):iF T (V++[v])=uS T (iF T V) v:=by unfold iF;rw[cT];rfl
theorem xY (T:Nat->af.U) (V:List Nat):(iF T V).1.length=V.length:=by
 have key:∀(V:List Nat) (a:List (List UInt8)×List af.Vr),(V.foldl (uS T) a).1.length=a.1.length+V.length:=by
  intro V;induction V with
  | nil=>intro a;simp
  | cons v V ih=>intro a;rw[bF,ih];simp[uS];omega
 have:=key V ([],[]);simpa [iF] using this
def OH (T:Nat->af.U) (N:List af.Vr) (g:Gl):List af.Vr:=pW T (pW T (pW T N (g.l:Int)) g.r) g.z
def N9 (T:Nat->af.U) (N:List af.Vr) (g:Gl):List UInt8:=p9 (d7 Lib.itoa N (T g.l)) g.sg.toList (d7 Lib.itoa N (T g.r.toNat)) g.op.toList (d7 Lib.itoa N (T g.z.toNat))
def stepG (T:Nat->af.U) (a:List (List UInt8)×List af.Vr) (g:Gl):List (List UInt8)×List af.Vr:=(a.1++[N9 T (OH T a.2 g) g],OH T a.2 g)
def n7 (T:Nat->af.U) (N:List af.Vr) (G:List Gl):List (List UInt8)×List af.Vr:=G.foldl (stepG T) ([],N)
theorem vC (T:Nat->af.U) (N:List af.Vr) (G:List Gl) (g:Gl):n7 T N (G++[g])=stepG T (n7 T N G) g:=by unfold n7;rw[cT];rfl
theorem Bd (T:Nat->af.U) (N:List af.Vr) (G:List Gl):(n7 T N G).1.length=G.length:=by
 have key:∀(G:List Gl) (a:List (List UInt8)×List af.Vr),(G.foldl (stepG T) a).1.length=a.1.length+G.length:=by
  intro G;induction G with
  | nil=>intro a;simp
  | cons v V ih=>intro a;rw[bF,ih];simp[stepG];omega
 have:=key G ([],N);simpa [n7] using this
def lA (s:List UInt8):Value:= .string ⟨s.toArray⟩
theorem Km {D:List Ng} {fr:Nat->Nat} {T:Nat->af.U} (ok:g8 D fr) (hS:kx (e8 D) fr T) (hv:∀d∈D,-1000000000<=d.val/\d.val<=1000000000) (ht:∀d∈D,d.tx.size<=240):∀n,n<D.length->Ch (T n):=by
 have key:∀{n u},Tr (e8 D) fr n u->n<D.length->Ch u:=by
  intro n u h;induction h with
  | @var n _ _=>intro _ k tx num ss hm;simp[subs]at hm
  | @node n k tx num us hg hl _ ih=>
   intro hn;have hf:=ok.lt hn;have hd:=ok.nd (fr n) hf;have hmem:D[fr n]∈D:=aL hf;rw[m7 hf]at hg;rw[lO hf]at hl ih;refine Ch.mk ?_ fun a ha=> ?_
   ·have h1:=hv _ hmem
    have h2:=ht _ hmem;have h3:D[fr n].args.length<=3:=by
     rcases hd.ks with q | q | q
     ·rw[(hd.v q).2.2.2];simp
     ·rw[(hd.m q).2.2];simp
     ·exact(hd.c q).2.2
    unfold im at hg;split at hg
    ·cases hg
    ·split at hg
     ·injection hg with hg;injection hg with e1 hg;injection hg with e2 e3;subst e2 e3;exact⟨by simp,h1.1,h1.2,by omega⟩
     ·injection hg with hg;injection hg with e1 hg;injection hg with e2 e3;subst e2 e3;exact⟨by rw[lQ];exact h2,by omega,by omega,by omega⟩
   ·obtain⟨i,hi,rfl⟩:=bG ha;exact ih i _ us[i] (aj (by omega)) (aj hi) (hd.A7 _ (aL _))
 exact fun n hn=>key (hS.tr n) hn
structure VS (w:World) (T:Nat->af.U) (V:List Nat) (en:Int) (lo:Option Addr) (ln lc:Nat) (N:List Nat) (mo:Option Addr) (mc:Nat) (xo:Option Addr) (xc:Nat) (wr:World):Prop where
 nm:lZ wr (w.heap.size+2) N mo mc
 vr:fK N=(iF T V).2
 nl:N.length<=V.length*1000
 Aq:∀k,rowOf mo k->w.heap.size+3<=k
 ow:wr.ownsRow (w.heap.size+3) 9 1 (.slice xo V.length xc) V.length ((iF T V).1.map lA)
 rb:wr.heap[w.heap.size+1]?=some (.cells #[.int .i64 en,.slice lo ln lc,.slice xo V.length xc,.slice none 0 0,.slice none 0 0] 29 (0,0))
 zb:wr.heap[w.heap.size]?=some (.cells #[.int .i64 0,.slice none 0 0,.slice none 0 0,.slice none 0 0,.slice none 0 0] 29 (0,0))
 be:Below w.heap.size w wr
theorem mU {w4 w7:World} {n cell b rb:Nat} {xo:Option Addr} {xc:Nat} {Y:TypeId} {X:Obj} {xs:List Value} {C:Array Value} (ho:w4.ownsRow b Y 1 (.slice xo n xc) n xs) (hgr:(w4.alloc X).grownBy w7 (Value.slice xo n xc).ownBlock) (hrb:w4.heap[rb]?=some (.cells C 29 (0,0))) (hY:Y≠29) (v:Value):
 (∀k,k≠rb->¬rowOf xo k->k<w4.heap.size->(w7.setCell ⟨rb,cell,none⟩ v).heap[k]?=w4.heap[k]?)/\(w7.setCell ⟨rb,cell,none⟩ v).heap[rb]?=some (.cells (C.setIfInBounds cell v) 29 (0,0)):=by
 have hz:=aD hrb;refine⟨fun k h1 h2 h3=> ?_,?_⟩
 ·rw[b6 _ _ _ _ h1,hgr.block k (by simp;omega) (dF h2),aZ _ _ _ h3]
 ·refine bB ?_ cell v;rw[hgr.block rb (by simp;omega) (dF (cm ho hrb (de hY))),aZ _ _ _ hz];exact hrb
theorem qh {w w4 w7:World} {n cell b rb:Nat} {xo:Option Addr} {xc:Nat} {Y:TypeId} {X:Obj} {xs:List Value} (hbe:Below w.heap.size w w4) (ho:w4.ownsRow b Y 1 (.slice xo n xc) n xs) (hbb:w.heap.size<=b) (hgr:(w4.alloc X).grownBy w7 (Value.slice xo n xc).ownBlock) (hrb:w.heap.size<=rb) (v:Value):Below w.heap.size w (w7.setCell ⟨rb,cell,none⟩ v):=
 ((hbe.alloc hbe.size X).grown hgr (by have:=hbe.size;simp;omega) (fun k q=>by have:=(ho.lt k q).1;omega)).setCell hrb v
theorem lZ.res {w4 w7:World} {n cell b rb nb:Nat} {xo:Option Addr} {xc:Nat} {Y:TypeId} {X:Obj} {xs:List Value} {C:Array Value} {N:List Nat} {mo:Option Addr} {mc:Nat} (h:lZ w4 nb N mo mc) (ho:w4.ownsRow b Y 1 (.slice xo n xc) n xs) (hgr:(w4.alloc X).grownBy w7 (Value.slice xo n xc).ownBlock) (hrb:w4.heap[rb]?=some (.cells C 29 (0,0))) (hY:Y≠29) (h1:Y≠136) (h2:Y≠3) (v:Value):lZ (w7.setCell ⟨rb,cell,none⟩ v) nb N mo mc:=by obtain⟨keep,_⟩:=mU (cell:=cell) ho hgr hrb hY v;have key:∀{k:Nat} {ys:Array Value} {Z:TypeId},w4.heap[k]?=some (.cells ys Z (0,0))->Z≠Y->Z≠29->(w7.setCell ⟨rb,cell,none⟩ v).heap[k]?=w4.heap[k]?:=fun {k ys Z} hk q1 q2=>keep k (fun e=>by rw[e,hrb]at hk;simp only[aM,aR]at hk;exact q2 hk.2.1.symm) (cm ho hk q1) (aD hk);refine⟨(key h.blk (de h1) (by decide)).trans h.blk,aO h.own fun g q=> ?_⟩;obtain⟨cur,hc⟩:=bL h.own (bP q);exact key hc (de h2) (by decide)
theorem VS.next {w:World} {T:Nat->af.U} {V:List Nat} {en:Int} {lo:Option Addr} {ln lc:Nat} {N:List Nat} {mo:Option Addr} {mc:Nat} {xo:Option Addr} {xc:Nat} {w4:World} (h:VS w T V en lo ln lc N mo mc xo xc w4) {v:Nat} {N':List Nat} (hz:N'.length<=N.length+1000) (hv:fK N'=cJ (iF T V).2 (T v)) {mo':Option Addr} {mc':Nat} {w5:World} (hn:lZ w5 (w.heap.size+2) N' mo' mc') (hrw:∀k,rowOf mo' k->w.heap.size+3<=k) (how:w5.ownsRow (w.heap.size+3) 9 1 (.slice xo V.length xc) V.length ((iF T V).1.map lA)) (hrb:w5.heap[w.heap.size+1]?=some (.cells #[.int .i64 en,.slice lo ln lc,.slice xo V.length xc,.slice none 0 0,.slice none 0 0] 29 (0,0))) (hzb:w5.heap[w.heap.size]?=some (.cells #[.int .i64 0,.slice none 0 0,.slice none 0 0,.slice none 0 0,.slice none 0 0] 29 (0,0))) (hbe:Below w.heap.size w w5) {X:Obj} {w7:World} {g' cap':Nat} (hown:w7.ownsRow (w.heap.size+3) 9 1 (.slice (some ⟨g',0,none⟩) (V.length+1) cap') (V.length+1) ((iF T V).1.map lA++[lA (d7 Lib.itoa (fK N') (T v))])) (hgr:(w5.alloc X).grownBy w7 (Value.slice xo V.length xc).ownBlock):
 VS w T (V++[v]) en lo ln lc N' mo' mc' (some ⟨g',0,none⟩) cap' (w7.setCell ⟨w.heap.size+1,2,none⟩ (.slice (some ⟨g',0,none⟩) (V.length+1) cap')):=by
 obtain⟨keep,hrb'⟩:=mU (cell:=2) how hgr hrb (by decide) (.slice (some ⟨g',0,none⟩) (V.length+1) cap');have el:(V++[v]).length=V.length+1:=by simp
 refine⟨hn.res how hgr hrb (by decide) (by decide) (by decide) _,by rw[uL];exact hv,?_,hrw,?_,by rw[el];exact hrb',?_,qh hbe how (by omega) hgr (by omega) _⟩
 ·have:=h.nl;rw[el,d9];omega
 ·rw[el,uL];have e:(uS T (iF T V) v).1.map lA=(iF T V).1.map lA++[lA (d7 Lib.itoa (fK N') (T v))]:=by unfold uS;rw[dL,<-hv];rfl
  rw[e];exact aO hown fun k q=>b6 _ _ _ _ (fun e=>by have:=(hown.lt k q).1;omega)
 ·refine(keep w.heap.size (by omega) (fun q=> ?_) (aD hzb)).trans hzb;have:=(dx how q).1;omega
structure BN (w:World) (en:Int) (lo:Option Addr) (ln lc:Nat) (xo:Option Addr) (xn xc:Nat) (xs:List Value) (b2:Nat) (N:List Nat) (mo:Option Addr) (mc:Nat) (go:Option Addr) (gn gc:Nat) (gs:List Value) (yo:Option Addr) (yn yc:Nat) (ys:List Value) (wr:World):Prop where
 nm:lZ wr (w.heap.size+2) N mo mc
 Aq:∀k,rowOf mo k->w.heap.size+3<=k
 ox:wr.ownsRow (w.heap.size+3) 9 1 (.slice xo xn xc) xn xs
 xb:∀k,rowOf xo k->k<b2
 og:wr.ownsRow b2 9 1 (.slice go gn gc) gn gs
 oy:wr.ownsRow b2 4 1 (.slice yo yn yc) yn ys
 rb:wr.heap[w.heap.size+1]?=some (.cells #[.int .i64 en,.slice lo ln lc,.slice xo xn xc,.slice go gn gc,.slice yo yn yc] 29 (0,0))
 zb:wr.heap[w.heap.size]?=some (.cells #[.int .i64 0,.slice none 0 0,.slice none 0 0,.slice none 0 0,.slice none 0 0] 29 (0,0))
 be:Below w.heap.size w wr
 bw:w.heap.size+3<=b2
 bz:b2<=wr.heap.size
section
variable {w:World} {en:Int} {lo:Option Addr} {ln lc:Nat} {xo:Option Addr} {xn xc:Nat} {xs:List Value} {b2:Nat} {N:List Nat} {mo:Option Addr} {mc:Nat} {go:Option Addr} {gn gc:Nat} {gs:List Value} {yo:Option Addr} {yn yc:Nat} {ys:List Value} {wr:World}
theorem BN.below (h:BN w en lo ln lc xo xn xc xs b2 N mo mc go gn gc gs yo yn yc ys wr) {w':World} (hb:Below wr.heap.size wr w'):BN w en lo ln lc xo xn xc xs b2 N mo mc go gn gc gs yo yn yc ys w':=
 ⟨h.nm.below hb,h.Aq,aO h.ox (fun k q=>hb.block k (h.ox.lt k q).2),h.xb,aO h.og (fun k q=>hb.block k (h.og.lt k q).2),aO h.oy (fun k q=>hb.block k (h.oy.lt k q).2),(hb.block _ (aD h.rb)).trans h.rb,(hb.block _ (aD h.zb)).trans h.zb,h.be.trans (hb.mono h.be.size),h.bw,aW h.bz hb.size⟩
theorem BN.names (h:BN w en lo ln lc xo xn xc xs b2 N mo mc go gn gc gs yo yn yc ys wr) {w':World} {N':List Nat} {mo':Option Addr} {mc':Nat} (hn:lZ w' (w.heap.size+2) N' mo' mc') (hf:bZ (dw (w.heap.size+2) mo) (dw (w.heap.size+2) mo') wr w'):BN w en lo ln lc xo xn xc xs b2 N' mo' mc' go gn gc gs yo yn yc ys w':=by
 have hnot:∀k,k<w.heap.size+2->¬dw (w.heap.size+2) mo k:=fun k hk q=>by
  rcases q with e | e
  ·omega
  ·have:=h.Aq k e;omega
 have row:∀{b n cap:Nat} {Y:TypeId} {o:Option Addr} {zs:List Value},wr.ownsRow b Y 1 (.slice o n cap) n zs->Y≠136->Y≠3->w'.ownsRow b Y 1 (.slice o n cap) n zs:=fun {b n cap Y o zs} ho h1 h2=>aO ho fun k q=>by obtain⟨cur,hc⟩:=bL ho (bP q);exact hf.block k (aD hc) (h.nm.apart hc h1 h2)
 refine⟨hn,fun k q=> ?_,row h.ox (by decide) (by decide),h.xb,row h.og (by decide) (by decide),row h.oy (by decide) (by decide),(hf.block _ (aD h.rb) (hnot _ (by omega))).trans h.rb,(hf.block _ (aD h.zb) (hnot _ (by omega))).trans h.zb,h.be.trans (hf.down h.be.size fun k q=> ?_),h.bw,aW h.bz hf.size⟩
 ·rcases hf.row k (aw q)with(e | e) | e
  ·exact absurd (e ▸ q) hn.ne
  ·exact h.Aq k e
  ·have:=aD h.nm.blk;omega
 ·rcases q with e | e
  ·omega
  ·have:=h.Aq k e;omega
theorem BN.goal (h:BN w en lo ln lc xo xn xc xs b2 N mo mc go gn gc gs yo yn yc ys wr) {X:Obj} {w7:World} {g' cap':Nat} {s:Value} (hown:w7.ownsRow b2 9 1 (.slice (some ⟨g',0,none⟩) (gn+1) cap') (gn+1) (gs++[s])) (hgr:(wr.alloc X).grownBy w7 (Value.slice go gn gc).ownBlock):BN w en lo ln lc xo xn xc xs b2 N mo mc (some ⟨g',0,none⟩) (gn+1) cap' (gs++[s]) yo yn yc ys (w7.setCell ⟨w.heap.size+1,3,none⟩ (.slice (some ⟨g',0,none⟩) (gn+1) cap')):=by
 obtain⟨keep,hrb'⟩:=mU (cell:=3) h.og hgr h.rb (by decide) (.slice (some ⟨g',0,none⟩) (gn+1) cap');have bw:=h.bw;refine⟨h.nm.res h.og hgr h.rb (by decide) (by decide) (by decide) _,h.Aq,aO h.ox fun k q=> ?_,h.xb,aO hown fun k q=>b6 _ _ _ _ (fun e=>by have:=(hown.lt k q).1;omega),aO h.oy fun k q=> ?_,hrb',?_,qh h.be h.og (by omega) hgr (by omega) _,h.bw,?_⟩
 ·have h1:=dx h.ox (bP q);have h2:=h.xb k (bP q);exact keep k (by omega) (fun r=>by have:=(dx h.og r).1;omega) h1.2
 ·obtain⟨cur,hc⟩:=bL h.oy (bP q);have h1:=(dx h.oy (bP q)).1;exact keep k (by omega) (cm h.og hc (by decide)) (aD hc)
 ·exact(keep w.heap.size (by omega) (fun r=>by have:=(dx h.og r).1;omega) (aD h.zb)).trans h.zb
 ·rw[fj];have:=hgr.size;simp at this;have:=h.bz;omega
theorem BN.wait (h:BN w en lo ln lc xo xn xc xs b2 N mo mc go gn gc gs yo yn yc ys wr) {X:Obj} {w7:World} {g' cap':Nat} {s:Value} (hown:w7.ownsRow b2 4 1 (.slice (some ⟨g',0,none⟩) (yn+1) cap') (yn+1) (ys++[s])) (hgr:(wr.alloc X).grownBy w7 (Value.slice yo yn yc).ownBlock):BN w en lo ln lc xo xn xc xs b2 N mo mc go gn gc gs (some ⟨g',0,none⟩) (yn+1) cap' (ys++[s]) (w7.setCell ⟨w.heap.size+1,4,none⟩ (.slice (some ⟨g',0,none⟩) (yn+1) cap')):=by
 obtain⟨keep,hrb'⟩:=mU (cell:=4) h.oy hgr h.rb (by decide) (.slice (some ⟨g',0,none⟩) (yn+1) cap');have bw:=h.bw;have kS:∀{b n cap:Nat} {o:Option Addr} {zs:List Value},wr.ownsRow b 9 1 (.slice o n cap) n zs->w.heap.size+3<=b->(w7.setCell ⟨w.heap.size+1,4,none⟩ (.slice (some ⟨g',0,none⟩) (yn+1) cap')).ownsRow b 9 1 (.slice o n cap) n zs:=fun {b n cap o zs} ho hb=>aO ho fun k q=>by obtain⟨cur,hc⟩:=bL ho (bP q);have h1:=(dx ho (bP q)).1;exact keep k (by omega) (cm h.oy hc (by decide)) (aD hc)
 refine⟨h.nm.res h.oy hgr h.rb (by decide) (by decide) (by decide) _,h.Aq,kS h.ox Qw,h.xb,kS h.og bw,aO hown fun k q=>b6 _ _ _ _ (fun e=>by have:=(hown.lt k q).1;omega),hrb',?_,qh h.be h.oy (by omega) hgr (by omega) _,h.bw,?_⟩
 ·exact(keep w.heap.size (by omega) (fun r=>by have:=(dx h.oy r).1;omega) (aD h.zb)).trans h.zb
 ·rw[fj];have:=hgr.size;simp at this;have:=h.bz;omega
end
def PS (w:World) (fr:Nat->Nat) (T:Nat->af.U) (N0:List af.Vr) (G:List Gl) (en:Int) (lo:Option Addr) (ln lc:Nat) (xo:Option Addr) (xn xc:Nat) (xs:List Value) (b2:Nat) (k:Nat) (iv:Value) (wr:World):Prop:=
 ∃(j:Nat) (N:List Nat) (mo:Option Addr) (mc:Nat) (go:Option Addr) (gc:Nat) (yo:Option Addr) (yc:Nat),k+j=G.length/\iv= .int .i64 (j:Int)/\fK N=(n7 T N0 (G.take j)).2/\N.length<=100000+j*3000/\BN w en lo ln lc xo xn xc xs b2 N mo mc go j gc ((n7 T N0 (G.take j)).1.map lA) yo j yc ((G.take j).map fun g=> .bool (!nJ fr g)) wr
def PT (w:World) (T:Nat->af.U) (V:List Nat) (en:Int) (lo:Option Addr) (ln lc:Nat) (k:Nat) (iv:Value) (wr:World):Prop:=
 ∃(j:Nat) (N:List Nat) (mo:Option Addr) (mc:Nat) (xo:Option Addr) (xc:Nat),k+j=V.length/\iv= .int .i64 (j:Int)/\VS w T (V.take j) en lo ln lc N mo mc xo xc wr
theorem EU (w:World) (mb:Nat) (cls:List af.dE) (clo:Option Addr) (clc:Nat) (V:List Nat) (vo:Option Addr) (vc:Nat) (L:List Int) (lo:Option Addr) (lc:Nat) (S:iQ) (nO:Option Addr) (nC:Nat) (po:Option Addr) (pc:Nat) (en:Int) (h:jh w mb (DY clo cls.length clc nO S.D.length nC vo V.length vc po S.G.length pc lo L.length lc en) S.D nO nC S.fr S.G po pc) (hto:kx (e8 S.D) S.fr S.T) (P:Nat->Prop) (har:di w S.D P) (hvr:w.ownsRow 0 3 1 (.slice vo V.length vc) V.length (V.map cN)) (hvl:∀v∈V,v<S.D.length) (hvb:∀d∈S.D,-1000000000<=d.val/\d.val<=1000000000) (htb:∀d∈S.D,d.tx.size<=240) (hgw:∀g∈S.G,xD S.T S.D.length g) (hpw:Pow w) (hen:en=1\/en=2\/en=3) (hV:V.length<=100) (hG:S.G.length<=100) (hsV:∀v∈V,af.size (S.T v)<=1000) (hsG:∀g∈S.G,∀x:Int,x=(g.l:Int)\/x=g.r\/x=g.z->x≠-1->af.size (S.T x.toNat)<=1000):
 Calls Tryz.prog 39 #[.pointer (some ⟨mb,0,none⟩)] w fun e w'=>∃(xo:Option Addr) (xc:Nat) (go:Option Addr) (gc:Nat) (yo:Option Addr) (yc:Nat),e= .returned (.agg #[.int .i64 en,.slice lo L.length lc,.slice xo V.length xc,.slice go S.G.length gc,.slice yo S.G.length yc])/\w'.ownsRow w.heap.size 9 1 (.slice xo V.length xc) V.length ((iF S.T V).1.map lA)/\w'.ownsRow w.heap.size 9 1 (.slice go S.G.length gc) S.G.length ((n7 S.T (iF S.T V).2 S.G).1.map lA)/\w'.ownsRow w.heap.size 4 1 (.slice yo S.G.length yc) S.G.length (S.G.map fun g=> .bool (!nJ S.fr g))/\(∀k,rowOf xo k->¬rowOf go k)/\Below w.heap.size w w':=by
 have f2:w.cell? ⟨mb,2,none⟩=some (.slice vo V.length vc):=aN h.st.blk 2;have f3:w.cell? ⟨mb,3,none⟩=some (.slice po S.G.length pc):=aN h.st.blk 3;have f4:w.cell? ⟨mb,4,none⟩=some (.slice lo L.length lc):=aN h.st.blk 4;have f5:w.cell? ⟨mb,5,none⟩=some (.int .i64 en):=aN h.st.blk 5;have mz:=aD h.st.blk;have t4:(en == 4)=false:=by rcases hen with q | q | q<;>(rw[q];rfl)
 have t5:(en == 5)=false:=by rcases hen with q | q | q<;>(rw[q];rfl)
 have t6:(en == 6)=false:=by rcases hen with q | q | q<;>(rw[q];rfl)
 have har':di w S.D (fun g=>g<w.heap.size):=har.keep fun g _ _ hg=>⟨hg,aD hg⟩;have HT:=ah (fun(x:Int) (N1:List Nat) (mo1:Option Addr) (mc1:Nat) (W:World) (hb:Below w.heap.size w W) (hn1:lZ W (w.heap.size+2) N1 mo1 mc1) (hrw:∀k,rowOf mo1 k->w.heap.size+3<=k) (hx:tf S.D.length x) (hq:x≠-1->af.size (S.T x.toNat)<=1000) (hl1:N1.length<=900000)=>Mj W mb _ S.D nO nC S.fr S.T (w.heap.size+2) N1 mo1 mc1 x (h.st.below hb) h.ok hto hn1 ((har'.below hb).keep fun g _ hp hg=>⟨hg,fun q=>by
  rcases q with e | e
  ·omega
  ·have:=hrw g e;omega⟩) hx hq hl1)
 have HSM:=ah (Km h.ok hto hvb htb);have HST:=ah (show PT w S.T V en lo L.length lc V.length (.int .i64 0) (((((w.alloc (.cells #[.int .i64 0,.slice none 0 0,.slice none 0 0,.slice none 0 0,.slice none 0 0] 29)).alloc (.cells #[.int .i64 en,.slice lo L.length lc,.slice none 0 0,.slice none 0 0,.slice none 0 0] 29)).drew).alloc (.cells #[.slice none 0 0] 136)))from by have hb1':=(((al w.heap.size w).alloc Qw (.cells #[.int .i64 0,.slice none 0 0,.slice none 0 0,.slice none 0 0,.slice none 0 0] 29)).alloc (by simp) (.cells #[.int .i64 en,.slice lo L.length lc,.slice none 0 0,.slice none 0 0,.slice none 0 0] 29)).drew;have hb1:=hb1'.alloc hb1'.size (.cells #[.slice none 0 0] 136);have q0:=aQ (aQ (aB w (.cells #[.int .i64 0,.slice none 0 0,.slice none 0 0,.slice none 0 0,.slice none 0 0] 29)) (.cells #[.int .i64 en,.slice lo L.length lc,.slice none 0 0,.slice none 0 0,.slice none 0 0] 29)) (.cells #[.slice none 0 0] 136);have q1:=aQ (aB (w.alloc (.cells #[.int .i64 0,.slice none 0 0,.slice none 0 0,.slice none 0 0,.slice none 0 0] 29)) (.cells #[.int .i64 en,.slice lo L.length lc,.slice none 0 0,.slice none 0 0,.slice none 0 0] 29)) (.cells #[.slice none 0 0] 136);have q2:=aB ((w.alloc (.cells #[.int .i64 0,.slice none 0 0,.slice none 0 0,.slice none 0 0,.slice none 0 0] 29)).alloc (.cells #[.int .i64 en,.slice lo L.length lc,.slice none 0 0,.slice none 0 0,.slice none 0 0] 29)) (.cells #[.slice none 0 0] 136);simp only[aF]at q1 q2;exact⟨0,[],none,0,none,0,by omega,rfl,⟨⟨q2,bD _ _ _ _⟩,rfl,by simp,(fun k ⟨_,q,_⟩=>by cases q),bD _ _ _ _,q1,q0,hb1⟩⟩)
 have HVR:=ah hvr;have HVL:=ah hvl;have HPW:=ah hpw;have HSV:=ah hsV;have HSG:=ah hsG;have HH:=ah h;have HGW:=ah hgw;have HAR:=ah har';have HTO:=ah hto;obtain⟨ti,hi,hz0,hz1,hz2⟩:=dH Ik;obtain⟨tb,hbi,hb0,hb1,hb2⟩:=dH Nu;clear h hto har har' hvr hvl hvb htb hgw hpw hen hsV hsG;go_enter Tryz.func39,Tryz.ntmps39;go_upto_region 1 with fail;go_cut [3] (fun tv wx=>tv= .pointer (some ⟨w.heap.size+1,0,none⟩)/\wx=((w.alloc (.cells #[.int .i64 0,.slice none 0 0,.slice none 0 0,.slice none 0 0,.slice none 0 0] 29)).alloc (.cells #[.int .i64 en,.slice lo L.length lc,.slice none 0 0,.slice none 0 0,.slice none 0 0] 29)).drew)
 case first=>
  go_region
  all_goals
   go_wp2_with fail;go_meet;exact⟨rfl,rfl⟩
 case rest=>
  obtain⟨rfl,rfl⟩:=hcut;have hbd:=(((al w.heap.size w).alloc Qw (.cells #[.int .i64 0,.slice none 0 0,.slice none 0 0,.slice none 0 0,.slice none 0 0] 29)).alloc (by simp) (.cells #[.int .i64 en,.slice lo L.length lc,.slice none 0 0,.slice none 0 0,.slice none 0 0] 29)).drew;have hbn:=hbd.alloc hbd.size (.cells #[.slice none 0 0] 136);have g2:=(hbn.cell (p:=⟨mb,2,none⟩) mz).trans f2;have g5:=(hbd.cell (p:=⟨mb,5,none⟩) mz).trans f5;have hbm:=((((al w.heap.size w).alloc Qw (.cells #[.int .i64 0,.slice none 0 0,.slice none 0 0,.slice none 0 0,.slice none 0 0] 29)).alloc (by simp) (.cells #[.int .i64 en,.slice lo L.length lc,.slice none 0 0,.slice none 0 0,.slice none 0 0] 29)).alloc (by simp;omega) (.cells #[.slice none 0 0] 136)).drew;have g2':=(hbm.cell (p:=⟨mb,2,none⟩) mz).trans f2;clear hbd hbn hbm;go_wp2_with fail;go_loopg [48] V.length (fun k iv wr=>PT w S.T V en lo L.length lc k iv wr)
  case atStart=>exact ae HST
  case round=>
   clear HST;obtain⟨j,N,mo,mc,xo,xc,hkj,rfl,hvs⟩:=hrel;clear g2 g2' g5;by_cases hlt:j<V.length
   ·obtain⟨g,hg⟩:∃g,vo=some ⟨g,0,none⟩:=by
     rcases(ae HVR).2 with⟨q,q2⟩ | ⟨g,cp,cur,q,_⟩
     ·omega
     ·simp only[aS]at q;exact⟨g,q.1⟩
    subst hg;have gz0:=((ae HVR).lt g rfl).2;have e0:wr.cell? ⟨g,j,none⟩=some (.int .i64 (V[j]:Int)):=by rw[hvs.be.cell (p:=⟨g,j,none⟩) gz0,(ae HVR).cellAt j (by omega),bC,aj hlt];rfl
    have hvm:V[j]∈V:=aL hlt;have hsz:=ae HSV _ hvm;have hvl:=ae HVL _ hvm;have hsm:=ae HSM _ hvl;have htake:V.take (j+1)=V.take j++[V[j]]:=by rw[bR,aj hlt];rfl
    have hlen:(V.take j).length=j:=by rw[df];omega
    have gz:g<wr.heap.size:=aJ gz0 hvs.be.size;have mzr:mb<wr.heap.size:=aJ mz hvs.be.size;have i0:(0:Int)<=(j:Int):=by omega
    have i1:(j:Int)<(V.length:Int):=by omega
    generalize V[j]=v at*;have hNl:N.length<=100000:=by have:=hvs.nl;rw[hlen]at this;omega
    have IT:=ah (ae HT (v:Int) N mo mc wr hvs.be hvs.nm hvs.Aq (aw ⟨v,rfl,hvl⟩) (fun _=>by simpa using hsz) (by omega));have HVS:=ah hvs;have HKJ:=ah hkj;have HLT:=ah hlt;have HTK:=ah htake;have HSZ:=ah hsz;have HSMV:=ah hsm;have HLEN:=ah hlen;clear hvs hkj hlt htake hsz hvl hsm hlen hvm;go_wp2_with fail;refine(ae IT).mono ?_;rintro e w2 ⟨⟨ak,av,ax,ao,an,ac⟩,N',mo',mc',rfl,nm2,hv2,rv2,fg2⟩;have hrow:∀k,dw (w.heap.size+2) mo k->w.heap.size<=k:=fun k q=>by
     rcases q with e | e
     ·omega
     ·have:=(ae HVS).Aq k e;omega
    have hbe2:Below w.heap.size w w2:=(ae HVS).be.trans (fg2.down (ae HVS).be.size hrow);have hbe3:=hbe2.alloc hbe2.size (.cells #[.int .i64 ak,.int .i64 av,.string ax,.slice ao an ac] 74);have hnot:∀k,k<w.heap.size+2->¬dw (w.heap.size+2) mo k:=fun k hk q=>by
     rcases q with e | e
     ·omega
     ·have:=(ae HVS).Aq k e;omega
    have hrb2:=(fg2.block _ (aD (ae HVS).rb) (hnot _ (by omega))).trans (ae HVS).rb;have hzb2:=(fg2.block _ (aD (ae HVS).zb) (hnot _ (by omega))).trans (ae HVS).zb;have how2:w2.ownsRow (w.heap.size+3) 9 1 (.slice xo (V.take j).length xc) (V.take j).length ((iF S.T (V.take j)).1.map lA):=aO (ae HVS).ow fun k q=>by obtain⟨cur,hc⟩:=bL (ae HVS).ow (bP q);exact fg2.block k (aD hc) ((ae HVS).nm.apart hc (by decide) (by decide))
    have hrw2:∀k,rowOf mo' k->w.heap.size+3<=k:=fun k q=>by
     rcases fg2.row k (aw q)with(e | e) | e
     ·exfalso;exact nm2.ne (e ▸ q)
     ·exact(ae HVS).Aq k e
     ·have:=aD (ae HVS).nm.blk;omega
    have hv2':fK N'=cJ (iF S.T (V.take j)).2 (S.T v):=by rw[hv2];unfold pW;rw[aG (by omega),(ae HVS).vr];simp
    have hN2:N'.length<=N.length+1000:=by
     have e1:(fK N').length=N'.length:=by unfold fK;simp
     have e2:(fK N).length=N.length:=by unfold fK;simp
     have:=iK (S.T v) (iF S.T (V.take j)).2;rw[<-hv2',e1,<-(ae HVS).vr,e2]at this;have:=ae HSZ;omega
    have rv3:RV 1000 (fK N') fk w2 ⟨ak,av,ax,ao,an,ac⟩ (S.T v):=by
     have:=rv2 (by omega);have e0:((v:Int)).toNat=v:=by simp
     rw[e0]at this;exact this.keep fun g _ _ hg=>⟨hg,trivial⟩
    have rv4:=rv3.keep (Q:=fk) (w':=w2.alloc (.cells #[.int .i64 ak,.int .i64 av,.string ax,.slice ao an ac] 74)) fun g _ _ hg=>⟨(aZ _ _ _ (aD hg)).trans hg,trivial⟩;have eV:(fK N').length=N'.length:=by unfold fK;simp
    have IS:=ah (wy 1000 _ (fK N') fk ⟨ak,av,ax,ao,an,ac⟩ (S.T v) rv4 ((ae HPW).below hbe3) (by rw[eV];omega) (ae HSMV) (ae HSZ));have hSl:=mP (N:=fK N') (by rw[eV];omega) (S.T v) (ae HSMV);have hSl':(d7 Lib.itoa (fK N') (S.T v)).length<=300000:=by have:=ae HSZ;omega
    have HNM:=ah nm2;have HHV:=ah hv2';have HN2:=ah hN2;have HRW:=ah hrw2;have HOW2:=ah how2;have HRB2:=ah hrb2;have HZB2:=ah hzb2;have HBE3:=ah hbe3;have HBE2:=ah hbe2;clear nm2 hv2 hv2' hN2 hrw2 how2 hrb2 hzb2 hbe3 hbe2 rv2 rv3 rv4 fg2 eV hrow hnot hSl IT e0;generalize hstr:d7 Lib.itoa (fK N') (S.T v)=STR at*;have HSTR:=ah hstr;clear hstr;go_wp2_with fail;refine(ae IS).mono ?_;rintro e w4 ⟨rfl,hb4⟩;have hu4:Below w2.heap.size w2 w4:=((al _ w2).alloc Qw _).trans (hb4.mono (by simp));have how4:=aO (ae HOW2) fun k q=>hu4.block k ((ae HOW2).lt k q).2;have hrb4:=(hu4.block _ (aD (ae HRB2))).trans (ae HRB2);have hzb4:=(hu4.block _ (aD (ae HZB2))).trans (ae HZB2);have hnm4:=(ae HNM).below hu4;have hbe4:=(ae HBE2).trans (hu4.mono (ae HBE2).size);have r2:=aN hrb4 2;have rx2:=bI hrb4 2;have rz:=aD hrb4;simp only[aE,aq,aA]at r2;rw[ae HLEN]at r2;have HNR:=ah (show some (w.heap.size+1)≠(Value.slice xo (V.take j).length xc).ownBlock from dF (cm how4 hrb4 (by decide)))
    rw[ae HLEN]at HNR;have HNX:=ah (fun(w7:World) (g' cap':Nat) (X:Obj) a1 a2=>(ae HVS).next (v:=v) (ae HN2) (ae HHV) hnm4 (ae HRW) how4 hrb4 hzb4 hbe4 (X:=X) (w7:=w7) (g':=g') (cap':=cap') a1 a2);rw[ae HLEN]at HNX;have how4':=how4;rw[ae HLEN]at how4';have HOW4:=ah how4';have z4:w.heap.size+3<=w4.heap.size:=by have:=aD hnm4.blk;omega
    rw[ae HSTR]at HNX;clear how4 how4' hrb4 hzb4 hnm4 hbe4 hb4 hu4 IS HOW2 HRB2 HZB2 HNM HBE2 HBE3;generalize hzz:(iF S.T (V.take j)).1.map lA=ZZ at*;clear hzz;go_wp2_with (at_builtin;go_must (refine wpList_append_own_at _ rfl (.tmp 60) (.tmp 62) 26 rfl (w.heap.size+3) 9 ti (.string ⟨#[]⟩) 1 16 Tryz.underlying26 hi hz0 hz1 hz2 rfl (by decide) (.slice xo j xc) j ZZ rfl ((ae HOW4).alloc _) ⟨w4.heap.size,0,none⟩ 1 1 [.string ⟨STR.toArray⟩] rfl rfl (lq _ _ _ _ rfl) (by simp[Value.oneCell']) (by unfold maxLen;omega) (by omega) (by simp;omega) ?_);go_must (intro v' w7 hown' hgrow _ hat;obtain⟨g',cap',hv',-⟩:=fR hown';subst hv';have HNN:=ah (ae HNX w7 g' cap' _ hown' hgrow);have m2:=(hgrow.cell_far ⟨w.heap.size+1,2,none⟩ (by simp;omega) (ae HNR)).trans ((aC _ _ _ rz).trans r2);have k9:w7.frozen? ⟨w.heap.size+1,2,none⟩=false:=(by have:=bI (ae HNN).rb 2;rwa [cH]at this);have zz7:w.heap.size+1<w7.heap.size:=(by have:=aD (ae HNN).rb;rwa [fj]at this);clear hown' hgrow hat));go_roundg (gk - 1)
    case measure=>have:=ae HKJ;have:=ae HLT;omega
    case rel=>exact⟨j+1,N',mo',mc',_,cap',by have:=ae HKJ;have:=ae HLT;omega,by go_num,by rw[ae HTK];exact ae HNN⟩
   ·obtain rfl:j=V.length:=by omega
    rw[dM]at hvs;have HVS:=ah hvs;have g3:=(hvs.be.cell (p:=⟨mb,3,none⟩) mz).trans f3;have mzr:mb<wr.heap.size:=aJ mz hvs.be.size;have HST2:=ah (show PS w S.fr S.T (iF S.T V).2 S.G en lo L.length lc xo V.length xc ((iF S.T V).1.map lA) wr.heap.size S.G.length (.int .i64 0) wr from ⟨0,N,mo,mc,none,0,none,0,by omega,rfl,hvs.vr,by have:=hvs.nl;omega,⟨hvs.nm,hvs.Aq,hvs.ow,fun k q=>(dx hvs.ow q).2,bD _ _ _ _,bD _ _ _ _,hvs.rb,hvs.zb,hvs.be,by have:=aD hvs.nm.blk;omega,Qw⟩⟩)
    generalize hwb:wr.heap.size=b2 at*;clear hvs hkj hlt;go_wp2_with fail;go_loopg [71] S.G.length (fun k iv wr=>PS w S.fr S.T (iF S.T V).2 S.G en lo L.length lc xo V.length xc ((iF S.T V).1.map lA) b2 k iv wr)
    case atStart=>exact ae HST2
    case round=>
     clear HST2;obtain⟨i,N3,mo3,mc3,go,gc,yo,yc,hkj,rfl,hvr,hnl,hbn⟩:=hrel;by_cases hlt:i<S.G.length
     ·obtain⟨pg,hpg⟩:∃pg,po=some ⟨pg,0,none⟩:=by
       rcases(ae HH).fp.2 with⟨q,q2⟩ | ⟨g,cp,cur,q,_⟩
       ·omega
       ·simp only[aS]at q;exact⟨g,q.1⟩
      subst hpg;have pz0:=((ae HH).fp.lt pg rfl).2;have fc:∀k,k<7->wr.cell? ⟨pg,i*7+k,none⟩=(mD S.G[i])[k]?:=fun k hk=>by rw[hbn.be.cell (p:=⟨pg,i*7+k,none⟩) pz0,(ae HH).fp.cellAt (i*7+k) (by omega)];exact qD hlt k hk
      have e0:=fc 0 (by omega);have e1:=fc 1 (by omega);have e2:=fc 2 (by omega);have e3:=fc 3 (by omega);have e4:=fc 4 (by omega);have e5:=fc 5 (by omega);have e6:=fc 6 (by omega);simp only[mD,aq,aA,dJ]at e0 e1 e2 e3 e4 e5 e6;have hgm:S.G[i]∈S.G:=aL hlt;have gw:=ae HGW _ hgm;have hszg:=ae HSG _ hgm;have htake:S.G.take (i+1)=S.G.take i++[S.G[i]]:=by rw[bR,aj hlt];rfl
      have hnds:=(ae HH).pf _ hgm;have hnlt:=(ae HH).DT _ hgm;have hnln:=(ae HH).nl _ hgm;generalize S.G[i]=gg at*;have pz:pg<wr.heap.size:=aJ pz0 hbn.be.size;have mzr':mb<wr.heap.size:=aJ mz hbn.be.size;have i0:(0:Int)<=(i:Int):=by omega
      have i1:(i:Int)<(S.G.length:Int):=by omega
      have hba:=(al wr.heap.size wr).alloc Qw (.cells #[.int .i64 (gg.l:Int),.string gg.sg,.int .i64 gg.r,.string gg.op,.int .i64 gg.z,.bool gg.wt,.slice gg.no gg.nd.length gg.nc] 133);have hbA:=hbn.below hba;have hndR:tf S.D.length gg.r:=by
       by_cases q:gg.sg.toList=[]
       ·exact ay (gw.r0 q)
       ·exact aw (gw.rr q)
      have hndZ:tf S.D.length gg.z:=by
       by_cases q:gg.op.toList=[]
       ·exact ay (gw.z0 q)
       ·exact aw (gw.zz q)
      have hN3:N3.length<=500000:=by omega
      have IM:=ah (Fp _ mb _ S.D nO nC S.fr S.T (w.heap.size+2) N3 mo3 mc3 gg ((ae HH).st.below hbA.be) (ae HH).ok (ae HTO) hbA.nm (((ae HAR).below hbA.be).keep fun k _ hp hk=>⟨hk,fun q=>by
       rcases q with e | e
       ·omega
       ·have:=hbA.Aq k e;omega⟩) gw.ll hndR hndZ hszg (by omega))
      have HGB:=ah (aB wr (.cells #[.int .i64 (gg.l:Int),.string gg.sg,.int .i64 gg.r,.string gg.op,.int .i64 gg.z,.bool gg.wt,.slice gg.no gg.nd.length gg.nc] 133));have HBA:=ah hbA;have HGW1:=ah gw;have HSZG:=ah hszg;have HKJ:=ah hkj;have HLT:=ah hlt;have HTK:=ah htake;have HVR3:=ah hvr;have HNL3:=ah hnl;have HNDS:=ah hnds;have HNLT:=ah hnlt;have HNLN:=ah hnln;clear hbn hba hbA gw hszg hkj hlt htake hvr hnl hnds hnlt hnln fc hgm hndR hndZ;go_wp2_with fail;refine(ae IM).mono ?_;rintro e w2 ⟨⟨ak,av,ax,ao,an,ac⟩,⟨bk,bv,bx,bo,bn,bc⟩,⟨ck,cv,cx,co,cn,cc⟩,N4,mo4,mc4,rfl,nm4,hv4,rvA,rvB,rvC,fg4⟩;have hb2:=(ae HBA).names nm4 fg4;have hgb2:=(fg4.block _ (aD (ae HGB)) ((ae HBA).nm.apart (ae HGB) (by decide) (by decide))).trans (ae HGB);have eV:(fK N4).length=N4.length:=by unfold fK;simp
      have eV3:(fK N3).length=N3.length:=by unfold fK;simp
      have hN4:N4.length<=N3.length+3000:=by
       have hz:∀(M:List af.Vr) (x:Int),(x=(gg.l:Int)\/x=gg.r\/x=gg.z)->(pW S.T M x).length<=M.length+1000:=fun M x hx=>by
        unfold pW;split
        ·omega
        ·rename_i hne;exact aW (iK _ _) (by have:=ae HSZG x hx hne;omega)
       rw[<-eV,hv4];have h1:=hz (pW S.T (pW S.T (fK N3) (gg.l:Int)) gg.r) gg.z (aw (aw rfl));have h2:=hz (pW S.T (fK N3) (gg.l:Int)) gg.r (aw (ay rfl));have h3:=hz (fK N3) (gg.l:Int) (ay rfl);omega
      have hvr4:fK N4=OH S.T (n7 S.T (iF S.T V).2 (S.G.take i)).2 gg:=by rw[hv4,ae HVR3];rfl
      have hsl:af.size (S.T gg.l)<=1000:=by have:=ae HSZG (gg.l:Int) (ay rfl) (by omega);simpa using this
      have hAl:=mP (N:=fK N4) (by rw[eV];omega) (S.T gg.l) (ae HSM _ (ae HGW1).ll);have hR:gg.sg.toList≠[]->gg.r≠-1/\gg.r.toNat<S.D.length:=fun q=>by obtain⟨n,q1,q2⟩:=(ae HGW1).rr q;rw[q1];exact⟨by omega,by simpa using q2⟩
      have hZ:gg.op.toList≠[]->gg.z≠-1/\gg.z.toNat<S.D.length:=fun q=>by obtain⟨n,q1,q2⟩:=(ae HGW1).zz q;rw[q1];exact⟨by omega,by simpa using q2⟩
      have hbI:=(al w2.heap.size w2).alloc Qw (.cells #[.int .i64 ak,.int .i64 av,.string ax,.slice ao an ac,.string gg.sg,.int .i64 bk,.int .i64 bv,.string bx,.slice bo bn bc,.string gg.op,.int .i64 ck,.int .i64 cv,.string cx,.slice co cn cc] 125);have hsgl:gg.sg.size<=2:=by rw[<-lQ];rcases(ae HGW1).sg with q | q | q<;>(rw[q];decide)
      have IT:∀{a:AV} {u:af.U},RV 1000 (fK N4) fk w2 a u->Ch u->af.size u<=1000->∀W,Below w2.heap.size w2 W->Calls Tryz.prog 73 #[.agg #[.int .i64 a.k,.int .i64 a.val,.string a.tx,.slice a.ao a.n a.cap]] W fun e w'=>e= .returned (.string ⟨(d7 Lib.itoa (fK N4) u).toArray⟩)/\Below W.heap.size W w':=fun {a u} rv hsm hsz W hu=>wy 1000 W (fK N4) fk a u (rv.keep fun g _ _ hg=>⟨(hu.block g (aD hg)).trans hg,trivial⟩) ((ae HPW).below (hb2.be.trans (hu.mono hb2.be.size))) (by rw[eV];omega) hsm hsz;have IS:=ah (Kq _ ⟨⟨ak,av,ax,ao,an,ac⟩,⟨bk,bv,bx,bo,bn,bc⟩,⟨ck,cv,cx,co,cn,cc⟩,gg.sg,gg.op⟩ (d7 Lib.itoa (fK N4) (S.T gg.l)) (if gg.sg.toList=[]then []else d7 Lib.itoa (fK N4) (S.T gg.r.toNat)) (if gg.op.toList=[]then []else d7 Lib.itoa (fK N4) (S.T gg.z.toNat)) (by omega) (by
       split
       ·simp
       ·rename_i q;have h1:=mP (N:=fK N4) (by rw[eV];omega) (S.T gg.r.toNat) (ae HSM _ (hR q).2);have h2:=ae HSZG _ (aw (ay rfl)) (hR q).1;omega) (by
       split
       ·simp
       ·rename_i q;have h1:=mP (N:=fK N4) (by rw[eV];omega) (S.T gg.z.toNat) (ae HSM _ (hZ q).2);have h2:=ae HSZG _ (aw (aw rfl)) (hZ q).1;omega) hsgl (ae HGW1).ol (fun W hu=>IT (a:=⟨ak,av,ax,ao,an,ac⟩) rvA (ae HSM _ (ae HGW1).ll) hsl W (hbI.trans (hu.mono (by simp)))) (fun q W hu=>by
        rw[aG q];exact IT (a:=⟨bk,bv,bx,bo,bn,bc⟩) (rvB (hR q).1) (ae HSM _ (hR q).2) (ae HSZG _ (aw (ay rfl)) (hR q).1) W (hbI.trans (hu.mono (by simp)))) (fun _ q W hu=>by
        rw[aG q];exact IT (a:=⟨ck,cv,cx,co,cn,cc⟩) (rvC (hZ q).1) (ae HSM _ (hZ q).2) (ae HSZG _ (aw (aw rfl)) (hZ q).1) W (hbI.trans (hu.mono (by simp)))))
      have hstr:p9 (d7 Lib.itoa (fK N4) (S.T gg.l)) gg.sg.toList (if gg.sg.toList=[]then []else d7 Lib.itoa (fK N4) (S.T gg.r.toNat)) gg.op.toList (if gg.op.toList=[]then []else d7 Lib.itoa (fK N4) (S.T gg.z.toNat))=N9 S.T (fK N4) gg:=by
       unfold N9 p9;by_cases q1:gg.sg.toList=[]
       ·rw[aH q1,aH q1]
       ·rw[aG q1,aG q1,aG q1];by_cases q2:gg.op.toList=[]
        ·rw[aH q2,aH q2]
        ·rw[aG q2,aG q2,aG q2]
      dsimp only at IS;rw[hstr]at IS;have HB2:=ah hb2;have HGB2:=ah hgb2;have HN4:=ah hN4;have HVR4:=ah hvr4;clear hb2 hgb2 hN4 hvr4 eV eV3 hsl hAl hR hZ hbI hsgl IT hstr rvA rvB rvC fg4 nm4 hv4 IM e0 e1 e2 e3 e4 e5 e6;generalize hSTR:N9 S.T (fK N4) gg=STR at*;have HSTR:=ah hSTR;clear hSTR;go_wp2_with fail;refine(ae IS).mono ?_;rintro e w4 ⟨rfl,hb4⟩;have hu4:Below w2.heap.size w2 w4:=((al _ w2).alloc Qw _).trans (hb4.mono (by simp));have hbn4:=(ae HB2).below hu4;have hgb4:=(hu4.block _ (aD (ae HGB2))).trans (ae HGB2);have r3:=aN hbn4.rb 3;have rx3:=bI hbn4.rb 3;have rz:=aD hbn4.rb;simp only[aE,aq,aA]at r3;have HNR:=ah (show some (w.heap.size+1)≠(Value.slice go i gc).ownBlock from dF (cm hbn4.og hbn4.rb (by decide)))
      have HOG:=ah hbn4.og;have HBN4:=ah hbn4;have HGB4:=ah hgb4;have bz4:b2<=w4.heap.size:=hbn4.bz;have hil:i<=100:=by have:=ae HLT;omega
      clear hbn4 hgb4 hu4 hb4 IS HB2 HGB2;generalize hgs:(n7 S.T (iF S.T V).2 (S.G.take i)).1.map lA=GS at*;have HGS:=ah hgs;clear hgs;generalize hys:((S.G.take i).map fun g=>Value.bool (!nJ S.fr g))=YS at*;have HYS:=ah hys;clear hys;go_wp2_with (at_builtin;go_must (refine wpList_append_own_at _ rfl (.tmp 81) (.tmp 83) 26 rfl b2 9 ti (.string ⟨#[]⟩) 1 16 Tryz.underlying26 hi hz0 hz1 hz2 rfl (by decide) (.slice go i gc) i GS rfl ((ae HOG).alloc _) ⟨w4.heap.size,0,none⟩ 1 1 [.string ⟨STR.toArray⟩] rfl rfl (lq _ _ _ _ rfl) (by simp[Value.oneCell']) (by unfold maxLen;omega) (by omega) (by simp;omega) ?_);go_must (intro v' w7 hown' hgrow _ hat;obtain⟨g',cap',hv',-⟩:=fR hown';subst hv';have HNN:=ah ((ae HBN4).goal (s:= .string ⟨STR.toArray⟩) hown' hgrow);have m2:=(hgrow.cell_far ⟨w.heap.size+1,3,none⟩ (by simp;omega) (ae HNR)).trans ((aC _ _ _ rz).trans r3);have k9:w7.frozen? ⟨w.heap.size+1,3,none⟩=false:=(by have:=bI (ae HNN).rb 3;rwa [cH]at this);have zz7:w.heap.size+1<w7.heap.size:=(by have:=aD (ae HNN).rb;rwa [fj]at this);have hgb7:=((mU (cell:=3) (ae HBN4).og hgrow (ae HBN4).rb (by decide) (.slice (some ⟨g',0,none⟩) (i+1) cap')).1 _ (fun e=>by have:=(ae HBN4).rb;rw[<-e,ae HGB4]at this;simp only[aM,aR]at this;exact absurd this.2.1 (by decide)) (cm (ae HBN4).og (ae HGB4) (by decide)) (aD (ae HGB4))).trans (ae HGB4);have d0:=aN hgb7 0;have d1:=aN hgb7 1;have d2:=aN hgb7 2;have d3:=aN hgb7 3;have d4:=aN hgb7 4;have d5:=aN hgb7 5;have d6:=aN hgb7 6;have dz:=aD hgb7;simp only[aE,aq,aA]at d0 d1 d2 d3 d4 d5 d6;clear hown' hgrow hat hgb7));have hbe7:=(ae HNN).be;have IR:=ah (qU _ mb _ _ S.D nO nC S.fr gg 0 ((ae HH).st.below hbe7) (ae HH).ok (aO (ae HNDS) fun k q=>hbe7.block k ((ae HNDS).lt k q).2) (ae HNLT) (ae HNLN));clear hbe7;refine(ae IR).mono ?_;rintro e w8 ⟨rfl,hb8⟩;have hbn8:=(ae HNN).below hb8;have r4:=aN hbn8.rb 4;have rx4:=bI hbn8.rb 4;have rz8:=aD hbn8.rb;simp only[aE,aq,aA]at r4;have HNR8:=ah (show some (w.heap.size+1)≠(Value.slice yo i yc).ownBlock from dF (cm hbn8.oy hbn8.rb (by decide)))
      have HOY:=ah hbn8.oy;have HBN8:=ah hbn8;have bz8:b2<=w8.heap.size:=hbn8.bz;clear hbn8 hb8 IR HNN m2 k9 zz7 d0 d1 d2 d3 d4 d5 d6 dz HOG HBN4 HGB4 HNR r3 rx3 rz;generalize hrd:nJ S.fr gg=rd at*;have HRD:=ah hrd;clear hrd;go_wp2_with (at_builtin;go_must (refine wpList_append_own_at _ rfl (.tmp 90) (.tmp 93) 27 rfl b2 4 tb (.bool false) 1 1 Tryz.underlying27 hbi hb0 hb1 hb2 rfl (by decide) (.slice yo i yc) i YS rfl ((ae HOY).alloc _) ⟨w8.heap.size,0,none⟩ 1 1 [.bool (!rd)] rfl rfl (lq _ _ _ _ rfl) (by simp[Value.oneCell']) (by unfold maxLen;omega) (by omega) (by simp;omega) ?_);go_must (intro v' w9 hown' hgrow _ hat;obtain⟨g9,cap9,hv',-⟩:=fR hown';subst hv';have HNN:=ah ((ae HBN8).wait (s:= .bool (!rd)) hown' hgrow);have m2:=(hgrow.cell_far ⟨w.heap.size+1,4,none⟩ (by simp;omega) (ae HNR8)).trans ((aC _ _ _ rz8).trans r4);have k9:w9.frozen? ⟨w.heap.size+1,4,none⟩=false:=(by have:=bI (ae HNN).rb 4;rwa [cH]at this);have zz7:w.heap.size+1<w9.heap.size:=(by have:=aD (ae HNN).rb;rwa [fj]at this);clear hown' hgrow hat));go_roundg (gk - 1)
      case measure=>have:=ae HKJ;have:=ae HLT;omega
      case rel=>
       refine⟨i+1,N4,mo4,mc4,some ⟨g',0,none⟩,cap',some ⟨g9,0,none⟩,cap9,by have:=ae HKJ;have:=ae HLT;omega,by go_num,?_,by have:=ae HN4;have:=ae HNL3;omega,?_⟩
       ·rw[ae HTK,vC];exact ae HVR4
       ·have hb:=ae HNN;rw[<-ae HGS,<-ae HYS]at hb;rw[ae HTK,vC];have e1:(stepG S.T (n7 S.T (iF S.T V).2 (S.G.take i)) gg).1.map lA=(n7 S.T (iF S.T V).2 (S.G.take i)).1.map lA++[.string ⟨STR.toArray⟩]:=by unfold stepG;rw[dL,<-ae HVR4,ae HSTR];rfl
        have e2:((S.G.take i++[gg]).map fun g=>Value.bool (!nJ S.fr g))=((S.G.take i).map fun g=>Value.bool (!nJ S.fr g))++[.bool (!rd)]:=by rw[dL,aY,ae HRD];rfl
        rw[e1,e2];exact hb
     ·obtain rfl:i=S.G.length:=by omega
      rw[dM]at hvr hbn;have HBN:=ah hbn;have r0:=aN hbn.rb;have z0:=aN hbn.zb;have zx:=bI hbn.zb;have rz:=aD hbn.rb;have zz:=aD hbn.zb;clear hbn hkj hlt hvr hnl;go_wp2_with fail;refine aI (v:= .agg #[.int .i64 en,.slice lo L.length lc,.slice xo V.length xc,.slice go S.G.length gc,.slice yo S.G.length yc]) (by simp[results,Tryz.results39,go_sem,z0]) rfl ?_;have hb:=ae HBN;have hk:∀k,k≠w.heap.size->(((((wr.setCell ⟨w.heap.size,0,none⟩ (.int .i64 en)).setCell ⟨w.heap.size,1,none⟩ (.slice lo L.length lc)).setCell ⟨w.heap.size,2,none⟩ (.slice xo V.length xc)).setCell ⟨w.heap.size,3,none⟩ (.slice go S.G.length gc)).setCell ⟨w.heap.size,4,none⟩ (.slice yo S.G.length yc)).heap[k]?=wr.heap[k]?:=fun k q=>by rw[b6 _ _ _ _ q,b6 _ _ _ _ q,b6 _ _ _ _ q,b6 _ _ _ _ q,b6 _ _ _ _ q]
      have bw:=hb.bw;refine⟨xo,xc,go,gc,yo,yc,rfl,dh (aO hb.ox fun k q=>hk k (by have:=(hb.ox.lt k q).1;omega)) (by omega),dh (aO hb.og fun k q=>hk k (by have:=(hb.og.lt k q).1;omega)) (by omega),dh (aO hb.oy fun k q=>hk k (by have:=(hb.oy.lt k q).1;omega)) (by omega),fun k q r=> ?_,((((hb.be.setCell Qw _).setCell Qw _).setCell Qw _).setCell Qw _).setCell Qw _⟩;have:=hb.xb k q;have:=(dx hb.og r).1;omega
end Go.Proofs.YthfjnfcekeknlabGreatDoor
namespace Go.Proofs.YthfjnfcekeknlabGreatDoor
open Go.RowKit af
variable {x:Int} {T:TypeId} {V F:List Nat} {S:iQ} {nO lo po vo clo no' po' vo' o so:Option Addr} {clc pc nC lc vc mb cb vc' pc' nc' n b c:Nat} {w w3 w1 w':World} {L:List Int} {cls:List af.dE} {TT T':Nat->af.U} {Gn:List Gl} {N ys:List (List UInt8)} {E:List Ng} {items:List dq} {P:Nat->Prop} {xs:List ByteArray} {script:List (Int×Int)}
inductive FP (cls:List af.dE) (V:List Nat) (script:List (Int×Int)) (S0:iQ):Nat->iQ->List Int->Prop
 | start:FP cls V script S0 0 S0 []
 | step {j:Nat} {S S':iQ} {L:List Int} {pg pc z:Int} {i:Nat} (h:FP cls V script S0 j S L) (hs:script[j]?=some (pg,pc)) (hi:(fD S.fr S.G S.G.length)[jX pg (fD S.fr S.G S.G.length).length]?=some i) (hg:NX cls S S' i pc z) (hl:qt V S'=false):FP cls V script S0 (j+1) S' (L++[z])
def O7 (V:List Nat) (S:iQ):Prop:=(∀v∈V,af.size (S.T v)<=300)/\∀g∈S.G,∀x:Int,x=(g.l:Int)\/x=g.r\/x=g.z->x≠-1->af.size (S.T x.toNat)<=300
theorem oP {T:Nat->af.U} (h:jL T x=false) (hx:x≠-1):af.size (T x.toNat)<=40:=by unfold jL at h;have:=of_decide_eq_false h;omega
theorem CH (h:ir w mb cls clo clc V vo vc L lo lc S nO nC po pc) (hl:qt V S=false):O7 V S/\S.G.length<=24:=by
 unfold qt at hl;simp only[Bool.or_eq_false_iff,decide_eq_false_iff_not]at hl;obtain⟨h1,h2,h3⟩:=hl;refine⟨⟨fun v hv=> ?_,fun g hg x hx hne=> ?_⟩,by omega⟩
 ·have:=oA.1 h2 (v:Int) (bu.2 ⟨v,hv,rfl⟩);have:=oP (T:=S.T) (x:=(v:Int)) (by simpa using this) (by omega);simp at this;omega
 ·have hb:∀y∈lK S.D S.fr g,jL S.T y=false:=fun y hy=>by
   have:=oA.1 h3 g hg;unfold mE at this;have:=oA.1 (by simpa using this) y hy;simpa using this
  have gw:=h.gw g hg;by_cases hs:g.sg.toList=[]
  ·have hr:=gw.r0 hs
   have hz:g.z= -1:=by
    by_cases ho:g.op.toList=[]
    ·exact gw.z0 ho
    ·have:=gw.oe ho;rw[hs]at this;cases this
   have hxl:x=(g.l:Int):=by
    rcases hx with q | q | q
    ·exact q
    ·exact absurd (q.trans hr) hne
    ·exact absurd (q.trans hz) hne
   rw[hxl];have e0:((g.l:Int)).toNat=g.l:=by simp
   rw[e0];have hf:=h.mc.ok.lt gw.ll;obtain⟨d,hd,hdo,hdm,hdv,hdn⟩:=(⟨h.mc.st,h.mc.ok,h.to,h.ar,Qw⟩:mH w w.heap.size mb 1 _ 88 S.D nO nC S.fr S.T _).node gw.ll;obtain⟨tx,us,htx⟩:=gw.nm hs;have hk1:d.k≠1:=fun q=>by rw[hdv q]at htx;cases htx
   obtain⟨lk,ltx,lnum,hlab,hT⟩:=hdn hk1;rw[hT,af.size];have hpr:lK S.D S.fr g=d.args.map fun n:Nat=>(n:Int):=by unfold lK;rw[aH hs,hd];rfl
   have hal:d.args.length<=3:=by
    rcases hdo.ks with q | q | q
    ·rw[(hdo.v q).2.2.2];simp
    ·rw[(hdo.m q).2.2];simp
    ·exact(hdo.c q).2.2
   have key:∀(ns:List Nat),(∀n∈ns,af.size (S.T n)<=40)->b8 (ns.map S.T)<=ns.length*40:=by
    intro ns;induction ns with
    | nil=>intro _;simp[b8]
    | cons n ns ih=>intro hn;have h1:=hn n (by simp);have h2:=ih (fun m hm=>hn m (by simp[hm]));rw[aY,b8,aT];omega
   have:=key d.args (fun n hn=>by have:=oP (T:=S.T) (x:=(n:Int)) (hb _ (by rw[hpr];exact bu.2 ⟨n,hn,rfl⟩)) (by omega);simpa using this);omega
  ·have hpr:lK S.D S.fr g=[(g.l:Int),g.r,g.z]:=by unfold lK;rw[aG hs]
   have:=oP (T:=S.T) (x:=x) (hb x (by rw[hpr];rcases hx with q | q | q<;>simp[q])) hne;omega
theorem ir.start (h:NW P w1 mb (DY clo cls.length clc none 0 0 none 0 0 none 0 0 none 0 0 0) cb [] [] none none id TT [] none N [] items E F no' nc' vo' vc' T' Gn po' pc' w3) (hcl:ek w3 clo cls.length cls) (hgl:∀x∈items,ml x):
 ir (w3.setCell ⟨mb,2,none⟩ (.slice vo' F.length vc')) mb cls clo clc F vo' vc' [] none 0 ⟨E,id,T',Gn⟩ no' nc' po' pc':=by
 have ms:=h.ms;have mc:=h.mc;simp only[cG]at ms mc;have hblk:=bB mc.st.blk 2 (.slice vo' F.length vc');have kT:∀{k:Nat} {ys:Array Value} {Y:TypeId},w3.heap[k]?=some (.cells ys Y (0,0))->Y≠88->(w3.setCell ⟨mb,2,none⟩ (.slice vo' F.length vc')).heap[k]?=w3.heap[k]?:=fun {k ys Y} hk h1=>b6 _ _ _ _ (fun e=>by rw[e,mc.st.blk]at hk;simp only[aM,aR]at hk;exact h1 hk.2.1.symm);have kR:∀{b n cap sz:Nat} {Y:TypeId} {o:Option Addr} {zs:List Value},w3.ownsRow b Y sz (.slice o n cap) n zs->Y≠88->(w3.setCell ⟨mb,2,none⟩ (.slice vo' F.length vc')).ownsRow b Y sz (.slice o n cap) n zs:=fun {b n cap sz Y o zs} ho h1=>aO ho fun k q=>by obtain⟨cur,hc⟩:=bL ho (bP q);exact kT hc h1
 have hgn:=h.gl.length;refine⟨⟨⟨hblk,rfl,kR mc.st.own (by decide),mc.st.ty⟩,mc.ok,rfl,kR mc.fp (by decide),fun g hg=>kR (mc.pf g hg) (by decide),mc.DT,mc.nl⟩,ms.to,ms.ad.args.keep fun g _ _ hg=>⟨(kT hg (by decide)).trans hg,fun⟨_,q,_⟩=>by cases q⟩,kR ms.ad.sc.own (by decide),ms.lt,bD _ _ _ _,(fun k ⟨_,q,_⟩=>by cases q),(fun g _ k _ ⟨_,q,_⟩=>by cases q),?_,?_,fun g hg=> ?_,?_⟩
 ·exact(show gE w3 _ from fun k ys Y hk hY=>(kT hk (by rcases hY with e | e | e<;>(rw[e];decide))).trans hk).cls hcl
 ·have:=h.nd.val (D:=[]) (fun d hd=>by cases hd);simpa using this
 ·change g∈Gn at hg;obtain⟨j,hj,rfl⟩:=bG hg;have:=(h.gl.at j (by omega) hj).gw (hgl _ (aL (by omega)));simpa using this
 ·have:=h.nd.N5 (D:=[]) (fun d hd=>by cases hd);simpa using this
def tU (w:World) (so:Option Addr) (script:List (Int×Int)):Prop:=script≠[]->∃g off,so=some ⟨g,off,none⟩/\g<w.heap.size/\∀(i:Nat) (h:i<script.length),w.cell? ⟨g,off+i*2,none⟩=some (.int .i64 script[i].1)/\w.cell? ⟨g,off+i*2+1,none⟩=some (.int .i64 script[i].2)
structure JN (N:List (List UInt8)) (items:List dq) (F:List Nat) (S:iQ):Prop where
 fr:S.fr=id
 nd:gP 0 S.D
 nv:iZ 0 S.D F
 ln:F.length=(bE [] items).length
 lt:∀v∈F,v<S.D.length
 DB:kx (e8 S.D) S.fr S.T
 ok:g8 S.D S.fr
 gl:eO (xM S.T S.D.length (ej S.T F N)) items S.G
def JO (cls:List af.dE) (F:List Nat) (script:List (Int×Int)) (S0:iQ) (b:Nat) (e:Ending) (w':World):Prop:=
 ∃(j:Nat) (S:iQ) (L:List Int) (lo:Option Addr) (lc:Nat),FP cls F script S0 j S L/\
  ((((j=script.length\/fD S.fr S.G S.G.length=[])/\∃(xo:Option Addr) (xc:Nat) (go:Option Addr) (gc:Nat) (yo:Option Addr) (yc:Nat),e= .returned (.agg #[.int .i64 (kw S.fr S.G),.slice lo L.length lc,.slice xo F.length xc,.slice go S.G.length gc,.slice yo S.G.length yc])/\w'.ownsRow b 3 1 (.slice lo L.length lc) L.length (L.map jI)/\w'.ownsRow b 9 1 (.slice xo F.length xc) F.length ((iF S.T F).1.map lA)/\w'.ownsRow b 9 1 (.slice go S.G.length gc) S.G.length ((n7 S.T (iF S.T F).2 S.G).1.map lA)/\w'.ownsRow b 4 1 (.slice yo S.G.length yc) S.G.length (S.G.map fun g=> .bool (!nJ S.fr g))/\(∀k,rowOf xo k->¬rowOf go k)))\/
   (∃(pg pc:Int) (i:Nat) (en z:Int),script[j]?=some (pg,pc)/\(fD S.fr S.G S.G.length)[jX pg (fD S.fr S.G S.G.length).length]?=some i/\((OV cls S i pc en/\(en=4\/en=5)/\z= -2)\/(en=6/\∃S',NX cls S S' i pc z/\qt F S'=true))/\e= .returned (.agg #[.int .i64 en,.slice lo (L++[z]).length lc,.slice none 0 0,.slice none 0 0,.slice none 0 0])/\w'.ownsRow b 3 1 (.slice lo (L++[z]).length lc) (L++[z]).length ((L++[z]).map jI)))
structure QS (w:World) (cls:List af.dE) (clo:Option Addr) (clc:Nat) (F:List Nat) (vo:Option Addr) (vc:Nat) (script:List (Int×Int)) (S0:iQ) (j:Nat) (S:iQ) (L:List Int) (lo:Option Addr) (lc:Nat) (nO:Option Addr) (nC:Nat) (po:Option Addr) (pc:Nat) (wr:World):Prop where
 ru:FP cls F script S0 j S L
 ma:ir wr (w.heap.size+1) cls clo clc F vo vc L lo lc S nO nC po pc
 sm:O7 F S
 gl:S.G.length<=100
 ll:L.length=j
 dl:S.D.length<=200000+j*1100000
 be:Below w.heap.size w wr
 Aq:∀k,(rowOf nO k\/rowOf po k\/rowOf lo k)->w.heap.size<=k
 zb:wr.heap[w.heap.size]?=some (.cells #[.int .i64 0,.slice none 0 0,.slice none 0 0,.slice none 0 0,.slice none 0 0] 29 (0,0))
def PU (w:World) (cls:List af.dE) (clo:Option Addr) (clc:Nat) (F:List Nat) (vo:Option Addr) (vc:Nat) (script:List (Int×Int)) (S0:iQ) (k:Nat) (iv:Value) (wr:World):Prop:=
 ∃(j:Nat) (S:iQ) (L:List Int) (lo:Option Addr) (lc:Nat) (nO:Option Addr) (nC:Nat) (po:Option Addr) (pc:Nat),k+j=script.length/\iv= .int .i64 (j:Int)/\QS w cls clo clc F vo vc script S0 j S L lo lc nO nC po pc wr
theorem QS.below {w:World} {cls:List af.dE} {clo:Option Addr} {clc:Nat} {F:List Nat} {vo:Option Addr} {vc:Nat} {script:List (Int×Int)} {S0:iQ} {j:Nat} {S:iQ} {L:List Int} {lo:Option Addr} {lc:Nat} {nO:Option Addr} {nC:Nat} {po:Option Addr} {pc:Nat} {wr w':World} (h:QS w cls clo clc F vo vc script S0 j S L lo lc nO nC po pc wr) (hb:Below wr.heap.size wr w'):QS w cls clo clc F vo vc script S0 j S L lo lc nO nC po pc w':=
 ⟨h.ru,h.ma.below hb,h.sm,h.gl,h.ll,h.dl,h.be.trans (hb.mono h.be.size),h.Aq,(hb.block _ (aD h.zb)).trans h.zb⟩
theorem uR:kx (e8 []) id (fun n=> .v ([],n)):=by have hg:∀n,af.gl (e8 []) n=none:=fun n=>rfl;have ha:∀n,af.ga (e8 []) n=[]:=fun n=>rfl;exact⟨⟨fun _=>rfl,fun n hn=>absurd (hg n) hn⟩,⟨fun n hn=>absurd (hg n) hn,fun n hn=>absurd (hg n) hn⟩,fun n=> .var (hg n) (ha n),fun n _=>ha n,fun n _=>Qw⟩
theorem qm:g8 [] id:=⟨fun _ hn=>absurd hn (mv _),fun _ hn=>absurd hn (mv _),fun _ _=>rfl⟩
def Mn (c:Int) (n:Nat):Nat:=((if c<0 then -(c+1)else c) % (n:Int)).toNat
theorem Nb (c:Int) (h:0<n):Mn c n<n:=by unfold Mn;have h1:=gN (if c<0 then -(c+1)else c) (b:=(n:Int)) (by omega);have h2:=jV (if c<0 then -(c+1)else c) (b:=(n:Int)) (by omega);omega
theorem Oo (w:World) (c:Int) (n:Nat) (hn:0<n) (hn':n<=1000000000) (h1: -9223372036854775808<=c) (h2:c<=9223372036854775807):
 Calls Tryz.prog 6 #[.int .i64 c,.int .i64 (n:Int)] w fun e w'=>e= .returned (.int .i64 (Mn c n:Int))/\w'=w:=by
 by_cases hc:c<0
 ·have t1:decide (c<0)=true:=by simpa using hc
  have q1:=gN (-(c+1)) (b:=(n:Int)) (by omega);have hp:(Mn c n:Int)=(-(c+1)) % (n:Int):=by unfold Mn;rw[aH hc,jz q1]
  rw[hp];clear hp q1;go_enter Tryz.func6,Tryz.ntmps6;go_wp2_with fail;go_ret;refine⟨?_,rfl⟩;show Ending.returned (.int .i64 (-(c+1).tmod (n:Int)))=_;rw[<-Int.neg_tmod,Int.tmod_eq_emod_of_nonneg (by omega)]
 ·have t1:decide (c<0)=false:=by simpa using hc
  have q1:=gN c (b:=(n:Int)) (by omega);have hp:(Mn c n:Int)=c % (n:Int):=by unfold Mn;rw[aG hc,jz q1]
  rw[hp];clear hp q1;go_enter Tryz.func6,Tryz.ntmps6;go_wp2_with fail;go_ret;exact⟨rfl,rfl⟩
def mG (w:World) (o:Option Addr) (xs:List Int):Prop:=xs≠[]->∃g,o=some ⟨g,0,none⟩/\g<w.heap.size/\∀i (h:i<xs.length),w.cell? ⟨g,i,none⟩=some (.int .i64 xs[i])
theorem mG.below {xs:List Int} (h:mG w o xs) (hb:Below w.heap.size w w'):mG w' o xs:=fun q=>by obtain⟨g,h1,h2,h3⟩:=h q;exact⟨g,h1,aJ h2 hb.size,fun i hi=>(hb.cell (p:=⟨g,i,none⟩) h2).trans (h3 i hi)⟩
theorem mG.iB {ys:List Int} (h:w.ownsRow b T 1 (.slice o ys.length c) ys.length (ys.map jI)):mG w o ys:=fun q=>by
 rcases h.2 with⟨q1,q0⟩ | ⟨g,cp,cur,q1,_⟩
 ·exact absurd (ch.1 q0) q
 ·simp only[aS]at q1;have hg:=q1.1;subst hg;refine⟨g,rfl,(h.lt g rfl).2,fun i hi=> ?_⟩;rw[h.cellAt i (by omega),bC,aj hi];rfl
def lT (w:World) (o:Option Addr) (xs:List ByteArray):Prop:=xs≠[]->∃g,o=some ⟨g,0,none⟩/\g<w.heap.size/\∀i (h:i<xs.length),w.cell? ⟨g,i,none⟩=some (.string xs[i])
theorem lT.below (h:lT w o xs) (hb:Below w.heap.size w w'):lT w' o xs:=fun q=>by obtain⟨g,h1,h2,h3⟩:=h q;exact⟨g,h1,aJ h2 hb.size,fun i hi=>(hb.cell (p:=⟨g,i,none⟩) h2).trans (h3 i hi)⟩
theorem lT.iB (h:w.ownsRow b T 1 (.slice o ys.length c) ys.length (ys.map fun x=>Value.string ⟨x.toArray⟩)):lT w o (ys.map fun x=>(⟨x.toArray⟩:ByteArray)):=fun q=>by
 rcases h.2 with⟨q1,q0⟩ | ⟨g,cp,cur,q1,_⟩
 ·rw[ch.1 q0]at q;exact absurd rfl q
 ·simp only[aS]at q1;have hg:=q1.1;subst hg;refine⟨g,rfl,(h.lt g rfl).2,fun i hi=> ?_⟩;rw[bj]at hi;rw[h.cellAt i (by omega),bC,aj hi];simp
theorem GL (w:World) (xs:List ByteArray) (oa ob:Option Addr) (ca cb:Nat) (ha:lT w oa xs) (hb:lT w ob xs) (hl:xs.length<=9223372036854775807):
 Calls Tryz.prog 23 #[.slice oa xs.length ca,.slice ob xs.length cb] w fun e w'=>e= .returned (.bool true)/\Below w.heap.size w w':=by
 have HA:=ah ha;have HB:=ah hb;clear ha hb;go_enter Tryz.func23,Tryz.ntmps23;go_wp2_with fail;go_loopg [5] xs.length (fun k iv wr=>∃j:Nat,k+j=xs.length/\iv= .int .i64 (j:Int)/\Below w.heap.size w wr)
 case atStart=>exact⟨0,by omega,rfl,Qx⟩
 case round=>
  obtain⟨j,hkj,rfl,hbe⟩:=hrel;have HBE:=ah hbe;have zz:=hbe.size;by_cases hlt:j<xs.length
  ·obtain⟨g,rfl,gz,ga⟩:=ae HA (fun q=>by rw[q]at hlt;simp at hlt);obtain⟨g2,rfl,gz2,gb⟩:=ae HB (fun q=>by rw[q]at hlt;simp at hlt);have f0:wr.cell? ⟨g,j,none⟩=some (.string xs[j]):=(hbe.cell (p:=⟨g,j,none⟩) gz).trans (ga j hlt);have f1:wr.cell? ⟨g2,j,none⟩=some (.string xs[j]):=(hbe.cell (p:=⟨g2,j,none⟩) gz2).trans (gb j hlt);have i0:(0:Int)<=(j:Int):=by omega
   have i1:(j:Int)<(xs.length:Int):=by omega
   have gy:g<wr.heap.size:=by omega
   have gy2:g2<wr.heap.size:=by omega
   generalize xs[j]=x at*;clear hbe ga gb;go_wp2_with fail;go_big_region;go_wp2_with fail;go_roundg (gk - 1)
   case measure=>omega
   case rel=>exact⟨j+1,by omega,by go_num,(ae HBE).drew⟩
  ·obtain rfl:j=xs.length:=by omega
   clear hbe;go_wp2_with fail;go_ret;exact⟨rfl,ae HBE⟩
def qZ (W:World) (a0:Option Addr) (len cap:Nat):Prop:=∃script:List (Int×Int),script.length=len/\len<=cap/\cap<=maxLen/\tU W a0 script/\∀p∈script,(-9223372036854775808<=p.1/\p.1<=9223372036854775807)/\(-9223372036854775808<=p.2/\p.2<=9223372036854775807)
theorem tU.below (h:tU w so script) (hb:Below w.heap.size w w'):tU w' so script:=fun q=>by obtain⟨g,off,h1,h2,h3⟩:=h q;refine⟨g,off,h1,aJ h2 hb.size,fun i hi=> ?_⟩;obtain⟨e1,e2⟩:=h3 i hi;exact⟨(hb.cell (p:=⟨g,off+i*2,none⟩) h2).trans e1,(hb.cell (p:=⟨g,off+i*2+1,none⟩) h2).trans e2⟩
theorem qZ.below {w w':World} {so:Option Addr} {len cap:Nat} (h:qZ w so len cap) (hb:Below w.heap.size w w'):qZ w' so len cap:=by obtain⟨script,h1,h2,h3,h4,h5⟩:=h;exact⟨script,h1,h2,h3,h4.below hb,h5⟩
def qJ (w:World) (o:Option Addr) (xs:List Bool):Prop:=xs≠[]->∃g,o=some ⟨g,0,none⟩/\g<w.heap.size/\∀i (h:i<xs.length),w.cell? ⟨g,i,none⟩=some (.bool xs[i])
theorem qJ.below {xs:List Bool} (h:qJ w o xs) (hb:Below w.heap.size w w'):qJ w' o xs:=fun q=>by obtain⟨g,h1,h2,h3⟩:=h q;exact⟨g,h1,aJ h2 hb.size,fun i hi=>(hb.cell (p:=⟨g,i,none⟩) h2).trans (h3 i hi)⟩
theorem qJ.iB {ys:List Bool} (h:w.ownsRow b T 1 (.slice o ys.length c) ys.length (ys.map fun b=> .bool b)):qJ w o ys:=fun q=>by
 rcases h.2 with⟨q1,q0⟩ | ⟨g,cp,cur,q1,_⟩
 ·exact absurd (ch.1 q0) q
 ·simp only[aS]at q1;have hg:=q1.1;subst hg;refine⟨g,rfl,(h.lt g rfl).2,fun i hi=> ?_⟩;rw[h.cellAt i (by omega),bC,aj hi];rfl
theorem GN (w:World) (xs:List Int) (oa ob:Option Addr) (ca cb:Nat) (ha:mG w oa xs) (hb:mG w ob xs) (hl:xs.length<=9223372036854775807):
 Calls Tryz.prog 11 #[.slice oa xs.length ca,.slice ob xs.length cb] w fun e w'=>e= .returned (.bool true)/\Below w.heap.size w w':=by
 have HA:=ah ha;have HB:=ah hb;clear ha hb;go_enter Tryz.func11,Tryz.ntmps11;go_wp2_with fail;go_loopg [5] xs.length (fun k iv wr=>∃j:Nat,k+j=xs.length/\iv= .int .i64 (j:Int)/\Below w.heap.size w wr)
 case atStart=>exact⟨0,by omega,rfl,Qx⟩
 case round=>
  obtain⟨j,hkj,rfl,hbe⟩:=hrel;have HBE:=ah hbe;have zz:=hbe.size;by_cases hlt:j<xs.length
  ·obtain⟨g,rfl,gz,ga⟩:=ae HA (fun q=>by rw[q]at hlt;simp at hlt);obtain⟨g2,rfl,gz2,gb⟩:=ae HB (fun q=>by rw[q]at hlt;simp at hlt);have f0:wr.cell? ⟨g,j,none⟩=some (.int .i64 xs[j]):=(hbe.cell (p:=⟨g,j,none⟩) gz).trans (ga j hlt);have f1:wr.cell? ⟨g2,j,none⟩=some (.int .i64 xs[j]):=(hbe.cell (p:=⟨g2,j,none⟩) gz2).trans (gb j hlt);have i0:(0:Int)<=(j:Int):=by omega
   have i1:(j:Int)<(xs.length:Int):=by omega
   have gy:g<wr.heap.size:=by omega
   have gy2:g2<wr.heap.size:=by omega
   generalize xs[j]=x at*;clear hbe ga gb;go_wp2_with fail;go_big_region;go_wp2_with fail;go_roundg (gk - 1)
   case measure=>omega
   case rel=>exact⟨j+1,by omega,by go_num,(ae HBE).drew⟩
  ·obtain rfl:j=xs.length:=by omega
   clear hbe;go_wp2_with fail;go_ret;exact⟨rfl,ae HBE⟩
theorem MZ (w:World) (xs:List Bool) (oa ob:Option Addr) (ca cb:Nat) (ha:qJ w oa xs) (hb:qJ w ob xs) (hl:xs.length<=9223372036854775807):
 Calls Tryz.prog 24 #[.slice oa xs.length ca,.slice ob xs.length cb] w fun e w'=>e= .returned (.bool true)/\Below w.heap.size w w':=by
 have HA:=ah ha;have HB:=ah hb;clear ha hb;go_enter Tryz.func24,Tryz.ntmps24;go_wp2_with fail;go_loopg [5] xs.length (fun k iv wr=>∃j:Nat,k+j=xs.length/\iv= .int .i64 (j:Int)/\Below w.heap.size w wr)
 case atStart=>exact⟨0,by omega,rfl,Qx⟩
 case round=>
  obtain⟨j,hkj,rfl,hbe⟩:=hrel;have HBE:=ah hbe;have zz:=hbe.size;by_cases hlt:j<xs.length
  ·obtain⟨g,rfl,gz,ga⟩:=ae HA (fun q=>by rw[q]at hlt;simp at hlt);obtain⟨g2,rfl,gz2,gb⟩:=ae HB (fun q=>by rw[q]at hlt;simp at hlt);have f0:wr.cell? ⟨g,j,none⟩=some (.bool xs[j]):=(hbe.cell (p:=⟨g,j,none⟩) gz).trans (ga j hlt);have f1:wr.cell? ⟨g2,j,none⟩=some (.bool xs[j]):=(hbe.cell (p:=⟨g2,j,none⟩) gz2).trans (gb j hlt);have i0:(0:Int)<=(j:Int):=by omega
   have i1:(j:Int)<(xs.length:Int):=by omega
   have gy:g<wr.heap.size:=by omega
   have gy2:g2<wr.heap.size:=by omega
   generalize xs[j]=x at*;clear hbe ga gb;go_wp2_with fail;go_big_region;go_wp2_with fail;go_roundg (gk - 1)
   case measure=>omega
   case rel=>exact⟨j+1,by omega,by go_num,(ae HBE).drew⟩
  ·obtain rfl:j=xs.length:=by omega
   clear hbe;go_wp2_with fail;go_ret;exact⟨rfl,ae HBE⟩
theorem GM (w:World) (en:Int) (log:List Int) (vals gols:List ByteArray) (wts:List Bool) (lo:Option Addr) (lc:Nat) (xo:Option Addr) (xc:Nat) (go:Option Addr) (gc:Nat) (yo:Option Addr) (yc:Nat) (lp:Option Addr) (ld:Nat) (xp:Option Addr) (xd:Nat) (gp:Option Addr) (gd:Nat) (yp:Option Addr) (yd:Nat) (h1:mG w lo log) (h2:mG w lp log) (h3:lT w xo vals) (h4:lT w xp vals) (h5:lT w go gols) (h6:lT w gp gols) (h7:qJ w yo wts) (h8:qJ w yp wts) (l1:log.length<=9223372036854775807) (l2:vals.length<=9223372036854775807) (l3:gols.length<=9223372036854775807) (l4:wts.length<=9223372036854775807):
 Calls Tryz.prog 12 #[.agg #[.int .i64 en,.slice lo log.length lc,.slice xo vals.length xc,.slice go gols.length gc,.slice yo wts.length yc],.agg #[.int .i64 en,.slice lp log.length ld,.slice xp vals.length xd,.slice gp gols.length gd,.slice yp wts.length yd]] w fun e w'=>e= .returned (.bool true)/\Below w.heap.size w w':=by
 have hb0:=((al w.heap.size w).alloc Qw (.cells #[.int .i64 en,.slice lo log.length lc,.slice xo vals.length xc,.slice go gols.length gc,.slice yo wts.length yc] 29)).alloc (by simp) (.cells #[.int .i64 en,.slice lp log.length ld,.slice xp vals.length xd,.slice gp gols.length gd,.slice yp wts.length yd] 29);have hz1:=aQ (aB w (.cells #[.int .i64 en,.slice lo log.length lc,.slice xo vals.length xc,.slice go gols.length gc,.slice yo wts.length yc] 29)) (.cells #[.int .i64 en,.slice lp log.length ld,.slice xp vals.length xd,.slice gp gols.length gd,.slice yp wts.length yd] 29);have hz2:=aB (w.alloc (.cells #[.int .i64 en,.slice lo log.length lc,.slice xo vals.length xc,.slice go gols.length gc,.slice yo wts.length yc] 29)) (.cells #[.int .i64 en,.slice lp log.length ld,.slice xp vals.length xd,.slice gp gols.length gd,.slice yp wts.length yd] 29);rw[aF]at hz2;have HB0:=ah hb0;have I1:=ah (fun(W:World) (hb:Below w.heap.size w W)=>GN W log lo lp lc ld (h1.below hb) (h2.below hb) (by omega));have I2:=ah (fun(W:World) (hb:Below w.heap.size w W)=>GL W vals xo xp xc xd (h3.below hb) (h4.below hb) (by omega));have I3:=ah (fun(W:World) (hb:Below w.heap.size w W)=>GL W gols go gp gc gd (h5.below hb) (h6.below hb) (by omega));have I4:=ah (fun(W:World) (hb:Below w.heap.size w W)=>MZ W wts yo yp yc yd (h7.below hb) (h8.below hb) (by omega));have HZ1:=ah hz1;have HZ2:=ah hz2;generalize log.length=n1 at*;generalize vals.length=n2 at*;generalize gols.length=n3 at*;generalize wts.length=n4 at*;clear hb0 hz1 hz2 h1 h2 h3 h4 h5 h6 h7 h8;go_enter Tryz.func12,Tryz.ntmps12;go_wp2_with fail;refine(ae I1 _ (ae HB0)).mono ?_;rintro e w2 ⟨rfl,hb2⟩;have a1:=(hb2.block w.heap.size (by simp;omega)).trans (ae HZ1);have a2:=(hb2.block (w.heap.size+1) (by simp)).trans (ae HZ2);have f2:=aN a1 2;have f3:=aN a1 3;have f4:=aN a1 4;have f0:=aN a1 0;have g2:=aN a2 2;have g3:=aN a2 3;have g4:=aN a2 4;have g0:=aN a2 0;simp only[aE,aq,aA]at f0 f2 f3 f4 g0 g2 g3 g4;have z1:w.heap.size<w2.heap.size:=aD a1;have z2:w.heap.size+1<w2.heap.size:=aD a2;have hb02:=(ae HB0).trans (hb2.mono (ae HB0).size);have HB2:=ah hb02;clear hb2 a1 a2 hb02 HZ1 HZ2;go_wp2_with fail;refine(ae I2 _ (ae HB2)).mono ?_;rintro e w3 ⟨rfl,hb3⟩;have p3:=(hb3.cell (p:=⟨w.heap.size,3,none⟩) z1).trans f3;have p4:=(hb3.cell (p:=⟨w.heap.size,4,none⟩) z1).trans f4;have p0:=(hb3.cell (p:=⟨w.heap.size,0,none⟩) z1).trans f0;have q3:=(hb3.cell (p:=⟨w.heap.size+1,3,none⟩) z2).trans g3;have q4:=(hb3.cell (p:=⟨w.heap.size+1,4,none⟩) z2).trans g4;have q0:=(hb3.cell (p:=⟨w.heap.size+1,0,none⟩) z2).trans g0;have y1:w.heap.size<w3.heap.size:=aJ z1 hb3.size;have y2:w.heap.size+1<w3.heap.size:=aJ z2 hb3.size;have HB3:=ah ((ae HB2).trans (hb3.mono (ae HB2).size));clear hb3;go_wp2_with fail;refine(ae I3 _ (ae HB3)).mono ?_;rintro e w4 ⟨rfl,hb4⟩;have r4:=(hb4.cell (p:=⟨w.heap.size,4,none⟩) y1).trans p4;have r0:=(hb4.cell (p:=⟨w.heap.size,0,none⟩) y1).trans p0;have s4:=(hb4.cell (p:=⟨w.heap.size+1,4,none⟩) y2).trans q4;have s0:=(hb4.cell (p:=⟨w.heap.size+1,0,none⟩) y2).trans q0;have x1:w.heap.size<w4.heap.size:=aJ y1 hb4.size;have x2:w.heap.size+1<w4.heap.size:=aJ y2 hb4.size;have HB4:=ah ((ae HB3).trans (hb4.mono (ae HB3).size));clear hb4;go_wp2_with fail;refine(ae I4 _ (ae HB4)).mono ?_;rintro e w5 ⟨rfl,hb5⟩;have t0:=(hb5.cell (p:=⟨w.heap.size,0,none⟩) x1).trans r0;have u0:=(hb5.cell (p:=⟨w.heap.size+1,0,none⟩) x2).trans s0;have v1:w.heap.size<w5.heap.size:=aJ x1 hb5.size;have v2:w.heap.size+1<w5.heap.size:=aJ x2 hb5.size;have HB5:=ah ((ae HB4).trans (hb5.mono (ae HB4).size));clear hb5;go_wp2_with fail;go_ret;exact⟨rfl,ae HB5⟩
end Go.Proofs.YthfjnfcekeknlabGreatDoor
namespace af
open Go.Proofs.YthfjnfcekeknlabGreatDoor (iA jX jp)
variable {y:List UInt8} {u:U} {r' r o1 o2 o:Nat->Nat} {P P':Nat->Prop} {l1 l2:Nat}
def zU:U:= .n 0 [] 0 []
structure MG where
 a:U
 sg:List UInt8
 b:U
 op:List UInt8
 c:U
 wt:Bool
 on:Nat->Prop
structure MS where
 vs:List U
 gs:List MG
 lim:Nat
def MG.stays (σ:Vr->U) (g:MG):Prop:=g.wt=true/\∀v,g.on v->σ ([],v)= .v ([],v)
open Classical in
noncomputable def MG.put (σ:Vr->U) (g:MG):MG:=⟨sub σ g.a,g.sg,sub σ g.b,g.op,sub σ g.c,decide (g.stays σ),fun v=>g.stays σ/\g.on v⟩
def MG.of (η:List UInt8->U) (x:dq):MG:=⟨fb η 8 x.left,x.sign,x.right.elim zU (fb η 8),x.op,x.last.elim zU (fb η 8),false,fun _=>False⟩
def iN (u:U) (c:dE) (o:Nat->Nat) (y:List UInt8):U:=if y∈NH c then((dB 8 c.head u ⟨[],Wn.none⟩).st.find? (fun q=>q.1 == y)).elim zU (·.2)else .v ([],o ((NG c).idxOf y - (NH c).length))
def eK (lim:Nat) (u:U) (c:dE):Nat×List Nat:=if(dB 8 c.head u ⟨[],Wn.none⟩).w.says≠1 then((dB 8 c.head u ⟨[],Wn.none⟩).w.says,(dB 8 c.head u ⟨[],Wn.none⟩).w.wt)else((nB (iN u c (lim+·)) c.tests).says,(nB (iN u c (lim+·)) c.tests).wt.filter fun n=>decide (n<lim))
def lB (gs:List MG):List Nat:=(List.range gs.length).filter fun i=>match gs[i]? with
 | some g=> !g.wt
 | none=>false
def Qm (S S':MS) (i:Nat) (g:MG) (z:Int):Prop:=g.sg=[61]/\z=0/\∃σ,iw g.a g.b σ/\S'.vs=S.vs.map (sub σ)/\S'.gs=(S.gs.eraseIdx i).map (MG.put σ)
def Qp (S S':MS) (i:Nat) (g:MG) (z:Int):Prop:=g.sg=[58,61]/\z= -1/\(lY g.op g.b g.c).wt≠[]/\S'.vs=S.vs/\S'.gs=S.gs.set i ⟨g.a,g.sg,g.b,g.op,g.c,true,fun v=>v∈(lY g.op g.b g.c).wt⟩
def Qq (S S':MS) (i:Nat) (g:MG) (z:Int):Prop:=g.sg=[58,61]/\z=0/\(lY g.op g.b g.c).wt=[]/\∃x σ,iA g.op g.b g.c=some x/\iw g.a (.n 3 [] x []) σ/\S'.vs=S.vs.map (sub σ)/\S'.gs=(S.gs.eraseIdx i).map (MG.put σ)
def Ql (S S':MS) (i:Nat) (g:MG) (z:Int):Prop:=g.sg=[]/\z=0/\g.a= .n 1 [116,114,117,101] 0 []/\S'.vs=S.vs/\S'.gs=S.gs.eraseIdx i
def pO (cls:List dE) (g:MG) (p:Int) (n:Nat) (ui:Nat->Nat):Prop:=g.sg=[]/\∃tx us,g.a= .n 1 tx 0 us/\¬(tx=[116,114,117,101]/\us=[])/\n=(eW cls tx us.length cls.length).length/\ui=jp (eW cls tx us.length cls.length) (jX p n)
def Qo (cls:List dE) (S S':MS) (i:Nat) (g:MG) (p z:Int):Prop:=∃n ui,pO cls g p n ui/\∃(t:Nat) (c:dE) (F:List Nat),t<n/\(∀t' c',t'<t->cls[ui t']?=some c'->(eK S.lim g.a c').1≠1)/\cls[ui t]?=some c/\(eK S.lim g.a c).1=1/\z=((ui t+1:Nat):Int)/\F.length+(NH c).length=(NG c).length/\F.Pairwise (·<·)/\(∀f∈F,S.lim<=f/\f<S'.lim)/\S'.vs=S.vs/\S'.gs=S.gs.eraseIdx i++c.goals.map (MG.of (iN g.a c fun k=>(F[k]?).getD 0))
def Qn (cls:List dE) (S S':MS) (i:Nat) (g:MG) (p z:Int):Prop:=∃n ui,pO cls g p n ui/\z= -1/\(∀t c,t<n->cls[ui t]?=some c->(eK S.lim g.a c).1≠1)/\(∃t c,t<n/\cls[ui t]?=some c/\(eK S.lim g.a c).1=3)/\S'.vs=S.vs/\S'.gs=S.gs.set i ⟨g.a,g.sg,g.b,g.op,g.c,true,fun v=>∃t c,t<n/\cls[ui t]?=some c/\(eK S.lim g.a c).1=3/\v∈(eK S.lim g.a c).2⟩
def kW (cls:List dE) (S S':MS) (i:Nat) (p z:Int):Prop:=S.lim<=S'.lim/\∃g,S.gs[i]?=some g/\(Qm S S' i g z\/Qp S S' i g z\/Qq S S' i g z\/Ql S S' i g z\/Qo cls S S' i g p z\/Qn cls S S' i g p z)
def ME (cls:List dE) (S:MS) (i:Nat) (p en:Int):Prop:=∃g,S.gs[i]?=some g/\
 ((g.sg=[61]/\en=4/\∀θ,sub θ g.a≠sub θ g.b)\/
  (g.sg=[58,61]/\(lY g.op g.b g.c).wt=[]/\((en=5/\iA g.op g.b g.c=none)\/(en=4/\∃x,iA g.op g.b g.c=some x/\∀θ,sub θ g.a≠ .n 3 [] x [])))\/
  (en=4/\∃n ui,pO cls g p n ui/\∀t c,t<n->cls[ui t]?=some c->(eK S.lim g.a c).1=2))
def big (u:U):Bool:=decide (40<size u)
def rj (g:MG):Bool:=if g.sg=[]then(match g.a with
 | .v _=>false
 | .n _ _ _ us=>us.any big)else(big g.a||big g.b||big g.c)
def sV (S:MS):Bool:=decide (24<S.gs.length)||(S.vs.any big||S.gs.any rj)
def lG (a:List (List UInt8)×List Vr) (u:U):List (List UInt8)×List Vr:=(a.1++[d7 Go.Lib.itoa (cJ a.2 u) u],cJ a.2 u)
def jj (vs:List U):List (List UInt8)×List Vr:=vs.foldl lG ([],[])
def kU (N:List Vr) (g:MG):List Vr:=cJ (cJ (cJ N g.a) g.b) g.c
def vE (N:List Vr) (g:MG):List UInt8:=p9 (d7 Go.Lib.itoa N g.a) g.sg (d7 Go.Lib.itoa N g.b) g.op (d7 Go.Lib.itoa N g.c)
def mO (a:List (List UInt8)×List Vr) (g:MG):List (List UInt8)×List Vr:=(a.1++[vE (kU a.2 g) g],kU a.2 g)
def ux (N:List Vr) (gs:List MG):List (List UInt8)×List Vr:=gs.foldl mO ([],N)
def oK (gs:List MG):Int:=if gs=[]then 1 else if lB gs=[]then 2 else 3
inductive jk (cls:List dE) (script:List (Int×Int)) (S0:MS):Nat->MS->List Int->Prop
 | start:jk cls script S0 0 S0 []
 | step {j:Nat} {S S':MS} {L:List Int} {pg pc z:Int} {i:Nat} (h:jk cls script S0 j S L) (hs:script[j]?=some (pg,pc)) (hi:(lB S.gs)[jX pg (lB S.gs).length]?=some i) (hg:kW cls S S' i pc z) (hl:sV S'=false):jk cls script S0 (j+1) S' (L++[z])
def oR (cls:List dE) (script:List (Int×Int)) (S0:MS) (en:Int) (log:List Int) (vals gols:List (List UInt8)) (wts:List Bool):Prop:=∃(j:Nat) (S:MS) (L:List Int),jk cls script S0 j S L/\
 (((j=script.length\/lB S.gs=[])/\en=oK S.gs/\log=L/\vals=(jj S.vs).1/\gols=(ux (jj S.vs).2 S.gs).1/\wts=S.gs.map (·.wt))\/
  (∃(pg pc:Int) (i:Nat) (z:Int),script[j]?=some (pg,pc)/\(lB S.gs)[jX pg (lB S.gs).length]?=some i/\((ME cls S i pc en/\z= -2)\/(en=6/\∃S',kW cls S S' i pc z/\sV S'=true))/\log=L++[z]/\vals=[]/\gols=[]/\wts=[]))
theorem JQ (c:dE):∃K,NG c=NH c++K:=by
 have hO:∀(t:Option Tm) (ns:List (List UInt8)),∃M,e7 ns t=ns++M:=fun t ns=>by
  cases t with
  | none=>exact⟨[],by simp[e7]⟩
  | some r=>exact dG 8 r ns
 have hI:∀(x:dq) (ns:List (List UInt8)),∃M,bU ns x=ns++M:=fun x ns=>by obtain⟨M1,h1⟩:=dG 8 x.left ns;obtain⟨M2,h2⟩:=hO x.right (aP 8 ns x.left);obtain⟨M3,h3⟩:=hO x.last (e7 (aP 8 ns x.left) x.right);exact⟨M1++(M2++M3),by unfold bU;rw[h3,h2,h1];simp⟩
 have hL:∀(xs:List dq) (ns:List (List UInt8)),∃M,bE ns xs=ns++M:=fun xs=>by
  induction xs with
  | nil=>exact fun ns=>⟨[],by simp[bE]⟩
  | cons x xs ih=>intro ns;obtain⟨M1,h1⟩:=hI x ns;obtain⟨M2,h2⟩:=ih (bU ns x);exact⟨M1++M2,by show bE (bU ns x) xs=_;rw[h2,h1];simp⟩
 obtain⟨M1,h1⟩:=hL c.tests (NH c);obtain⟨M2,h2⟩:=hL c.goals (NT c);exact⟨M1++M2,by unfold NG;rw[h2];unfold NT;rw[h1];simp⟩
theorem MD (c:dE):∀y∈NT c,y∈NG c:=fun y hy=>by
 have hO:∀(t:Option Tm) (ns:List (List UInt8)),∀y∈ns,y∈e7 ns t:=fun t ns y hy=>by
  cases t with
  | none=>exact hy
  | some r=>obtain⟨K,hK⟩:=dG 8 r ns;show y∈aP 8 ns r;rw[hK];exact bO _ hy
 have hI:∀(x:dq) (ns:List (List UInt8)),∀y∈ns,y∈bU ns x:=fun x ns y hy=>by refine hO _ _ y (hO _ _ y ?_);obtain⟨K,hK⟩:=dG 8 x.left ns;rw[hK];exact bO _ hy
 have hL:∀(xs:List dq) (ns:List (List UInt8)),∀y∈ns,y∈bE ns xs:=fun xs=>by
  induction xs with
  | nil=>exact fun ns y hy=>hy
  | cons x xs ih=>exact fun ns y hy=>ih _ y (hI x ns y hy)
 exact hL c.goals (NT c) y hy
theorem JR {c:dE} (hy:y∈NG c) (hn:y∉NH c):(NH c).length<=(NG c).idxOf y/\(NG c).idxOf y<(NG c).length:=by refine⟨?_,bW hy⟩;obtain⟨K,hK⟩:=JQ c;rw[hK,dA,aG hn];omega
theorem ky (h:∀k,P k->r' k=r k) (hu:fz (PQ P) u):fm r' u=fm r u:=sub_congr u fun x hx=>by unfold ren rn;rw[h x.2 ((eG u).1 hu x hx).2]
theorem GQ (r:Nat->Nat):fm r zU=zU:=by unfold zU;rw[gO];rfl
theorem FZ (Q:Vr->Prop):fz Q zU:= .n fun a ha=>by cases ha
theorem sW (Q:Vr->Prop):(fO.mk [] Wn.none).um Q:=⟨fun _ hq=>absurd hq cC,eQ Q⟩
theorem tI (hi:lj r P) (h:∀k,P k->r' k=r k) (hu:fz (PQ P) u) {c:dE} (ho:y∉NH c->r' (o1 ((NG c).idxOf y - (NH c).length))=o2 ((NG c).idxOf y - (NH c).length)):iN (fm r u) c o2 y=fm r' (iN u c o1 y):=by
 unfold iN;by_cases hy:y∈NH c
 ·rw[aH hy,aH hy];have:=sU hi 8 c.head u ⟨[],Wn.none⟩ hu (sW _);have e:(fO.mk [] Wn.none).map r=⟨[],Wn.none⟩:=rfl;rw[e]at this;rw[this];show (((dB 8 c.head u ⟨[],Wn.none⟩).st.map fun q=>(q.1,fm r q.2)).find? (fun q=>q.1 == y)).elim zU (·.2)=_;rw[Bm];cases hq:(dB 8 c.head u ⟨[],Wn.none⟩).st.find? (fun q=>q.1 == y)with
  | none=>exact(GQ r').symm
  | some q=>exact(ky h ((lM 8 c.head u _ hu (sW _)).1 q (cR hq))).symm
 ·rw[aG hy,aG hy,mT,ho hy]
theorem xm (h:∀k,P k->P' k) (hu:fz (PQ P) u) {c:dE} (ho:y∉NH c->P' (o ((NG c).idxOf y - (NH c).length))):fz (PQ P') (iN u c o y):=by
 unfold iN;by_cases hy:y∈NH c
 ·rw[aH hy];cases hq:(dB 8 c.head u ⟨[],Wn.none⟩).st.find? (fun q=>q.1 == y)with
  | none=>exact FZ _
  | some q=>exact((lM 8 c.head u _ hu (sW _)).1 q (cR hq)).mono fun x hx=>⟨hx.1,h _ hx.2⟩
 ·rw[aG hy];exact .v ⟨rfl,ho hy⟩
theorem BO (hi:lj r P) (h1:∀k,P k->k<l1) (h2:∀k,P k->r k<l2) (hu:fz (PQ P) u) {c:dE} (hc:∀x∈c.tests,jc x):(eK l2 (fm r u) c).1=(eK l1 u c).1/\(eK l2 (fm r u) c).2=(eK l1 u c).2.map r/\∀v∈(eK l1 u c).2,P v:=by
 have hm:=sU hi 8 c.head u ⟨[],Wn.none⟩ hu (sW _);have e:(fO.mk [] Wn.none).map r=⟨[],Wn.none⟩:=rfl;rw[e]at hm;have hw:(dB 8 c.head (fm r u) ⟨[],Wn.none⟩).w=(dB 8 c.head u ⟨[],Wn.none⟩).w.map r:=by rw[hm];rfl
 have hin:=(lM 8 c.head u ⟨[],Wn.none⟩ hu (sW _)).2;unfold eK;rw[hw,Wn.oY];by_cases hs:(dB 8 c.head u ⟨[],Wn.none⟩).w.says≠1
 ·rw[aH hs,aH hs];exact⟨rfl,rfl,hin.at⟩
 ·rw[aG hs,aG hs];let r':Nat->Nat:=fun k=>if k<l1 then r k else l2+(k - l1);let P':Nat->Prop:=fun k=>P k\/l1<=k
  have hr:∀k,P k->r' k=r k:=fun k hk=>aH (h1 k hk);have hr2:∀k,l1<=k->r' k=l2+(k - l1):=fun k hk=>aG (by omega);have hi':lj r' P':=fun i j hPi hPj q=>by
   rcases hPi with a | a<;>rcases hPj with b | b
   ·rw[hr i a,hr j b]at q;exact hi i j a b q
   ·rw[hr i a,hr2 j b]at q;have:=h2 i a;omega
   ·rw[hr2 i a,hr j b]at q;have:=h2 j b;omega
   ·rw[hr2 i a,hr2 j b]at q;omega
  have hY:∀y,fz (PQ P') (iN u c (l1+·) y):=fun y=>xm (fun k hk=>ay hk) hu fun _=>aw (iq _ _);have hE:iN (fm r u) c (l2+·)=fun y=>fm r' (iN u c (l1+·) y):=funext fun y=>tI hi hr hu fun _=>by rw[hr2 _ (iq _ _)];congr 1;omega
  rw[hE,Dt hi' c.tests [] hc (fun y _=>hY y)];have hwt:=wm (η:=iN u c (l1+·)) c.tests [] hc (fun y _=>hY y);refine⟨Wn.oY _ _,?_,fun v hv=> ?_⟩
  ·show ((nB (iN u c (l1+·)) c.tests).wt.map r').filter _=_
   rw[List.filter_map];have:(nB (iN u c (l1+·)) c.tests).wt.filter ((fun n=>decide (n<l2))∘r')=(nB (iN u c (l1+·)) c.tests).wt.filter fun n=>decide (n<l1):=B2 fun w hw=>by
    show decide (r' w<l2)=decide (w<l1);rcases hwt.at w hw with q | q
    ·rw[hr w q,eN (h2 w q),eN (h1 w q)]
    ·rw[hr2 w q,dK (by omega),dK (by omega)]
   rw[this];refine bt fun w hw=> ?_;obtain⟨hw1,hw2⟩:=gL.1 hw;exact aH (fL hw2)
  ·obtain⟨hw1,hw2⟩:=gL.1 hv;have:=fL hw2;rcases hwt.at v hw1 with q | q
   ·exact q
   ·omega
