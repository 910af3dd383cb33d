import Derived.Test.YthfjnfcekeknlabGreatDoorPx03
import Derived.Test.YthfjnfcekeknlabGreatDoorPx12
import Derived.Test.YthfjnfcekeknlabGreatDoorPx23
set_option maxHeartbeats 8000000
set_option maxRecDepth 100000
set_option linter.unusedSimpArgs false
namespace Go.Proofs.YthfjnfcekeknlabGreatDoor
open Go.RowKit af
theorem A2 (w:World) (n:Int) (h0: -9223372036854775808<=n) (h1:n<=9223372036854775807) (hp:Pow w):
 Calls Tryz.prog 123 #[.int .i64 n] w fun e w'=>e= .returned (.string ⟨(Lib.itoa n).toArray⟩)/\Below w.heap.size w w':=by
 refine(Tryz.strconv_Itoa n h0 h1 w hp).mono ?_;rintro e w' ⟨rfl,k,os,rfl⟩;exact⟨rfl,Lib.below_grow _ _ Qw _ _⟩
def Er (f:Nat):Prop:=∀(w:World) (N:List af.Vr) (P:Nat->Prop) (a:AV) (u:af.U),RV f N P w a u->Pow w->N.length<=1000000->Ch u->af.size u<=1000->
 Calls Tryz.prog 73 #[.agg #[.int .i64 a.k,.int .i64 a.val,.string a.tx,.slice a.ao a.n a.cap]] w fun e w'=>e= .returned (.string ⟨(d7 Lib.itoa N u).toArray⟩)/\Below w.heap.size w w'
theorem Kn (w:World) (N:List af.Vr) (a:AV) (x:af.Vr) (hr:vV N a (.v x)) (hp:Pow w) (hN:N.length<=1000000):
 Calls Tryz.prog 73 #[.agg #[.int .i64 a.k,.int .i64 a.val,.string a.tx,.slice a.ao a.n a.cap]] w fun e w'=>e= .returned (.string ⟨(d7 Lib.itoa N (.v x)).toArray⟩)/\Below w.heap.size w w':=by
 obtain⟨k,val,tx,ao,n,cp⟩:=a;obtain⟨h1,h2,h3,h4⟩:=hr;dsimp only at h1 h2 h4⊢;subst h1 h2;have hidx:N.idxOf x<=1000000:=by have:=List.idxOf_le_length (l:=N) (a:=x);omega
 have hdl:=Lib.itoa_length_le (N.idxOf x:Int) (by omega) (by omega);have HS:=ah (show d7 Lib.itoa N (.v x)=86 :: Lib.itoa (N.idxOf x:Int)by rw[d7])
 have HP:=ah (hp.alloc (.cells #[.int .i64 1,.int .i64 (N.idxOf x:Int),.string tx,.slice ao n cp] 74));clear h3 h4 hp hN;generalize N.idxOf x=ix at*;have HI:=ah (A2 _ (ix:Int) (by omega) (by omega) (ae HP));generalize Lib.itoa (ix:Int)=S at*;go_enter Tryz.func73,Tryz.ntmps73;go_wp2_with fail;refine(ae HI).mono ?_;rintro e w1 ⟨rfl,hb⟩;have HB:=ah hb;clear hb;go_wp2_with fail;go_ret;refine⟨?_,(Qx.alloc Qw _).trans ((ae HB).mono (by simp))⟩;rw[ae HS];rfl
theorem Ko (w:World) (N:List af.Vr) (a:AV) (tx':List UInt8) (num:Int) (hk:a.k=2) (hv:a.val=num) (hp:Pow w) (h0: -1000000000<=num) (h1:num<=1000000000):
 Calls Tryz.prog 73 #[.agg #[.int .i64 a.k,.int .i64 a.val,.string a.tx,.slice a.ao a.n a.cap]] w fun e w'=>e= .returned (.string ⟨(d7 Lib.itoa N (.n 3 tx' num [])).toArray⟩)/\Below w.heap.size w w':=by
 obtain⟨k,val,tx,ao,n,cp⟩:=a;dsimp only at hk hv⊢;subst hk hv;have HS:=ah (show d7 Lib.itoa N (.n 3 tx' val [])=Lib.itoa val by rw[mf,aH rfl])
 have HP:=ah (hp.alloc (.cells #[.int .i64 2,.int .i64 val,.string tx,.slice ao n cp] 74));have HI:=ah (A2 _ val (by omega) (by omega) (ae HP));clear hp;generalize hS:Lib.itoa val=S at*;clear hS;go_enter Tryz.func73,Tryz.ntmps73;go_wp2_with fail;refine(ae HI).mono ?_;rintro e w1 ⟨rfl,hb⟩;have HB:=ah hb;clear hb;go_wp2_with fail;go_ret;refine⟨?_,(Qx.alloc Qw _).trans ((ae HB).mono (by simp))⟩;rw[ae HS];rfl
theorem GB (w:World) (N:List af.Vr) (a:AV) (num:Int) (hk:a.k=3) (hn:a.n=0):
 Calls Tryz.prog 73 #[.agg #[.int .i64 a.k,.int .i64 a.val,.string a.tx,.slice a.ao a.n a.cap]] w fun e w'=>e= .returned (.string ⟨(d7 Lib.itoa N (.n 1 a.tx.toList num [])).toArray⟩)/\Below w.heap.size w w':=by
 obtain⟨k,val,tx,ao,n,cp⟩:=a;dsimp only at hk hn⊢;subst hk hn;have HS:=ah (show d7 Lib.itoa N (.n 1 tx.toList num [])=tx.toList by rw[mf,aG (by decide)];simp[nj])
 go_enter Tryz.func73,Tryz.ntmps73;go_wp2_with fail;go_ret;refine⟨?_,Qx.alloc Qw _⟩;rw[ae HS,xu];rfl
def PN (w:World) (N:List af.Vr) (tx:List UInt8) (us:List af.U) (k:Nat) (sv iv:Value) (wr:World):Prop:=
 ∃j:Nat,k+j=us.length/\iv= .int .i64 (j:Int)/\sv= .string ⟨(tx++lS ((us.take j).map (d7 Lib.itoa N))).toArray⟩/\Below w.heap.size w wr
theorem L4:∀(l:List (List UInt8)) (c:Nat),(∀x∈l,x.length<=c)->l.length<=3->(lS l).length<=10+3*c:=fun l c h hl=>by have:=Ju (c:=c) l h;have h2:=bY (c+1) hl;omega
theorem GA {f:Nat} (IH:Er f) (w:World) (N:List af.Vr) (P:Nat->Prop) (a:AV) (num:Int) (us:List af.U) (hk:a.k=3) (hn:a.n=us.length) (hrow:us≠[]->∃(g:Nat) (vs:List AV) (cs:Array Value),a.ao=some ⟨g,0,none⟩/\P g/\w.heap[g]?=some (.cells cs 74 (0,0))/\cs.toList.take (vs.length*4)=vs.flatMap oq/\eO (RV f N P w) vs us) (hp:Pow w) (hN:N.length<=1000000) (hsm:Ch (.n 1 a.tx.toList num us)) (hsz:af.size (.n 1 a.tx.toList num us)<=1000) (hne:us≠[]):
 Calls Tryz.prog 73 #[.agg #[.int .i64 a.k,.int .i64 a.val,.string a.tx,.slice a.ao a.n a.cap]] w fun e w'=>e= .returned (.string ⟨(d7 Lib.itoa N (.n 1 a.tx.toList num us)).toArray⟩)/\Below w.heap.size w w':=by
 obtain⟨g,vs,cs,hao,-,hcs,htk,hall⟩:=hrow hne;obtain⟨s1,s2,s3,s4⟩:=hsm.own;obtain⟨k,val,tx,ao,an,acp⟩:=a;dsimp only at hk hn hao s1 hsm hsz⊢;subst hk hn hao;have hlen:∀v∈us,(d7 Lib.itoa N v).length<=300000:=fun v hv=>by have h1:=mP (N:=N) (by omega) v (hsm.arg hv);have h2:=fP hv;rw[af.size]at hsz;omega
 have HLEN:=ah hlen;have HNE:=ah hne;have hn0:((us.length:Int) == 0)=false:=by have:us.length≠0:=fun q=>hne (ch.1 q);simp;omega
 have HST:=ah (show PN w N tx.toList us us.length (.string (tx++⟨#[40]⟩)) (.int .i64 0) (w.alloc (.cells #[.int .i64 3,.int .i64 val,.string tx,.slice (some ⟨g,0,none⟩) us.length acp] 74))from
  ⟨0,by omega,rfl,by rw[GX];rfl,Qx.alloc Qw _⟩)
 have HCS:=ah hcs;have HTK:=ah htk;have HALL:=ah hall;have HT7:=ah s1;have HPW:=ah hp;have HSM:=ah hsm;have HSZ:=ah hsz;have I:=ah IH;have hbt:=lQ tx;have hb2:tx.size<=240:=by omega
 clear s1 s2 s3 hrow IH hcs htk hall hne hp hsm hsz hlen hbt;go_enter Tryz.func73,Tryz.ntmps73;go_wp2_with fail;go_loopg [3,31] us.length (fun k s i wr=>PN w N tx.toList us k s i wr)
 case atStart=>exact ae HST
 case round=>
  clear HST hn0;obtain⟨j,hkj,rfl,rfl,hB⟩:=hrel;have hz:=hB.size;have HB:=ah hB;have hlS:(tx.toList++lS ((us.take j).map (d7 Lib.itoa N))).length<=5000000:=by have h3:=L4 ((us.take j).map (d7 Lib.itoa N)) 300000 (fun x hx=>by obtain⟨u,hu,rfl⟩:=bu.1 hx;exact ae HLEN u (eg hu)) (by simp;omega);have h7:=ae HT7;rw[au];omega
  by_cases hlt':j<us.length
  ·have hcs:=ae HCS;have hall:=ae HALL;have hvl:=hall.length;have hjv:j<vs.length:=by omega
   have hcw:wr.heap[g]?=some (.cells cs 74 (0,0)):=(hB.block g (bd.1 hcs).1).trans hcs;have fc:∀i,i<4->wr.cell? ⟨g,j*4+i,none⟩=(oq vs[j])[i]?:=fun i hi=>by rw[aN hcw,<-ci,<-NM hjv i hi,<-ae HTK,cr (by omega)]
   have f0:=fc 0 (by omega);have f1:=fc 1 (by omega);have f2:=fc 2 (by omega);have f3:=fc 3 (by omega);simp only[oq,aq,aA,dJ]at f0 f1 f2 f3;have hbA:=hB.alloc hz (.cells #[.int .i64 vs[j].k,.int .i64 vs[j].val,.string vs[j].tx,.slice vs[j].ao vs[j].n vs[j].cap] 74);have hszj:af.size us[j]<=1000:=by have:=ae HSZ;rw[af.size]at this;have:=fP (aL hlt');omega
   have IC:=ah (ae I (wr.alloc (.cells #[.int .i64 vs[j].k,.int .i64 vs[j].val,.string vs[j].tx,.slice vs[j].ao vs[j].n vs[j].cap] 74)) N P vs[j] us[j] ((hall.at j hjv hlt').keep fun g cs hp hc=>⟨(hbA.block g (aD hc)).trans hc,hp⟩) ((ae HPW).below hbA) hN ((ae HSM).arg (aL hlt')) hszj);have hgw:g<wr.heap.size:=aD hcw;have i0:(0:Int)<=(j:Int):=by omega
   have i1:(j:Int)<(us.length:Int):=by omega
   have hA:(d7 Lib.itoa N us[j]).length<=1000000:=aW (ae HLEN _ (aL hlt')) (by omega);have HMORE:=ah (EK hlt' (d7 Lib.itoa N));have HKJ:=ah hkj;have HLT:=ah hlt';have HJ0:=ah (show j≠0->(us.take j).map (d7 Lib.itoa N)≠[]from fun q e=>by rw[dT,List.take_eq_nil_iff]at e;rcases e with e | e;exact q e;rw[e]at hlt';simp at hlt')
   have hj3:j<=3:=by omega
   clear fc hcw hcs hall hvl hkj hB hbA hszj;generalize hSS:tx.toList++lS ((us.take j).map (d7 Lib.itoa N))=S at*;have HSS:=ah hSS;clear hSS;generalize hAA:d7 Lib.itoa N us[j]=A at*;clear hAA;by_cases hj0:j=0
   ·subst hj0;go_wp2_with fail;refine(ae IC).mono ?_;rintro e w2 ⟨rfl,hb2⟩;have HB2:=ah ((ae HB).trans ((Qx.alloc hz _).trans (hb2.mono (by simp;omega))));clear hb2 IC f0 f1 f2 f3;go_wp2_with fail;go_roundg (gk - 1)
    case measure=>have:=ae HKJ;have:=ae HLT;omega
    case rel=>exact⟨0+1,by have:=ae HKJ;have:=ae HLT;omega,by go_num,by rw[ae HMORE,<-ae HSS];exact cL Value.string (KC _ _ _ (by simp)),ae HB2⟩
   ·have hj0':decide (0<(j:Int))=true:=by simp;omega
    have HJ1:=ah (ae HJ0 hj0);clear HJ0;go_wp2_with fail;refine(ae IC).mono ?_;rintro e w2 ⟨rfl,hb2⟩;have HB2:=ah ((ae HB).trans ((Qx.alloc hz _).trans (hb2.mono (by simp;omega))));clear hb2 IC f0 f1 f2 f3;go_wp2_with fail;go_roundg (gk - 1)
    case measure=>have:=ae HKJ;have:=ae HLT;omega
    case rel=>exact⟨j+1,by have:=ae HKJ;have:=ae HLT;omega,by go_num,by rw[ae HMORE,<-ae HSS];exact cL Value.string (KB _ _ _ (ae HJ1)),ae HB2⟩
  ·obtain rfl:j=us.length:=by omega
   have HEND:=ah (show d7 Lib.itoa N (.n 1 tx.toList num us)=tx.toList++nj ((us.take us.length).map (d7 Lib.itoa N))by rw[mf,aG (by decide),dM])
   generalize hSS:tx.toList++lS ((us.take us.length).map (d7 Lib.itoa N))=S at*;have HSS:=ah hSS;clear hSS hkj hB;go_wp2_with fail;go_ret;refine⟨?_,ae HB⟩;rw[ae HEND,<-M8 _ _ (by have:=ae HNE;simpa using this),ae HSS];rfl
theorem wy:∀f,Er f
 | 0=>fun _ _ _ _ _ hr=>hr.elim
 | f+1=>fun w N P a u hr hp hN hsm hsz=>by
  obtain⟨hlf,hrow⟩:=hr;cases u with
  | v x=>exact Kn w N a x hlf hp hN
  | n k tx num ss=>
   rcases hlf with⟨rfl,h1,h2,h3,rfl⟩ | ⟨rfl,h1,h2,h3,h4⟩
   ·obtain⟨_,s2,s3,_⟩:=hsm.own;exact Ko w N a tx num h1 h2 hp s2 s3
   ·subst h2;by_cases hs:ss=[]
    ·subst hs;exact GB w N a num h1 h3
    ·exact GA (wy f) w N P a num ss h1 h3 hrow hp hN hsm hsz hs
