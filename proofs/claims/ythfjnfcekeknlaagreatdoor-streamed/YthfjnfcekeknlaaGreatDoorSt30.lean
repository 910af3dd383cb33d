import Derived.Test.YthfjnfcekeknlaaGreatDoorSt03
import Derived.Test.YthfjnfcekeknlaaGreatDoorSt11
import Derived.Test.YthfjnfcekeknlaaGreatDoorSt22
set_option maxHeartbeats 8000000
set_option maxRecDepth 100000
namespace Go.Proofs.YthfjnfcekeknlaaGreatDoor
open Go.RowKit
theorem Ct (w:World) (n:Int) (h0: -9223372036854775808≤n) (h1:n≤9223372036854775807) (hp:Pow w):
 Calls Tryz.prog 102 #[.int .i64 n] w fun e w'=>e= .returned (.string ⟨(Lib.itoa n).toArray⟩)∧Below w.heap.size w w':=by
 refine(Tryz.strconv_Itoa n h0 h1 w hp).mono ?_
 rintro e w' ⟨rfl,k,os,rfl⟩
 exact⟨rfl,Lib.below_grow _ _ (Nat.le_refl _) _ _⟩
def Ek (f:Nat):Prop:=∀(w:World) (N:List Za.Vr) (P:Nat→Prop) (a:AV) (u:Za.U),RV f N P w a u→Pow w→N.length≤1000000→Za.oM u→Za.size u≤1000→
 Calls Tryz.prog 58 #[.agg #[.int .i64 a.k,.int .i64 a.val,.string a.tx,.slice a.ao a.n a.cap]] w fun e w'=>e= .returned (.string ⟨(Za.bM Lib.itoa N u).toArray⟩)∧Below w.heap.size w w'
theorem OD (w:World) (N:List Za.Vr) (a:AV) (x:Za.Vr) (hr:ue N a (.v x)) (hp:Pow w) (hN:N.length≤1000000):
 Calls Tryz.prog 58 #[.agg #[.int .i64 a.k,.int .i64 a.val,.string a.tx,.slice a.ao a.n a.cap]] w fun e w'=>e= .returned (.string ⟨(Za.bM Lib.itoa N (.v x)).toArray⟩)∧Below w.heap.size w w':=by
 obtain⟨k,val,tx,ao,n,cp⟩:=a
 obtain⟨h1,h2,h3,h4⟩:=hr
 dsimp only at h1 h2 h4⊢
 subst h1 h2
 have qf:N.idxOf x≤1000000:=by have:=List.idxOf_le_length (l:=N) (a:=x);omega
 have zh:=Lib.itoa_length_le (N.idxOf x:Int) (by omega) (by omega)
 have HS:=hide (show Za.bM Lib.itoa N (.v x)=86 :: Lib.itoa (N.idxOf x:Int)by rw[Za.bM])
 have HP:=hide (hp.alloc (.cells #[.int .i64 1,.int .i64 (N.idxOf x:Int),.string tx,.slice ao n cp] 76))
 clear h3 h4 hp hN
 generalize N.idxOf x=ix at*
 have HI:=hide (Ct _ (ix:Int) (by omega) (by omega) (ae HP))
 generalize Lib.itoa (ix:Int)=S at*
 go_enter Tryz.func58,Tryz.ntmps58
 go_wp2_with fail
 refine(ae HI).mono ?_
 rintro e w1 ⟨rfl,hb⟩
 have HB:=hide hb
 clear hb
 go_wp2_with fail
 go_ret
 refine⟨?_,((Below.refl _ _).alloc (Nat.le_refl _) _).trans ((ae HB).mono (by simp))⟩
 rw[ae HS]
 rfl
theorem OE (w:World) (N:List Za.Vr) (a:AV) (tx':List UInt8) (num:Int) (hk:a.k=2) (hv:a.val=num) (hp:Pow w) (h0: -1000000000≤num) (h1:num≤1000000000):
 Calls Tryz.prog 58 #[.agg #[.int .i64 a.k,.int .i64 a.val,.string a.tx,.slice a.ao a.n a.cap]] w fun e w'=>e= .returned (.string ⟨(Za.bM Lib.itoa N (.n 3 tx' num [])).toArray⟩)∧Below w.heap.size w w':=by
 obtain⟨k,val,tx,ao,n,cp⟩:=a
 dsimp only at hk hv⊢
 subst hk hv
 have HS:=hide (show Za.bM Lib.itoa N (.n 3 tx' val [])=Lib.itoa val by rw[Za.lD,if_pos rfl])
 have HP:=hide (hp.alloc (.cells #[.int .i64 2,.int .i64 val,.string tx,.slice ao n cp] 76))
 have HI:=hide (Ct _ val (by omega) (by omega) (ae HP))
 clear hp
 generalize hS:Lib.itoa val=S at*
 clear hS
 go_enter Tryz.func58,Tryz.ntmps58
 go_wp2_with fail
 refine(ae HI).mono ?_
 rintro e w1 ⟨rfl,hb⟩
 have HB:=hide hb
 clear hb
 go_wp2_with fail
 go_ret
 refine⟨?_,((Below.refl _ _).alloc (Nat.le_refl _) _).trans ((ae HB).mono (by simp))⟩
 rw[ae HS]
 rfl
theorem LF (w:World) (N:List Za.Vr) (a:AV) (num:Int) (hk:a.k=3) (hn:a.n=0):
 Calls Tryz.prog 58 #[.agg #[.int .i64 a.k,.int .i64 a.val,.string a.tx,.slice a.ao a.n a.cap]] w fun e w'=>e= .returned (.string ⟨(Za.bM Lib.itoa N (.n 1 a.tx.toList num [])).toArray⟩)∧Below w.heap.size w w':=by
 obtain⟨k,val,tx,ao,n,cp⟩:=a
 dsimp only at hk hn⊢
 subst hk hn
 have HS:=hide (show Za.bM Lib.itoa N (.n 1 tx.toList num [])=tx.toList by rw[Za.lD,if_neg (by decide)];simp[Za.argS])
 go_enter Tryz.func58,Tryz.ntmps58
 go_wp2_with fail
 go_ret
 refine⟨?_,(Below.refl _ _).alloc (Nat.le_refl _) _⟩
 rw[ae HS,xY]
 rfl
def UB (w:World) (N:List Za.Vr) (tx:List UInt8) (us:List Za.U) (k:Nat) (sv iv:Value) (wr:World):Prop:=
 ∃j:Nat,k+j=us.length∧iv= .int .i64 (j:Int)∧sv= .string ⟨(tx++Za.argQ ((us.take j).map (Za.bM Lib.itoa N))).toArray⟩∧Below w.heap.size w wr
theorem argQ_le:∀(l:List (List UInt8)) (c:Nat),(∀x∈l,x.length≤c)→l.length≤3→(Za.argQ l).length≤10+3*c:=fun l c h hl=>by
 have:=Za.KX (c:=c) l h
 have h2:=Nat.mul_le_mul_right (c+1) hl
 omega
theorem LG {f:Nat} (IH:Ek f) (w:World) (N:List Za.Vr) (P:Nat→Prop) (a:AV) (num:Int) (us:List Za.U) (hk:a.k=3) (hn:a.n=us.length) (hrow:us≠[]→∃(g:Nat) (vs:List AV) (cs:Array Value),a.ao=some ⟨g,0,none⟩∧P g∧w.heap[g]?=some (.cells cs 76 (0,0))∧cs.toList.take (vs.length*4)=vs.flatMap gq∧bK (RV f N P w) vs us) (hp:Pow w) (hN:N.length≤1000000) (hsm:Za.oM (.n 1 a.tx.toList num us)) (hsz:Za.size (.n 1 a.tx.toList num us)≤1000) (hne:us≠[]):
 Calls Tryz.prog 58 #[.agg #[.int .i64 a.k,.int .i64 a.val,.string a.tx,.slice a.ao a.n a.cap]] w fun e w'=>e= .returned (.string ⟨(Za.bM Lib.itoa N (.n 1 a.tx.toList num us)).toArray⟩)∧Below w.heap.size w w':=by
 obtain⟨g,vs,cs,hao,-,hcs,htk,hall⟩:=hrow hne
 obtain⟨s1,s2,s3,s4⟩:=hsm.own
 obtain⟨k,val,tx,ao,an,acp⟩:=a
 dsimp only at hk hn hao s1 hsm hsz⊢
 subst hk hn hao
 have hlen:∀v∈us,(Za.bM Lib.itoa N v).length≤300000:=fun v hv=>by
  have h1:=Za.oN (N:=N) (by omega) v (hsm.arg hv)
  have h2:=Za.iG hv
  rw[Za.size]at hsz
  omega
 have HLEN:=hide hlen
 have qx:=hide hne
 have hn0:((us.length:Int) == 0)=false:=by have:us.length≠0:=fun q=>hne (List.length_eq_zero_iff.1 q);simp;omega
 have HST:=hide (show UB w N tx.toList us us.length (.string (tx++⟨#[40]⟩)) (.int .i64 0) (w.alloc (.cells #[.int .i64 3,.int .i64 val,.string tx,.slice (some ⟨g,0,none⟩) us.length acp] 76))from
  ⟨0,by omega,rfl,by rw[KY];rfl,(Below.refl _ _).alloc (Nat.le_refl _) _⟩)
 have Ef:=hide hcs
 have rK:=hide htk
 have Bn:=hide hall
 have Xz:=hide s1
 have El:=hide hp
 have iV:=hide hsm
 have jJ:=hide hsz
 have I:=hide IH
 have zf:=Za.ng tx
 have hb2:tx.size≤240:=by omega
 clear s1 s2 s3 hrow IH hcs htk hall hne hp hsm hsz hlen zf
 go_enter Tryz.func58,Tryz.ntmps58
 go_wp2_with fail
 go_loopg [3,31] us.length (fun k s i wr=>UB w N tx.toList us k s i wr)
 case atStart=>exact ae HST
 case round=>
  clear HST hn0
  obtain⟨j,hkj,rfl,rfl,hB⟩:=hrel
  have hz:=hB.size
  have HB:=hide hB
  have hlS:(tx.toList++Za.argQ ((us.take j).map (Za.bM Lib.itoa N))).length≤5000000:=by
   have h3:=argQ_le ((us.take j).map (Za.bM Lib.itoa N)) 300000 (fun x hx=>by
    obtain⟨u,hu,rfl⟩:=List.mem_map.1 hx
    exact ae HLEN u (List.mem_of_mem_take hu)) (by simp;omega)
   have h7:=ae Xz
   rw[List.length_append]
   omega
  by_cases hlt':j<us.length
  ·have hcs:=ae Ef
   have hall:=ae Bn
   have hvl:=hall.length
   have ko:j<vs.length:=by omega
   have hcw:wr.heap[g]?=some (.cells cs 76 (0,0)):=(hB.block g (Array.getElem?_eq_some_iff.1 hcs).1).trans hcs
   have fc:∀i,i<4→wr.cell? ⟨g,j*4+i,none⟩=(gq vs[j])[i]?:=fun i hi=>by
    rw[ag hcw,←Array.getElem?_toList,←Qo ko i hi,←ae rK,List.getElem?_take_of_lt (by omega)]
   have f0:=fc 0 (by omega)
   have f1:=fc 1 (by omega)
   have f2:=fc 2 (by omega)
   have f3:=fc 3 (by omega)
   simp only[gq,List.getElem?_cons_zero,List.getElem?_cons_succ,Nat.add_zero]at f0 f1 f2 f3
   have hbA:=hB.alloc hz (.cells #[.int .i64 vs[j].k,.int .i64 vs[j].val,.string vs[j].tx,.slice vs[j].ao vs[j].n vs[j].cap] 76)
   have Bj:Za.size us[j]≤1000:=by
    have:=ae jJ
    rw[Za.size]at this
    have:=Za.iG (List.getElem_mem hlt')
    omega
   have IC:=hide (ae I (wr.alloc (.cells #[.int .i64 vs[j].k,.int .i64 vs[j].val,.string vs[j].tx,.slice vs[j].ao vs[j].n vs[j].cap] 76)) N P vs[j] us[j] ((hall.at j ko hlt').keep fun g cs hp hc=>⟨(hbA.block g (af hc)).trans hc,hp⟩) ((ae El).below hbA) hN ((ae iV).arg (List.getElem_mem hlt')) Bj)
   have uS:g<wr.heap.size:=af hcw
   have i0:(0:Int)≤(j:Int):=by omega
   have i1:(j:Int)<(us.length:Int):=by omega
   have hA:(Za.bM Lib.itoa N us[j]).length≤1000000:=Nat.le_trans (ae HLEN _ (List.getElem_mem hlt')) (by omega)
   have Nh:=hide (Za.Iz hlt' (Za.bM Lib.itoa N))
   have aP:=hide hkj
   have aY:=hide hlt'
   have UC:=hide (show j≠0→(us.take j).map (Za.bM Lib.itoa N)≠[]from fun q e=>by rw[List.map_eq_nil_iff,List.take_eq_nil_iff]at e;rcases e with e | e;exact q e;rw[e]at hlt';simp at hlt')
   have PE:j≤3:=by omega
   clear fc hcw hcs hall hvl hkj hB hbA Bj
   generalize hSS:tx.toList++Za.argQ ((us.take j).map (Za.bM Lib.itoa N))=S at*
   have Ni:=hide hSS
   clear hSS
   generalize hAA:Za.bM Lib.itoa N us[j]=A at*
   clear hAA
   by_cases UD:j=0
   ·subst UD
    go_wp2_with fail
    refine(ae IC).mono ?_
    rintro e w2 ⟨rfl,hb2⟩
    have aX:=hide ((ae HB).trans (((Below.refl _ _).alloc hz _).trans (hb2.mono (by simp;omega))))
    clear hb2 IC f0 f1 f2 f3
    go_wp2_with fail
    go_roundg (gk - 1)
    case measure=>have:=ae aP;have:=ae aY;omega
    case rel=>exact⟨0+1,by have:=ae aP;have:=ae aY;omega,by go_num,by rw[ae Nh,←ae Ni];exact congrArg Value.string (Ox _ _ _ (by simp)),ae aX⟩
   ·have Yk:decide (0<(j:Int))=true:=by simp;omega
    have XA:=hide (ae UC UD)
    clear UC
    go_wp2_with fail
    refine(ae IC).mono ?_
    rintro e w2 ⟨rfl,hb2⟩
    have aX:=hide ((ae HB).trans (((Below.refl _ _).alloc hz _).trans (hb2.mono (by simp;omega))))
    clear hb2 IC f0 f1 f2 f3
    go_wp2_with fail
    go_roundg (gk - 1)
    case measure=>have:=ae aP;have:=ae aY;omega
    case rel=>exact⟨j+1,by have:=ae aP;have:=ae aY;omega,by go_num,by rw[ae Nh,←ae Ni];exact congrArg Value.string (Oy _ _ _ (ae XA)),ae aX⟩
  ·obtain rfl:j=us.length:=by omega
   have VX:=hide (show Za.bM Lib.itoa N (.n 1 tx.toList num us)=tx.toList++Za.argS ((us.take us.length).map (Za.bM Lib.itoa N))by rw[Za.lD,if_neg (by decide),List.take_length])
   generalize hSS:tx.toList++Za.argQ ((us.take us.length).map (Za.bM Lib.itoa N))=S at*
   have Ni:=hide hSS
   clear hSS hkj hB
   go_wp2_with fail
   go_ret
   refine⟨?_,ae HB⟩
   rw[ae VX,←Qq _ _ (by have:=ae qx;simpa using this),ae Ni]
   rfl
theorem stU_all:∀f,Ek f
 | 0=>fun _ _ _ _ _ hr=>hr.elim
 | f+1=>fun w N P a u hr hp hN hsm hsz=>by
  obtain⟨Hu,hrow⟩:=hr
  cases u with
  | v x=>exact OD w N a x Hu hp hN
  | n k tx num ss=>
   rcases Hu with⟨rfl,h1,h2,h3,rfl⟩ | ⟨rfl,h1,h2,h3,h4⟩
   ·obtain⟨_,s2,s3,_⟩:=hsm.own
    exact OE w N a tx num h1 h2 hp s2 s3
   ·subst h2
    by_cases hs:ss=[]
    ·subst hs
     exact LF w N a num h1 h3
    ·exact LG (stU_all f) w N P a num ss h1 h3 hrow hp hN hsm hsz hs
end Go.Proofs.YthfjnfcekeknlaaGreatDoor
