import Derived.Test.YthfjnfcekeknlaaGreatDoorAp03
import Derived.Test.YthfjnfcekeknlaaGreatDoorAp13
import Derived.Test.YthfjnfcekeknlaaGreatDoorAp27
set_option maxHeartbeats 8000000
set_option maxRecDepth 100000
namespace Go.Proofs.YthfjnfcekeknlaaGreatDoor
open Go.RowKit
theorem CF (w:World) (n:Int) (h0: -9223372036854775808≤n) (h1:n≤9223372036854775807) (hp:Pow w):
 Calls Tryz.prog 102 #[.int .i64 n] w fun e w'=>e= .returned (.string ⟨(Lib.itoa n).toArray⟩)∧Below w.heap.size w w':=by
 refine(Tryz.strconv_Itoa n h0 h1 w hp).mono ?_
 rintro e w' ⟨rfl,k,os,rfl⟩
 exact⟨rfl,Lib.below_grow _ _ (Nat.le_refl _) _ _⟩
def En (f:Nat):Prop:=∀(w:World) (N:List Za.Vr) (P:Nat→Prop) (a:AV) (u:Za.U),RV f N P w a u→Pow w→N.length≤1000000→Za.oT u→Za.size u≤1000→
 Calls Tryz.prog 58 #[.agg #[.int .i64 a.k,.int .i64 a.val,.string a.tx,.slice a.ao a.n a.cap]] w fun e w'=>e= .returned (.string ⟨(Za.bP Lib.itoa N u).toArray⟩)∧Below w.heap.size w w'
theorem Oe (w:World) (N:List Za.Vr) (a:AV) (x:Za.Vr) (hr:uH N a (.v x)) (hp:Pow w) (hN:N.length≤1000000):
 Calls Tryz.prog 58 #[.agg #[.int .i64 a.k,.int .i64 a.val,.string a.tx,.slice a.ao a.n a.cap]] w fun e w'=>e= .returned (.string ⟨(Za.bP Lib.itoa N (.v x)).toArray⟩)∧Below w.heap.size w w':=by
 obtain⟨k,val,tx,ao,n,cp⟩:=a
 obtain⟨h1,h2,h3,h4⟩:=hr
 dsimp only at h1 h2 h4⊢
 subst h1 h2
 have qu:N.idxOf x≤1000000:=by have:=List.idxOf_le_length (l:=N) (a:=x);omega
 have zo:=Lib.itoa_length_le (N.idxOf x:Int) (by omega) (by omega)
 have HS:=af (show Za.bP Lib.itoa N (.v x)=86 :: Lib.itoa (N.idxOf x:Int)by rw[Za.bP])
 have HP:=af (hp.alloc (.cells #[.int .i64 1,.int .i64 (N.idxOf x:Int),.string tx,.slice ao n cp] 76))
 clear h3 h4 hp hN
 generalize N.idxOf x=ix at*
 have HI:=af (CF _ (ix:Int) (by omega) (by omega) (ae HP))
 generalize Lib.itoa (ix:Int)=S at*
 go_enter Tryz.func58,Tryz.ntmps58
 go_wp2_with fail
 refine(ae HI).mono ?_
 rintro e w1 ⟨rfl,hb⟩
 have HB:=af hb
 clear hb
 go_wp2_with fail
 go_ret
 refine⟨?_,((Below.refl _ _).alloc (Nat.le_refl _) _).trans ((ae HB).mono (by simp))⟩
 rw[ae HS]
 rfl
theorem Og (w:World) (N:List Za.Vr) (a:AV) (tx':List UInt8) (num:Int) (hk:a.k=2) (hv:a.val=num) (hp:Pow w) (h0: -1000000000≤num) (h1:num≤1000000000):
 Calls Tryz.prog 58 #[.agg #[.int .i64 a.k,.int .i64 a.val,.string a.tx,.slice a.ao a.n a.cap]] w fun e w'=>e= .returned (.string ⟨(Za.bP Lib.itoa N (.n 3 tx' num [])).toArray⟩)∧Below w.heap.size w w':=by
 obtain⟨k,val,tx,ao,n,cp⟩:=a
 dsimp only at hk hv⊢
 subst hk hv
 have HS:=af (show Za.bP Lib.itoa N (.n 3 tx' val [])=Lib.itoa val by rw[Za.lK,if_pos rfl])
 have HP:=af (hp.alloc (.cells #[.int .i64 2,.int .i64 val,.string tx,.slice ao n cp] 76))
 have HI:=af (CF _ val (by omega) (by omega) (ae HP))
 clear hp
 generalize hS:Lib.itoa val=S at*
 clear hS
 go_enter Tryz.func58,Tryz.ntmps58
 go_wp2_with fail
 refine(ae HI).mono ?_
 rintro e w1 ⟨rfl,hb⟩
 have HB:=af hb
 clear hb
 go_wp2_with fail
 go_ret
 refine⟨?_,((Below.refl _ _).alloc (Nat.le_refl _) _).trans ((ae HB).mono (by simp))⟩
 rw[ae HS]
 rfl
theorem Lr (w:World) (N:List Za.Vr) (a:AV) (num:Int) (hk:a.k=3) (hn:a.n=0):
 Calls Tryz.prog 58 #[.agg #[.int .i64 a.k,.int .i64 a.val,.string a.tx,.slice a.ao a.n a.cap]] w fun e w'=>e= .returned (.string ⟨(Za.bP Lib.itoa N (.n 1 a.tx.toList num [])).toArray⟩)∧Below w.heap.size w w':=by
 obtain⟨k,val,tx,ao,n,cp⟩:=a
 dsimp only at hk hn⊢
 subst hk hn
 have HS:=af (show Za.bP Lib.itoa N (.n 1 tx.toList num [])=tx.toList by rw[Za.lK,if_neg (by decide)];simp[Za.argS])
 go_enter Tryz.func58,Tryz.ntmps58
 go_wp2_with fail
 go_ret
 refine⟨?_,(Below.refl _ _).alloc (Nat.le_refl _) _⟩
 rw[ae HS,yg]
 rfl
def Un (w:World) (N:List Za.Vr) (tx:List UInt8) (us:List Za.U) (k:Nat) (sv iv:Value) (wr:World):Prop:=
 ∃j:Nat,k+j=us.length∧iv= .int .i64 (j:Int)∧sv= .string ⟨(tx++Za.argQ ((us.take j).map (Za.bP Lib.itoa N))).toArray⟩∧Below w.heap.size w wr
theorem argQ_le:∀(l:List (List UInt8)) (c:Nat),(∀x∈l,x.length≤c)→l.length≤3→(Za.argQ l).length≤10+3*c:=fun l c h hl=>by
 have:=Za.KR (c:=c) l h
 have h2:=Nat.mul_le_mul_right (c+1) hl
 omega
theorem Ls {f:Nat} (IH:En f) (w:World) (N:List Za.Vr) (P:Nat→Prop) (a:AV) (num:Int) (us:List Za.U) (hk:a.k=3) (hn:a.n=us.length) (hrow:us≠[]→∃(g:Nat) (vs:List AV) (cs:Array Value),a.ao=some ⟨g,0,none⟩∧P g∧w.heap[g]?=some (.cells cs 76 (0,0))∧cs.toList.take (vs.length*4)=vs.flatMap gJ∧bO (RV f N P w) vs us) (hp:Pow w) (hN:N.length≤1000000) (hsm:Za.oT (.n 1 a.tx.toList num us)) (hsz:Za.size (.n 1 a.tx.toList num us)≤1000) (hne:us≠[]):
 Calls Tryz.prog 58 #[.agg #[.int .i64 a.k,.int .i64 a.val,.string a.tx,.slice a.ao a.n a.cap]] w fun e w'=>e= .returned (.string ⟨(Za.bP Lib.itoa N (.n 1 a.tx.toList num us)).toArray⟩)∧Below w.heap.size w w':=by
 obtain⟨g,vs,cs,hao,-,hcs,I1,hall⟩:=hrow hne
 obtain⟨s1,s2,s3,s4⟩:=hsm.own
 obtain⟨k,val,tx,ao,an,acp⟩:=a
 dsimp only at hk hn hao s1 hsm hsz⊢
 subst hk hn hao
 have hlen:∀v∈us,(Za.bP Lib.itoa N v).length≤300000:=fun v hv=>by
  have h1:=Za.oU (N:=N) (by omega) v (hsm.arg hv)
  have h2:=Za.iN hv
  rw[Za.size]at hsz
  omega
 have HLEN:=af hlen
 have qN:=af hne
 have cG:((us.length:Int) == 0)=false:=by have:us.length≠0:=fun q=>hne (List.length_eq_zero_iff.1 q);simp;omega
 have HST:=af (show Un w N tx.toList us us.length (.string (tx++⟨#[40]⟩)) (.int .i64 0) (w.alloc (.cells #[.int .i64 3,.int .i64 val,.string tx,.slice (some ⟨g,0,none⟩) us.length acp] 76))from
  ⟨0,by omega,rfl,by rw[KS];rfl,(Below.refl _ _).alloc (Nat.le_refl _) _⟩)
 have Eh:=af hcs
 have sj:=af I1
 have BF:=af hall
 have Xs:=af s1
 have Eo:=af hp
 have jc:=af hsm
 have jV:=af hsz
 have I:=af IH
 have zi:=Za.nu tx
 have hb2:tx.size≤240:=by omega
 clear s1 s2 s3 hrow IH hcs I1 hall hne hp hsm hsz hlen zi
 go_enter Tryz.func58,Tryz.ntmps58
 go_wp2_with fail
 go_loopg [3,31] us.length (fun k s i wr=>Un w N tx.toList us k s i wr)
 case atStart=>exact ae HST
 case round=>
  clear HST cG
  obtain⟨j,hkj,rfl,rfl,hB⟩:=hrel
  have hz:=hB.size
  have HB:=af hB
  have hlS:(tx.toList++Za.argQ ((us.take j).map (Za.bP Lib.itoa N))).length≤5000000:=by
   have h3:=argQ_le ((us.take j).map (Za.bP Lib.itoa N)) 300000 (fun x hx=>by
    obtain⟨u,hu,rfl⟩:=List.mem_map.1 hx
    exact ae HLEN u (List.mem_of_mem_take hu)) (by simp;omega)
   have h7:=ae Xs
   rw[List.length_append]
   omega
  by_cases fW:j<us.length
  ·have hcs:=ae Eh
   have hall:=ae BF
   have jC:=hall.length
   have kG:j<vs.length:=by omega
   have hcw:wr.heap[g]?=some (.cells cs 76 (0,0)):=(hB.block g (Array.getElem?_eq_some_iff.1 hcs).1).trans hcs
   have fc:∀i,i<4→wr.cell? ⟨g,j*4+i,none⟩=(gJ vs[j])[i]?:=fun i hi=>by
    rw[ah hcw,←Array.getElem?_toList,←P4 kG i hi,←ae sj,List.getElem?_take_of_lt (by omega)]
   have f0:=fc 0 (by omega)
   have f1:=fc 1 (by omega)
   have f2:=fc 2 (by omega)
   have f3:=fc 3 (by omega)
   simp only[gJ,List.getElem?_cons_zero,List.getElem?_cons_succ,Nat.add_zero]at f0 f1 f2 f3
   have hbA:=hB.alloc hz (.cells #[.int .i64 vs[j].k,.int .i64 vs[j].val,.string vs[j].tx,.slice vs[j].ao vs[j].n vs[j].cap] 76)
   have BB:Za.size us[j]≤1000:=by
    have:=ae jV
    rw[Za.size]at this
    have:=Za.iN (List.getElem_mem fW)
    omega
   have IC:=af (ae I (wr.alloc (.cells #[.int .i64 vs[j].k,.int .i64 vs[j].val,.string vs[j].tx,.slice vs[j].ao vs[j].n vs[j].cap] 76)) N P vs[j] us[j] ((hall.at j kG fW).keep fun g cs hp hc=>⟨(hbA.block g (ag hc)).trans hc,hp⟩) ((ae Eo).below hbA) hN ((ae jc).arg (List.getElem_mem fW)) BB)
   have zk:g<wr.heap.size:=ag hcw
   have i0:(0:Int)≤(j:Int):=by omega
   have i1:(j:Int)<(us.length:Int):=by omega
   have hA:(Za.bP Lib.itoa N us[j]).length≤1000000:=Nat.le_trans (ae HLEN _ (List.getElem_mem fW)) (by omega)
   have MQ:=af (Za.Ip fW (Za.bP Lib.itoa N))
   have bf:=af hkj
   have bp:=af fW
   have Uo:=af (show j≠0→(us.take j).map (Za.bP Lib.itoa N)≠[]from fun q e=>by rw[List.map_eq_nil_iff,List.take_eq_nil_iff]at e;rcases e with e | e;exact q e;rw[e]at fW;simp at fW)
   have Pg:j≤3:=by omega
   clear fc hcw hcs hall jC hkj hB hbA BB
   generalize hSS:tx.toList++Za.argQ ((us.take j).map (Za.bP Lib.itoa N))=S at*
   have MR:=af hSS
   clear hSS
   generalize hAA:Za.bP Lib.itoa N us[j]=A at*
   clear hAA
   by_cases Up:j=0
   ·subst Up
    go_wp2_with fail
    refine(ae IC).mono ?_
    rintro e w2 ⟨rfl,hb2⟩
    have aZ:=af ((ae HB).trans (((Below.refl _ _).alloc hz _).trans (hb2.mono (by simp;omega))))
    clear hb2 IC f0 f1 f2 f3
    go_wp2_with fail
    go_roundg (gk - 1)
    case measure=>have:=ae bf;have:=ae bp;omega
    case rel=>exact⟨0+1,by have:=ae bf;have:=ae bp;omega,by go_num,by rw[ae MQ,←ae MR];exact congrArg Value.string (N7 _ _ _ (by simp)),ae aZ⟩
   ·have X6:decide (0<(j:Int))=true:=by simp;omega
    have Xt:=af (ae Uo Up)
    clear Uo
    go_wp2_with fail
    refine(ae IC).mono ?_
    rintro e w2 ⟨rfl,hb2⟩
    have aZ:=af ((ae HB).trans (((Below.refl _ _).alloc hz _).trans (hb2.mono (by simp;omega))))
    clear hb2 IC f0 f1 f2 f3
    go_wp2_with fail
    go_roundg (gk - 1)
    case measure=>have:=ae bf;have:=ae bp;omega
    case rel=>exact⟨j+1,by have:=ae bf;have:=ae bp;omega,by go_num,by rw[ae MQ,←ae MR];exact congrArg Value.string (N8 _ _ _ (ae Xt)),ae aZ⟩
  ·obtain rfl:j=us.length:=by omega
   have VL:=af (show Za.bP Lib.itoa N (.n 1 tx.toList num us)=tx.toList++Za.argS ((us.take us.length).map (Za.bP Lib.itoa N))by rw[Za.lK,if_neg (by decide),List.take_length])
   generalize hSS:tx.toList++Za.argQ ((us.take us.length).map (Za.bP Lib.itoa N))=S at*
   have MR:=af hSS
   clear hSS hkj hB
   go_wp2_with fail
   go_ret
   refine⟨?_,ae HB⟩
   rw[ae VL,←P6 _ _ (by have:=ae qN;simpa using this),ae MR]
   rfl
theorem stU_all:∀f,En f
 | 0=>fun _ _ _ _ _ hr=>hr.elim
 | f+1=>fun w N P a u hr hp hN hsm hsz=>by
  obtain⟨Ho,hrow⟩:=hr
  cases u with
  | v x=>exact Oe w N a x Ho hp hN
  | n k tx num ss=>
   rcases Ho with⟨rfl,h1,h2,h3,rfl⟩ | ⟨rfl,h1,h2,h3,h4⟩
   ·obtain⟨_,s2,s3,_⟩:=hsm.own
    exact Og w N a tx num h1 h2 hp s2 s3
   ·subst h2
    by_cases hs:ss=[]
    ·subst hs
     exact Lr w N a num h1 h3
    ·exact Ls (stU_all f) w N P a num ss h1 h3 hrow hp hN hsm hsz hs
end Go.Proofs.YthfjnfcekeknlaaGreatDoor
