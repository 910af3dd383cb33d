import Derived.Test.YthfjnfcekeknlaaGreatDoorSu03
import Derived.Test.YthfjnfcekeknlaaGreatDoorSu13
import Derived.Test.YthfjnfcekeknlaaGreatDoorSu27
set_option maxHeartbeats 8000000
set_option maxRecDepth 100000
namespace Go.Proofs.YthfjnfcekeknlaaGreatDoor
open Go.RowKit
theorem Ct (w:World) (n:Int) (h0: -9223372036854775808≤n) (h1:n≤9223372036854775807) (hp:Pow w):
 Calls Tryz.prog 102 #[.int .i64 n] w fun e w'=>e= .returned (.string ⟨(Lib.itoa n).toArray⟩)∧Below w.heap.size w w':=by
 refine(Tryz.strconv_Itoa n h0 h1 w hp).mono ?_
 rintro e w' ⟨rfl,k,os,rfl⟩
 exact⟨rfl,Lib.below_grow _ _ (Nat.le_refl _) _ _⟩
def El (f:Nat):Prop:=∀(w:World) (N:List Za.Vr) (P:Nat→Prop) (a:AV) (u:Za.U),RV f N P w a u→Pow w→N.length≤1000000→Za.oZ u→Za.size u≤1000→
 Calls Tryz.prog 58 #[.agg #[.int .i64 a.k,.int .i64 a.val,.string a.tx,.slice a.ao a.n a.cap]] w fun e w'=>e= .returned (.string ⟨(Za.bU Lib.itoa N u).toArray⟩)∧Below w.heap.size w w'
theorem Od (w:World) (N:List Za.Vr) (a:AV) (x:Za.Vr) (hr:uI N a (.v x)) (hp:Pow w) (hN:N.length≤1000000):
 Calls Tryz.prog 58 #[.agg #[.int .i64 a.k,.int .i64 a.val,.string a.tx,.slice a.ao a.n a.cap]] w fun e w'=>e= .returned (.string ⟨(Za.bU Lib.itoa N (.v x)).toArray⟩)∧Below w.heap.size w w':=by
 obtain⟨k,val,tx,ao,n,cp⟩:=a
 obtain⟨h1,h2,h3,h4⟩:=hr
 dsimp only at h1 h2 h4⊢
 subst h1 h2
 have qx:N.idxOf x≤1000000:=by have:=List.idxOf_le_length (l:=N) (a:=x);omega
 have zf:=Lib.itoa_length_le (N.idxOf x:Int) (by omega) (by omega)
 have HS:=af (show Za.bU Lib.itoa N (.v x)=86 :: Lib.itoa (N.idxOf x:Int)by rw[Za.bU])
 have HP:=af (hp.alloc (.cells #[.int .i64 1,.int .i64 (N.idxOf x:Int),.string tx,.slice ao n cp] 76))
 clear h3 h4 hp hN
 generalize N.idxOf x=ix at*
 have HI:=af (Ct _ (ix:Int) (by omega) (by omega) (ae HP))
 generalize Lib.itoa (ix:Int)=S at*
 go_enter Tryz.func58,Tryz.ntmps58
 go_wp2_with fail
 refine(ae HI).mono ?_
 rintro e w1 ⟨rfl,hb⟩
 have HB:=af hb
 clear hb
 go_wp2_with fail
 go_ret
 refine⟨?_,((Below.refl _ _).alloc (Nat.le_refl _) _).trans ((ae HB).mono (by simp))⟩
 rw[ae HS]
 rfl
theorem Oe (w:World) (N:List Za.Vr) (a:AV) (tx':List UInt8) (num:Int) (hk:a.k=2) (hv:a.val=num) (hp:Pow w) (h0: -1000000000≤num) (h1:num≤1000000000):
 Calls Tryz.prog 58 #[.agg #[.int .i64 a.k,.int .i64 a.val,.string a.tx,.slice a.ao a.n a.cap]] w fun e w'=>e= .returned (.string ⟨(Za.bU Lib.itoa N (.n 3 tx' num [])).toArray⟩)∧Below w.heap.size w w':=by
 obtain⟨k,val,tx,ao,n,cp⟩:=a
 dsimp only at hk hv⊢
 subst hk hv
 have HS:=af (show Za.bU Lib.itoa N (.n 3 tx' val [])=Lib.itoa val by rw[Za.oY,if_pos rfl])
 have HP:=af (hp.alloc (.cells #[.int .i64 2,.int .i64 val,.string tx,.slice ao n cp] 76))
 have HI:=af (Ct _ val (by omega) (by omega) (ae HP))
 clear hp
 generalize hS:Lib.itoa val=S at*
 clear hS
 go_enter Tryz.func58,Tryz.ntmps58
 go_wp2_with fail
 refine(ae HI).mono ?_
 rintro e w1 ⟨rfl,hb⟩
 have HB:=af hb
 clear hb
 go_wp2_with fail
 go_ret
 refine⟨?_,((Below.refl _ _).alloc (Nat.le_refl _) _).trans ((ae HB).mono (by simp))⟩
 rw[ae HS]
 rfl
theorem Lu (w:World) (N:List Za.Vr) (a:AV) (num:Int) (hk:a.k=3) (hn:a.n=0):
 Calls Tryz.prog 58 #[.agg #[.int .i64 a.k,.int .i64 a.val,.string a.tx,.slice a.ao a.n a.cap]] w fun e w'=>e= .returned (.string ⟨(Za.bU Lib.itoa N (.n 1 a.tx.toList num [])).toArray⟩)∧Below w.heap.size w w':=by
 obtain⟨k,val,tx,ao,n,cp⟩:=a
 dsimp only at hk hn⊢
 subst hk hn
 have HS:=af (show Za.bU Lib.itoa N (.n 1 tx.toList num [])=tx.toList by rw[Za.oY,if_neg (by decide)];simp[Za.argS])
 go_enter Tryz.func58,Tryz.ntmps58
 go_wp2_with fail
 go_ret
 refine⟨?_,(Below.refl _ _).alloc (Nat.le_refl _) _⟩
 rw[ae HS,yg]
 rfl
def Uu (w:World) (N:List Za.Vr) (tx:List UInt8) (us:List Za.U) (k:Nat) (sv iv:Value) (wr:World):Prop:=
 ∃j:Nat,k+j=us.length∧iv= .int .i64 (j:Int)∧sv= .string ⟨(tx++Za.argQ ((us.take j).map (Za.bU Lib.itoa N))).toArray⟩∧Below w.heap.size w wr
theorem argQ_le:∀(l:List (List UInt8)) (c:Nat),(∀x∈l,x.length≤c)→l.length≤3→(Za.argQ l).length≤10+3*c:=fun l c h hl=>by
 have:=Za.KS (c:=c) l h
 have h2:=Nat.mul_le_mul_right (c+1) hl
 omega
theorem Lv {f:Nat} (IH:El f) (w:World) (N:List Za.Vr) (P:Nat→Prop) (a:AV) (num:Int) (us:List Za.U) (hk:a.k=3) (hn:a.n=us.length) (hrow:us≠[]→∃(g:Nat) (vs:List AV) (cs:Array Value),a.ao=some ⟨g,0,none⟩∧P g∧w.heap[g]?=some (.cells cs 76 (0,0))∧cs.toList.take (vs.length*4)=vs.flatMap gM∧bR (RV f N P w) vs us) (hp:Pow w) (hN:N.length≤1000000) (hsm:Za.oZ (.n 1 a.tx.toList num us)) (hsz:Za.size (.n 1 a.tx.toList num us)≤1000) (hne:us≠[]):
 Calls Tryz.prog 58 #[.agg #[.int .i64 a.k,.int .i64 a.val,.string a.tx,.slice a.ao a.n a.cap]] w fun e w'=>e= .returned (.string ⟨(Za.bU Lib.itoa N (.n 1 a.tx.toList num us)).toArray⟩)∧Below w.heap.size w w':=by
 obtain⟨g,vs,cs,hao,-,hcs,I8,hall⟩:=hrow hne
 obtain⟨s1,s2,s3,s4⟩:=hsm.own
 obtain⟨k,val,tx,ao,an,acp⟩:=a
 dsimp only at hk hn hao s1 hsm hsz⊢
 subst hk hn hao
 have hlen:∀v∈us,(Za.bU Lib.itoa N v).length≤300000:=fun v hv=>by
  have h1:=Za.o0 (N:=N) (by omega) v (hsm.arg hv)
  have h2:=Za.iW hv
  rw[Za.size]at hsz
  omega
 have HLEN:=af hlen
 have qL:=af hne
 have cf:((us.length:Int) == 0)=false:=by have:us.length≠0:=fun q=>hne (List.length_eq_zero_iff.1 q);simp;omega
 have HST:=af (show Uu w N tx.toList us us.length (.string (tx++⟨#[40]⟩)) (.int .i64 0) (w.alloc (.cells #[.int .i64 3,.int .i64 val,.string tx,.slice (some ⟨g,0,none⟩) us.length acp] 76))from
  ⟨0,by omega,rfl,by rw[KU];rfl,(Below.refl _ _).alloc (Nat.le_refl _) _⟩)
 have Ed:=af hcs
 have rZ:=af I8
 have Bw:=af hall
 have Xv:=af s1
 have Em:=af hp
 have ji:=af hsm
 have j9:=af hsz
 have I:=af IH
 have y7:=Za.nB tx
 have hb2:tx.size≤240:=by omega
 clear s1 s2 s3 hrow IH hcs I8 hall hne hp hsm hsz hlen y7
 go_enter Tryz.func58,Tryz.ntmps58
 go_wp2_with fail
 go_loopg [3,31] us.length (fun k s i wr=>Uu w N tx.toList us k s i wr)
 case atStart=>exact ae HST
 case round=>
  clear HST cf
  obtain⟨j,hkj,rfl,rfl,hB⟩:=hrel
  have hz:=hB.size
  have HB:=af hB
  have hlS:(tx.toList++Za.argQ ((us.take j).map (Za.bU Lib.itoa N))).length≤5000000:=by
   have h3:=argQ_le ((us.take j).map (Za.bU Lib.itoa N)) 300000 (fun x hx=>by
    obtain⟨u,hu,rfl⟩:=List.mem_map.1 hx
    exact ae HLEN u (List.mem_of_mem_take hu)) (by simp;omega)
   have h7:=ae Xv
   rw[List.length_append]
   omega
  by_cases fV:j<us.length
  ·have hcs:=ae Ed
   have hall:=ae Bw
   have jF:=hall.length
   have kL:j<vs.length:=by omega
   have hcw:wr.heap[g]?=some (.cells cs 76 (0,0)):=(hB.block g (Array.getElem?_eq_some_iff.1 hcs).1).trans hcs
   have fc:∀i,i<4→wr.cell? ⟨g,j*4+i,none⟩=(gM vs[j])[i]?:=fun i hi=>by
    rw[ah hcw,←Array.getElem?_toList,←P9 kL i hi,←ae rZ,List.getElem?_take_of_lt (by omega)]
   have f0:=fc 0 (by omega)
   have f1:=fc 1 (by omega)
   have f2:=fc 2 (by omega)
   have f3:=fc 3 (by omega)
   simp only[gM,List.getElem?_cons_zero,List.getElem?_cons_succ,Nat.add_zero]at f0 f1 f2 f3
   have hbA:=hB.alloc hz (.cells #[.int .i64 vs[j].k,.int .i64 vs[j].val,.string vs[j].tx,.slice vs[j].ao vs[j].n vs[j].cap] 76)
   have Br:Za.size us[j]≤1000:=by
    have:=ae j9
    rw[Za.size]at this
    have:=Za.iW (List.getElem_mem fV)
    omega
   have IC:=af (ae I (wr.alloc (.cells #[.int .i64 vs[j].k,.int .i64 vs[j].val,.string vs[j].tx,.slice vs[j].ao vs[j].n vs[j].cap] 76)) N P vs[j] us[j] ((hall.at j kL fV).keep fun g cs hp hc=>⟨(hbA.block g (ag hc)).trans hc,hp⟩) ((ae Em).below hbA) hN ((ae ji).arg (List.getElem_mem fV)) Br)
   have vH:g<wr.heap.size:=ag hcw
   have i0:(0:Int)≤(j:Int):=by omega
   have i1:(j:Int)<(us.length:Int):=by omega
   have hA:(Za.bU Lib.itoa N us[j]).length≤1000000:=Nat.le_trans (ae HLEN _ (List.getElem_mem fV)) (by omega)
   have MT:=af (Za.Iy fV (Za.bU Lib.itoa N))
   have aT:=af hkj
   have bh:=af fV
   have Uv:=af (show j≠0→(us.take j).map (Za.bU Lib.itoa N)≠[]from fun q e=>by rw[List.map_eq_nil_iff,List.take_eq_nil_iff]at e;rcases e with e | e;exact q e;rw[e]at fV;simp at fV)
   have Pn:j≤3:=by omega
   clear fc hcw hcs hall jF hkj hB hbA Br
   generalize hSS:tx.toList++Za.argQ ((us.take j).map (Za.bU Lib.itoa N))=S at*
   have MU:=af hSS
   clear hSS
   generalize hAA:Za.bU Lib.itoa N us[j]=A at*
   clear hAA
   by_cases Uw:j=0
   ·subst Uw
    go_wp2_with fail
    refine(ae IC).mono ?_
    rintro e w2 ⟨rfl,hb2⟩
    have bf:=af ((ae HB).trans (((Below.refl _ _).alloc hz _).trans (hb2.mono (by simp;omega))))
    clear hb2 IC f0 f1 f2 f3
    go_wp2_with fail
    go_roundg (gk - 1)
    case measure=>have:=ae aT;have:=ae bh;omega
    case rel=>exact⟨0+1,by have:=ae aT;have:=ae bh;omega,by go_num,by rw[ae MT,←ae MU];exact congrArg Value.string (N7 _ _ _ (by simp)),ae bf⟩
   ·have Yg:decide (0<(j:Int))=true:=by simp;omega
    have Xw:=af (ae Uv Uw)
    clear Uv
    go_wp2_with fail
    refine(ae IC).mono ?_
    rintro e w2 ⟨rfl,hb2⟩
    have bf:=af ((ae HB).trans (((Below.refl _ _).alloc hz _).trans (hb2.mono (by simp;omega))))
    clear hb2 IC f0 f1 f2 f3
    go_wp2_with fail
    go_roundg (gk - 1)
    case measure=>have:=ae aT;have:=ae bh;omega
    case rel=>exact⟨j+1,by have:=ae aT;have:=ae bh;omega,by go_num,by rw[ae MT,←ae MU];exact congrArg Value.string (N8 _ _ _ (ae Xw)),ae bf⟩
  ·obtain rfl:j=us.length:=by omega
   have VU:=af (show Za.bU Lib.itoa N (.n 1 tx.toList num us)=tx.toList++Za.argS ((us.take us.length).map (Za.bU Lib.itoa N))by rw[Za.oY,if_neg (by decide),List.take_length])
   generalize hSS:tx.toList++Za.argQ ((us.take us.length).map (Za.bU Lib.itoa N))=S at*
   have MU:=af hSS
   clear hSS hkj hB
   go_wp2_with fail
   go_ret
   refine⟨?_,ae HB⟩
   rw[ae VU,←Qb _ _ (by have:=ae qL;simpa using this),ae MU]
   rfl
theorem stU_all:∀f,El f
 | 0=>fun _ _ _ _ _ hr=>hr.elim
 | f+1=>fun w N P a u hr hp hN hsm hsz=>by
  obtain⟨Hu,hrow⟩:=hr
  cases u with
  | v x=>exact Od w N a x Hu hp hN
  | n k tx num ss=>
   rcases Hu with⟨rfl,h1,h2,h3,rfl⟩ | ⟨rfl,h1,h2,h3,h4⟩
   ·obtain⟨_,s2,s3,_⟩:=hsm.own
    exact Oe w N a tx num h1 h2 hp s2 s3
   ·subst h2
    by_cases hs:ss=[]
    ·subst hs
     exact Lu w N a num h1 h3
    ·exact Lv (stU_all f) w N P a num ss h1 h3 hrow hp hN hsm hsz hs
end Go.Proofs.YthfjnfcekeknlaaGreatDoor
