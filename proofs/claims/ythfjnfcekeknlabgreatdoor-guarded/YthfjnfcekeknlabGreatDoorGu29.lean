import Derived.Test.YthfjnfcekeknlabGreatDoorGu03
import Derived.Test.YthfjnfcekeknlabGreatDoorGu13
import Derived.Test.YthfjnfcekeknlabGreatDoorGu22
set_option maxHeartbeats 8000000
set_option maxRecDepth 100000
namespace Go.Proofs.YthfjnfcekeknlabGreatDoor
open Go.RowKit
theorem CR (w:World) (n:Int) (h0: -9223372036854775808≤n) (h1:n≤9223372036854775807) (hp:Pow w):
 Calls Tryz.prog 123 #[.int .i64 n] w fun e w'=>e= .returned (.string ⟨(Lib.itoa n).toArray⟩)∧Below w.heap.size w w':=by
 refine(Tryz.strconv_Itoa n h0 h1 w hp).mono ?_
 rintro e w' ⟨rfl,k,os,rfl⟩
 exact⟨rfl,Lib.below_grow _ _ (Nat.le_refl _) _ _⟩
def EF (f:Nat):Prop:=∀(w:World) (N:List Zf.Vr) (P:Nat→Prop) (a:AV) (u:Zf.U),RV f N P w a u→Pow w→N.length≤1000000→Zf.oX u→Zf.size u≤1000→
 Calls Tryz.prog 73 #[.agg #[.int .i64 a.k,.int .i64 a.val,.string a.tx,.slice a.ao a.n a.cap]] w fun e w'=>e= .returned (.string ⟨(Zf.bP Lib.itoa N u).toArray⟩)∧Below w.heap.size w w'
theorem Pm (w:World) (N:List Zf.Vr) (a:AV) (x:Zf.Vr) (hr:uz N a (.v x)) (hp:Pow w) (hN:N.length≤1000000):
 Calls Tryz.prog 73 #[.agg #[.int .i64 a.k,.int .i64 a.val,.string a.tx,.slice a.ao a.n a.cap]] w fun e w'=>e= .returned (.string ⟨(Zf.bP Lib.itoa N (.v x)).toArray⟩)∧Below w.heap.size w w':=by
 obtain⟨k,val,tx,ao,n,cp⟩:=a
 obtain⟨h1,h2,h3,h4⟩:=hr
 dsimp only at h1 h2 h4⊢
 subst h1 h2
 have qp:N.idxOf x≤1000000:=by have:=List.idxOf_le_length (l:=N) (a:=x);omega
 have zF:=Lib.itoa_length_le (N.idxOf x:Int) (by omega) (by omega)
 have HS:=hide (show Zf.bP Lib.itoa N (.v x)=86 :: Lib.itoa (N.idxOf x:Int)by rw[Zf.bP])
 have HP:=hide (hp.alloc (.cells #[.int .i64 1,.int .i64 (N.idxOf x:Int),.string tx,.slice ao n cp] 74))
 clear h3 h4 hp hN
 generalize N.idxOf x=ix at*
 have HI:=hide (CR _ (ix:Int) (by omega) (by omega) (ae HP))
 generalize Lib.itoa (ix:Int)=S at*
 go_enter Tryz.func73,Tryz.ntmps73
 go_wp2_with fail
 refine(ae HI).mono ?_
 rintro e w1 ⟨rfl,hb⟩
 have HB:=hide hb
 clear hb
 go_wp2_with fail
 go_ret
 refine⟨?_,((Below.refl _ _).alloc (Nat.le_refl _) _).trans ((ae HB).mono (by simp))⟩
 rw[ae HS]
 rfl
theorem Pn (w:World) (N:List Zf.Vr) (a:AV) (tx':List UInt8) (num:Int) (hk:a.k=2) (hv:a.val=num) (hp:Pow w) (h0: -1000000000≤num) (h1:num≤1000000000):
 Calls Tryz.prog 73 #[.agg #[.int .i64 a.k,.int .i64 a.val,.string a.tx,.slice a.ao a.n a.cap]] w fun e w'=>e= .returned (.string ⟨(Zf.bP Lib.itoa N (.n 3 tx' num [])).toArray⟩)∧Below w.heap.size w w':=by
 obtain⟨k,val,tx,ao,n,cp⟩:=a
 dsimp only at hk hv⊢
 subst hk hv
 have HS:=hide (show Zf.bP Lib.itoa N (.n 3 tx' val [])=Lib.itoa val by rw[Zf.nD,if_pos rfl])
 have HP:=hide (hp.alloc (.cells #[.int .i64 2,.int .i64 val,.string tx,.slice ao n cp] 74))
 have HI:=hide (CR _ val (by omega) (by omega) (ae HP))
 clear hp
 generalize hS:Lib.itoa val=S at*
 clear hS
 go_enter Tryz.func73,Tryz.ntmps73
 go_wp2_with fail
 refine(ae HI).mono ?_
 rintro e w1 ⟨rfl,hb⟩
 have HB:=hide hb
 clear hb
 go_wp2_with fail
 go_ret
 refine⟨?_,((Below.refl _ _).alloc (Nat.le_refl _) _).trans ((ae HB).mono (by simp))⟩
 rw[ae HS]
 rfl
theorem Mk (w:World) (N:List Zf.Vr) (a:AV) (num:Int) (hk:a.k=3) (hn:a.n=0):
 Calls Tryz.prog 73 #[.agg #[.int .i64 a.k,.int .i64 a.val,.string a.tx,.slice a.ao a.n a.cap]] w fun e w'=>e= .returned (.string ⟨(Zf.bP Lib.itoa N (.n 1 a.tx.toList num [])).toArray⟩)∧Below w.heap.size w w':=by
 obtain⟨k,val,tx,ao,n,cp⟩:=a
 dsimp only at hk hn⊢
 subst hk hn
 have HS:=hide (show Zf.bP Lib.itoa N (.n 1 tx.toList num [])=tx.toList by rw[Zf.nD,if_neg (by decide)];simp[Zf.argS])
 go_enter Tryz.func73,Tryz.ntmps73
 go_wp2_with fail
 go_ret
 refine⟨?_,(Below.refl _ _).alloc (Nat.le_refl _) _⟩
 rw[ae HS,yr]
 rfl
def Vb (w:World) (N:List Zf.Vr) (tx:List UInt8) (us:List Zf.U) (k:Nat) (sv iv:Value) (wr:World):Prop:=
 ∃j:Nat,k+j=us.length∧iv= .int .i64 (j:Int)∧sv= .string ⟨(tx++Zf.argQ ((us.take j).map (Zf.bP Lib.itoa N))).toArray⟩∧Below w.heap.size w wr
theorem argQ_le:∀(l:List (List UInt8)) (c:Nat),(∀x∈l,x.length≤c)→l.length≤3→(Zf.argQ l).length≤10+3*c:=fun l c h hl=>by
 have:=Zf.LF (c:=c) l h
 have h2:=Nat.mul_le_mul_right (c+1) hl
 omega
theorem Ml {f:Nat} (IH:EF f) (w:World) (N:List Zf.Vr) (P:Nat→Prop) (a:AV) (num:Int) (us:List Zf.U) (hk:a.k=3) (hn:a.n=us.length) (hrow:us≠[]→∃(g:Nat) (vs:List AV) (cs:Array Value),a.ao=some ⟨g,0,none⟩∧P g∧w.heap[g]?=some (.cells cs 74 (0,0))∧cs.toList.take (vs.length*4)=vs.flatMap gP∧bR (RV f N P w) vs us) (hp:Pow w) (hN:N.length≤1000000) (hsm:Zf.oX (.n 1 a.tx.toList num us)) (hsz:Zf.size (.n 1 a.tx.toList num us)≤1000) (hne:us≠[]):
 Calls Tryz.prog 73 #[.agg #[.int .i64 a.k,.int .i64 a.val,.string a.tx,.slice a.ao a.n a.cap]] w fun e w'=>e= .returned (.string ⟨(Zf.bP Lib.itoa N (.n 1 a.tx.toList num us)).toArray⟩)∧Below w.heap.size w w':=by
 obtain⟨g,vs,cs,hao,-,hcs,htk,hall⟩:=hrow hne
 obtain⟨s1,s2,s3,s4⟩:=hsm.own
 obtain⟨k,val,tx,ao,an,acp⟩:=a
 dsimp only at hk hn hao s1 hsm hsz⊢
 subst hk hn hao
 have hlen:∀v∈us,(Zf.bP Lib.itoa N v).length≤300000:=fun v hv=>by
  have h1:=Zf.oY (N:=N) (by omega) v (hsm.arg hv)
  have h2:=Zf.iO hv
  rw[Zf.size]at hsz
  omega
 have HLEN:=hide hlen
 have qD:=hide hne
 have hn0:((us.length:Int) == 0)=false:=by have:us.length≠0:=fun q=>hne (List.length_eq_zero_iff.1 q);simp;omega
 have HST:=hide (show Vb w N tx.toList us us.length (.string (tx++⟨#[40]⟩)) (.int .i64 0) (w.alloc (.cells #[.int .i64 3,.int .i64 val,.string tx,.slice (some ⟨g,0,none⟩) us.length acp] 74))from
  ⟨0,by omega,rfl,by rw[LG];rfl,(Below.refl _ _).alloc (Nat.le_refl _) _⟩)
 have Ez:=hide hcs
 have rU:=hide htk
 have BQ:=hide hall
 have Yj:=hide s1
 have EG:=hide hp
 have jf:=hide hsm
 have jv:=hide hsz
 have I:=hide IH
 have zu:=Zf.nA tx
 have hb2:tx.size≤240:=by omega
 clear s1 s2 s3 hrow IH hcs htk hall hne hp hsm hsz hlen zu
 go_enter Tryz.func73,Tryz.ntmps73
 go_wp2_with fail
 go_loopg [3,31] us.length (fun k s i wr=>Vb w N tx.toList us k s i wr)
 case atStart=>exact ae HST
 case round=>
  clear HST hn0
  obtain⟨j,hkj,rfl,rfl,hB⟩:=hrel
  have hz:=hB.size
  have HB:=hide hB
  have hlS:(tx.toList++Zf.argQ ((us.take j).map (Zf.bP Lib.itoa N))).length≤5000000:=by
   have h3:=argQ_le ((us.take j).map (Zf.bP Lib.itoa N)) 300000 (fun x hx=>by
    obtain⟨u,hu,rfl⟩:=List.mem_map.1 hx
    exact ae HLEN u (List.mem_of_mem_take hu)) (by simp;omega)
   have h7:=ae Yj
   rw[List.length_append]
   omega
  by_cases hlt':j<us.length
  ·have hcs:=ae Ez
   have hall:=ae BQ
   have hvl:=hall.length
   have jh:j<vs.length:=by omega
   have hcw:wr.heap[g]?=some (.cells cs 74 (0,0)):=(hB.block g (Array.getElem?_eq_some_iff.1 hcs).1).trans hcs
   have fc:∀i,i<4→wr.cell? ⟨g,j*4+i,none⟩=(gP vs[j])[i]?:=fun i hi=>by
    rw[ah hcw,←Array.getElem?_toList,←QY jh i hi,←ae rU,List.getElem?_take_of_lt (by omega)]
   have f0:=fc 0 (by omega)
   have f1:=fc 1 (by omega)
   have f2:=fc 2 (by omega)
   have f3:=fc 3 (by omega)
   simp only[gP,List.getElem?_cons_zero,List.getElem?_cons_succ,Nat.add_zero]at f0 f1 f2 f3
   have hbA:=hB.alloc hz (.cells #[.int .i64 vs[j].k,.int .i64 vs[j].val,.string vs[j].tx,.slice vs[j].ao vs[j].n vs[j].cap] 74)
   have BK:Zf.size us[j]≤1000:=by
    have:=ae jv
    rw[Zf.size]at this
    have:=Zf.iO (List.getElem_mem hlt')
    omega
   have IC:=hide (ae I (wr.alloc (.cells #[.int .i64 vs[j].k,.int .i64 vs[j].val,.string vs[j].tx,.slice vs[j].ao vs[j].n vs[j].cap] 74)) N P vs[j] us[j] ((hall.at j jh hlt').keep fun g cs hp hc=>⟨(hbA.block g (af hc)).trans hc,hp⟩) ((ae EG).below hbA) hN ((ae jf).arg (List.getElem_mem hlt')) BK)
   have zE:g<wr.heap.size:=af hcw
   have i0:(0:Int)≤(j:Int):=by omega
   have i1:(j:Int)<(us.length:Int):=by omega
   have hA:(Zf.bP Lib.itoa N us[j]).length≤1000000:=Nat.le_trans (ae HLEN _ (List.getElem_mem hlt')) (by omega)
   have NV:=hide (Zf.Jl hlt' (Zf.bP Lib.itoa N))
   have aW:=hide hkj
   have ba:=hide hlt'
   have Vc:=hide (show j≠0→(us.take j).map (Zf.bP Lib.itoa N)≠[]from fun q e=>by rw[List.map_eq_nil_iff,List.take_eq_nil_iff]at e;rcases e with e | e;exact q e;rw[e]at hlt';simp at hlt')
   have Qf:j≤3:=by omega
   clear fc hcw hcs hall hvl hkj hB hbA BK
   generalize hSS:tx.toList++Zf.argQ ((us.take j).map (Zf.bP Lib.itoa N))=S at*
   have NW:=hide hSS
   clear hSS
   generalize hAA:Zf.bP Lib.itoa N us[j]=A at*
   clear hAA
   by_cases Vd:j=0
   ·subst Vd
    go_wp2_with fail
    refine(ae IC).mono ?_
    rintro e w2 ⟨rfl,hb2⟩
    have aP:=hide ((ae HB).trans (((Below.refl _ _).alloc hz _).trans (hb2.mono (by simp;omega))))
    clear hb2 IC f0 f1 f2 f3
    go_wp2_with fail
    go_roundg (gk - 1)
    case measure=>have:=ae aW;have:=ae ba;omega
    case rel=>exact⟨0+1,by have:=ae aW;have:=ae ba;omega,by go_num,by rw[ae NV,←ae NW];exact congrArg Value.string (Pe _ _ _ (by simp)),ae aP⟩
   ·have YX:decide (0<(j:Int))=true:=by simp;omega
    have Yk:=hide (ae Vc Vd)
    clear Vc
    go_wp2_with fail
    refine(ae IC).mono ?_
    rintro e w2 ⟨rfl,hb2⟩
    have aP:=hide ((ae HB).trans (((Below.refl _ _).alloc hz _).trans (hb2.mono (by simp;omega))))
    clear hb2 IC f0 f1 f2 f3
    go_wp2_with fail
    go_roundg (gk - 1)
    case measure=>have:=ae aW;have:=ae ba;omega
    case rel=>exact⟨j+1,by have:=ae aW;have:=ae ba;omega,by go_num,by rw[ae NV,←ae NW];exact congrArg Value.string (Pf _ _ _ (ae Yk)),ae aP⟩
  ·obtain rfl:j=us.length:=by omega
   have Gd:=hide (show Zf.bP Lib.itoa N (.n 1 tx.toList num us)=tx.toList++Zf.argS ((us.take us.length).map (Zf.bP Lib.itoa N))by rw[Zf.nD,if_neg (by decide),List.take_length])
   generalize hSS:tx.toList++Zf.argQ ((us.take us.length).map (Zf.bP Lib.itoa N))=S at*
   have NW:=hide hSS
   clear hSS hkj hB
   go_wp2_with fail
   go_ret
   refine⟨?_,ae HB⟩
   rw[ae Gd,←QZ _ _ (by have:=ae qD;simpa using this),ae NW]
   rfl
theorem stU_all:∀f,EF f
 | 0=>fun _ _ _ _ _ hr=>hr.elim
 | f+1=>fun w N P a u hr hp hN hsm hsz=>by
  obtain⟨Ix,hrow⟩:=hr
  cases u with
  | v x=>exact Pm w N a x Ix hp hN
  | n k tx num ss=>
   rcases Ix with⟨rfl,h1,h2,h3,rfl⟩ | ⟨rfl,h1,h2,h3,h4⟩
   ·obtain⟨_,s2,s3,_⟩:=hsm.own
    exact Pn w N a tx num h1 h2 hp s2 s3
   ·subst h2
    by_cases hs:ss=[]
    ·subst hs
     exact Mk w N a num h1 h3
    ·exact Ml (stU_all f) w N P a num ss h1 h3 hrow hp hN hsm hsz hs
end Go.Proofs.YthfjnfcekeknlabGreatDoor
