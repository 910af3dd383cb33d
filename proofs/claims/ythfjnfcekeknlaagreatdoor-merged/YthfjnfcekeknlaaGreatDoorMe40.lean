import Derived.Test.YthfjnfcekeknlaaGreatDoorMe39
set_option maxHeartbeats 8000000
set_option maxRecDepth 100000
namespace Go.Proofs.YthfjnfcekeknlaaGreatDoor
open Go.RowKit
theorem Kd {n:Nat} (h1:6≤n) (h:n≤1000):IntKind.i64.wrap ((n:Int) - 1)=(n:Int) - 1:=by
 have e1:IntKind.i64.bits=64:=rfl
 unfold IntKind.wrap
 rw[e1]
 have e2:((n:Int) - 1) % 2 ^ 64=(n:Int) - 1:=by omega
 simp only[e2]
 rw[if_neg]
 simp
 omega
theorem MP (w:World) (ga fa ca gb fb cb na nb nab:Nat) (d e:Int) (S M X D8 E8:ByteArray) (xd xe R1 R2:Bool) (pa:0<na) (pb:0<nb) (gaz:ga<w.heap.size) (gbz:gb<w.heap.size) (eE:na≤ca) (hcb:nb≤cb) (hcm:ca≤9223372036854775807) (MQ:cb≤9223372036854775807)
 (f0:w.cell? ⟨ga,fa,none⟩=some (.int .i64 d)) (g0:w.cell? ⟨gb,fb,none⟩=some (.int .i64 e))
 (IJ:Calls Tryz.prog 19 #[.slice (some ⟨ga,fa,none⟩) na ca,.slice (some ⟨gb,fb,none⟩) nb cb] w fun r w'=>∃(oj:Option Addr) (cj:Nat),r= .returned (.slice oj nab cj)∧Hid (Calls Tryz.prog 16 #[.slice oj nab cj] w' fun r w2=>r= .returned (.string X)∧Below w'.heap.size w' w2)∧Below w.heap.size w w')
 (ID:∀W,Calls Tryz.prog 21 #[.int .i64 d] W fun r w'=>r= .returned (.string D8)∧Below W.heap.size W w')
 (IE:∀W,Calls Tryz.prog 21 #[.int .i64 e] W fun r w'=>r= .returned (.string E8)∧Below W.heap.size W w')
 (I1:∀W off,(1<ca→off=fa+1)→Below w.heap.size w W→Calls Tryz.prog 24 #[.slice (some ⟨ga,off,none⟩) (na - 1) (ca - 1),.slice (some ⟨gb,fb,none⟩) nb cb,.string M] W fun r w'=>r= .returned (.bool R1)∧Below W.heap.size W w')
 (I2:∀W off,(1<cb→off=fb+1)→Below w.heap.size w W→Calls Tryz.prog 24 #[.slice (some ⟨ga,fa,none⟩) na ca,.slice (some ⟨gb,off,none⟩) (nb - 1) (cb - 1),.string M] W fun r w'=>r= .returned (.bool R2)∧Below W.heap.size W w')
 (t1:((S.size:Int) != (X.size:Int))=false) (_t2:(S.size != X.size)=false) (z1:6≤S.size) (z2:S.size≤1000) (zd:D8.size≤100) (ze:E8.size≤100)
 (hzd:((⟨#[99,40]⟩:ByteArray)++D8++⟨#[44]⟩).size=4) (Zb:((⟨#[99,40]⟩:ByteArray)++E8++⟨#[44]⟩).size=4)
 (qd:((S.extract 0 4).toList == ((⟨#[99,40]⟩:ByteArray)++D8++⟨#[44]⟩).toList)=xd) (qe:((S.extract 0 4).toList == ((⟨#[99,40]⟩:ByteArray)++E8++⟨#[44]⟩).toList)=xe) (cM:S.extract 4 (S.size - 1)=M) (cL:S.extract (S.size - 1) S.size=⟨#[41]⟩):
 Calls Tryz.prog 24 #[.slice (some ⟨ga,fa,none⟩) na ca,.slice (some ⟨gb,fb,none⟩) nb cb,.string S] w fun r w'=>r= .returned (.bool ((xd&&R1)||(xe&&R2)))∧Below w.heap.size w w':=by
 have u1:((na:Int) == 0)=false:=by simp;omega
 have u2:(na == 0)=false:=by simp;omega
 have u3:((nb:Int) == 0)=false:=by simp;omega
 have u4:(nb == 0)=false:=by simp;omega
 have HJ:=af IJ
 have HD:=af ID
 have HE:=af IE
 have Cc:=af I1
 have sH:=af I2
 clear IJ ID IE I1 I2
 go_enter Tryz.func24,Tryz.ntmps24
 go_wp2_with fail
 refine(ae HJ).mono ?_
 rintro r w1 ⟨oj,cj,rfl,IW1,hb1⟩
 have ba:=af hb1
 clear HJ hb1
 go_wp2_with fail
 refine(ae IW1).mono ?_
 rintro r w2 ⟨rfl,hb2⟩
 have eC:=(ae ba).trans (hb2.mono (ae ba).size)
 have k0:=(eC.cell (p:=⟨ga,fa,none⟩) gaz).trans f0
 have zz2:ga<w2.heap.size:=Nat.lt_of_lt_of_le gaz eC.size
 have aX:=af eC
 clear IW1 hb2 eC
 go_wp2_with fail
 refine(ae HD _).mono ?_
 rintro r w3 ⟨rfl,hb3⟩
 have bu:=af ((ae aX).trans (hb3.mono (ae aX).size))
 clear hb3
 have v6:(4:Int)≤(S.size:Int) - 1:=by omega
 have v7:(S.size:Int) - 1≤(S.size:Int):=by omega
 have v8:(0:Int)≤(S.size:Int) - 1:=by omega
 have v9:((S.size:Int) - 1).toNat=S.size - 1:=by omega
 have va:=Kd z1 z2
 cases xd with
 | true=>
  by_cases hc1:ca=1
  ·have na1:na=1:=by omega
   subst hc1 na1
   go_upto_region 8 with fail
   go_cut [9] (fun rv wx=>rv= .bool R1∧Below w.heap.size w wx)
   case first=>
    go_region_with (go_at_call 24;refine(ae Cc _ _ (fun q=>by omega) (by first | exact ae bu | exact(ae bu).drew | exact(ae bu).drew.drew)).mono ?_;rintro r w4 ⟨rfl,hb4⟩;have cu:=af ((ae bu).trans ((show Below w3.heap.size w3 w4 from by first | exact hb4 | exact(Below.refl _ _).drew.trans hb4).mono (ae bu).size));clear hb4)
    all_goals
     go_wp2_with fail
     go_meet
     exact⟨rfl,by first | exact ae cu | exact(ae cu).drew⟩
   case rest=>
    obtain⟨rfl,Ke⟩:=hcut
    have oG:=af Ke
    clear Ke
    cases R1 with
    | true=>
     go_wp2_with fail
     go_ret
     exact⟨by first | (simp;done) | (simp;rfl) | rfl,ae oG⟩
    | false=>
     have kb:=((ae oG).cell (p:=⟨gb,fb,none⟩) gbz).trans g0
     have zzb:gb<wc.heap.size:=Nat.lt_of_lt_of_le gbz (ae oG).size
     go_wp2_with fail
     refine(ae HE _).mono ?_
     rintro r w6 ⟨rfl,eR⟩
     have cC:=af ((ae oG).trans (eR.mono (ae oG).size))
     clear eR
     cases xe with
     | true=>
      by_cases hc2:cb=1
      ·have nb1:nb=1:=by omega
       subst hc2 nb1
       go_wp2_with fail
       go_region_with (go_at_call 24;refine(ae sH _ _ (fun q=>by omega) (by first | exact ae cC | exact(ae cC).drew | exact(ae cC).drew.drew)).mono ?_;rintro r w7 ⟨rfl,iI⟩;have gZ:=af ((ae cC).trans ((show Below w6.heap.size w6 w7 from by first | exact iI | exact(Below.refl _ _).drew.trans iI).mono (ae cC).size));clear iI)
       all_goals
        go_wp2_with fail
        go_ret
        exact⟨by first | (simp;done) | (simp;rfl) | rfl,ae gZ⟩
      ·have v1:1<cb:=by omega
       have v2:(cb == 1)=false:=by simpa using hc2
       have v3:(cb - 1 == 0)=false:=by simp;omega
       have v4:((cb:Int) == 1)=false:=by simp;omega
       have v5:1≤nb:=pb
       go_wp2_with fail
       go_region_with (go_at_call 24;refine(ae sH _ _ (fun _=>rfl) (by first | exact ae cC | exact(ae cC).drew | exact(ae cC).drew.drew)).mono ?_;rintro r w7 ⟨rfl,iI⟩;have gZ:=af ((ae cC).trans ((show Below w6.heap.size w6 w7 from by first | exact iI | exact(Below.refl _ _).drew.trans iI).mono (ae cC).size));clear iI)
       all_goals
        go_wp2_with fail
        go_ret
        exact⟨by first | (simp;done) | (simp;rfl) | rfl,ae gZ⟩
     | false=>
      go_wp2_with fail
      go_ret
      exact⟨by first | (simp;done) | (simp;rfl) | rfl,ae cC⟩
  ·have v1:1<ca:=by omega
   have v2:(ca == 1)=false:=by simpa using hc1
   have v3:(ca - 1 == 0)=false:=by simp;omega
   have v4:((ca:Int) == 1)=false:=by simp;omega
   have v5:1≤na:=pa
   go_upto_region 8 with fail
   go_cut [9] (fun rv wx=>rv= .bool R1∧Below w.heap.size w wx)
   case first=>
    go_region_with (go_at_call 24;refine(ae Cc _ _ (fun _=>rfl) (by first | exact ae bu | exact(ae bu).drew | exact(ae bu).drew.drew)).mono ?_;rintro r w4 ⟨rfl,hb4⟩;have cu:=af ((ae bu).trans ((show Below w3.heap.size w3 w4 from by first | exact hb4 | exact(Below.refl _ _).drew.trans hb4).mono (ae bu).size));clear hb4)
    all_goals
     go_wp2_with fail
     go_meet
     exact⟨rfl,by first | exact ae cu | exact(ae cu).drew⟩
   case rest=>
    obtain⟨rfl,Ke⟩:=hcut
    have oG:=af Ke
    clear Ke
    cases R1 with
    | true=>
     go_wp2_with fail
     go_ret
     exact⟨by first | (simp;done) | (simp;rfl) | rfl,ae oG⟩
    | false=>
     have kb:=((ae oG).cell (p:=⟨gb,fb,none⟩) gbz).trans g0
     have zzb:gb<wc.heap.size:=Nat.lt_of_lt_of_le gbz (ae oG).size
     go_wp2_with fail
     refine(ae HE _).mono ?_
     rintro r w6 ⟨rfl,eR⟩
     have cC:=af ((ae oG).trans (eR.mono (ae oG).size))
     clear eR
     cases xe with
     | true=>
      by_cases hc2:cb=1
      ·have nb1:nb=1:=by omega
       subst hc2 nb1
       go_wp2_with fail
       go_region_with (go_at_call 24;refine(ae sH _ _ (fun q=>by omega) (by first | exact ae cC | exact(ae cC).drew | exact(ae cC).drew.drew)).mono ?_;rintro r w7 ⟨rfl,iI⟩;have gZ:=af ((ae cC).trans ((show Below w6.heap.size w6 w7 from by first | exact iI | exact(Below.refl _ _).drew.trans iI).mono (ae cC).size));clear iI)
       all_goals
        go_wp2_with fail
        go_ret
        exact⟨by first | (simp;done) | (simp;rfl) | rfl,ae gZ⟩
      ·have v1:1<cb:=by omega
       have v2:(cb == 1)=false:=by simpa using hc2
       have v3:(cb - 1 == 0)=false:=by simp;omega
       have v4:((cb:Int) == 1)=false:=by simp;omega
       have v5:1≤nb:=pb
       go_wp2_with fail
       go_region_with (go_at_call 24;refine(ae sH _ _ (fun _=>rfl) (by first | exact ae cC | exact(ae cC).drew | exact(ae cC).drew.drew)).mono ?_;rintro r w7 ⟨rfl,iI⟩;have gZ:=af ((ae cC).trans ((show Below w6.heap.size w6 w7 from by first | exact iI | exact(Below.refl _ _).drew.trans iI).mono (ae cC).size));clear iI)
       all_goals
        go_wp2_with fail
        go_ret
        exact⟨by first | (simp;done) | (simp;rfl) | rfl,ae gZ⟩
     | false=>
      go_wp2_with fail
      go_ret
      exact⟨by first | (simp;done) | (simp;rfl) | rfl,ae cC⟩
 | false=>
  have oG:=af (ae bu)
  have kb:=((ae oG).cell (p:=⟨gb,fb,none⟩) gbz).trans g0
  have zzb:gb<w3.heap.size:=Nat.lt_of_lt_of_le gbz (ae oG).size
  go_wp2_with fail
  refine(ae HE _).mono ?_
  rintro r w6 ⟨rfl,eR⟩
  have cC:=af ((ae oG).trans (eR.mono (ae oG).size))
  clear eR
  cases xe with
  | true=>
   by_cases hc2:cb=1
   ·have nb1:nb=1:=by omega
    subst hc2 nb1
    go_wp2_with fail
    go_region_with (go_at_call 24;refine(ae sH _ _ (fun q=>by omega) (by first | exact ae cC | exact(ae cC).drew | exact(ae cC).drew.drew)).mono ?_;rintro r w7 ⟨rfl,iI⟩;have gZ:=af ((ae cC).trans ((show Below w6.heap.size w6 w7 from by first | exact iI | exact(Below.refl _ _).drew.trans iI).mono (ae cC).size));clear iI)
    all_goals
     go_wp2_with fail
     go_ret
     exact⟨by first | (simp;done) | (simp;rfl) | rfl,ae gZ⟩
   ·have v1:1<cb:=by omega
    have v2:(cb == 1)=false:=by simpa using hc2
    have v3:(cb - 1 == 0)=false:=by simp;omega
    have v4:((cb:Int) == 1)=false:=by simp;omega
    have v5:1≤nb:=pb
    go_wp2_with fail
    go_region_with (go_at_call 24;refine(ae sH _ _ (fun _=>rfl) (by first | exact ae cC | exact(ae cC).drew | exact(ae cC).drew.drew)).mono ?_;rintro r w7 ⟨rfl,iI⟩;have gZ:=af ((ae cC).trans ((show Below w6.heap.size w6 w7 from by first | exact iI | exact(Below.refl _ _).drew.trans iI).mono (ae cC).size));clear iI)
    all_goals
     go_wp2_with fail
     go_ret
     exact⟨by first | (simp;done) | (simp;rfl) | rfl,ae gZ⟩
  | false=>
   go_wp2_with fail
   go_ret
   exact⟨by first | (simp;done) | (simp;rfl) | rfl,ae cC⟩
theorem MR (d e x:Nat) (a b l:List Nat) (h10:a.length+b.length≤8) (Ay:l.length=a.length+b.length+1) (da:∀y∈d :: a,y<10) (db:∀y∈e :: b,y<10) (dl:∀y∈x :: l,y<10) (w:World) (oa ob:Option Addr) (ca cb:Nat) (ha:ir w oa ca (d :: a)) (hb:ir w ob cb (e :: b))
 (IH1:∀(W:World) (o:Option Addr) (c:Nat),ir W o c a→ir W ob cb (e :: b)→Calls Tryz.prog 24 #[.slice o a.length c,.slice ob (e :: b).length cb,.string ⟨(Zc.txL l).toArray⟩] W fun r w'=>r= .returned (.bool (Zc.betL a (e :: b) l))∧Below W.heap.size W w')
 (IH2:∀(W:World) (o:Option Addr) (c:Nat),ir W oa ca (d :: a)→ir W o c b→Calls Tryz.prog 24 #[.slice oa (d :: a).length ca,.slice o b.length c,.string ⟨(Zc.txL l).toArray⟩] W fun r w'=>r= .returned (.bool (Zc.betL (d :: a) b l))∧Below W.heap.size W w'):
 Calls Tryz.prog 24 #[.slice oa (d :: a).length ca,.slice ob (e :: b).length cb,.string ⟨(Zc.txL (x :: l)).toArray⟩] w fun r w'=>r= .returned (.bool (Zc.betL (d :: a) (e :: b) (x :: l)))∧Below w.heap.size w w':=by
 have dab:∀y∈(d :: a)++(e :: b),y<10:=fun y hy=>by
  rcases List.mem_append.1 hy with q | q
  ·exact da y q
  ·exact db y q
 have d10:d<10:=da d (by simp)
 have e10:e<10:=db e (by simp)
 have x10:x<10:=dl x (by simp)
 have ml:(Zc.txL l).length=5*l.length+1:=Zc.txL_len l (fun y hy=>dl y (by simp[hy]))
 have s0:(⟨(Zc.txL (x :: l)).toArray⟩:ByteArray).size=(⟨(Zc.txL ((d :: a)++(e :: b))).toArray⟩:ByteArray).size:=by
  simp only[ByteArray.size,List.size_toArray,Zc.txL_len (x :: l) dl,Zc.txL_len ((d :: a)++(e :: b)) dab,List.length_append,List.length_cons,Ay]
  omega
 have s1:(⟨(Zc.txL (x :: l)).toArray⟩:ByteArray).size=4+(5*l.length+1)+1:=by
  simp only[ByteArray.size,List.size_toArray,Zc.txL_len (x :: l) dl,List.length_cons]
  omega
 have cH:=Zc.MN x10 l
 have cM:=Zc.PB x10 ml
 have cL:=Zc.MO x10 ml
 rw[←s1]at cL
 have hM:4+(5*l.length+1)=(⟨(Zc.txL (x :: l)).toArray⟩:ByteArray).size - 1:=by omega
 rw[hM]at cM cL
 have hdH:∀y,y<10→((⟨#[99,40]⟩:ByteArray)++⟨(Zc.ie y).toArray⟩++⟨#[44]⟩)=⟨(Zc.qA y).toArray⟩:=fun y hy=>by
  rw[Zc.js hy,show (⟨#[99,40]⟩:ByteArray)=⟨[99,40].toArray⟩from rfl,show (⟨#[44]⟩:ByteArray)=⟨[44].toArray⟩from rfl,dY,dY]
  rfl
 have hz1:∀y,y<10→(⟨(Zc.ie y).toArray⟩:ByteArray).size≤100:=fun y hy=>by rw[Zc.js hy];exact(by decide:1≤100)
 rcases ha with⟨_,h,_⟩ | ⟨ga,fa,rfl,gaz,eE,hcm,hce⟩
 ·cases h
 rcases hb with⟨_,h,_⟩ | ⟨gb,fb,rfl,gbz,hcb,MQ,MT⟩
 ·cases h
 have ha:∀W,Below w.heap.size w W→ir W (some ⟨ga,fa,none⟩) ca (d :: a):=fun W hW=>Or.inr ⟨ga,fa,rfl,Nat.lt_of_lt_of_le gaz hW.size,eE,hcm,fun i hi=>(hW.cell (p:=⟨ga,fa+i,none⟩) gaz).trans (hce i hi)⟩
 have hb:∀W,Below w.heap.size w W→ir W (some ⟨gb,fb,none⟩) cb (e :: b):=fun W hW=>Or.inr ⟨gb,fb,rfl,Nat.lt_of_lt_of_le gbz hW.size,hcb,MQ,fun i hi=>(hW.cell (p:=⟨gb,fb+i,none⟩) gbz).trans (MT i hi)⟩
 have f0:=hce 0 (by simp)
 have g0:=MT 0 (by simp)
 simp only[List.getElem_cons_zero,Nat.add_zero]at f0 g0
 rw[List.length_cons]at eE hcb
 have key:=MP w ga fa ca gb fb cb (d :: a).length (e :: b).length ((d :: a)++(e :: b)).length (d:Int) (e:Int) ⟨(Zc.txL (x :: l)).toArray⟩ ⟨(Zc.txL l).toArray⟩ ⟨(Zc.txL ((d :: a)++(e :: b))).toArray⟩ ⟨(Zc.ie d).toArray⟩ ⟨(Zc.ie e).toArray⟩ (x == d) (x == e) (Zc.betL a (e :: b) l) (Zc.betL (d :: a) b l) (by simp) (by simp) gaz gbz (by rw[List.length_cons];exact eE) (by rw[List.length_cons];exact hcb) hcm MQ f0 g0
  ((Fg w (d :: a) (e :: b) _ _ ca cb (ha w (Below.refl _ _)) (hb w (Below.refl _ _)) (by simp only[List.length_cons];omega) (by simp only[List.length_cons];omega)).mono fun r w' ⟨oj,cj,h1,h2,h3⟩=>⟨oj,cj,h1,af (rX w' ((d :: a)++(e :: b)) oj cj (ly.xY h2) (fun y hy=>by have:=dab y hy;omega) (by simp only[List.length_append,List.length_cons];omega)),h3⟩)
  (fun W=>decimalK d (by omega) W) (fun W=>decimalK e (by omega) W)
  (fun W off ho hW=>IH1 W _ _ (Or.inr ⟨ga,off,rfl,Nat.lt_of_lt_of_le gaz hW.size,by omega,by omega,fun i hi=>by
   have:=hce (i+1) (by simp;omega)
   rw[ho (by omega),hW.cell (p:=⟨ga,fa+1+i,none⟩) gaz,show fa+1+i=fa+(i+1)by omega,this]
   rfl⟩) (hb W hW))
  (fun W off ho hW=>IH2 W _ _ (ha W hW) (Or.inr ⟨gb,off,rfl,Nat.lt_of_lt_of_le gbz hW.size,by omega,by omega,fun i hi=>by
   have:=MT (i+1) (by simp;omega)
   rw[ho (by omega),hW.cell (p:=⟨gb,fb+1+i,none⟩) gbz,show fb+1+i=fb+(i+1)by omega,this]
   rfl⟩))
  (by rw[s0];simp) (by rw[s0];simp) (by rw[s1];omega) (by rw[s1];omega) (hz1 d d10) (hz1 e e10) (by rw[hdH d d10];rfl) (by rw[hdH e e10];rfl)
  (by rw[hdH d d10,cH,Zc.dA,Zc.dA,Zc.Fi x10 d10]) (by rw[hdH e e10,cH,Zc.dA,Zc.dA,Zc.Fi x10 e10]) cM cL
 rw[show Zc.betL (d :: a) (e :: b) (x :: l)=((x == d&&Zc.betL a (e :: b) l)||(x == e&&Zc.betL (d :: a) b l))by rw[Zc.betL]]
 exact key
theorem betweenK:∀(n:Nat) (a b l:List Nat),a.length+b.length=n→n≤10→l.length=n→(∀d∈a,d<10)→(∀d∈b,d<10)→(∀d∈l,d<10)→∀(w:World) (oa ob:Option Addr) (ca cb:Nat),ir w oa ca a→ir w ob cb b→
 Calls Tryz.prog 24 #[.slice oa a.length ca,.slice ob b.length cb,.string ⟨(Zc.txL l).toArray⟩] w fun r w'=>r= .returned (.bool (Zc.betL a b l))∧Below w.heap.size w w':=by
 intro n
 induction n with
 | zero=>
  intro a b l hn h10 Ay da db dl w oa ob ca cb ha hb
  exact xk a b l (Or.inl (List.length_eq_zero_iff.1 (by omega))) (by omega) (by omega) da db dl w oa ob ca cb ha hb
 | succ n ih=>
  intro a b l hn h10 Ay da db dl w oa ob ca cb ha hb
  cases a with
  | nil=>exact xk [] b l (Or.inl rfl) (by omega) (by omega) da db dl w oa ob ca cb ha hb
  | cons d a=>
   cases b with
   | nil=>exact xk (d :: a) [] l (Or.inr ⟨by simp,rfl⟩) (by omega) (by omega) da db dl w oa ob ca cb ha hb
   | cons e b=>
    cases l with
    | nil=>simp at Ay
    | cons x l=>
     simp only[List.length_cons]at hn Ay
     exact MR d e x a b l (by omega) (by omega) da db dl w oa ob ca cb ha hb
      (fun W o c h1 h2=>ih a (e :: b) l (by rw[List.length_cons];omega) (by omega) (by omega) (fun y hy=>da y (by simp[hy])) db (fun y hy=>dl y (by simp[hy])) W o ob c cb h1 h2)
      (fun W o c h1 h2=>ih (d :: a) b l (by rw[List.length_cons];omega) (by omega) (by omega) da (fun y hy=>db y (by simp[hy])) (fun y hy=>dl y (by simp[hy])) W oa o ca c h1 h2)
end Go.Proofs.YthfjnfcekeknlaaGreatDoor
