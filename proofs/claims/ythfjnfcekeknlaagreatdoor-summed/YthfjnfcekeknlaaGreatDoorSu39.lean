import Derived.Test.YthfjnfcekeknlaaGreatDoorSu32
import Derived.Test.YthfjnfcekeknlaaGreatDoorSu37
import Derived.Test.YthfjnfcekeknlaaGreatDoorSu38
import Derived.OpenShut
set_option maxHeartbeats 8000000
set_option maxRecDepth 100000
namespace Za
theorem txL_len2:∀l:List Nat,(∀d∈l,d<1000000000)→(txL l).length≤104*l.length+1
 | [],_=>by simp[txL]
 | d :: l,h=>by
  have:=wE (h d (by simp))
  have:=txL_len2 l (fun e he=>h e (by simp[he]))
  rw[txL]
  simp only[List.length_append,List.length_cons,List.length_nil]
  omega
end Za
namespace Go.Proofs.YthfjnfcekeknlaaGreatDoor
open Go.RowKit
theorem L0 (w:World) (l:List Nat) (o:Option Addr) (c:Nat) (hr:nU w o (l.map fun(n:Nat)=>(n:Int))) (hd:∀d∈l,d<1000000000) (hl:l.length≤1000):
 Calls Tryz.prog 16 #[.slice o l.length c] w fun e w'=>e= .returned (.string ⟨(Za.txL l).toArray⟩)∧Below w.heap.size w w':=by
 have HR:=af hr
 have HD:=af hd
 clear hr hd
 have HST:=af (show∃j:Nat,l.length=j∧(Value.int .i64 ((l.length:Int) - 1))= .int .i64 ((j:Int) - 1)∧(Value.string ⟨#[110]⟩)= .string ⟨(Za.txL (l.drop j)).toArray⟩∧j≤l.length∧Below w.heap.size w w from ⟨l.length,rfl,rfl,by rw[List.drop_length];rfl,Nat.le_refl _,Below.refl _ _⟩)
 go_enter Tryz.func16,Tryz.ntmps16
 go_wp2_with fail
 go_loopg [3,4] l.length (fun k sv iv wr=>∃j:Nat,k=j∧iv= .int .i64 ((j:Int) - 1)∧sv= .string ⟨(Za.txL (l.drop j)).toArray⟩∧j≤l.length∧Below w.heap.size w wr)
 case atStart=>exact ae HST
 case round=>
  clear HST
  obtain⟨j,hkj,rfl,rfl,QB,aO⟩:=hrel
  have aT:=af hkj
  clear hkj
  have bT:=af aO
  have zb:=aO.size
  by_cases h0:j=0
  ·subst h0
   rw[List.drop_zero]
   generalize hX:Za.txL l=X at*
   have HX:=af hX
   clear aO hX
   have t1:decide ((0:Int)≤((0:Nat):Int) - 1)=false:=by decide
   go_wp2_with fail
   go_ret
   exact⟨by rw[ae HX];rfl,ae bT⟩
  ·obtain⟨i,rfl⟩:∃i,j=i+1:=⟨j - 1,by omega⟩
   have sk:i<l.length:=by omega
   obtain⟨g,rfl,gz,gc⟩:=ae HR (fun q=>by rw[List.map_eq_nil_iff]at q;rw[q]at sk;simp at sk)
   have f0:wr.cell? ⟨g,i,none⟩=some (.int .i64 (l[i]:Int)):=by
    rw[aO.cell (p:=⟨g,i,none⟩) gz,gc i (by simpa using sk)]
    simp
   have gy:g<wr.heap.size:=by omega
   have e1:((i+1:Nat):Int) - 1=(i:Int):=by omega
   have t1:decide ((0:Int)≤(i:Int))=true:=by simp
   have i0:(0:Int)≤(i:Int):=by omega
   have i1:(i:Int)<(l.length:Int):=by omega
   have ID:=af (decimalK l[i] (ae HD _ (List.getElem_mem sk)) wr)
   have x1:=Za.wE (ae HD _ (List.getElem_mem sk))
   have x2:=Za.txL_len2 (l.drop (i+1)) (fun d hd=>ae HD d (List.mem_of_mem_drop hd))
   rw[List.length_drop]at x2
   have x3:(Za.txL (l.drop (i+1))).length≤1000000:=by omega
   have HT:=af (show Za.txL (l.drop i)=[99,40]++Za.ir l[i]++[44]++Za.txL (l.drop (i+1))++[41]by rw[List.drop_eq_getElem_cons sk,Za.txL])
   rw[e1]
   generalize Za.txL (l.drop (i+1))=X at*
   generalize Za.ir l[i]=Y at*
   generalize (l[i]:Int)=y at*
   clear aO gc x2 e1
   go_wp2_with fail
   refine(ae ID).mono ?_
   rintro e w5 ⟨rfl,bF⟩
   have bO:=af ((ae bT).trans (bF.mono zb))
   clear bF
   go_wp2_with fail
   go_roundg (gk - 1)
   case measure=>have:=ae aT;omega
   case rel=>exact⟨i,by have:=ae aT;omega,by go_num,by rw[ae HT,←fJ,←fJ,←fJ,←fJ],by omega,ae bO⟩
theorem RH (w:World) (xs:List Int) (z:Int) (o:Option Addr) (c:Nat) (hr:nU w o xs) (hl:xs.length≤1000000):
 Calls Tryz.prog 20 #[.slice o xs.length c,.int .i64 z] w fun e w'=>e= .returned (.int .i64 (xs.count z:Int))∧Below w.heap.size w w':=by
 have HR:=af hr
 clear hr
 go_enter Tryz.func20,Tryz.ntmps20
 go_wp2_with fail
 go_loopg [5,6] xs.length (fun k cv iv wr=>∃j:Nat,k+j=xs.length∧iv= .int .i64 (j:Int)∧cv= .int .i64 ((xs.take j).count z:Int)∧Below w.heap.size w wr)
 case atStart=>exact⟨0,by omega,rfl,by simp,Below.refl _ _⟩
 case round=>
  obtain⟨j,hkj,rfl,rfl,aO⟩:=hrel
  have bT:=af aO
  have zb:=aO.size
  have gf:(xs.take j).count z≤j:=Nat.le_trans List.count_le_length (by rw[List.length_take];omega)
  by_cases hlt:j<xs.length
  ·obtain⟨g,rfl,gz,gc⟩:=ae HR (fun q=>by rw[q]at hlt;simp at hlt)
   have f0:wr.cell? ⟨g,j,none⟩=some (.int .i64 xs[j]):=(aO.cell (p:=⟨g,j,none⟩) gz).trans (gc j hlt)
   have gy:g<wr.heap.size:=by omega
   have i0:(0:Int)≤(j:Int):=by omega
   have i1:(j:Int)<(xs.length:Int):=by omega
   have i2:j≤1000000:=by omega
   have HT:=af (show (xs.take (j+1)).count z=(xs.take j).count z+(if xs[j]=z then 1 else 0)by
    rw[List.take_succ_eq_append_getElem hlt,List.count_append,List.count_singleton]
    by_cases q:xs[j]=z<;>simp[q])
   have aT:=af hkj
   generalize (xs.take j).count z=C at*
   by_cases q:xs[j]=z
   ·rw[if_pos q]at HT
    have t1:(xs[j] == z)=true:=by simpa using q
    generalize xs[j]=x at*
    clear aO gc q hkj
    go_wp2_with fail
    go_roundg (gk - 1)
    case measure=>have:=ae aT;omega
    case rel=>exact⟨j+1,by have:=ae aT;omega,by go_num,by rw[ae HT];go_num,ae bT⟩
   ·rw[if_neg q]at HT
    have t1:(xs[j] == z)=false:=by simpa using q
    generalize xs[j]=x at*
    clear aO gc q hkj
    go_wp2_with fail
    go_roundg (gk - 1)
    case measure=>have:=ae aT;omega
    case rel=>exact⟨j+1,by have:=ae aT;omega,by go_num,by rw[ae HT];rfl,ae bT⟩
  ·obtain rfl:j=xs.length:=by omega
   rw[List.take_length]at gf⊢
   clear aO hkj
   go_wp2_with fail
   go_ret
   exact⟨rfl,ae bT⟩
theorem RI (w:World) (xs:List ByteArray) (oa ob:Option Addr) (ca cb:Nat) (ha:nV w oa xs) (hb:nV w ob xs) (hl:xs.length≤1000000):
 Calls Tryz.prog 29 #[.slice oa xs.length ca,.slice ob xs.length cb] w fun e w'=>e= .returned (.bool true)∧Below w.heap.size w w':=by
 have HA:=af ha
 have HB:=af hb
 clear ha hb
 go_enter Tryz.func29,Tryz.ntmps29
 go_wp2_with fail
 go_loopg [5] xs.length (fun k iv wr=>∃j:Nat,k+j=xs.length∧iv= .int .i64 (j:Int)∧Below w.heap.size w wr)
 case atStart=>exact⟨0,by omega,rfl,Below.refl _ _⟩
 case round=>
  obtain⟨j,hkj,rfl,aO⟩:=hrel
  have bT:=af aO
  have zz:=aO.size
  by_cases hlt:j<xs.length
  ·obtain⟨g,rfl,gz,ga⟩:=ae HA (fun q=>by rw[q]at hlt;simp at hlt)
   obtain⟨g2,rfl,gz2,gb⟩:=ae HB (fun q=>by rw[q]at hlt;simp at hlt)
   have f0:wr.cell? ⟨g,j,none⟩=some (.string xs[j]):=(aO.cell (p:=⟨g,j,none⟩) gz).trans (ga j hlt)
   have f1:wr.cell? ⟨g2,j,none⟩=some (.string xs[j]):=(aO.cell (p:=⟨g2,j,none⟩) gz2).trans (gb j hlt)
   have i0:(0:Int)≤(j:Int):=by omega
   have i1:(j:Int)<(xs.length:Int):=by omega
   have gy:g<wr.heap.size:=by omega
   have gy2:g2<wr.heap.size:=by omega
   generalize xs[j]=x at*
   clear aO ga gb
   go_wp2_with fail
   go_big_region
   go_wp2_with fail
   go_roundg (gk - 1)
   case measure=>omega
   case rel=>exact⟨j+1,by omega,by go_num,(ae bT).drew⟩
  ·obtain rfl:j=xs.length:=by omega
   clear aO
   go_wp2_with fail
   go_ret
   exact⟨rfl,ae bT⟩
theorem S6 (w:World) (xs:List ByteArray) (lo:Option Addr) (ln lc:Nat) (xo:Option Addr) (xc:Nat) (go:Option Addr) (gc:Nat) (yo:Option Addr) (yc:Nat) (vo:Option Addr) (vc:Nat) (ha:nV w xo xs) (hb:nV w vo xs) (hl:xs.length≤1000000):
 Calls Tryz.prog 18 #[.agg #[.int .i64 1,.slice lo ln lc,.slice xo xs.length xc,.slice go 0 gc,.slice yo 0 yc],.int .i64 0,.slice vo xs.length vc] w fun e w'=>e= .returned (.bool true)∧Below w.heap.size w w':=by
 have hb0:=(Below.refl w.heap.size w).alloc (Nat.le_refl _) (.cells #[.int .i64 1,.slice lo ln lc,.slice xo xs.length xc,.slice go 0 gc,.slice yo 0 yc] 32)
 have IS:=af (RI _ xs xo vo xc vc (ha.below hb0) (hb.below hb0) hl)
 have aY:=af hb0
 have Ju:=af (heap_alloc_new w (.cells #[.int .i64 1,.slice lo ln lc,.slice xo xs.length xc,.slice go 0 gc,.slice yo 0 yc] 32))
 generalize xs.length=nx at*
 clear hb0 ha hb
 go_enter Tryz.func18,Tryz.ntmps18
 go_wp2_with fail
 refine(ae IS).mono ?_
 rintro e w2 ⟨rfl,hb2⟩
 have hz2:=(hb2.block w.heap.size (by simp)).trans (ae Ju)
 have f0:=ah hz2 0
 have f3:=ah hz2 3
 have f4:=ah hz2 4
 simp only[List.getElem?_toArray,List.getElem?_cons_zero,List.getElem?_cons_succ]at f0 f3 f4
 have wz:w.heap.size<w2.heap.size:=ag hz2
 have bf:=af ((ae aY).trans (hb2.mono (ae aY).size))
 clear hb2 hz2 IS Ju
 go_wp2_with fail
 go_ret
 exact⟨rfl,ae bf⟩
def uW (W:World) (a0:Option Addr) (len cap:Nat):Prop:=∃script:List (Int×Int),script.length=len∧len≤cap∧cap≤maxLen∧qE W a0 script∧∀p∈script,(-9223372036854775808≤p.1∧p.1≤9223372036854775807)∧(-9223372036854775808≤p.2∧p.2≤9223372036854775807)
theorem qE.below {w w':World} {so:Option Addr} {script:List (Int×Int)} (h:qE w so script) (hb:Below w.heap.size w w'):qE w' so script:=fun q=>by
 obtain⟨g,off,h1,h2,h3⟩:=h q
 refine⟨g,off,h1,Nat.lt_of_lt_of_le h2 hb.size,fun i hi=> ?_⟩
 obtain⟨e1,e2⟩:=h3 i hi
 exact⟨(hb.cell (p:=⟨g,off+i*2,none⟩) h2).trans e1,(hb.cell (p:=⟨g,off+i*2+1,none⟩) h2).trans e2⟩
theorem uW.below {w w':World} {so:Option Addr} {len cap:Nat} (h:uW w so len cap) (hb:Below w.heap.size w w'):uW w' so len cap:=by
 obtain⟨script,h1,h2,h3,h4,h5⟩:=h
 exact⟨script,h1,h2,h3,h4.below hb,h5⟩
def zQ (p:Int×Int):List Value:=[.int .i64 p.1,.int .i64 p.2]
theorem infoPk:(Tryz.prog.info? 62).map (fun i=>(i.zero,i.size,i.bytes))=some (some (.agg #[.int .i64 0,.int .i64 0]),2,16):=by kernel_rfl
def RJ (p:Int×Int):Prop:=(-9223372036854775808≤p.1∧p.1≤9223372036854775807)∧(-9223372036854775808≤p.2∧p.2≤9223372036854775807)
def XQ (w:World) (n k:Nat) (av iv:Value) (wr:World):Prop:=∃S:List (Int×Int),k+S.length=n∧iv= .int .i64 (S.length:Int)∧(∀p∈S,RJ p)∧wr.ownsRow w.heap.size 62 2 av S.length (S.flatMap zQ)∧Below w.heap.size w wr
theorem uX (W:World) (o:Obj) (a b:Value) (T:TypeId):∀j u,([a,b]:List Value)[j]?=some u→((W.alloc o).alloc (.cells #[a,b] T)).cell? ((⟨W.heap.size+1,0,none⟩:Addr).add j)=some u:=by
 intro j u hj
 match j,hj with
 | 0,hj=>simp at hj;subst hj;simp[Addr.add]
 | 1,hj=>simp at hj;subst hj;simp[Addr.add]
theorem Ey (a b:Int):∀u∈([.int .i64 a,.int .i64 b]:List Value),u.oneCell'=true:=by
 intro u hu;simp at hu;rcases hu with rfl | rfl<;>rfl
theorem Ok (x y:Int): -9223372036854775808≤bits .xor .i64 x y∧bits .xor .i64 x y≤9223372036854775807:=by
 have:=wf_bits .xor .i64 x y
 simp only[Lit.wf,Bool.and_eq_true,decide_eq_true_eq]at this
 exact this
theorem Ol (S:List (Int×Int)):∀(i:Nat) (h:i<S.length),(S.flatMap zQ)[i*2]?=some (.int .i64 S[i].1)∧(S.flatMap zQ)[i*2+1]?=some (.int .i64 S[i].2):=by
 induction S with
 | nil=>intro i h;simp at h
 | cons p S ih=>
  intro i h
  match i with
  | 0=>exact⟨rfl,rfl⟩
  | i+1=>
   have:=ih i (by simpa using h)
   rw[show (i+1)*2=i*2+2 by omega]
   exact this
theorem Om {w:World} {b:Nat} {T:TypeId} {o:Option Addr} {c:Nat} {S:List (Int×Int)} (h:w.ownsRow b T 2 (.slice o S.length c) S.length (S.flatMap zQ)):qE w o S:=fun q=>by
 rcases h.2 with⟨q1,q0⟩ | ⟨g,cp,cur,q1,_⟩
 ·exact absurd (List.length_eq_zero_iff.1 q0) q
 ·simp only[Value.slice.injEq]at q1
  have hg:=q1.1
  subst hg
  refine⟨g,0,rfl,(h.lt g rfl).2,fun i hi=> ?_⟩
  obtain⟨e1,e2⟩:=Ol S i hi
  rw[Nat.zero_add]
  exact⟨(h.cellAt (i*2) (by omega)).trans e1,(h.cellAt (i*2+1) (by omega)).trans e2⟩
theorem Gh (w:World) (o:Option Addr) (len cap n:Nat) (h:uW w o len cap) (hn:n≤100):
 Calls Tryz.prog 23 #[.slice o len cap,.int .i64 (n:Int)] w fun e w'=>∃(S:List (Int×Int)) (oo:Option Addr) (cc:Nat),e= .returned (.slice oo S.length cc)∧S.length=n∧(∀p∈S,RJ p)∧qE w' oo S∧Below w.heap.size w w':=by
 obtain⟨tj,hj,iM,iN,iO⟩:=info_parts infoPk
 obtain⟨script,ly,hlc,hcm,hsc,kP⟩:=h
 have o7:len≤9223372036854775807:=by unfold maxLen at hcm;omega
 have vD:=af ly
 have RM:=af hsc
 have zh:=af kP
 clear ly hsc kP hlc hcm
 go_enter Tryz.func23,Tryz.ntmps23
 go_wp2_with fail
 go_loopg [5,6] n (fun k av iv wr=>XQ w n k av iv wr)
 case atStart=>exact⟨[],by simp,rfl,(fun d hd=>by cases hd),by simpa using World.ownsRow_nil _ _ _ _,Below.refl _ _⟩
 case round=>
  obtain⟨S,hkj,rfl,hd,how,aO⟩:=hrel
  obtain⟨oo,oc,rfl⟩:=gG how
  generalize hj':S.length=j at*
  have HJ:=af hj'
  have HW:=af how
  have bT:=af aO
  have aT:=af hkj
  have HD:=af hd
  have zb:=aO.size
  by_cases hlt:j<n
  ·have t1:decide ((j:Int)<(n:Int))=true:=by simp;omega
   have t2:decide (j<n)=true:=by simpa using hlt
   have j100:j≤100:=by omega
   have bh:=af hlt
   by_cases h0:0<len
   ·have u1:decide ((0:Int)<(len:Int))=true:=by simp;omega
    have u2:decide (0<len)=true:=by simpa using h0
    obtain⟨g,off,rfl,gz,gc⟩:=ae RM (fun q=>by have:=ae vD;rw[q]at this;simp at this;omega)
    have M5:j % len<script.length:=by rw[ae vD];exact Nat.mod_lt _ h0
    obtain⟨c1,c2⟩:=gc (j % len) M5
    have f1:=(aO.cell (p:=⟨g,off+j % len*2,none⟩) gz).trans c1
    have f2:=(aO.cell (p:=⟨g,off+j % len*2+1,none⟩) gz).trans c2
    have gz':g<wr.heap.size:=Nat.lt_of_lt_of_le gz zb
    have HR:=af (ae zh _ (List.getElem_mem M5))
    have i0:(0:Int)≤(j:Int) % (len:Int):=Int.emod_nonneg _ (by omega)
    have i1:(j:Int) % (len:Int)<(len:Int):=Int.emod_lt_of_pos _ (by omega)
    have e1:((j:Int) % (len:Int)).toNat=j % len:=by omega
    generalize script[j % len]=q at*
    obtain⟨q1,q2⟩:=q
    dsimp only at f1 f2 HR
    clear how aO hkj hlt hd hj' gc c1 c2
    go_wp2_with fail
    go_region
    have HX:=af (Ok q1 (wrap64 ((j:Int) / (len:Int))))
    generalize bits .xor .i64 q1 (wrap64 ((j:Int) / (len:Int)))=xx at*
    go_wp2_with (at_builtin;go_must (refine wpList_append_own_at _ rfl (.tmp 33) (.tmp 35) 26 rfl w.heap.size 62 tj (.agg #[.int .i64 0,.int .i64 0]) 2 16 Tryz.underlying26 hj iM iN iO rfl (by decide) _ j (S.flatMap zQ) rfl (by first | exact(((ae HW).alloc _).alloc _) | exact(((ae HW).alloc _).alloc _).drew) ⟨wr.heap.size+1,0,none⟩ 1 1 [.int .i64 xx,.int .i64 q2] rfl rfl (by first | exact uX _ _ _ _ _ | (intro a b c;rw[World.cell?_drew];exact uX _ _ _ _ _ a b c)) (Ey _ _) (by unfold maxLen;omega) (by omega) (by simp;omega) ?_;intro v9 w9 h1 h2 _ _;have I':=af h1;have jL:=af ((show Below w.heap.size w _ from by first | exact(((ae bT).alloc zb _).alloc (by simp;omega) _) | exact(((ae bT).alloc zb _).alloc (by simp;omega) _).drew).grown h2 (by simp;omega) (fun k r=>((ae HW).lt k r).1));clear h1 h2))
    go_roundg (gk - 1)
    case measure=>have:=ae aT;have:=ae bh;omega
    case rel=>
     refine⟨S++[(xx,q2)],by have:=ae aT;have:=ae bh;have:=ae HJ;simp;omega,by rw[List.length_append,ae HJ];go_num,fun d hd=> ?_,?_,ae jL⟩
     ·rcases List.mem_append.1 hd with hd | hd
      ·exact ae HD d hd
      ·rw[List.mem_singleton.1 hd];exact⟨ae HX,(ae HR).2⟩
     ·have:=ae I'
      rw[List.length_append,ae HJ,List.flatMap_append]
      simpa [zQ] using this
   ·have u1:decide ((0:Int)<(len:Int))=false:=by simp;omega
    have u2:decide (0<len)=false:=by simpa using h0
    clear how aO hkj hlt hd hj'
    go_wp2_with (at_builtin;go_must (refine wpList_append_own_at _ rfl (.tmp 33) (.tmp 35) 26 rfl w.heap.size 62 tj (.agg #[.int .i64 0,.int .i64 0]) 2 16 Tryz.underlying26 hj iM iN iO rfl (by decide) _ j (S.flatMap zQ) rfl (by first | exact(((ae HW).alloc _).alloc _) | exact(((ae HW).alloc _).alloc _).drew) ⟨wr.heap.size+1,0,none⟩ 1 1 [.int .i64 (j:Int),.int .i64 0] rfl rfl (by first | exact uX _ _ _ _ _ | (intro a b c;rw[World.cell?_drew];exact uX _ _ _ _ _ a b c)) (Ey _ _) (by unfold maxLen;omega) (by omega) (by simp;omega) ?_;intro v9 w9 h1 h2 _ _;have I':=af h1;have jL:=af ((show Below w.heap.size w _ from by first | exact(((ae bT).alloc zb _).alloc (by simp;omega) _) | exact(((ae bT).alloc zb _).alloc (by simp;omega) _).drew).grown h2 (by simp;omega) (fun k r=>((ae HW).lt k r).1));clear h1 h2))
    go_roundg (gk - 1)
    case measure=>have:=ae aT;have:=ae bh;omega
    case rel=>
     refine⟨S++[((j:Int),0)],by have:=ae aT;have:=ae bh;have:=ae HJ;simp;omega,by rw[List.length_append,ae HJ];go_num,fun d hd=> ?_,?_,ae jL⟩
     ·rcases List.mem_append.1 hd with hd | hd
      ·exact ae HD d hd
      ·rw[List.mem_singleton.1 hd];exact⟨⟨by show (-9223372036854775808:Int)≤(j:Int);omega,by show (j:Int)≤9223372036854775807;omega⟩,by show (-9223372036854775808:Int)≤0;omega,by show (0:Int)≤9223372036854775807;omega⟩
     ·have:=ae I'
      rw[List.length_append,ae HJ,List.flatMap_append]
      simpa [zQ] using this
  ·have t1:decide ((j:Int)<(n:Int))=false:=by simp;omega
   have t2:decide (j<n)=false:=by simpa using hlt
   have UH:j=n:=by omega
   have XR:=af UH
   clear how aO hkj hlt hd hj' UH
   go_wp2_with fail
   go_ret
   refine⟨S,oo,oc,by rw[ae HJ];rfl,by rw[ae HJ];exact ae XR,ae HD,?_,ae bT⟩
   have:=ae HW
   rw[←ae HJ]at this
   exact Om this
end Go.Proofs.YthfjnfcekeknlaaGreatDoor
