import Derived.Test.YthfjnfcekeknlaaGreatDoorSt28
import Derived.Test.YthfjnfcekeknlaaGreatDoorSt31
import Derived.Test.YthfjnfcekeknlaaGreatDoorSt32
import Derived.OpenShut
set_option maxHeartbeats 8000000
set_option maxRecDepth 100000
namespace Za
theorem txL_len2:∀l:List Nat,(∀d∈l,d<1000000000)→(txL l).length≤104*l.length+1
 | [],_=>by simp[txL]
 | d :: l,h=>by
  have:=vQ (h d (by simp))
  have:=txL_len2 l (fun e he=>h e (by simp[he]))
  rw[txL]
  simp only[List.length_append,List.length_cons,List.length_nil]
  omega
end Za
namespace Go.Proofs.YthfjnfcekeknlaaGreatDoor
open Go.RowKit
theorem Sk (w:World) (xs:List Int) (z:Int) (o:Option Addr) (c:Nat) (hr:vR w o xs) (hl:xs.length≤1000000):
 Calls Tryz.prog 20 #[.slice o xs.length c,.int .i64 z] w fun e w'=>e= .returned (.int .i64 (xs.count z:Int))∧Below w.heap.size w w':=by
 have HR:=hide hr
 clear hr
 go_enter Tryz.func20,Tryz.ntmps20
 go_wp2_with fail
 go_loopg [5,6] xs.length (fun k cv iv wr=>∃j:Nat,k+j=xs.length∧iv= .int .i64 (j:Int)∧cv= .int .i64 ((xs.take j).count z:Int)∧Below w.heap.size w wr)
 case atStart=>exact⟨0,by omega,rfl,by simp,Below.refl _ _⟩
 case round=>
  obtain⟨j,hkj,rfl,rfl,aM⟩:=hrel
  have bJ:=hide aM
  have zb:=aM.size
  have hcl:(xs.take j).count z≤j:=Nat.le_trans List.count_le_length (by rw[List.length_take];omega)
  by_cases hlt:j<xs.length
  ·obtain⟨g,rfl,gz,gc⟩:=ae HR (fun q=>by rw[q]at hlt;simp at hlt)
   have f0:wr.cell? ⟨g,j,none⟩=some (.int .i64 xs[j]):=(aM.cell (p:=⟨g,j,none⟩) gz).trans (gc j hlt)
   have gy:g<wr.heap.size:=by omega
   have i0:(0:Int)≤(j:Int):=by omega
   have i1:(j:Int)<(xs.length:Int):=by omega
   have i2:j≤1000000:=by omega
   have HT:=hide (show (xs.take (j+1)).count z=(xs.take j).count z+(if xs[j]=z then 1 else 0)by
    rw[List.take_succ_eq_append_getElem hlt,List.count_append,List.count_singleton]
    by_cases q:xs[j]=z<;>simp[q])
   have aP:=hide hkj
   generalize (xs.take j).count z=C at*
   by_cases q:xs[j]=z
   ·rw[if_pos q]at HT
    have t1:(xs[j] == z)=true:=by simpa using q
    generalize xs[j]=x at*
    clear aM gc q hkj
    go_wp2_with fail
    go_roundg (gk - 1)
    case measure=>have:=ae aP;omega
    case rel=>exact⟨j+1,by have:=ae aP;omega,by go_num,by rw[ae HT];go_num,ae bJ⟩
   ·rw[if_neg q]at HT
    have t1:(xs[j] == z)=false:=by simpa using q
    generalize xs[j]=x at*
    clear aM gc q hkj
    go_wp2_with fail
    go_roundg (gk - 1)
    case measure=>have:=ae aP;omega
    case rel=>exact⟨j+1,by have:=ae aP;omega,by go_num,by rw[ae HT];rfl,ae bJ⟩
  ·obtain rfl:j=xs.length:=by omega
   rw[List.take_length]at hcl⊢
   clear aM hkj
   go_wp2_with fail
   go_ret
   exact⟨rfl,ae bJ⟩
theorem Sl (w:World) (xs:List ByteArray) (oa ob:Option Addr) (ca cb:Nat) (ha:o7 w oa xs) (hb:o7 w ob xs) (hl:xs.length≤1000000):
 Calls Tryz.prog 29 #[.slice oa xs.length ca,.slice ob xs.length cb] w fun e w'=>e= .returned (.bool true)∧Below w.heap.size w w':=by
 have HA:=hide ha
 have HB:=hide hb
 clear ha hb
 go_enter Tryz.func29,Tryz.ntmps29
 go_wp2_with fail
 go_loopg [5] xs.length (fun k iv wr=>∃j:Nat,k+j=xs.length∧iv= .int .i64 (j:Int)∧Below w.heap.size w wr)
 case atStart=>exact⟨0,by omega,rfl,Below.refl _ _⟩
 case round=>
  obtain⟨j,hkj,rfl,aM⟩:=hrel
  have bJ:=hide aM
  have zz:=aM.size
  by_cases hlt:j<xs.length
  ·obtain⟨g,rfl,gz,ga⟩:=ae HA (fun q=>by rw[q]at hlt;simp at hlt)
   obtain⟨g2,rfl,gz2,gb⟩:=ae HB (fun q=>by rw[q]at hlt;simp at hlt)
   have f0:wr.cell? ⟨g,j,none⟩=some (.string xs[j]):=(aM.cell (p:=⟨g,j,none⟩) gz).trans (ga j hlt)
   have f1:wr.cell? ⟨g2,j,none⟩=some (.string xs[j]):=(aM.cell (p:=⟨g2,j,none⟩) gz2).trans (gb j hlt)
   have i0:(0:Int)≤(j:Int):=by omega
   have i1:(j:Int)<(xs.length:Int):=by omega
   have gy:g<wr.heap.size:=by omega
   have gy2:g2<wr.heap.size:=by omega
   generalize xs[j]=x at*
   clear aM ga gb
   go_wp2_with fail
   go_big_region
   go_wp2_with fail
   go_roundg (gk - 1)
   case measure=>omega
   case rel=>exact⟨j+1,by omega,by go_num,(ae bJ).drew⟩
  ·obtain rfl:j=xs.length:=by omega
   clear aM
   go_wp2_with fail
   go_ret
   exact⟨rfl,ae bJ⟩
theorem Ti (w:World) (xs:List ByteArray) (lo:Option Addr) (ln lc:Nat) (xo:Option Addr) (xc:Nat) (go:Option Addr) (gc:Nat) (yo:Option Addr) (yc:Nat) (vo:Option Addr) (vc:Nat) (ha:o7 w xo xs) (hb:o7 w vo xs) (hl:xs.length≤1000000):
 Calls Tryz.prog 18 #[.agg #[.int .i64 1,.slice lo ln lc,.slice xo xs.length xc,.slice go 0 gc,.slice yo 0 yc],.int .i64 0,.slice vo xs.length vc] w fun e w'=>e= .returned (.bool true)∧Below w.heap.size w w':=by
 have hb0:=(Below.refl w.heap.size w).alloc (Nat.le_refl _) (.cells #[.int .i64 1,.slice lo ln lc,.slice xo xs.length xc,.slice go 0 gc,.slice yo 0 yc] 32)
 have IS:=hide (Sl _ xs xo vo xc vc (ha.below hb0) (hb.below hb0) hl)
 have aT:=hide hb0
 have Jo:=hide (heap_alloc_new w (.cells #[.int .i64 1,.slice lo ln lc,.slice xo xs.length xc,.slice go 0 gc,.slice yo 0 yc] 32))
 generalize xs.length=nx at*
 clear hb0 ha hb
 go_enter Tryz.func18,Tryz.ntmps18
 go_wp2_with fail
 refine(ae IS).mono ?_
 rintro e w2 ⟨rfl,hb2⟩
 have hz2:=(hb2.block w.heap.size (by simp)).trans (ae Jo)
 have f0:=ag hz2 0
 have f3:=ag hz2 3
 have f4:=ag hz2 4
 simp only[List.getElem?_toArray,List.getElem?_cons_zero,List.getElem?_cons_succ]at f0 f3 f4
 have wz:w.heap.size<w2.heap.size:=af hz2
 have aX:=hide ((ae aT).trans (hb2.mono (ae aT).size))
 clear hb2 hz2 IS Jo
 go_wp2_with fail
 go_ret
 exact⟨rfl,ae aX⟩
def uu (W:World) (a0:Option Addr) (len cap:Nat):Prop:=∃script:List (Int×Int),script.length=len∧len≤cap∧cap≤maxLen∧pn W a0 script∧∀p∈script,(-9223372036854775808≤p.1∧p.1≤9223372036854775807)∧(-9223372036854775808≤p.2∧p.2≤9223372036854775807)
theorem pn.below {w w':World} {so:Option Addr} {script:List (Int×Int)} (h:pn w so script) (hb:Below w.heap.size w w'):pn w' so script:=fun q=>by
 obtain⟨g,off,h1,h2,h3⟩:=h q
 refine⟨g,off,h1,Nat.lt_of_lt_of_le h2 hb.size,fun i hi=> ?_⟩
 obtain⟨e1,e2⟩:=h3 i hi
 exact⟨(hb.cell (p:=⟨g,off+i*2,none⟩) h2).trans e1,(hb.cell (p:=⟨g,off+i*2+1,none⟩) h2).trans e2⟩
theorem uu.below {w w':World} {so:Option Addr} {len cap:Nat} (h:uu w so len cap) (hb:Below w.heap.size w w'):uu w' so len cap:=by
 obtain⟨script,h1,h2,h3,h4,h5⟩:=h
 exact⟨script,h1,h2,h3,h4.below hb,h5⟩
def zT (p:Int×Int):List Value:=[.int .i64 p.1,.int .i64 p.2]
theorem infoPk:(Tryz.prog.info? 62).map (fun i=>(i.zero,i.size,i.bytes))=some (some (.agg #[.int .i64 0,.int .i64 0]),2,16):=by kernel_rfl
def Nr (p:Int×Int):Prop:=(-9223372036854775808≤p.1∧p.1≤9223372036854775807)∧(-9223372036854775808≤p.2∧p.2≤9223372036854775807)
def XQ (w:World) (n k:Nat) (av iv:Value) (wr:World):Prop:=∃S:List (Int×Int),k+S.length=n∧iv= .int .i64 (S.length:Int)∧(∀p∈S,Nr p)∧wr.ownsRow w.heap.size 62 2 av S.length (S.flatMap zT)∧Below w.heap.size w wr
theorem uv (W:World) (o:Obj) (a b:Value) (T:TypeId):∀j u,([a,b]:List Value)[j]?=some u→((W.alloc o).alloc (.cells #[a,b] T)).cell? ((⟨W.heap.size+1,0,none⟩:Addr).add j)=some u:=by
 intro j u hj
 match j,hj with
 | 0,hj=>simp at hj;subst hj;simp[Addr.add]
 | 1,hj=>simp at hj;subst hj;simp[Addr.add]
theorem Et (a b:Int):∀u∈([.int .i64 a,.int .i64 b]:List Value),u.oneCell'=true:=by
 intro u hu;simp at hu;rcases hu with rfl | rfl<;>rfl
theorem OU (x y:Int): -9223372036854775808≤bits .xor .i64 x y∧bits .xor .i64 x y≤9223372036854775807:=by
 have:=wf_bits .xor .i64 x y
 simp only[Lit.wf,Bool.and_eq_true,decide_eq_true_eq]at this
 exact this
theorem OV (S:List (Int×Int)):∀(i:Nat) (h:i<S.length),(S.flatMap zT)[i*2]?=some (.int .i64 S[i].1)∧(S.flatMap zT)[i*2+1]?=some (.int .i64 S[i].2):=by
 induction S with
 | nil=>intro i h;simp at h
 | cons p S ih=>
  intro i h
  match i with
  | 0=>exact⟨rfl,rfl⟩
  | i+1=>
   have:=ih i (by simpa using h)
   rw[show (i+1)*2=i*2+2 by omega]
   exact this
theorem OW {w:World} {b:Nat} {T:TypeId} {o:Option Addr} {c:Nat} {S:List (Int×Int)} (h:w.ownsRow b T 2 (.slice o S.length c) S.length (S.flatMap zT)):pn w o S:=fun q=>by
 rcases h.2 with⟨q1,q0⟩ | ⟨g,cp,cur,q1,_⟩
 ·exact absurd (List.length_eq_zero_iff.1 q0) q
 ·simp only[Value.slice.injEq]at q1
  have hg:=q1.1
  subst hg
  refine⟨g,0,rfl,(h.lt g rfl).2,fun i hi=> ?_⟩
  obtain⟨e1,e2⟩:=OV S i hi
  rw[Nat.zero_add]
  exact⟨(h.cellAt (i*2) (by omega)).trans e1,(h.cellAt (i*2+1) (by omega)).trans e2⟩
theorem Gc (w:World) (o:Option Addr) (len cap n:Nat) (h:uu w o len cap) (hn:n≤100):
 Calls Tryz.prog 23 #[.slice o len cap,.int .i64 (n:Int)] w fun e w'=>∃(S:List (Int×Int)) (oo:Option Addr) (cc:Nat),e= .returned (.slice oo S.length cc)∧S.length=n∧(∀p∈S,Nr p)∧pn w' oo S∧Below w.heap.size w w':=by
 obtain⟨tj,hj,hy0,hy1,hy2⟩:=info_parts infoPk
 obtain⟨script,hsl,hlc,hcm,hsc,kA⟩:=h
 have hnn:len≤9223372036854775807:=by unfold maxLen at hcm;omega
 have uO:=hide hsl
 have Sd:=hide hsc
 have zj:=hide kA
 clear hsl hsc kA hlc hcm
 go_enter Tryz.func23,Tryz.ntmps23
 go_wp2_with fail
 go_loopg [5,6] n (fun k av iv wr=>XQ w n k av iv wr)
 case atStart=>exact⟨[],by simp,rfl,(fun d hd=>by cases hd),by simpa using World.ownsRow_nil _ _ _ _,Below.refl _ _⟩
 case round=>
  obtain⟨S,hkj,rfl,hd,how,aM⟩:=hrel
  obtain⟨oo,oc,rfl⟩:=eP how
  generalize hj':S.length=j at*
  have HJ:=hide hj'
  have HW:=hide how
  have bJ:=hide aM
  have aP:=hide hkj
  have HD:=hide hd
  have zb:=aM.size
  by_cases hlt:j<n
  ·have t1:decide ((j:Int)<(n:Int))=true:=by simp;omega
   have t2:decide (j<n)=true:=by simpa using hlt
   have j100:j≤100:=by omega
   have aY:=hide hlt
   by_cases h0:0<len
   ·have u1:decide ((0:Int)<(len:Int))=true:=by simp;omega
    have u2:decide (0<len)=true:=by simpa using h0
    obtain⟨g,off,rfl,gz,gc⟩:=ae Sd (fun q=>by have:=ae uO;rw[q]at this;simp at this;omega)
    have Ns:j % len<script.length:=by rw[ae uO];exact Nat.mod_lt _ h0
    obtain⟨c1,c2⟩:=gc (j % len) Ns
    have f1:=(aM.cell (p:=⟨g,off+j % len*2,none⟩) gz).trans c1
    have f2:=(aM.cell (p:=⟨g,off+j % len*2+1,none⟩) gz).trans c2
    have gz':g<wr.heap.size:=Nat.lt_of_lt_of_le gz zb
    have HR:=hide (ae zj _ (List.getElem_mem Ns))
    have i0:(0:Int)≤(j:Int) % (len:Int):=Int.emod_nonneg _ (by omega)
    have i1:(j:Int) % (len:Int)<(len:Int):=Int.emod_lt_of_pos _ (by omega)
    have e1:((j:Int) % (len:Int)).toNat=j % len:=by omega
    generalize script[j % len]=q at*
    obtain⟨q1,q2⟩:=q
    dsimp only at f1 f2 HR
    clear how aM hkj hlt hd hj' gc c1 c2
    go_wp2_with fail
    go_region
    have HX:=hide (OU q1 (wrap64 ((j:Int) / (len:Int))))
    generalize bits .xor .i64 q1 (wrap64 ((j:Int) / (len:Int)))=xx at*
    go_wp2_with (at_builtin;go_must (refine wpList_append_own_at _ rfl (.tmp 33) (.tmp 35) 26 rfl w.heap.size 62 tj (.agg #[.int .i64 0,.int .i64 0]) 2 16 Tryz.underlying26 hj hy0 hy1 hy2 rfl (by decide) _ j (S.flatMap zT) rfl (by first | exact(((ae HW).alloc _).alloc _) | exact(((ae HW).alloc _).alloc _).drew) ⟨wr.heap.size+1,0,none⟩ 1 1 [.int .i64 xx,.int .i64 q2] rfl rfl (by first | exact uv _ _ _ _ _ | (intro a b c;rw[World.cell?_drew];exact uv _ _ _ _ _ a b c)) (Et _ _) (by unfold maxLen;omega) (by omega) (by simp;omega) ?_;intro v9 w9 h1 h2 _ _;have Ck:=hide h1;have pW:=hide ((show Below w.heap.size w _ from by first | exact(((ae bJ).alloc zb _).alloc (by simp;omega) _) | exact(((ae bJ).alloc zb _).alloc (by simp;omega) _).drew).grown h2 (by simp;omega) (fun k r=>((ae HW).lt k r).1));clear h1 h2))
    go_roundg (gk - 1)
    case measure=>have:=ae aP;have:=ae aY;omega
    case rel=>
     refine⟨S++[(xx,q2)],by have:=ae aP;have:=ae aY;have:=ae HJ;simp;omega,by rw[List.length_append,ae HJ];go_num,fun d hd=> ?_,?_,ae pW⟩
     ·rcases List.mem_append.1 hd with hd | hd
      ·exact ae HD d hd
      ·rw[List.mem_singleton.1 hd];exact⟨ae HX,(ae HR).2⟩
     ·have:=ae Ck
      rw[List.length_append,ae HJ,List.flatMap_append]
      simpa [zT] using this
   ·have u1:decide ((0:Int)<(len:Int))=false:=by simp;omega
    have u2:decide (0<len)=false:=by simpa using h0
    clear how aM hkj hlt hd hj'
    go_wp2_with (at_builtin;go_must (refine wpList_append_own_at _ rfl (.tmp 33) (.tmp 35) 26 rfl w.heap.size 62 tj (.agg #[.int .i64 0,.int .i64 0]) 2 16 Tryz.underlying26 hj hy0 hy1 hy2 rfl (by decide) _ j (S.flatMap zT) rfl (by first | exact(((ae HW).alloc _).alloc _) | exact(((ae HW).alloc _).alloc _).drew) ⟨wr.heap.size+1,0,none⟩ 1 1 [.int .i64 (j:Int),.int .i64 0] rfl rfl (by first | exact uv _ _ _ _ _ | (intro a b c;rw[World.cell?_drew];exact uv _ _ _ _ _ a b c)) (Et _ _) (by unfold maxLen;omega) (by omega) (by simp;omega) ?_;intro v9 w9 h1 h2 _ _;have Ck:=hide h1;have pW:=hide ((show Below w.heap.size w _ from by first | exact(((ae bJ).alloc zb _).alloc (by simp;omega) _) | exact(((ae bJ).alloc zb _).alloc (by simp;omega) _).drew).grown h2 (by simp;omega) (fun k r=>((ae HW).lt k r).1));clear h1 h2))
    go_roundg (gk - 1)
    case measure=>have:=ae aP;have:=ae aY;omega
    case rel=>
     refine⟨S++[((j:Int),0)],by have:=ae aP;have:=ae aY;have:=ae HJ;simp;omega,by rw[List.length_append,ae HJ];go_num,fun d hd=> ?_,?_,ae pW⟩
     ·rcases List.mem_append.1 hd with hd | hd
      ·exact ae HD d hd
      ·rw[List.mem_singleton.1 hd];exact⟨⟨by show (-9223372036854775808:Int)≤(j:Int);omega,by show (j:Int)≤9223372036854775807;omega⟩,by show (-9223372036854775808:Int)≤0;omega,by show (0:Int)≤9223372036854775807;omega⟩
     ·have:=ae Ck
      rw[List.length_append,ae HJ,List.flatMap_append]
      simpa [zT] using this
  ·have t1:decide ((j:Int)<(n:Int))=false:=by simp;omega
   have t2:decide (j<n)=false:=by simpa using hlt
   have hjn:j=n:=by omega
   have XR:=hide hjn
   clear how aM hkj hlt hd hj' hjn
   go_wp2_with fail
   go_ret
   refine⟨S,oo,oc,by rw[ae HJ];rfl,by rw[ae HJ];exact ae XR,ae HD,?_,ae bJ⟩
   have:=ae HW
   rw[←ae HJ]at this
   exact OW this
end Go.Proofs.YthfjnfcekeknlaaGreatDoor
