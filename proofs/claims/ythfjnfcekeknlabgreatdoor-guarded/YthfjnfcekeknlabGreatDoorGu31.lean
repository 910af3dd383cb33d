import Derived.Test.YthfjnfcekeknlabGreatDoorGu05
import Derived.Test.YthfjnfcekeknlabGreatDoorGu25
import Derived.Test.YthfjnfcekeknlabGreatDoorGu26
import Derived.Test.YthfjnfcekeknlabGreatDoorGu30
import Derived.Lib.SlBytesRow
import Derived.OpenShut
set_option maxHeartbeats 8000000
set_option maxRecDepth 100000
namespace Go.Proofs.YthfjnfcekeknlabGreatDoor
open Go.RowKit
def xV (c:Int) (n:Nat):Nat:=((if c<0 then -(c+1)else c) % (n:Int)).toNat
theorem JP (c:Int) {n:Nat} (h:0<n):xV c n<n:=by
 unfold xV
 have h1:=Int.emod_nonneg (if c<0 then -(c+1)else c) (b:=(n:Int)) (by omega)
 have h2:=Int.emod_lt_of_pos (if c<0 then -(c+1)else c) (b:=(n:Int)) (by omega)
 omega
theorem N6 (w:World) (c:Int) (n:Nat) (hn:0<n) (hn':n≤1000000000) (h1: -9223372036854775808≤c) (h2:c≤9223372036854775807):
 Calls Tryz.prog 6 #[.int .i64 c,.int .i64 (n:Int)] w fun e w'=>e= .returned (.int .i64 (xV c n:Int))∧w'=w:=by
 by_cases hc:c<0
 ·have t1:decide (c<0)=true:=by simpa using hc
  have q1:=Int.emod_nonneg (-(c+1)) (b:=(n:Int)) (by omega)
  have hp:(xV c n:Int)=(-(c+1)) % (n:Int):=by unfold xV;rw[if_pos hc,Int.toNat_of_nonneg q1]
  rw[hp]
  clear hp q1
  go_enter Tryz.func6,Tryz.ntmps6
  go_wp2_with fail
  go_ret
  refine⟨?_,rfl⟩
  show Ending.returned (.int .i64 (-(c+1).tmod (n:Int)))=_
  rw[←Int.neg_tmod,Int.tmod_eq_emod_of_nonneg (by omega)]
 ·have t1:decide (c<0)=false:=by simpa using hc
  have q1:=Int.emod_nonneg c (b:=(n:Int)) (by omega)
  have hp:(xV c n:Int)=c % (n:Int):=by unfold xV;rw[if_neg hc,Int.toNat_of_nonneg q1]
  rw[hp]
  clear hp q1
  go_enter Tryz.func6,Tryz.ntmps6
  go_wp2_with fail
  go_ret
  exact⟨rfl,rfl⟩
def iX (w:World) (o:Option Addr) (xs:List Int):Prop:=xs≠[]→∃g,o=some ⟨g,0,none⟩∧g<w.heap.size∧∀i (h:i<xs.length),w.cell? ⟨g,i,none⟩=some (.int .i64 xs[i])
theorem iX.below {w w':World} {o:Option Addr} {xs:List Int} (h:iX w o xs) (hb:Below w.heap.size w w'):iX w' o xs:=fun q=>by
 obtain⟨g,h1,h2,h3⟩:=h q
 exact⟨g,h1,Nat.lt_of_lt_of_le h2 hb.size,fun i hi=>(hb.cell (p:=⟨g,i,none⟩) h2).trans (h3 i hi)⟩
theorem iX.jM {w:World} {b:Nat} {T:TypeId} {o:Option Addr} {c:Nat} {ys:List Int} (h:w.ownsRow b T 1 (.slice o ys.length c) ys.length (ys.map fT)):iX w o ys:=fun q=>by
 rcases h.2 with⟨q1,q0⟩ | ⟨g,cp,cur,q1,_⟩
 ·exact absurd (List.length_eq_zero_iff.1 q0) q
 ·simp only[Value.slice.injEq]at q1
  have hg:=q1.1
  subst hg
  refine⟨g,rfl,(h.lt g rfl).2,fun i hi=> ?_⟩
  rw[h.cellAt i (by omega),List.getElem?_map,List.getElem?_eq_getElem hi]
  rfl
def fG (w:World) (o:Option Addr) (xs:List ByteArray):Prop:=xs≠[]→∃g,o=some ⟨g,0,none⟩∧g<w.heap.size∧∀i (h:i<xs.length),w.cell? ⟨g,i,none⟩=some (.string xs[i])
theorem fG.below {w w':World} {o:Option Addr} {xs:List ByteArray} (h:fG w o xs) (hb:Below w.heap.size w w'):fG w' o xs:=fun q=>by
 obtain⟨g,h1,h2,h3⟩:=h q
 exact⟨g,h1,Nat.lt_of_lt_of_le h2 hb.size,fun i hi=>(hb.cell (p:=⟨g,i,none⟩) h2).trans (h3 i hi)⟩
theorem fG.jM {w:World} {b:Nat} {T:TypeId} {o:Option Addr} {c:Nat} {ys:List (List UInt8)} (h:w.ownsRow b T 1 (.slice o ys.length c) ys.length (ys.map fun x=>Value.string ⟨x.toArray⟩)):fG w o (ys.map fun x=>(⟨x.toArray⟩:ByteArray)):=fun q=>by
 rcases h.2 with⟨q1,q0⟩ | ⟨g,cp,cur,q1,_⟩
 ·rw[List.length_eq_zero_iff.1 q0]at q
  exact absurd rfl q
 ·simp only[Value.slice.injEq]at q1
  have hg:=q1.1
  subst hg
  refine⟨g,rfl,(h.lt g rfl).2,fun i hi=> ?_⟩
  rw[List.length_map]at hi
  rw[h.cellAt i (by omega),List.getElem?_map,List.getElem?_eq_getElem hi]
  simp
theorem TQ (w:World) (T:TypeId) (x:UInt8):(convert 59 9 (.slice (some ⟨w.heap.size,0,none⟩) 1 1)).run Tryz.prog (w.alloc (.cells #[.int .u8 (x.toNat:Int)] T))= .ok (.string ⟨#[x]⟩) (w.alloc (.cells #[.int .u8 (x.toNat:Int)] T)):=by
 have hb:Lib.Bytes (w.alloc (.cells #[.int .u8 (x.toNat:Int)] T)) w.heap.size 0 ⟨#[x]⟩:=fun i hi=>by
  have hi':i<1:=hi
  obtain rfl:i=0:=by omega
  exact ah (heap_alloc_new w (.cells #[.int .u8 (x.toNat:Int)] T)) 0
 exact Lib.run_convert_whole (P:=Tryz.prog) _ 59 5 9 Tryz.underlying59 Tryz.underlying5 Tryz.underlying9 w.heap.size 0 ⟨#[x]⟩ hb 1
theorem decimalK:∀(n:Nat),n<1000000000→∀w:World,Calls Tryz.prog 9 #[.int .i64 (n:Int)] w fun e w'=>e= .returned (.string ⟨(Zf.dY n).toArray⟩)∧Below w.heap.size w w':=by
 intro n
 induction n using Nat.strongRecOn with
 | ind n ih=>
  intro hn w
  have e8:(((UInt8.ofNat (48+n % 10)).toNat:Nat):Int)=48+(n:Int) % 10:=by rw[UInt8.toNat_ofNat'];omega
  have kc:=TQ w 5 (UInt8.ofNat (48+n % 10))
  rw[e8]at kc
  have cC:=hide ((Below.refl w.heap.size w).alloc (Nat.le_refl _) (.cells #[.int .u8 (48+(n:Int) % 10)] 5))
  have HM:=hide (show n<10→48+n=48+n % 10 by omega)
  clear e8
  by_cases h:n<10
  ·have t1:decide ((n:Int)<10)=true:=by simp;omega
   have t2:decide (n<10)=true:=by simp;omega
   rw[Zf.jo h,ae HM h]
   clear ih
   generalize UInt8.ofNat (48+n % 10)=x8 at*
   go_enter Tryz.func9,Tryz.ntmps9
   go_wp2_with fail
   go_ret
   exact⟨rfl,ae cC⟩
  ·have t1:decide ((n:Int)<10)=false:=by simp;omega
   have t2:decide (n<10)=false:=by simp;omega
   have IH:=hide (fun W=>ih (n / 10) (by omega) (by omega) W)
   have zF:=Zf.Mc (n:=n / 10) (by omega)
   rw[show ((n / 10:Nat):Int)=(n:Int) / 10 by omega]at IH
   rw[Zf.rA h]
   generalize Zf.dY (n / 10)=X at*
   generalize UInt8.ofNat (48+n % 10)=x8 at*
   clear ih HM
   go_enter Tryz.func9,Tryz.ntmps9
   go_wp2_with fail
   refine(ae IH _).mono ?_
   rintro e w5 ⟨rfl,bf⟩
   have bj:=hide ((ae cC).trans (bf.mono (ae cC).size))
   clear bf
   go_wp2_with fail
   go_ret
   refine⟨?_,ae bj⟩
   rw[←dX]
   rfl
theorem C5 (w:World) (xs:List ByteArray) (oa ob:Option Addr) (ca cb:Nat) (ha:fG w oa xs) (hb:fG w ob xs) (hl:xs.length≤1000000):
 Calls Tryz.prog 23 #[.slice oa xs.length ca,.slice ob xs.length cb] w fun e w'=>e= .returned (.bool true)∧Below w.heap.size w w':=by
 have HA:=hide ha
 have HB:=hide hb
 clear ha hb
 go_enter Tryz.func23,Tryz.ntmps23
 go_wp2_with fail
 go_loopg [5] xs.length (fun k iv wr=>∃j:Nat,k+j=xs.length∧iv= .int .i64 (j:Int)∧Below w.heap.size w wr)
 case atStart=>exact⟨0,by omega,rfl,Below.refl _ _⟩
 case round=>
  obtain⟨j,hkj,rfl,aT⟩:=hrel
  have cC:=hide aT
  have zz:=aT.size
  by_cases hlt:j<xs.length
  ·obtain⟨g,rfl,gz,ga⟩:=ae HA (fun q=>by rw[q]at hlt;simp at hlt)
   obtain⟨g2,rfl,gz2,gb⟩:=ae HB (fun q=>by rw[q]at hlt;simp at hlt)
   have f0:wr.cell? ⟨g,j,none⟩=some (.string xs[j]):=(aT.cell (p:=⟨g,j,none⟩) gz).trans (ga j hlt)
   have f1:wr.cell? ⟨g2,j,none⟩=some (.string xs[j]):=(aT.cell (p:=⟨g2,j,none⟩) gz2).trans (gb j hlt)
   have i0:(0:Int)≤(j:Int):=by omega
   have i1:(j:Int)<(xs.length:Int):=by omega
   have gy:g<wr.heap.size:=by omega
   have gy2:g2<wr.heap.size:=by omega
   generalize xs[j]=x at*
   clear aT ga gb
   go_wp2_with fail
   go_big_region
   go_wp2_with fail
   go_roundg (gk - 1)
   case measure=>omega
   case rel=>exact⟨j+1,by omega,by go_num,(ae cC).drew⟩
  ·obtain rfl:j=xs.length:=by omega
   clear aT
   go_wp2_with fail
   go_ret
   exact⟨rfl,ae cC⟩
theorem TR (w:World) (xs:List ByteArray) (lo:Option Addr) (ln lc:Nat) (xo:Option Addr) (xc:Nat) (go:Option Addr) (gc:Nat) (yo:Option Addr) (yc:Nat) (vo:Option Addr) (vc:Nat) (ha:fG w xo xs) (hb:fG w vo xs) (hl:xs.length≤1000000):
 Calls Tryz.prog 10 #[.agg #[.int .i64 1,.slice lo ln lc,.slice xo xs.length xc,.slice go 0 gc,.slice yo 0 yc],.int .i64 0,.slice vo xs.length vc] w fun e w'=>e= .returned (.bool true)∧Below w.heap.size w w':=by
 have hb0:=(Below.refl w.heap.size w).alloc (Nat.le_refl _) (.cells #[.int .i64 1,.slice lo ln lc,.slice xo xs.length xc,.slice go 0 gc,.slice yo 0 yc] 29)
 have IS:=hide (C5 _ xs xo vo xc vc (ha.below hb0) (hb.below hb0) hl)
 have aS:=hide hb0
 have JQ:=hide (heap_alloc_new w (.cells #[.int .i64 1,.slice lo ln lc,.slice xo xs.length xc,.slice go 0 gc,.slice yo 0 yc] 29))
 generalize xs.length=nx at*
 clear hb0 ha hb
 go_enter Tryz.func10,Tryz.ntmps10
 go_wp2_with fail
 refine(ae IS).mono ?_
 rintro e w2 ⟨rfl,hb2⟩
 have hz2:=(hb2.block w.heap.size (by simp)).trans (ae JQ)
 have f0:=ah hz2 0
 have f3:=ah hz2 3
 have f4:=ah hz2 4
 simp only[List.getElem?_toArray,List.getElem?_cons_zero,List.getElem?_cons_succ]at f0 f3 f4
 have wz:w.heap.size<w2.heap.size:=af hz2
 have aP:=hide ((ae aS).trans (hb2.mono (ae aS).size))
 clear hb2 hz2 IS JQ
 go_wp2_with fail
 go_ret
 exact⟨rfl,ae aP⟩
def uJ (W:World) (a0:Option Addr) (len cap:Nat):Prop:=∃script:List (Int×Int),script.length=len∧len≤cap∧cap≤maxLen∧kF W a0 script∧∀p∈script,(-9223372036854775808≤p.1∧p.1≤9223372036854775807)∧(-9223372036854775808≤p.2∧p.2≤9223372036854775807)
theorem kF.below {w w':World} {so:Option Addr} {script:List (Int×Int)} (h:kF w so script) (hb:Below w.heap.size w w'):kF w' so script:=fun q=>by
 obtain⟨g,off,h1,h2,h3⟩:=h q
 refine⟨g,off,h1,Nat.lt_of_lt_of_le h2 hb.size,fun i hi=> ?_⟩
 obtain⟨e1,e2⟩:=h3 i hi
 exact⟨(hb.cell (p:=⟨g,off+i*2,none⟩) h2).trans e1,(hb.cell (p:=⟨g,off+i*2+1,none⟩) h2).trans e2⟩
theorem uJ.below {w w':World} {so:Option Addr} {len cap:Nat} (h:uJ w so len cap) (hb:Below w.heap.size w w'):uJ w' so len cap:=by
 obtain⟨script,h1,h2,h3,h4,h5⟩:=h
 exact⟨script,h1,h2,h3,h4.below hb,h5⟩
def Af (p:Int×Int):List Value:=[.int .i64 p.1,.int .i64 p.2]
theorem infoPk:(Tryz.prog.info? 49).map (fun i=>(i.zero,i.size,i.bytes))=some (some (.agg #[.int .i64 0,.int .i64 0]),2,16):=by kernel_rfl
def EK (p:Int×Int):Prop:=(-9223372036854775808≤p.1∧p.1≤9223372036854775807)∧(-9223372036854775808≤p.2∧p.2≤9223372036854775807)
def YD (w:World) (n k:Nat) (av iv:Value) (wr:World):Prop:=∃S:List (Int×Int),k+S.length=n∧iv= .int .i64 (S.length:Int)∧(∀p∈S,EK p)∧wr.ownsRow w.heap.size 49 2 av S.length (S.flatMap Af)∧Below w.heap.size w wr
theorem uK (W:World) (o:Obj) (a b:Value) (T:TypeId):∀j u,([a,b]:List Value)[j]?=some u→((W.alloc o).alloc (.cells #[a,b] T)).cell? ((⟨W.heap.size+1,0,none⟩:Addr).add j)=some u:=by
 intro j u hj
 match j,hj with
 | 0,hj=>simp at hj;subst hj;simp[Addr.add]
 | 1,hj=>simp at hj;subst hj;simp[Addr.add]
theorem EL (a b:Int):∀u∈([.int .i64 a,.int .i64 b]:List Value),u.oneCell'=true:=by
 intro u hu;simp at hu;rcases hu with rfl | rfl<;>rfl
theorem Pq (x y:Int): -9223372036854775808≤bits .xor .i64 x y∧bits .xor .i64 x y≤9223372036854775807:=by
 have:=wf_bits .xor .i64 x y
 simp only[Lit.wf,Bool.and_eq_true,decide_eq_true_eq]at this
 exact this
theorem Pr (S:List (Int×Int)):∀(i:Nat) (h:i<S.length),(S.flatMap Af)[i*2]?=some (.int .i64 S[i].1)∧(S.flatMap Af)[i*2+1]?=some (.int .i64 S[i].2):=by
 induction S with
 | nil=>intro i h;simp at h
 | cons p S ih=>
  intro i h
  match i with
  | 0=>exact⟨rfl,rfl⟩
  | i+1=>
   have:=ih i (by simpa using h)
   rw[show (i+1)*2=i*2+2 by omega]
   exact this
theorem Ps {w:World} {b:Nat} {T:TypeId} {o:Option Addr} {c:Nat} {S:List (Int×Int)} (h:w.ownsRow b T 2 (.slice o S.length c) S.length (S.flatMap Af)):kF w o S:=fun q=>by
 rcases h.2 with⟨q1,q0⟩ | ⟨g,cp,cur,q1,_⟩
 ·exact absurd (List.length_eq_zero_iff.1 q0) q
 ·simp only[Value.slice.injEq]at q1
  have hg:=q1.1
  subst hg
  refine⟨g,0,rfl,(h.lt g rfl).2,fun i hi=> ?_⟩
  obtain⟨e1,e2⟩:=Pr S i hi
  rw[Nat.zero_add]
  exact⟨(h.cellAt (i*2) (by omega)).trans e1,(h.cellAt (i*2+1) (by omega)).trans e2⟩
theorem xW (w:World) (o:Option Addr) (len cap n:Nat) (h:uJ w o len cap) (hn:n≤100):
 Calls Tryz.prog 7 #[.slice o len cap,.int .i64 (n:Int)] w fun e w'=>∃(S:List (Int×Int)) (oo:Option Addr) (cc:Nat),e= .returned (.slice oo S.length cc)∧S.length=n∧(∀p∈S,EK p)∧kF w' oo S∧Below w.heap.size w w':=by
 obtain⟨tj,hj,hy0,hy1,hy2⟩:=info_parts infoPk
 obtain⟨script,hsl,hlc,hcm,hsc,ji⟩:=h
 have hnn:len≤9223372036854775807:=by unfold maxLen at hcm;omega
 have vp:=hide hsl
 have Jh:=hide hsc
 have zH:=hide ji
 clear hsl hsc ji hlc hcm
 go_enter Tryz.func7,Tryz.ntmps7
 go_wp2_with fail
 go_loopg [5,6] n (fun k av iv wr=>YD w n k av iv wr)
 case atStart=>exact⟨[],by simp,rfl,(fun d hd=>by cases hd),by simpa using World.ownsRow_nil _ _ _ _,Below.refl _ _⟩
 case round=>
  obtain⟨S,hkj,rfl,hd,how,aT⟩:=hrel
  obtain⟨oo,oc,rfl⟩:=gH how
  generalize hj':S.length=j at*
  have HJ:=hide hj'
  have HW:=hide how
  have cC:=hide aT
  have aW:=hide hkj
  have HD:=hide hd
  have zb:=aT.size
  by_cases hlt:j<n
  ·have t1:decide ((j:Int)<(n:Int))=true:=by simp;omega
   have t2:decide (j<n)=true:=by simpa using hlt
   have j100:j≤100:=by omega
   have ba:=hide hlt
   by_cases h0:0<len
   ·have u1:decide ((0:Int)<(len:Int))=true:=by simp;omega
    have u2:decide (0<len)=true:=by simpa using h0
    obtain⟨g,off,rfl,gz,gc⟩:=ae Jh (fun q=>by have:=ae vp;rw[q]at this;simp at this;omega)
    have N7:j % len<script.length:=by rw[ae vp];exact Nat.mod_lt _ h0
    obtain⟨c1,c2⟩:=gc (j % len) N7
    have f1:=(aT.cell (p:=⟨g,off+j % len*2,none⟩) gz).trans c1
    have f2:=(aT.cell (p:=⟨g,off+j % len*2+1,none⟩) gz).trans c2
    have gz':g<wr.heap.size:=Nat.lt_of_lt_of_le gz zb
    have HR:=hide (ae zH _ (List.getElem_mem N7))
    have i0:(0:Int)≤(j:Int) % (len:Int):=Int.emod_nonneg _ (by omega)
    have i1:(j:Int) % (len:Int)<(len:Int):=Int.emod_lt_of_pos _ (by omega)
    have e1:((j:Int) % (len:Int)).toNat=j % len:=by omega
    generalize script[j % len]=q at*
    obtain⟨q1,q2⟩:=q
    dsimp only at f1 f2 HR
    clear how aT hkj hlt hd hj' gc c1 c2
    go_wp2_with fail
    go_region
    have HX:=hide (Pq q1 (wrap64 ((j:Int) / (len:Int))))
    generalize bits .xor .i64 q1 (wrap64 ((j:Int) / (len:Int)))=xx at*
    go_wp2_with (at_builtin;go_must (refine wpList_append_own_at _ rfl (.tmp 33) (.tmp 35) 22 rfl w.heap.size 49 tj (.agg #[.int .i64 0,.int .i64 0]) 2 16 Tryz.underlying22 hj hy0 hy1 hy2 rfl (by decide) _ j (S.flatMap Af) rfl (by first | exact(((ae HW).alloc _).alloc _) | exact(((ae HW).alloc _).alloc _).drew) ⟨wr.heap.size+1,0,none⟩ 1 1 [.int .i64 xx,.int .i64 q2] rfl rfl (by first | exact uK _ _ _ _ _ | (intro a b c;rw[World.cell?_drew];exact uK _ _ _ _ _ a b c)) (EL _ _) (by unfold maxLen;omega) (by omega) (by simp;omega) ?_;intro v9 w9 h1 h2 _ _;have SF:=hide h1;have kV:=hide ((show Below w.heap.size w _ from by first | exact(((ae cC).alloc zb _).alloc (by simp;omega) _) | exact(((ae cC).alloc zb _).alloc (by simp;omega) _).drew).grown h2 (by simp;omega) (fun k r=>((ae HW).lt k r).1));clear h1 h2))
    go_roundg (gk - 1)
    case measure=>have:=ae aW;have:=ae ba;omega
    case rel=>
     refine⟨S++[(xx,q2)],by have:=ae aW;have:=ae ba;have:=ae HJ;simp;omega,by rw[List.length_append,ae HJ];go_num,fun d hd=> ?_,?_,ae kV⟩
     ·rcases List.mem_append.1 hd with hd | hd
      ·exact ae HD d hd
      ·rw[List.mem_singleton.1 hd];exact⟨ae HX,(ae HR).2⟩
     ·have:=ae SF
      rw[List.length_append,ae HJ,List.flatMap_append]
      simpa [Af] using this
   ·have u1:decide ((0:Int)<(len:Int))=false:=by simp;omega
    have u2:decide (0<len)=false:=by simpa using h0
    clear how aT hkj hlt hd hj'
    go_wp2_with (at_builtin;go_must (refine wpList_append_own_at _ rfl (.tmp 33) (.tmp 35) 22 rfl w.heap.size 49 tj (.agg #[.int .i64 0,.int .i64 0]) 2 16 Tryz.underlying22 hj hy0 hy1 hy2 rfl (by decide) _ j (S.flatMap Af) rfl (by first | exact(((ae HW).alloc _).alloc _) | exact(((ae HW).alloc _).alloc _).drew) ⟨wr.heap.size+1,0,none⟩ 1 1 [.int .i64 (j:Int),.int .i64 0] rfl rfl (by first | exact uK _ _ _ _ _ | (intro a b c;rw[World.cell?_drew];exact uK _ _ _ _ _ a b c)) (EL _ _) (by unfold maxLen;omega) (by omega) (by simp;omega) ?_;intro v9 w9 h1 h2 _ _;have SF:=hide h1;have kV:=hide ((show Below w.heap.size w _ from by first | exact(((ae cC).alloc zb _).alloc (by simp;omega) _) | exact(((ae cC).alloc zb _).alloc (by simp;omega) _).drew).grown h2 (by simp;omega) (fun k r=>((ae HW).lt k r).1));clear h1 h2))
    go_roundg (gk - 1)
    case measure=>have:=ae aW;have:=ae ba;omega
    case rel=>
     refine⟨S++[((j:Int),0)],by have:=ae aW;have:=ae ba;have:=ae HJ;simp;omega,by rw[List.length_append,ae HJ];go_num,fun d hd=> ?_,?_,ae kV⟩
     ·rcases List.mem_append.1 hd with hd | hd
      ·exact ae HD d hd
      ·rw[List.mem_singleton.1 hd];exact⟨⟨by show (-9223372036854775808:Int)≤(j:Int);omega,by show (j:Int)≤9223372036854775807;omega⟩,by show (-9223372036854775808:Int)≤0;omega,by show (0:Int)≤9223372036854775807;omega⟩
     ·have:=ae SF
      rw[List.length_append,ae HJ,List.flatMap_append]
      simpa [Af] using this
  ·have t1:decide ((j:Int)<(n:Int))=false:=by simp;omega
   have t2:decide (j<n)=false:=by simpa using hlt
   have hjn:j=n:=by omega
   have YE:=hide hjn
   clear how aT hkj hlt hd hj' hjn
   go_wp2_with fail
   go_ret
   refine⟨S,oo,oc,by rw[ae HJ];rfl,by rw[ae HJ];exact ae YE,ae HD,?_,ae cC⟩
   have:=ae HW
   rw[←ae HJ]at this
   exact Ps this
def lC (w:World) (o:Option Addr) (xs:List Bool):Prop:=xs≠[]→∃g,o=some ⟨g,0,none⟩∧g<w.heap.size∧∀i (h:i<xs.length),w.cell? ⟨g,i,none⟩=some (.bool xs[i])
theorem lC.below {w w':World} {o:Option Addr} {xs:List Bool} (h:lC w o xs) (hb:Below w.heap.size w w'):lC w' o xs:=fun q=>by
 obtain⟨g,h1,h2,h3⟩:=h q
 exact⟨g,h1,Nat.lt_of_lt_of_le h2 hb.size,fun i hi=>(hb.cell (p:=⟨g,i,none⟩) h2).trans (h3 i hi)⟩
theorem lC.jM {w:World} {b:Nat} {T:TypeId} {o:Option Addr} {c:Nat} {ys:List Bool} (h:w.ownsRow b T 1 (.slice o ys.length c) ys.length (ys.map fun b=> .bool b)):lC w o ys:=fun q=>by
 rcases h.2 with⟨q1,q0⟩ | ⟨g,cp,cur,q1,_⟩
 ·exact absurd (List.length_eq_zero_iff.1 q0) q
 ·simp only[Value.slice.injEq]at q1
  have hg:=q1.1
  subst hg
  refine⟨g,rfl,(h.lt g rfl).2,fun i hi=> ?_⟩
  rw[h.cellAt i (by omega),List.getElem?_map,List.getElem?_eq_getElem hi]
  rfl
theorem JR (w:World) (xs:List Int) (oa ob:Option Addr) (ca cb:Nat) (ha:iX w oa xs) (hb:iX w ob xs) (hl:xs.length≤1000000):
 Calls Tryz.prog 11 #[.slice oa xs.length ca,.slice ob xs.length cb] w fun e w'=>e= .returned (.bool true)∧Below w.heap.size w w':=by
 have HA:=hide ha
 have HB:=hide hb
 clear ha hb
 go_enter Tryz.func11,Tryz.ntmps11
 go_wp2_with fail
 go_loopg [5] xs.length (fun k iv wr=>∃j:Nat,k+j=xs.length∧iv= .int .i64 (j:Int)∧Below w.heap.size w wr)
 case atStart=>exact⟨0,by omega,rfl,Below.refl _ _⟩
 case round=>
  obtain⟨j,hkj,rfl,aT⟩:=hrel
  have cC:=hide aT
  have zz:=aT.size
  by_cases hlt:j<xs.length
  ·obtain⟨g,rfl,gz,ga⟩:=ae HA (fun q=>by rw[q]at hlt;simp at hlt)
   obtain⟨g2,rfl,gz2,gb⟩:=ae HB (fun q=>by rw[q]at hlt;simp at hlt)
   have f0:wr.cell? ⟨g,j,none⟩=some (.int .i64 xs[j]):=(aT.cell (p:=⟨g,j,none⟩) gz).trans (ga j hlt)
   have f1:wr.cell? ⟨g2,j,none⟩=some (.int .i64 xs[j]):=(aT.cell (p:=⟨g2,j,none⟩) gz2).trans (gb j hlt)
   have i0:(0:Int)≤(j:Int):=by omega
   have i1:(j:Int)<(xs.length:Int):=by omega
   have gy:g<wr.heap.size:=by omega
   have gy2:g2<wr.heap.size:=by omega
   generalize xs[j]=x at*
   clear aT ga gb
   go_wp2_with fail
   go_big_region
   go_wp2_with fail
   go_roundg (gk - 1)
   case measure=>omega
   case rel=>exact⟨j+1,by omega,by go_num,(ae cC).drew⟩
  ·obtain rfl:j=xs.length:=by omega
   clear aT
   go_wp2_with fail
   go_ret
   exact⟨rfl,ae cC⟩
theorem SG (w:World) (xs:List Bool) (oa ob:Option Addr) (ca cb:Nat) (ha:lC w oa xs) (hb:lC w ob xs) (hl:xs.length≤1000000):
 Calls Tryz.prog 24 #[.slice oa xs.length ca,.slice ob xs.length cb] w fun e w'=>e= .returned (.bool true)∧Below w.heap.size w w':=by
 have HA:=hide ha
 have HB:=hide hb
 clear ha hb
 go_enter Tryz.func24,Tryz.ntmps24
 go_wp2_with fail
 go_loopg [5] xs.length (fun k iv wr=>∃j:Nat,k+j=xs.length∧iv= .int .i64 (j:Int)∧Below w.heap.size w wr)
 case atStart=>exact⟨0,by omega,rfl,Below.refl _ _⟩
 case round=>
  obtain⟨j,hkj,rfl,aT⟩:=hrel
  have cC:=hide aT
  have zz:=aT.size
  by_cases hlt:j<xs.length
  ·obtain⟨g,rfl,gz,ga⟩:=ae HA (fun q=>by rw[q]at hlt;simp at hlt)
   obtain⟨g2,rfl,gz2,gb⟩:=ae HB (fun q=>by rw[q]at hlt;simp at hlt)
   have f0:wr.cell? ⟨g,j,none⟩=some (.bool xs[j]):=(aT.cell (p:=⟨g,j,none⟩) gz).trans (ga j hlt)
   have f1:wr.cell? ⟨g2,j,none⟩=some (.bool xs[j]):=(aT.cell (p:=⟨g2,j,none⟩) gz2).trans (gb j hlt)
   have i0:(0:Int)≤(j:Int):=by omega
   have i1:(j:Int)<(xs.length:Int):=by omega
   have gy:g<wr.heap.size:=by omega
   have gy2:g2<wr.heap.size:=by omega
   generalize xs[j]=x at*
   clear aT ga gb
   go_wp2_with fail
   go_big_region
   go_wp2_with fail
   go_roundg (gk - 1)
   case measure=>omega
   case rel=>exact⟨j+1,by omega,by go_num,(ae cC).drew⟩
  ·obtain rfl:j=xs.length:=by omega
   clear aT
   go_wp2_with fail
   go_ret
   exact⟨rfl,ae cC⟩
theorem JS (w:World) (en:Int) (log:List Int) (vals gols:List ByteArray) (wts:List Bool) (lo:Option Addr) (lc:Nat) (xo:Option Addr) (xc:Nat) (go:Option Addr) (gc:Nat) (yo:Option Addr) (yc:Nat) (lp:Option Addr) (ld:Nat) (xp:Option Addr) (xd:Nat) (gp:Option Addr) (gd:Nat) (yp:Option Addr) (yd:Nat)
 (h1:iX w lo log) (h2:iX w lp log) (h3:fG w xo vals) (h4:fG w xp vals) (h5:fG w go gols) (h6:fG w gp gols) (h7:lC w yo wts) (h8:lC w yp wts) (l1:log.length≤1000) (l2:vals.length≤1000) (l3:gols.length≤1000) (l4:wts.length≤1000):
 Calls Tryz.prog 12 #[.agg #[.int .i64 en,.slice lo log.length lc,.slice xo vals.length xc,.slice go gols.length gc,.slice yo wts.length yc],.agg #[.int .i64 en,.slice lp log.length ld,.slice xp vals.length xd,.slice gp gols.length gd,.slice yp wts.length yd]] w fun e w'=>e= .returned (.bool true)∧Below w.heap.size w w':=by
 have hb0:=((Below.refl w.heap.size w).alloc (Nat.le_refl _) (.cells #[.int .i64 en,.slice lo log.length lc,.slice xo vals.length xc,.slice go gols.length gc,.slice yo wts.length yc] 29)).alloc (by simp) (.cells #[.int .i64 en,.slice lp log.length ld,.slice xp vals.length xd,.slice gp gols.length gd,.slice yp wts.length yd] 29)
 have hz1:=aA (heap_alloc_new w (.cells #[.int .i64 en,.slice lo log.length lc,.slice xo vals.length xc,.slice go gols.length gc,.slice yo wts.length yc] 29)) (.cells #[.int .i64 en,.slice lp log.length ld,.slice xp vals.length xd,.slice gp gols.length gd,.slice yp wts.length yd] 29)
 have hz2:=heap_alloc_new (w.alloc (.cells #[.int .i64 en,.slice lo log.length lc,.slice xo vals.length xc,.slice go gols.length gc,.slice yo wts.length yc] 29)) (.cells #[.int .i64 en,.slice lp log.length ld,.slice xp vals.length xd,.slice gp gols.length gd,.slice yp wts.length yd] 29)
 rw[World.size_alloc]at hz2
 have aS:=hide hb0
 have I1:=hide (fun(W:World) (hb:Below w.heap.size w W)=>JR W log lo lp lc ld (h1.below hb) (h2.below hb) (by omega))
 have I2:=hide (fun(W:World) (hb:Below w.heap.size w W)=>C5 W vals xo xp xc xd (h3.below hb) (h4.below hb) (by omega))
 have I3:=hide (fun(W:World) (hb:Below w.heap.size w W)=>C5 W gols go gp gc gd (h5.below hb) (h6.below hb) (by omega))
 have I4:=hide (fun(W:World) (hb:Below w.heap.size w W)=>SG W wts yo yp yc yd (h7.below hb) (h8.below hb) (by omega))
 have Vm:=hide hz1
 have Vn:=hide hz2
 generalize log.length=n1 at*
 generalize vals.length=n2 at*
 generalize gols.length=n3 at*
 generalize wts.length=n4 at*
 clear hb0 hz1 hz2 h1 h2 h3 h4 h5 h6 h7 h8
 go_enter Tryz.func12,Tryz.ntmps12
 go_wp2_with fail
 refine(ae I1 _ (ae aS)).mono ?_
 rintro e w2 ⟨rfl,hb2⟩
 have a1:=(hb2.block w.heap.size (by simp;omega)).trans (ae Vm)
 have a2:=(hb2.block (w.heap.size+1) (by simp)).trans (ae Vn)
 have f2:=ah a1 2
 have f3:=ah a1 3
 have f4:=ah a1 4
 have f0:=ah a1 0
 have g2:=ah a2 2
 have g3:=ah a2 3
 have g4:=ah a2 4
 have g0:=ah a2 0
 simp only[List.getElem?_toArray,List.getElem?_cons_zero,List.getElem?_cons_succ]at f0 f2 f3 f4 g0 g2 g3 g4
 have z1:w.heap.size<w2.heap.size:=af a1
 have z2:w.heap.size+1<w2.heap.size:=af a2
 have jI:=(ae aS).trans (hb2.mono (ae aS).size)
 have aP:=hide jI
 clear hb2 a1 a2 jI Vm Vn
 go_wp2_with fail
 refine(ae I2 _ (ae aP)).mono ?_
 rintro e w3 ⟨rfl,hb3⟩
 have p3:=(hb3.cell (p:=⟨w.heap.size,3,none⟩) z1).trans f3
 have p4:=(hb3.cell (p:=⟨w.heap.size,4,none⟩) z1).trans f4
 have p0:=(hb3.cell (p:=⟨w.heap.size,0,none⟩) z1).trans f0
 have q3:=(hb3.cell (p:=⟨w.heap.size+1,3,none⟩) z2).trans g3
 have q4:=(hb3.cell (p:=⟨w.heap.size+1,4,none⟩) z2).trans g4
 have q0:=(hb3.cell (p:=⟨w.heap.size+1,0,none⟩) z2).trans g0
 have y1:w.heap.size<w3.heap.size:=Nat.lt_of_lt_of_le z1 hb3.size
 have y2:w.heap.size+1<w3.heap.size:=Nat.lt_of_lt_of_le z2 hb3.size
 have bu:=hide ((ae aP).trans (hb3.mono (ae aP).size))
 clear hb3
 go_wp2_with fail
 refine(ae I3 _ (ae bu)).mono ?_
 rintro e w4 ⟨rfl,hb4⟩
 have r4:=(hb4.cell (p:=⟨w.heap.size,4,none⟩) y1).trans p4
 have r0:=(hb4.cell (p:=⟨w.heap.size,0,none⟩) y1).trans p0
 have s4:=(hb4.cell (p:=⟨w.heap.size+1,4,none⟩) y2).trans q4
 have s0:=(hb4.cell (p:=⟨w.heap.size+1,0,none⟩) y2).trans q0
 have x1:w.heap.size<w4.heap.size:=Nat.lt_of_lt_of_le y1 hb4.size
 have x2:w.heap.size+1<w4.heap.size:=Nat.lt_of_lt_of_le y2 hb4.size
 have cu:=hide ((ae bu).trans (hb4.mono (ae bu).size))
 clear hb4
 go_wp2_with fail
 refine(ae I4 _ (ae cu)).mono ?_
 rintro e w5 ⟨rfl,bf⟩
 have t0:=(bf.cell (p:=⟨w.heap.size,0,none⟩) x1).trans r0
 have u0:=(bf.cell (p:=⟨w.heap.size+1,0,none⟩) x2).trans s0
 have v1:w.heap.size<w5.heap.size:=Nat.lt_of_lt_of_le x1 bf.size
 have v2:w.heap.size+1<w5.heap.size:=Nat.lt_of_lt_of_le x2 bf.size
 have bj:=hide ((ae cu).trans (bf.mono (ae cu).size))
 clear bf
 go_wp2_with fail
 go_ret
 exact⟨rfl,ae bj⟩
end Go.Proofs.YthfjnfcekeknlabGreatDoor
