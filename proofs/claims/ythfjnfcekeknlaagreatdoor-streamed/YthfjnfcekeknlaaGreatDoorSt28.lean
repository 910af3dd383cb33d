import Derived.Test.YthfjnfcekeknlaaGreatDoorSt07
import Derived.Test.YthfjnfcekeknlaaGreatDoorSt26
import Derived.Test.YthfjnfcekeknlaaGreatDoorSt27
import Derived.Lib.SlBytesRow
set_option maxHeartbeats 8000000
set_option maxRecDepth 100000
namespace Go.Proofs.YthfjnfcekeknlaaGreatDoor
open Go.RowKit
def Lr (w:World) (o:Option Addr) (n:Nat):Prop:=n≤maxLen∧(n=0∨∃b off,o=some ⟨b,off,none⟩∧b<w.heap.size∧∀i,i<n→∃v:Int,w.cell? ⟨b,off+i,none⟩=some (.int .i64 v)∧-9223372036854775808≤v∧v≤9223372036854775807)
def xG (c:Int) (n:Nat):Nat:=((if c<0 then -(c+1)else c) % (n:Int)).toNat
theorem Jc (c:Int) {n:Nat} (h:0<n):xG c n<n:=by
 unfold xG
 have h1:=Int.emod_nonneg (if c<0 then -(c+1)else c) (b:=(n:Int)) (by omega)
 have h2:=Int.emod_lt_of_pos (if c<0 then -(c+1)else c) (b:=(n:Int)) (by omega)
 omega
theorem Nb (w:World) (c:Int) (n:Nat) (hn:0<n) (hn':n≤1000000000) (h1: -9223372036854775808≤c) (h2:c≤9223372036854775807):
 Calls Tryz.prog 22 #[.int .i64 c,.int .i64 (n:Int)] w fun e w'=>e= .returned (.int .i64 (xG c n:Int))∧w'=w:=by
 by_cases hc:c<0
 ·have t1:decide (c<0)=true:=by simpa using hc
  have q1:=Int.emod_nonneg (-(c+1)) (b:=(n:Int)) (by omega)
  have hp:(xG c n:Int)=(-(c+1)) % (n:Int):=by unfold xG;rw[if_pos hc,Int.toNat_of_nonneg q1]
  rw[hp]
  clear hp q1
  go_enter Tryz.func22,Tryz.ntmps22
  go_wp2_with fail
  go_ret
  refine⟨?_,rfl⟩
  show Ending.returned (.int .i64 (-(c+1).tmod (n:Int)))=_
  rw[←Int.neg_tmod,Int.tmod_eq_emod_of_nonneg (by omega)]
 ·have t1:decide (c<0)=false:=by simpa using hc
  have q1:=Int.emod_nonneg c (b:=(n:Int)) (by omega)
  have hp:(xG c n:Int)=c % (n:Int):=by unfold xG;rw[if_neg hc,Int.toNat_of_nonneg q1]
  rw[hp]
  clear hp q1
  go_enter Tryz.func22,Tryz.ntmps22
  go_wp2_with fail
  go_ret
  exact⟨rfl,rfl⟩
def Xo (m:Nat) (w:World) (e:Ending) (w':World):Prop:=∃(l:List Nat) (o:Option Addr) (c:Nat),e= .returned (.slice o l.length c)∧l.length≤m∧(∀d∈l,d<10)∧w'.ownsRow w.heap.size 3 1 (.slice o l.length c) l.length (l.map aI)∧Below w.heap.size w w'
def Xp (w:World) (n m k:Nat) (av iv:Value) (wr:World):Prop:=∃(l:List Nat),k+l.length=min n m∧iv= .int .i64 (l.length:Int)∧(∀d∈l,d<10)∧wr.ownsRow w.heap.size 3 1 av l.length (l.map aI)∧Below w.heap.size w wr
theorem Ls (w:World) (o:Option Addr) (n c m:Nat) (hr:Lr w o n) (hm:m≤10):
 Calls Tryz.prog 13 #[.slice o n c,.int .i64 (m:Int)] w fun e w'=>Xo m w e w':=by
 obtain⟨tj,hj,hy0,hy1,hy2⟩:=info_parts infoIn
 have hnn:n≤9223372036854775807:=by have:=hr.1;unfold maxLen at this;omega
 have HR:=hide hr.2
 clear hr
 go_enter Tryz.func13,Tryz.ntmps13
 go_wp2_with fail
 go_loopg [5,6] (min n m) (fun k av iv wr=>Xp w n m k av iv wr)
 case atStart=>exact⟨[],by simp,rfl,(fun d hd=>by cases hd),by simpa using World.ownsRow_nil _ _ _ _,Below.refl _ _⟩
 case round=>
  obtain⟨l,hkj,rfl,hd,how,aM⟩:=hrel
  obtain⟨oo,oc,rfl⟩:=eP how
  generalize hj':l.length=j at*
  have HJ:=hide hj'
  by_cases hlt:j<min n m
  ·obtain⟨b,off,rfl,hbz,hce⟩:=(ae HR).resolve_left (by omega)
   obtain⟨v,hv,hv1,hv2⟩:=hce j (by omega)
   have f0:wr.cell? ⟨b,off+j,none⟩=some (.int .i64 v):=(aM.cell (p:=⟨b,off+j,none⟩) hbz).trans hv
   have gz:b<wr.heap.size:=Nat.lt_of_lt_of_le hbz aM.size
   have i0:(0:Int)≤(j:Int):=by omega
   have i1:(j:Int)<(n:Int):=by omega
   have i2:(j:Int)<(m:Int):=by omega
   have i3:j≤100:=by omega
   have t1:decide ((j:Int)<(n:Int))=true:=by simpa using i1
   have t2:decide ((j:Int)<(m:Int))=true:=by simpa using i2
   have t3:decide (j<n)=true:=by simp;omega
   have t4:decide (j<m)=true:=by simp;omega
   have IP:=hide (Nb wr v 10 (by omega) (by omega) hv1 hv2)
   have HP:=hide (Jc v (n:=10) (by omega))
   have HW:=hide how
   have bJ:=hide aM
   have aP:=hide hkj
   have aY:=hide hlt
   have HD:=hide hd
   have zb:=aM.size
   generalize xG v 10=q at*
   clear how aM hkj hlt hd hce hv hj' i2
   go_wp2_with fail
   refine(ae IP).mono ?_
   rintro e w5 ⟨rfl,rfl⟩
   go_wp2_with (at_builtin;go_must (refine wpList_append_own_at _ rfl (.tmp 24) (.tmp 26) 25 rfl w.heap.size 3 tj (.int .i64 0) 1 8 Tryz.underlying25 hj hy0 hy1 hy2 rfl (by decide) _ j (l.map aI) rfl ((ae HW).alloc _) ⟨w5.heap.size,0,none⟩ 1 1 [.int .i64 (q:Int)] rfl rfl (ie _ _ _ _ rfl) (by simp[Value.oneCell']) (by unfold maxLen;omega) (by omega) (by simp;omega) ?_;intro v9 w9 h1 h2 _ _;have Ck:=hide h1;have pW:=hide (((ae bJ).alloc zb _).grown h2 (by simp;omega) (fun k r=>((ae HW).lt k r).1));clear h1 h2))
   go_roundg (gk - 1)
   case measure=>have:=ae aP;have:=ae aY;omega
   case rel=>
    refine⟨l++[q],by have:=ae aP;have:=ae aY;have:=ae HJ;simp;omega,by rw[List.length_append,ae HJ];go_num,fun d hd=> ?_,?_,?_⟩
    ·rcases List.mem_append.1 hd with hd | hd
     ·exact ae HD d hd
     ·rw[List.mem_singleton.1 hd];exact ae HP
    ·have:=ae Ck
     rw[List.length_append,ae HJ]
     simpa [aI] using this
    ·exact ae pW
  ·have HW:=hide how
   have bJ:=hide aM
   have HD:=hide hd
   have hjm:j≤m:=by omega
   by_cases q:j<n
   ·have t1:decide ((j:Int)<(n:Int))=true:=by simpa using q
    have t2:decide ((j:Int)<(m:Int))=false:=by simp;omega
    have t3:decide (j<n)=true:=by simp;omega
    have t4:decide (j<m)=false:=by simp;omega
    clear how aM hkj hlt hd hj'
    go_wp2_with fail
    go_ret
    exact⟨l,oo,oc,by rw[ae HJ];rfl,by rw[ae HJ];exact hjm,ae HD,by rw[ae HJ];exact ae HW,ae bJ⟩
   ·have t1:decide ((j:Int)<(n:Int))=false:=by simp;omega
    have t3:decide (j<n)=false:=by simp;omega
    clear how aM hkj hlt hd hj'
    go_wp2_with fail
    go_ret
    exact⟨l,oo,oc,by rw[ae HJ];rfl,by rw[ae HJ];exact hjm,ae HD,by rw[ae HJ];exact ae HW,ae bJ⟩
def vR (w:World) (o:Option Addr) (xs:List Int):Prop:=xs≠[]→∃g,o=some ⟨g,0,none⟩∧g<w.heap.size∧∀i (h:i<xs.length),w.cell? ⟨g,i,none⟩=some (.int .i64 xs[i])
theorem vR.below {w w':World} {o:Option Addr} {xs:List Int} (h:vR w o xs) (hb:Below w.heap.size w w'):vR w' o xs:=fun q=>by
 obtain⟨g,h1,h2,h3⟩:=h q
 exact⟨g,h1,Nat.lt_of_lt_of_le h2 hb.size,fun i hi=>(hb.cell (p:=⟨g,i,none⟩) h2).trans (h3 i hi)⟩
theorem vR.lU {w:World} {b:Nat} {T:TypeId} {o:Option Addr} {c:Nat} {ys:List Int} (h:w.ownsRow b T 1 (.slice o ys.length c) ys.length (ys.map fO)):vR w o ys:=fun q=>by
 rcases h.2 with⟨q1,q0⟩ | ⟨g,cp,cur,q1,_⟩
 ·exact absurd (List.length_eq_zero_iff.1 q0) q
 ·simp only[Value.slice.injEq]at q1
  have hg:=q1.1
  subst hg
  refine⟨g,rfl,(h.lt g rfl).2,fun i hi=> ?_⟩
  rw[h.cellAt i (by omega),List.getElem?_map,List.getElem?_eq_getElem hi]
  rfl
def o7 (w:World) (o:Option Addr) (xs:List ByteArray):Prop:=xs≠[]→∃g,o=some ⟨g,0,none⟩∧g<w.heap.size∧∀i (h:i<xs.length),w.cell? ⟨g,i,none⟩=some (.string xs[i])
theorem o7.below {w w':World} {o:Option Addr} {xs:List ByteArray} (h:o7 w o xs) (hb:Below w.heap.size w w'):o7 w' o xs:=fun q=>by
 obtain⟨g,h1,h2,h3⟩:=h q
 exact⟨g,h1,Nat.lt_of_lt_of_le h2 hb.size,fun i hi=>(hb.cell (p:=⟨g,i,none⟩) h2).trans (h3 i hi)⟩
theorem o7.lU {w:World} {b:Nat} {T:TypeId} {o:Option Addr} {c:Nat} {ys:List (List UInt8)} (h:w.ownsRow b T 1 (.slice o ys.length c) ys.length (ys.map fun x=>Value.string ⟨x.toArray⟩)):o7 w o (ys.map fun x=>(⟨x.toArray⟩:ByteArray)):=fun q=>by
 rcases h.2 with⟨q1,q0⟩ | ⟨g,cp,cur,q1,_⟩
 ·rw[List.length_eq_zero_iff.1 q0]at q
  exact absurd rfl q
 ·simp only[Value.slice.injEq]at q1
  have hg:=q1.1
  subst hg
  refine⟨g,rfl,(h.lt g rfl).2,fun i hi=> ?_⟩
  rw[List.length_map]at hi
  rw[h.cellAt i (by omega),List.getElem?_map,List.getElem?_eq_getElem hi]
  simp
theorem Tf (w:World) (T:TypeId) (x:UInt8):(convert 60 9 (.slice (some ⟨w.heap.size,0,none⟩) 1 1)).run Tryz.prog (w.alloc (.cells #[.int .u8 (x.toNat:Int)] T))= .ok (.string ⟨#[x]⟩) (w.alloc (.cells #[.int .u8 (x.toNat:Int)] T)):=by
 have hb:Lib.Bytes (w.alloc (.cells #[.int .u8 (x.toNat:Int)] T)) w.heap.size 0 ⟨#[x]⟩:=fun i hi=>by
  have hi':i<1:=hi
  obtain rfl:i=0:=by omega
  exact ag (heap_alloc_new w (.cells #[.int .u8 (x.toNat:Int)] T)) 0
 exact Lib.run_convert_whole (P:=Tryz.prog) _ 60 5 9 Tryz.underlying60 Tryz.underlying5 Tryz.underlying9 w.heap.size 0 ⟨#[x]⟩ hb 1
theorem decimalK:∀(n:Nat),n<1000000000→∀w:World,Calls Tryz.prog 21 #[.int .i64 (n:Int)] w fun e w'=>e= .returned (.string ⟨(Za.fM n).toArray⟩)∧Below w.heap.size w w':=by
 intro n
 induction n using Nat.strongRecOn with
 | ind n ih=>
  intro hn w
  have e8:(((UInt8.ofNat (48+n % 10)).toNat:Nat):Int)=48+(n:Int) % 10:=by rw[UInt8.toNat_ofNat'];omega
  have kc:=Tf w 5 (UInt8.ofNat (48+n % 10))
  rw[e8]at kc
  have bJ:=hide ((Below.refl w.heap.size w).alloc (Nat.le_refl _) (.cells #[.int .u8 (48+(n:Int) % 10)] 5))
  have HM:=hide (show n<10→48+n=48+n % 10 by omega)
  clear e8
  by_cases h:n<10
  ·have t1:decide ((n:Int)<10)=true:=by simp;omega
   have t2:decide (n<10)=true:=by simp;omega
   rw[Za.mJ h,ae HM h]
   clear ih
   generalize UInt8.ofNat (48+n % 10)=x8 at*
   go_enter Tryz.func21,Tryz.ntmps21
   go_wp2_with fail
   go_ret
   exact⟨rfl,ae bJ⟩
  ·have t1:decide ((n:Int)<10)=false:=by simp;omega
   have t2:decide (n<10)=false:=by simp;omega
   have IH:=hide (fun W=>ih (n / 10) (by omega) (by omega) W)
   have zh:=Za.vQ (n:=n / 10) (by omega)
   rw[show ((n / 10:Nat):Int)=(n:Int) / 10 by omega]at IH
   rw[Za.qZ h]
   generalize Za.fM (n / 10)=X at*
   generalize UInt8.ofNat (48+n % 10)=x8 at*
   clear ih HM
   go_enter Tryz.func21,Tryz.ntmps21
   go_wp2_with fail
   refine(ae IH _).mono ?_
   rintro e w5 ⟨rfl,bu⟩
   have bS:=hide ((ae bJ).trans (bu.mono (ae bJ).size))
   clear bu
   go_wp2_with fail
   go_ret
   refine⟨?_,ae bS⟩
   rw[←cJ]
   rfl
end Go.Proofs.YthfjnfcekeknlaaGreatDoor
