import Derived.Test.YthfjnfcekeknlaaGreatDoorMe27
import Derived.Lib.SlBytesRow
set_option maxHeartbeats 8000000
set_option maxRecDepth 100000
namespace Zc
theorem wO {n:Nat} (h:n<1000000000):(ie n).length≤100:=by
 have key:∀k n,n<10 ^ (k+1)→(ie n).length≤k+1:=fun k=>by
  induction k with
  | zero=>intro n h;rw[js (by omega)];simp
  | succ k ih=>
   intro n h
   by_cases q:n<10
   ·rw[js q];simp
   ·rw[rO q,List.length_append]
    have:=ih (n / 10) (by rw[Nat.pow_succ]at h;omega)
    simp
    omega
 have:=key 8 n (by omega)
 omega
end Zc
namespace Go.Proofs.YthfjnfcekeknlaaGreatDoor
open Go.RowKit
def ly (w:World) (o:Option Addr) (xs:List Int):Prop:=xs≠[]→∃g,o=some ⟨g,0,none⟩∧g<w.heap.size∧∀i (h:i<xs.length),w.cell? ⟨g,i,none⟩=some (.int .i64 xs[i])
theorem ly.below {w w':World} {o:Option Addr} {xs:List Int} (h:ly w o xs) (hb:Below w.heap.size w w'):ly w' o xs:=fun q=>by
 obtain⟨g,h1,h2,h3⟩:=h q
 exact⟨g,h1,Nat.lt_of_lt_of_le h2 hb.size,fun i hi=>(hb.cell (p:=⟨g,i,none⟩) h2).trans (h3 i hi)⟩
theorem ly.mr {w:World} {b:Nat} {T:TypeId} {o:Option Addr} {c:Nat} {ys:List Int} (h:w.ownsRow b T 1 (.slice o ys.length c) ys.length (ys.map fX)):ly w o ys:=fun q=>by
 rcases h.2 with⟨q1,q0⟩ | ⟨g,cp,cur,q1,_⟩
 ·exact absurd (List.length_eq_zero_iff.1 q0) q
 ·simp only[Value.slice.injEq]at q1
  have hg:=q1.1
  subst hg
  refine⟨g,rfl,(h.lt g rfl).2,fun i hi=> ?_⟩
  rw[h.cellAt i (by omega),List.getElem?_map,List.getElem?_eq_getElem hi]
  rfl
theorem ly.xY {w:World} {b:Nat} {T:TypeId} {o:Option Addr} {c:Nat} {ys:List Nat} (h:w.ownsRow b T 1 (.slice o ys.length c) ys.length (ys.map aK)):ly w o (ys.map fun(n:Nat)=>(n:Int)):=by
 refine ly.mr (b:=b) (T:=T) (c:=c) ?_
 rw[List.length_map,List.map_map]
 exact h
def yI (w:World) (o:Option Addr) (xs:List ByteArray):Prop:=xs≠[]→∃g,o=some ⟨g,0,none⟩∧g<w.heap.size∧∀i (h:i<xs.length),w.cell? ⟨g,i,none⟩=some (.string xs[i])
theorem yI.below {w w':World} {o:Option Addr} {xs:List ByteArray} (h:yI w o xs) (hb:Below w.heap.size w w'):yI w' o xs:=fun q=>by
 obtain⟨g,h1,h2,h3⟩:=h q
 exact⟨g,h1,Nat.lt_of_lt_of_le h2 hb.size,fun i hi=>(hb.cell (p:=⟨g,i,none⟩) h2).trans (h3 i hi)⟩
theorem yI.mr {w:World} {b:Nat} {T:TypeId} {o:Option Addr} {c:Nat} {ys:List (List UInt8)} (h:w.ownsRow b T 1 (.slice o ys.length c) ys.length (ys.map fun x=>Value.string ⟨x.toArray⟩)):yI w o (ys.map fun x=>(⟨x.toArray⟩:ByteArray)):=fun q=>by
 rcases h.2 with⟨q1,q0⟩ | ⟨g,cp,cur,q1,_⟩
 ·rw[List.length_eq_zero_iff.1 q0]at q
  exact absurd rfl q
 ·simp only[Value.slice.injEq]at q1
  have hg:=q1.1
  subst hg
  refine⟨g,rfl,(h.lt g rfl).2,fun i hi=> ?_⟩
  rw[List.length_map]at hi
  rw[h.cellAt i (by omega),List.getElem?_map,List.getElem?_eq_getElem hi]
  simp
theorem TI (w:World) (T:TypeId) (x:UInt8):(convert 60 9 (.slice (some ⟨w.heap.size,0,none⟩) 1 1)).run Tryz.prog (w.alloc (.cells #[.int .u8 (x.toNat:Int)] T))= .ok (.string ⟨#[x]⟩) (w.alloc (.cells #[.int .u8 (x.toNat:Int)] T)):=by
 have hb:Lib.Bytes (w.alloc (.cells #[.int .u8 (x.toNat:Int)] T)) w.heap.size 0 ⟨#[x]⟩:=fun i hi=>by
  have hi':i<1:=hi
  obtain rfl:i=0:=by omega
  exact ah (heap_alloc_new w (.cells #[.int .u8 (x.toNat:Int)] T)) 0
 exact Lib.run_convert_whole (P:=Tryz.prog) _ 60 5 9 Tryz.underlying60 Tryz.underlying5 Tryz.underlying9 w.heap.size 0 ⟨#[x]⟩ hb 1
theorem decimalK:∀(n:Nat),n<1000000000→∀w:World,Calls Tryz.prog 21 #[.int .i64 (n:Int)] w fun e w'=>e= .returned (.string ⟨(Zc.ie n).toArray⟩)∧Below w.heap.size w w':=by
 intro n
 induction n using Nat.strongRecOn with
 | ind n ih=>
  intro hn w
  have e8:(((UInt8.ofNat (48+n % 10)).toNat:Nat):Int)=48+(n:Int) % 10:=by rw[UInt8.toNat_ofNat'];omega
  have kc:=TI w 5 (UInt8.ofNat (48+n % 10))
  rw[e8]at kc
  have bY:=af ((Below.refl w.heap.size w).alloc (Nat.le_refl _) (.cells #[.int .u8 (48+(n:Int) % 10)] 5))
  have HM:=af (show n<10→48+n=48+n % 10 by omega)
  clear e8
  by_cases h:n<10
  ·have t1:decide ((n:Int)<10)=true:=by simp;omega
   have t2:decide (n<10)=true:=by simp;omega
   rw[Zc.js h,ae HM h]
   clear ih
   generalize UInt8.ofNat (48+n % 10)=x8 at*
   go_enter Tryz.func21,Tryz.ntmps21
   go_wp2_with fail
   go_ret
   exact⟨rfl,ae bY⟩
  ·have t1:decide ((n:Int)<10)=false:=by simp;omega
   have t2:decide (n<10)=false:=by simp;omega
   have IH:=af (fun W=>ih (n / 10) (by omega) (by omega) W)
   have zO:=Zc.wO (n:=n / 10) (by omega)
   rw[show ((n / 10:Nat):Int)=(n:Int) / 10 by omega]at IH
   rw[Zc.rO h]
   generalize Zc.ie (n / 10)=X at*
   generalize UInt8.ofNat (48+n % 10)=x8 at*
   clear ih HM
   go_enter Tryz.func21,Tryz.ntmps21
   go_wp2_with fail
   refine(ae IH _).mono ?_
   rintro e w5 ⟨rfl,bB⟩
   have bM:=af ((ae bY).trans (bB.mono (ae bY).size))
   clear bB
   go_wp2_with fail
   go_ret
   refine⟨?_,ae bM⟩
   rw[←dY]
   rfl
end Go.Proofs.YthfjnfcekeknlaaGreatDoor
