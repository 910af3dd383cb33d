import Derived.Test.YthfjnfcekeknlabGreatDoorGu31
import Derived.Test.YthfjnfcekeknlabGreatDoorGu36
import Derived.Test.YthfjnfcekeknlabGreatDoorGu37
import Derived.Orders
set_option maxHeartbeats 8000000
set_option maxRecDepth 100000
namespace Zf
theorem GZ (x:List UInt8) (a b c:Tm):iG idS false [qT x a b c]=x++([40]++(bE idS 7 a++([44]++(bE idS 7 b++([44]++(bE idS 7 c++[41])))))):=by
 show jW idS (qT x a b c)++[]=_
 rw[List.append_nil]
 show bE idS 8 (tF x a b c)++[]=_
 rw[List.append_nil]
 exact Td 7 x a b c
theorem YL {x:List UInt8} {a b c:Tm} (hx:jQ 2 x) (ha:gA idS 7 a) (hb:gA idS 7 b) (hc:gA idS 7 c):iR idS (qT x a b c):= .call _ (MP hx ha hb hc) rfl (by unfold isInt tF;simp)
theorem Fh {n:Nat} (h:n<1000000):(dY n).length≤6:=by
 have:=E4 (n:=n) (k:=5) (by omega)
 omega
end Zf
namespace Go.Proofs.YthfjnfcekeknlabGreatDoor
open Go.RowKit
def mxB:ByteArray:=⟨#[109,97,120,40,88,44,89,44,90,41,58,45,88,60,89,124,90,61,89,46,32,109,97,120,40,88,44,89,44,90,41,58,45,89,61,60,88,124,90,61,88,46]⟩
def Vw (a b:Nat):ByteArray:=⟨#[109,97,120,40]⟩++⟨(Zf.dY a).toArray⟩++⟨#[44]⟩++⟨(Zf.dY b).toArray⟩++⟨#[44,90,41]⟩
def Vx (a:Nat):ByteArray:=⟨#[109,97,120,40]⟩++⟨(Zf.dY a).toArray⟩++⟨#[44,89,44,90,41]⟩
def Vy (a:Nat):ByteArray:=⟨#[109,97,120,40]⟩++⟨(Zf.dY a).toArray⟩++⟨#[44,110,44,90,41]⟩
theorem Ti (a b:Nat):Vw a b=⟨(Zf.iG Zf.idS false [Zf.qT Zf.nMax (Zf.tD a) (Zf.tD b) (Zf.tV 90)]).toArray⟩:=by
 rw[Zf.GZ,Zf.uh,Zf.uh,Zf.wK]
 unfold Vw
 rw[show (⟨#[109,97,120,40]⟩:ByteArray)=⟨[109,97,120,40].toArray⟩from rfl,show (⟨#[44]⟩:ByteArray)=⟨[44].toArray⟩from rfl,show (⟨#[44,90,41]⟩:ByteArray)=⟨[44,90,41].toArray⟩from rfl,dX,dX,dX,dX]
 simp[Zf.nMax]
theorem Tj (a:Nat):Vx a=⟨(Zf.iG Zf.idS false [Zf.qT Zf.nMax (Zf.tD a) (Zf.tV 89) (Zf.tV 90)]).toArray⟩:=by
 rw[Zf.GZ,Zf.uh,Zf.wK,Zf.wK]
 unfold Vx
 rw[show (⟨#[109,97,120,40]⟩:ByteArray)=⟨[109,97,120,40].toArray⟩from rfl,show (⟨#[44,89,44,90,41]⟩:ByteArray)=⟨[44,89,44,90,41].toArray⟩from rfl,dX,dX]
 simp[Zf.nMax]
theorem Tn (a:Nat):Vy a=⟨(Zf.iG Zf.idS false [Zf.qT Zf.nMax (Zf.tD a) Zf.tNil (Zf.tV 90)]).toArray⟩:=by
 rw[Zf.GZ,Zf.uh,Zf.J4,Zf.wK]
 unfold Vy
 rw[show (⟨#[109,97,120,40]⟩:ByteArray)=⟨[109,97,120,40].toArray⟩from rfl,show (⟨#[44,110,44,90,41]⟩:ByteArray)=⟨[44,110,44,90,41].toArray⟩from rfl,dX,dX]
 simp[Zf.nMax]
theorem PJ (l:List UInt8):(⟨l.toArray⟩:ByteArray).size=l.length:=by simp[ByteArray.size]
theorem MZ (W:World) (he:wN W) {a b:Zf.Tm} {sq:ByteArray} (hq:sq=⟨(Zf.iG Zf.idS false [Zf.qT Zf.nMax a b (Zf.tV 90)]).toArray⟩) (ha:Zf.gA Zf.idS 7 a) (hb:Zf.gA Zf.idS 7 b) (la:(Zf.bE Zf.idS 7 a).length≤6) (lb:(Zf.bE Zf.idS 7 b).length≤6) (ma:Zf.gM Zf.idS 7 a=a) (mb:Zf.gM Zf.idS 7 b=b) {script:List (Int×Int)} {so:Option Addr} (sc:Nat) (hsc:kF W so script) (ji:∀p∈script,EK p) (hsl:script.length≤100) {en:Int} {log:List Int} {vals gols:List (List UInt8)} {wts:List Bool} (hend:Zf.pI Zf.mxs script (Zf.jk 1 (Zf.ay [] [Zf.qT Zf.nMax a b (Zf.tV 90)]) [Zf.qT Zf.nMax a b (Zf.tV 90)]) en log vals gols wts):
 Calls Tryz.prog 8 #[.string mxB,.string sq,.slice so script.length sc] W fun e w'=>∃R,e= .returned (.tuple #[R,.int .i64 0])∧Dk w' W.heap.size R en log vals gols wts∧Below W.heap.size W w':=by
 refine runK W he (by rw[Zf.mx_pr];rfl) (by decide) (by decide) Zf.mx_ok Zf.mx_mp (fun c hc x hx=>by simp only[Zf.mxs,List.mem_cons,List.not_mem_nil,or_false]at hc;rcases hc with rfl | rfl<;>(simp only[Zf.mx1,Zf.mx2,List.mem_cons,List.not_mem_nil,or_false]at hx;subst hx;simp)) hq (by rw[hq,PJ,Zf.GZ,Zf.wK];simp only[List.length_append,List.length_cons,List.length_nil,Zf.nMax];omega) (by simp) (Zf.YL Zf.nMax_word ha hb (Zf.kG (by decide))) (fun y hy=>by cases hy) ?_ hsc ji hsl hend
 show [(⟨Zf.gM Zf.idS 8 (Zf.tF Zf.nMax a b (Zf.tV 90)),[],none,[],none⟩:Zf.aD)]=_
 have:Zf.gM Zf.idS 8 (Zf.tF Zf.nMax a b (Zf.tV 90))=Zf.tF Zf.nMax a b (Zf.tV 90):=by
  refine(Zf.W8 7 Zf.nMax [a,b,Zf.tV 90]).trans ?_
  rw[List.map_cons,List.map_cons,List.map_cons,List.map_nil,ma,mb]
  rfl
 rw[this]
 rfl
def yb (n:Nat) (l:Array Bool):Nat:=((List.range n).filter fun i=> !l.getD i true).length
theorem vH {n:Nat} {l:Array Bool} {i:Nat} (hi:i<n) (hl:l.getD i true=false):yb n (l.setIfInBounds i true)<yb n l:=by
 have hs:i<l.size:=by
  rcases Nat.lt_or_ge i l.size with h | h
  ·exact h
  ·rw[Array.getD_eq_getD_getElem?,Array.getElem?_eq_none h]at hl
   cases hl
 have e:((List.range n).filter fun j=> !(l.setIfInBounds i true).getD j true)=((List.range n).filter fun j=> !l.getD j true).filter fun j=>decide (j≠i):=by
  rw[List.filter_filter]
  congr 1
  funext j
  rw[Array.getD_eq_getD_getElem?,Array.getD_eq_getD_getElem?,Array.getElem?_setIfInBounds]
  by_cases h:i=j
  ·subst h
   simp[hs]
  ·rw[if_neg h]
   simp[Ne.symm h]
 unfold yb
 rw[e]
 have hm:i∈(List.range n).filter fun j=> !l.getD j true:=by
  rw[List.mem_filter]
  exact⟨List.mem_range.2 hi,by rw[hl];rfl⟩
 exact List.length_filter_lt_length_iff_exists.2 ⟨i,hm,by simp⟩
theorem wO {md:Region.Mode} {ops:Array Oper} {l:Array Bool} {i:Nat} (h:i∈Region.ready md ops l):i<ops.size∧l.getD i true=false:=by
 unfold Region.ready at h
 rw[List.mem_filter,Bool.and_eq_true]at h
 exact⟨List.mem_range.1 h.1,by simpa using h.2.1⟩
theorem Kc {P:Program} {ops:Array Oper} {Q:Exit→Act→World→Prop} {md:Region.Mode} (I:Array Bool→Act→World→Prop)
 (hstep:∀l a w,I l a w→∀i∈Region.ready md ops l,wpOp P ops Q i (I (l.setIfInBounds i true)) a w)
 (hend:∀l a w,I l a w→Region.ready md ops l=[]→Q .normal a w):
 ∀(fuel:Nat) (l:Array Bool) (a:Act) (w:World),I l a w→yb ops.size l≤fuel→wpAny P md ops Q fuel l a w:=by
 intro fuel
 induction fuel with
 | zero=>
  intro l a w h hf
  have hr:Region.ready md ops l=[]:=by
   cases hq:Region.ready md ops l with
   | nil=>rfl
   | cons i t=>
    have hi:=wO (md:=md) (ops:=ops) (l:=l) (i:=i) (by rw[hq];exact List.mem_cons_self)
    have:=vH hi.1 hi.2
    omega
  exact⟨hr,hend l a w h hr⟩
 | succ f ih=>
  intro l a w h hf
  refine⟨hend l a w h,fun i hi=>wpOp_mono (fun a' w' h'=>ih _ a' w' h' ?_) (hstep l a w h i hi)⟩
  have hi':=wO hi
  have:=vH hi'.1 hi'.2
  omega
theorem mem_ready {md:Region.Mode} {ops:Array Oper} {l:Array Bool} {i:Nat} {o:Oper} (ho:ops[i]?=some o):i∈Region.ready md ops l↔l.getD i true=false∧(o.after.all fun e=> !Region.binds md e||l.getD e.on false)=true:=by
 unfold Region.ready
 rw[List.mem_filter,Bool.and_eq_true,ho,List.mem_range]
 have hi:i<ops.size:=(Array.getElem?_eq_some_iff.1 ho).1
 simp[hi]
def ops16:Array Oper:=#[{dst:=some 70,op:=Op.load 29 (Operand.tmp 12),type:=29,pos:= "runs.go:189",after:=#[],guard:=none},{dst:=some 71,op:=Op.buildSlice 25 1 #[(0,Operand.const (Value.int IntKind.i64 (-1)))],type:=25,pos:= "runs.go:189",after:=#[],guard:=none},{dst:=some 72,op:=Op.buildSlice 26 2 #[(0,Operand.const (Value.string {data:=#[86,48]})),(1,Operand.const (Value.string {data:=#[86,49]}))],type:=26,pos:= "runs.go:189",after:=#[],guard:=none},{dst:=some 73,op:=Op.move (Operand.tmp 7),type:=3,pos:= "runs.go:189",after:=#[],guard:=none},{dst:=some 74,op:=Op.call {callee:=Callee.value (Operand.func 9),args:=#[Operand.tmp 73],argTypes:=#[3]},type:=9,pos:= "runs.go:189",after:=#[{on:=3,ground:=Ground.data}],guard:=none},{dst:=some 75,op:=Op.binOp BinOp.add 9 (Operand.const (Value.string {data:=#[109,97,120,40]})) (Operand.tmp 74) 9,type:=9,pos:= "runs.go:189",after:=#[{on:=4,ground:=Ground.data}],guard:=none},{dst:=some 76,op:=Op.binOp BinOp.add 9 (Operand.tmp 75) (Operand.const (Value.string {data:=#[44,86,48,44,86,49,41]})) 9,type:=9,pos:= "runs.go:189",after:=#[{on:=5,ground:=Ground.data}],guard:=none},{dst:=some 77,op:=Op.buildSlice 26 1 #[(0,Operand.tmp 76)],type:=26,pos:= "runs.go:189",after:=#[{on:=6,ground:=Ground.data}],guard:=none},{dst:=some 78,op:=Op.buildSlice 27 1 #[(0,Operand.const (Value.bool true))],type:=27,pos:= "runs.go:189",after:=#[],guard:=none},{dst:=some 79,op:=Op.build 29 #[(0,Operand.const (Value.int IntKind.i64 2)),(1,Operand.tmp 71),(2,Operand.tmp 72),(3,Operand.tmp 77),(4,Operand.tmp 78)],type:=29,pos:= "runs.go:189",after:=#[{on:=1,ground:=Ground.data},{on:=2,ground:=Ground.data},{on:=7,ground:=Ground.data},{on:=8,ground:=Ground.data}],guard:=none},{dst:=some 80,op:=Op.call {callee:=Callee.value (Operand.func 12),args:=#[Operand.tmp 70,Operand.tmp 79],argTypes:=#[29,29]},type:=4,pos:= "runs.go:189",after:=#[{on:=0,ground:=Ground.data},{on:=9,ground:=Ground.data},{on:=4,ground:=Ground.chain}],guard:=none},{dst:=some 16,op:=Op.assign (Operand.tmp 80),type:=4,pos:= "runs.go:189",after:=#[{on:=10,ground:=Ground.data},{on:=10,ground:=Ground.chain},{on:=0,ground:=Ground.phase},{on:=1,ground:=Ground.phase},{on:=2,ground:=Ground.phase},{on:=3,ground:=Ground.phase},{on:=4,ground:=Ground.phase},{on:=5,ground:=Ground.phase},{on:=6,ground:=Ground.phase},{on:=7,ground:=Ground.phase},{on:=8,ground:=Ground.phase},{on:=9,ground:=Ground.phase},{on:=10,ground:=Ground.phase}],guard:=none}]
structure Oh (w0 w:World) (a:Nat) (TA:ByteArray) (A0:Value) (b0 b1 b2 b3 b4 b5 b6 b7 b8 b9 b10 b11:Bool) (v16 v70 v71 v72 v73 v74 v75 v76 v77 v78 v79 v80:Value):Prop where
 bel:Below w0.heap.size w0 w
 f0:b0=true→v70=A0
 f1:b1=true→∃p,v71= .slice p 1 1∧iX w p [-1]
 f2:b2=true→∃p,v72= .slice p 2 2∧fG w p [⟨#[86,48]⟩,⟨#[86,49]⟩]
 f3:b3=true→v73= .int .i64 (a:Int)
 f4:b4=true→v74= .string TA
 f5:b5=true→v75= .string (⟨#[109,97,120,40]⟩++TA)
 f6:b6=true→v76= .string (⟨#[109,97,120,40]⟩++TA++⟨#[44,86,48,44,86,49,41]⟩)
 f7:b7=true→∃p,v77= .slice p 1 1∧fG w p [(⟨#[109,97,120,40]⟩++TA++⟨#[44,86,48,44,86,49,41]⟩)]
 f8:b8=true→∃p,v78= .slice p 1 1∧lC w p [true]
 f9:b9=true→∃p q r s,v79= .agg #[.int .i64 2,.slice p 1 1,.slice q 2 2,.slice r 1 1,.slice s 1 1]∧iX w p [-1]∧fG w q [⟨#[86,48]⟩,⟨#[86,49]⟩]∧fG w r [(⟨#[109,97,120,40]⟩++TA++⟨#[44,86,48,44,86,49,41]⟩)]∧lC w s [true]
 f10:b10=true→v80= .bool true
 f11:b11=true→v16= .bool true
theorem Oh.below {w0 w w':World} {a:Nat} {TA:ByteArray} {A0:Value} {b0 b1 b2 b3 b4 b5 b6 b7 b8 b9 b10 b11:Bool} {v16 v70 v71 v72 v73 v74 v75 v76 v77 v78 v79 v80:Value} (h:Oh w0 w a TA A0 b0 b1 b2 b3 b4 b5 b6 b7 b8 b9 b10 b11 v16 v70 v71 v72 v73 v74 v75 v76 v77 v78 v79 v80) (hb:Below w.heap.size w w'):Oh w0 w' a TA A0 b0 b1 b2 b3 b4 b5 b6 b7 b8 b9 b10 b11 v16 v70 v71 v72 v73 v74 v75 v76 v77 v78 v79 v80 where
 bel:=h.bel.trans (hb.mono h.bel.size)
 f0:=h.f0
 f1:=fun e=>let ⟨p,h1,h2⟩:=h.f1 e;⟨p,h1,h2.below hb⟩
 f2:=fun e=>let ⟨p,h1,h2⟩:=h.f2 e;⟨p,h1,h2.below hb⟩
 f3:=h.f3
 f4:=h.f4
 f5:=h.f5
 f6:=h.f6
 f7:=fun e=>let ⟨p,h1,h2⟩:=h.f7 e;⟨p,h1,h2.below hb⟩
 f8:=fun e=>let ⟨p,h1,h2⟩:=h.f8 e;⟨p,h1,h2.below hb⟩
 f9:=fun e=>let ⟨p,q,r,s,h1,h2,h3,h4,h5⟩:=h.f9 e;⟨p,q,r,s,h1,h2.below hb,h3.below hb,h4.below hb,h5.below hb⟩
 f10:=h.f10
 f11:=h.f11
theorem TW (b0 b1 b2 b3 b4 b5 b6 b7 b8 b9 b10 b11:Bool) (h:Region.ready .any ops16 #[b0,b1,b2,b3,b4,b5,b6,b7,b8,b9,b10,b11]=[]):b11=true:=by
 obtain rfl:b0=true:=by
  cases b0 with
  | true=>rfl
  | false=>
   have hm:=(mem_ready (md:= .any) (ops:=ops16) (l:=#[false,b1,b2,b3,b4,b5,b6,b7,b8,b9,b10,b11]) (i:=0) (o:=_) rfl).2 ⟨rfl,by kernel_rfl⟩
   rw[h]at hm
   cases hm
 obtain rfl:b1=true:=by
  cases b1 with
  | true=>rfl
  | false=>
   have hm:=(mem_ready (md:= .any) (ops:=ops16) (l:=#[true,false,b2,b3,b4,b5,b6,b7,b8,b9,b10,b11]) (i:=1) (o:=_) rfl).2 ⟨rfl,by kernel_rfl⟩
   rw[h]at hm
   cases hm
 obtain rfl:b2=true:=by
  cases b2 with
  | true=>rfl
  | false=>
   have hm:=(mem_ready (md:= .any) (ops:=ops16) (l:=#[true,true,false,b3,b4,b5,b6,b7,b8,b9,b10,b11]) (i:=2) (o:=_) rfl).2 ⟨rfl,by kernel_rfl⟩
   rw[h]at hm
   cases hm
 obtain rfl:b3=true:=by
  cases b3 with
  | true=>rfl
  | false=>
   have hm:=(mem_ready (md:= .any) (ops:=ops16) (l:=#[true,true,true,false,b4,b5,b6,b7,b8,b9,b10,b11]) (i:=3) (o:=_) rfl).2 ⟨rfl,by kernel_rfl⟩
   rw[h]at hm
   cases hm
 obtain rfl:b4=true:=by
  cases b4 with
  | true=>rfl
  | false=>
   have hm:=(mem_ready (md:= .any) (ops:=ops16) (l:=#[true,true,true,true,false,b5,b6,b7,b8,b9,b10,b11]) (i:=4) (o:=_) rfl).2 ⟨rfl,by kernel_rfl⟩
   rw[h]at hm
   cases hm
 obtain rfl:b5=true:=by
  cases b5 with
  | true=>rfl
  | false=>
   have hm:=(mem_ready (md:= .any) (ops:=ops16) (l:=#[true,true,true,true,true,false,b6,b7,b8,b9,b10,b11]) (i:=5) (o:=_) rfl).2 ⟨rfl,by kernel_rfl⟩
   rw[h]at hm
   cases hm
 obtain rfl:b6=true:=by
  cases b6 with
  | true=>rfl
  | false=>
   have hm:=(mem_ready (md:= .any) (ops:=ops16) (l:=#[true,true,true,true,true,true,false,b7,b8,b9,b10,b11]) (i:=6) (o:=_) rfl).2 ⟨rfl,by kernel_rfl⟩
   rw[h]at hm
   cases hm
 obtain rfl:b7=true:=by
  cases b7 with
  | true=>rfl
  | false=>
   have hm:=(mem_ready (md:= .any) (ops:=ops16) (l:=#[true,true,true,true,true,true,true,false,b8,b9,b10,b11]) (i:=7) (o:=_) rfl).2 ⟨rfl,by kernel_rfl⟩
   rw[h]at hm
   cases hm
 obtain rfl:b8=true:=by
  cases b8 with
  | true=>rfl
  | false=>
   have hm:=(mem_ready (md:= .any) (ops:=ops16) (l:=#[true,true,true,true,true,true,true,true,false,b9,b10,b11]) (i:=8) (o:=_) rfl).2 ⟨rfl,by kernel_rfl⟩
   rw[h]at hm
   cases hm
 obtain rfl:b9=true:=by
  cases b9 with
  | true=>rfl
  | false=>
   have hm:=(mem_ready (md:= .any) (ops:=ops16) (l:=#[true,true,true,true,true,true,true,true,true,false,b10,b11]) (i:=9) (o:=_) rfl).2 ⟨rfl,by kernel_rfl⟩
   rw[h]at hm
   cases hm
 obtain rfl:b10=true:=by
  cases b10 with
  | true=>rfl
  | false=>
   have hm:=(mem_ready (md:= .any) (ops:=ops16) (l:=#[true,true,true,true,true,true,true,true,true,true,false,b11]) (i:=10) (o:=_) rfl).2 ⟨rfl,by kernel_rfl⟩
   rw[h]at hm
   cases hm
 obtain rfl:b11=true:=by
  cases b11 with
  | true=>rfl
  | false=>
   have hm:=(mem_ready (md:= .any) (ops:=ops16) (l:=#[true,true,true,true,true,true,true,true,true,true,true,false]) (i:=11) (o:=_) rfl).2 ⟨rfl,by kernel_rfl⟩
   rw[h]at hm
   cases hm
 rfl
theorem rL (w:World) (x:ByteArray) (T:TypeId):fG (w.alloc (.cells #[.string x] T)) (some ⟨w.heap.size,0,none⟩) [x]:=fun _=>⟨w.heap.size,rfl,by simp,fun i hi=>by
 have hi':i<1:=hi
 obtain rfl:i=0:=by omega
 exact ah (heap_alloc_new w (.cells #[.string x] T)) 0⟩
theorem Dp (w:World) (x:Int) (T:TypeId):iX (w.alloc (.cells #[.int .i64 x] T)) (some ⟨w.heap.size,0,none⟩) [x]:=fun _=>⟨w.heap.size,rfl,by simp,fun i hi=>by
 have hi':i<1:=hi
 obtain rfl:i=0:=by omega
 exact ah (heap_alloc_new w (.cells #[.int .i64 x] T)) 0⟩
theorem M0 (w:World) (x:Bool) (T:TypeId):lC (w.alloc (.cells #[.bool x] T)) (some ⟨w.heap.size,0,none⟩) [x]:=fun _=>⟨w.heap.size,rfl,by simp,fun i hi=>by
 have hi':i<1:=hi
 obtain rfl:i=0:=by omega
 exact ah (heap_alloc_new w (.cells #[.bool x] T)) 0⟩
theorem M4 (w:World) (x y:ByteArray) (T:TypeId):fG (w.alloc (.cells #[.string x,.string y] T)) (some ⟨w.heap.size,0,none⟩) [x,y]:=fun _=>⟨w.heap.size,rfl,by simp,fun i hi=>by
 have hi':i<2:=hi
 have h:=ah (heap_alloc_new w (.cells #[.string x,.string y] T)) i
 rcases(show i=0∨i=1 by omega)with rfl | rfl<;>exact h⟩
theorem fZ {md:Region.Mode} {ops:Array Oper} {l:Array Bool} {i:Nat} {o:Oper} (ho:ops[i]?=some o) (e:(o.after.all fun e=> !Region.binds md e||l.getD e.on false)=false):i∉Region.ready md ops l:=fun h=>by
 have:=((mem_ready ho).1 h).2
 rw[e]at this
 cases this
theorem TX (b0 b1 b2 b3 b4 b5 b6 b7 b8 b9 b10 b11:Bool) (h:4∈Region.ready .any ops16 #[b0,b1,b2,b3,b4,b5,b6,b7,b8,b9,b10,b11]):b3=true:=by
 cases b3 with
 | false=>exact absurd h (fZ rfl (by kernel_rfl))
 | true=>
 exact rfl
theorem TY (b0 b1 b2 b3 b4 b5 b6 b7 b8 b9 b10 b11:Bool) (h:5∈Region.ready .any ops16 #[b0,b1,b2,b3,b4,b5,b6,b7,b8,b9,b10,b11]):b4=true:=by
 cases b4 with
 | false=>exact absurd h (fZ rfl (by kernel_rfl))
 | true=>
 exact rfl
theorem TZ (b0 b1 b2 b3 b4 b5 b6 b7 b8 b9 b10 b11:Bool) (h:6∈Region.ready .any ops16 #[b0,b1,b2,b3,b4,b5,b6,b7,b8,b9,b10,b11]):b5=true:=by
 cases b5 with
 | false=>exact absurd h (fZ rfl (by kernel_rfl))
 | true=>
 exact rfl
theorem T5 (b0 b1 b2 b3 b4 b5 b6 b7 b8 b9 b10 b11:Bool) (h:7∈Region.ready .any ops16 #[b0,b1,b2,b3,b4,b5,b6,b7,b8,b9,b10,b11]):b6=true:=by
 cases b6 with
 | false=>exact absurd h (fZ rfl (by kernel_rfl))
 | true=>
 exact rfl
theorem T6 (b0 b1 b2 b3 b4 b5 b6 b7 b8 b9 b10 b11:Bool) (h:9∈Region.ready .any ops16 #[b0,b1,b2,b3,b4,b5,b6,b7,b8,b9,b10,b11]):b1=true∧b2=true∧b7=true∧b8=true:=by
 cases b1 with
 | false=>exact absurd h (fZ rfl (by kernel_rfl))
 | true=>
 cases b2 with
 | false=>exact absurd h (fZ rfl (by kernel_rfl))
 | true=>
 cases b7 with
 | false=>exact absurd h (fZ rfl (by kernel_rfl))
 | true=>
 cases b8 with
 | false=>exact absurd h (fZ rfl (by kernel_rfl))
 | true=>
 exact⟨rfl,rfl,rfl,rfl⟩
theorem Tp (b0 b1 b2 b3 b4 b5 b6 b7 b8 b9 b10 b11:Bool) (h:10∈Region.ready .any ops16 #[b0,b1,b2,b3,b4,b5,b6,b7,b8,b9,b10,b11]):b0=true∧b9=true:=by
 cases b0 with
 | false=>exact absurd h (fZ rfl (by kernel_rfl))
 | true=>
 cases b9 with
 | false=>exact absurd h (fZ rfl (by kernel_rfl))
 | true=>
 exact⟨rfl,rfl⟩
theorem Tq (b0 b1 b2 b3 b4 b5 b6 b7 b8 b9 b10 b11:Bool) (h:11∈Region.ready .any ops16 #[b0,b1,b2,b3,b4,b5,b6,b7,b8,b9,b10,b11]):b10=true:=by
 cases b10 with
 | false=>exact absurd h (fZ rfl (by kernel_rfl))
 | true=>
 exact rfl
theorem T7 (wh:World) (a rb:Nat) (TA:ByteArray) (lo xo go yo:Option Addr) (lc xc gc yc:Nat) (gY:rb<wh.heap.size) (hTA:TA.size≤100)
 (c0:wh.cell? ⟨rb,0,none⟩=some (.int .i64 2)) (c1:wh.cell? ⟨rb,1,none⟩=some (.slice lo 1 lc)) (c2:wh.cell? ⟨rb,2,none⟩=some (.slice xo 2 xc)) (c3:wh.cell? ⟨rb,3,none⟩=some (.slice go 1 gc)) (c4:wh.cell? ⟨rb,4,none⟩=some (.slice yo 1 yc))
 (IDA:∀W',Calls Tryz.prog 9 #[.int .i64 (a:Int)] W' fun e w'=>e= .returned (.string TA)∧Below W'.heap.size W' w')
 (ISR:∀W',Below wh.heap.size wh W'→∀(p:Option Addr) (q:Option Addr) (r:Option Addr) (s:Option Addr),iX W' p [-1]→fG W' q [⟨#[86,48]⟩,⟨#[86,49]⟩]→fG W' r [(⟨#[109,97,120,40]⟩++TA++⟨#[44,86,48,44,86,49,41]⟩)]→lC W' s [true]→
  Calls Tryz.prog 12 #[.agg #[.int .i64 2,.slice lo 1 lc,.slice xo 2 xc,.slice go 1 gc,.slice yo 1 yc],.agg #[.int .i64 2,.slice p 1 1,.slice q 2 2,.slice r 1 1,.slice s 1 1]] W' fun e w'=>e= .returned (.bool true)∧Below W'.heap.size W' w')
 (s0 s1 s2 s3 s4 s5 s6 s8 s9 s10 s11 s13 s14 s15 s16 s17 s18 s19 s20 s21 s22 s23 s24 s25 s26 s27 s28 s29 s30 s31 s32 s33 s34 s35 s36 s37 s38 s39 s40 s41 s42 s43 s44 s45 s46 s47 s48 s49 s50 s51 s52 s53 s54 s55 s56 s57 s58 s59 s60 s61 s62 s63 s64 s65 s66 s67 s68 s69 s70 s71 s72 s73 s74 s75 s76 s77 s78 s79 s80 s81 s82 s83 s84 s85 s86 s87 s88 s89 s90 s91 s92 s93 s94 s95 s96 s97 s98 s99 s100 s101 s102 s103 s104:Value) {Q:Exit→Act→World→Prop}
 (hQ:∀(v70 v71 v72 v73 v74 v75 v76 v77 v78 v79 v80:Value) (w':World),Below wh.heap.size wh w'→Q .normal ⟨#[s0,s1,s2,s3,s4,s5,s6,.int .i64 (a:Int),s8,s9,s10,s11,.pointer (some ⟨rb,0,none⟩),s13,s14,s15,.bool true,s17,s18,s19,s20,s21,s22,s23,s24,s25,s26,s27,s28,s29,s30,s31,s32,s33,s34,s35,s36,s37,s38,s39,s40,s41,s42,s43,s44,s45,s46,s47,s48,s49,s50,s51,s52,s53,s54,s55,s56,s57,s58,s59,s60,s61,s62,s63,s64,s65,s66,s67,s68,s69,v70,v71,v72,v73,v74,v75,v76,v77,v78,v79,v80,s81,s82,s83,s84,s85,s86,s87,s88,s89,s90,s91,s92,s93,s94,s95,s96,s97,s98,s99,s100,s101,s102,s103,s104],[]⟩ w'):
 Code.wp Tryz.prog (Code.region 16 ops16 true) Q ⟨#[s0,s1,s2,s3,s4,s5,s6,.int .i64 (a:Int),s8,s9,s10,s11,.pointer (some ⟨rb,0,none⟩),s13,s14,s15,s16,s17,s18,s19,s20,s21,s22,s23,s24,s25,s26,s27,s28,s29,s30,s31,s32,s33,s34,s35,s36,s37,s38,s39,s40,s41,s42,s43,s44,s45,s46,s47,s48,s49,s50,s51,s52,s53,s54,s55,s56,s57,s58,s59,s60,s61,s62,s63,s64,s65,s66,s67,s68,s69,s70,s71,s72,s73,s74,s75,s76,s77,s78,s79,s80,s81,s82,s83,s84,s85,s86,s87,s88,s89,s90,s91,s92,s93,s94,s95,s96,s97,s98,s99,s100,s101,s102,s103,s104],[]⟩ wh:=by
 refine wp_region_any (by kernel_rfl) ?_
 refine Kc (fun l A w'=>∃(b0 b1 b2 b3 b4 b5 b6 b7 b8 b9 b10 b11:Bool) (v16 v70 v71 v72 v73 v74 v75 v76 v77 v78 v79 v80:Value),l=#[b0,b1,b2,b3,b4,b5,b6,b7,b8,b9,b10,b11]∧A=⟨#[s0,s1,s2,s3,s4,s5,s6,.int .i64 (a:Int),s8,s9,s10,s11,.pointer (some ⟨rb,0,none⟩),s13,s14,s15,v16,s17,s18,s19,s20,s21,s22,s23,s24,s25,s26,s27,s28,s29,s30,s31,s32,s33,s34,s35,s36,s37,s38,s39,s40,s41,s42,s43,s44,s45,s46,s47,s48,s49,s50,s51,s52,s53,s54,s55,s56,s57,s58,s59,s60,s61,s62,s63,s64,s65,s66,s67,s68,s69,v70,v71,v72,v73,v74,v75,v76,v77,v78,v79,v80,s81,s82,s83,s84,s85,s86,s87,s88,s89,s90,s91,s92,s93,s94,s95,s96,s97,s98,s99,s100,s101,s102,s103,s104],[]⟩∧Oh wh w' a TA (.agg #[.int .i64 2,.slice lo 1 lc,.slice xo 2 xc,.slice go 1 gc,.slice yo 1 yc]) b0 b1 b2 b3 b4 b5 b6 b7 b8 b9 b10 b11 v16 v70 v71 v72 v73 v74 v75 v76 v77 v78 v79 v80) ?_ ?_ _ _ _ _ ?_ (Nat.le_of_ble_eq_true (by kernel_rfl))
 ·rintro l A w' ⟨b0,b1,b2,b3,b4,b5,b6,b7,b8,b9,b10,b11,v16,v70,v71,v72,v73,v74,v75,v76,v77,v78,v79,v80,rfl,rfl,h⟩ i hi
  have nV:i<12:=(wO hi).1
  have k0:=(h.bel.cell (p:=⟨rb,0,none⟩) gY).trans c0
  have k1:=(h.bel.cell (p:=⟨rb,1,none⟩) gY).trans c1
  have k2:=(h.bel.cell (p:=⟨rb,2,none⟩) gY).trans c2
  have k3:=(h.bel.cell (p:=⟨rb,3,none⟩) gY).trans c3
  have k4:=(h.bel.cell (p:=⟨rb,4,none⟩) gY).trans c4
  clear c0 c1 c2 c3 c4 hQ
  rcases(show i=0∨i=1∨i=2∨i=3∨i=4∨i=5∨i=6∨i=7∨i=8∨i=9∨i=10∨i=11 by omega)with rfl | rfl | rfl | rfl | rfl | rfl | rfl | rfl | rfl | rfl | rfl | rfl
  ·clear hi nV
   refine wpOp_step (o:={dst:=some 70,op:=Op.load 29 (Operand.tmp 12),type:=29,pos:= "runs.go:189",after:=#[],guard:=none}) rfl (fun K hK=> ?_)
   go_simp
   refine hK _ _ ⟨true,b1,b2,b3,b4,b5,b6,b7,b8,b9,b10,b11,_,_,_,_,_,_,_,_,_,_,_,_,rfl,rfl,{h with f0:=fun _=>rfl}⟩
  ·clear hi nV
   refine wpOp_step (o:={dst:=some 71,op:=Op.buildSlice 25 1 #[(0,Operand.const (Value.int IntKind.i64 (-1)))],type:=25,pos:= "runs.go:189",after:=#[],guard:=none}) rfl (fun K hK=> ?_)
   go_simp
   have h':=h.below ((Below.refl w'.heap.size w').alloc (Nat.le_refl _) (.cells #[.int .i64 (-1)] 3))
   refine hK _ _ ⟨b0,true,b2,b3,b4,b5,b6,b7,b8,b9,b10,b11,_,_,_,_,_,_,_,_,_,_,_,_,rfl,rfl,{h' with f1:=fun _=>⟨_,rfl,Dp _ _ _⟩}⟩
  ·clear hi nV
   refine wpOp_step (o:={dst:=some 72,op:=Op.buildSlice 26 2 #[(0,Operand.const (Value.string {data:=#[86,48]})),(1,Operand.const (Value.string {data:=#[86,49]}))],type:=26,pos:= "runs.go:189",after:=#[],guard:=none}) rfl (fun K hK=> ?_)
   go_simp
   have h':=h.below ((Below.refl w'.heap.size w').alloc (Nat.le_refl _) (.cells #[.string ⟨#[86,48]⟩,.string ⟨#[86,49]⟩] 9))
   refine hK _ _ ⟨b0,b1,true,b3,b4,b5,b6,b7,b8,b9,b10,b11,_,_,_,_,_,_,_,_,_,_,_,_,rfl,rfl,{h' with f2:=fun _=>⟨_,rfl,M4 _ _ _ _⟩}⟩
  ·clear hi nV
   refine wpOp_step (o:={dst:=some 73,op:=Op.move (Operand.tmp 7),type:=3,pos:= "runs.go:189",after:=#[],guard:=none}) rfl (fun K hK=> ?_)
   go_simp
   refine hK _ _ ⟨b0,b1,b2,true,b4,b5,b6,b7,b8,b9,b10,b11,_,_,_,_,_,_,_,_,_,_,_,_,rfl,rfl,{h with f3:=fun _=>rfl}⟩
  ·have e:=h.f3 (TX _ _ _ _ _ _ _ _ _ _ _ _ hi)
   subst e
   clear hi nV
   refine wpOp_step (o:={dst:=some 74,op:=Op.call {callee:=Callee.value (Operand.func 9),args:=#[Operand.tmp 73],argTypes:=#[3]},type:=9,pos:= "runs.go:189",after:=#[{on:=3,ground:=Ground.data}],guard:=none}) rfl (fun K hK=> ?_)
   go_simp
   refine(IDA w').mono ?_
   rintro e w2 ⟨rfl,hb2⟩
   have h':=h.below hb2
   refine hK _ _ ⟨b0,b1,b2,b3,true,b5,b6,b7,b8,b9,b10,b11,_,_,_,_,_,_,_,_,_,_,_,_,rfl,rfl,{h' with f4:=fun _=>rfl}⟩
  ·have e:=h.f4 (TY _ _ _ _ _ _ _ _ _ _ _ _ hi)
   subst e
   clear hi nV
   refine wpOp_step (o:={dst:=some 75,op:=Op.binOp BinOp.add 9 (Operand.const (Value.string {data:=#[109,97,120,40]})) (Operand.tmp 74) 9,type:=9,pos:= "runs.go:189",after:=#[{on:=4,ground:=Ground.data}],guard:=none}) rfl (fun K hK=> ?_)
   go_simp
   rw[if_neg (by omega)]
   refine hK _ _ ⟨b0,b1,b2,b3,b4,true,b6,b7,b8,b9,b10,b11,_,_,_,_,_,_,_,_,_,_,_,_,rfl,rfl,{h with f5:=fun _=>rfl}⟩
  ·have e:=h.f5 (TZ _ _ _ _ _ _ _ _ _ _ _ _ hi)
   subst e
   clear hi nV
   refine wpOp_step (o:={dst:=some 76,op:=Op.binOp BinOp.add 9 (Operand.tmp 75) (Operand.const (Value.string {data:=#[44,86,48,44,86,49,41]})) 9,type:=9,pos:= "runs.go:189",after:=#[{on:=5,ground:=Ground.data}],guard:=none}) rfl (fun K hK=> ?_)
   go_simp
   rw[if_neg (by omega)]
   refine hK _ _ ⟨b0,b1,b2,b3,b4,b5,true,b7,b8,b9,b10,b11,_,_,_,_,_,_,_,_,_,_,_,_,rfl,rfl,{h with f6:=fun _=>rfl}⟩
  ·have e:=h.f6 (T5 _ _ _ _ _ _ _ _ _ _ _ _ hi)
   subst e
   clear hi nV
   refine wpOp_step (o:={dst:=some 77,op:=Op.buildSlice 26 1 #[(0,Operand.tmp 76)],type:=26,pos:= "runs.go:189",after:=#[{on:=6,ground:=Ground.data}],guard:=none}) rfl (fun K hK=> ?_)
   go_simp
   have h':=h.below ((Below.refl w'.heap.size w').alloc (Nat.le_refl _) (.cells #[.string (⟨#[109,97,120,40]⟩++TA++⟨#[44,86,48,44,86,49,41]⟩)] 9))
   refine hK _ _ ⟨b0,b1,b2,b3,b4,b5,b6,true,b8,b9,b10,b11,_,_,_,_,_,_,_,_,_,_,_,_,rfl,rfl,{h' with f7:=fun _=>⟨_,rfl,rL _ _ _⟩}⟩
  ·clear hi nV
   refine wpOp_step (o:={dst:=some 78,op:=Op.buildSlice 27 1 #[(0,Operand.const (Value.bool true))],type:=27,pos:= "runs.go:189",after:=#[],guard:=none}) rfl (fun K hK=> ?_)
   go_simp
   have h':=h.below ((Below.refl w'.heap.size w').alloc (Nat.le_refl _) (.cells #[.bool true] 4))
   refine hK _ _ ⟨b0,b1,b2,b3,b4,b5,b6,b7,true,b9,b10,b11,_,_,_,_,_,_,_,_,_,_,_,_,rfl,rfl,{h' with f8:=fun _=>⟨_,rfl,M0 _ _ _⟩}⟩
  ·have n:=T6 _ _ _ _ _ _ _ _ _ _ _ _ hi
   obtain⟨p,rfl,hp⟩:=h.f1 n.1
   obtain⟨q,rfl,hq⟩:=h.f2 n.2.1
   obtain⟨r,rfl,hr⟩:=h.f7 n.2.2.1
   obtain⟨s,rfl,hs⟩:=h.f8 n.2.2.2
   clear hi nV
   refine wpOp_step (o:={dst:=some 79,op:=Op.build 29 #[(0,Operand.const (Value.int IntKind.i64 2)),(1,Operand.tmp 71),(2,Operand.tmp 72),(3,Operand.tmp 77),(4,Operand.tmp 78)],type:=29,pos:= "runs.go:189",after:=#[{on:=1,ground:=Ground.data},{on:=2,ground:=Ground.data},{on:=7,ground:=Ground.data},{on:=8,ground:=Ground.data}],guard:=none}) rfl (fun K hK=> ?_)
   go_simp
   refine hK _ _ ⟨b0,b1,b2,b3,b4,b5,b6,b7,b8,true,b10,b11,_,_,_,_,_,_,_,_,_,_,_,_,rfl,rfl,{h with f9:=fun _=>⟨p,q,r,s,rfl,hp,hq,hr,hs⟩}⟩
  ·have n:=Tp _ _ _ _ _ _ _ _ _ _ _ _ hi
   have e:=h.f0 n.1
   subst e
   obtain⟨p,q,r,s,rfl,hp,hq,hr,hs⟩:=h.f9 n.2
   clear hi nV
   refine wpOp_step (o:={dst:=some 80,op:=Op.call {callee:=Callee.value (Operand.func 12),args:=#[Operand.tmp 70,Operand.tmp 79],argTypes:=#[29,29]},type:=4,pos:= "runs.go:189",after:=#[{on:=0,ground:=Ground.data},{on:=9,ground:=Ground.data},{on:=4,ground:=Ground.chain}],guard:=none}) rfl (fun K hK=> ?_)
   go_simp
   refine(ISR w' h.bel p q r s hp hq hr hs).mono ?_
   rintro e w2 ⟨rfl,hb2⟩
   have h':=h.below hb2
   refine hK _ _ ⟨b0,b1,b2,b3,b4,b5,b6,b7,b8,b9,true,b11,_,_,_,_,_,_,_,_,_,_,_,_,rfl,rfl,{h' with f10:=fun _=>rfl}⟩
  ·have e:=h.f10 (Tq _ _ _ _ _ _ _ _ _ _ _ _ hi)
   subst e
   clear hi nV
   refine wpOp_step (o:={dst:=some 16,op:=Op.assign (Operand.tmp 80),type:=4,pos:= "runs.go:189",after:=#[{on:=10,ground:=Ground.data},{on:=10,ground:=Ground.chain},{on:=0,ground:=Ground.phase},{on:=1,ground:=Ground.phase},{on:=2,ground:=Ground.phase},{on:=3,ground:=Ground.phase},{on:=4,ground:=Ground.phase},{on:=5,ground:=Ground.phase},{on:=6,ground:=Ground.phase},{on:=7,ground:=Ground.phase},{on:=8,ground:=Ground.phase},{on:=9,ground:=Ground.phase},{on:=10,ground:=Ground.phase}],guard:=none}) rfl (fun K hK=> ?_)
   go_simp
   refine hK _ _ ⟨b0,b1,b2,b3,b4,b5,b6,b7,b8,b9,b10,true,_,_,_,_,_,_,_,_,_,_,_,_,rfl,rfl,{h with f11:=fun _=>rfl}⟩
 ·rintro l A w' ⟨b0,b1,b2,b3,b4,b5,b6,b7,b8,b9,b10,b11,v16,v70,v71,v72,v73,v74,v75,v76,v77,v78,v79,v80,rfl,rfl,h⟩ hr
  have e:=h.f11 (TW _ _ _ _ _ _ _ _ _ _ _ _ hr)
  subst e
  exact hQ _ _ _ _ _ _ _ _ _ _ _ w' h.bel
 ·exact⟨false,false,false,false,false,false,false,false,false,false,false,false,_,_,_,_,_,_,_,_,_,_,_,_,by kernel_rfl,rfl,{bel:=(Below.refl _ _).drew,f0:=nofun,f1:=nofun,f2:=nofun,f3:=nofun,f4:=nofun,f5:=nofun,f6:=nofun,f7:=nofun,f8:=nofun,f9:=nofun,f10:=nofun,f11:=nofun}⟩
theorem kF.apart {w w':World} {so:Option Addr} {S:List (Int×Int)} {rb:Nat} {e:Int} {o1 o2 o3 o4:Option Addr} {n1 n2 n3 n4 k1 k2 k3 k4:Nat} {T:TypeId} (h:kF w so S) (hz:w.heap[rb]?=some (.cells #[.int .i64 e,.slice o1 n1 k1,.slice o2 n2 k2,.slice o3 n3 k3,.slice o4 n4 k4] T)) (hs:w.heap.size≤w'.heap.size) (hk:∀k,k<w.heap.size→k≠rb→w'.heap[k]?=w.heap[k]?):kF w' so S:=fun q=>by
 obtain⟨g,off,h1,h2,h3⟩:=h q
 have hne:g≠rb:=by
  rintro rfl
  obtain⟨_,e2⟩:=h3 0 (List.length_pos_iff.2 q)
  rw[ah hz]at e2
  rcases off with _ | _ | _ | _ | off<;>simp at e2
 refine⟨g,off,h1,by omega,fun i hi=> ?_⟩
 obtain⟨e1,e2⟩:=h3 i hi
 have hh:=hk g h2 hne
 exact⟨by rw[←e1];simp only[World.cell?,hh],by rw[←e2];simp only[World.cell?,hh]⟩
theorem M5 (w:World) (x y:Int) (T:TypeId):iX (w.alloc (.cells #[.int .i64 x,.int .i64 y] T)) (some ⟨w.heap.size,0,none⟩) [x,y]:=fun _=>⟨w.heap.size,rfl,by simp,fun i hi=>by
 have hi':i<2:=hi
 have h:=ah (heap_alloc_new w (.cells #[.int .i64 x,.int .i64 y] T)) i
 rcases(show i=0∨i=1 by omega)with rfl | rfl<;>exact h⟩
theorem Dq (W:World) (he:wN W) (x:Int) (x1: -9223372036854775808≤x) (x2:x≤9223372036854775807) (y:Int) (y1: -9223372036854775808≤y) (y2:y≤9223372036854775807) {a2:Option Addr} {l2 c2:Nat} (h2:uJ W a2 l2 c2):
 Calls Tryz.prog 3 #[.int .i64 x,.int .i64 y,.slice a2 l2 c2] W fun e w'=>e= .returned (.bool true)∧Below W.heap.size W w':=by
 have IP1:=hide (N6 W x 1000000 (by omega) (by omega) x1 x2)
 have IP2:=hide (N6 W y 1000000 (by omega) (by omega) y1 y2)
 have ha:=JP x (n:=1000000) (by omega)
 have hb:=JP y (n:=1000000) (by omega)
 generalize xV x 1000000=a at*
 generalize xV y 1000000=b at*
 have IS2:=hide (xW W a2 l2 c2 2 h2 (by omega))
 have IS1:=hide (fun W' (hW:Below W.heap.size W W')=>xW W' a2 l2 c2 1 (h2.below hW) (by omega))
 have IDA:=hide (fun W'=>decimalK a (by omega) W')
 have IDB:=hide (fun W'=>decimalK b (by omega) W')
 have IDM:=hide (fun W'=>decimalK (if a<b then b else a) (by split<;>omega) W')
 have sa:=Zf.Fh ha
 have sb:=Zf.Fh hb
 have IR1:=hide (fun(W':World) (hW:Below W.heap.size W W') (S:List (Int×Int)) (so:Option Addr) (sc:Nat) (hl:S.length=2) (hr:∀p∈S,EK p) (hs:kF W' so S)=>MZ W' (he.below hW) (Ti a b) (Zf.Dl ha) (Zf.Dl hb) (by rw[Zf.uh];exact sa) (by rw[Zf.uh];exact sb) rfl rfl sc hs hr (by omega) (Zf.MU a b S hl))
 have IR2:=hide (fun(W':World) (hW:Below W.heap.size W W') (S:List (Int×Int)) (so:Option Addr) (sc:Nat) (hl:S.length=1) (hr:∀p∈S,EK p) (hs:kF W' so S)=>MZ W' (he.below hW) (Tj a) (Zf.Dl ha) (Zf.kG (by decide)) (by rw[Zf.uh];exact sa) (by rw[Zf.wK];decide) rfl rfl sc hs hr (by omega) (Zf.MW a S hl))
 have IR3:=hide (fun(W':World) (hW:Below W.heap.size W W') (S:List (Int×Int)) (so:Option Addr) (sc:Nat) (hl:S.length=1) (hr:∀p∈S,EK p) (hs:kF W' so S)=>MZ W' (he.below hW) (Tn a) (Zf.Dl ha) (Zf.Tc 6) (by rw[Zf.uh];exact sa) (by rw[Zf.J4];decide) rfl rfl sc hs hr (by omega) (Zf.MV a S hl))
 have la:(Zf.dY a).length≤100:=by omega
 have lb:(Zf.dY b).length≤100:=by omega
 clear he h2 x1 x2 y1 y2
 have key:∃(m k:Nat),(m=if a<b then b else a)∧(k=if a<b then 1 else 2):=⟨_,_,rfl,rfl⟩
 obtain⟨m,k,hm,hk⟩:=key
 have Tt:([if a<b then 1 else 2,0]:List Int)=[(k:Int),0]:=by rw[hk];split<;>rfl
 rw[Tt,←hm]at IR1
 rw[←hm]at IDM
 have HM:=hide hm
 have HK:=hide hk
 clear hm hk Tt
 have Ze:=hide (show m<1000000000 by have:=ae HM;split at this<;>omega)
 go_enter Tryz.func3,Tryz.ntmps3
 go_wp2_with fail
 refine(ae IP1).mono ?_
 rintro e w1 ⟨rfl,rfl⟩
 go_wp2_with fail
 refine(ae IP2).mono ?_
 rintro e w1 ⟨rfl,rfl⟩
 clear IP1 IP2
 go_upto_if 25 with fail
 go_cut [9,10] (fun mv kv wx=>mv= .int .i64 (m:Int)∧kv= .int .i64 (k:Int)∧wx=w1)
 case first=>
  by_cases hab:a<b
  ·have t1:decide ((a:Int)<(b:Int))=true:=by simp;omega
   have t2:decide (a<b)=true:=by simpa using hab
   have Ke:=hide hab
   clear hab
   go_wp2_with fail
   go_meet
   exact⟨by rw[ae HM,if_pos (ae Ke)],by rw[ae HK,if_pos (ae Ke)];first | done | rfl,rfl⟩
  ·have t1:decide ((a:Int)<(b:Int))=false:=by simp;omega
   have t2:decide (a<b)=false:=by simpa using hab
   have Ke:=hide hab
   clear hab
   go_wp2_with fail
   go_meet
   exact⟨by rw[ae HM,if_neg (ae Ke)],by rw[ae HK,if_neg (ae Ke)];first | done | rfl,rfl⟩
 case rest=>
  obtain⟨rfl,rfl,rfl⟩:=hcut
  go_wp2_with fail
  refine(ae IS2).mono ?_
  rintro e w2 ⟨S,so,sc,rfl,hsl,ji,hsc,hb2⟩
  have IR:=hide (fun W' (hb:Below w2.heap.size w2 W')=>ae IR1 W' (hb2.trans (hb.mono hb2.size)) S so sc hsl ji (hsc.below hb))
  have aP:=hide hb2
  generalize hns:S.length=ns at*
  clear hsl ji hsc hb2 hns IS2 IR1
  go_wp2_with fail
  refine(ae IDA _).mono ?_
  rintro e w3 ⟨rfl,hb3⟩
  have bu:=hide hb3
  clear hb3
  go_wp2_with fail
  refine(ae IDB _).mono ?_
  rintro e w4 ⟨rfl,hb4⟩
  have cu:=hide ((ae bu).trans (hb4.mono (ae bu).size))
  clear hb4
  go_wp2_with fail
  refine(ae IR w4 (ae cu)).mono ?_
  rintro e w5 ⟨R,rfl,⟨lo,lc,xo,xc,go,gc,yo,yc,rfl,r1,r2,_⟩,bf⟩
  have hbA:=(((ae aP).trans (((ae cu).trans (bf.mono (ae cu).size)).mono (ae aP).size))).alloc ((ae aP).trans (((ae cu).trans (bf.mono (ae cu).size)).mono (ae aP).size)).size (.cells #[.int .i64 1,.slice lo 2 lc,.slice xo 1 xc,.slice go 0 gc,.slice yo 0 yc] 29)
  have M6:=(Below.refl w5.heap.size w5).alloc (Nat.le_refl _) (.cells #[.int .i64 1,.slice lo 2 lc,.slice xo 1 xc,.slice go 0 gc,.slice yo 0 yc] 29)
  have l9:=heap_alloc_new w5 (.cells #[.int .i64 1,.slice lo 2 lc,.slice xo 1 xc,.slice go 0 gc,.slice yo 0 yc] 29)
  have vD:=hide ((iX.jM r1).below M6)
  have Nl:=hide ((fG.jM (ys:=[Zf.dY m]) r2).below M6)
  have gZ:=hide hbA
  have Tu:=hide l9
  have z56:w5.heap.size≥wc.heap.size:=by have h1:=(ae aP).size;have h2:=(ae cu).size;have h3:=bf.size;omega
  clear bf hbA IR r1 r2 M6 l9
  go_upto_region 10 with fail
  generalize w5.alloc (.cells #[.int .i64 1,.slice lo 2 lc,.slice xo 1 xc,.slice go 0 gc,.slice yo 0 yc] 29)=w6 at*
  generalize w5.heap.size=rb at*
  have l9:=ae Tu
  have f0:=ah l9 0
  have f1:=ah l9 1
  have f2:=ah l9 2
  have f3:=ah l9 3
  have f4:=ah l9 4
  simp only[List.getElem?_toArray,List.getElem?_cons_zero,List.getElem?_cons_succ]at f0 f1 f2 f3 f4
  have rz:rb<w6.heap.size:=af l9
  have HX:=hide (show∃X,X=Zf.dY m from ⟨_,rfl⟩)
  generalize Zf.dY m=X at*
  have IDN:=hide (fun(W':World) (hb:Below w6.heap.size w6 W') (vo:Option Addr) (vc:Nat) (hv:fG W' vo [⟨X.toArray⟩])=>(TR W' [⟨X.toArray⟩] lo 2 lc xo xc go gc yo yc vo vc ((ae Nl).below hb) hv (by simp)).mono (fun e w' (h:e= .returned (.bool true)∧Below W'.heap.size W' w')=>(show e= .returned (.bool true)∧Below w6.heap.size w6 w' from ⟨h.1,hb.trans (h.2.mono hb.size)⟩)))
  have ISI:=hide (fun(W':World) (hb:Below w6.heap.size w6 W') (vo:Option Addr) (vc:Nat) (hv:iX W' vo [(k:Int),0])=>(JR W' [(k:Int),0] lo vo lc vc ((ae vD).below hb) hv (by simp)).mono (fun e w' (h:e= .returned (.bool true)∧Below W'.heap.size W' w')=>(show e= .returned (.bool true)∧Below w6.heap.size w6 w' from ⟨h.1,hb.trans (h.2.mono hb.size)⟩)))
  clear HX l9 bu cu
  go_cut [14] (fun dv wx=>dv= .bool true∧Below w6.heap.size w6 wx)
  case first=>
   go_region_with (first
    | (go_at_call 9;refine(ae IDM _).mono ?_;rintro e w9 ⟨rfl,lT⟩;have Al:Below w6.heap.size w6 w9:=(by first | exact lT | exact(Below.refl _ _).drew.trans lT | exact(Below.refl _ _).drew.drew.trans lT | exact(Below.refl _ _).drew.drew.drew.trans lT);have k0:=(Al.cell (p:=⟨rb,0,none⟩) rz).trans f0;have k1:=(Al.cell (p:=⟨rb,1,none⟩) rz).trans f1;have k2:=(Al.cell (p:=⟨rb,2,none⟩) rz).trans f2;have k3:=(Al.cell (p:=⟨rb,3,none⟩) rz).trans f3;have k4:=(Al.cell (p:=⟨rb,4,none⟩) rz).trans f4;have rz9:rb<w9.heap.size:=Nat.lt_of_lt_of_le rz Al.size;have kV:=hide Al;clear lT Al)
    | (go_at_call 10;refine(ae IDN _ (by first | exact(ae kV).alloc (ae kV).size _ | exact((ae kV).alloc (ae kV).size _).drew | exact((ae kV).alloc (ae kV).size _).drew.drew | exact(ae kV).drew.alloc (ae kV).size _ | exact((ae kV).drew.alloc (ae kV).size _).drew) _ _ (by first | exact rL _ _ _ | exact(rL _ _ _).below (Below.refl _ _).drew | exact(rL _ _ _).below (Below.refl _ _).drew.drew)).mono ?_;rintro e wA ⟨rfl,hbA⟩;have xU:=hide hbA;clear hbA))
   all_goals
    go_wp2_with fail
    go_meet
    exact⟨rfl,by first | exact ae xU | exact(ae xU).drew⟩
  case rest=>
   obtain⟨rfl,dN⟩:=hcut
   have g1:=(dN.cell (p:=⟨rb,1,none⟩) rz).trans f1
   have jZ:=hide dN
   have rzx:=Nat.lt_of_lt_of_le rz dN.size
   clear dN
   go_wp2_with fail
   refine(ae ISI _ ((ae jZ).alloc (ae jZ).size _) _ _ (M5 _ _ _ _)).mono ?_
   rintro e wd ⟨rfl,Ae⟩
   have hbD:=(ae gZ).trans (Ae.mono (ae gZ).size)
   have IST:=hide (ae IS1 wd hbD)
   have hzd:=(Ae.block rb rz).trans (ae Tu)
   have HZD:=hide hzd
   have Tv:=hide hbD
   have rzd:=af hzd
   clear Ae hbD hzd ISI IDN IS1 vD Nl jZ Tu aP
   go_wp2_with fail
   refine(ae IST).mono ?_
   rintro e we ⟨S2,so2,sc2,rfl,hsl,ji,hsc,aT⟩
   have hbE:=(ae Tv).trans (aT.mono (ae Tv).size)
   have IRa:=hide (fun W' (hb:Below we.heap.size we W')=>ae IR2 W' (hbE.trans (hb.mono hbE.size)) S2 so2 sc2 hsl ji (hsc.below hb))
   have Oi:=(aT.block rb rzd).trans (ae HZD)
   have Vz:=hide Oi
   have IRb:=hide (fun W' (hB:Below _ _ W') (hs:we.heap.size≤W'.heap.size) (hk:∀k,k<we.heap.size→k≠rb→W'.heap[k]?=we.heap[k]?)=>ae IR3 W' hB S2 so2 sc2 hsl ji (hsc.apart Oi hs hk))
   have rze:=af Oi
   have cC:=hide hbE
   generalize W9:S2.length=ns2 at*
   clear aT hbE hsl ji hsc Oi W9 IST IR2 IR3 HZD Tv
   go_wp2_with fail
   refine(ae IDA _).mono ?_
   rintro e wf ⟨rfl,VA⟩
   have Kf:=hide VA
   clear VA
   go_wp2_with fail
   refine(ae IRa wf (ae Kf)).mono ?_
   rintro e wg ⟨R,rfl,⟨lo2,lc2,xo2,xc2,go2,gc2,yo2,yc2,rfl,r1,r2,r3,r4,_⟩,hbg⟩
   have hbG:=(ae Kf).trans (hbg.mono (ae Kf).size)
   have qM:=(hbG.block rb rze).trans (ae Vz)
   have gY:∀k,wf.heap.size≤k→k≠rb:=fun k hk=>by have:=(ae Kf).size;omega
   have c0:=ah qM 0
   have c1:=ah qM 1
   have c2':=ah qM 2
   have c3:=ah qM 3
   have c4:=ah qM 4
   have d0:=au qM 0
   have d1:=au qM 1
   have d2:=au qM 2
   have d3:=au qM 3
   have d4:=au qM 4
   simp only[List.getElem?_toArray,List.getElem?_cons_zero,List.getElem?_cons_succ]at c0 c1 c2' c3 c4
   have rzg:=af qM
   have Oj:=hide hbG
   have VB:=hide qM
   have rT:=hide r1
   have mI:=hide r2
   have Et:=hide r3
   have Tw:=hide r4
   have Dr:=hide gY
   clear hbG qM r1 r2 r3 r4 gY hbg
   go_upto_region 16 with fail
   have oH:∀k,k≠rb→(((((wg.setCell ⟨rb,0,none⟩ (.int .i64 2)).setCell ⟨rb,1,none⟩ (.slice lo2 1 lc2)).setCell ⟨rb,2,none⟩ (.slice xo2 2 xc2)).setCell ⟨rb,3,none⟩ (.slice go2 1 gc2)).setCell ⟨rb,4,none⟩ (.slice yo2 1 yc2)).heap[k]?=wg.heap[k]?:=fun k hk=>by rw[aC _ _ _ _ hk,aC _ _ _ _ hk,aC _ _ _ _ hk,aC _ _ _ _ hk,aC _ _ _ _ hk]
   have uk:=aw (aw (aw (aw (aw (ae VB) 0 (.int .i64 2)) 1 (.slice lo2 1 lc2)) 2 (.slice xo2 2 xc2)) 3 (.slice go2 1 gc2)) 4 (.slice yo2 1 yc2)
   simp only[List.setIfInBounds_toArray,List.set_cons_zero,List.set_cons_succ]at uk
   have hbH:=((((((ae cC).trans ((ae Oj).mono (ae cC).size)).setCell (p:=⟨rb,0,none⟩) z56 (.int .i64 2)).setCell (p:=⟨rb,1,none⟩) z56 (.slice lo2 1 lc2)).setCell (p:=⟨rb,2,none⟩) z56 (.slice xo2 2 xc2)).setCell (p:=⟨rb,3,none⟩) z56 (.slice go2 1 gc2)).setCell (p:=⟨rb,4,none⟩) z56 (.slice yo2 1 yc2)
   have NN:=hide (show we.heap.size≤(((((wg.setCell ⟨rb,0,none⟩ (.int .i64 2)).setCell ⟨rb,1,none⟩ (.slice lo2 1 lc2)).setCell ⟨rb,2,none⟩ (.slice xo2 2 xc2)).setCell ⟨rb,3,none⟩ (.slice go2 1 gc2)).setCell ⟨rb,4,none⟩ (.slice yo2 1 yc2)).heap.size from by rw[bS,bS,bS,bS,bS];exact(ae Oj).size)
   have sS:=hide (iX.jM (ai (ae rT) fun k q=>oH k (ae Dr k ((ae rT).lt k q).1)))
   have o6:=hide (fG.jM (ys:=[[86,48],[86,49]]) (ai (ae mI) fun k q=>oH k (ae Dr k ((ae mI).lt k q).1)))
   have vw:=hide (fG.jM (ys:=[[109,97,120,40]++Zf.dY a++[44,86,48,44,86,49,41]]) (ai (ae Et) fun k q=>oH k (ae Dr k ((ae Et).lt k q).1)))
   have zJ:=hide (lC.jM (ai (ae Tw) fun k q=>oH k (ae Dr k ((ae Tw).lt k q).1)))
   have JH:=hide (show∀k,k<we.heap.size→k≠rb→(((((wg.setCell ⟨rb,0,none⟩ (.int .i64 2)).setCell ⟨rb,1,none⟩ (.slice lo2 1 lc2)).setCell ⟨rb,2,none⟩ (.slice xo2 2 xc2)).setCell ⟨rb,3,none⟩ (.slice go2 1 gc2)).setCell ⟨rb,4,none⟩ (.slice yo2 1 yc2)).heap[k]?=we.heap[k]? from fun k h1 h2=>(oH k h2).trans ((ae Oj).block k h1))
   have VC:=hide uk
   have Ol:=hide hbH
   clear oH uk hbH rT mI Et Tw VB Oj Kf Dr c0 c1 c2' c3 c4 d0 d1 d2 d3 d4 rzg Vz
   generalize ((((wg.setCell ⟨rb,0,none⟩ (.int .i64 2)).setCell ⟨rb,1,none⟩ (.slice lo2 1 lc2)).setCell ⟨rb,2,none⟩ (.slice xo2 2 xc2)).setCell ⟨rb,3,none⟩ (.slice go2 1 gc2)).setCell ⟨rb,4,none⟩ (.slice yo2 1 yc2)=wh at*
   have uk:=ae VC
   have c0:=ah uk 0
   have c1:=ah uk 1
   have c2':=ah uk 2
   have c3:=ah uk 3
   have c4:=ah uk 4
   simp only[List.getElem?_toArray,List.getElem?_cons_zero,List.getElem?_cons_succ]at c0 c1 c2' c3 c4
   have rzh:=af uk
   have YM:=hide (show (⟨([109,97,120,40]++Zf.dY a++[44,86,48,44,86,49,41]).toArray⟩:ByteArray)=⟨#[109,97,120,40]⟩++⟨(Zf.dY a).toArray⟩++⟨#[44,86,48,44,86,49,41]⟩by rw[show (⟨#[109,97,120,40]⟩:ByteArray)=⟨[109,97,120,40].toArray⟩from rfl,show (⟨#[44,86,48,44,86,49,41]⟩:ByteArray)=⟨[44,86,48,44,86,49,41].toArray⟩from rfl,dX,dX])
   have HL3':=hide (show fG wh go2 [⟨#[109,97,120,40]⟩++⟨(Zf.dY a).toArray⟩++⟨#[44,86,48,44,86,49,41]⟩]by rw[←ae YM];exact ae vw)
   have ISR:=hide (fun(W':World) (hb:Below wh.heap.size wh W') (lp xp gp yp:Option Addr) (h1:iX W' lp [-1]) (h2:fG W' xp [⟨#[86,48]⟩,⟨#[86,49]⟩]) (h3:fG W' gp [⟨#[109,97,120,40]⟩++⟨(Zf.dY a).toArray⟩++⟨#[44,86,48,44,86,49,41]⟩]) (h4:lC W' yp [true])=>JS W' 2 [-1] [⟨#[86,48]⟩,⟨#[86,49]⟩] [⟨#[109,97,120,40]⟩++⟨(Zf.dY a).toArray⟩++⟨#[44,86,48,44,86,49,41]⟩] [true] lo2 lc2 xo2 xc2 go2 gc2 yo2 yc2 lp 1 xp 2 gp 1 yp 1 ((ae sS).below hb) h1 ((ae o6).below hb) h2 ((ae HL3').below hb) h3 ((ae zJ).below hb) h4 (by simp) (by simp) (by simp) (by simp))
   clear uk sS o6 vw HL3' zJ
   go_cut [16] (fun dv wx=>dv= .bool true∧Below wh.heap.size wh wx)
   case first=>
    refine T7 wh a rb ⟨(Zf.dY a).toArray⟩ lo2 xo2 go2 yo2 lc2 xc2 gc2 yc2 rzh la c0 c1 c2' c3 c4 (ae IDA) (ae ISR) _ _ _ _ _ _ _ _ _ _ _ _ _ _ _ _ _ _ _ _ _ _ _ _ _ _ _ _ _ _ _ _ _ _ _ _ _ _ _ _ _ _ _ _ _ _ _ _ _ _ _ _ _ _ _ _ _ _ _ _ _ _ _ _ _ _ _ _ _ _ _ _ _ _ _ _ _ _ _ _ _ _ _ _ _ _ _ _ _ _ _ _ _ _ _ _ _ _ _ _ _ _ _ ?_
    intro v70 v71 v72 v73 v74 v75 v76 v77 v78 v79 v80 wj VD
    have YN:=hide VD
    clear VD
    go_wp2_with fail
    go_meet
    exact⟨rfl,ae YN⟩
   case rest=>
    obtain⟨rfl,dN⟩:=hcut
    have jZ:=hide dN
    clear dN c0 c1 c2' c3 c4 ISR
    go_wp2_with fail
    refine(ae IDA _).mono ?_
    rintro e wk ⟨rfl,hbk⟩
    have vE:=hide ((ae jZ).trans (hbk.mono (ae jZ).size))
    clear hbk jZ
    go_wp2_with fail
    refine(ae IRb wk ((ae Ol).trans ((ae vE).mono (ae Ol).size)) (Nat.le_trans (ae NN) (ae vE).size) (fun k h1 h2=>((ae vE).block k (Nat.lt_of_lt_of_le h1 (ae NN))).trans (ae JH k h1 h2))).mono ?_
    rintro e wl ⟨R,rfl,⟨lo3,lc3,xo3,xc3,go3,gc3,yo3,yc3,rfl,r1,r2,r3,r4,_⟩,hbl⟩
    have hbL:=(ae vE).trans (hbl.mono (ae vE).size)
    have hzl:=(hbL.block rb rzh).trans (ae VC)
    have gY:∀k,wk.heap.size≤k→k≠rb:=fun k hk=>by have:=(ae vE).size;omega
    have c0:=ah hzl 0
    have c1:=ah hzl 1
    have c2':=ah hzl 2
    have c3:=ah hzl 3
    have c4:=ah hzl 4
    have d0:=au hzl 0
    have d1:=au hzl 1
    have d2:=au hzl 2
    have d3:=au hzl 3
    have d4:=au hzl 4
    simp only[List.getElem?_toArray,List.getElem?_cons_zero,List.getElem?_cons_succ]at c0 c1 c2' c3 c4
    have rzl:=af hzl
    have dA:=hide hbL
    have rT:=hide r1
    have Dr:=hide gY
    clear hbL hzl r1 r2 r3 r4 gY hbl
    go_wp2_with fail
    have hs5:(((((wl.setCell ⟨rb,0,none⟩ (.int .i64 4)).setCell ⟨rb,1,none⟩ (.slice lo3 1 lc3)).setCell ⟨rb,2,none⟩ (.slice xo3 0 xc3)).setCell ⟨rb,3,none⟩ (.slice go3 0 gc3)).setCell ⟨rb,4,none⟩ (.slice yo3 0 yc3)).heap.size=wl.heap.size:=by rw[bS,bS,bS,bS,bS]
    have oH:∀k,k≠rb→(((((wl.setCell ⟨rb,0,none⟩ (.int .i64 4)).setCell ⟨rb,1,none⟩ (.slice lo3 1 lc3)).setCell ⟨rb,2,none⟩ (.slice xo3 0 xc3)).setCell ⟨rb,3,none⟩ (.slice go3 0 gc3)).setCell ⟨rb,4,none⟩ (.slice yo3 0 yc3)).heap[k]?=wl.heap[k]?:=fun k hk=>by rw[aC _ _ _ _ hk,aC _ _ _ _ hk,aC _ _ _ _ hk,aC _ _ _ _ hk,aC _ _ _ _ hk]
    have hbA:=((((((ae Ol).trans ((ae dA).mono (ae Ol).size)).setCell (p:=⟨rb,0,none⟩) z56 (.int .i64 4)).setCell (p:=⟨rb,1,none⟩) z56 (.slice lo3 1 lc3)).setCell (p:=⟨rb,2,none⟩) z56 (.slice xo3 0 xc3)).setCell (p:=⟨rb,3,none⟩) z56 (.slice go3 0 gc3)).setCell (p:=⟨rb,4,none⟩) z56 (.slice yo3 0 yc3)
    have q1:=iX.jM (ai (ae rT) fun k q=>oH k (ae Dr k ((ae rT).lt k q).1))
    have q2:=Dp (((((wl.setCell ⟨rb,0,none⟩ (.int .i64 4)).setCell ⟨rb,1,none⟩ (.slice lo3 1 lc3)).setCell ⟨rb,2,none⟩ (.slice xo3 0 xc3)).setCell ⟨rb,3,none⟩ (.slice go3 0 gc3)).setCell ⟨rb,4,none⟩ (.slice yo3 0 yc3)) (-2) 3
    rw[hs5]at q2
    have hbB:=(Below.refl (((((wl.setCell ⟨rb,0,none⟩ (.int .i64 4)).setCell ⟨rb,1,none⟩ (.slice lo3 1 lc3)).setCell ⟨rb,2,none⟩ (.slice xo3 0 xc3)).setCell ⟨rb,3,none⟩ (.slice go3 0 gc3)).setCell ⟨rb,4,none⟩ (.slice yo3 0 yc3)).heap.size (((((wl.setCell ⟨rb,0,none⟩ (.int .i64 4)).setCell ⟨rb,1,none⟩ (.slice lo3 1 lc3)).setCell ⟨rb,2,none⟩ (.slice xo3 0 xc3)).setCell ⟨rb,3,none⟩ (.slice go3 0 gc3)).setCell ⟨rb,4,none⟩ (.slice yo3 0 yc3))).alloc (Nat.le_refl _) (.cells #[.int .i64 (-2)] 3)
    refine(JS _ 4 [-2] [] [] [] lo3 lc3 xo3 xc3 go3 gc3 yo3 yc3 _ 1 none 0 none 0 none 0 (q1.below hbB) q2 (fun h=>absurd rfl h) (fun h=>absurd rfl h) (fun h=>absurd rfl h) (fun h=>absurd rfl h) (fun h=>absurd rfl h) (fun h=>absurd rfl h) (by simp) (by simp) (by simp) (by simp)).mono ?_
    rintro e w' ⟨rfl,hb'⟩
    have HE:=hide (hbA.trans ((hbB.trans (hb'.mono hbB.size)).mono hbA.size))
    clear hs5 oH hbA q1 q2 hbB hb' c0 c1 c2' c3 c4 d0 d1 d2 d3 d4
    go_wp2_with fail
    go_ret
    exact⟨rfl,ae HE⟩
end Go.Proofs.YthfjnfcekeknlabGreatDoor
