import Derived.Test.YthfjnfcekeknlaaGreatDoorSt42
import Derived.Test.YthfjnfcekeknlaaGreatDoorSt43
import Derived.Test.YthfjnfcekeknlaaGreatDoorSt44
set_option maxHeartbeats 8000000
set_option maxRecDepth 100000
namespace Go.Proofs.YthfjnfcekeknlaaGreatDoor
open Go.RowKit
theorem wG (w:World) (l:List Nat) (o:Option Addr) (c:Nat) (hr:kP w o c l) (hd:∀d∈l,d<1000000000) (hl:l.length≤1000):
 Calls Tryz.prog 16 #[.slice o l.length c] w fun e w'=>e= .returned (.string ⟨(Za.txL l).toArray⟩)∧Below w.heap.size w w':=by
 have HR:=hide hr
 have HD:=hide hd
 clear hr hd
 have HST:=hide (show∃j:Nat,l.length=j∧(Value.int .i64 ((l.length:Int) - 1))= .int .i64 ((j:Int) - 1)∧(Value.string ⟨#[110]⟩)= .string ⟨(Za.txL (l.drop j)).toArray⟩∧j≤l.length∧Below w.heap.size w w from ⟨l.length,rfl,rfl,by rw[List.drop_length];rfl,Nat.le_refl _,Below.refl _ _⟩)
 go_enter Tryz.func16,Tryz.ntmps16
 go_wp2_with fail
 go_loopg [3,4] l.length (fun k sv iv wr=>∃j:Nat,k=j∧iv= .int .i64 ((j:Int) - 1)∧sv= .string ⟨(Za.txL (l.drop j)).toArray⟩∧j≤l.length∧Below w.heap.size w wr)
 case atStart=>exact ae HST
 case round=>
  clear HST
  obtain⟨j,hkj,rfl,rfl,hjl,aM⟩:=hrel
  have aP:=hide hkj
  clear hkj
  have bJ:=hide aM
  have zb:=aM.size
  by_cases h0:j=0
  ·subst h0
   rw[List.drop_zero]
   generalize hX:Za.txL l=X at*
   have HX:=hide hX
   clear aM hX
   have t1:decide ((0:Int)≤((0:Nat):Int) - 1)=false:=by decide
   go_wp2_with fail
   go_ret
   exact⟨by rw[ae HX];rfl,ae bJ⟩
  ·obtain⟨i,rfl⟩:∃i,j=i+1:=⟨j - 1,by omega⟩
   have hil:i<l.length:=by omega
   obtain⟨g,off,rfl,gz,gc⟩:∃g off,o=some ⟨g,off,none⟩∧g<w.heap.size∧∀i (h:i<l.length),w.cell? ⟨g,off+i,none⟩=some (.int .i64 (l[i]:Int)):=by
    rcases ae HR with⟨_,q,_⟩ | ⟨g,off,h1,h2,_,_,h3⟩
    ·rw[q]at hil;simp at hil
    ·exact⟨g,off,h1,h2,h3⟩
   have f0:wr.cell? ⟨g,off+i,none⟩=some (.int .i64 (l[i]:Int)):=by
    rw[aM.cell (p:=⟨g,off+i,none⟩) gz,gc i hil]
   have gy:g<wr.heap.size:=by omega
   have e1:((i+1:Nat):Int) - 1=(i:Int):=by omega
   have t1:decide ((0:Int)≤(i:Int))=true:=by simp
   have i0:(0:Int)≤(i:Int):=by omega
   have i1:(i:Int)<(l.length:Int):=by omega
   have ID:=hide (decimalK l[i] (ae HD _ (List.getElem_mem hil)) wr)
   have x1:=Za.vQ (ae HD _ (List.getElem_mem hil))
   have x2:=Za.txL_len2 (l.drop (i+1)) (fun d hd=>ae HD d (List.mem_of_mem_drop hd))
   rw[List.length_drop]at x2
   have x3:(Za.txL (l.drop (i+1))).length≤1000000:=by omega
   have HT:=hide (show Za.txL (l.drop i)=[99,40]++Za.fM l[i]++[44]++Za.txL (l.drop (i+1))++[41]by rw[List.drop_eq_getElem_cons hil,Za.txL])
   rw[e1]
   generalize Za.txL (l.drop (i+1))=X at*
   generalize Za.fM l[i]=Y at*
   generalize (l[i]:Int)=y at*
   clear aM gc x2 e1
   go_wp2_with fail
   refine(ae ID).mono ?_
   rintro e w5 ⟨rfl,bu⟩
   have bS:=hide ((ae bJ).trans (bu.mono zb))
   clear bu
   go_wp2_with fail
   go_roundg (gk - 1)
   case measure=>have:=ae aP;omega
   case rel=>exact⟨i,by have:=ae aP;omega,by go_num,by rw[ae HT,←cJ,←cJ,←cJ,←cJ],by omega,ae bS⟩
theorem kP.cut {w:World} {g fa c:Nat} {l:List Nat} (hg:g<w.heap.size) (hc:l.length≤c) (hm:c≤9223372036854775807) (hf:∀i (h:i<l.length),w.cell? ⟨g,fa+i,none⟩=some (.int .i64 (l[i]:Int))) {j off:Nat} (hj:j≤l.length) (ho:j<c→off=fa+j):kP w (some ⟨g,off,none⟩) (c - j) (l.drop j):=by
 refine Or.inr ⟨g,off,rfl,hg,by rw[List.length_drop];omega,by omega,fun i hi=> ?_⟩
 rw[List.length_drop]at hi
 rw[ho (by omega),Nat.add_assoc,hf (j+i) (by omega),List.getElem_drop]
theorem sx_cut:∀j,j<5→(⟨#[65,66,67,68,69]⟩:ByteArray).extract j (j+1)=⟨[Za.sx j].toArray⟩:=by
 intro j hj
 match j,hj with
 | 0,_=>rfl
 | 1,_=>rfl
 | 2,_=>rfl
 | 3,_=>rfl
 | 4,_=>rfl
theorem Wm (W:World) (he:wq W) {a:List Nat} {y:Nat} (la:a.length≤4) (da:∀d∈a,d<10) (hy:y<10) {sq:ByteArray} (hq:sq=⟨(Za.l7 y++Za.qtE 0 a++[44,Za.sx a.length,61,110]).toArray⟩) {script:List (Int×Int)} {so:Option Addr} (sc:Nat) (hsc:pn W so script) (kA:∀p∈script,Nr p) (hsl:script.length≤100) {en:Int} {log:List Int} {vals gols:List (List UInt8)} {wts:List Bool} (hend:Za.pq [Za.app1,Za.app2] script (Za.kB 1 (Za.ay [] (Za.qA y :: Za.eqs 0 a)) (Za.qA y :: Za.eqs 0 a)) en log vals gols wts):
 Calls Tryz.prog 15 #[.string apB,.string sq,.slice so script.length sc] W fun e w'=>∃R,e= .returned (.tuple #[R,.int .i64 0])∧CZ w' W.heap.size R en log vals gols wts∧Below W.heap.size W w':=by
 have h1:=Za.qK (n:=y) (k:=0) (by omega)
 refine runK W he (by rw[Za.app_pr];rfl) (by decide) (by decide) Za.app_ok Za.app_mp (fun c hc=>by simp only[List.mem_cons,List.not_mem_nil,or_false]at hc;rcases hc with rfl | rfl<;>rfl) (by rw[hq,Za.Wh]) ?_ (by rw[Za.eqs_len];omega) (Za.Tq hy) (Za.eqs_ok a 0 (by omega) da) (by rw[List.map_cons,Za.eqs_mp,Za.Tt]) hsc kA hsl hend
 rw[hq]
 show (Za.l7 y++Za.qtE 0 a++[44,Za.sx a.length,61,110]).toArray.size≤96
 rw[List.size_toArray,List.length_append,List.length_append,Za.qtE_len a 0 da]
 unfold Za.l7
 simp
 omega
end Go.Proofs.YthfjnfcekeknlaaGreatDoor
