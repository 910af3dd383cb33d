import Derived.Test.YthfjnfcekeknlaaGreatDoorSt02
import Derived.Test.YthfjnfcekeknlaaGreatDoorSt35
import Derived.Test.YthfjnfcekeknlaaGreatDoorSt39
set_option maxHeartbeats 8000000
set_option maxRecDepth 100000
namespace Go.Proofs.YthfjnfcekeknlaaGreatDoor
open Go.RowKit
structure wq (w:World):Prop where
 sg:dD w
 pos:0<w.heap.size
 pow:Pow w
theorem wq.below {w w':World} (h:wq w) (hb:Below w.heap.size w w'):wq w':=⟨h.sg.below hb h.pos,Nat.lt_of_lt_of_le h.pos hb.size,h.pow.below hb⟩
theorem runK (W:World) (he:wq W) {cs:List Za.aG} {x:Za.aC} {xs:List Za.aC} {sp sq:ByteArray} {script:List (Int×Int)} {so:Option Addr} {sc:Nat} (hp:sp=⟨(Za.prS cs).toArray⟩) (hps:sp.size≤240) (hcl:cs.length≤12) (hc:∀c∈cs,Za.yF Za.idS c) (hcm:cs.map (Za.C5 Za.idS)=cs) (hct:∀c∈cs,c.tests=[]) (hq:sq=⟨(Za.jl Za.idS false (x :: xs)).toArray⟩) (tH:sq.size≤96) (hxl:xs.length≤5) (hx:Za.ij Za.idS x) (hy:∀y∈xs,Za.ij Za.idS y) (Ee:(x :: xs).map (Za.qJ Za.idS)=x :: xs)
 (hsc:pn W so script) (kA:∀p∈script,(-9223372036854775808≤p.1∧p.1≤9223372036854775807)∧(-9223372036854775808≤p.2∧p.2≤9223372036854775807)) (hsl:script.length≤100) {en:Int} {log:List Int} {vals gols:List (List UInt8)} {wts:List Bool} (hend:Za.pq cs script (Za.kB 1 (Za.ay [] (x :: xs)) (x :: xs)) en log vals gols wts):
 Calls Tryz.prog 15 #[.string sp,.string sq,.slice so script.length sc] W fun e w'=>∃R,e= .returned (.tuple #[R,.int .i64 0])∧CZ w' W.heap.size R en log vals gols wts∧Below W.heap.size W w':=by
 obtain⟨LP,hP,hPh,hPl⟩:=Za.DD sp
 obtain⟨LQ,hQ,hQh,hQl⟩:=Za.DD sq
 obtain⟨l1,e1⟩:=Za.Sv hp hcl hc hP hPh
 obtain⟨l2,e2⟩:=Za.O5 hq hxl hx hy hQ hQh
 rw[hcm]at e1
 have hok:=Th (sp:=sp) (LP:=LP) hPl hQ hQh (fun cls l h=>by rw[e1]at h;cases h;exact hct)
 rw[Ee]at e2
 refine(OP W sp LP sq LQ script so sc hP hPh hPl hQ hQh (fun h=>hQl (by omega)) he.sg he.pos he.pow hok hsc kA).mono fun e w' h=> ?_
 refine(O0 hok h).ends ?_ hsl ?_ e1 e2 hend
 ·unfold jO
  rw[if_neg (by omega),e1]
  rfl
 ·unfold lZ
  rw[if_neg (by omega),e2]
end Go.Proofs.YthfjnfcekeknlaaGreatDoor
