import Derived.Test.YthfjnfcekeknlabGreatDoorGu02
import Derived.Test.YthfjnfcekeknlabGreatDoorGu33
import Derived.Test.YthfjnfcekeknlabGreatDoorGu36
set_option maxHeartbeats 8000000
set_option maxRecDepth 100000
namespace Go.Proofs.YthfjnfcekeknlabGreatDoor
open Go.RowKit
structure wN (w:World):Prop where
 sg:dK w
 pos:0<w.heap.size
 pow:Pow w
theorem wN.below {w w':World} (h:wN w) (hb:Below w.heap.size w w'):wN w':=⟨h.sg.below hb h.pos,Nat.lt_of_lt_of_le h.pos hb.size,h.pow.below hb⟩
theorem runK (W:World) (he:wN W) {cs:List Zf.aI} {x:Zf.aD} {xs:List Zf.aD} {sp sq:ByteArray} {script:List (Int×Int)} {so:Option Addr} {sc:Nat} (hp:sp=⟨(Zf.prS cs).toArray⟩) (hps:sp.size≤240) (hcl:cs.length≤12) (hc:∀c∈cs,Zf.yg Zf.idS c) (hcm:cs.map (Zf.Bi Zf.idS)=cs) (hct:∀c∈cs,∀x∈c.tests,(x.right≠none∧(x.sign=[61,60]∨x.sign=[60]))) (hq:sq=⟨(Zf.iG Zf.idS false (x :: xs)).toArray⟩) (ue:sq.size≤96) (hxl:xs.length≤5) (hx:Zf.iR Zf.idS x) (hy:∀y∈xs,Zf.iR Zf.idS y) (Ey:(x :: xs).map (Zf.sJ Zf.idS)=x :: xs)
 (hsc:kF W so script) (ji:∀p∈script,(-9223372036854775808≤p.1∧p.1≤9223372036854775807)∧(-9223372036854775808≤p.2∧p.2≤9223372036854775807)) (hsl:script.length≤100) {en:Int} {log:List Int} {vals gols:List (List UInt8)} {wts:List Bool} (hend:Zf.pI cs script (Zf.jk 1 (Zf.ay [] (x :: xs)) (x :: xs)) en log vals gols wts):
 Calls Tryz.prog 8 #[.string sp,.string sq,.slice so script.length sc] W fun e w'=>∃R,e= .returned (.tuple #[R,.int .i64 0])∧Dk w' W.heap.size R en log vals gols wts∧Below W.heap.size W w':=by
 obtain⟨LP,hP,hPh,hPl⟩:=Zf.DY sp
 obtain⟨LQ,hQ,hQh,hQl⟩:=Zf.DY sq
 obtain⟨l1,e1⟩:=Zf.S7 hp hcl hc hP hPh
 obtain⟨l2,e2⟩:=Zf.PH hq hxl hx hy hQ hQh
 rw[hcm]at e1
 have hok:=TU (sp:=sp) (LP:=LP) hPl hQ hQh (fun cls l h=>by rw[e1]at h;cases h;exact hct)
 rw[Ey]at e2
 refine(Pz W sp LP sq LQ script so sc hP hPh hPl hQ hQh (fun h=>hQl (by omega)) he.sg he.pos he.pow hok hsc ji).mono fun e w' h=> ?_
 refine(PG hok h).ends ?_ hsl ?_ e1 e2 hend
 ·unfold ko
  rw[if_neg (by omega),e1]
  rfl
 ·unfold mD
  rw[if_neg (by omega),e2]
end Go.Proofs.YthfjnfcekeknlabGreatDoor
