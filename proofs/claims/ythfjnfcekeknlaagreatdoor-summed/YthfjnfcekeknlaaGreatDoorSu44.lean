import Derived.Test.YthfjnfcekeknlaaGreatDoorSu02
import Derived.Test.YthfjnfcekeknlaaGreatDoorSu42
import Derived.Test.YthfjnfcekeknlaaGreatDoorSu43
set_option maxHeartbeats 8000000
set_option maxRecDepth 100000
namespace Go.Proofs.YthfjnfcekeknlaaGreatDoor
open Go.RowKit
structure wR (w:World):Prop where
 sg:dM w
 pos:0<w.heap.size
 pow:Pow w
theorem wR.below {w w':World} (h:wR w) (hb:Below w.heap.size w w'):wR w':=⟨h.sg.below hb h.pos,Nat.lt_of_lt_of_le h.pos hb.size,h.pow.below hb⟩
theorem Wa (W:World) (he:wR W) {cs:List Za.aL} {x:Za.aH} {xs:List Za.aH} {sp sq:ByteArray} {script:List (Int×Int)} {so:Option Addr} {sc:Nat} (rU:sp.size≤240) (xR:∀L,Za.dT sp L→Za.hd L=Za.next sp 0→∃l1,Za.prog 12 L= .inr (cs,l1)) (Ef:∀c∈cs,c.tests=[]) (hq:sq=⟨(Za.jf Za.idS false (x :: xs)).toArray⟩) (uq:sq.size≤96) (n7:xs.length≤5) (hx:Za.ju Za.idS x) (hy:∀y∈xs,Za.ju Za.idS y) (Ea:(x :: xs).map (Za.sR Za.idS)=x :: xs)
 (hsc:qE W so script) (kP:∀p∈script,(-9223372036854775808≤p.1∧p.1≤9223372036854775807)∧(-9223372036854775808≤p.2∧p.2≤9223372036854775807)) (ly:script.length≤100) {en:Int} {log:List Int} {vals gols:List (List UInt8)} {wts:List Bool} (hend:Za.rJ cs script (Za.kQ 1 (Za.aD [] (x :: xs)) (x :: xs)) en log vals gols wts):
 Calls Tryz.prog 15 #[.string sp,.string sq,.slice so script.length sc] W fun e w'=>∃R,e= .returned (.tuple #[R,.int .i64 0])∧CZ w' W.heap.size R en log vals gols wts∧Below W.heap.size W w':=by
 obtain⟨LP,hP,hPh,hPl⟩:=Za.Dx sp
 obtain⟨LQ,hQ,hQh,hQl⟩:=Za.Dx sq
 obtain⟨l1,e1⟩:=xR LP hP hPh
 have aF:=S9 (sp:=sp) (LP:=LP) hPl hQ hQh (fun cls l h=>by rw[e1]at h;cases h;exact Ef)
 obtain⟨l2,e2⟩:=Za.Ox hq n7 hx hy hQ hQh
 rw[Ea]at e2
 refine(Oy W sp LP sq LQ script so sc hP hPh hPl hQ hQh (fun h=>hQl (by omega)) he.sg he.pos he.pow aF hsc kP).mono fun e w' h=> ?_
 refine(OD aF h).ends ?_ ly ?_ e1 e2 hend
 ·unfold kq
  rw[if_neg (by omega),e1]
  rfl
 ·unfold mr
  rw[if_neg (by omega),e2]
end Go.Proofs.YthfjnfcekeknlaaGreatDoor
