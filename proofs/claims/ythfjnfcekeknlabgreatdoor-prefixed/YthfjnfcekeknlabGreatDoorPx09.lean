import Derived.Test.YthfjnfcekeknlabGreatDoorPx02
import Derived.Test.YthfjnfcekeknlabGreatDoorPx05
set_option maxHeartbeats 8000000
set_option maxRecDepth 100000
set_option linter.unusedSimpArgs false
namespace af
def xK (s:ByteArray) (l:List bX):Nat:=if 64<s.size then 1 else PF (whole l)
def fe (a b:Nat):Nat:=if a=0\/b=1 then b else a
theorem Cb {l:List bX} {er ps:Nat} (h:whole l= .inl (er,ps)):er=2\/er=3:=by
 unfold whole at h;rcases hq:term 8 l with e | ⟨t,l1⟩
 ·rw[hq]at h;cases h;exact Gq 8 l _ hq
 ·rw[hq]at h;dsimp only at h;split at h
  ·cases h
  ·cases h;omega
end af
namespace Go.Proofs.YthfjnfcekeknlabGreatDoor
open Go.RowKit af
theorem nf (w:World) (a b:Nat):
 Calls Tryz.prog 44 #[.int .i64 (a:Int),.int .i64 (b:Int)] w fun e w'=>e= .returned (.int .i64 (fe a b:Int))/\w'=w:=by
 by_cases h1:a=0
 ·subst h1;go_enter Tryz.func44,Tryz.ntmps44;go_wp2_with fail;go_ret;exact⟨by simp[fe],rfl⟩
 ·have t1:((a:Int) == 0)=false:=by simpa using h1
  by_cases h2:b=1
  ·subst h2;have HS:=ah (show fe a 1=1 by simp[fe])
   clear h1;go_enter Tryz.func44,Tryz.ntmps44;go_wp2_with fail;go_ret;exact⟨by rw[ae HS];rfl,rfl⟩
  ·have t2:((b:Int) == 1)=false:=by simp;omega
   have HS:=ah (show fe a b=a by unfold fe;rw[aG (by omega)])
   clear h1 h2;go_enter Tryz.func44,Tryz.ntmps44;go_wp2_with fail;go_ret;exact⟨by rw[ae HS];rfl,rfl⟩
def Qg (s:ByteArray) (L:List bX) (w:World) (e:Ending) (w':World):Prop:=
 ∃(a:AV) (no:Option Addr) (nl nc:Nat),e= .returned (.agg #[.int .i64 a.k,.int .i64 a.val,.string a.tx,.slice a.ao a.n a.cap,.slice no nl nc,.int .i64 (xK s L:Int)])/\
  (∀t l1,s.size<=64->whole L= .inr (t,l1)->∃ns:List ByteArray,RA 8 (dj ns) fk w' a t/\dj ns=aP 8 [] t/\w'.ownsRow w.heap.size 9 1 (.slice no nl nc) ns.length (ns.map Value.string))/\Below w.heap.size w w'
theorem wF (w:World) (s:ByteArray) (L:List bX) (hL:eM s L) (hh:af.hd L=af.next s 0) (hl:s.size<=64->L.length<=1000) (hsg:fu w) (h0:0<w.heap.size):
 Calls Tryz.prog 43 #[.string s] w fun e w'=>Qg s L w e w':=by
 by_cases hs:64<s.size
 ·refine(Kt w s hs).mono ?_;rintro e w' ⟨rfl,hb⟩;exact⟨⟨0,0,⟨#[]⟩,none,0,0⟩,none,0,0,by unfold xK;rw[aH hs];rfl,fun _ _ h=>absurd h (by omega),hb⟩
 ·refine(M4 w s L (by omega) hL hh (hl (by omega)) hsg h0).mono ?_;rintro e w' ⟨a,no,nl,nc,rfl,hr,hb⟩;refine⟨a,no,nl,nc,by unfold xK;rw[aG hs],fun t l1 _ h=> ?_,hb⟩;rw[h]at hr;exact hr
