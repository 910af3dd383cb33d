import Derived.Test.YthfjnfcekeknlabGreatDoorPx0k
import Derived.Laws.Strings
import Derived.Lib.ItoaNum
import Derived.Lib.Strings
import Derived.Test.YthfjnfcekeknlabGreatDoorRows
import Derived.WalkKit
import Derived.WalkLawsBesides
import Derived.WalkSpells
import Derived.Deep.QuietTactic
import Derived.BigQuiet
import Derived.Deep.RegionWith
import Derived.OpenShut
set_option maxHeartbeats 8000000
set_option maxRecDepth 100000
set_option linter.unusedSimpArgs false
namespace af
variable {s:ByteArray} {i k p n:Nat} {g m t2 t:Bool} {α:Type} {e:Nat×Nat}
def g6 (s:ByteArray) (i:Nat):Nat:=if h:i<s.size then(s[i]'h).toNat else 0
def low (c:Nat):Bool:=decide (97<=c)&&decide (c<=122)
def re (c:Nat):Bool:=decide (65<=c)&&decide (c<=90)
def pX (c:Nat):Bool:=decide (48<=c)&&decide (c<=57)
def blank (c:Nat):Bool:=c == 32||c == 10
def qM (s:ByteArray):Nat->Nat->Nat
 | 0,i=>i
 | n+1,i=>if i<s.size/\blank (g6 s i)=true then qM s n (i+1)else i
def skip (s:ByteArray) (i:Nat):Nat:=qM s (s.size - i) i
def e9 (k:Nat) (c:Nat):Bool:=
 if k=2 then low c||pX c else if k=3 then low c||pX c||re c else pX c
def lD (s:ByteArray) (k:Nat):Nat->Nat->Nat
 | 0,i=>i
 | n+1,i=>if i<s.size/\e9 k (g6 s i)=true then lD s k n (i+1)else i
def eE (s:ByteArray) (k i:Nat):Nat:=lD s k (s.size - i) i
def eJ (a b:Nat):Bool:=
 (a == 58&&b == 45)||(a == 58&&b == 61)||(a == 61&&b == 61)||(a == 92&&b == 61)||(a == 61&&b == 60)
def fQ (a:Nat):Bool:=
 a == 61||a == 60||a == 43||a == 45||a == 42||a == 40||a == 41||a == 44||a == 124||a == 46
def dZ (s:ByteArray) (i:Nat):Nat:=
 if i+1<s.size/\eJ (g6 s i) (g6 s (i+1))=true then 2
 else if i<s.size/\fQ (g6 s i)=true then 1 else 0
def cD (s:ByteArray) (i:Nat):Nat:=
 if s.size<=i then 0
 else if low (g6 s i)=true then 2
 else if re (g6 s i)=true then 3
 else if pX (g6 s i)=true then 4
 else if 0<dZ s i then 5 else 1
def ft (s:ByteArray) (i:Nat):Nat:=
 if cD s i=0 then i
 else if cD s i=1 then i+1
 else if cD s i=5 then i+dZ s i
 else eE s (cD s i) i
structure bX where
 kind:Nat
 pos:Nat
 text:ByteArray
def next (s:ByteArray) (p:Nat):bX:=
 let i:=skip s p
 if s.size<=i then⟨0,s.size,ByteArray.empty⟩else⟨cD s i,i,s.extract i (ft s i)⟩
def eM (s:ByteArray):List bX->Prop
 | []=>False
 | [t]=>t.kind=0
 | t :: u :: r=>t.kind≠0/\u=next s (t.pos+t.text.size)/\eM s (u :: r)
abbrev jM (α:Type):=Sum (Nat×Nat) (α×List bX)
def hd (l:List bX):bX:=l.headD ⟨0,0,ByteArray.empty⟩
def sees (l:List bX) (g:List UInt8):Bool:=(hd l).kind == 5&&(hd l).text.toList == g
def bad {α:Type} (e:Nat) (l:List bX):jM α:= .inl (e,(hd l).pos)
structure Tm where
 kind:Nat
 text:ByteArray
 args:List Tm
def cE (p:List bX->jM Tm):Nat->List bX->jM (List Tm)
 | k,l=>
  match p l with
  | .inl e=> .inl e
  | .inr (t,l1)=>
   if sees l1 [44]=true then
    match k with
    | 0=>bad 3 l1
    | k+1=>
     match cE p k l1.tail with
     | .inl e=> .inl e
     | .inr (ts,l2)=> .inr (t :: ts,l2)
   else if sees l1 [41]=true then .inr ([t],l1.tail)else bad 2 l1
def ez (t:bX):Bool:=t.kind == 2||t.kind == 3||t.kind == 4
def term:Nat->List bX->jM Tm
 | 0,l=>if ez (hd l)=true then bad 3 l else bad 2 l
 | f+1,l=>
  if ez (hd l)=true then
   if(hd l).kind=4/\6<(hd l).text.size then bad 3 l
   else if(hd l).kind=2 then
    if sees l.tail [40]=true then
     match cE (term f) 2 l.tail.tail with
     | .inl e=> .inl e
     | .inr (ts,l2)=> .inr (⟨2,(hd l).text,ts⟩,l2)
    else .inr (⟨2,(hd l).text,[]⟩,l.tail)
   else .inr (⟨(hd l).kind,(hd l).text,[]⟩,l.tail)
  else bad 2 l
structure dq where
 left:Tm
 sign:List UInt8
 right:Option Tm
 op:List UInt8
 last:Option Tm
def dd (l:List bX):Bool:=sees l [60]||sees l [61,60]||sees l [61,61]||sees l [92,61]
def ig (l:List bX):Bool:=sees l [43]||sees l [45]||sees l [42]
def isInt (t:Tm):Bool:=t.kind == 2&&t.text.toList == [105,110,116]&&t.args.length == 1
def operand (l:List bX):jM Tm:=if(hd l).kind=2 then bad 2 l else term 8 l
def sides (left:Tm) (fits:Bool) (l:List bX):jM dq:=
 if fits=true then
  match term 8 l.tail with
  | .inl e=> .inl e
  | .inr (r,l2)=> .inr (⟨left,(hd l).text.toList,some r,[],none⟩,l2)
 else bad 2 l
def assignment (left:Tm) (fits:Bool) (l:List bX):jM dq:=
 if fits=true then
  match operand l.tail with
  | .inl e=> .inl e
  | .inr (r,l2)=>
   if ig l2=true then
    match operand l2.tail with
    | .inl e=> .inl e
    | .inr (z,l3)=> .inr (⟨left,(hd l).text.toList,some r,(hd l2).text.toList,some z⟩,l3)
   else .inr (⟨left,(hd l).text.toList,some r,[],none⟩,l2)
 else bad 2 l
def item (tests goals:Bool) (l:List bX):jM (dq×Bool×Bool):=
 match term 8 l with
 | .inl e=> .inl e
 | .inr (t,l1)=>
  if dd l1=true then
   match sides t tests l1 with
   | .inl e=> .inl e
   | .inr (x,l2)=> .inr ((x,tests,false),l2)
  else if sees l1 [61]=true then
   match sides t goals l1 with
   | .inl e=> .inl e
   | .inr (x,l2)=> .inr ((x,false,goals),l2)
  else if t.kind=3/\sees l1 [58,61]=true then
   match assignment t goals l1 with
   | .inl e=> .inl e
   | .inr (x,l2)=> .inr ((x,false,goals),l2)
  else if t.kind=2/\((tests&&isInt t)||goals)=true then
   .inr ((⟨t,[],none,[],none⟩,tests&&isInt t,goals),l1)
  else bad 2 l1
def items:Nat->Bool->Bool->List bX->jM (List dq×Bool×Bool)
 | k,tests,goals,l=>
  match item tests goals l with
  | .inl e=> .inl e
  | .inr ((x,t1,g1),l1)=>
   if sees l1 [44]=true then
    match k with
    | 0=>bad 3 l1
    | k+1=>
     match items k t1 g1 l1.tail with
     | .inl e=> .inl e
     | .inr ((xs,t2,g2),l2)=> .inr ((x :: xs,t2,g2),l2)
   else .inr (([x],t1,g1),l1)
structure dE where
 head:Tm
 tests:List dq
 goals:List dq
def body (l:List bX):jM (List dq×List dq):=
 match items 5 true true l with
 | .inl e=> .inl e
 | .inr ((xs,t,g),l1)=>
  if t=true/\sees l1 [124]=true then
   match items 5 false true l1.tail with
   | .inl e=> .inl e
   | .inr ((ys,_,g2),l2)=>if g2=true then .inr ((xs,ys),l2)else bad 2 l2
  else if g=true then .inr (([],xs),l1)else bad 2 l1
def stop {α:Type} (x:α) (l:List bX):jM α:=if sees l [46]=true then .inr (x,l.tail)else bad 2 l
def clause (more:Bool) (l:List bX):jM dE:=
 if(hd l).kind=2 then
  if more=true then
   match term 8 l with
   | .inl e=> .inl e
   | .inr (h,l1)=>
    if sees l1 [58,45]=true then
     match body l1.tail with
     | .inl e=> .inl e
     | .inr ((ts,gs),l2)=>stop ⟨h,ts,gs⟩ l2
    else stop ⟨h,[],[]⟩ l1
  else bad 3 l
 else bad 2 l
def prog:Nat->List bX->jM (List dE)
 | k,l=>
  if(hd l).kind=0 then .inr ([],l)
  else match k with
   | 0=>match clause false l with
    | .inl e=> .inl e
    | .inr (c,l1)=> .inr ([c],l1)
   | k+1=>
    match clause true l with
    | .inl e=> .inl e
    | .inr (c,l1)=>
     match prog k l1 with
     | .inl e=> .inl e
     | .inr (cs,l2)=> .inr (c :: cs,l2)
theorem je (h:i<s.size):g6 s i=(s[i]'h).toNat:=by simp[g6,h]
theorem uU (h:i<s.size) (hb:blank (g6 s i)=true):skip s i=skip s (i+1):=by unfold skip;rw[show s.size - i=(s.size - (i+1))+1 by omega,qM,aH ⟨h,hb⟩]
theorem nF (h:¬(i<s.size/\blank (g6 s i)=true)):skip s i=i:=by
 unfold skip;cases hn:s.size - i with
 | zero=>rfl
 | succ n=>rw[qM,aG h]
theorem GD (s:ByteArray) (n i:Nat):i<=qM s n i:=by
 induction n generalizing i with
 | zero=>exact Qw
 | succ n ih=>
  rw[qM];split
  ·have:=ih (i+1);omega
  ·omega
theorem nG (s:ByteArray) (i:Nat):i<=skip s i:=GD _ _ _
theorem GC (s:ByteArray) (n i:Nat) (h:i<=s.size):qM s n i<=s.size:=by
 induction n generalizing i with
 | zero=>exact h
 | succ n ih=>
  rw[qM];split
  ·exact ih _ (by omega)
  ·exact h
theorem Kp (h:i<=s.size):skip s i<=s.size:=GC _ _ _ h
theorem l9 (h:i<s.size) (hb:e9 k (g6 s i)=true):eE s k i=eE s k (i+1):=by unfold eE;rw[show s.size - i=(s.size - (i+1))+1 by omega,lD,aH ⟨h,hb⟩]
theorem l7 (h:¬(i<s.size/\e9 k (g6 s i)=true)):eE s k i=i:=by
 unfold eE;cases hn:s.size - i with
 | zero=>rfl
 | succ n=>rw[lD,aG h]
theorem F5 (s:ByteArray) (k n i:Nat):i<=lD s k n i:=by
 induction n generalizing i with
 | zero=>exact Qw
 | succ n ih=>
  rw[lD];split
  ·have:=ih (i+1);omega
  ·omega
theorem Ca (s:ByteArray) (k i:Nat):i<=eE s k i:=F5 _ _ _ _
theorem F4 (s:ByteArray) (k n i:Nat) (h:i<=s.size):lD s k n i<=s.size:=by
 induction n generalizing i with
 | zero=>exact h
 | succ n ih=>
  rw[lD];split
  ·exact ih _ (by omega)
  ·exact h
theorem B' (h:i<=s.size):eE s k i<=s.size:=F4 _ _ _ _ h
theorem wB (h:i<=s.size):i+dZ s i<=s.size:=by unfold dZ;split<;>(try split)<;>omega
theorem Fl (s:ByteArray) (i:Nat):cD s i<=5:=by
 unfold cD
 repeat' split
 all_goals omega
theorem m5:cD s i=0↔s.size<=i:=by
 unfold cD;repeat' split
 all_goals simp_all
theorem ng (h:i<s.size):i<ft s i:=by
 unfold ft;have h0:cD s i≠0:=by rw[Ne,m5];omega
 rw[aG h0];by_cases h1:cD s i=1
 ·rw[aH h1];omega
 ·rw[aG h1];by_cases h5:cD s i=5
  ·rw[aH h5];unfold cD at h5;rw[aG (by omega)]at h5;by_cases hp:0<dZ s i
   ·omega
   ·repeat' split at h5
    all_goals omega
  ·rw[aG h5]
   have hw:e9 (cD s i) (g6 s i)=true:=by
    unfold cD at h0 h1 h5⊢;rw[aG (by omega)]at h0 h1 h5⊢;by_cases a:low (g6 s i)=true
    ·simp[a,e9]
    ·rw[aG a]at h0 h1 h5⊢;by_cases b:re (g6 s i)=true
     ·simp[b,e9]
     ·rw[aG b]at h0 h1 h5⊢;by_cases c:pX (g6 s i)=true
      ·simp[c,e9]
      ·rw[aG c]at h0 h1 h5;by_cases d:0<dZ s i
       ·rw[aH d]at h5;exact absurd rfl h5
       ·rw[aG d]at h1;exact absurd rfl h1
   rw[l9 h hw];have:=Ca s (cD s i) (i+1);omega
theorem tJ (h:i<s.size):ft s i<=s.size:=by
 unfold ft
 repeat' split
 ·omega
 ·omega
 ·exact wB (by omega)
 ·exact B' (by omega)
theorem sP (h:s.size<=skip s p):next s p=⟨0,s.size,ByteArray.empty⟩:=by simp[next,h]
theorem mV {s:ByteArray} {p:Nat} (h:skip s p<s.size):next s p=⟨cD s (skip s p),skip s p,s.extract (skip s p) (ft s (skip s p))⟩:=by simp[next,show¬s.size<=skip s p by omega]
theorem sO (h:skip s p<s.size):(next s p).text.size=ft s (skip s p) - skip s p:=by rw[mV h];simp[fV];have:=tJ h;omega
theorem lm {s:ByteArray} {p:Nat} (h:skip s p<s.size):(next s p).pos+(next s p).text.size=ft s (skip s p):=by rw[sO h,mV h];have:=ng h;simp;omega
theorem kA:(next s p).kind=0↔s.size<=skip s p:=by
 by_cases h:s.size<=skip s p
 ·simp[sP h,h]
 ·rw[mV (by omega)];simp[m5]
theorem qq {s:ByteArray} {p:Nat}:(next s p).pos+(next s p).text.size<=s.size:=by
 by_cases h:skip s p<s.size
 ·rw[lm h];exact tJ h
 ·rw[sP (by omega)];simp
theorem Jc (s:ByteArray) (n p:Nat) (h:s.size - p<=n):∃l,eM s (next s p :: l):=by
 induction n generalizing p with
 | zero=>exact⟨[],by rw[eM,kA];have:=nG s p;omega⟩
 | succ n ih=>
  by_cases hk:s.size<=skip s p
  ·exact⟨[],by rw[eM,kA];exact hk⟩
  ·have hk':skip s p<s.size:=by omega
   have hb:=lm hk';have hg:=ng hk';have hs:=nG s p;obtain⟨l,hl⟩:=ih ((next s p).pos+(next s p).text.size) (by omega);exact⟨next s ((next s p).pos+(next s p).text.size) :: l,fun e=>hk (kA.1 e),rfl,hl⟩
theorem eM.tail {s:ByteArray} {l:List bX} (h:eM s l) (h0:(hd l).kind≠0):eM s l.tail/\hd l.tail=next s ((hd l).pos+(hd l).text.size)/\l=hd l :: l.tail:=by
 match l,h with
 | [t],h=>exact absurd h h0
 | t :: u :: r,h=>exact⟨h.2.2,h.2.1,rfl⟩
theorem d8 {l:List bX} {g:List UInt8} (h:sees l g=true):(hd l).kind=5:=by simp[sees]at h;exact h.1
def pF (p:List bX->jM Tm) (k:Nat) (l1:List bX):jM (List Tm):=
 if sees l1 [44]=true then(match k with
  | 0=>bad 3 l1
  | k+1=>cE p k l1.tail)
 else if sees l1 [41]=true then .inr ([],l1.tail)else bad 2 l1
def G1 (ts:List Tm) (r:jM (List Tm)):jM (List Tm):=match r with
 | .inl e=> .inl e
 | .inr (us,l2)=> .inr (ts++us,l2)
theorem vR (p:List bX->jM Tm) (k:Nat) (l:List bX):cE p k l=match p l with
 | .inl e=> .inl e
 | .inr (t,l1)=>G1 [t] (pF p k l1):=by
 unfold cE pF;rcases p l with e | ⟨t,l1⟩
 ·rfl
 ·dsimp only;by_cases hc:sees l1 [44]=true
  ·rw[aH hc,aH hc];cases k with
   | zero=>rfl
   | succ k=>dsimp only;rcases cE p k l1.tail with e | ⟨us,l2⟩<;>rfl
  ·rw[aG hc,aG hc];by_cases hb:sees l1 [41]=true
   ·rw[aH hb,aH hb];rfl
   ·rw[aG hb,aG hb];rfl
theorem C9 {p:List bX->jM Tm} (hp:∀l e,p l= .inl e->e.1=2\/e.1=3):∀k l e,cE p k l= .inl e->e.1=2\/e.1=3:=by
 intro k;induction k with
 | zero=>
  intro l e h;rw[vR]at h;rcases hr:p l with x | ⟨t,l1⟩
  ·rw[hr]at h;injection h with h;subst h;exact hp _ _ hr
  ·rw[hr]at h;dsimp only at h;unfold pF at h;by_cases hc:sees l1 [44]=true
   ·rw[aH hc]at h;simp only[G1,bad,vX]at h;subst h;exact aw rfl
   ·rw[aG hc]at h;by_cases hb:sees l1 [41]=true
    ·rw[aH hb]at h;cases h
    ·rw[aG hb]at h;simp only[G1,bad,vX]at h;subst h;exact ay rfl
 | succ k ih=>
  intro l e h;rw[vR]at h;rcases hr:p l with x | ⟨t,l1⟩
  ·rw[hr]at h;injection h with h;subst h;exact hp _ _ hr
  ·rw[hr]at h;dsimp only at h;unfold pF at h;by_cases hc:sees l1 [44]=true
   ·rw[aH hc]at h;dsimp only at h;rcases hq:cE p k l1.tail with x | ⟨us,l2⟩
    ·rw[hq]at h;simp only[G1,vX]at h;subst h;exact ih _ _ hq
    ·rw[hq]at h;cases h
   ·rw[aG hc]at h;by_cases hb:sees l1 [41]=true
    ·rw[aH hb]at h;cases h
    ·rw[aG hb]at h;simp only[G1,bad,vX]at h;subst h;exact ay rfl
theorem Gq:∀f l e,term f l= .inl e->e.1=2\/e.1=3:=by
 intro f;induction f with
 | zero=>
  intro l e h;rw[term]at h;by_cases hb:ez (hd l)=true
  ·rw[aH hb]at h;injection h with h;subst h;exact aw rfl
  ·rw[aG hb]at h;injection h with h;subst h;exact ay rfl
 | succ f ih=>
  intro l e h;rw[term]at h;by_cases hb:ez (hd l)=true
  ·rw[aH hb]at h;by_cases hl:(hd l).kind=4/\6<(hd l).text.size
   ·rw[aH hl]at h;injection h with h;subst h;exact aw rfl
   ·rw[aG hl]at h;by_cases hk:(hd l).kind=2
    ·rw[aH hk]at h;by_cases hs:sees l.tail [40]=true
     ·rw[aH hs]at h;rcases hq:cE (term f) 2 l.tail.tail with x | ⟨us,l2⟩
      ·rw[hq]at h;injection h with h;subst h;exact C9 ih _ _ _ hq
      ·rw[hq]at h;cases h
     ·rw[aG hs]at h;cases h
    ·rw[aG hk]at h;cases h
  ·rw[aG hb]at h;injection h with h;subst h;exact ay rfl
def Ay (ys:List dq) (r:jM (List dq×Bool×Bool)):jM (List dq×Bool×Bool):=match r with
 | .inl e=> .inl e
 | .inr ((xs,t,g),l2)=> .inr ((ys++xs,t,g),l2)
theorem G2 (r:jM (List dq×Bool×Bool)):Ay [] r=r:=by rcases r with e | ⟨⟨us,t,g⟩,l2⟩<;>rfl
theorem E0 (a b:List dq) (r:jM (List dq×Bool×Bool)):Ay a (Ay b r)=Ay (a++b) r:=by rcases r with e | ⟨⟨us,t,g⟩,l2⟩<;>simp[Ay]
theorem Ah {x:α} {l:List bX} (h:sees l [46]=true):stop x l= .inr (x,l.tail):=by unfold stop;rw[aH h]
theorem DA {x:α} {l:List bX} (h:sees l [46]=false):stop x l=bad 2 l:=by unfold stop;rw[aG (by simp[h])]
theorem Bt {l:List bX} (h:(hd l).kind≠2):clause m l=bad 2 l:=by unfold clause;rw[aG h]
theorem Bu {l:List bX} (h:(hd l).kind=2):clause false l=bad 3 l:=by unfold clause;rw[aH h,aG (by simp)]
theorem CY {l:List bX} (h:(hd l).kind=2) (hT:term 8 l= .inl e):clause true l= .inl e:=by unfold clause;rw[aH h,aH rfl,hT]
theorem Bv {l l1:List bX} {t:Tm} (h:(hd l).kind=2) (hT:term 8 l= .inr (t,l1)) (hn:sees l1 [58,45]=false):clause true l=stop ⟨t,[],[]⟩ l1:=by unfold clause;rw[aH h,aH rfl,hT];dsimp only;rw[aG (by simp[hn])]
theorem Bx {l l1:List bX} {t:Tm} (h:(hd l).kind=2) (hT:term 8 l= .inr (t,l1)) (hn:sees l1 [58,45]=true) (hb:body l1.tail= .inl e):clause true l= .inl e:=by unfold clause;rw[aH h,aH rfl,hT];dsimp only;rw[aH hn,hb]
theorem Bw {l l1 l2:List bX} {t:Tm} {ts gs:List dq} (h:(hd l).kind=2) (hT:term 8 l= .inr (t,l1)) (hn:sees l1 [58,45]=true) (hb:body l1.tail= .inr ((ts,gs),l2)):clause true l=stop ⟨t,ts,gs⟩ l2:=by unfold clause;rw[aH h,aH rfl,hT];dsimp only;rw[aH hn,hb]
theorem Jk {l:List bX} (h:items 5 true true l= .inl e):body l= .inl e:=by unfold body;rw[h]
theorem pI {l l1:List bX} {xs:List dq} (h:items 5 true true l= .inr ((xs,true,g),l1)) (hb:sees l1 [124]=true) (h2:items 5 false true l1.tail= .inl e):body l= .inl e:=by unfold body;rw[h];dsimp only;rw[aH ⟨rfl,hb⟩,h2]
theorem BC {l l1 l2:List bX} {xs ys:List dq} (h:items 5 true true l= .inr ((xs,true,g),l1)) (hb:sees l1 [124]=true) (h2:items 5 false true l1.tail= .inr ((ys,t2,true),l2)):body l= .inr ((xs,ys),l2):=by unfold body;rw[h];dsimp only;rw[aH ⟨rfl,hb⟩,h2];rfl
theorem qW {l l1 l2:List bX} {xs ys:List dq} (h:items 5 true true l= .inr ((xs,true,g),l1)) (hb:sees l1 [124]=true) (h2:items 5 false true l1.tail= .inr ((ys,t2,false),l2)):body l=bad 2 l2:=by unfold body;rw[h];dsimp only;rw[aH ⟨rfl,hb⟩,h2];rfl
theorem tP {l l1:List bX} {xs:List dq} (h:items 5 true true l= .inr ((xs,t,true),l1)) (hb:¬(t=true/\sees l1 [124]=true)):body l= .inr (([],xs),l1):=by unfold body;rw[h];dsimp only;rw[aG hb,aH rfl]
theorem oj {l l1:List bX} {xs:List dq} (h:items 5 true true l= .inr ((xs,t,false),l1)) (hb:¬(t=true/\sees l1 [124]=true)):body l=bad 2 l1:=by unfold body;rw[h];dsimp only;rw[aG hb,aG (by simp)]
def Co (ys:List dE) (r:jM (List dE)):jM (List dE):=match r with
 | .inl e=> .inl e
 | .inr (xs,l2)=> .inr (ys++xs,l2)
theorem G3 (r:jM (List dE)):Co [] r=r:=by rcases r with e | ⟨us,l2⟩<;>rfl
theorem E4 (a b:List dE) (r:jM (List dE)):Co a (Co b r)=Co (a++b) r:=by rcases r with e | ⟨us,l2⟩<;>simp[Co]
theorem G0 {l:List bX} (h:(hd l).kind=0):prog k l= .inr ([],l):=by unfold prog;rw[aH h]
theorem xr (l:List bX):∃e,clause false l= .inl e:=by
 unfold clause;by_cases h:(hd l).kind=2
 ·rw[aH h,aG (by simp)];exact⟨_,rfl⟩
 ·rw[aG h];exact⟨_,rfl⟩
theorem GZ {l:List bX} (hn:n<=12) (h:(hd l).kind≠0) (hc:clause (decide (n<12)) l= .inl e):prog (12 - n) l= .inl e:=by
 by_cases h12:n<12
 ·rw[show 12 - n=(12 - (n+1))+1 by omega,prog,aG h];rw[eN h12]at hc;rw[hc]
 ·rw[show 12 - n=0 by omega,prog,aG h];rw[dK h12]at hc;rw[hc]
theorem EZ {l l1:List bX} {c:dE} (h:(hd l).kind≠0) (hc:clause (decide (n<12)) l= .inr (c,l1)):n<12/\prog (12 - n) l=Co [c] (prog (12 - (n+1)) l1):=by
 by_cases h12:n<12
 ·refine⟨h12,?_⟩;rw[show 12 - n=(12 - (n+1))+1 by omega,prog,aG h];rw[eN h12]at hc;rw[hc];dsimp only;rcases prog (12 - (n+1)) l1 with e | ⟨us,l2⟩<;>rfl
 ·rw[dK h12]at hc;obtain⟨e,he⟩:=xr l;rw[he]at hc;cases hc
def Iy (r:jM (List dE)):Nat:=match r with
 | .inl e=>e.1
 | .inr _=>0
def posOf (r:jM (List dE)):Nat:=match r with
 | .inl e=>e.2
 | .inr _=>0
def oG (l:List UInt8):Nat:=l.foldl (fun v b=>v*10+(b.toNat+208) % 256) 0
def numOf (x:ByteArray):Nat:=oG x.toList
theorem qn (l:List UInt8) (b:UInt8):oG (l++[b])=oG l*10+(b.toNat+208) % 256:=by simp[oG]
theorem K6 (l:List UInt8):∀v m:Nat,9*v+255<=255*m->9*l.foldl (fun v b=>v*10+(b.toNat+208) % 256) v+255<=255*(m*10 ^ l.length):=by
 induction l with
 | nil=>intro v m h;simpa using h
 | cons b r ih=>intro v m h;have:=ih (v*10+(b.toNat+208) % 256) (m*10) (by omega);rw[bF,aT,fU,gQ (10 ^ r.length) 10,<-fB m 10];exact this
theorem DR (l:List UInt8) (h:l.length<=6):oG l<=28333333:=by have:=K6 l 0 1 (by omega);have h6:10 ^ l.length<=10 ^ 6:=Nat.pow_le_pow_right (by omega) h;unfold oG;generalize 10 ^ l.length=q at*;omega
end af
namespace Go.Proofs.YthfjnfcekeknlabGreatDoor
open af
def eO {α β:Type} (R:α->β->Prop):List α->List β->Prop
 | [],[]=>True
 | a :: xs,b :: ys=>R a b/\eO R xs ys
 | _,_=>False
theorem eO.imp {α β:Type} {R S:α->β->Prop} (h:∀a b,R a b->S a b):∀{xs:List α} {ys:List β},eO R xs ys->eO S xs ys
 | [],[],_=>trivial
 | _ :: _,_ :: _,q=>⟨h _ _ q.1,eO.imp h q.2⟩
theorem eO.length {α β:Type} {R:α->β->Prop}:∀{xs:List α} {ys:List β},eO R xs ys->xs.length=ys.length
 | [],[],_=>rfl
 | _ :: _,_ :: _,q=>by simp[eO.length q.2]
theorem eO.snoc {α β:Type} {R:α->β->Prop} {a:α} {b:β} (h:R a b):∀{xs:List α} {ys:List β},eO R xs ys->eO R (xs++[a]) (ys++[b])
 | [],[],_=>⟨h,trivial⟩
 | _ :: _,_ :: _,q=>⟨q.1,eO.snoc h q.2⟩
open Go
theorem Ho {g:ByteArray} {k:Nat} (h:k<g.size):oG (g.toList.take (k+1))=oG (g.toList.take k)*10+(g[k].toNat+208) % 256:=by
 rw[<-qn];congr 1;obtain⟨d⟩:=g;rw[aV];have h':k<d.toList.length:=by rw[Array.length_toList];exact h
 rw[bR,aj h'];rfl
theorem K5 (g:ByteArray):oG (g.toList.take g.size)=numOf g:=by obtain⟨d⟩:=g;unfold numOf;rw[aV];congr 1;exact cV (by simp[ByteArray.size])
end Go.Proofs.YthfjnfcekeknlabGreatDoor
namespace af
def jf (ns:List (List UInt8)) (x:List UInt8):List (List UInt8):=if x∈ns then ns else ns++[x]
def nj:List (List UInt8)->List UInt8
 | []=>[]
 | x :: xs=>40 :: x++xs.flatMap (fun y=>44 :: y)++[41]
def Kl:Nat->List (List UInt8)->Tm->List UInt8
 | 0,_,_=>[]
 | f+1,N,t=>if t.kind=3 then 86 :: Go.Lib.decDigits (N.idxOf t.text.toList)else if t.kind=4 then Go.Lib.decDigits (numOf t.text)else t.text.toList++nj (t.args.map (Kl f N))
def aP:Nat->List (List UInt8)->Tm->List (List UInt8)
 | 0,ns,_=>ns
 | f+1,ns,t=>if t.kind=3 then jf ns t.text.toList else if t.kind=4 then ns else t.args.foldl (aP f) ns
def AL:Nat->Tm->Prop
 | 0,_=>False
 | f+1,t=>t.text.size<=240/\t.args.length<=3/\(t.kind=4->t.text.size<=6)/\∀a∈t.args,AL f a
theorem BT (ns:List (List UInt8)) (x:List UInt8):∃M,jf ns x=ns++M/\M.length<=1:=by
 unfold jf;by_cases h:x∈ns
 ·rw[aH h];exact⟨[],by simp,by simp⟩
 ·rw[aG h];exact⟨[x],rfl,by simp⟩
theorem JF (ns M:List (List UInt8)) (x:List UInt8):(jf ns x++M).idxOf x=ns.idxOf x:=by
 unfold jf;by_cases h:x∈ns
 ·rw[aH h,dA,aH h]
 ·rw[aG h,aK,dA,aG h];simp[lW h]
theorem Bl {F:List (List UInt8)->Tm->List (List UInt8)} {c:Nat}:∀(ts:List Tm),(∀t∈ts,∀ns,∃M,F ns t=ns++M/\M.length<=c)->∀ns,∃M,ts.foldl F ns=ns++M/\M.length<=ts.length*c
 | [],_,ns=>⟨[],by simp,by simp⟩
 | t :: ts,h,ns=>by obtain⟨M,hM,hl⟩:=h t (by simp) ns;obtain⟨M2,hM2,hl2⟩:=Bl ts (fun u hu=>h u (by simp[hu])) (F ns t);refine⟨M++M2,by rw[bF,hM2,hM,aK],?_⟩;rw[au,aT,d9];omega
theorem kL:∀(f:Nat) (t:Tm),AL f t->∀ns,∃M,aP f ns t=ns++M/\M.length<=3 ^ f
 | 0,_,h,_=>h.elim
 | f+1,t,h,ns=>by
  obtain⟨h1,h2,h3,h4⟩:=h;unfold aP;by_cases hk:t.kind=3
  ·rw[aH hk];obtain⟨M,hM,hl⟩:=BT ns t.text.toList;exact⟨M,hM,aW hl (kY _ _ (by omega))⟩
  ·rw[aG hk];by_cases hk4:t.kind=4
   ·rw[aH hk4];exact⟨[],by simp,cI _⟩
   rw[aG hk4];obtain⟨M,hM,hl⟩:=Bl (c:=3 ^ f) t.args (fun u hu=>kL f u (h4 u hu)) ns;refine⟨M,hM,aW hl ?_⟩;rw[fU,gQ];exact uI _ h2
def L5:List (List UInt8)->List UInt8
 | []=>[]
 | x :: xs=>40 :: x++xs.flatMap (fun y=>44 :: y)
theorem Jw {c:Nat}:∀(l:List (List UInt8)),(∀x∈l,x.length<=c)->(L5 l).length<=l.length*(c+1)
 | [],_=>by simp[L5]
 | x :: xs,h=>by
  have h1:=h x (by simp);have:∀(ys:List (List UInt8)),(∀y∈ys,y.length<=c)->(ys.flatMap (fun y=>44 :: y)).length<=ys.length*(c+1):=by
   intro ys;induction ys with
   | nil=>intro _;simp
   | cons y ys ih=>intro h;have a:=h y (by simp);have b:=ih (fun z hz=>h z (by simp[hz]));rw[bM,au,aT,aT,d9];omega
  have h2:=this xs (fun y hy=>h y (by simp[hy]));simp only[L5,dN,aT,au,d9];omega
theorem lQ (b:ByteArray):b.toList.length=b.size:=by obtain⟨d⟩:=b;rw[Go.ByteArray.toList_mk];simp[ByteArray.size]
def whole (l:List bX):jM Tm:=match term 8 l with
 | .inl e=> .inl e
 | .inr (t,l1)=>if(hd l1).kind=0 then .inr (t,l1)else bad 2 l1
def PF (r:jM Tm):Nat:=match r with
 | .inl e=>e.1
 | .inr _=>0
def iE:Nat->Tm->Prop
 | 0,_=>False
 | f+1,t=>(t.kind=2\/t.kind=3\/t.kind=4)/\(t.kind≠2->t.args=[])/\t.args.length<=3/\∀a∈t.args,iE f a
theorem BL {Q:Tm->Prop} {p:List bX->jM Tm} (hp:∀l t l1,p l= .inr (t,l1)->Q t):∀(k:Nat) (l:List bX) (ts:List Tm) (l2:List bX),cE p k l= .inr (ts,l2)->(∀t∈ts,Q t)/\ts.length<=k+1:=by
 intro k;induction k with
 | zero=>
  intro l ts l2 h;unfold cE at h;rcases hq:p l with e | ⟨t,l1⟩
  ·rw[hq]at h;cases h
  ·rw[hq]at h;dsimp only at h;by_cases h1:sees l1 [44]=true
   ·rw[aH h1]at h;cases h
   ·rw[aG h1]at h;by_cases h2:sees l1 [41]=true
    ·rw[aH h2]at h;cases h;refine⟨fun x hx=> ?_,by simp⟩;obtain rfl:x=t:=by simpa using hx
     exact hp _ _ _ hq
    ·rw[aG h2]at h;cases h
 | succ k ih=>
  intro l ts l2 h;rw[cE]at h;rcases hq:p l with e | ⟨t,l1⟩
  ·rw[hq]at h;cases h
  ·rw[hq]at h;dsimp only at h;by_cases h1:sees l1 [44]=true
   ·rw[aH h1]at h;rcases hr:cE p k l1.tail with e | ⟨us,l3⟩
    ·rw[hr]at h;cases h
    ·rw[hr]at h;cases h;obtain⟨i1,i2⟩:=ih _ _ _ hr;refine⟨fun x hx=> ?_,by simpa using i2⟩;rcases bh.1 hx with rfl | hx
     ·exact hp _ _ _ hq
     ·exact i1 x hx
   ·rw[aG h1]at h;by_cases h2:sees l1 [41]=true
    ·rw[aH h2]at h;cases h;refine⟨fun x hx=> ?_,by simp⟩;obtain rfl:x=t:=by simpa using hx
     exact hp _ _ _ hq
    ·rw[aG h2]at h;cases h
theorem lE:∀(f:Nat) (l:List bX) (t:Tm) (l1:List bX),term f l= .inr (t,l1)->iE f t:=by
 intro f;induction f with
 | zero=>intro l t l1 h;rw[term]at h;split at h<;>cases h
 | succ f ih=>
  intro l t l1 h;rw[term]at h;by_cases hb:ez (hd l)=true
  ·rw[aH hb]at h;by_cases hc:(hd l).kind=4/\6<(hd l).text.size
   ·rw[aH hc]at h;cases h
   ·rw[aG hc]at h;by_cases h2:(hd l).kind=2
    ·rw[aH h2]at h;by_cases hs:sees l.tail [40]=true
     ·rw[aH hs]at h;rcases hq:cE (term f) 2 l.tail.tail with x | ⟨us,l2⟩
      ·rw[hq]at h;cases h
      ·rw[hq]at h;cases h;obtain⟨i1,i2⟩:=BL ih _ _ _ _ hq;exact⟨ay rfl,fun q=>absurd rfl q,i2,i1⟩
     ·rw[aG hs]at h;cases h;exact⟨ay rfl,fun q=>absurd rfl q,by simp,fun a ha=>by cases ha⟩
    ·rw[aG h2]at h;cases h;refine⟨?_,fun _=>rfl,by simp,fun a ha=>by cases ha⟩;unfold ez at hb;simp at hb;rcases hb with(h3 | h3) | h3
     ·exact ay h3
     ·exact aw (ay h3)
     ·exact aw (aw h3)
  ·rw[aG hb]at h;cases h
theorem xQ {l:List bX} {t:Tm} {l1:List bX} (h:whole l= .inr (t,l1)):term 8 l= .inr (t,l1)/\(hd l1).kind=0:=by
 unfold whole at h;rcases hq:term 8 l with e | ⟨u,l2⟩
 ·rw[hq]at h;cases h
 ·rw[hq]at h;dsimp only at h;by_cases hk:(hd l2).kind=0
  ·rw[aH hk]at h;cases h;exact⟨rfl,hk⟩
  ·rw[aG hk]at h;cases h
theorem JE (l:List (List UInt8)) (x:List UInt8):(jf l x).length<=l.length+1:=by unfold jf;split<;>simp
theorem kK:∀(f:Nat) (t:Tm) (ns:List (List UInt8)),iE f t->(aP f ns t).length<=ns.length+3 ^ f
 | 0,_,_,h=>h.elim
 | f+1,t,ns,⟨_,_,h3,h4⟩=>by
  have hp:1<=3 ^ f:=kY _ _ (by omega);have hq:3 ^ (f+1)=3*3 ^ f:=by rw[fU,gQ]
  unfold aP;split
  ·have:=JE ns t.text.toList;omega
  ·split
   ·omega
   ·have:∀(ts:List Tm) (ns:List (List UInt8)),(∀u∈ts,iE f u)->(ts.foldl (aP f) ns).length<=ns.length+ts.length*3 ^ f:=by
     intro ts;induction ts with
     | nil=>intro ns _;simp
     | cons u ts ih=>intro ns h;have q1:=kK f u ns (h u (by simp));have q2:=ih (aP f ns u) (fun v hv=>h v (by simp[hv]));rw[bF,aT,d9];omega
    have q:=this t.args ns h4;have h5:=bY (3 ^ f) h3;omega
theorem Da {l:List (List UInt8)} {x:List UInt8} (h:l.Nodup):(jf l x).Nodup:=by
 unfold jf;split
 ·exact h
 ·rename_i q;rw[List.nodup_append];refine⟨h,by simp,?_⟩;intro a ha b hb e;obtain rfl:b=x:=by simpa using hb
  subst e;exact q ha
theorem dG:∀(f:Nat) (t:Tm) (ns:List (List UInt8)),∃K,aP f ns t=ns++K
 | 0,_,ns=>⟨[],by simp[aP]⟩
 | f+1,t,ns=>by
  unfold aP;split
  ·obtain⟨M,hM,_⟩:=BT ns t.text.toList;exact⟨M,hM⟩
  ·split
   ·exact⟨[],by simp⟩
   ·have:∀(ts:List Tm) (ns:List (List UInt8)),∃K,ts.foldl (aP f) ns=ns++K:=by
     intro ts;induction ts with
     | nil=>exact fun ns=>⟨[],by simp⟩
     | cons u ts ih=>intro ns;obtain⟨K,hK⟩:=dG f u ns;obtain⟨K2,hK2⟩:=ih (aP f ns u);exact⟨K++K2,by rw[bF,hK2,hK,aK]⟩
    exact this t.args ns
theorem oH (f:Nat) (ts:List Tm) (ns:List (List UInt8)):∃K,ts.foldl (aP f) ns=ns++K:=by
 induction ts generalizing ns with
 | nil=>exact⟨[],by simp⟩
 | cons u ts ih=>obtain⟨K,hK⟩:=dG f u ns;obtain⟨K2,hK2⟩:=ih (aP f ns u);exact⟨K++K2,by rw[bF,hK2,hK,aK]⟩
theorem kq:∀(f:Nat) (t:Tm) (ns:List (List UInt8)),ns.Nodup->(aP f ns t).Nodup
 | 0,t,ns,h=>by unfold aP;exact h
 | f+1,t,ns,h=>by
  have fold:∀(ts:List Tm) (ns:List (List UInt8)),ns.Nodup->(ts.foldl (aP f) ns).Nodup:=by
   intro ts;induction ts with
   | nil=>intro ns h;exact h
   | cons u ts ih=>intro ns h;exact ih _ (kq f u ns h)
  unfold aP;split
  ·exact Da h
  ·split
   ·exact h
   ·exact fold _ _ h
end af
namespace af
open Go
variable {s:ByteArray} {i j k n:Nat}
theorem oL (s:ByteArray):s.data.toList.length=s.size:=by rw[<-Lib.size_eq]
theorem get_eq (h:i<s.size):s.data.toList[i]'(by rw[oL];exact h)=s[i]:=by simp;rfl
theorem MM (h:i+1<s.size) (a b:UInt8):((s.extract i (i+2)).toList == [a,b])=(g6 s i == a.toNat&&g6 s (i+1) == b.toNat):=by
 have hl:=oL s;rw[Lib.extract_toList,show i+2 - i=2 by omega,je (by omega),je h]
 rw[fo (by omega),fo (by omega)];simp only[cu,uc];rw[get_eq (by omega),get_eq h,mw];simp[q9]
def from_ (s:ByteArray) (i:Nat):ByteArray:=s.extract i s.size
theorem lI:(from_ s i).size=s.size - i:=by simp[from_,fV]
theorem pJ:g6 (from_ s i) j=g6 s (i+j):=by
 unfold g6;by_cases h:j<s.size - i
 ·rw[kX (by simpa [from_,fV] using h),kX (by omega)];simp[from_,ByteArray.getElem_extract]
 ·rw[ul (by simpa [from_,fV] using h),ul (by omega)]
theorem B9:lD (from_ s i) k n j+i=lD s k n (i+j):=by
 induction n generalizing j with
 | zero=>simp[lD];omega
 | succ n ih=>
  rw[lD,lD,pJ,lI];by_cases h:i+j<s.size/\e9 k (g6 s (i+j))=true
  ·rw[aH h,aH ⟨by omega,h.2⟩,ih];rfl
  ·rw[aG h,aG (by intro q;exact h ⟨by omega,q.2⟩)];omega
theorem vZ {s:ByteArray} {k i:Nat}:eE (from_ s i) k 0+i=eE s k i:=by unfold eE;rw[lI,B9,Nat.sub_zero];rfl
theorem oW:dZ (from_ s i) 0=dZ s i:=by
 unfold dZ;rw[pJ,pJ,lI];have e1:(0+1<s.size - i)=(i+1<s.size):=by rw[PC];omega
 have e2:(0<s.size - i)=(i<s.size):=by rw[PC];omega
 simp only[e1,e2,dJ,Nat.zero_add]
theorem qT {s:ByteArray} {i:Nat}:cD (from_ s i) 0=cD s i:=by
 unfold cD;rw[pJ,lI,oW];have e1:(s.size - i<=0)=(s.size<=i):=by rw[PC];omega
 simp only[e1,dJ]
theorem CT {s:ByteArray} {i:Nat}:ft (from_ s i) 0+i=ft s i:=by
 unfold ft;rw[qT,oW];have:=@vZ s (cD s i) i
 repeat' split
 all_goals omega
theorem xj (h:i+n<=s.size):(from_ s i).extract 0 n=s.extract i (i+n):=by unfold from_;rw[ByteArray.extract_extract,dJ,Nat.min_eq_left h]
theorem wS (h:i+1<s.size):eJ (g6 s i) (g6 s (i+1))=(((s.extract i (i+2)).toList == [58,45])||((s.extract i (i+2)).toList == [58,61])||((s.extract i (i+2)).toList == [61,61])||((s.extract i (i+2)).toList == [92,61])||((s.extract i (i+2)).toList == [61,60])):=by simp only[MM h];rfl
def jP:List Nat:=[61,60,43,45,42,40,41,44,124,46]
theorem oX (c:Nat):fQ c=true↔∃j,j<10/\jP[j]?=some c:=by
 constructor
 ·intro h;simp[fQ]at h;rcases h with(((((((((h | h) | h) | h) | h) | h) | h) | h) | h) | h)<;>subst h
  ·exact⟨0,by omega,rfl⟩
  ·exact⟨1,by omega,rfl⟩
  ·exact⟨2,by omega,rfl⟩
  ·exact⟨3,by omega,rfl⟩
  ·exact⟨4,by omega,rfl⟩
  ·exact⟨5,by omega,rfl⟩
  ·exact⟨6,by omega,rfl⟩
  ·exact⟨7,by omega,rfl⟩
  ·exact⟨8,by omega,rfl⟩
  ·exact⟨9,by omega,rfl⟩
 ·rintro⟨j,hj,h⟩;have hm:=bK h;simp[jP]at hm;rcases hm with h | h | h | h | h | h | h | h | h | h<;>subst h<;>rfl
theorem Cz (h:i<s.size) (hb:blank (g6 s i)=true):next s i=next s (i+1):=by unfold next;rw[uU h hb]
theorem Fa (h:i<s.size) (hb:blank (g6 s i)=false):next s i=⟨cD s i,i,s.extract i (ft s i)⟩:=by have e:skip s i=i:=nF (by rw[hb];simp);have:=@mV s i (by rw[e];exact h);rw[e]at this;exact this
theorem vy (h:i<s.size) (a:low (g6 s i)=true):cD s i=2/\ft s i=eE s 2 i:=by
 have e:cD s i=2:=by unfold cD;rw[aG (by omega),aH a]
 exact⟨e,by unfold ft;rw[e];rfl⟩
theorem Ic (h:i<s.size) (a:low (g6 s i)=false) (b:re (g6 s i)=true):cD s i=3/\ft s i=eE s 3 i:=by
 have e:cD s i=3:=by unfold cD;rw[aG (by omega),aG (by simp[a]),aH b]
 exact⟨e,by unfold ft;rw[e];rfl⟩
theorem Ie (h:i<s.size) (a:low (g6 s i)=false) (b:re (g6 s i)=false) (c:pX (g6 s i)=true):cD s i=4/\ft s i=eE s 4 i:=by
 have e:cD s i=4:=by unfold cD;rw[aG (by omega),aG (by simp[a]),aG (by simp[b]),aH c]
 exact⟨e,by unfold ft;rw[e];rfl⟩
theorem vw (h:i<s.size) (a:low (g6 s i)=false) (b:re (g6 s i)=false) (c:pX (g6 s i)=false) (d:0<dZ s i):cD s i=5/\ft s i=i+dZ s i:=by
 have e:cD s i=5:=by unfold cD;rw[aG (by omega),aG (by simp[a]),aG (by simp[b]),aG (by simp[c]),aH d]
 exact⟨e,by unfold ft;rw[e];rfl⟩
end af
namespace af
theorem eM.len {s:ByteArray}:∀(n p:Nat) (l:List bX),eM s l->hd l=next s p->s.size - p<=n->l.length<=n+1:=by
 intro n;induction n with
 | zero=>
  intro p l h hh hn
  match l,h with
  | [t],_=>simp
  | t :: u :: r,h=>have ht:t=next s p:=hh;have h0:t.kind≠0:=h.1;rw[ht,Ne,kA]at h0;have:=nG s p;omega
 | succ n ih=>
  intro p l h hh hn
  match l,h with
  | [t],_=>simp
  | t :: u :: r,h=>
   have ht:t=next s p:=hh;have h0:t.kind≠0:=h.1;have hu:u=next s (t.pos+t.text.size):=h.2.1;rw[ht,Ne,kA]at h0;have h1:=nG s p;have h2:=ng (s:=s) (i:=skip s p) (by omega);have h3:t.pos+t.text.size=ft s (skip s p):=by rw[ht];exact lm (by omega)
   have:=ih (t.pos+t.text.size) (u :: r) h.2.2 hu (by omega);simp only[aT]at this⊢;omega
theorem rt (s:ByteArray):∃L,eM s L/\hd L=next s 0/\(s.size<=240->L.length<=1000):=by obtain⟨l,hl⟩:=Jc s s.size 0 (by omega);exact⟨_,hl,rfl,fun hs=>by have:=hl.len s.size 0 _ rfl (by omega);omega⟩
end af
namespace Go.Proofs.YthfjnfcekeknlabGreatDoor
open Go.RowKit af
variable {p:Addr} {a:Bool} {b k c B rb n sz b0 cap b':Nat} {r s:ByteArray} {w w' u w1:World} {X Y:List Nat} {e e0:Int} {nv v c13 c6 c8 c10 c7 c11 c12 c9:Value} {T:TypeId} {xs:List Value} {R R':Nat->Prop} {o:Option Addr} {ns:List ByteArray} {cs:Array Value} {x:Obj}
theorem ah {p:Prop} (h:p):Hid p:=h
theorem ae {p:Prop} (h:Hid p):p:=h
theorem dX {b:Bool} (h:a=b):Ending.returned (.bool a)= .returned (.bool b):=by rw[h]
theorem eh {k:IntKind} {a b:Int} (h:a=b):Ending.returned (.int k a)= .returned (.int k b):=by rw[h]
theorem qV (c:Nat) (w:World):Calls Tryz.prog 101 #[.int .u8 (c:Int)] w fun e w'=>e= .returned (.bool (af.blank c))/\w'=w:=by
 by_cases h1:c=32
 ·subst h1;go_enter Tryz.func101,Tryz.ntmps101;go_wp2;go_ret;exact⟨rfl,rfl⟩
 ·have e1:((c:Int) == 32)=false:=by simp;omega
  by_cases h2:c=10
  ·subst h2;go_enter Tryz.func101,Tryz.ntmps101;go_wp2;go_ret;exact⟨rfl,rfl⟩
  ·have e2:((c:Int) == 10)=false:=by simp;omega
   go_enter Tryz.func101,Tryz.ntmps101;go_wp2;go_ret;exact⟨by simp[af.blank,h1,h2],rfl⟩
theorem io (c:Nat) (w:World):Calls Tryz.prog 102 #[.int .u8 (c:Int)] w fun e w'=>e= .returned (.bool (af.low c))/\w'=w:=by
 by_cases h1:97<=c
 all_goals
  go_enter Tryz.func102,Tryz.ntmps102;go_wp2;go_ret;exact⟨dX (by rw[mw];simp[af.low];omega),rfl⟩
theorem iJ (c:Nat) (w:World):Calls Tryz.prog 103 #[.int .u8 (c:Int)] w fun e w'=>e= .returned (.bool (re c))/\w'=w:=by
 by_cases h1:65<=c
 all_goals
  go_enter Tryz.func103,Tryz.ntmps103;go_wp2;go_ret;exact⟨dX (by rw[mw];simp[re];omega),rfl⟩
theorem iX (c:Nat) (w:World):Calls Tryz.prog 104 #[.int .u8 (c:Int)] w fun e w'=>e= .returned (.bool (pX c))/\w'=w:=by
 by_cases h1:48<=c
 all_goals
  go_enter Tryz.func104,Tryz.ntmps104;go_wp2;go_ret;exact⟨dX (by rw[mw];simp[pX];omega),rfl⟩
theorem tz (k c:Nat) (w:World):Calls Tryz.prog 152 #[.int .i64 (k:Int),.int .u8 (c:Int)] w fun e w'=>e= .returned (.bool (e9 k c))/\w'=w:=by
 by_cases h2:k=2
 ·subst h2;cases hl:af.low c
  all_goals
   go_enter Tryz.func152,Tryz.ntmps152;go_wp2_with (first | (go_at_call 102;refine(io _ _).mono ?_;rintro e w' ⟨rfl,rfl⟩) | (go_at_call 104;refine(iX _ _).mono ?_;rintro e w' ⟨rfl,rfl⟩));go_ret;exact⟨dX (by simp[e9,hl]),rfl⟩
 ·have e2:((k:Int) == 2)=false:=by simp;omega
  by_cases h3:k=3
  ·subst h3;cases hl:af.low c<;>cases hd:pX c
   all_goals
    go_enter Tryz.func152,Tryz.ntmps152;go_wp2_with (first | (go_at_call 102;refine(io _ _).mono ?_;rintro e w' ⟨rfl,rfl⟩) | (go_at_call 104;refine(iX _ _).mono ?_;rintro e w' ⟨rfl,rfl⟩) | (go_at_call 103;refine(iJ _ _).mono ?_;rintro e w' ⟨rfl,rfl⟩));go_ret;exact⟨dX (by simp[e9,hl,hd]),rfl⟩
  ·have e3:((k:Int) == 3)=false:=by simp;omega
   go_enter Tryz.func152,Tryz.ntmps152;go_wp2_with (first | (go_at_call 104;refine(iX _ _).mono ?_;rintro e w' ⟨rfl,rfl⟩));go_ret;exact⟨dX (by simp[e9,h2,h3]),rfl⟩
theorem mR (s:ByteArray) (p:Nat) (w:World) (hs:s.size<=maxLen) (hp:p<=s.size):
 Calls Tryz.prog 57 #[.string s,.int .i64 (p:Int)] w fun e w'=>e= .returned (.int .i64 ((af.skip s p:Nat):Int))/\w'=w:=by
 unfold maxLen at hs;go_enter Tryz.func57,Tryz.ntmps57;go_wp2;go_loop [5] (fun i=>∃k:Nat,k<=s.size/\Hid (af.skip s k=af.skip s p)/\i= .int .i64 k) (fun i=>s.size - (intOf i).toNat)
 case atStart=>exact⟨p,hp,rfl,rfl⟩
 case round=>
  obtain⟨k,hk,hsk,rfl⟩:=hrel;by_cases hlt:k<s.size
  ·cases hb:af.blank (s[k].toNat)
   ·have hst:Hid (af.skip s p=k):=by rw[<-hsk.out];exact nF (by rw[je hlt,hb];simp)
    go_wp2_with (go_at_call 101;refine(qV _ _).mono ?_;rintro e w' ⟨rfl,rfl⟩);go_ret;exact⟨eh (by rw[hst.out]),rfl⟩
   ·have hst:Hid (af.skip s (k+1)=af.skip s p):=by rw[<-hsk.out];exact(uU hlt (by rw[je hlt,hb])).symm
    go_wp2_with (go_at_call 101;refine(qV _ _).mono ?_;rintro e w' ⟨rfl,rfl⟩);go_round
    case rel=>exact⟨k+1,by omega,hst,by go_num⟩
    case measure=>simp[intOf];omega
  ·have hst:Hid (af.skip s p=k):=by rw[<-hsk.out];exact nF (by omega)
   go_wp2;go_ret;exact⟨eh (by rw[hst.out]),rfl⟩
theorem kE (k:Nat) (s:ByteArray) (w:World) (hs:s.size<=maxLen):
 Calls Tryz.prog 106 #[.int .i64 (k:Int),.string s] w fun e w'=>e= .returned (.int .i64 ((eE s k 0:Nat):Int))/\w'=w:=by
 unfold maxLen at hs;go_enter Tryz.func106,Tryz.ntmps106;go_wp2;go_loop [5] (fun i=>∃j:Nat,j<=s.size/\Hid (eE s k j=eE s k 0)/\i= .int .i64 j) (fun i=>s.size - (intOf i).toNat)
 case atStart=>exact⟨0,by omega,rfl,rfl⟩
 case round=>
  obtain⟨j,hj,hsk,rfl⟩:=hrel;by_cases hlt:j<s.size
  ·cases hb:e9 k (s[j].toNat)
   ·have hst:Hid (eE s k 0=j):=by rw[<-hsk.out];exact l7 (by rw[je hlt,hb];simp)
    go_wp2_with (go_at_call 152;refine(tz _ _ _).mono ?_;rintro e w' ⟨rfl,rfl⟩);go_ret;exact⟨eh (by rw[hst.out]),rfl⟩
   ·have hst:Hid (eE s k (j+1)=eE s k 0):=by rw[<-hsk.out];exact(l9 hlt (by rw[je hlt,hb])).symm
    go_wp2_with (go_at_call 152;refine(tz _ _ _).mono ?_;rintro e w' ⟨rfl,rfl⟩);go_round
    case rel=>exact⟨j+1,by omega,hst,by go_num⟩
    case measure=>simp[intOf];omega
  ·have hst:Hid (eE s k 0=j):=by rw[<-hsk.out];exact l7 (by omega)
   go_wp2;go_ret;exact⟨eh (by rw[hst.out]),rfl⟩
structure fu (w:World):Prop where
 s0:w.cell? ⟨0,0,none⟩=some (.string ⟨#[58,45]⟩)
 s1:w.cell? ⟨0,1,none⟩=some (.string ⟨#[58,61]⟩)
 s2:w.cell? ⟨0,2,none⟩=some (.string ⟨#[61,61]⟩)
 s3:w.cell? ⟨0,3,none⟩=some (.string ⟨#[92,61]⟩)
 s4:w.cell? ⟨0,4,none⟩=some (.string ⟨#[61,60]⟩)
theorem jE (h:2<=r.size) (hl:eJ (g6 r 0) (g6 r 1)=true):dZ r 0=2:=by unfold dZ;rw[aH ⟨by omega,hl⟩]
theorem qP (h:0<r.size) (hl:2<=r.size->eJ (g6 r 0) (g6 r 1)=false) (hs:fQ (g6 r 0)=true):dZ r 0=1:=by unfold dZ;rw[aG (by rintro⟨a,b⟩;rw[hl (by omega)]at b;cases b),aH ⟨h,hs⟩]
theorem oV (hl:2<=r.size->eJ (g6 r 0) (g6 r 1)=false) (hs:0<r.size->fQ (g6 r 0)=false):dZ r 0=0:=by unfold dZ;rw[aG (by rintro⟨a,b⟩;rw[hl (by omega)]at b;cases b),aG (by rintro⟨a,b⟩;rw[hs a]at b;cases b)]
def jQ:ByteArray:=⟨#[61,60,43,45,42,40,41,44,124,46]⟩
theorem uW (k:Nat) (h:k<jQ.size):jP[k]?=some (jQ[k]'h).toNat:=by have h':k<10:=h;rcases(show k=0\/k=1\/k=2\/k=3\/k=4\/k=5\/k=6\/k=7\/k=8\/k=9 by omega)with rfl | rfl | rfl | rfl | rfl | rfl | rfl | rfl | rfl | rfl<;>rfl
theorem uX (h0:0<r.size) (hk:k<jQ.size) (h:(((r[0]'h0).toNat:Int) == ((jQ[k]'hk).toNat:Int))=true):fQ (g6 r 0)=true:=by
 rw[oX];refine⟨k,hk,?_⟩;rw[uW k hk,je h0];have:((r[0]'h0).toNat:Int)=((jQ[k]'hk).toNat:Int):=by simpa using h
 rw[show (r[0]'h0).toNat=(jQ[k]'hk).toNat by omega]
theorem sw (h0:0<r.size) (hk:k<jQ.size) (h:(((r[0]'h0).toNat:Int) == ((jQ[k]'hk).toNat:Int))=false) (ho:∀j,j<k->jP[j]?≠some (g6 r 0)):∀j,j<k+1->jP[j]?≠some (g6 r 0):=by
 intro j hj e;by_cases hjk:j<k
 ·exact ho j hjk e
 ·obtain rfl:j=k:=by omega
  rw[uW j hk,je h0]at e;have e':=cF e;simp[e']at h
theorem su (h:¬k<10) (ho:∀j,j<k->jP[j]?≠some c):fQ c=false:=by
 cases hs:fQ c with
 | false=>rfl
 | true=>obtain⟨j,hj,e⟩:=(oX c).1 hs;exact absurd e (ho j (by omega))
theorem qp (h:0<r.size):r.toList.isEmpty=false:=by
 rw[bN];cases hx:r.data.toList with
 | nil=>have:=oL r;rw[hx]at this;simp at this;omega
 | cons=>rfl
theorem kH (r:ByteArray) (w:World) (hr:r.size<=maxLen) (h:fu w):Calls Tryz.prog 105 #[.string r] w fun e w'=>e= .returned (.int .i64 ((dZ r 0:Nat):Int))/\∃n,w'=w.drewN n:=by
 obtain⟨s0,s1,s2,s3,s4⟩:=h;unfold maxLen at hr;have i0:∀w,(Instr.index 217 (.agg #[.string ⟨#[58,45]⟩,.string ⟨#[58,61]⟩,.string ⟨#[61,61]⟩,.string ⟨#[92,61]⟩,.string ⟨#[61,60]⟩]) (.int .i64 0)).run Tryz.prog w= .ok (.string ⟨#[58,45]⟩) w:=fun _=>by kernel_rfl
 have i1:∀w,(Instr.index 217 (.agg #[.string ⟨#[58,45]⟩,.string ⟨#[58,61]⟩,.string ⟨#[61,61]⟩,.string ⟨#[92,61]⟩,.string ⟨#[61,60]⟩]) (.int .i64 1)).run Tryz.prog w= .ok (.string ⟨#[58,61]⟩) w:=fun _=>by kernel_rfl
 have i2:∀w,(Instr.index 217 (.agg #[.string ⟨#[58,45]⟩,.string ⟨#[58,61]⟩,.string ⟨#[61,61]⟩,.string ⟨#[92,61]⟩,.string ⟨#[61,60]⟩]) (.int .i64 2)).run Tryz.prog w= .ok (.string ⟨#[61,61]⟩) w:=fun _=>by kernel_rfl
 have i3:∀w,(Instr.index 217 (.agg #[.string ⟨#[58,45]⟩,.string ⟨#[58,61]⟩,.string ⟨#[61,61]⟩,.string ⟨#[92,61]⟩,.string ⟨#[61,60]⟩]) (.int .i64 3)).run Tryz.prog w= .ok (.string ⟨#[92,61]⟩) w:=fun _=>by kernel_rfl
 have i4:∀w,(Instr.index 217 (.agg #[.string ⟨#[58,45]⟩,.string ⟨#[58,61]⟩,.string ⟨#[61,61]⟩,.string ⟨#[92,61]⟩,.string ⟨#[61,60]⟩]) (.int .i64 4)).run Tryz.prog w= .ok (.string ⟨#[61,60]⟩) w:=fun _=>by kernel_rfl
 have LS:Hid (2<=r.size->eJ (g6 r 0) (g6 r 1)=(((r.extract 0 2).toList == [58,45])||((r.extract 0 2).toList == [58,61])||((r.extract 0 2).toList == [61,61])||((r.extract 0 2).toList == [92,61])||((r.extract 0 2).toList == [61,60]))):=fun h=>wS (i:=0) (by omega);by_cases h2:2<=r.size
 ·cases b0:((r.extract 0 2).toList == [58,45])
  ·cases b1:((r.extract 0 2).toList == [58,61])
   ·cases b2:((r.extract 0 2).toList == [61,61])
    ·cases b3:((r.extract 0 2).toList == [92,61])
     ·cases b4:((r.extract 0 2).toList == [61,60])
      ·have LN:Hid (eJ (g6 r 0) (g6 r 1)=false):=by rw[Hid,LS.out h2,b0,b1,b2,b3,b4];rfl
       go_enter Tryz.func105,Tryz.ntmps105;go_wp2;refine dW 6 ?_;rw[bT];go_wp2;rw[bT];go_wp2;rw[bT];go_wp2;rw[bT];go_wp2;rw[bT];go_wp2;rw[bT];go_wp2;clear i0 i1 i2 i3 i4 b0 b1 b2 b3 b4;go_loopw [5] (fun i wr=>∃k n:Nat,k<=10/\i= .int .i64 k/\wr=w.drewN n/\Hid (∀j,j<k->jP[j]?≠some (g6 r 0))) (fun i _=>10 - (intOf i).toNat)
       case atStart=>exact⟨0,0,by omega,rfl,rfl,fun j h=>absurd h (mv _)⟩
       case round=>
        obtain⟨k,n,hk,rfl,rfl,hno⟩:=hrel;by_cases hlt:k<10
        ·by_cases h0:0<r.size
         ·have hE:=qp h0;have HM:Hid (∀hk:k<jQ.size,(((r[0]'h0).toNat:Int) == ((jQ[k]'hk).toNat:Int))=false->∀j,j<k+1->jP[j]?≠some (g6 r 0)):=fun hk h=>sw h0 hk h hno.out;go_wp2;go_big_region;go_wp2
          ·go_ret;exact⟨eh (by rw[qP h0 (fun _=>LN.out) (uX (k:=k) h0 hlt (by assumption))];rfl),n+1,rfl⟩
          ·go_roundw
           case rel=>exact⟨k+1,n+1,by omega,by go_num,rfl,HM.out hlt (by assumption)⟩
           case measure=>simp[intOf];omega
         ·exact absurd (show 0<r.size by omega) h0
        ·have hS:Hid (fQ (g6 r 0)=false):=su hlt hno.out;go_wp2;go_ret;exact⟨eh (by rw[oV (fun _=>LN.out) (fun _=>hS.out)];rfl),n,rfl⟩
      ·have LN:Hid (eJ (g6 r 0) (g6 r 1)=true):=by rw[Hid,LS.out h2,b0,b1,b2,b3,b4];simp
       go_enter Tryz.func105,Tryz.ntmps105;go_wp2;refine dW 6 ?_;rw[bT];go_wp2;rw[bT];go_wp2;rw[bT];go_wp2;rw[bT];go_wp2;rw[bT];go_wp2;go_ret;exact⟨eh (by rw[jE h2 LN.out];rfl),0,rfl⟩
     ·have LN:Hid (eJ (g6 r 0) (g6 r 1)=true):=by rw[Hid,LS.out h2,b0,b1,b2,b3];simp
      go_enter Tryz.func105,Tryz.ntmps105;go_wp2;refine dW 6 ?_;rw[bT];go_wp2;rw[bT];go_wp2;rw[bT];go_wp2;rw[bT];go_wp2;go_ret;exact⟨eh (by rw[jE h2 LN.out];rfl),0,rfl⟩
    ·have LN:Hid (eJ (g6 r 0) (g6 r 1)=true):=by rw[Hid,LS.out h2,b0,b1,b2];simp
     go_enter Tryz.func105,Tryz.ntmps105;go_wp2;refine dW 6 ?_;rw[bT];go_wp2;rw[bT];go_wp2;rw[bT];go_wp2;go_ret;exact⟨eh (by rw[jE h2 LN.out];rfl),0,rfl⟩
   ·have LN:Hid (eJ (g6 r 0) (g6 r 1)=true):=by rw[Hid,LS.out h2,b0,b1];simp
    go_enter Tryz.func105,Tryz.ntmps105;go_wp2;refine dW 6 ?_;rw[bT];go_wp2;rw[bT];go_wp2;go_ret;exact⟨eh (by rw[jE h2 LN.out];rfl),0,rfl⟩
  ·have LN:Hid (eJ (g6 r 0) (g6 r 1)=true):=by rw[Hid,LS.out h2,b0];simp
   go_enter Tryz.func105,Tryz.ntmps105;go_wp2;refine dW 6 ?_;rw[bT];go_wp2;go_ret;exact⟨eh (by rw[jE h2 LN.out];rfl),0,rfl⟩
 ·have LN:Hid (2<=r.size->eJ (g6 r 0) (g6 r 1)=false):=fun h=>absurd h h2;go_enter Tryz.func105,Tryz.ntmps105;go_wp2;refine dW 6 ?_;rw[bT];go_wp2;rw[bT];go_wp2;rw[bT];go_wp2;rw[bT];go_wp2;rw[bT];go_wp2;rw[bT];go_wp2;clear i0 i1 i2 i3 i4 LS;go_loopw [5] (fun i wr=>∃k n:Nat,k<=10/\i= .int .i64 k/\wr=w.drewN n/\Hid (∀j,j<k->jP[j]?≠some (g6 r 0))) (fun i _=>10 - (intOf i).toNat)
  case atStart=>exact⟨0,0,by omega,rfl,rfl,fun j h=>absurd h (mv _)⟩
  case round=>
   obtain⟨k,n,hk,rfl,rfl,hno⟩:=hrel;by_cases hlt:k<10
   ·by_cases h0:0<r.size
    ·have hE:=qp h0;have HM:Hid (∀hk:k<jQ.size,(((r[0]'h0).toNat:Int) == ((jQ[k]'hk).toNat:Int))=false->∀j,j<k+1->jP[j]?≠some (g6 r 0)):=fun hk h=>sw h0 hk h hno.out;go_wp2;go_big_region;go_wp2
     ·go_ret;exact⟨eh (by rw[qP h0 LN.out (uX (k:=k) h0 hlt (by assumption))];rfl),n+1,rfl⟩
     ·go_roundw
      case rel=>exact⟨k+1,n+1,by omega,by go_num,rfl,HM.out hlt (by assumption)⟩
      case measure=>simp[intOf];omega
    ·have hE:r.toList.isEmpty=true:=by rw[bN];have:=oL r;cases hx:r.data.toList with
      | nil=>rfl
      | cons a l=>rw[hx]at this;simp at this;omega
     have HM:Hid (∀j,j<k+1->jP[j]?≠some (g6 r 0)):=fun j hj e=>by
      have e0:g6 r 0=0:=by unfold g6;rw[ul h0]
      rw[e0]at e;have hm:=bK e;simp[jP]at hm
     go_wp2;go_big_region;go_wp2;go_roundw
     case rel=>exact⟨k+1,n+1,by omega,by go_num,rfl,HM.out⟩
     case measure=>simp[intOf];omega
   ·have hS:Hid (fQ (g6 r 0)=false):=su hlt hno.out;go_wp2;go_ret;exact⟨eh (by rw[oV LN.out (fun _=>hS.out)];rfl),n,rfl⟩
theorem fu.below (h:fu w) (hb:Below B w w') (h0:0<B):fu w':=
 ⟨(hb.cell (p:=⟨0,0,none⟩) h0).trans h.s0,(hb.cell (p:=⟨0,1,none⟩) h0).trans h.s1,(hb.cell (p:=⟨0,2,none⟩) h0).trans h.s2,(hb.cell (p:=⟨0,3,none⟩) h0).trans h.s3,(hb.cell (p:=⟨0,4,none⟩) h0).trans h.s4⟩
theorem fu.draws (h:fu w) (n:Nat):fu (w.drewN n):=⟨h.s0,h.s1,h.s2,h.s3,h.s4⟩
theorem Lv (h:r.size=0):cD r 0=0:=by unfold cD;rw[aH (by omega)]
theorem Lt (h:0<r.size) (a:af.low (r[0].toNat)=true):cD r 0=2:=by unfold cD;rw[aG (by omega),je h,aH a]
theorem Ls (h:0<r.size) (a:af.low (r[0].toNat)=false) (b:re (r[0].toNat)=true):cD r 0=3:=by unfold cD;rw[aG (by omega),je h,aG (by simp[a]),aH b]
theorem Lr (h:0<r.size) (a:af.low (r[0].toNat)=false) (b:re (r[0].toNat)=false) (c:pX (r[0].toNat)=true):cD r 0=4:=by unfold cD;rw[aG (by omega),je h,aG (by simp[a]),aG (by simp[b]),aH c]
theorem Lq (h:0<r.size) (a:af.low (r[0].toNat)=false) (b:re (r[0].toNat)=false) (c:pX (r[0].toNat)=false) (d:0<dZ r 0):cD r 0=5:=by unfold cD;rw[aG (by omega),je h,aG (by simp[a]),aG (by simp[b]),aG (by simp[c]),aH d]
theorem Lu (h:0<r.size) (a:af.low (r[0].toNat)=false) (b:re (r[0].toNat)=false) (c:pX (r[0].toNat)=false) (d:¬0<dZ r 0):cD r 0=1:=by unfold cD;rw[aG (by omega),je h,aG (by simp[a]),aG (by simp[b]),aG (by simp[c]),aG d]
theorem Ii (h:r.size=0):r.toList.isEmpty=true:=by
 rw[bN];have:=oL r;cases hx:r.data.toList with
 | nil=>rfl
 | cons a l=>rw[hx]at this;simp at this;omega
theorem CI (r:ByteArray) (w:World) (hr:r.size<=maxLen) (h:fu w):Calls Tryz.prog 58 #[.string r] w fun e w'=>e= .returned (.int .i64 ((cD r 0:Nat):Int))/\∃n,w'=w.drewN n:=by
 have hr':=hr;unfold maxLen at hr';have H:=h;by_cases h0:0<r.size
 ·have hE:=qp h0;cases a:af.low (r[0].toNat)
  ·cases b:re (r[0].toNat)
   ·cases c:pX (r[0].toNat)
    ·by_cases d:0<dZ r 0
     ·have K:=ah (Lq h0 a b c d);go_enter Tryz.func58,Tryz.ntmps58;go_wp2_with (first | (go_at_call 102;refine(io _ _).mono ?_;rintro e w' ⟨rfl,rfl⟩) | (go_at_call 104;refine(iX _ _).mono ?_;rintro e w' ⟨rfl,rfl⟩) | (go_at_call 103;refine(iJ _ _).mono ?_;rintro e w' ⟨rfl,rfl⟩) | (go_at_call 105;refine(kH _ _ hr H).mono ?_;rintro e w' ⟨rfl,n,rfl⟩));go_ret;exact⟨eh (by rw[ae K];rfl),n,rfl⟩
     ·have K:=ah (Lu h0 a b c d);go_enter Tryz.func58,Tryz.ntmps58;go_wp2_with (first | (go_at_call 102;refine(io _ _).mono ?_;rintro e w' ⟨rfl,rfl⟩) | (go_at_call 104;refine(iX _ _).mono ?_;rintro e w' ⟨rfl,rfl⟩) | (go_at_call 103;refine(iJ _ _).mono ?_;rintro e w' ⟨rfl,rfl⟩) | (go_at_call 105;refine(kH _ _ hr H).mono ?_;rintro e w' ⟨rfl,n,rfl⟩));go_ret;exact⟨eh (by rw[ae K];rfl),n,rfl⟩
    ·have K:=ah (Lr h0 a b c);go_enter Tryz.func58,Tryz.ntmps58;go_wp2_with (first | (go_at_call 102;refine(io _ _).mono ?_;rintro e w' ⟨rfl,rfl⟩) | (go_at_call 104;refine(iX _ _).mono ?_;rintro e w' ⟨rfl,rfl⟩) | (go_at_call 103;refine(iJ _ _).mono ?_;rintro e w' ⟨rfl,rfl⟩));go_ret;exact⟨eh (by rw[ae K];rfl),0,rfl⟩
   ·have K:=ah (Ls h0 a b);go_enter Tryz.func58,Tryz.ntmps58;go_wp2_with (first | (go_at_call 102;refine(io _ _).mono ?_;rintro e w' ⟨rfl,rfl⟩) | (go_at_call 103;refine(iJ _ _).mono ?_;rintro e w' ⟨rfl,rfl⟩));go_ret;exact⟨eh (by rw[ae K];rfl),0,rfl⟩
  ·have K:=ah (Lt h0 a);go_enter Tryz.func58,Tryz.ntmps58;go_wp2_with (first | (go_at_call 102;refine(io _ _).mono ?_;rintro e w' ⟨rfl,rfl⟩));go_ret;exact⟨eh (by rw[ae K];rfl),0,rfl⟩
 ·have hE:=Ii (r:=r) (by omega);have K:=ah (Lv (r:=r) (by omega));go_enter Tryz.func58,Tryz.ntmps58;go_wp2;go_ret;exact⟨eh (by rw[ae K];rfl),0,rfl⟩
theorem wT (r:ByteArray) (w:World) (hr:r.size<=maxLen) (h:fu w):Calls Tryz.prog 59 #[.int .i64 ((cD r 0:Nat):Int),.string r] w fun e w'=>e= .returned (.int .i64 ((ft r 0:Nat):Int))/\∃n,w'=w.drewN n:=by
 have hk:=Fl r 0;have KE:Hid (ft r 0=if cD r 0=0 then 0 else if cD r 0=1 then 0+1 else if cD r 0=5 then 0+dZ r 0 else eE r (cD r 0) 0):=rfl;generalize cD r 0=k at*;rcases(show k=0\/k=1\/k=2\/k=3\/k=4\/k=5 by omega)with rfl | rfl | rfl | rfl | rfl | rfl
 ·go_enter Tryz.func59,Tryz.ntmps59;go_wp2_with fail;go_ret;exact⟨eh (by rw[KE.out];rfl),0,rfl⟩
 ·go_enter Tryz.func59,Tryz.ntmps59;go_wp2_with fail;go_ret;exact⟨eh (by rw[KE.out];rfl),0,rfl⟩
 ·go_enter Tryz.func59,Tryz.ntmps59;go_wp2_with (go_at_call 106;refine(kE 2 _ _ hr).mono ?_;rintro e w' ⟨rfl,rfl⟩);go_ret;exact⟨eh (by rw[KE.out];rfl),0,rfl⟩
 ·go_enter Tryz.func59,Tryz.ntmps59;go_wp2_with (go_at_call 106;refine(kE 3 _ _ hr).mono ?_;rintro e w' ⟨rfl,rfl⟩);go_ret;exact⟨eh (by rw[KE.out];rfl),0,rfl⟩
 ·go_enter Tryz.func59,Tryz.ntmps59;go_wp2_with (go_at_call 106;refine(kE 4 _ _ hr).mono ?_;rintro e w' ⟨rfl,rfl⟩);go_ret;exact⟨eh (by rw[KE.out];rfl),0,rfl⟩
 ·go_enter Tryz.func59,Tryz.ntmps59;go_wp2_with (go_at_call 105;refine(kH _ _ hr h).mono ?_;rintro e w' ⟨rfl,n,rfl⟩);go_ret;exact⟨eh (by rw[KE.out];simp),n,rfl⟩
theorem o9 (s:ByteArray) (p:Nat) (w:World) (hs:s.size<=maxLen) (hp:p<=s.size) (h:fu w) (hz:0<w.heap.size):
 Calls Tryz.prog 30 #[.string s,.int .i64 (p:Int)] w fun e w'=>e= .returned (.agg #[.int .i64 ((af.next s p).kind:Int),.int .i64 ((af.next s p).pos:Int),.string (af.next s p).text])/\Below w.heap.size w w':=by
 have hs':=hs;unfold maxLen at hs';have hle:=Kp hp;have hge:=nG s p;by_cases he:af.skip s p<s.size
 ·have hS:∀o,fu (w.alloc o):=fun o=>h.below (Qx.alloc Qw o) hz;have hsz:(s.extract (af.skip s p) s.size).size<=maxLen:=by rw[<-from_,lI];omega
  have hN:=ah (mV he);have hK:=ah (@qT s (af.skip s p));have hE:=ah (@CT s (af.skip s p));have hEl:=tJ he;have hEg:=ng he;have hX:Hid (∀n:Nat,af.skip s p+n<=s.size->(from_ s (af.skip s p)).extract 0 n=s.extract (af.skip s p) (af.skip s p+n)):=fun n h=>xj h;unfold from_ at hK hE hX;go_enter Tryz.func30,Tryz.ntmps30;go_wp2_with fail;refine(mR s p _ hs hp).mono ?_;rintro e w' ⟨rfl,rfl⟩;go_wp2_with fail;refine(CI (s.extract (af.skip s p) s.size) _ hsz (hS _)).mono ?_;rintro e w' ⟨rfl,n,rfl⟩;go_wp2_with fail;refine(wT (s.extract (af.skip s p) s.size) _ hsz ((hS _).draws _)).mono ?_;rintro e w' ⟨rfl,m,rfl⟩;have hb:ft (s.extract (af.skip s p) s.size) 0+af.skip s p=ft s (af.skip s p):=ae hE;have hb2:ft (s.extract (af.skip s p) s.size) 0<=(s.extract (af.skip s p) s.size).size:=by rw[fV];omega
  generalize hg:ft (s.extract (af.skip s p) s.size) 0=q at*;have hg':=ah hg;clear hg;have hb':=ah hb;clear hb;go_wp2_with fail;refine aI (v:= .agg #[.int .i64 (cD (s.extract (af.skip s p) s.size) 0:Int),.int .i64 (af.skip s p:Int),.string ((s.extract (af.skip s p) s.size).extract 0 q)]) (by simp[results,Tryz.results30,go_sem]) rfl ⟨?_,?_⟩
  ·rw[ae hN,ae hK,ae hX q (by rw[fV]at hb2;omega),Nat.add_comm,ae hb']
  ·exact(((below_drewN (Qx.alloc Qw _) _).setCell Qw _).setCell Qw _).setCell Qw _
 ·have hN:=ah (sP (s:=s) (p:=p) (by omega));go_enter Tryz.func30,Tryz.ntmps30;go_wp2_with fail;refine(mR s p _ hs hp).mono ?_;rintro e w' ⟨rfl,rfl⟩;go_wp2_with fail;refine aI (v:= .agg #[.int .i64 0,.int .i64 (s.size:Int),.string ByteArray.empty]) (by simp[results,Tryz.results30,go_sem];rfl) rfl ⟨?_,?_⟩
  ·rw[ae hN];rfl
  ·exact Qx.alloc Qw _
def dg (w:World) (k:Nat):Option TypeId:=match w.heap[k]? with
 | some (.cells _ t _)=>some t
 | _=>none
structure KA (b:Nat) (X:List Nat) (w w':World):Prop where
 os:w'.os=w.os
 tape:w'.tape=w.tape
 output:w'.output=w.output
 size:w.heap.size<=w'.heap.size
 block:∀k,k<w.heap.size->k∉X->(k<b\/dg w k≠some 9)->w'.heap[k]?=w.heap[k]?
theorem KA.refl (b:Nat) (X:List Nat) (w:World):KA b X w w:=⟨rfl,rfl,rfl,Qw,fun _ _ _ _=>rfl⟩
theorem KA.trans {b:Nat} {X:List Nat} {u v w:World} (h:KA b X u v) (k:KA b X v w):KA b X u w:=
 ⟨k.os.trans h.os,k.tape.trans h.tape,k.output.trans h.output,aW h.size k.size,fun i hi hX ht=>by have e:=h.block i hi hX ht;rw[k.block i (aJ hi h.size) hX (by unfold dg at ht⊢;rw[e];exact ht),e]⟩
theorem KA.aX (h:Below w.heap.size w w'):KA b X w w':=⟨h.os,h.tape,h.output,h.size,fun k hk _ _=>h.block k hk⟩
theorem KA.drew {b:Nat} {X:List Nat} {u w:World} (h:KA b X u w):KA b X u w.drew:=h.trans (KA.aX Qx.drew)
theorem KA.alloc {b:Nat} {X:List Nat} {u w:World} (h:KA b X u w) (o:Obj):KA b X u (w.alloc o):=h.trans (KA.aX (Qx.alloc Qw o))
theorem KA.iy (h:KA b X u w) (hp:p.block∈X) (v:Value):KA b X u (w.setCell p v):=
 h.trans ⟨rfl,rfl,rfl,by simp[World.setCell],fun k hk hX _=>eY _ _ _ _ (fun e=>hX (e ▸ hp))⟩
theorem KA.wC (h:KA b X u w) (hp:u.heap.size<=p.block) (v:Value):KA b X u (w.setCell p v):=
 ⟨h.os,h.tape,h.output,by have:=h.size;simp[World.setCell];omega,fun k hk hX ht=>(eY _ _ _ _ (by omega)).trans (h.block k hk hX ht)⟩
theorem KA.mono (h:KA b X u w) (hs:∀x∈X,x∈Y):KA b Y u w:=
 ⟨h.os,h.tape,h.output,h.size,fun k hk hY ht=>h.block k hk (fun e=>hY (hs k e)) ht⟩
theorem KA.forget (h:KA b Y u w) (hs:∀x∈Y,x∈X\/u.heap.size<=x):KA b X u w:=
 ⟨h.os,h.tape,h.output,h.size,fun k hk hX ht=>h.block k hk (fun e=>(hs k e).elim hX (fun q=>by omega)) ht⟩
theorem KA.cell (h:KA b X w w') (hp:p.block<w.heap.size) (hX:p.block∉X) (ht:p.block<b\/dg w p.block≠some 9):w'.cell? p=w.cell? p:=dC (w:=w) (h.block p.block hp hX ht)
theorem KA.frozen (h:KA b X w w') (hp:p.block<w.heap.size) (hX:p.block∉X) (ht:p.block<b\/dg w p.block≠some 9):w'.frozen? p=w.frozen? p:=gm (w:=w) (h.block p.block hp hX ht)
theorem KA.below (h:KA b X w w') (hB:B<=w.heap.size) (hb:B<=b) (hX:∀x∈X,B<=x):Below B w w':=
 ⟨h.os,h.tape,h.output,h.size,fun k hk=>h.block k (by omega) (fun e=>by have:=hX k e;omega) (ay (by omega))⟩
theorem KA.grown {row:Option Nat} (h:KA b X u w) (hg:w.grownBy w' row) (hr:∀k,row=some k->u.heap.size<=k\/k∈X\/(b<=k/\dg w k=some 9)):KA b X u w':=
 ⟨hg.os.trans h.os,hg.tape.trans h.tape,hg.output.trans h.output,aW h.size hg.size,fun k hk hX ht=>by
  have e:=h.block k hk hX ht;rw[hg.block k (aJ hk h.size) (fun q=> ?_),e];rcases hr k q.symm with a | a | ⟨a,c⟩
  ·omega
  ·exact hX a
  ·rcases ht with t | t
   ·omega
   ·apply t;unfold dg at c⊢;rw[<-e];exact c⟩
theorem fu.ka (h:fu w) (hk:KA b X w w') (h0:0<w.heap.size) (hX:0∉X) (hb:0<b):fu w':=
 ⟨(hk.cell (p:=⟨0,0,none⟩) h0 hX (ay hb)).trans h.s0,(hk.cell (p:=⟨0,1,none⟩) h0 hX (ay hb)).trans h.s1,(hk.cell (p:=⟨0,2,none⟩) h0 hX (ay hb)).trans h.s2,(hk.cell (p:=⟨0,3,none⟩) h0 hX (ay hb)).trans h.s3,(hk.cell (p:=⟨0,4,none⟩) h0 hX (ay hb)).trans h.s4⟩
structure Rd (w:World) (rb:Nat) (s:ByteArray) (t:bX) (nv:Value) (e:Int):Prop where
 c0:w.cell? ⟨rb,0,none⟩=some (.string s)
 c1:w.cell? ⟨rb,1,none⟩=some (.int .i64 (t.kind:Int))
 c2:w.cell? ⟨rb,2,none⟩=some (.int .i64 (t.pos:Int))
 c3:w.cell? ⟨rb,3,none⟩=some (.string t.text)
 c4:w.cell? ⟨rb,4,none⟩=some nv
 c5:w.cell? ⟨rb,5,none⟩=some (.int .i64 e)
 f1:w.frozen? ⟨rb,1,none⟩=false
 f2:w.frozen? ⟨rb,2,none⟩=false
 f3:w.frozen? ⟨rb,3,none⟩=false
 f4:w.frozen? ⟨rb,4,none⟩=false
 f5:w.frozen? ⟨rb,5,none⟩=false
theorem Rd.below {t:bX} (h:Rd w rb s t nv e) (hb:Below B w w') (hr:rb<B):Rd w' rb s t nv e:=
 ⟨(hb.cell (p:=⟨rb,0,none⟩) hr).trans h.c0,(hb.cell (p:=⟨rb,1,none⟩) hr).trans h.c1,(hb.cell (p:=⟨rb,2,none⟩) hr).trans h.c2,(hb.cell (p:=⟨rb,3,none⟩) hr).trans h.c3,(hb.cell (p:=⟨rb,4,none⟩) hr).trans h.c4,(hb.cell (p:=⟨rb,5,none⟩) hr).trans h.c5,
  (hb.frozen (p:=⟨rb,1,none⟩) hr).trans h.f1,(hb.frozen (p:=⟨rb,2,none⟩) hr).trans h.f2,(hb.frozen (p:=⟨rb,3,none⟩) hr).trans h.f3,(hb.frozen (p:=⟨rb,4,none⟩) hr).trans h.f4,(hb.frozen (p:=⟨rb,5,none⟩) hr).trans h.f5⟩
structure St (w:World) (rb:Nat) (s:ByteArray) (l:List bX) (ns:List ByteArray) (nv:Value) (e:Int):Prop where
 rd:Rd w rb s (af.hd l) nv e
 own:w.ownsRow (rb+1) 9 1 nv ns.length (ns.map Value.string)
 chain:eM s l
 CN:∃p,af.hd l=af.next s p
 few:ns.length+l.length<=1000
 short:s.size<=240
 signs:fu w
 pos:0<rb
 lt:rb<w.heap.size
theorem St.below {w w':World} {rb:Nat} {s:ByteArray} {l:List bX} {ns:List ByteArray} {nv:Value} {e:Int} (h:St w rb s l ns nv e) (hb:Below w.heap.size w w'):St w' rb s l ns nv e:=
 ⟨h.rd.below hb h.lt,⟨h.own.1,h.own.2.imp id fun⟨g,cap,cur,a,b,c,d⟩=>⟨g,cap,cur,a,b,(hb.block g (by have:=bd.1 c;exact this.1)).trans c,d⟩⟩,h.chain,h.CN,h.few,h.short,h.signs.below hb (by have:=h.lt;omega),h.pos,by have:=hb.size;have:=h.lt;omega⟩
theorem jH (h:w.ownsRow (rb+1) T sz nv n xs) (o:Nat) (v:Value):(w.setCell ⟨rb,o,none⟩ v).ownsRow (rb+1) T sz nv n xs:=
 ji h (by show rb<rb+1;omega) v
theorem fu.setCell {w:World} (h:fu w) {p:Addr} (hp:p.block≠0) (v:Value):fu (w.setCell p v):=by have k:∀o,(w.setCell p v).cell? ⟨0,o,none⟩=w.cell? ⟨0,o,none⟩:=fun o=>dC (eY _ _ _ _ (fun e=>hp e.symm));exact⟨(k 0).trans h.s0,(k 1).trans h.s1,(k 2).trans h.s2,(k 3).trans h.s3,(k 4).trans h.s4⟩
structure bZ (R R':Nat->Prop) (w w':World):Prop where
 os:w'.os=w.os
 tape:w'.tape=w.tape
 output:w'.output=w.output
 size:w.heap.size<=w'.heap.size
 block:∀k,k<w.heap.size->¬R k->w'.heap[k]?=w.heap[k]?
 row:∀k,R' k->R k\/w.heap.size<=k
theorem bZ.aX (h:Below w.heap.size w w'):bZ R R w w':=⟨h.os,h.tape,h.output,h.size,fun k hk _=>h.block k hk,fun _ q=>ay q⟩
theorem bZ.trans {R R1 R2:Nat->Prop} {u v w:World} (h:bZ R R1 u v) (k:bZ R1 R2 v w):bZ R R2 u w:=
 ⟨k.os.trans h.os,k.tape.trans h.tape,k.output.trans h.output,aW h.size k.size,fun i hi h1=>(k.block i (aJ hi h.size) (fun q=>by
  rcases h.row i q with e | e
  ·exact h1 e
  ·omega)).trans (h.block i hi h1),fun i q=>by
  rcases k.row i q with e | e
  ·exact h.row i e
  ·exact aw (aW h.size e)⟩
theorem bZ.not (h:bZ R R' w w') (hk:k<w.heap.size) (hr:¬R k):¬R' k:=fun q=>by
 rcases h.row k q with e | e
 ·exact hr e
 ·omega
theorem aO (h:w.ownsRow b0 T sz v n xs) (hk:∀g,v.ownBlock=some g->w'.heap[g]?=w.heap[g]?):w'.ownsRow b0 T sz v n xs:=
 ⟨h.1,h.2.imp id fun⟨g,cap,cur,a,b,c,d⟩=>⟨g,cap,cur,a,b,(hk g (by rw[a];rfl)).trans c,d⟩⟩
theorem i7 (h:∀q,o=some q->k≠q.block):some k≠(Value.slice o n cap).ownBlock:=by
 cases o with
 | none=>simp[Value.ownBlock]
 | some q=>have:=h q rfl;simpa [Value.ownBlock] using this
theorem bZ.cell (h:bZ R R' w w') (hp:p.block<w.heap.size) (hr:¬R p.block):w'.cell? p=w.cell? p:=dC (w:=w) (h.block p.block hp hr)
theorem bZ.down (h:bZ R R' w w') (hb:b<=w.heap.size) (hr:∀k,R k->b<=k):Below b w w':=
 ⟨h.os,h.tape,h.output,h.size,fun k hk=>h.block k (by omega) (fun q=>by have:=hr k q;omega)⟩
theorem dr (w:World) (rb:Nat) (s:ByteArray) (l:List bX) (ns:List ByteArray) (nv:Value) (e0:Int) (c:Int) (h:St w rb s l ns nv e0):
 Calls Tryz.prog 68 #[.pointer (some ⟨rb,0,none⟩),.int .i64 c] w fun e w'=>e= .returned (.tuple #[])/\St w' rb s l ns nv c/\KA rb [rb] w w':=by
 obtain⟨⟨c0,c1,c2,c3,c4,c5,f1,f2,f3,f4,f5⟩,own,chain,isn,few,short,signs,pos,lt⟩:=h;go_enter Tryz.func68,Tryz.ntmps68;go_wp2;go_end0;refine⟨rfl,⟨⟨?_,?_,?_,?_,?_,?_,?_,?_,?_,?_,?_⟩,jH own _ _,chain,isn,few,short,signs.setCell (by show rb≠0;omega) _,pos,by simpa using lt⟩,(KA.refl _ _ _).iy (by simp) _⟩
 all_goals first | go_cell | (simp[go_sem, *];done)
theorem cY (w:World) (rb:Nat) (s:ByteArray) (l:List bX) (ns:List ByteArray) (nv:Value) (e0:Int) (g:ByteArray) (h:St w rb s l ns nv e0):
 Calls Tryz.prog 62 #[.pointer (some ⟨rb,0,none⟩),.string g] w fun e w'=>e= .returned (.bool (sees l g.toList))/\w'=w:=by
 obtain⟨⟨c0,c1,c2,c3,c4,c5,f1,f2,f3,f4,f5⟩,own,chain,isn,few,short,signs,pos,lt⟩:=h;clear own chain isn few signs;by_cases hk:(af.hd l).kind=5
 ·have hk':(((af.hd l).kind:Int) == 5)=true:=by simp;omega
  have HS:=ah (show sees l g.toList=((af.hd l).text.toList == g.toList)by simp[sees,hk])
  clear hk;go_enter Tryz.func62,Tryz.ntmps62;go_wp2;go_ret;exact⟨dX (by rw[ae HS]),rfl⟩
 ·have hk':(((af.hd l).kind:Int) == 5)=false:=by simp;omega
  have HS:=ah (show sees l g.toList=false by simp[sees,hk])
  clear hk;go_enter Tryz.func62,Tryz.ntmps62;go_wp2;go_ret;exact⟨dX (by rw[ae HS]),rfl⟩
theorem Gt {l:List bX} (h:St w rb s l ns nv e0) (h0:(af.hd l).kind≠0) (hb:Below w.heap.size w w1):
 St (((w1.setCell ⟨rb,1,none⟩ (.int .i64 ((af.next s ((af.hd l).pos+(af.hd l).text.size)).kind:Int))).setCell ⟨rb,2,none⟩ (.int .i64 ((af.next s ((af.hd l).pos+(af.hd l).text.size)).pos:Int))).setCell ⟨rb,3,none⟩ (.string (af.next s ((af.hd l).pos+(af.hd l).text.size)).text)) rb s l.tail ns nv e0/\
 KA rb [rb] w (((w1.setCell ⟨rb,1,none⟩ (.int .i64 ((af.next s ((af.hd l).pos+(af.hd l).text.size)).kind:Int))).setCell ⟨rb,2,none⟩ (.int .i64 ((af.next s ((af.hd l).pos+(af.hd l).text.size)).pos:Int))).setCell ⟨rb,3,none⟩ (.string (af.next s ((af.hd l).pos+(af.hd l).text.size)).text)):=by
 have hk:=h.chain.tail h0;have h1:=h.below hb;have few:=h.few;have hl:l.length=l.tail.length+1:=by
  rcases l with _ | ⟨a,r⟩
  ·exact absurd h.chain (by simp[eM])
  ·rfl
 obtain⟨⟨d0,d1,d2,d3,d4,d5,g1,g2,g3,g4,g5⟩,own,chain,isn,few1,short,signs,pos,lt⟩:=h1;have z:rb≠0:=by omega
 refine⟨⟨?_,jH (jH (jH own _ _) _ _) _ _,hk.1,⟨_,hk.2.1⟩,by omega,short,((signs.setCell (by exact z) _).setCell (by exact z) _).setCell (by exact z) _,pos,by simpa using lt⟩,(((KA.aX hb).iy (by simp) _).iy (by simp) _).iy (by simp) _⟩;rw[hk.2.1];generalize af.next s ((af.hd l).pos+(af.hd l).text.size)=t;exact⟨by go_cell,by go_cell,by go_cell,by go_cell,by go_cell,by go_cell,by go_cell,by go_cell,by go_cell,by go_cell,by go_cell⟩
theorem bB (h:w.heap[b]?=some (.cells cs T (0,0))) (i:Nat) (v:Value):(w.setCell ⟨b,i,none⟩ v).heap[b]?=some (.cells (cs.setIfInBounds i v) T (0,0)):=by simp[World.setCell,Array.getElem?_modify,h]
theorem bH (h:w.heap[b]?=some x) (hne:b≠b') (i:Nat) (v:Value):(w.setCell ⟨b',i,none⟩ v).heap[b]?=some x:=(eY _ _ _ _ hne).trans h
theorem BE {c0 c1 c2 c3 c4 c5:Value} (v5 v6 v7 v8 v9:Value) (h:w.heap[b]?=some (.cells #[c0,c1,c2,c3,c4,c5,c6,c7,c8,c9,c10,c11,c12,c13] T (0,0))):(((((w.setCell ⟨b,5,none⟩ v5).setCell ⟨b,6,none⟩ v6).setCell ⟨b,7,none⟩ v7).setCell ⟨b,8,none⟩ v8).setCell ⟨b,9,none⟩ v9).heap[b]?=some (.cells #[c0,c1,c2,c3,c4,v5,v6,v7,v8,v9,c10,c11,c12,c13] T (0,0)):=by have:=bB (bB (bB (bB (bB h 5 v5) 6 v6) 7 v7) 8 v8) 9 v9;simpa using this
theorem tQ (v5 v6 v7 v8 v9:Value) (h:w.heap[b']?=some x) (hne:b'≠b):(((((w.setCell ⟨b,5,none⟩ v5).setCell ⟨b,6,none⟩ v6).setCell ⟨b,7,none⟩ v7).setCell ⟨b,8,none⟩ v8).setCell ⟨b,9,none⟩ v9).heap[b']?=some x:=
 bH (bH (bH (bH (bH h hne 5 v5) hne 6 v6) hne 7 v7) hne 8 v8) hne 9 v9
end Go.Proofs.YthfjnfcekeknlabGreatDoor
namespace af
open Go
variable {p k f:Nat} {s:ByteArray} {c a d:UInt8} {x y r g:List UInt8} {b:Bool}
def At (s:ByteArray) (p:Nat) (x:List UInt8):Prop:=p<=s.size/\s.data.toList.drop p=x
theorem At.start (s:ByteArray):At s 0 s.data.toList:=⟨cI _,rfl⟩
theorem At.head (h:At s p (c :: x)):p<s.size/\g6 s p=c.toNat/\At s (p+1) x:=by
 have hl:=oL s;have hp:p<s.size:=by have:=cL List.length h.2;rw[Dg]at this;simp at this;have:=h.1;omega
 have h2:=h.2;rw[fo (by omega)]at h2;injection h2 with h3 h4;exact⟨hp,by rw[je hp,<-h3,get_eq hp],by omega,h4⟩
theorem At.nil (h:At s p []):p=s.size:=by have hl:=oL s;have:=cL List.length h.2;rw[Dg]at this;simp at this;have:=h.1;omega
theorem At.more {s:ByteArray}:∀{x y:List UInt8} {p:Nat},At s p (x++y)->At s (p+x.length) y
 | [],_,_,h=>h
 | c :: x,y,p,h=>by have:=(At.head (c:=c) (x:=x++y) h).2.2.more;rw[aT];rwa [show p+(x.length+1)=p+1+x.length by omega]
theorem At.text (h:At s p (x++y)):s.extract p (p+x.length)=⟨x.toArray⟩:=by
 have e:(s.extract p (p+x.length)).toList=x:=by
  rw[Lib.extract_toList,h.2,show p+x.length - p=x.length by omega]
  simp
 rw[bN]at e;exact ByteArray.ext (Array.ext' (by simpa using e))
def Tk (s:ByteArray) (p:Nat) (l:List bX):Prop:=eM s l/\hd l=next s p
theorem Tk.blank {s:ByteArray} {p:Nat} {l:List bX} {c:UInt8} {x:List UInt8} (h:Tk s p l) (ha:At s p (c :: x)) (hb:af.blank c.toNat=true):Tk s (p+1) l/\At s (p+1) x:=by obtain⟨h1,h2,h3⟩:=ha.head;exact⟨⟨h.1,h.2.trans (Cz h1 (by rw[h2];exact hb))⟩,h3⟩
theorem Tk.tok {l:List bX} (h:Tk s p l) (ha:At s p (c :: x)) (hb:af.blank c.toNat=false):l=⟨cD s p,p,s.extract p (ft s p)⟩ :: l.tail/\Tk s (ft s p) l.tail:=by
 obtain⟨h1,h2,h3⟩:=ha.head;have hn:=Fa h1 (by rw[h2];exact hb);have hk:(hd l).kind≠0:=by rw[h.2,hn];show cD s p≠0;rw[Ne,m5];omega
 have hbh:(hd l).pos+(hd l).text.size=ft s p:=by have e:skip s p=p:=nF (by rw[h2,hb];simp);rw[h.2];have:=@lm s p (by rw[e];exact h1);rw[e]at this;exact this
 obtain⟨t1,t2,t3⟩:=h.1.tail hk;rw[hbh]at t2;refine⟨?_,t1,t2⟩;rw[h.2,hn]at t3;exact t3
theorem Tk.done {l:List bX} (h:Tk s p l) (ha:At s p []):(hd l).kind=0:=by rw[h.2,kA];have:=nG s p;have:=ha.nil;omega
theorem xP {s:ByteArray} {k:Nat}:∀{wd rest:List UInt8} {p:Nat},At s p (wd++rest)->(∀c∈wd,e9 k c.toNat=true)->(∀c r,rest=c :: r->e9 k c.toNat=false)->eE s k p=p+wd.length
 | [],rest,p,h,_,hr=>by
  refine l7 ?_;cases rest with
  | nil=>have:=h.nil;omega
  | cons c r=>obtain⟨h1,h2,h3⟩:=At.head (c:=c) (x:=r) h;rw[h2,hr c r rfl];simp
 | c :: wd,rest,p,h,hw,hr=>by obtain⟨h1,h2,h3⟩:=At.head (c:=c) (x:=wd++rest) h;rw[l9 h1 (by rw[h2];exact hw c (by simp)),xP h3 (fun d hd=>hw d (by simp[hd])) hr,aT];omega
theorem Im {c:Nat} (h:e9 3 c=false) (hk:k=2\/k=3\/k=4):e9 k c=false:=by
 unfold e9 at h⊢;rcases hk with rfl | rfl | rfl
 ·simp at h⊢;exact h.1
 ·exact h
 ·simp at h⊢;exact h.1.2
def jC (k:Nat) (x:List UInt8):Prop:=∃c r,x=c :: r/\(k=2/\low c.toNat=true\/k=3/\re c.toNat=true\/k=4/\pX c.toNat=true)/\∀d∈x,e9 k d.toNat=true
theorem Ll {c:Nat} (h:re c=true):low c=false:=by unfold re at h;unfold low;simp at h⊢;omega
theorem Eg {c:Nat} (h:pX c=true):low c=false/\re c=false:=by unfold pX at h;unfold low re;simp at h⊢;omega
theorem nW {c:Nat} (h:low c=true\/re c=true\/pX c=true):blank c=false:=by unfold low re pX at h;unfold blank;simp at h⊢;omega
theorem Tk.word {l:List bX} {rest:List UInt8} (h:Tk s p l) (hx:jC k x) (ha:At s p (x++rest)) (hr:∀c r,rest=c :: r->e9 3 c.toNat=false):l=⟨k,p,⟨x.toArray⟩⟩ :: l.tail/\Tk s (p+x.length) l.tail/\At s (p+x.length) rest:=by
 obtain⟨c,r,rfl,hc,hw⟩:=hx;have hk:k=2\/k=3\/k=4:=by omega
 obtain⟨h1,h2,h3⟩:=At.head (c:=c) (x:=r++rest) ha;have hb:af.blank c.toNat=false:=by
  rcases hc with⟨_,q⟩ | ⟨_,q⟩ | ⟨_,q⟩
  ·exact nW (ay q)
  ·exact nW (aw (ay q))
  ·exact nW (aw (aw q))
 have hend:=xP (k:=k) ha hw (fun c r q=>Im (hr c r q) hk);have hke:cD s p=k/\ft s p=p+(c :: r).length:=by
  rw[<-hend];rcases hc with⟨rfl,q⟩ | ⟨rfl,q⟩ | ⟨rfl,q⟩
  ·exact vy h1 (by rw[h2];exact q)
  ·exact Ic h1 (by rw[h2];exact Ll q) (by rw[h2];exact q)
  ·exact Ie h1 (by rw[h2];exact(Eg q).1) (by rw[h2];exact(Eg q).2) (by rw[h2];exact q)
 obtain⟨t1,t2⟩:=h.tok ha hb;rw[hke.1,hke.2,ha.text]at t1;rw[hke.2]at t2;exact⟨t1,t2,ha.more⟩
def sN (c:Nat):Bool:= !low c&& !re c&& !pX c&& !blank c
theorem Tk.DC {l:List bX} {b:UInt8} {rest:List UInt8} (h:Tk s p l) (ha:At s p (a :: b :: rest)) (hn:sN a.toNat=true) (hl:eJ a.toNat b.toNat=true):l=⟨5,p,⟨#[a,b]⟩⟩ :: l.tail/\Tk s (p+2) l.tail/\At s (p+2) rest:=by
 obtain⟨h1,h2,h3⟩:=ha.head;obtain⟨k1,k2,k3⟩:=h3.head;unfold sN at hn;simp only[eS,B3]at hn;obtain⟨⟨⟨n1,n2⟩,n3⟩,n4⟩:=hn;have hs:dZ s p=2:=by unfold dZ;rw[h2,k2,aH ⟨by omega,hl⟩]
 have hke:=vw h1 (by rw[h2];exact n1) (by rw[h2];exact n2) (by rw[h2];exact n3) (by omega);rw[hs]at hke;obtain⟨t1,t2⟩:=h.tok ha n4;rw[hke.1,hke.2,show s.extract p (p+2)=_ from At.text (x:=[a,b]) (y:=rest) ha]at t1
 rw[hke.2]at t2;exact⟨t1,t2,k3⟩
theorem Tk.Mk {l:List bX} {rest:List UInt8} (h:Tk s p l) (ha:At s p (a :: rest)) (hn:sN a.toNat=true) (hs:fQ a.toNat=true) (hl:∀c r,rest=c :: r->eJ a.toNat c.toNat=false):l=⟨5,p,⟨#[a]⟩⟩ :: l.tail/\Tk s (p+1) l.tail/\At s (p+1) rest:=by
 obtain⟨h1,h2,h3⟩:=ha.head;unfold sN at hn;simp only[eS,B3]at hn;obtain⟨⟨⟨n1,n2⟩,n3⟩,n4⟩:=hn;have hs:dZ s p=1:=by
  unfold dZ;rw[aG,aH ⟨h1,by rw[h2];exact hs⟩];rintro⟨q1,q2⟩;cases rest with
  | nil=>have:=h3.nil;omega
  | cons c r=>obtain⟨k1,k2,k3⟩:=h3.head;rw[h2,k2,hl c r rfl]at q2;cases q2
 have hke:=vw h1 (by rw[h2];exact n1) (by rw[h2];exact n2) (by rw[h2];exact n3) (by omega);rw[hs]at hke;obtain⟨t1,t2⟩:=h.tok ha n4;rw[hke.1,hke.2,show s.extract p (p+1)=_ from At.text (x:=[a]) (y:=rest) ha]at t1
 rw[hke.2]at t2;exact⟨t1,t2,h3⟩
theorem Tk.first {l:List bX} (h:Tk s p l) (ha:At s p (c :: x)) (hb:af.blank c.toNat=false):∃r,(hd l).text.toList=c :: r:=by
 obtain⟨h1,h2,h3⟩:=ha.head;obtain⟨t1,_⟩:=h.tok ha hb;rw[t1];show∃r,(s.extract p (ft s p)).toList=c :: r;have:=ng h1;rw[Lib.extract_toList,ha.2];cases hq:ft s p - p with
 | zero=>omega
 | succ n=>exact⟨_,rfl⟩
structure nr where
 v:ByteArray->ByteArray
 n:ByteArray->ByteArray
def tR:List (List UInt8)->List UInt8
 | []=>[]
 | x :: xs=>40 :: x++xs.flatMap (fun y=>44 :: y)++[41]
def fC (σ:nr):Nat->Tm->List UInt8
 | 0,_=>[]
 | f+1,t=>if t.kind=3 then(σ.v t.text).toList else if t.kind=4 then(σ.n t.text).toList else t.text.toList++tR (t.args.map (fC σ f))
def mi (σ:nr):Nat->Tm->Tm
 | 0,t=>t
 | f+1,t=>if t.kind=3 then⟨3,σ.v t.text,[]⟩else if t.kind=4 then⟨4,σ.n t.text,[]⟩else⟨2,t.text,t.args.map (mi σ f)⟩
def uf (σ:nr):Nat->Tm->Prop
 | 0,_=>False
 | f+1,t=>(t.kind=3/\jC 3 (σ.v t.text).toList)\/(t.kind=4/\jC 4 (σ.n t.text).toList/\(σ.n t.text).size<=6)\/(t.kind=2/\jC 2 t.text.toList/\t.args.length<=3/\∀a∈t.args,uf σ f a)
def stops:List UInt8:=[44,41,61,60,92,124,46,58,43]
def ql (rest:List UInt8):Prop:=∃c r,(rest=c :: r\/rest=32 :: c :: r\/rest=[])/\c∈stops
theorem nX (b:ByteArray):(⟨b.toList.toArray⟩:ByteArray)=b:=by rw[bN]
theorem fx (x:List UInt8):(⟨x.toArray⟩:ByteArray).toList=x:=by rw[bN]
theorem kF (h:c∈stops):af.blank c.toNat=false/\e9 3 c.toNat=false/\c≠40:=by simp only[stops,bh,cC,gq]at h;rcases h with rfl | rfl | rfl | rfl | rfl | rfl | rfl | rfl | rfl<;>decide
theorem ql.word {rest:List UInt8} (h:ql rest):∀c r,rest=c :: r->e9 3 c.toNat=false:=by
 obtain⟨c,r,h1 | h1 | h1,h2⟩:=h
 ·intro d q hq;rw[h1]at hq;injection hq with e _;subst e;exact(kF h2).2.1
 ·intro d q hq;rw[h1]at hq;injection hq with e _;subst e;decide
 ·intro d q hq;rw[h1]at hq;cases hq
theorem ie {l:List bX} (h:(hd l).text.toList=c :: r) (hd:c≠d):sees l (d :: g)=false:=by unfold sees;rw[h];simp[hd]
theorem qg {l:List bX} (h:(hd l).kind=0) (g:List UInt8):sees l g=false:=by unfold sees;rw[h];rfl
theorem Tk.rest {s:ByteArray} {p:Nat} {l:List bX} {rest:List UInt8} (h:Tk s p l) (ha:At s p rest) (hr:ql rest):sees l [40]=false:=by
 obtain⟨c,r,h1 | h1 | h1,h2⟩:=hr
 ·subst h1;obtain⟨q,hq⟩:=h.first ha (kF h2).1;exact ie hq (kF h2).2.2
 ·subst h1;obtain⟨k1,k2⟩:=h.blank ha (by decide);obtain⟨q,hq⟩:=k1.first k2 (kF h2).1;exact ie hq (kF h2).2.2
 ·subst h1;exact qg (h.done ha) _
theorem dU (p:Nat) (x g:List UInt8) (m:List bX):sees (⟨5,p,⟨x.toArray⟩⟩ :: m) g=(x == g):=by show ((5 == 5)&&(⟨x.toArray⟩:ByteArray).toList == g)=_;rw[fx];rfl
theorem Lo {a:Nat} (h:a≠58/\a≠61/\a≠92) (c:Nat):eJ a c=false:=by unfold eJ;simp[h.1,h.2.1,h.2.2]
theorem Tk.one {l:List bX} {rest:List UInt8} (a:UInt8) (h:Tk s p l) (ha:At s p (a :: rest)) (hq:(sN a.toNat&&fQ a.toNat&&a != 58&&a != 61&&a != 92)=true):l=⟨5,p,⟨#[a]⟩⟩ :: l.tail/\Tk s (p+1) l.tail/\At s (p+1) rest:=by
 simp only[eS,bne_iff_ne,ne_eq]at hq;obtain⟨⟨⟨⟨h1,h2⟩,h3⟩,h4⟩,h5⟩:=hq;refine h.Mk ha h1 h2 (fun c r _=>Lo ⟨fun e=>h3 ?_,fun e=>h4 ?_,fun e=>h5 ?_⟩ _)
 ·exact q9.1 e
 ·exact q9.1 e
 ·exact q9.1 e
def NS (σ:nr) (f:Nat) (t:Tm):Prop:=∀(s:ByteArray) (p:Nat) (l:List bX) (rest:List UInt8),Tk s p l->At s p (fC σ f t++rest)->ql rest->∃l',term f l= .inr (mi σ f t,l')/\Tk s (p+(fC σ f t).length) l'/\At s (p+(fC σ f t).length) rest
theorem AJ {σ:nr} {f:Nat}:∀(ts:List Tm) (t:Tm) (k:Nat),ts.length<=k->NS σ f t->(∀u∈ts,NS σ f u)->∀(s:ByteArray) (p:Nat) (l:List bX) (rest:List UInt8),Tk s p l->At s p (fC σ f t++(ts.map (fC σ f)).flatMap (fun y=>44 :: y)++41 :: rest)->∃l',cE (term f) k l= .inr (mi σ f t :: ts.map (mi σ f),l')/\Tk s (p+(fC σ f t++(ts.map (fC σ f)).flatMap (fun y=>44 :: y)).length+1) l'/\At s (p+(fC σ f t++(ts.map (fC σ f)).flatMap (fun y=>44 :: y)).length+1) rest
 | [],t,k,_,ht,_,s,p,l,rest,hl,ha=>by
  simp only[bV,eR,br]at ha⊢;obtain⟨l1,e1,k1,a1⟩:=ht s p l _ hl ha ⟨41,rest,ay rfl,by decide⟩;obtain⟨e2,k2,a2⟩:=k1.one 41 a1 (by decide);refine⟨l1.tail,?_,k2,a2⟩;rw[cE,e1];dsimp only;rw[e2];rw[show sees (⟨5,p+(fC σ f t).length,⟨#[41]⟩⟩ :: l1.tail) [44]=false from dU _ [41] [44] _,show sees (⟨5,p+(fC σ f t).length,⟨#[41]⟩⟩ :: l1.tail) [41]=true from dU _ [41] [41] _]
  rfl
 | u :: ts,t,k,hk,ht,hu,s,p,l,rest,hl,ha=>by
  cases k with
  | zero=>simp at hk
  | succ k=>
   simp only[aY,bM,aK,dN]at ha;obtain⟨l1,e1,k1,a1⟩:=ht s p l _ hl ha ⟨44,_,ay rfl,by decide⟩;obtain⟨e2,k2,a2⟩:=k1.one 44 a1 (by decide);obtain⟨l3,e3,k3,a3⟩:=AJ ts u k (by simpa using hk) (hu u (by simp)) (fun x hx=>hu x (by simp[hx])) s _ _ rest k2 (by simpa using a2);have hz:p+(fC σ f t).length+1+(fC σ f u++(ts.map (fC σ f)).flatMap (fun y=>44 :: y)).length+1=p+(fC σ f t++((u :: ts).map (fC σ f)).flatMap (fun y=>44 :: y)).length+1:=by simp;omega
   rw[hz]at k3 a3;refine⟨l3,?_,k3,a3⟩;rw[cE,e1];dsimp only;rw[e2];rw[aH (show sees (⟨5,p+(fC σ f t).length,⟨#[44]⟩⟩ :: l1.tail) [44]=true from dU _ [44] [44] _)]
   show (match cE (term f) k l1.tail with | .inl e=>_ | .inr (ts,l2)=>_)=_;rw[e3];rfl
theorem kJ (σ:nr):∀(f:Nat) (t:Tm),uf σ f t->NS σ f t
 | 0,_,h=>h.elim
 | f+1,t,h=>by
  intro s p l rest hl ha hr;rcases h with⟨hk,hw⟩ | ⟨hk,hw,h6⟩ | ⟨hk,hw,h3,hargs⟩
  ·have e0:fC σ (f+1) t=(σ.v t.text).toList:=by unfold fC;rw[aH hk]
   have e1:mi σ (f+1) t=⟨3,σ.v t.text,[]⟩:=by unfold mi;rw[aH hk]
   rw[e0]at ha⊢;obtain⟨k1,k2,k3⟩:=hl.word hw ha hr.word;rw[nX]at k1;refine⟨l.tail,?_,k2,k3⟩;rw[e1,k1];rfl
  ·have e0:fC σ (f+1) t=(σ.n t.text).toList:=by unfold fC;rw[aG (by omega),aH hk]
   have e1:mi σ (f+1) t=⟨4,σ.n t.text,[]⟩:=by unfold mi;rw[aG (by omega),aH hk]
   rw[e0]at ha⊢;obtain⟨k1,k2,k3⟩:=hl.word hw ha hr.word;rw[nX]at k1;refine⟨l.tail,?_,k2,k3⟩;rw[e1,k1];unfold term;rw[aH (show ez (hd (⟨4,p,σ.n t.text⟩ :: l.tail))=true from rfl),aG (show¬((hd (⟨4,p,σ.n t.text⟩ :: l.tail)).kind=4/\6<(hd (⟨4,p,σ.n t.text⟩ :: l.tail)).text.size)from fun q=>by have:=q.2;change 6<(σ.n t.text).size at this;omega)]
   rfl
  ·have e0:fC σ (f+1) t=t.text.toList++tR (t.args.map (fC σ f)):=by unfold fC;rw[aG (by omega),aG (by omega)]
   have e1:mi σ (f+1) t=⟨2,t.text,t.args.map (mi σ f)⟩:=by unfold mi;rw[aG (by omega),aG (by omega)]
   rw[e0]at ha⊢;cases hA:t.args with
   | nil=>
    rw[hA]at ha e1;simp only[bV,tR,br]at ha e1⊢;obtain⟨k1,k2,k3⟩:=hl.word hw ha hr.word;rw[nX]at k1;refine⟨l.tail,?_,k2,k3⟩;have hs:sees l.tail [40]=false:=k2.rest k3 hr;rw[e1,k1];unfold term;rw[aH (show ez (hd (⟨2,p,t.text⟩ :: l.tail))=true from rfl),aG (show¬((hd (⟨2,p,t.text⟩ :: l.tail)).kind=4/\6<(hd (⟨2,p,t.text⟩ :: l.tail)).text.size)from fun q=>by have:=q.1;change 2=4 at this;omega),aH (show (hd (⟨2,p,t.text⟩ :: l.tail)).kind=2 from rfl),aG (show¬sees (List.tail (⟨2,p,t.text⟩ :: l.tail)) [40]=true from by rw[ud,hs];simp)]
    rfl
   | cons u ts=>
    rw[hA]at ha e1 h3;have hu:=kJ σ f u (hargs u (by rw[hA];simp));have hts:=fun x (hx:x∈ts)=>kJ σ f x (hargs x (by rw[hA];simp[hx]));simp only[aY,tR,aK,dN,cG]at ha;obtain⟨k1,k2,k3⟩:=hl.word hw ha (fun c r q=>by injection q with q _;subst q;decide);rw[nX]at k1;obtain⟨j1,j2,j3⟩:=k2.one 40 k3 (by decide);obtain⟨l3,e3,m3,a3⟩:=AJ ts u 2 (by simpa using h3) hu hts s _ _ rest j2 (by simpa using j3);have hz:p+t.text.toList.length+1+(fC σ f u++(ts.map (fC σ f)).flatMap (fun y=>44 :: y)).length+1=p+(t.text.toList++tR ((u :: ts).map (fC σ f))).length:=by simp[tR];omega
    rw[hz]at m3 a3;refine⟨l3,?_,m3,a3⟩;rw[e1,k1];unfold term;rw[aH (show ez (hd (⟨2,p,t.text⟩ :: l.tail))=true from rfl),aG (show¬((hd (⟨2,p,t.text⟩ :: l.tail)).kind=4/\6<(hd (⟨2,p,t.text⟩ :: l.tail)).text.size)from fun q=>by have:=q.1;change 2=4 at this;omega),aH (show (hd (⟨2,p,t.text⟩ :: l.tail)).kind=2 from rfl),aH (show sees (List.tail (⟨2,p,t.text⟩ :: l.tail)) [40]=true from by rw[ud,j1];exact dU _ [40] [40] _)]
    show (match cE (term f) 2 l.tail.tail with | .inl e=>_ | .inr (ts,l2)=>_)=_;rw[e3];rfl
def sp (b:Bool):List UInt8:=if b=true then [32]else []
def nl (b:Bool):List UInt8:=if b=true then [10]else []
theorem Tk.sp {s:ByteArray} {p:Nat} {l:List bX} {rest:List UInt8} (b:Bool) (h:Tk s p l) (ha:At s p (af.sp b++rest)):Tk s (p+(af.sp b).length) l/\At s (p+(af.sp b).length) rest:=by
 cases b
 ·exact⟨h,ha⟩
 ·exact h.blank (c:=32) ha (by decide)
theorem Tk.nl {s:ByteArray} {p:Nat} {l:List bX} {rest:List UInt8} (b:Bool) (h:Tk s p l) (ha:At s p (af.nl b++rest)):Tk s (p+(af.nl b).length) l/\At s (p+(af.nl b).length) rest:=by
 cases b
 ·exact⟨h,ha⟩
 ·exact h.blank (c:=10) ha (by decide)
theorem AC {σ:nr} {t:Tm} (h:uf σ f t):∃c r,fC σ f t=c :: r/\(low c.toNat=true\/re c.toNat=true\/pX c.toNat=true):=by
 cases f with
 | zero=>exact h.elim
 | succ f=>
  rcases h with⟨hk,c,r,h1,h2,h3⟩ | ⟨hk,⟨c,r,h1,h2,h3⟩,_⟩ | ⟨hk,⟨c,r,h1,h2,h3⟩,_⟩
  ·refine⟨c,r,?_,by rcases h2 with⟨_,q⟩ | ⟨_,q⟩ | ⟨_,q⟩<;>simp[q]⟩;unfold fC;rw[aH hk,h1]
  ·refine⟨c,r,?_,by rcases h2 with⟨_,q⟩ | ⟨_,q⟩ | ⟨_,q⟩<;>simp[q]⟩;unfold fC;rw[aG (by omega),aH hk,h1]
  ·refine⟨c,r++tR (t.args.map (fC σ f)),?_,by rcases h2 with⟨_,q⟩ | ⟨_,q⟩ | ⟨_,q⟩<;>simp[q]⟩;unfold fC;rw[aG (by omega),aG (by omega),h1];rfl
theorem Fj {a c:Nat} (h:low c=true\/re c=true\/pX c=true):eJ a c=false:=by unfold low re pX at h;unfold eJ;simp at h⊢;omega
def ends:List UInt8:=[44,46,124]
def o7 (rest:List UInt8):Prop:=∃c r,(rest=c :: r\/rest=32 :: c :: r\/rest=[])/\c∈ends
theorem oN (h:c∈ends):c∈stops:=by simp only[ends,bh,cC,gq]at h;rcases h with rfl | rfl | rfl<;>decide
theorem o7.rest {rest:List UInt8} (h:o7 rest):ql rest:=by obtain⟨c,r,h1,h2⟩:=h;exact⟨c,r,h1,oN h2⟩
theorem Tk.ends {s:ByteArray} {p:Nat} {l:List bX} {rest:List UInt8} (h:Tk s p l) (ha:At s p rest) (hr:o7 rest):dd l=false/\sees l [61]=false/\sees l [58,61]=false:=by
 have hq:(hd l).kind=0\/∃c r,c∈af.ends/\(hd l).text.toList=c :: r:=by
  obtain⟨c,r,h1 | h1 | h1,h2⟩:=hr
  ·subst h1;obtain⟨q,hq⟩:=h.first ha (kF (oN h2)).1;exact aw ⟨c,q,h2,hq⟩
  ·subst h1;obtain⟨k1,k2⟩:=h.blank ha (by decide);obtain⟨q,hq⟩:=k1.first k2 (kF (oN h2)).1;exact aw ⟨c,q,h2,hq⟩
  ·subst h1;exact ay (h.done ha)
 rcases hq with hq | ⟨c,r,hc,hq⟩
 ·unfold dd;simp[qg hq]
 ·have hne:c≠60/\c≠61/\c≠92/\c≠58:=by
   simp only[af.ends,bh,cC,gq]at hc;rcases hc with rfl | rfl | rfl<;>decide
  unfold dd;rw[ie hq hne.1,ie hq hne.2.1,ie hq hne.2.1,ie hq hne.2.2.1,ie hq hne.2.2.2,ie hq hne.2.1];exact⟨rfl,rfl,rfl⟩
def jG (σ:nr) (x:dq):List UInt8:=fC σ 8 x.left++(match x.right with
 | none=>[]
 | some r=>x.sign++fC σ 8 r)
def B6 (σ:nr) (x:dq):dq:=⟨mi σ 8 x.left,x.sign,x.right.map (mi σ 8),[],none⟩
inductive lP (σ:nr):dq->Prop
 | call (t:Tm) (h:uf σ 8 t) (hk:t.kind=2) (hi:isInt t=false):lP σ ⟨t,[],none,[],none⟩
 | eq (a b:Tm) (ha:uf σ 8 a) (hb:uf σ 8 b):lP σ ⟨a,[61],some b,[],none⟩
inductive Bi (σ:nr):dq->Prop
 | int (t:Tm) (h:uf σ 8 t) (hk:t.kind=2) (hi:isInt t=true):Bi σ ⟨t,[],none,[],none⟩
 | rel (a b:Tm) (g:List UInt8) (ha:uf σ 8 a) (hb:uf σ 8 b) (hg:g=[61,61]\/g=[92,61]\/g=[60]\/g=[61,60]):Bi σ ⟨a,g,some b,[],none⟩
theorem Lg {σ:nr} {t:Tm} (hk:t.kind=2):(mi σ 8 t).kind=2/\isInt (mi σ 8 t)=isInt t:=by
 have e:mi σ 8 t=⟨2,t.text,t.args.map (mi σ 7)⟩:=by unfold mi;rw[aG (by omega),aG (by omega)]
 rw[e];refine⟨rfl,?_⟩;unfold isInt;rw[hk];simp
theorem AI {σ:nr} {t:Tm} (h:uf σ 8 t) (hk:t.kind=2) {tests goals:Bool} (hf:((tests&&isInt t)||goals)=true) {l:List bX} {rest:List UInt8} (hl:Tk s p l) (ha:At s p (fC σ 8 t++rest)) (hr:o7 rest):
 ∃l',item tests goals l= .inr ((⟨mi σ 8 t,[],none,[],none⟩,tests&&isInt t,goals),l')/\Tk s (p+(fC σ 8 t).length) l'/\At s (p+(fC σ 8 t).length) rest:=by
 obtain⟨l1,e1,k1,a1⟩:=kJ σ 8 t h s p l rest hl ha hr.rest;obtain⟨n1,n2,n3⟩:=k1.ends a1 hr;obtain⟨m1,m2⟩:=Lg (σ:=σ) hk;refine⟨l1,?_,k1,a1⟩;unfold item;rw[e1];dsimp only;rw[aG (by rw[n1];decide),aG (by rw[n2];decide),aG (by rw[n3];simp),m2,aH ⟨m1,hf⟩]
theorem AE {σ:nr} {a b:Tm} (ha:uf σ 8 a) (hb:uf σ 8 b) (hg:g=[61]\/g=[61,61]\/g=[92,61]\/g=[60]\/g=[61,60]) {l:List bX} {rest:List UInt8} (hl:Tk s p l) (hA:At s p (fC σ 8 a++(g++fC σ 8 b)++rest)) (hr:o7 rest):
 ∃l1 l',term 8 l= .inr (mi σ 8 a,l1)/\(∀k,sees l1 k=(g == k))/\(hd l1).text.toList=g/\term 8 l1.tail= .inr (mi σ 8 b,l')/\Tk s (p+(fC σ 8 a++(g++fC σ 8 b)).length) l'/\At s (p+(fC σ 8 a++(g++fC σ 8 b)).length) rest:=by
 obtain⟨c,r,hc,hw⟩:=AC hb;rw[aK]at hA;obtain⟨l1,e1,k1,a1⟩:=kJ σ 8 a ha s p l _ hl hA (by rcases hg with rfl | rfl | rfl | rfl | rfl<;>exact⟨_,_,ay rfl,by decide⟩);have key:l1=⟨5,p+(fC σ 8 a).length,⟨g.toArray⟩⟩ :: l1.tail/\Tk s (p+(fC σ 8 a).length+g.length) l1.tail/\At s (p+(fC σ 8 a).length+g.length) (fC σ 8 b++rest):=by
  rcases hg with rfl | rfl | rfl | rfl | rfl
  ·exact k1.Mk (a:=61) a1 (by decide) (by decide) (fun d q e=>by rw[hc]at e;injection e with e _;subst e;exact Fj hw)
  ·exact k1.DC (a:=61) (b:=61) a1 (by decide) (by decide)
  ·exact k1.DC (a:=92) (b:=61) a1 (by decide) (by decide)
  ·exact k1.one 60 a1 (by decide)
  ·exact k1.DC (a:=61) (b:=60) a1 (by decide) (by decide)
 obtain⟨q1,q2,q3⟩:=key;obtain⟨l2,e2,k2,a2⟩:=kJ σ 8 b hb s _ _ _ q2 q3 hr.rest;have hz:p+(fC σ 8 a).length+g.length+(fC σ 8 b).length=p+(fC σ 8 a++(g++fC σ 8 b)).length:=by simp;omega
 rw[hz]at k2 a2;refine⟨l1,l2,e1,fun k=> ?_,?_,e2,k2,a2⟩
 ·rw[q1];exact dU _ g k _
 ·rw[q1];exact fx g
theorem Nc {σ:nr} {a b:Tm} (ha:uf σ 8 a) (hb:uf σ 8 b) {tests:Bool} {l:List bX} {rest:List UInt8} (hl:Tk s p l) (hA:At s p (fC σ 8 a++([61]++fC σ 8 b)++rest)) (hr:o7 rest):
 ∃l',item tests true l= .inr ((⟨mi σ 8 a,[61],some (mi σ 8 b),[],none⟩,false,true),l')/\Tk s (p+(fC σ 8 a++([61]++fC σ 8 b)).length) l'/\At s (p+(fC σ 8 a++([61]++fC σ 8 b)).length) rest:=by
 obtain⟨l1,l2,e1,e2,e3,e4,k,a⟩:=AE ha hb (g:=[61]) (ay rfl) hl hA hr;refine⟨l2,?_,k,a⟩;unfold item;rw[e1];dsimp only;unfold dd;rw[e2,e2,e2,e2,e2];unfold sides;rw[e4,e3];rfl
theorem KQ {σ:nr} {a b:Tm} (ha:uf σ 8 a) (hb:uf σ 8 b) (hg:g=[61,61]\/g=[92,61]\/g=[60]\/g=[61,60]) {goals:Bool} {l:List bX} {rest:List UInt8} (hl:Tk s p l) (hA:At s p (fC σ 8 a++(g++fC σ 8 b)++rest)) (hr:o7 rest):
 ∃l',item true goals l= .inr ((⟨mi σ 8 a,g,some (mi σ 8 b),[],none⟩,true,false),l')/\Tk s (p+(fC σ 8 a++(g++fC σ 8 b)).length) l'/\At s (p+(fC σ 8 a++(g++fC σ 8 b)).length) rest:=by
 obtain⟨l1,l2,e1,e2,e3,e4,k,a⟩:=AE ha hb (g:=g) (aw hg) hl hA hr;refine⟨l2,?_,k,a⟩;unfold item;rw[e1];dsimp only;have ht:dd l1=true:=by unfold dd;rw[e2,e2,e2,e2];rcases hg with rfl | rfl | rfl | rfl<;>decide
 rw[aH ht];unfold sides;rw[e4,e3];rfl
theorem AH {σ:nr} {x:dq} (h:lP σ x) {tests:Bool} {l:List bX} {rest:List UInt8} (hl:Tk s p l) (hA:At s p (jG σ x++rest)) (hr:o7 rest):
 ∃l',item tests true l= .inr ((B6 σ x,false,true),l')/\Tk s (p+(jG σ x).length) l'/\At s (p+(jG σ x).length) rest:=by
 cases h with
 | call t h hk hi=>
  have e:jG σ ⟨t,[],none,[],none⟩=fC σ 8 t:=by simp[jG]
  rw[e]at hA⊢;obtain⟨l',e1,k⟩:=AI h hk (tests:=tests) (goals:=true) (by simp) hl hA hr;refine⟨l',?_,k⟩;rw[e1,hi,Bool.and_false];rfl
 | eq a b ha hb=>exact Nc ha hb hl hA hr
theorem G9 {σ:nr} {x:dq} (h:Bi σ x) {l:List bX} {rest:List UInt8} (hl:Tk s p l) (hA:At s p (jG σ x++rest)) (hr:o7 rest):
 ∃l' g,item true true l= .inr ((B6 σ x,true,g),l')/\Tk s (p+(jG σ x).length) l'/\At s (p+(jG σ x).length) rest:=by
 cases h with
 | int t h hk hi=>
  have e:jG σ ⟨t,[],none,[],none⟩=fC σ 8 t:=by simp[jG]
  rw[e]at hA⊢;obtain⟨l',e1,k⟩:=AI h hk (tests:=true) (goals:=true) (by simp) hl hA hr;refine⟨l',true,?_,k⟩;rw[e1,hi];rfl
 | rel a b g ha hb hg=>obtain⟨l',e1,k⟩:=KQ ha hb hg (goals:=true) hl hA hr;exact⟨l',false,e1,k⟩
def jF (σ:nr) (b:Bool):List dq->List UInt8
 | []=>[]
 | x :: xs=>jG σ x++xs.flatMap (fun y=>44 :: sp b++jG σ y)
theorem oF {σ:nr} {b:Bool} {tl:List UInt8} (htl:tl=[]\/∃r,tl=46 :: r):∀(xs:List dq) (x:dq) (k:Nat) (tests:Bool),xs.length<=k->lP σ x->(∀y∈xs,lP σ y)->∀(s:ByteArray) (p:Nat) (l:List bX),Tk s p l->At s p (jF σ b (x :: xs)++tl)->∃l',items k tests true l= .inr (((x :: xs).map (B6 σ),false,true),l')/\Tk s (p+(jF σ b (x :: xs)).length) l'/\At s (p+(jF σ b (x :: xs)).length) tl
 | [],x,k,tests,_,hx,_,s,p,l,hl,ha=>by
  simp only[jF,eR,br]at ha⊢;obtain⟨l1,e1,k1,a1⟩:=AH hx (tests:=tests) hl ha (by
   rcases htl with rfl | ⟨r,rfl⟩
   ·exact⟨46,[],aw (aw rfl),by decide⟩
   ·exact⟨46,r,ay rfl,by decide⟩)
  refine⟨l1,?_,k1,a1⟩;have e2:sees l1 [44]=false:=by
   rcases htl with rfl | ⟨r,rfl⟩
   ·exact qg (k1.done a1) _
   ·obtain⟨e2,k2,a2⟩:=k1.one 46 a1 (by decide);rw[e2];exact dU _ [46] [44] _
  unfold items;rw[e1];dsimp only;rw[aG (by rw[e2];simp)];rfl
 | y :: ys,x,k,tests,hk,hx,hy,s,p,l,hl,ha=>by
  cases k with
  | zero=>simp at hk
  | succ k=>
   simp only[jF,bM,aK,dN]at ha;obtain⟨l1,e1,k1,a1⟩:=AH hx (tests:=tests) hl ha ⟨44,_,ay rfl,by decide⟩;obtain⟨e2,k2,a2⟩:=k1.one 44 a1 (by decide);obtain⟨k3,a3⟩:=k2.sp b a2;obtain⟨l4,e4,k4,a4⟩:=oF (σ:=σ) (b:=b) htl ys y k false (by simpa using hk) (hy y (by simp)) (fun z hz=>hy z (by simp[hz])) s _ _ k3 (by simpa [jF] using a3);have hz:p+(jG σ x).length+1+(sp b).length+(jF σ b (y :: ys)).length=p+(jF σ b (x :: y :: ys)).length:=by simp[jF];omega
   rw[hz]at k4 a4;refine⟨l4,?_,k4,a4⟩;unfold items;rw[e1];dsimp only;rw[aH (show sees l1 [44]=true by rw[e2];exact dU _ [44] [44] _)]
   rw[e4];rfl
theorem vj {σ:nr} (xs:List dq) (x:dq) (k:Nat) (tests:Bool) (hk:xs.length<=k) (hx:lP σ x) (hy:∀y∈xs,lP σ y) (s:ByteArray) (p:Nat) (l:List bX) (rest:List UInt8) (hl:Tk s p l) (ha:At s p (jF σ b (x :: xs)++46 :: rest)):∃l',items k tests true l= .inr (((x :: xs).map (B6 σ),false,true),l')/\Tk s (p+(jF σ b (x :: xs)).length) l'/\At s (p+(jF σ b (x :: xs)).length) (46 :: rest):=
 oF (aw ⟨rest,rfl⟩) xs x k tests hk hx hy s p l hl ha
def pT (σ:nr) (b:Bool) (c:dE):List UInt8:=fC σ 8 c.head++(match c.goals with
 | []=>[]
 | g :: gs=>sp b++([58,45]++(sp b++((match c.tests with
  | []=>[]
  | x :: _=>jG σ x++(sp b++([124]++sp b)))++jF σ b (g :: gs)))))++(46 :: nl b)
def Ow (σ:nr) (c:dE):dE:=⟨mi σ 8 c.head,c.tests.map (B6 σ),c.goals.map (B6 σ)⟩
structure LG (σ:nr) (c:dE):Prop where
 head:uf σ 8 c.head
 name:c.head.kind=2
 tests:c.tests=[]\/∃x,c.tests=[x]/\Bi σ x
 goals:∀x∈c.goals,lP σ x
 few:c.goals.length<=6
 fact:c.goals=[]->c.tests=[]
theorem Lz {σ:nr} {t:Tm} (h:uf σ 8 t) (hk:t.kind=2) {l:List bX} {rest:List UInt8} (hl:Tk s p l) (ha:At s p (fC σ 8 t++rest)):(hd l).kind=2:=by
 obtain⟨c,r,hc,hw⟩:=AC h;rw[hc]at ha;obtain⟨h1,h2,h3⟩:=At.head (c:=c) (x:=r++rest) ha;obtain⟨t1,_⟩:=hl.tok (c:=c) (x:=r++rest) ha (nW hw);rw[t1];show cD s p=2;have hlow:low c.toNat=true:=by
  rcases h with⟨q,_⟩ | ⟨q,_⟩ | ⟨q,⟨c',r',q1,q2,q3⟩,_⟩
  ·omega
  ·omega
  ·have:fC σ 8 t=c' :: (r'++tR (t.args.map (fC σ 7))):=by unfold fC;rw[aG (by omega),aG (by omega),q1];rfl
   rw[hc]at this;injection this with e _;subst e;rcases q2 with⟨_,z⟩ | ⟨z,_⟩ | ⟨z,_⟩
   ·exact z
   ·omega
   ·omega
 exact(vy h1 (by rw[h2];exact hlow)).1
theorem Ha {σ:nr} {c:dE} (h:LG σ c) {g:dq} {gs:List dq} (hg:c.goals=g :: gs) {l:List bX} {rest:List UInt8} (hl:Tk s p l) (ha:At s p (((match c.tests with
 | []=>[]
 | x :: _=>jG σ x++(sp b++([124]++sp b)))++jF σ b (g :: gs))++46 :: rest)):
 ∃l',body l= .inr ((c.tests.map (B6 σ),c.goals.map (B6 σ)),l')/\Tk s (p+((match c.tests with
 | []=>[]
 | x :: _=>jG σ x++(sp b++([124]++sp b)))++jF σ b (g :: gs)).length) l'/\At s (p+((match c.tests with
 | []=>[]
 | x :: _=>jG σ x++(sp b++([124]++sp b)))++jF σ b (g :: gs)).length) (46 :: rest):=by
 have hgg:lP σ g:=h.goals g (by rw[hg];simp);have hgs:∀y∈gs,lP σ y:=fun y hy=>h.goals y (by rw[hg];simp[hy]);have h6:gs.length<=5:=by have:=h.few;rw[hg]at this;simpa using this
 rcases h.tests with ht | ⟨x,ht,hx⟩
 ·rw[ht]at ha⊢;simp only[cG]at ha⊢;obtain⟨l1,e1,k1,a1⟩:=vj gs g 5 true h6 hgg hgs s p l rest hl ha;refine⟨l1,?_,k1,a1⟩;unfold body;rw[e1];dsimp only;rw[aG (by simp),aH rfl,hg];rfl
 ·rw[ht]at ha⊢;dsimp only at ha⊢;simp only[aK]at ha;obtain⟨l1,fg,e1,k1,a1⟩:=G9 hx hl ha (by cases b;exact⟨124,_,ay rfl,by decide⟩;exact⟨124,_,aw (ay rfl),by decide⟩);obtain⟨k2,a2⟩:=k1.sp b a1;obtain⟨e3,k3,a3⟩:=k2.one 124 a2 (by decide);obtain⟨k4,a4⟩:=k3.sp b a3;obtain⟨l5,e5,k5,a5⟩:=vj gs g 5 false h6 hgg hgs s _ _ rest k4 a4;have hz:p+(jG σ x).length+(sp b).length+1+(sp b).length+(jF σ b (g :: gs)).length=p+(jG σ x++(sp b++([124]++sp b))++jF σ b (g :: gs)).length:=by simp;omega
  rw[hz]at k5 a5;refine⟨l5,?_,k5,a5⟩;have hs44:sees l1 [44]=false:=by rw[e3];exact dU _ [124] [44] _
  have hs124:sees l1 [124]=true:=by rw[e3];exact dU _ [124] [124] _
  have e6:items 5 true true l= .inr (([B6 σ x],true,fg),l1):=by unfold items;rw[e1];dsimp only;rw[aG (by rw[hs44];simp)]
  unfold body;rw[e6];dsimp only;rw[aH ⟨rfl,hs124⟩,e5];dsimp only;rw[aH rfl,hg];rfl
theorem Cu {σ:nr} {c:dE} (h:LG σ c) {l:List bX} {rest:List UInt8} (hl:Tk s p l) (ha:At s p (pT σ b c++rest)):
 (hd l).kind=2/\∃l',clause true l= .inr (Ow σ c,l')/\Tk s (p+(pT σ b c).length) l'/\At s (p+(pT σ b c).length) rest:=by
 unfold pT at ha;simp only[aK,dN]at ha;have hk:=Lz h.head h.name hl ha;refine⟨hk,?_⟩;cases hg:c.goals with
 | nil=>
  rw[hg]at ha;dsimp only at ha;simp only[cG]at ha;obtain⟨l1,e1,k1,a1⟩:=kJ σ 8 c.head h.head s p l _ hl ha ⟨46,_,ay rfl,by decide⟩;obtain⟨e2,k2,a2⟩:=k1.one 46 a1 (by decide);obtain⟨k3,a3⟩:=k2.nl b a2;have hz:p+(fC σ 8 c.head).length+1+(nl b).length=p+(pT σ b c).length:=by unfold pT;rw[hg];simp;omega
  rw[hz]at k3 a3;refine⟨l1.tail,?_,k3,a3⟩;have n1:sees l1 [58,45]=false:=by rw[e2];exact dU _ [46] [58,45] _
  have n2:sees l1 [46]=true:=by rw[e2];exact dU _ [46] [46] _
  unfold clause;rw[aH hk,aH rfl,e1];dsimp only;rw[aG (by rw[n1];simp)];unfold stop;rw[aH n2];unfold Ow;rw[hg,h.fact hg];rfl
 | cons g gs=>
  rw[hg]at ha;dsimp only at ha;obtain⟨l1,e1,k1,a1⟩:=kJ σ 8 c.head h.head s p l _ hl ha (by cases b;exact⟨58,_,ay rfl,by decide⟩;exact⟨58,_,aw (ay rfl),by decide⟩);obtain⟨k2,a2⟩:=k1.sp b (by simpa using a1);obtain⟨e3,k3,a3⟩:=k2.DC (a:=58) (b:=45) a2 (by decide) (by decide);obtain⟨k4,a4⟩:=k3.sp b a3;obtain⟨l5,e5,k5,a5⟩:=Ha h hg k4 (b:=b) (rest:=nl b++rest) (by simpa using a4);obtain⟨e6,k6,a6⟩:=k5.one 46 a5 (by decide);obtain⟨k7,a7⟩:=k6.nl b a6;have hz:p+(fC σ 8 c.head).length+(sp b).length+2+(sp b).length+((match c.tests with
  | []=>[]
  | x :: _=>jG σ x++(sp b++([124]++sp b)))++jF σ b (g :: gs)).length+1+(nl b).length=p+(pT σ b c).length:=by unfold pT;rw[hg];simp;omega
  rw[hz]at k7 a7;refine⟨l5.tail,?_,k7,a7⟩;have n1:sees l1 [58,45]=true:=by rw[e3];exact dU _ [58,45] [58,45] _
  have n2:sees l5 [46]=true:=by rw[e6];exact dU _ [46] [46] _
  unfold clause;rw[aH hk,aH rfl,e1];dsimp only;rw[aH n1,e5];dsimp only;unfold stop;rw[aH n2];rfl
def KN (σ:dE->nr) (b:Bool) (cs:List dE):List UInt8:=cs.flatMap fun c=>pT (σ c) b c
theorem AF {σ:dE->nr} {b:Bool}:∀(cs:List dE) (k:Nat),cs.length<=k->(∀c∈cs,LG (σ c) c)->∀(s:ByteArray) (p:Nat) (l:List bX),Tk s p l->At s p (KN σ b cs)->∃l',prog k l= .inr (cs.map fun c=>Ow (σ c) c,l')
 | [],k,_,_,s,p,l,hl,ha=>by refine⟨l,?_⟩;unfold prog;rw[aH (hl.done ha)];rfl
 | c :: cs,k,hk,hc,s,p,l,hl,ha=>by
  cases k with
  | zero=>simp at hk
  | succ k=>obtain⟨h2,l1,e1,k1,a1⟩:=Cu (b:=b) (hc c (by simp)) hl (rest:=KN σ b cs) (by simpa [KN] using ha);obtain⟨l2,e2⟩:=AF (σ:=σ) (b:=b) cs k (by simpa using hk) (fun d hd=>hc d (by simp[hd])) s _ l1 k1 a1;refine⟨l2,?_⟩;unfold prog;rw[aG (by omega)];dsimp only;rw[e1];dsimp only;rw[e2];rfl
