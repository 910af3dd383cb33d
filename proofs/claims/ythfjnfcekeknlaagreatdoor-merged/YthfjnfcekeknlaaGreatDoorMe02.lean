import Derived.Laws.Strings
import Derived.Lib.ItoaNum
import Derived.Lib.Strings
import Derived.Test.YthfjnfcekeknlaaGreatDoorRows
import Derived.WalkKit
import Derived.WalkLawsBesides
import Derived.WalkSpells
import Derived.Deep.QuietTactic
import Derived.BigQuiet
import Derived.Deep.RegionWith
import Derived.OpenShut
set_option maxHeartbeats 8000000
set_option maxRecDepth 100000
namespace Zc
def bQ (s:ByteArray) (i:Nat):Nat:=if h:i<s.size then(s[i]'h).toNat else 0
def low (c:Nat):Bool:=decide (97≤c)&&decide (c≤122)
def i6 (c:Nat):Bool:=decide (65≤c)&&decide (c≤90)
def iO (c:Nat):Bool:=decide (48≤c)&&decide (c≤57)
def blank (c:Nat):Bool:=c == 32||c == 10
def pP (s:ByteArray):Nat→Nat→Nat
 | 0,i=>i
 | n+1,i=>if i<s.size∧blank (bQ s i)=true then pP s n (i+1)else i
def skip (s:ByteArray) (i:Nat):Nat:=pP s (s.size - i) i
def dt (k:Nat) (c:Nat):Bool:=
 if k=2 then low c||iO c else if k=3 then low c||iO c||i6 c else iO c
def jQ (s:ByteArray) (k:Nat):Nat→Nat→Nat
 | 0,i=>i
 | n+1,i=>if i<s.size∧dt k (bQ s i)=true then jQ s k n (i+1)else i
def cY (s:ByteArray) (k i:Nat):Nat:=jQ s k (s.size - i) i
def dr (a b:Nat):Bool:=
 (a == 58&&b == 45)||(a == 58&&b == 61)||(a == 61&&b == 61)||(a == 92&&b == 61)||(a == 61&&b == 60)
def fB (a:Nat):Bool:=
 a == 61||a == 60||a == 43||a == 45||a == 42||a == 40||a == 41||a == 44||a == 124||a == 46
def cG (s:ByteArray) (i:Nat):Nat:=
 if i+1<s.size∧dr (bQ s i) (bQ s (i+1))=true then 2
 else if i<s.size∧fB (bQ s i)=true then 1 else 0
def aR (s:ByteArray) (i:Nat):Nat:=
 if s.size≤i then 0
 else if low (bQ s i)=true then 2
 else if i6 (bQ s i)=true then 3
 else if iO (bQ s i)=true then 4
 else if 0<cG s i then 5 else 1
def cX (s:ByteArray) (i:Nat):Nat:=
 if aR s i=0 then i
 else if aR s i=1 then i+1
 else if aR s i=5 then i+cG s i
 else cY s (aR s i) i
structure aj where
 kind:Nat
 pos:Nat
 text:ByteArray
def next (s:ByteArray) (p:Nat):aj:=
 let i:=skip s p
 if s.size≤i then⟨0,s.size,ByteArray.empty⟩else⟨aR s i,i,s.extract i (cX s i)⟩
def eo (s:ByteArray):List aj→Prop
 | []=>False
 | [t]=>t.kind=0
 | t :: u :: r=>t.kind≠0∧u=next s (t.pos+t.text.size)∧eo s (u :: r)
abbrev dR (α:Type):=Sum (Nat×Nat) (α×List aj)
def hd (l:List aj):aj:=l.headD ⟨0,0,ByteArray.empty⟩
def sees (l:List aj) (g:List UInt8):Bool:=(hd l).kind == 5&&(hd l).text.toList == g
def bad {α:Type} (e:Nat) (l:List aj):dR α:= .inl (e,(hd l).pos)
structure Tm where
 kind:Nat
 text:ByteArray
 args:List Tm
def bL (p:List aj→dR Tm):Nat→List aj→dR (List Tm)
 | k,l=>
  match p l with
  | .inl e=> .inl e
  | .inr (t,l1)=>
   if sees l1 [44]=true then
    match k with
    | 0=>bad 3 l1
    | k+1=>
     match bL p k l1.tail with
     | .inl e=> .inl e
     | .inr (ts,l2)=> .inr (t :: ts,l2)
   else if sees l1 [41]=true then .inr ([t],l1.tail)else bad 2 l1
def dw (t:aj):Bool:=t.kind == 2||t.kind == 3||t.kind == 4
def term:Nat→List aj→dR Tm
 | 0,l=>if dw (hd l)=true then bad 3 l else bad 2 l
 | f+1,l=>
  if dw (hd l)=true then
   if(hd l).kind=4∧6<(hd l).text.size then bad 3 l
   else if(hd l).kind=2 then
    if sees l.tail [40]=true then
     match bL (term f) 2 l.tail.tail with
     | .inl e=> .inl e
     | .inr (ts,l2)=> .inr (⟨2,(hd l).text,ts⟩,l2)
    else .inr (⟨2,(hd l).text,[]⟩,l.tail)
   else .inr (⟨(hd l).kind,(hd l).text,[]⟩,l.tail)
  else bad 2 l
structure aH where
 left:Tm
 sign:List UInt8
 right:Option Tm
 op:List UInt8
 last:Option Tm
def bF (l:List aj):Bool:=sees l [60]||sees l [61,60]||sees l [61,61]||sees l [92,61]
def gQ (l:List aj):Bool:=sees l [43]||sees l [45]||sees l [42]
def isInt (t:Tm):Bool:=t.kind == 2&&t.text.toList == [105,110,116]&&t.args.length == 1
def operand (l:List aj):dR Tm:=if(hd l).kind=2 then bad 2 l else term 8 l
def sides (left:Tm) (fits:Bool) (l:List aj):dR aH:=
 if fits=true then
  match term 8 l.tail with
  | .inl e=> .inl e
  | .inr (r,l2)=> .inr (⟨left,(hd l).text.toList,some r,[],none⟩,l2)
 else bad 2 l
def assignment (left:Tm) (fits:Bool) (l:List aj):dR aH:=
 if fits=true then
  match operand l.tail with
  | .inl e=> .inl e
  | .inr (r,l2)=>
   if gQ l2=true then
    match operand l2.tail with
    | .inl e=> .inl e
    | .inr (z,l3)=> .inr (⟨left,(hd l).text.toList,some r,(hd l2).text.toList,some z⟩,l3)
   else .inr (⟨left,(hd l).text.toList,some r,[],none⟩,l2)
 else bad 2 l
def item (tests goals:Bool) (l:List aj):dR (aH×Bool×Bool):=
 match term 8 l with
 | .inl e=> .inl e
 | .inr (t,l1)=>
  if bF l1=true then
   match sides t tests l1 with
   | .inl e=> .inl e
   | .inr (x,l2)=> .inr ((x,tests,false),l2)
  else if sees l1 [61]=true then
   match sides t goals l1 with
   | .inl e=> .inl e
   | .inr (x,l2)=> .inr ((x,false,goals),l2)
  else if t.kind=3∧sees l1 [58,61]=true then
   match assignment t goals l1 with
   | .inl e=> .inl e
   | .inr (x,l2)=> .inr ((x,false,goals),l2)
  else if t.kind=2∧((tests&&isInt t)||goals)=true then
   .inr ((⟨t,[],none,[],none⟩,tests&&isInt t,goals),l1)
  else bad 2 l1
def items:Nat→Bool→Bool→List aj→dR (List aH×Bool×Bool)
 | k,tests,goals,l=>
  match item tests goals l with
  | .inl e=> .inl e
  | .inr ((x,t1,g1),l1)=>
   if sees l1 [44]=true then
    match k with
    | 0=>bad 3 l1
    | k+1=>
     match items k t1 g1 l1.tail with
     | .inl e=> .inl e
     | .inr ((xs,t2,g2),l2)=> .inr ((x :: xs,t2,g2),l2)
   else .inr (([x],t1,g1),l1)
structure aJ where
 head:Tm
 tests:List aH
 goals:List aH
def body (l:List aj):dR (List aH×List aH):=
 match items 5 true true l with
 | .inl e=> .inl e
 | .inr ((xs,t,g),l1)=>
  if t=true∧sees l1 [124]=true then
   match items 5 false true l1.tail with
   | .inl e=> .inl e
   | .inr ((ys,_,g2),l2)=>if g2=true then .inr ((xs,ys),l2)else bad 2 l2
  else if g=true then .inr (([],xs),l1)else bad 2 l1
def stop {α:Type} (x:α) (l:List aj):dR α:=if sees l [46]=true then .inr (x,l.tail)else bad 2 l
def clause (more:Bool) (l:List aj):dR aJ:=
 if(hd l).kind=2 then
  if more=true then
   match term 8 l with
   | .inl e=> .inl e
   | .inr (h,l1)=>
    if sees l1 [58,45]=true then
     match body l1.tail with
     | .inl e=> .inl e
     | .inr ((ts,gs),l2)=>stop ⟨h,ts,gs⟩ l2
    else stop ⟨h,[],[]⟩ l1
  else bad 3 l
 else bad 2 l
def prog:Nat→List aj→dR (List aJ)
 | k,l=>
  if(hd l).kind=0 then .inr ([],l)
  else match k with
   | 0=>match clause false l with
    | .inl e=> .inl e
    | .inr (c,l1)=> .inr ([c],l1)
   | k+1=>
    match clause true l with
    | .inl e=> .inl e
    | .inr (c,l1)=>
     match prog k l1 with
     | .inl e=> .inl e
     | .inr (cs,l2)=> .inr (c :: cs,l2)
theorem iw {s:ByteArray} {i:Nat} (h:i<s.size):bQ s i=(s[i]'h).toNat:=by simp[bQ,h]
theorem y8 {s:ByteArray} {i:Nat} (h:i<s.size) (hb:blank (bQ s i)=true):skip s i=skip s (i+1):=by
 unfold skip
 rw[show s.size - i=(s.size - (i+1))+1 by omega,pP,if_pos ⟨h,hb⟩]
theorem pQ {s:ByteArray} {i:Nat} (h:¬(i<s.size∧blank (bQ s i)=true)):skip s i=i:=by
 unfold skip
 cases hn:s.size - i with
 | zero=>rfl
 | succ n=>rw[pP,if_neg h]
theorem Kg (s:ByteArray) (n i:Nat):i≤pP s n i:=by
 induction n generalizing i with
 | zero=>exact Nat.le_refl _
 | succ n ih=>rw[pP];split
              ·have:=ih (i+1);omega
              ·omega
theorem oM (s:ByteArray) (i:Nat):i≤skip s i:=Kg _ _ _
theorem Kh (s:ByteArray) (n i:Nat) (h:i≤s.size):pP s n i≤s.size:=by
 induction n generalizing i with
 | zero=>exact h
 | succ n ih=>rw[pP];split
              ·exact ih _ (by omega)
              ·exact h
theorem N5 {s:ByteArray} {i:Nat} (h:i≤s.size):skip s i≤s.size:=Kh _ _ _ h
theorem oU {s:ByteArray} {k i:Nat} (h:i<s.size) (hb:dt k (bQ s i)=true):cY s k i=cY s k (i+1):=by
 unfold cY
 rw[show s.size - i=(s.size - (i+1))+1 by omega,jQ,if_pos ⟨h,hb⟩]
theorem oV {s:ByteArray} {k i:Nat} (h:¬(i<s.size∧dt k (bQ s i)=true)):cY s k i=i:=by
 unfold cY
 cases hn:s.size - i with
 | zero=>rfl
 | succ n=>rw[jQ,if_neg h]
theorem Ki (s:ByteArray) (k n i:Nat):i≤jQ s k n i:=by
 induction n generalizing i with
 | zero=>exact Nat.le_refl _
 | succ n ih=>rw[jQ];split
              ·have:=ih (i+1);omega
              ·omega
theorem Fj (s:ByteArray) (k i:Nat):i≤cY s k i:=Ki _ _ _ _
theorem Kj (s:ByteArray) (k n i:Nat) (h:i≤s.size):jQ s k n i≤s.size:=by
 induction n generalizing i with
 | zero=>exact h
 | succ n ih=>rw[jQ];split
              ·exact ih _ (by omega)
              ·exact h
theorem Fk {s:ByteArray} {k i:Nat} (h:i≤s.size):cY s k i≤s.size:=Kj _ _ _ _ h
theorem Ba {s:ByteArray} {i:Nat} (h:i≤s.size):i+cG s i≤s.size:=by unfold cG;split<;>(try split)<;>omega
theorem G1 (s:ByteArray) (i:Nat):aR s i≤5:=by
 unfold aR
 repeat' split
 all_goals omega
theorem qD {s:ByteArray} {i:Nat}:aR s i=0↔s.size≤i:=by
 unfold aR;repeat' split
 all_goals simp_all
theorem oW {s:ByteArray} {i:Nat} (h:i<s.size):i<cX s i:=by
 unfold cX
 have h0:aR s i≠0:=by rw[Ne,qD];omega
 rw[if_neg h0]
 by_cases h1:aR s i=1
 ·rw[if_pos h1];omega
 ·rw[if_neg h1]
  by_cases h5:aR s i=5
  ·rw[if_pos h5]
   unfold aR at h5
   rw[if_neg (by omega)]at h5
   by_cases hp:0<cG s i
   ·omega
   ·repeat' split at h5
    all_goals omega
  ·rw[if_neg h5]
   have hw:dt (aR s i) (bQ s i)=true:=by
    unfold aR at h0 h1 h5⊢
    rw[if_neg (by omega)]at h0 h1 h5⊢
    by_cases a:low (bQ s i)=true
    ·simp[a,dt]
    ·rw[if_neg a]at h0 h1 h5⊢
     by_cases b:i6 (bQ s i)=true
     ·simp[b,dt]
     ·rw[if_neg b]at h0 h1 h5⊢
      by_cases c:iO (bQ s i)=true
      ·simp[c,dt]
      ·rw[if_neg c]at h0 h1 h5
       by_cases d:0<cG s i
       ·rw[if_pos d]at h5;exact absurd rfl h5
       ·rw[if_neg d]at h1;exact absurd rfl h1
   rw[oU h hw]
   have:=Fj s (aR s i) (i+1)
   omega
theorem vZ {s:ByteArray} {i:Nat} (h:i<s.size):cX s i≤s.size:=by
 unfold cX
 repeat' split
 ·omega
 ·omega
 ·exact Ba (by omega)
 ·exact Fk (by omega)
theorem wh {s:ByteArray} {p:Nat} (h:s.size≤skip s p):next s p=⟨0,s.size,ByteArray.empty⟩:=by simp[next,h]
theorem oX {s:ByteArray} {p:Nat} (h:skip s p<s.size):next s p=⟨aR s (skip s p),skip s p,s.extract (skip s p) (cX s (skip s p))⟩:=by
 simp[next,show¬s.size≤skip s p by omega]
theorem yq {s:ByteArray} {p:Nat} (h:skip s p<s.size):(next s p).text.size=cX s (skip s p) - skip s p:=by
 rw[oX h];simp[ByteArray.size_extract]
 have:=vZ h;omega
theorem ny {s:ByteArray} {p:Nat} (h:skip s p<s.size):(next s p).pos+(next s p).text.size=cX s (skip s p):=by
 rw[yq h,oX h];have:=oW h;simp;omega
theorem lF {s:ByteArray} {p:Nat}:(next s p).kind=0↔s.size≤skip s p:=by
 by_cases h:s.size≤skip s p
 ·simp[wh h,h]
 ·rw[oX (by omega)];simp[qD]
theorem sP {s:ByteArray} {p:Nat}:(next s p).pos+(next s p).text.size≤s.size:=by
 by_cases h:skip s p<s.size
 ·rw[ny h];exact vZ h
 ·rw[wh (by omega)];simp
theorem Kk (s:ByteArray) (n p:Nat) (h:s.size - p≤n):∃l,eo s (next s p :: l):=by
 induction n generalizing p with
 | zero=>exact⟨[],by rw[eo,lF];have:=oM s p;omega⟩
 | succ n ih=>
  by_cases hk:s.size≤skip s p
  ·exact⟨[],by rw[eo,lF];exact hk⟩
  ·have gj:skip s p<s.size:=by omega
   have hb:=ny gj
   have hg:=oW gj
   have hs:=oM s p
   obtain⟨l,hl⟩:=ih ((next s p).pos+(next s p).text.size) (by omega)
   exact⟨next s ((next s p).pos+(next s p).text.size) :: l,fun e=>hk (lF.1 e),rfl,hl⟩
theorem eo.tail {s:ByteArray} {l:List aj} (h:eo s l) (h0:(hd l).kind≠0):eo s l.tail∧hd l.tail=next s ((hd l).pos+(hd l).text.size)∧l=hd l :: l.tail:=by
 match l,h with
 | [t],h=>exact absurd h h0
 | t :: u :: r,h=>exact⟨h.2.2,h.2.1,rfl⟩
theorem cV {l:List aj} {g:List UInt8} (h:sees l g=true):(hd l).kind=5:=by
 simp[sees]at h;exact h.1
def sQ (ys:List aH) (r:dR (List aH×Bool×Bool)):dR (List aH×Bool×Bool):=match r with
 | .inl e=> .inl e
 | .inr ((xs,t,g),l2)=> .inr ((ys++xs,t,g),l2)
theorem Kl (r:dR (List aH×Bool×Bool)):sQ [] r=r:=by rcases r with e | ⟨⟨us,t,g⟩,l2⟩<;>rfl
theorem G2 (a b:List aH) (r:dR (List aH×Bool×Bool)):sQ a (sQ b r)=sQ (a++b) r:=by rcases r with e | ⟨⟨us,t,g⟩,l2⟩<;>simp[sQ]
theorem Bb {α:Type} {x:α} {l:List aj} (h:sees l [46]=true):stop x l= .inr (x,l.tail):=by unfold stop;rw[if_pos h]
theorem DZ {α:Type} {x:α} {l:List aj} (h:sees l [46]=false):stop x l=bad 2 l:=by unfold stop;rw[if_neg (by simp[h])]
theorem Dy {m:Bool} {l:List aj} (h:(hd l).kind≠2):clause m l=bad 2 l:=by unfold clause;rw[if_neg h]
theorem Dz {l:List aj} (h:(hd l).kind=2):clause false l=bad 3 l:=by unfold clause;rw[if_pos h,if_neg (by simp)]
theorem Fl {l:List aj} {e:Nat×Nat} (h:(hd l).kind=2) (hT:term 8 l= .inl e):clause true l= .inl e:=by unfold clause;rw[if_pos h,if_pos rfl,hT]
theorem DA {l l1:List aj} {t:Tm} (h:(hd l).kind=2) (hT:term 8 l= .inr (t,l1)) (hn:sees l1 [58,45]=false):clause true l=stop ⟨t,[],[]⟩ l1:=by
 unfold clause;rw[if_pos h,if_pos rfl,hT];dsimp only;rw[if_neg (by simp[hn])]
theorem DB {l l1:List aj} {t:Tm} {e:Nat×Nat} (h:(hd l).kind=2) (hT:term 8 l= .inr (t,l1)) (hn:sees l1 [58,45]=true) (hb:body l1.tail= .inl e):clause true l= .inl e:=by
 unfold clause;rw[if_pos h,if_pos rfl,hT];dsimp only;rw[if_pos hn,hb]
theorem DC {l l1 l2:List aj} {t:Tm} {ts gs:List aH} (h:(hd l).kind=2) (hT:term 8 l= .inr (t,l1)) (hn:sees l1 [58,45]=true) (hb:body l1.tail= .inr ((ts,gs),l2)):clause true l=stop ⟨t,ts,gs⟩ l2:=by
 unfold clause;rw[if_pos h,if_pos rfl,hT];dsimp only;rw[if_pos hn,hb]
theorem Km {l:List aj} {e:Nat×Nat} (h:items 5 true true l= .inl e):body l= .inl e:=by unfold body;rw[h]
theorem sR {l l1:List aj} {xs:List aH} {g:Bool} {e:Nat×Nat} (h:items 5 true true l= .inr ((xs,true,g),l1)) (hb:sees l1 [124]=true) (h2:items 5 false true l1.tail= .inl e):body l= .inl e:=by
 unfold body;rw[h];dsimp only;rw[if_pos ⟨rfl,hb⟩,h2]
theorem Bc {l l1 l2:List aj} {xs ys:List aH} {g t2:Bool} (h:items 5 true true l= .inr ((xs,true,g),l1)) (hb:sees l1 [124]=true) (h2:items 5 false true l1.tail= .inr ((ys,t2,true),l2)):body l= .inr ((xs,ys),l2):=by
 unfold body;rw[h];dsimp only;rw[if_pos ⟨rfl,hb⟩,h2];rfl
theorem vC {l l1 l2:List aj} {xs ys:List aH} {g t2:Bool} (h:items 5 true true l= .inr ((xs,true,g),l1)) (hb:sees l1 [124]=true) (h2:items 5 false true l1.tail= .inr ((ys,t2,false),l2)):body l=bad 2 l2:=by
 unfold body;rw[h];dsimp only;rw[if_pos ⟨rfl,hb⟩,h2];rfl
theorem xm {l l1:List aj} {xs:List aH} {t:Bool} (h:items 5 true true l= .inr ((xs,t,true),l1)) (hb:¬(t=true∧sees l1 [124]=true)):body l= .inr (([],xs),l1):=by
 unfold body;rw[h];dsimp only;rw[if_neg hb,if_pos rfl]
theorem sk {l l1:List aj} {xs:List aH} {t:Bool} (h:items 5 true true l= .inr ((xs,t,false),l1)) (hb:¬(t=true∧sees l1 [124]=true)):body l=bad 2 l1:=by
 unfold body;rw[h];dsimp only;rw[if_neg hb,if_neg (by simp)]
def wj (ys:List aJ) (r:dR (List aJ)):dR (List aJ):=match r with
 | .inl e=> .inl e
 | .inr (xs,l2)=> .inr (ys++xs,l2)
theorem Kn (r:dR (List aJ)):wj [] r=r:=by rcases r with e | ⟨us,l2⟩<;>rfl
theorem G3 (a b:List aJ) (r:dR (List aJ)):wj a (wj b r)=wj (a++b) r:=by rcases r with e | ⟨us,l2⟩<;>simp[wj]
theorem Ko {k:Nat} {l:List aj} (h:(hd l).kind=0):prog k l= .inr ([],l):=by unfold prog;rw[if_pos h]
theorem Bd (l:List aj):∃e,clause false l= .inl e:=by
 unfold clause
 by_cases h:(hd l).kind=2
 ·rw[if_pos h,if_neg (by simp)];exact⟨_,rfl⟩
 ·rw[if_neg h];exact⟨_,rfl⟩
theorem Kp {n:Nat} {l:List aj} {e:Nat×Nat} (hn:n≤12) (h:(hd l).kind≠0) (hc:clause (decide (n<12)) l= .inl e):prog (12 - n) l= .inl e:=by
 by_cases h12:n<12
 ·rw[show 12 - n=(12 - (n+1))+1 by omega,prog,if_neg h]
  rw[decide_eq_true h12]at hc
  rw[hc]
 ·rw[show 12 - n=0 by omega,prog,if_neg h]
  rw[decide_eq_false h12]at hc
  rw[hc]
theorem G4 {n:Nat} {l l1:List aj} {c:aJ} (h:(hd l).kind≠0) (hc:clause (decide (n<12)) l= .inr (c,l1)):n<12∧prog (12 - n) l=wj [c] (prog (12 - (n+1)) l1):=by
 by_cases h12:n<12
 ·refine⟨h12,?_⟩
  rw[show 12 - n=(12 - (n+1))+1 by omega,prog,if_neg h]
  rw[decide_eq_true h12]at hc
  rw[hc]
  dsimp only
  rcases prog (12 - (n+1)) l1 with e | ⟨us,l2⟩<;>rfl
 ·rw[decide_eq_false h12]at hc
  obtain⟨e,he⟩:=Bd l
  rw[he]at hc;cases hc
def Fm (r:dR (List aJ)):Nat:=match r with
 | .inl e=>e.1
 | .inr _=>0
def posOf (r:dR (List aJ)):Nat:=match r with
 | .inl e=>e.2
 | .inr _=>0
def lU (l:List UInt8):Nat:=l.foldl (fun v b=>v*10+(b.toNat+208) % 256) 0
def numOf (x:ByteArray):Nat:=lU x.toList
theorem sS (l:List UInt8) (b:UInt8):lU (l++[b])=lU l*10+(b.toNat+208) % 256:=by simp[lU]
theorem N6 (l:List UInt8):∀v m:Nat,9*v+255≤255*m→9*l.foldl (fun v b=>v*10+(b.toNat+208) % 256) v+255≤255*(m*10 ^ l.length):=by
 induction l with
 | nil=>intro v m h;simpa using h
 | cons b r ih=>
  intro v m h
  have:=ih (v*10+(b.toNat+208) % 256) (m*10) (by omega)
  rw[List.foldl_cons,List.length_cons,Nat.pow_succ,Nat.mul_comm (10 ^ r.length) 10,←Nat.mul_assoc m 10]
  exact this
theorem D2 (l:List UInt8) (h:l.length≤6):lU l≤28333333:=by
 have:=N6 l 0 1 (by omega)
 have h6:10 ^ l.length≤10 ^ 6:=Nat.pow_le_pow_right (by omega) h
 unfold lU
 generalize 10 ^ l.length=q at*
 omega
end Zc
namespace Go.Proofs.YthfjnfcekeknlaaGreatDoor
def bO {α β:Type} (R:α→β→Prop):List α→List β→Prop
 | [],[]=>True
 | a :: xs,b :: ys=>R a b∧bO R xs ys
 | _,_=>False
theorem bO.imp {α β:Type} {R S:α→β→Prop} (h:∀a b,R a b→S a b):∀{xs:List α} {ys:List β},bO R xs ys→bO S xs ys
 | [],[],_=>trivial
 | _ :: _,_ :: _,q=>⟨h _ _ q.1,bO.imp h q.2⟩
theorem bO.length {α β:Type} {R:α→β→Prop}:∀{xs:List α} {ys:List β},bO R xs ys→xs.length=ys.length
 | [],[],_=>rfl
 | _ :: _,_ :: _,q=>by simp[bO.length q.2]
theorem bO.snoc {α β:Type} {R:α→β→Prop} {a:α} {b:β} (h:R a b):∀{xs:List α} {ys:List β},bO R xs ys→bO R (xs++[a]) (ys++[b])
 | [],[],_=>⟨h,trivial⟩
 | _ :: _,_ :: _,q=>⟨q.1,bO.snoc h q.2⟩
open Go
theorem Kq {g:ByteArray} {k:Nat} (h:k<g.size):Zc.lU (g.toList.take (k+1))=Zc.lU (g.toList.take k)*10+(g[k].toNat+208) % 256:=by
 rw[←Zc.sS]
 congr 1
 obtain⟨d⟩:=g
 rw[ByteArray.toList_mk]
 have h':k<d.toList.length:=by rw[Array.length_toList];exact h
 rw[List.take_add_one,List.getElem?_eq_getElem h']
 rfl
theorem N7 (g:ByteArray):Zc.lU (g.toList.take g.size)=Zc.numOf g:=by
 obtain⟨d⟩:=g
 unfold Zc.numOf
 rw[ByteArray.toList_mk]
 congr 1
 exact List.take_of_length_le (by simp[ByteArray.size])
end Go.Proofs.YthfjnfcekeknlaaGreatDoor
namespace Zc
def dK (ns:List (List UInt8)) (x:List UInt8):List (List UInt8):=if x∈ns then ns else ns++[x]
def argS:List (List UInt8)→List UInt8
 | []=>[]
 | x :: xs=>40 :: x++xs.flatMap (fun y=>44 :: y)++[41]
def strF:Nat→List (List UInt8)→Tm→List UInt8
 | 0,_,_=>[]
 | f+1,N,t=>if t.kind=3 then 86 :: Go.Lib.decDigits (N.idxOf t.text.toList)else if t.kind=4 then Go.Lib.decDigits (numOf t.text)else t.text.toList++argS (t.args.map (strF f N))
def namesF:Nat→List (List UInt8)→Tm→List (List UInt8)
 | 0,ns,_=>ns
 | f+1,ns,t=>if t.kind=3 then dK ns t.text.toList else if t.kind=4 then ns else t.args.foldl (namesF f) ns
def nI:Nat→Tm→Prop
 | 0,_=>False
 | f+1,t=>t.text.size≤240∧t.args.length≤3∧(t.kind=4→t.text.size≤6)∧∀a∈t.args,nI f a
theorem Be (ns:List (List UInt8)) (x:List UInt8):∃M,dK ns x=ns++M∧M.length≤1:=by
 unfold dK
 by_cases h:x∈ns
 ·rw[if_pos h];exact⟨[],by simp,by simp⟩
 ·rw[if_neg h];exact⟨[x],rfl,by simp⟩
theorem Kr (ns M:List (List UInt8)) (x:List UInt8):(dK ns x++M).idxOf x=ns.idxOf x:=by
 unfold dK
 by_cases h:x∈ns
 ·rw[if_pos h,List.idxOf_append,if_pos h]
 ·rw[if_neg h,List.append_assoc,List.idxOf_append,if_neg h]
  simp[List.idxOf_eq_length h]
theorem Bf {F:List (List UInt8)→Tm→List (List UInt8)} {c:Nat}:∀(ts:List Tm),(∀t∈ts,∀ns,∃M,F ns t=ns++M∧M.length≤c)→∀ns,∃M,ts.foldl F ns=ns++M∧M.length≤ts.length*c
 | [],_,ns=>⟨[],by simp,by simp⟩
 | t :: ts,h,ns=>by
  obtain⟨M,hM,hl⟩:=h t (by simp) ns
  obtain⟨M2,hM2,hl2⟩:=Bf ts (fun u hu=>h u (by simp[hu])) (F ns t)
  refine⟨M++M2,by rw[List.foldl_cons,hM2,hM,List.append_assoc],?_⟩
  rw[List.length_append,List.length_cons,Nat.add_mul]
  omega
theorem namesF_ext:∀(f:Nat) (t:Tm),nI f t→∀ns,∃M,namesF f ns t=ns++M∧M.length≤3 ^ f
 | 0,_,h,_=>h.elim
 | f+1,t,h,ns=>by
  obtain⟨h1,h2,h3,h4⟩:=h
  unfold namesF
  by_cases hk:t.kind=3
  ·rw[if_pos hk]
   obtain⟨M,hM,hl⟩:=Be ns t.text.toList
   exact⟨M,hM,Nat.le_trans hl (Nat.one_le_pow _ _ (by omega))⟩
  ·rw[if_neg hk]
   by_cases hk4:t.kind=4
   ·rw[if_pos hk4]
    exact⟨[],by simp,Nat.zero_le _⟩
   rw[if_neg hk4]
   obtain⟨M,hM,hl⟩:=Bf (c:=3 ^ f) t.args (fun u hu=>namesF_ext f u (h4 u hu)) ns
   refine⟨M,hM,Nat.le_trans hl ?_⟩
   rw[Nat.pow_succ,Nat.mul_comm]
   exact Nat.mul_le_mul_left _ h2
def argP:List (List UInt8)→List UInt8
 | []=>[]
 | x :: xs=>40 :: x++xs.flatMap (fun y=>44 :: y)
theorem Ks {c:Nat}:∀(l:List (List UInt8)),(∀x∈l,x.length≤c)→(argP l).length≤l.length*(c+1)
 | [],_=>by simp[argP]
 | x :: xs,h=>by
  have h1:=h x (by simp)
  have:∀(ys:List (List UInt8)),(∀y∈ys,y.length≤c)→(ys.flatMap (fun y=>44 :: y)).length≤ys.length*(c+1):=by
   intro ys
   induction ys with
   | nil=>intro _;simp
   | cons y ys ih=>
    intro h
    have a:=h y (by simp)
    have b:=ih (fun z hz=>h z (by simp[hz]))
    rw[List.flatMap_cons,List.length_append,List.length_cons,List.length_cons,Nat.add_mul]
    omega
  have h2:=this xs (fun y hy=>h y (by simp[hy]))
  simp only[argP,List.cons_append,List.length_cons,List.length_append,Nat.add_mul]
  omega
theorem nJ (b:ByteArray):b.toList.length=b.size:=by
 obtain⟨d⟩:=b
 rw[Go.ByteArray.toList_mk]
 simp[ByteArray.size]
def wfK:Nat→Tm→Prop
 | 0,_=>False
 | f+1,t=>(t.kind=2∨t.kind=3∨t.kind=4)∧(t.kind≠2→t.args=[])∧t.args.length≤3∧∀a∈t.args,wfK f a
theorem Bg {Q:Tm→Prop} {p:List aj→dR Tm} (hp:∀l t l1,p l= .inr (t,l1)→Q t):∀(k:Nat) (l:List aj) (ts:List Tm) (l2:List aj),bL p k l= .inr (ts,l2)→(∀t∈ts,Q t)∧ts.length≤k+1:=by
 intro k
 induction k with
 | zero=>
  intro l ts l2 h
  unfold bL at h
  rcases hq:p l with e | ⟨t,l1⟩
  ·rw[hq]at h;cases h
  ·rw[hq]at h
   dsimp only at h
   by_cases h1:sees l1 [44]=true
   ·rw[if_pos h1]at h;cases h
   ·rw[if_neg h1]at h
    by_cases h2:sees l1 [41]=true
    ·rw[if_pos h2]at h
     cases h
     refine⟨fun x hx=> ?_,by simp⟩
     obtain rfl:x=t:=by simpa using hx
     exact hp _ _ _ hq
    ·rw[if_neg h2]at h;cases h
 | succ k ih=>
  intro l ts l2 h
  rw[bL]at h
  rcases hq:p l with e | ⟨t,l1⟩
  ·rw[hq]at h;cases h
  ·rw[hq]at h
   dsimp only at h
   by_cases h1:sees l1 [44]=true
   ·rw[if_pos h1]at h
    rcases hr:bL p k l1.tail with e | ⟨us,l3⟩
    ·rw[hr]at h;cases h
    ·rw[hr]at h
     cases h
     obtain⟨i1,i2⟩:=ih _ _ _ hr
     refine⟨fun x hx=> ?_,by simpa using i2⟩
     rcases List.mem_cons.1 hx with rfl | hx
     ·exact hp _ _ _ hq
     ·exact i1 x hx
   ·rw[if_neg h1]at h
    by_cases h2:sees l1 [41]=true
    ·rw[if_pos h2]at h
     cases h
     refine⟨fun x hx=> ?_,by simp⟩
     obtain rfl:x=t:=by simpa using hx
     exact hp _ _ _ hq
    ·rw[if_neg h2]at h;cases h
theorem wfK_term:∀(f:Nat) (l:List aj) (t:Tm) (l1:List aj),term f l= .inr (t,l1)→wfK f t:=by
 intro f
 induction f with
 | zero=>intro l t l1 h;rw[term]at h;split at h<;>cases h
 | succ f ih=>
  intro l t l1 h
  rw[term]at h
  by_cases hb:dw (hd l)=true
  ·rw[if_pos hb]at h
   by_cases hc:(hd l).kind=4∧6<(hd l).text.size
   ·rw[if_pos hc]at h;cases h
   ·rw[if_neg hc]at h
    by_cases h2:(hd l).kind=2
    ·rw[if_pos h2]at h
     by_cases hs:sees l.tail [40]=true
     ·rw[if_pos hs]at h
      rcases hq:bL (term f) 2 l.tail.tail with x | ⟨us,l2⟩
      ·rw[hq]at h;cases h
      ·rw[hq]at h;cases h
       obtain⟨i1,i2⟩:=Bg ih _ _ _ _ hq
       exact⟨Or.inl rfl,fun q=>absurd rfl q,i2,i1⟩
     ·rw[if_neg hs]at h;cases h
      exact⟨Or.inl rfl,fun q=>absurd rfl q,by simp,fun a ha=>by cases ha⟩
    ·rw[if_neg h2]at h;cases h
     refine⟨?_,fun _=>rfl,by simp,fun a ha=>by cases ha⟩
     unfold dw at hb
     simp at hb
     rcases hb with(h3 | h3) | h3
     ·exact Or.inl h3
     ·exact Or.inr (Or.inl h3)
     ·exact Or.inr (Or.inr h3)
  ·rw[if_neg hb]at h;cases h
theorem Kt (l:List (List UInt8)) (x:List UInt8):(dK l x).length≤l.length+1:=by
 unfold dK;split<;>simp
theorem namesK_len:∀(f:Nat) (t:Tm) (ns:List (List UInt8)),wfK f t→(namesF f ns t).length≤ns.length+3 ^ f
 | 0,_,_,h=>h.elim
 | f+1,t,ns,⟨_,_,h3,h4⟩=>by
  have hp:1≤3 ^ f:=Nat.one_le_pow _ _ (by omega)
  have hq:3 ^ (f+1)=3*3 ^ f:=by rw[Nat.pow_succ,Nat.mul_comm]
  unfold namesF
  split
  ·have:=Kt ns t.text.toList;omega
  ·split
   ·omega
   ·have:∀(ts:List Tm) (ns:List (List UInt8)),(∀u∈ts,wfK f u)→(ts.foldl (namesF f) ns).length≤ns.length+ts.length*3 ^ f:=by
     intro ts
     induction ts with
     | nil=>intro ns _;simp
     | cons u ts ih=>
      intro ns h
      have q1:=namesK_len f u ns (h u (by simp))
      have q2:=ih (namesF f ns u) (fun v hv=>h v (by simp[hv]))
      rw[List.foldl_cons,List.length_cons,Nat.add_mul]
      omega
    have q:=this t.args ns h4
    have h5:=Nat.mul_le_mul_right (3 ^ f) h3
    omega
theorem Fo {l:List (List UInt8)} {x:List UInt8} (h:l.Nodup):(dK l x).Nodup:=by
 unfold dK
 split
 ·exact h
 ·rename_i q
  rw[List.nodup_append]
  refine⟨h,by simp,?_⟩
  intro a ha b hb e
  obtain rfl:b=x:=by simpa using hb
  subst e
  exact q ha
theorem namesV_ext:∀(f:Nat) (t:Tm) (ns:List (List UInt8)),∃K,namesF f ns t=ns++K
 | 0,_,ns=>⟨[],by simp[namesF]⟩
 | f+1,t,ns=>by
  unfold namesF
  split
  ·obtain⟨M,hM,_⟩:=Be ns t.text.toList
   exact⟨M,hM⟩
  ·split
   ·exact⟨[],by simp⟩
   ·have:∀(ts:List Tm) (ns:List (List UInt8)),∃K,ts.foldl (namesF f) ns=ns++K:=by
     intro ts
     induction ts with
     | nil=>exact fun ns=>⟨[],by simp⟩
     | cons u ts ih=>
      intro ns
      obtain⟨K,hK⟩:=namesV_ext f u ns
      obtain⟨K2,hK2⟩:=ih (namesF f ns u)
      exact⟨K++K2,by rw[List.foldl_cons,hK2,hK,List.append_assoc]⟩
    exact this t.args ns
theorem rC (f:Nat) (ts:List Tm) (ns:List (List UInt8)):∃K,ts.foldl (namesF f) ns=ns++K:=by
 induction ts generalizing ns with
 | nil=>exact⟨[],by simp⟩
 | cons u ts ih=>
  obtain⟨K,hK⟩:=namesV_ext f u ns
  obtain⟨K2,hK2⟩:=ih (namesF f ns u)
  exact⟨K++K2,by rw[List.foldl_cons,hK2,hK,List.append_assoc]⟩
theorem namesF_nodup:∀(f:Nat) (t:Tm) (ns:List (List UInt8)),ns.Nodup→(namesF f ns t).Nodup
 | 0,t,ns,h=>by
  unfold namesF
  exact h
 | f+1,t,ns,h=>by
  have fold:∀(ts:List Tm) (ns:List (List UInt8)),ns.Nodup→(ts.foldl (namesF f) ns).Nodup:=by
   intro ts
   induction ts with
   | nil=>intro ns h;exact h
   | cons u ts ih=>intro ns h;exact ih _ (namesF_nodup f u ns h)
  unfold namesF
  split
  ·exact Fo h
  ·split
   ·exact h
   ·exact fold _ _ h
end Zc
namespace Zc
open Go
theorem oY (s:ByteArray):s.data.toList.length=s.size:=by rw[←Lib.size_eq]
theorem get_eq {s:ByteArray} {i:Nat} (h:i<s.size):s.data.toList[i]'(by rw[oY];exact h)=s[i]:=by
 simp;rfl
theorem PD {s:ByteArray} {i:Nat} (h:i+1<s.size) (a b:UInt8):((s.extract i (i+2)).toList == [a,b])=(bQ s i == a.toNat&&bQ s (i+1) == b.toNat):=by
 have hl:=oY s
 rw[Lib.extract_toList,show i+2 - i=2 by omega,iw (by omega),iw h]
 rw[List.drop_eq_getElem_cons (by omega),List.drop_eq_getElem_cons (by omega)]
 simp only[List.take_succ_cons,List.take_zero]
 rw[get_eq (by omega),get_eq h,Bool.eq_iff_iff]
 simp[UInt8.toNat_inj]
def from_ (s:ByteArray) (i:Nat):ByteArray:=s.extract i s.size
theorem nK {s:ByteArray} {i:Nat}:(from_ s i).size=s.size - i:=by simp[from_,ByteArray.size_extract]
theorem rD {s:ByteArray} {i j:Nat}:bQ (from_ s i) j=bQ s (i+j):=by
 unfold bQ
 by_cases h:j<s.size - i
 ·rw[dif_pos (by simpa [from_,ByteArray.size_extract] using h),dif_pos (by omega)]
  simp[from_,ByteArray.getElem_extract]
 ·rw[dif_neg (by simpa [from_,ByteArray.size_extract] using h),dif_neg (by omega)]
theorem Fp {s:ByteArray} {k i n j:Nat}:jQ (from_ s i) k n j+i=jQ s k n (i+j):=by
 induction n generalizing j with
 | zero=>simp[jQ];omega
 | succ n ih=>
  rw[jQ,jQ,rD,nK]
  by_cases h:i+j<s.size∧dt k (bQ s (i+j))=true
  ·rw[if_pos h,if_pos ⟨by omega,h.2⟩,ih];rfl
  ·rw[if_neg h,if_neg (by intro q;exact h ⟨by omega,q.2⟩)];omega
theorem Bh {s:ByteArray} {k i:Nat}:cY (from_ s i) k 0+i=cY s k i:=by
 unfold cY
 rw[nK,Fp,Nat.sub_zero];rfl
theorem sT {s:ByteArray} {i:Nat}:cG (from_ s i) 0=cG s i:=by
 unfold cG
 rw[rD,rD,nK]
 have e1:(0+1<s.size - i)=(i+1<s.size):=by rw[eq_iff_iff];omega
 have e2:(0<s.size - i)=(i<s.size):=by rw[eq_iff_iff];omega
 simp only[e1,e2,Nat.add_zero,Nat.zero_add]
theorem vD {s:ByteArray} {i:Nat}:aR (from_ s i) 0=aR s i:=by
 unfold aR
 rw[rD,nK,sT]
 have e1:(s.size - i≤0)=(s.size≤i):=by rw[eq_iff_iff];omega
 simp only[e1,Nat.add_zero]
theorem Fq {s:ByteArray} {i:Nat}:cX (from_ s i) 0+i=cX s i:=by
 unfold cX
 rw[vD,sT]
 have:=@Bh s (aR s i) i
 repeat' split
 all_goals omega
theorem Bi {s:ByteArray} {i n:Nat} (h:i+n≤s.size):(from_ s i).extract 0 n=s.extract i (i+n):=by
 unfold from_
 rw[ByteArray.extract_extract,Nat.add_zero,Nat.min_eq_left h]
theorem Bj {s:ByteArray} {i:Nat} (h:i+1<s.size):dr (bQ s i) (bQ s (i+1))=(((s.extract i (i+2)).toList == [58,45])||((s.extract i (i+2)).toList == [58,61])||((s.extract i (i+2)).toList == [61,61])||((s.extract i (i+2)).toList == [92,61])||((s.extract i (i+2)).toList == [61,60])):=by
 simp only[PD h];rfl
def shorts:List Nat:=[61,60,43,45,42,40,41,44,124,46]
theorem sU (c:Nat):fB c=true↔∃j,j<10∧shorts[j]?=some c:=by
 constructor
 ·intro h
  simp[fB]at h
  rcases h with(((((((((h | h) | h) | h) | h) | h) | h) | h) | h) | h)<;>subst h
  ·exact⟨0,by omega,rfl⟩
  ·exact⟨1,by omega,rfl⟩
  ·exact⟨2,by omega,rfl⟩
  ·exact⟨3,by omega,rfl⟩
  ·exact⟨4,by omega,rfl⟩
  ·exact⟨5,by omega,rfl⟩
  ·exact⟨6,by omega,rfl⟩
  ·exact⟨7,by omega,rfl⟩
  ·exact⟨8,by omega,rfl⟩
  ·exact⟨9,by omega,rfl⟩
 ·rintro⟨j,hj,h⟩
  have hm:=List.mem_of_getElem? h
  simp[shorts]at hm
  rcases hm with h | h | h | h | h | h | h | h | h | h<;>subst h<;>rfl
theorem Fs {s:ByteArray} {i:Nat} (h:i<s.size) (hb:blank (bQ s i)=true):next s i=next s (i+1):=by
 unfold next;rw[y8 h hb]
theorem G5 {s:ByteArray} {i:Nat} (h:i<s.size) (hb:blank (bQ s i)=false):next s i=⟨aR s i,i,s.extract i (cX s i)⟩:=by
 have e:skip s i=i:=pQ (by rw[hb];simp)
 have:=@oX s i (by rw[e];exact h)
 rw[e]at this;exact this
theorem y9 {s:ByteArray} {i:Nat} (h:i<s.size) (a:low (bQ s i)=true):aR s i=2∧cX s i=cY s 2 i:=by
 have e:aR s i=2:=by unfold aR;rw[if_neg (by omega),if_pos a]
 exact⟨e,by unfold cX;rw[e];rfl⟩
theorem Ku {s:ByteArray} {i:Nat} (h:i<s.size) (a:low (bQ s i)=false) (b:i6 (bQ s i)=true):aR s i=3∧cX s i=cY s 3 i:=by
 have e:aR s i=3:=by unfold aR;rw[if_neg (by omega),if_neg (by simp[a]),if_pos b]
 exact⟨e,by unfold cX;rw[e];rfl⟩
theorem Kv {s:ByteArray} {i:Nat} (h:i<s.size) (a:low (bQ s i)=false) (b:i6 (bQ s i)=false) (c:iO (bQ s i)=true):aR s i=4∧cX s i=cY s 4 i:=by
 have e:aR s i=4:=by unfold aR;rw[if_neg (by omega),if_neg (by simp[a]),if_neg (by simp[b]),if_pos c]
 exact⟨e,by unfold cX;rw[e];rfl⟩
theorem zf {s:ByteArray} {i:Nat} (h:i<s.size) (a:low (bQ s i)=false) (b:i6 (bQ s i)=false) (c:iO (bQ s i)=false) (d:0<cG s i):aR s i=5∧cX s i=i+cG s i:=by
 have e:aR s i=5:=by unfold aR;rw[if_neg (by omega),if_neg (by simp[a]),if_neg (by simp[b]),if_neg (by simp[c]),if_pos d]
 exact⟨e,by unfold cX;rw[e];rfl⟩
end Zc
namespace Zc
theorem eo.len {s:ByteArray}:∀(n p:Nat) (l:List aj),eo s l→hd l=next s p→s.size - p≤n→l.length≤n+1:=by
 intro n
 induction n with
 | zero=>
  intro p l h hh hn
  match l,h with
  | [t],_=>simp
  | t :: u :: r,h=>
   have ht:t=next s p:=hh
   have h0:t.kind≠0:=h.1
   rw[ht,Ne,lF]at h0
   have:=oM s p
   omega
 | succ n ih=>
  intro p l h hh hn
  match l,h with
  | [t],_=>simp
  | t :: u :: r,h=>
   have ht:t=next s p:=hh
   have h0:t.kind≠0:=h.1
   have hu:u=next s (t.pos+t.text.size):=h.2.1
   rw[ht,Ne,lF]at h0
   have h1:=oM s p
   have h2:=oW (s:=s) (i:=skip s p) (by omega)
   have h3:t.pos+t.text.size=cX s (skip s p):=by rw[ht];exact ny (by omega)
   have:=ih (t.pos+t.text.size) (u :: r) h.2.2 hu (by omega)
   simp only[List.length_cons]at this⊢
   omega
theorem D3 (s:ByteArray):∃L,eo s L∧hd L=next s 0∧(s.size≤240→L.length≤1000):=by
 obtain⟨l,hl⟩:=Kk s s.size 0 (by omega)
 exact⟨_,hl,rfl,fun hs=>by have:=hl.len s.size 0 _ rfl (by omega);omega⟩
end Zc
namespace Go.Proofs.YthfjnfcekeknlaaGreatDoor
open Go.RowKit
theorem af {p:Prop} (h:p):Hid p:=h
theorem ae {p:Prop} (h:Hid p):p:=h
theorem cK {a b:Bool} (h:a=b):Ending.returned (.bool a)= .returned (.bool b):=by rw[h]
theorem cO {k:IntKind} {a b:Int} (h:a=b):Ending.returned (.int k a)= .returned (.int k b):=by rw[h]
theorem vE (c:Nat) (w:World):Calls Tryz.prog 123 #[.int .u8 (c:Int)] w fun e w'=>e= .returned (.bool (Zc.blank c))∧w'=w:=by
 by_cases h1:c=32
 ·subst h1
  go_enter Tryz.func123,Tryz.ntmps123
  go_wp2
  go_ret
  exact⟨rfl,rfl⟩
 ·have e1:((c:Int) == 32)=false:=by simp;omega
  by_cases h2:c=10
  ·subst h2
   go_enter Tryz.func123,Tryz.ntmps123
   go_wp2
   go_ret
   exact⟨rfl,rfl⟩
  ·have e2:((c:Int) == 10)=false:=by simp;omega
   go_enter Tryz.func123,Tryz.ntmps123
   go_wp2
   go_ret
   exact⟨by simp[Zc.blank,h1,h2],rfl⟩
theorem iG (c:Nat) (w:World):Calls Tryz.prog 124 #[.int .u8 (c:Int)] w fun e w'=>e= .returned (.bool (Zc.low c))∧w'=w:=by
 by_cases h1:97≤c
 all_goals
  go_enter Tryz.func124,Tryz.ntmps124
  go_wp2
  go_ret
  exact⟨cK (by rw[Bool.eq_iff_iff];simp[Zc.low];omega),rfl⟩
theorem ji (c:Nat) (w:World):Calls Tryz.prog 125 #[.int .u8 (c:Int)] w fun e w'=>e= .returned (.bool (Zc.i6 c))∧w'=w:=by
 by_cases h1:65≤c
 all_goals
  go_enter Tryz.func125,Tryz.ntmps125
  go_wp2
  go_ret
  exact⟨cK (by rw[Bool.eq_iff_iff];simp[Zc.i6];omega),rfl⟩
theorem jq (c:Nat) (w:World):Calls Tryz.prog 126 #[.int .u8 (c:Int)] w fun e w'=>e= .returned (.bool (Zc.iO c))∧w'=w:=by
 by_cases h1:48≤c
 all_goals
  go_enter Tryz.func126,Tryz.ntmps126
  go_wp2
  go_ret
  exact⟨cK (by rw[Bool.eq_iff_iff];simp[Zc.iO];omega),rfl⟩
theorem xp (k c:Nat) (w:World):Calls Tryz.prog 175 #[.int .i64 (k:Int),.int .u8 (c:Int)] w fun e w'=>e= .returned (.bool (Zc.dt k c))∧w'=w:=by
 by_cases h2:k=2
 ·subst h2
  cases hl:Zc.low c
  all_goals
   go_enter Tryz.func175,Tryz.ntmps175
   go_wp2_with (first | (go_at_call 124;refine(iG _ _).mono ?_;rintro e w' ⟨rfl,rfl⟩) | (go_at_call 126;refine(jq _ _).mono ?_;rintro e w' ⟨rfl,rfl⟩))
   go_ret
   exact⟨cK (by simp[Zc.dt,hl]),rfl⟩
 ·have e2:((k:Int) == 2)=false:=by simp;omega
  by_cases h3:k=3
  ·subst h3
   cases hl:Zc.low c<;>cases hd:Zc.iO c
   all_goals
    go_enter Tryz.func175,Tryz.ntmps175
    go_wp2_with (first | (go_at_call 124;refine(iG _ _).mono ?_;rintro e w' ⟨rfl,rfl⟩) | (go_at_call 126;refine(jq _ _).mono ?_;rintro e w' ⟨rfl,rfl⟩) | (go_at_call 125;refine(ji _ _).mono ?_;rintro e w' ⟨rfl,rfl⟩))
    go_ret
    exact⟨cK (by simp[Zc.dt,hl,hd]),rfl⟩
  ·have e3:((k:Int) == 3)=false:=by simp;omega
   go_enter Tryz.func175,Tryz.ntmps175
   go_wp2_with (first | (go_at_call 126;refine(jq _ _).mono ?_;rintro e w' ⟨rfl,rfl⟩))
   go_ret
   exact⟨cK (by simp[Zc.dt,h2,h3]),rfl⟩
theorem qP (s:ByteArray) (p:Nat) (w:World) (hs:s.size≤maxLen) (hp:p≤s.size):
 Calls Tryz.prog 71 #[.string s,.int .i64 (p:Int)] w fun e w'=>e= .returned (.int .i64 ((Zc.skip s p:Nat):Int))∧w'=w:=by
 unfold maxLen at hs
 go_enter Tryz.func71,Tryz.ntmps71
 go_wp2
 go_loop [5] (fun i=>∃k:Nat,k≤s.size∧Hid (Zc.skip s k=Zc.skip s p)∧i= .int .i64 k) (fun i=>s.size - (intOf i).toNat)
 case atStart=>exact⟨p,hp,rfl,rfl⟩
 case round=>
  obtain⟨k,hk,hsk,rfl⟩:=hrel
  by_cases hlt:k<s.size
  ·cases hb:Zc.blank (s[k].toNat)
   ·have hst:Hid (Zc.skip s p=k):=by rw[←hsk.out];exact Zc.pQ (by rw[Zc.iw hlt,hb];simp)
    go_wp2_with (go_at_call 123;refine(vE _ _).mono ?_;rintro e w' ⟨rfl,rfl⟩)
    go_ret
    exact⟨cO (by rw[hst.out]),rfl⟩
   ·have hst:Hid (Zc.skip s (k+1)=Zc.skip s p):=by rw[←hsk.out];exact(Zc.y8 hlt (by rw[Zc.iw hlt,hb])).symm
    go_wp2_with (go_at_call 123;refine(vE _ _).mono ?_;rintro e w' ⟨rfl,rfl⟩)
    go_round
    case rel=>exact⟨k+1,by omega,hst,by go_num⟩
    case measure=>simp[intOf];omega
  ·have hst:Hid (Zc.skip s p=k):=by rw[←hsk.out];exact Zc.pQ (by omega)
   go_wp2
   go_ret
   exact⟨cO (by rw[hst.out]),rfl⟩
theorem mP (k:Nat) (s:ByteArray) (w:World) (hs:s.size≤maxLen):
 Calls Tryz.prog 128 #[.int .i64 (k:Int),.string s] w fun e w'=>e= .returned (.int .i64 ((Zc.cY s k 0:Nat):Int))∧w'=w:=by
 unfold maxLen at hs
 go_enter Tryz.func128,Tryz.ntmps128
 go_wp2
 go_loop [5] (fun i=>∃j:Nat,j≤s.size∧Hid (Zc.cY s k j=Zc.cY s k 0)∧i= .int .i64 j) (fun i=>s.size - (intOf i).toNat)
 case atStart=>exact⟨0,by omega,rfl,rfl⟩
 case round=>
  obtain⟨j,hj,hsk,rfl⟩:=hrel
  by_cases hlt:j<s.size
  ·cases hb:Zc.dt k (s[j].toNat)
   ·have hst:Hid (Zc.cY s k 0=j):=by rw[←hsk.out];exact Zc.oV (by rw[Zc.iw hlt,hb];simp)
    go_wp2_with (go_at_call 175;refine(xp _ _ _).mono ?_;rintro e w' ⟨rfl,rfl⟩)
    go_ret
    exact⟨cO (by rw[hst.out]),rfl⟩
   ·have hst:Hid (Zc.cY s k (j+1)=Zc.cY s k 0):=by rw[←hsk.out];exact(Zc.oU hlt (by rw[Zc.iw hlt,hb])).symm
    go_wp2_with (go_at_call 175;refine(xp _ _ _).mono ?_;rintro e w' ⟨rfl,rfl⟩)
    go_round
    case rel=>exact⟨j+1,by omega,hst,by go_num⟩
    case measure=>simp[intOf];omega
  ·have hst:Hid (Zc.cY s k 0=j):=by rw[←hsk.out];exact Zc.oV (by omega)
   go_wp2
   go_ret
   exact⟨cO (by rw[hst.out]),rfl⟩
structure dN (w:World):Prop where
 s0:w.cell? ⟨0,0,none⟩=some (.string ⟨#[58,45]⟩)
 s1:w.cell? ⟨0,1,none⟩=some (.string ⟨#[58,61]⟩)
 s2:w.cell? ⟨0,2,none⟩=some (.string ⟨#[61,61]⟩)
 s3:w.cell? ⟨0,3,none⟩=some (.string ⟨#[92,61]⟩)
 s4:w.cell? ⟨0,4,none⟩=some (.string ⟨#[61,60]⟩)
theorem kL {r:ByteArray} (h:2≤r.size) (hl:Zc.dr (Zc.bQ r 0) (Zc.bQ r 1)=true):Zc.cG r 0=2:=by
 unfold Zc.cG;rw[if_pos ⟨by omega,hl⟩]
theorem vF {r:ByteArray} (h:0<r.size) (hl:2≤r.size→Zc.dr (Zc.bQ r 0) (Zc.bQ r 1)=false) (hs:Zc.fB (Zc.bQ r 0)=true):Zc.cG r 0=1:=by
 unfold Zc.cG;rw[if_neg (by rintro⟨a,b⟩;rw[hl (by omega)]at b;cases b),if_pos ⟨h,hs⟩]
theorem sV {r:ByteArray} (hl:2≤r.size→Zc.dr (Zc.bQ r 0) (Zc.bQ r 1)=false) (hs:0<r.size→Zc.fB (Zc.bQ r 0)=false):Zc.cG r 0=0:=by
 unfold Zc.cG;rw[if_neg (by rintro⟨a,b⟩;rw[hl (by omega)]at b;cases b),if_neg (by rintro⟨a,b⟩;rw[hs a]at b;cases b)]
def shortB:ByteArray:=⟨#[61,60,43,45,42,40,41,44,124,46]⟩
theorem zg (k:Nat) (h:k<shortB.size):Zc.shorts[k]?=some (shortB[k]'h).toNat:=by
 have h':k<10:=h
 rcases(show k=0∨k=1∨k=2∨k=3∨k=4∨k=5∨k=6∨k=7∨k=8∨k=9 by omega)with rfl | rfl | rfl | rfl | rfl | rfl | rfl | rfl | rfl | rfl<;>rfl
theorem zh {r:ByteArray} {k:Nat} (h0:0<r.size) (hk:k<shortB.size) (h:(((r[0]'h0).toNat:Int) == ((shortB[k]'hk).toNat:Int))=true):Zc.fB (Zc.bQ r 0)=true:=by
 rw[Zc.sU]
 refine⟨k,hk,?_⟩
 rw[zg k hk,Zc.iw h0]
 have:((r[0]'h0).toNat:Int)=((shortB[k]'hk).toNat:Int):=by simpa using h
 rw[show (r[0]'h0).toNat=(shortB[k]'hk).toNat by omega]
theorem xq {r:ByteArray} {k:Nat} (h0:0<r.size) (hk:k<shortB.size) (h:(((r[0]'h0).toNat:Int) == ((shortB[k]'hk).toNat:Int))=false) (ho:∀j,j<k→Zc.shorts[j]?≠some (Zc.bQ r 0)):∀j,j<k+1→Zc.shorts[j]?≠some (Zc.bQ r 0):=by
 intro j hj e
 by_cases hjk:j<k
 ·exact ho j hjk e
 ·obtain rfl:j=k:=by omega
  rw[zg j hk,Zc.iw h0]at e
  have e':=Option.some.inj e
  simp[e']at h
theorem xr {c k:Nat} (h:¬k<10) (ho:∀j,j<k→Zc.shorts[j]?≠some c):Zc.fB c=false:=by
 cases hs:Zc.fB c with
 | false=>rfl
 | true=>
  obtain⟨j,hj,e⟩:=(Zc.sU c).1 hs
  exact absurd e (ho j (by omega))
theorem sW {r:ByteArray} (h:0<r.size):r.toList.isEmpty=false:=by
 rw[ByteArray.toList_eq]
 cases hx:r.data.toList with
 | nil=>have:=Zc.oY r;rw[hx]at this;simp at this;omega
 | cons=>rfl
theorem mQ (r:ByteArray) (w:World) (hr:r.size≤maxLen) (h:dN w):Calls Tryz.prog 127 #[.string r] w fun e w'=>e= .returned (.int .i64 ((Zc.cG r 0:Nat):Int))∧∃n,w'=w.drewN n:=by
 obtain⟨s0,s1,s2,s3,s4⟩:=h
 unfold maxLen at hr
 have i0:∀w,(Instr.index 238 (.agg #[.string ⟨#[58,45]⟩,.string ⟨#[58,61]⟩,.string ⟨#[61,61]⟩,.string ⟨#[92,61]⟩,.string ⟨#[61,60]⟩]) (.int .i64 0)).run Tryz.prog w= .ok (.string ⟨#[58,45]⟩) w:=fun _=>by kernel_rfl
 have i1:∀w,(Instr.index 238 (.agg #[.string ⟨#[58,45]⟩,.string ⟨#[58,61]⟩,.string ⟨#[61,61]⟩,.string ⟨#[92,61]⟩,.string ⟨#[61,60]⟩]) (.int .i64 1)).run Tryz.prog w= .ok (.string ⟨#[58,61]⟩) w:=fun _=>by kernel_rfl
 have i2:∀w,(Instr.index 238 (.agg #[.string ⟨#[58,45]⟩,.string ⟨#[58,61]⟩,.string ⟨#[61,61]⟩,.string ⟨#[92,61]⟩,.string ⟨#[61,60]⟩]) (.int .i64 2)).run Tryz.prog w= .ok (.string ⟨#[61,61]⟩) w:=fun _=>by kernel_rfl
 have i3:∀w,(Instr.index 238 (.agg #[.string ⟨#[58,45]⟩,.string ⟨#[58,61]⟩,.string ⟨#[61,61]⟩,.string ⟨#[92,61]⟩,.string ⟨#[61,60]⟩]) (.int .i64 3)).run Tryz.prog w= .ok (.string ⟨#[92,61]⟩) w:=fun _=>by kernel_rfl
 have i4:∀w,(Instr.index 238 (.agg #[.string ⟨#[58,45]⟩,.string ⟨#[58,61]⟩,.string ⟨#[61,61]⟩,.string ⟨#[92,61]⟩,.string ⟨#[61,60]⟩]) (.int .i64 4)).run Tryz.prog w= .ok (.string ⟨#[61,60]⟩) w:=fun _=>by kernel_rfl
 have LS:Hid (2≤r.size→Zc.dr (Zc.bQ r 0) (Zc.bQ r 1)=(((r.extract 0 2).toList == [58,45])||((r.extract 0 2).toList == [58,61])||((r.extract 0 2).toList == [61,61])||((r.extract 0 2).toList == [92,61])||((r.extract 0 2).toList == [61,60]))):=fun h=>Zc.Bj (i:=0) (by omega)
 by_cases h2:2≤r.size
 ·cases b0:((r.extract 0 2).toList == [58,45])
  ·cases b1:((r.extract 0 2).toList == [58,61])
   ·cases b2:((r.extract 0 2).toList == [61,61])
    ·cases b3:((r.extract 0 2).toList == [92,61])
     ·cases b4:((r.extract 0 2).toList == [61,60])
      ·have LN:Hid (Zc.dr (Zc.bQ r 0) (Zc.bQ r 1)=false):=by rw[Hid,LS.out h2,b0,b1,b2,b3,b4];rfl
       go_enter Tryz.func127,Tryz.ntmps127
       go_wp2
       refine wp_loop_rounds 6 ?_
       rw[rounds_succ]
       go_wp2
       rw[rounds_succ]
       go_wp2
       rw[rounds_succ]
       go_wp2
       rw[rounds_succ]
       go_wp2
       rw[rounds_succ]
       go_wp2
       rw[rounds_succ]
       go_wp2
       clear i0 i1 i2 i3 i4 b0 b1 b2 b3 b4
       go_loopw [5] (fun i wr=>∃k n:Nat,k≤10∧i= .int .i64 k∧wr=w.drewN n∧Hid (∀j,j<k→Zc.shorts[j]?≠some (Zc.bQ r 0))) (fun i _=>10 - (intOf i).toNat)
       case atStart=>exact⟨0,0,by omega,rfl,rfl,fun j h=>absurd h (Nat.not_lt_zero _)⟩
       case round=>
        obtain⟨k,n,hk,rfl,rfl,hno⟩:=hrel
        by_cases hlt:k<10
        ·by_cases h0:0<r.size
         ·have hE:=sW h0
          have HM:Hid (∀hk:k<shortB.size,(((r[0]'h0).toNat:Int) == ((shortB[k]'hk).toNat:Int))=false→∀j,j<k+1→Zc.shorts[j]?≠some (Zc.bQ r 0)):=fun hk h=>xq h0 hk h hno.out
          go_wp2
          go_big_region
          go_wp2
          ·go_ret
           exact⟨cO (by rw[vF h0 (fun _=>LN.out) (zh (k:=k) h0 hlt (by assumption))];rfl),n+1,rfl⟩
          ·go_roundw
           case rel=>exact⟨k+1,n+1,by omega,by go_num,rfl,HM.out hlt (by assumption)⟩
           case measure=>simp[intOf];omega
         ·exact absurd (show 0<r.size by omega) h0
        ·have hS:Hid (Zc.fB (Zc.bQ r 0)=false):=xr hlt hno.out
         go_wp2
         go_ret
         exact⟨cO (by rw[sV (fun _=>LN.out) (fun _=>hS.out)];rfl),n,rfl⟩
      ·have LN:Hid (Zc.dr (Zc.bQ r 0) (Zc.bQ r 1)=true):=by rw[Hid,LS.out h2,b0,b1,b2,b3,b4];simp
       go_enter Tryz.func127,Tryz.ntmps127
       go_wp2
       refine wp_loop_rounds 6 ?_
       rw[rounds_succ]
       go_wp2
       rw[rounds_succ]
       go_wp2
       rw[rounds_succ]
       go_wp2
       rw[rounds_succ]
       go_wp2
       rw[rounds_succ]
       go_wp2
       go_ret
       exact⟨cO (by rw[kL h2 LN.out];rfl),0,rfl⟩
     ·have LN:Hid (Zc.dr (Zc.bQ r 0) (Zc.bQ r 1)=true):=by rw[Hid,LS.out h2,b0,b1,b2,b3];simp
      go_enter Tryz.func127,Tryz.ntmps127
      go_wp2
      refine wp_loop_rounds 6 ?_
      rw[rounds_succ]
      go_wp2
      rw[rounds_succ]
      go_wp2
      rw[rounds_succ]
      go_wp2
      rw[rounds_succ]
      go_wp2
      go_ret
      exact⟨cO (by rw[kL h2 LN.out];rfl),0,rfl⟩
    ·have LN:Hid (Zc.dr (Zc.bQ r 0) (Zc.bQ r 1)=true):=by rw[Hid,LS.out h2,b0,b1,b2];simp
     go_enter Tryz.func127,Tryz.ntmps127
     go_wp2
     refine wp_loop_rounds 6 ?_
     rw[rounds_succ]
     go_wp2
     rw[rounds_succ]
     go_wp2
     rw[rounds_succ]
     go_wp2
     go_ret
     exact⟨cO (by rw[kL h2 LN.out];rfl),0,rfl⟩
   ·have LN:Hid (Zc.dr (Zc.bQ r 0) (Zc.bQ r 1)=true):=by rw[Hid,LS.out h2,b0,b1];simp
    go_enter Tryz.func127,Tryz.ntmps127
    go_wp2
    refine wp_loop_rounds 6 ?_
    rw[rounds_succ]
    go_wp2
    rw[rounds_succ]
    go_wp2
    go_ret
    exact⟨cO (by rw[kL h2 LN.out];rfl),0,rfl⟩
  ·have LN:Hid (Zc.dr (Zc.bQ r 0) (Zc.bQ r 1)=true):=by rw[Hid,LS.out h2,b0];simp
   go_enter Tryz.func127,Tryz.ntmps127
   go_wp2
   refine wp_loop_rounds 6 ?_
   rw[rounds_succ]
   go_wp2
   go_ret
   exact⟨cO (by rw[kL h2 LN.out];rfl),0,rfl⟩
 ·have LN:Hid (2≤r.size→Zc.dr (Zc.bQ r 0) (Zc.bQ r 1)=false):=fun h=>absurd h h2
  go_enter Tryz.func127,Tryz.ntmps127
  go_wp2
  refine wp_loop_rounds 6 ?_
  rw[rounds_succ]
  go_wp2
  rw[rounds_succ]
  go_wp2
  rw[rounds_succ]
  go_wp2
  rw[rounds_succ]
  go_wp2
  rw[rounds_succ]
  go_wp2
  rw[rounds_succ]
  go_wp2
  clear i0 i1 i2 i3 i4 LS
  go_loopw [5] (fun i wr=>∃k n:Nat,k≤10∧i= .int .i64 k∧wr=w.drewN n∧Hid (∀j,j<k→Zc.shorts[j]?≠some (Zc.bQ r 0))) (fun i _=>10 - (intOf i).toNat)
  case atStart=>exact⟨0,0,by omega,rfl,rfl,fun j h=>absurd h (Nat.not_lt_zero _)⟩
  case round=>
   obtain⟨k,n,hk,rfl,rfl,hno⟩:=hrel
   by_cases hlt:k<10
   ·by_cases h0:0<r.size
    ·have hE:=sW h0
     have HM:Hid (∀hk:k<shortB.size,(((r[0]'h0).toNat:Int) == ((shortB[k]'hk).toNat:Int))=false→∀j,j<k+1→Zc.shorts[j]?≠some (Zc.bQ r 0)):=fun hk h=>xq h0 hk h hno.out
     go_wp2
     go_big_region
     go_wp2
     ·go_ret
      exact⟨cO (by rw[vF h0 LN.out (zh (k:=k) h0 hlt (by assumption))];rfl),n+1,rfl⟩
     ·go_roundw
      case rel=>exact⟨k+1,n+1,by omega,by go_num,rfl,HM.out hlt (by assumption)⟩
      case measure=>simp[intOf];omega
    ·have hE:r.toList.isEmpty=true:=by rw[ByteArray.toList_eq];have:=Zc.oY r;cases hx:r.data.toList with
      | nil=>rfl
      | cons a l=>rw[hx]at this;simp at this;omega
     have HM:Hid (∀j,j<k+1→Zc.shorts[j]?≠some (Zc.bQ r 0)):=fun j hj e=>by
      have e0:Zc.bQ r 0=0:=by unfold Zc.bQ;rw[dif_neg h0]
      rw[e0]at e
      have hm:=List.mem_of_getElem? e
      simp[Zc.shorts]at hm
     go_wp2
     go_big_region
     go_wp2
     go_roundw
     case rel=>exact⟨k+1,n+1,by omega,by go_num,rfl,HM.out⟩
     case measure=>simp[intOf];omega
   ·have hS:Hid (Zc.fB (Zc.bQ r 0)=false):=xr hlt hno.out
    go_wp2
    go_ret
    exact⟨cO (by rw[sV LN.out (fun _=>hS.out)];rfl),n,rfl⟩
theorem dN.below {B:Nat} {w w':World} (h:dN w) (hb:Below B w w') (h0:0<B):dN w':=
 ⟨(hb.cell (p:=⟨0,0,none⟩) h0).trans h.s0,(hb.cell (p:=⟨0,1,none⟩) h0).trans h.s1,(hb.cell (p:=⟨0,2,none⟩) h0).trans h.s2,(hb.cell (p:=⟨0,3,none⟩) h0).trans h.s3,(hb.cell (p:=⟨0,4,none⟩) h0).trans h.s4⟩
theorem dN.draws {w:World} (h:dN w) (n:Nat):dN (w.drewN n):=⟨h.s0,h.s1,h.s2,h.s3,h.s4⟩
theorem N8 {r:ByteArray} (h:r.size=0):Zc.aR r 0=0:=by unfold Zc.aR;rw[if_pos (by omega)]
theorem N9 {r:ByteArray} (h:0<r.size) (a:Zc.low (r[0].toNat)=true):Zc.aR r 0=2:=by unfold Zc.aR;rw[if_neg (by omega),Zc.iw h,if_pos a]
theorem Oa {r:ByteArray} (h:0<r.size) (a:Zc.low (r[0].toNat)=false) (b:Zc.i6 (r[0].toNat)=true):Zc.aR r 0=3:=by unfold Zc.aR;rw[if_neg (by omega),Zc.iw h,if_neg (by simp[a]),if_pos b]
theorem Ob {r:ByteArray} (h:0<r.size) (a:Zc.low (r[0].toNat)=false) (b:Zc.i6 (r[0].toNat)=false) (c:Zc.iO (r[0].toNat)=true):Zc.aR r 0=4:=by unfold Zc.aR;rw[if_neg (by omega),Zc.iw h,if_neg (by simp[a]),if_neg (by simp[b]),if_pos c]
theorem Oc {r:ByteArray} (h:0<r.size) (a:Zc.low (r[0].toNat)=false) (b:Zc.i6 (r[0].toNat)=false) (c:Zc.iO (r[0].toNat)=false) (d:0<Zc.cG r 0):Zc.aR r 0=5:=by unfold Zc.aR;rw[if_neg (by omega),Zc.iw h,if_neg (by simp[a]),if_neg (by simp[b]),if_neg (by simp[c]),if_pos d]
theorem Od {r:ByteArray} (h:0<r.size) (a:Zc.low (r[0].toNat)=false) (b:Zc.i6 (r[0].toNat)=false) (c:Zc.iO (r[0].toNat)=false) (d:¬0<Zc.cG r 0):Zc.aR r 0=1:=by unfold Zc.aR;rw[if_neg (by omega),Zc.iw h,if_neg (by simp[a]),if_neg (by simp[b]),if_neg (by simp[c]),if_neg d]
theorem Kw {r:ByteArray} (h:r.size=0):r.toList.isEmpty=true:=by
 rw[ByteArray.toList_eq]
 have:=Zc.oY r
 cases hx:r.data.toList with
 | nil=>rfl
 | cons a l=>rw[hx]at this;simp at this;omega
theorem Fu (r:ByteArray) (w:World) (hr:r.size≤maxLen) (h:dN w):Calls Tryz.prog 72 #[.string r] w fun e w'=>e= .returned (.int .i64 ((Zc.aR r 0:Nat):Int))∧∃n,w'=w.drewN n:=by
 have PE:=hr
 unfold maxLen at PE
 have H:=h
 by_cases h0:0<r.size
 ·have hE:=sW h0
  cases a:Zc.low (r[0].toNat)
  ·cases b:Zc.i6 (r[0].toNat)
   ·cases c:Zc.iO (r[0].toNat)
    ·by_cases d:0<Zc.cG r 0
     ·have K:=af (Oc h0 a b c d)
      go_enter Tryz.func72,Tryz.ntmps72
      go_wp2_with (first | (go_at_call 124;refine(iG _ _).mono ?_;rintro e w' ⟨rfl,rfl⟩) | (go_at_call 126;refine(jq _ _).mono ?_;rintro e w' ⟨rfl,rfl⟩) | (go_at_call 125;refine(ji _ _).mono ?_;rintro e w' ⟨rfl,rfl⟩) | (go_at_call 127;refine(mQ _ _ hr H).mono ?_;rintro e w' ⟨rfl,n,rfl⟩))
      go_ret
      exact⟨cO (by rw[ae K];rfl),n,rfl⟩
     ·have K:=af (Od h0 a b c d)
      go_enter Tryz.func72,Tryz.ntmps72
      go_wp2_with (first | (go_at_call 124;refine(iG _ _).mono ?_;rintro e w' ⟨rfl,rfl⟩) | (go_at_call 126;refine(jq _ _).mono ?_;rintro e w' ⟨rfl,rfl⟩) | (go_at_call 125;refine(ji _ _).mono ?_;rintro e w' ⟨rfl,rfl⟩) | (go_at_call 127;refine(mQ _ _ hr H).mono ?_;rintro e w' ⟨rfl,n,rfl⟩))
      go_ret
      exact⟨cO (by rw[ae K];rfl),n,rfl⟩
    ·have K:=af (Ob h0 a b c)
     go_enter Tryz.func72,Tryz.ntmps72
     go_wp2_with (first | (go_at_call 124;refine(iG _ _).mono ?_;rintro e w' ⟨rfl,rfl⟩) | (go_at_call 126;refine(jq _ _).mono ?_;rintro e w' ⟨rfl,rfl⟩) | (go_at_call 125;refine(ji _ _).mono ?_;rintro e w' ⟨rfl,rfl⟩))
     go_ret
     exact⟨cO (by rw[ae K];rfl),0,rfl⟩
   ·have K:=af (Oa h0 a b)
    go_enter Tryz.func72,Tryz.ntmps72
    go_wp2_with (first | (go_at_call 124;refine(iG _ _).mono ?_;rintro e w' ⟨rfl,rfl⟩) | (go_at_call 125;refine(ji _ _).mono ?_;rintro e w' ⟨rfl,rfl⟩))
    go_ret
    exact⟨cO (by rw[ae K];rfl),0,rfl⟩
  ·have K:=af (N9 h0 a)
   go_enter Tryz.func72,Tryz.ntmps72
   go_wp2_with (first | (go_at_call 124;refine(iG _ _).mono ?_;rintro e w' ⟨rfl,rfl⟩))
   go_ret
   exact⟨cO (by rw[ae K];rfl),0,rfl⟩
 ·have hE:=Kw (r:=r) (by omega)
  have K:=af (N8 (r:=r) (by omega))
  go_enter Tryz.func72,Tryz.ntmps72
  go_wp2
  go_ret
  exact⟨cO (by rw[ae K];rfl),0,rfl⟩
theorem Bk (r:ByteArray) (w:World) (hr:r.size≤maxLen) (h:dN w):Calls Tryz.prog 73 #[.int .i64 ((Zc.aR r 0:Nat):Int),.string r] w fun e w'=>e= .returned (.int .i64 ((Zc.cX r 0:Nat):Int))∧∃n,w'=w.drewN n:=by
 have hk:=Zc.G1 r 0
 have KE:Hid (Zc.cX r 0=if Zc.aR r 0=0 then 0 else if Zc.aR r 0=1 then 0+1 else if Zc.aR r 0=5 then 0+Zc.cG r 0 else Zc.cY r (Zc.aR r 0) 0):=rfl
 generalize Zc.aR r 0=k at*
 rcases(show k=0∨k=1∨k=2∨k=3∨k=4∨k=5 by omega)with rfl | rfl | rfl | rfl | rfl | rfl
 ·go_enter Tryz.func73,Tryz.ntmps73
  go_wp2_with fail
  go_ret
  exact⟨cO (by rw[KE.out];rfl),0,rfl⟩
 ·go_enter Tryz.func73,Tryz.ntmps73
  go_wp2_with fail
  go_ret
  exact⟨cO (by rw[KE.out];rfl),0,rfl⟩
 ·go_enter Tryz.func73,Tryz.ntmps73
  go_wp2_with (go_at_call 128;refine(mP 2 _ _ hr).mono ?_;rintro e w' ⟨rfl,rfl⟩)
  go_ret
  exact⟨cO (by rw[KE.out];rfl),0,rfl⟩
 ·go_enter Tryz.func73,Tryz.ntmps73
  go_wp2_with (go_at_call 128;refine(mP 3 _ _ hr).mono ?_;rintro e w' ⟨rfl,rfl⟩)
  go_ret
  exact⟨cO (by rw[KE.out];rfl),0,rfl⟩
 ·go_enter Tryz.func73,Tryz.ntmps73
  go_wp2_with (go_at_call 128;refine(mP 4 _ _ hr).mono ?_;rintro e w' ⟨rfl,rfl⟩)
  go_ret
  exact⟨cO (by rw[KE.out];rfl),0,rfl⟩
 ·go_enter Tryz.func73,Tryz.ntmps73
  go_wp2_with (go_at_call 127;refine(mQ _ _ hr h).mono ?_;rintro e w' ⟨rfl,n,rfl⟩)
  go_ret
  exact⟨cO (by rw[KE.out];simp),n,rfl⟩
theorem wk (s:ByteArray) (p:Nat) (w:World) (hs:s.size≤maxLen) (hp:p≤s.size) (h:dN w) (hz:0<w.heap.size):
 Calls Tryz.prog 38 #[.string s,.int .i64 (p:Int)] w fun e w'=>e= .returned (.agg #[.int .i64 ((Zc.next s p).kind:Int),.int .i64 ((Zc.next s p).pos:Int),.string (Zc.next s p).text])∧Below w.heap.size w w':=by
 have hs':=hs
 unfold maxLen at hs'
 have hle:=Zc.N5 hp
 have YT:=Zc.oM s p
 by_cases he:Zc.skip s p<s.size
 ·have hS:∀o,dN (w.alloc o):=fun o=>h.below ((Below.refl _ _).alloc (Nat.le_refl _) o) hz
  have hsz:(s.extract (Zc.skip s p) s.size).size≤maxLen:=by rw[←Zc.from_,Zc.nK];omega
  have hN:=af (Zc.oX he)
  have hK:=af (@Zc.vD s (Zc.skip s p))
  have hE:=af (@Zc.Fq s (Zc.skip s p))
  have hEl:=Zc.vZ he
  have hEg:=Zc.oW he
  have hX:Hid (∀n:Nat,Zc.skip s p+n≤s.size→(Zc.from_ s (Zc.skip s p)).extract 0 n=s.extract (Zc.skip s p) (Zc.skip s p+n)):=fun n h=>Zc.Bi h
  unfold Zc.from_ at hK hE hX
  go_enter Tryz.func38,Tryz.ntmps38
  go_wp2_with fail
  refine(qP s p _ hs hp).mono ?_
  rintro e w' ⟨rfl,rfl⟩
  go_wp2_with fail
  refine(Fu (s.extract (Zc.skip s p) s.size) _ hsz (hS _)).mono ?_
  rintro e w' ⟨rfl,n,rfl⟩
  go_wp2_with fail
  refine(Bk (s.extract (Zc.skip s p) s.size) _ hsz ((hS _).draws _)).mono ?_
  rintro e w' ⟨rfl,m,rfl⟩
  have hb:Zc.cX (s.extract (Zc.skip s p) s.size) 0+Zc.skip s p=Zc.cX s (Zc.skip s p):=ae hE
  have hb2:Zc.cX (s.extract (Zc.skip s p) s.size) 0≤(s.extract (Zc.skip s p) s.size).size:=by rw[ByteArray.size_extract];omega
  generalize hg:Zc.cX (s.extract (Zc.skip s p) s.size) 0=q at*
  have oZ:=af hg
  clear hg
  have hb':=af hb
  clear hb
  go_wp2_with fail
  refine bodyPost_ret (v:= .agg #[.int .i64 (Zc.aR (s.extract (Zc.skip s p) s.size) 0:Int),.int .i64 (Zc.skip s p:Int),.string ((s.extract (Zc.skip s p) s.size).extract 0 q)]) (by simp[results,Tryz.results38,go_sem]) rfl ⟨?_,?_⟩
  ·rw[ae hN,ae hK,ae hX q (by rw[ByteArray.size_extract]at hb2;omega),Nat.add_comm,ae hb']
  ·exact(((below_drewN ((Below.refl _ _).alloc (Nat.le_refl _) _) _).setCell (Nat.le_refl _) _).setCell (Nat.le_refl _) _).setCell (Nat.le_refl _) _
 ·have hN:=af (Zc.wh (s:=s) (p:=p) (by omega))
  go_enter Tryz.func38,Tryz.ntmps38
  go_wp2_with fail
  refine(qP s p _ hs hp).mono ?_
  rintro e w' ⟨rfl,rfl⟩
  go_wp2_with fail
  refine bodyPost_ret (v:= .agg #[.int .i64 0,.int .i64 (s.size:Int),.string ByteArray.empty]) (by simp[results,Tryz.results38,go_sem];rfl) rfl ⟨?_,?_⟩
  ·rw[ae hN];rfl
  ·exact(Below.refl _ _).alloc (Nat.le_refl _) _
def aP (w:World) (k:Nat):Option TypeId:=match w.heap[k]? with
 | some (.cells _ t _)=>some t
 | _=>none
structure KA (b:Nat) (X:List Nat) (w w':World):Prop where
 os:w'.os=w.os
 tape:w'.tape=w.tape
 output:w'.output=w.output
 size:w.heap.size≤w'.heap.size
 block:∀k,k<w.heap.size→k∉X→(k<b∨aP w k≠some 9)→w'.heap[k]?=w.heap[k]?
theorem KA.refl (b:Nat) (X:List Nat) (w:World):KA b X w w:=⟨rfl,rfl,rfl,Nat.le_refl _,fun _ _ _ _=>rfl⟩
theorem KA.trans {b:Nat} {X:List Nat} {u v w:World} (h:KA b X u v) (k:KA b X v w):KA b X u w:=
 ⟨k.os.trans h.os,k.tape.trans h.tape,k.output.trans h.output,Nat.le_trans h.size k.size,fun i hi hX ht=>by
  have e:=h.block i hi hX ht
  rw[k.block i (Nat.lt_of_lt_of_le hi h.size) hX (by unfold aP at ht⊢;rw[e];exact ht),e]⟩
theorem KA.aw {b:Nat} {X:List Nat} {w w':World} (h:Below w.heap.size w w'):KA b X w w':=⟨h.os,h.tape,h.output,h.size,fun k hk _ _=>h.block k hk⟩
theorem KA.drew {b:Nat} {X:List Nat} {u w:World} (h:KA b X u w):KA b X u w.drew:=h.trans (KA.aw (Below.refl _ _).drew)
theorem KA.alloc {b:Nat} {X:List Nat} {u w:World} (h:KA b X u w) (o:Obj):KA b X u (w.alloc o):=h.trans (KA.aw ((Below.refl _ _).alloc (Nat.le_refl _) o))
theorem KA.fI {b:Nat} {X:List Nat} {u w:World} (h:KA b X u w) {p:Addr} (hp:p.block∈X) (v:Value):KA b X u (w.setCell p v):=
 h.trans ⟨rfl,rfl,rfl,by simp[World.setCell],fun k hk hX _=>Below.heap_setCell _ _ _ _ (fun e=>hX (e ▸ hp))⟩
theorem KA.xt {b:Nat} {X:List Nat} {u w:World} (h:KA b X u w) {p:Addr} (hp:u.heap.size≤p.block) (v:Value):KA b X u (w.setCell p v):=
 ⟨h.os,h.tape,h.output,by have:=h.size;simp[World.setCell];omega,fun k hk hX ht=>(Below.heap_setCell _ _ _ _ (by omega)).trans (h.block k hk hX ht)⟩
theorem KA.mono {b:Nat} {X Y:List Nat} {u w:World} (h:KA b X u w) (hs:∀x∈X,x∈Y):KA b Y u w:=
 ⟨h.os,h.tape,h.output,h.size,fun k hk hY ht=>h.block k hk (fun e=>hY (hs k e)) ht⟩
theorem KA.forget {b:Nat} {X Y:List Nat} {u w:World} (h:KA b Y u w) (hs:∀x∈Y,x∈X∨u.heap.size≤x):KA b X u w:=
 ⟨h.os,h.tape,h.output,h.size,fun k hk hX ht=>h.block k hk (fun e=>(hs k e).elim hX (fun q=>by omega)) ht⟩
theorem KA.cell {b:Nat} {X:List Nat} {w w':World} (h:KA b X w w') {p:Addr} (hp:p.block<w.heap.size) (hX:p.block∉X) (ht:p.block<b∨aP w p.block≠some 9):w'.cell? p=w.cell? p:=World.cell?_of_block (w:=w) (h.block p.block hp hX ht)
theorem KA.frozen {b:Nat} {X:List Nat} {w w':World} (h:KA b X w w') {p:Addr} (hp:p.block<w.heap.size) (hX:p.block∉X) (ht:p.block<b∨aP w p.block≠some 9):w'.frozen? p=w.frozen? p:=World.frozen?_of_block (w:=w) (h.block p.block hp hX ht)
theorem KA.below {b:Nat} {X:List Nat} {w w':World} (h:KA b X w w') {B:Nat} (hB:B≤w.heap.size) (hb:B≤b) (hX:∀x∈X,B≤x):Below B w w':=
 ⟨h.os,h.tape,h.output,h.size,fun k hk=>h.block k (by omega) (fun e=>by have:=hX k e;omega) (Or.inl (by omega))⟩
theorem KA.grown {b:Nat} {X:List Nat} {u w w':World} {row:Option Nat} (h:KA b X u w) (hg:w.grownBy w' row) (hr:∀k,row=some k→u.heap.size≤k∨k∈X∨(b≤k∧aP w k=some 9)):KA b X u w':=
 ⟨hg.os.trans h.os,hg.tape.trans h.tape,hg.output.trans h.output,Nat.le_trans h.size hg.size,fun k hk hX ht=>by
  have e:=h.block k hk hX ht
  rw[hg.block k (Nat.lt_of_lt_of_le hk h.size) (fun q=> ?_),e]
  rcases hr k q.symm with a | a | ⟨a,c⟩
  ·omega
  ·exact hX a
  ·rcases ht with t | t
   ·omega
   ·apply t;unfold aP at c⊢;rw[←e];exact c⟩
theorem dN.ka {b:Nat} {X:List Nat} {w w':World} (h:dN w) (hk:KA b X w w') (h0:0<w.heap.size) (hX:0∉X) (hb:0<b):dN w':=
 ⟨(hk.cell (p:=⟨0,0,none⟩) h0 hX (Or.inl hb)).trans h.s0,(hk.cell (p:=⟨0,1,none⟩) h0 hX (Or.inl hb)).trans h.s1,(hk.cell (p:=⟨0,2,none⟩) h0 hX (Or.inl hb)).trans h.s2,(hk.cell (p:=⟨0,3,none⟩) h0 hX (Or.inl hb)).trans h.s3,(hk.cell (p:=⟨0,4,none⟩) h0 hX (Or.inl hb)).trans h.s4⟩
structure Rd (w:World) (rb:Nat) (s:ByteArray) (t:Zc.aj) (nv:Value) (e:Int):Prop where
 c0:w.cell? ⟨rb,0,none⟩=some (.string s)
 c1:w.cell? ⟨rb,1,none⟩=some (.int .i64 (t.kind:Int))
 c2:w.cell? ⟨rb,2,none⟩=some (.int .i64 (t.pos:Int))
 c3:w.cell? ⟨rb,3,none⟩=some (.string t.text)
 c4:w.cell? ⟨rb,4,none⟩=some nv
 c5:w.cell? ⟨rb,5,none⟩=some (.int .i64 e)
 f1:w.frozen? ⟨rb,1,none⟩=false
 f2:w.frozen? ⟨rb,2,none⟩=false
 f3:w.frozen? ⟨rb,3,none⟩=false
 f4:w.frozen? ⟨rb,4,none⟩=false
 f5:w.frozen? ⟨rb,5,none⟩=false
theorem Rd.below {B:Nat} {w w':World} {rb:Nat} {s:ByteArray} {t:Zc.aj} {nv:Value} {e:Int} (h:Rd w rb s t nv e) (hb:Below B w w') (hr:rb<B):Rd w' rb s t nv e:=
 ⟨(hb.cell (p:=⟨rb,0,none⟩) hr).trans h.c0,(hb.cell (p:=⟨rb,1,none⟩) hr).trans h.c1,(hb.cell (p:=⟨rb,2,none⟩) hr).trans h.c2,(hb.cell (p:=⟨rb,3,none⟩) hr).trans h.c3,(hb.cell (p:=⟨rb,4,none⟩) hr).trans h.c4,(hb.cell (p:=⟨rb,5,none⟩) hr).trans h.c5,
  (hb.frozen (p:=⟨rb,1,none⟩) hr).trans h.f1,(hb.frozen (p:=⟨rb,2,none⟩) hr).trans h.f2,(hb.frozen (p:=⟨rb,3,none⟩) hr).trans h.f3,(hb.frozen (p:=⟨rb,4,none⟩) hr).trans h.f4,(hb.frozen (p:=⟨rb,5,none⟩) hr).trans h.f5⟩
structure St (w:World) (rb:Nat) (s:ByteArray) (l:List Zc.aj) (ns:List ByteArray) (nv:Value) (e:Int):Prop where
 rd:Rd w rb s (Zc.hd l) nv e
 own:w.ownsRow (rb+1) 9 1 nv ns.length (ns.map Value.string)
 chain:Zc.eo s l
 isNext:∃p,Zc.hd l=Zc.next s p
 few:ns.length+l.length≤1000
 short:s.size≤240
 signs:dN w
 pos:0<rb
 lt:rb<w.heap.size
theorem St.below {w w':World} {rb:Nat} {s:ByteArray} {l:List Zc.aj} {ns:List ByteArray} {nv:Value} {e:Int} (h:St w rb s l ns nv e) (hb:Below w.heap.size w w'):St w' rb s l ns nv e:=
 ⟨h.rd.below hb h.lt,⟨h.own.1,h.own.2.imp id fun⟨g,cap,cur,a,b,c,d⟩=>⟨g,cap,cur,a,b,(hb.block g (by
  have:=Array.getElem?_eq_some_iff.1 c;exact this.1)).trans c,d⟩⟩,h.chain,h.isNext,h.few,h.short,h.signs.below hb (by have:=h.lt;omega),h.pos,by have:=hb.size;have:=h.lt;omega⟩
theorem kM {w:World} {rb:Nat} {T:TypeId} {sz:Nat} {nv:Value} {n:Nat} {xs:List Value} (h:w.ownsRow (rb+1) T sz nv n xs) (o:Nat) (v:Value):(w.setCell ⟨rb,o,none⟩ v).ownsRow (rb+1) T sz nv n xs:=
 ownsRow_setCell_below h (by show rb<rb+1;omega) v
theorem dN.setCell {w:World} (h:dN w) {p:Addr} (hp:p.block≠0) (v:Value):dN (w.setCell p v):=by
 have k:∀o,(w.setCell p v).cell? ⟨0,o,none⟩=w.cell? ⟨0,o,none⟩:=fun o=>World.cell?_of_block (Below.heap_setCell _ _ _ _ (fun e=>hp e.symm))
 exact⟨(k 0).trans h.s0,(k 1).trans h.s1,(k 2).trans h.s2,(k 3).trans h.s3,(k 4).trans h.s4⟩
structure au (R R':Nat→Prop) (w w':World):Prop where
 os:w'.os=w.os
 tape:w'.tape=w.tape
 output:w'.output=w.output
 size:w.heap.size≤w'.heap.size
 block:∀k,k<w.heap.size→¬R k→w'.heap[k]?=w.heap[k]?
 row:∀k,R' k→R k∨w.heap.size≤k
theorem au.aw {R:Nat→Prop} {w w':World} (h:Below w.heap.size w w'):au R R w w':=⟨h.os,h.tape,h.output,h.size,fun k hk _=>h.block k hk,fun _ q=>Or.inl q⟩
theorem au.trans {R R1 R2:Nat→Prop} {u v w:World} (h:au R R1 u v) (k:au R1 R2 v w):au R R2 u w:=
 ⟨k.os.trans h.os,k.tape.trans h.tape,k.output.trans h.output,Nat.le_trans h.size k.size,fun i hi h1=>(k.block i (Nat.lt_of_lt_of_le hi h.size) (fun q=>by
  rcases h.row i q with e | e
  ·exact h1 e
  ·omega)).trans (h.block i hi h1),fun i q=>by
  rcases k.row i q with e | e
  ·exact h.row i e
  ·exact Or.inr (Nat.le_trans h.size e)⟩
theorem au.not {R R':Nat→Prop} {w w':World} (h:au R R' w w') {k:Nat} (hk:k<w.heap.size) (hr:¬R k):¬R' k:=fun q=>by
 rcases h.row k q with e | e
 ·exact hr e
 ·omega
theorem ai {w w':World} {b0:Nat} {T:TypeId} {sz:Nat} {v:Value} {n:Nat} {xs:List Value} (h:w.ownsRow b0 T sz v n xs) (hk:∀g,v.ownBlock=some g→w'.heap[g]?=w.heap[g]?):w'.ownsRow b0 T sz v n xs:=
 ⟨h.1,h.2.imp id fun⟨g,cap,cur,a,b,c,d⟩=>⟨g,cap,cur,a,b,(hk g (by rw[a];rfl)).trans c,d⟩⟩
theorem jc {o:Option Addr} {n cap:Nat} {k:Nat} (h:∀q,o=some q→k≠q.block):some k≠(Value.slice o n cap).ownBlock:=by
 cases o with
 | none=>simp[Value.ownBlock]
 | some q=>have:=h q rfl;simpa [Value.ownBlock] using this
theorem au.cell {R R':Nat→Prop} {w w':World} (h:au R R' w w') {p:Addr} (hp:p.block<w.heap.size) (hr:¬R p.block):w'.cell? p=w.cell? p:=World.cell?_of_block (w:=w) (h.block p.block hp hr)
theorem au.down {R R':Nat→Prop} {w w':World} (h:au R R' w w') {b:Nat} (hb:b≤w.heap.size) (hr:∀k,R k→b≤k):Below b w w':=
 ⟨h.os,h.tape,h.output,h.size,fun k hk=>h.block k (by omega) (fun q=>by have:=hr k q;omega)⟩
theorem bW (w:World) (rb:Nat) (s:ByteArray) (l:List Zc.aj) (ns:List ByteArray) (nv:Value) (e0:Int) (c:Int) (h:St w rb s l ns nv e0):
 Calls Tryz.prog 82 #[.pointer (some ⟨rb,0,none⟩),.int .i64 c] w fun e w'=>e= .returned (.tuple #[])∧St w' rb s l ns nv c∧KA rb [rb] w w':=by
 obtain⟨⟨c0,c1,c2,c3,c4,c5,f1,f2,f3,f4,f5⟩,own,chain,isn,few,short,signs,pos,lt⟩:=h
 go_enter Tryz.func82,Tryz.ntmps82
 go_wp2
 go_end0
 refine⟨rfl,⟨⟨?_,?_,?_,?_,?_,?_,?_,?_,?_,?_,?_⟩,kM own _ _,chain,isn,few,short,signs.setCell (by show rb≠0;omega) _,pos,by simpa using lt⟩,(KA.refl _ _ _).fI (by simp) _⟩
 all_goals first | go_cell | (simp[go_sem, *];done)
theorem bC (w:World) (rb:Nat) (s:ByteArray) (l:List Zc.aj) (ns:List ByteArray) (nv:Value) (e0:Int) (g:ByteArray) (h:St w rb s l ns nv e0):
 Calls Tryz.prog 76 #[.pointer (some ⟨rb,0,none⟩),.string g] w fun e w'=>e= .returned (.bool (Zc.sees l g.toList))∧w'=w:=by
 obtain⟨⟨c0,c1,c2,c3,c4,c5,f1,f2,f3,f4,f5⟩,own,chain,isn,few,short,signs,pos,lt⟩:=h
 clear own chain isn few signs
 by_cases hk:(Zc.hd l).kind=5
 ·have gj:(((Zc.hd l).kind:Int) == 5)=true:=by simp;omega
  have HS:=af (show Zc.sees l g.toList=((Zc.hd l).text.toList == g.toList)by simp[Zc.sees,hk])
  clear hk
  go_enter Tryz.func76,Tryz.ntmps76
  go_wp2
  go_ret
  exact⟨cK (by rw[ae HS]),rfl⟩
 ·have gj:(((Zc.hd l).kind:Int) == 5)=false:=by simp;omega
  have HS:=af (show Zc.sees l g.toList=false by simp[Zc.sees,hk])
  clear hk
  go_enter Tryz.func76,Tryz.ntmps76
  go_wp2
  go_ret
  exact⟨cK (by rw[ae HS]),rfl⟩
theorem Ky {w w1:World} {rb:Nat} {s:ByteArray} {l:List Zc.aj} {ns:List ByteArray} {nv:Value} {e0:Int} (h:St w rb s l ns nv e0) (h0:(Zc.hd l).kind≠0) (hb:Below w.heap.size w w1):
 St (((w1.setCell ⟨rb,1,none⟩ (.int .i64 ((Zc.next s ((Zc.hd l).pos+(Zc.hd l).text.size)).kind:Int))).setCell ⟨rb,2,none⟩ (.int .i64 ((Zc.next s ((Zc.hd l).pos+(Zc.hd l).text.size)).pos:Int))).setCell ⟨rb,3,none⟩ (.string (Zc.next s ((Zc.hd l).pos+(Zc.hd l).text.size)).text)) rb s l.tail ns nv e0∧
 KA rb [rb] w (((w1.setCell ⟨rb,1,none⟩ (.int .i64 ((Zc.next s ((Zc.hd l).pos+(Zc.hd l).text.size)).kind:Int))).setCell ⟨rb,2,none⟩ (.int .i64 ((Zc.next s ((Zc.hd l).pos+(Zc.hd l).text.size)).pos:Int))).setCell ⟨rb,3,none⟩ (.string (Zc.next s ((Zc.hd l).pos+(Zc.hd l).text.size)).text)):=by
 have hk:=h.chain.tail h0
 have h1:=h.below hb
 have few:=h.few
 have hl:l.length=l.tail.length+1:=by
  rcases l with _ | ⟨a,r⟩
  ·exact absurd h.chain (by simp[Zc.eo])
  ·rfl
 obtain⟨⟨d0,d1,d2,d3,d4,d5,g1,g2,g3,g4,g5⟩,own,chain,isn,few1,short,signs,pos,lt⟩:=h1
 have z:rb≠0:=by omega
 refine⟨⟨?_,kM (kM (kM own _ _) _ _) _ _,hk.1,⟨_,hk.2.1⟩,by omega,short,((signs.setCell (by exact z) _).setCell (by exact z) _).setCell (by exact z) _,pos,by simpa using lt⟩,(((KA.aw hb).fI (by simp) _).fI (by simp) _).fI (by simp) _⟩
 rw[hk.2.1]
 generalize Zc.next s ((Zc.hd l).pos+(Zc.hd l).text.size)=t
 exact⟨by go_cell,by go_cell,by go_cell,by go_cell,by go_cell,by go_cell,by go_cell,by go_cell,by go_cell,by go_cell,by go_cell⟩
theorem fP (w:World) (rb:Nat) (s:ByteArray) (l:List Zc.aj) (ns:List ByteArray) (nv:Value) (e0:Int) (h:St w rb s l ns nv e0) (h0:(Zc.hd l).kind≠0):
 Calls Tryz.prog 77 #[.pointer (some ⟨rb,0,none⟩)] w fun e w'=>e= .returned (.tuple #[])∧St w' rb s l.tail ns nv e0∧KA rb [rb] w w':=by
 have HS:=af h
 obtain⟨⟨c0,c1,c2,c3,c4,c5,f1,f2,f3,f4,f5⟩,own,chain,⟨p,isn⟩,few,short,signs,pos,lt⟩:=h
 have Vx:(Zc.hd l).pos+(Zc.hd l).text.size≤s.size:=by rw[isn];exact Zc.sP
 have hmx:s.size≤maxLen:=by unfold maxLen;omega
 have hz:0<w.heap.size:=by omega
 have hC:=af chain
 have HG:=af signs
 have hw:IntKind.i64.wrap (((Zc.hd l).pos:Int)+((Zc.hd l).text.size:Int))=((Zc.hd l).pos:Int)+((Zc.hd l).text.size:Int):=by rw[IntWalk.i64_in _ ⟨by omega,by omega⟩]
 have HP:=af (show ((Zc.hd l).pos:Int)+((Zc.hd l).text.size:Int)=(((Zc.hd l).pos+(Zc.hd l).text.size:Nat):Int)by omega)
 clear chain own isn few signs
 go_enter Tryz.func77,Tryz.ntmps77
 go_wp2
 go_region_with (go_at_call 38;rw[ae HP];refine(wk s ((Zc.hd l).pos+(Zc.hd l).text.size) _ hmx Vx ((ae HG).draws 1) hz).mono ?_;rintro e w1 ⟨rfl,hb⟩;obtain⟨d0,d1,d2,d3,d4,d5,g1,g2,g3,g4,g5⟩:=(ae HS).rd.below (Below.trans (Below.refl _ _).drew hb) lt)
 all_goals
  go_wp2
  go_end0
  exact⟨rfl,Ky (ae HS) h0 (Below.trans (Below.refl _ _).drew hb)⟩
theorem dI (w:World) (rb:Nat) (s:ByteArray) (l:List Zc.aj) (ns:List ByteArray) (nv:Value) (e0:Int) (f:Bool) (h:St w rb s l ns nv e0) (h0:f=true→(Zc.hd l).kind≠0):
 Calls Tryz.prog 79 #[.pointer (some ⟨rb,0,none⟩),.bool f] w fun e w'=>e= .returned (.bool f)∧St w' rb s (if f then l.tail else l) ns nv (if f then e0 else 2)∧KA rb [rb] w w':=by
 have H:=af h
 clear h
 cases f
 ·go_enter Tryz.func79,Tryz.ntmps79
  go_wp2_with (go_at_call 82;refine(bW _ _ _ _ _ _ _ 2 (ae H)).mono ?_;rintro e w1 ⟨rfl,hs,hk⟩;have HS:=af hs;have HK:=af hk;clear hs hk)
  go_ret
  exact⟨rfl,ae HS,ae HK⟩
 ·have h0':=af (h0 rfl)
  clear h0
  go_enter Tryz.func79,Tryz.ntmps79
  go_wp2_with (go_at_call 77;refine(fP _ _ _ _ _ _ _ (ae H) (ae h0')).mono ?_;rintro e w1 ⟨rfl,hs,hk⟩;have HS:=af hs;have HK:=af hk;clear hs hk)
  go_ret
  exact⟨rfl,ae HS,ae HK⟩
theorem zi (w:World) (rb:Nat) (s:ByteArray) (l:List Zc.aj) (ns:List ByteArray) (nv:Value) (e0:Int) (c m:Nat) (h:St w rb s l ns nv e0) (h0:(Zc.hd l).kind≠0):
 Calls Tryz.prog 81 #[.pointer (some ⟨rb,0,none⟩),.int .i64 (c:Int),.int .i64 (m:Int)] w fun e w'=>e= .returned (.bool (decide (c<m)))∧St w' rb s (if c<m then l.tail else l) ns nv (if c<m then e0 else 3)∧KA rb [rb] w w':=by
 have H:=af h
 have h0':=af h0
 clear h h0
 by_cases hc:c<m
 ·rw[if_pos hc,if_pos hc]
  go_enter Tryz.func81,Tryz.ntmps81
  go_wp2_with (go_at_call 77;refine(fP _ _ _ _ _ _ _ (ae H) (ae h0')).mono ?_;rintro e w1 ⟨rfl,hs,hk⟩;have HS:=af hs;have HK:=af hk;clear hs hk)
  go_ret
  exact⟨cK (by simp[hc]),ae HS,ae HK⟩
 ·rw[if_neg hc,if_neg hc]
  go_enter Tryz.func81,Tryz.ntmps81
  go_wp2_with (go_at_call 82;refine(bW _ _ _ _ _ _ _ 3 (ae H)).mono ?_;rintro e w1 ⟨rfl,hs,hk⟩;have HS:=af hs;have HK:=af hk;clear hs hk)
  go_ret
  exact⟨cK (by simp;omega),ae HS,ae HK⟩
def eh (d:Nat) (t:Zc.aj):Nat:=if Zc.dw t=true then(if t.kind=4∧6<t.text.size∨8<d then 3 else 0)else 2
theorem Kz {d:Nat} {t:Zc.aj} (h:¬(t.kind=2∨t.kind=3∨t.kind=4)):eh d t=2:=by
 unfold eh Zc.dw;rw[if_neg];simp;omega
theorem Fv {d:Nat} {t:Zc.aj} (h:t.kind=2∨t.kind=3∨t.kind=4) (b:t.kind=4∧6<t.text.size∨8<d):eh d t=3:=by
 unfold eh Zc.dw;rw[if_pos,if_pos b];simp;omega
theorem G6 {d:Nat} {t:Zc.aj} (h:t.kind=2∨t.kind=3∨t.kind=4) (b:¬(t.kind=4∧6<t.text.size∨8<d)):eh d t=0:=by
 unfold eh Zc.dw;rw[if_pos,if_neg b];simp;omega
theorem G7 (w:World) (rb:Nat) (s:ByteArray) (l:List Zc.aj) (ns:List ByteArray) (nv:Value) (e0:Int) (d k z:Nat) (h:St w rb s l ns nv e0) (dB:(Zc.hd l).kind=k) (hzz:(Zc.hd l).text.size=z) (hz:z≤240) (m:Nat)
 (hm:(m=2∧¬(k=2∨k=3∨k=4))∨(m=3∧(k=2∨k=3∨k=4)∧(k=4∧6<z∨8<d))):
 Calls Tryz.prog 129 #[.pointer (some ⟨rb,0,none⟩),.int .i64 (d:Int)] w fun e w'=>e= .returned (.bool false)∧St w' rb s l ns nv (m:Int)∧KA rb [rb] w w':=by
 have H:=af h
 obtain⟨⟨c0,c1,c2,c3,c4,c5,f1,f2,f3,f4,f5⟩,own,chain,isn,few,short,signs,pos,lt⟩:=h
 clear own chain isn few short signs pos lt c0 c2 c4 c5 f1 f2 f3 f4 f5
 rw[dB]at c1
 generalize (Zc.hd l).text=tx at c3 hzz
 clear dB
 subst hzz
 rcases hm with⟨rfl,hn⟩ | ⟨rfl,hk,hb⟩
 ·have n2:((k:Int) != 2)=true:=by simp;omega
  have n3:((k:Int) != 3)=true:=by simp;omega
  have n4:((k:Int) != 4)=true:=by simp;omega
  clear hn
  go_enter Tryz.func129,Tryz.ntmps129
  go_wp2_with (go_at_call 82;refine(bW _ _ _ _ _ _ _ 2 (ae H)).mono ?_;rintro e w1 ⟨rfl,hs,hk⟩;have HS:=af hs;have HK:=af hk;clear hs hk)
  go_ret
  exact⟨rfl,ae HS,ae HK⟩
 ·rcases hk with rfl | rfl | rfl
  ·have PF:8<d:=by omega
   clear hb
   go_enter Tryz.func129,Tryz.ntmps129
   go_wp2_with (go_at_call 82;refine(bW _ _ _ _ _ _ _ 3 (ae H)).mono ?_;rintro e w1 ⟨rfl,hs,hk⟩;have HS:=af hs;have HK:=af hk;clear hs hk)
   go_ret
   exact⟨rfl,ae HS,ae HK⟩
  ·have PF:8<d:=by omega
   clear hb
   go_enter Tryz.func129,Tryz.ntmps129
   go_wp2_with (go_at_call 82;refine(bW _ _ _ _ _ _ _ 3 (ae H)).mono ?_;rintro e w1 ⟨rfl,hs,hk⟩;have HS:=af hs;have HK:=af hk;clear hs hk)
   go_ret
   exact⟨rfl,ae HS,ae HK⟩
  ·by_cases h6:6<tx.size
   ·clear hb
    go_enter Tryz.func129,Tryz.ntmps129
    go_wp2_with (go_at_call 82;refine(bW _ _ _ _ _ _ _ 3 (ae H)).mono ?_;rintro e w1 ⟨rfl,hs,hk⟩;have HS:=af hs;have HK:=af hk;clear hs hk)
    go_ret
    exact⟨rfl,ae HS,ae HK⟩
   ·have PF:8<d:=by omega
    clear hb
    go_enter Tryz.func129,Tryz.ntmps129
    go_wp2_with (go_at_call 82;refine(bW _ _ _ _ _ _ _ 3 (ae H)).mono ?_;rintro e w1 ⟨rfl,hs,hk⟩;have HS:=af hs;have HK:=af hk;clear hs hk)
    go_ret
    exact⟨rfl,ae HS,ae HK⟩
theorem Oe (w:World) (rb:Nat) (s:ByteArray) (l:List Zc.aj) (ns:List ByteArray) (nv:Value) (e0:Int) (d k z:Nat) (h:St w rb s l ns nv e0) (dB:(Zc.hd l).kind=k) (hzz:(Zc.hd l).text.size=z) (hz:z≤240)
 (hk:k=2∨k=3∨k=4) (hn:¬(k=4∧6<z∨8<d)):
 Calls Tryz.prog 129 #[.pointer (some ⟨rb,0,none⟩),.int .i64 (d:Int)] w fun e w'=>e= .returned (.bool true)∧w'=w:=by
 obtain⟨⟨c0,c1,c2,c3,c4,c5,f1,f2,f3,f4,f5⟩,own,chain,isn,few,short,signs,pos,lt⟩:=h
 clear own chain isn few short signs pos lt c0 c2 c4 c5 f1 f2 f3 f4 f5
 rw[dB]at c1
 generalize (Zc.hd l).text=tx at c3 hzz
 clear dB
 subst hzz
 have PF:d≤8:=by omega
 rcases hk with rfl | rfl | rfl
 ·clear hn
  go_enter Tryz.func129,Tryz.ntmps129
  go_wp2_with fail
  go_ret
  exact⟨rfl,rfl⟩
 ·clear hn
  go_enter Tryz.func129,Tryz.ntmps129
  go_wp2_with fail
  go_ret
  exact⟨rfl,rfl⟩
 ·have h6:tx.size≤6:=by omega
  clear hn
  go_enter Tryz.func129,Tryz.ntmps129
  go_wp2_with fail
  go_ret
  exact⟨rfl,rfl⟩
theorem jE (w:World) (rb:Nat) (s:ByteArray) (l:List Zc.aj) (ns:List ByteArray) (nv:Value) (e0:Int) (d:Nat) (h:St w rb s l ns nv e0):
 Calls Tryz.prog 129 #[.pointer (some ⟨rb,0,none⟩),.int .i64 (d:Int)] w fun e w'=>e= .returned (.bool (eh d (Zc.hd l) == 0))∧St w' rb s l ns nv (if eh d (Zc.hd l)=0 then e0 else(eh d (Zc.hd l):Int))∧KA rb [rb] w w':=by
 have hz:(Zc.hd l).text.size≤240:=by obtain⟨p,e⟩:=h.isNext;have h1:=h.short;have h2:=@Zc.sP s p;rw[e];omega
 by_cases hk:(Zc.hd l).kind=2∨(Zc.hd l).kind=3∨(Zc.hd l).kind=4
 ·by_cases hb:(Zc.hd l).kind=4∧6<(Zc.hd l).text.size∨8<d
  ·rw[Fv hk hb]
   exact G7 w rb s l ns nv e0 d _ _ h rfl rfl hz 3 (Or.inr ⟨rfl,hk,hb⟩)
  ·rw[G6 hk hb]
   refine(Oe w rb s l ns nv e0 d _ _ h rfl rfl hz hk hb).mono ?_
   rintro e w' ⟨rfl,rfl⟩
   exact⟨rfl,h,KA.refl _ _ _⟩
 ·rw[Kz hk]
  exact G7 w rb s l ns nv e0 d _ _ h rfl rfl hz 2 (Or.inl ⟨rfl,hk⟩)
def aT (ns:List ByteArray):List (List UInt8):=ns.map fun b=>b.toList
theorem Og {ns:List ByteArray} {k:Nat} {x:List UInt8} (h:k<ns.length) (he:ns[k].toList=x) (hno:∀j (hj:j<ns.length),j<k→ns[j].toList≠x):(aT ns).idxOf x=k:=by
 unfold aT
 induction ns generalizing k with
 | nil=>simp at h
 | cons u us ih=>
  rw[List.map_cons]
  cases k with
  | zero=>rw[List.idxOf_cons];simp at he;simp[he]
  | succ k=>
   have h0:u.toList≠x:=hno 0 (by simp) (by omega)
   rw[List.idxOf_cons]
   simp only[beq_iff_eq,h0,cond_eq_ite,if_false]
   have:=ih (k:=k) (by simpa using h) (by simpa using he) (fun j hj q=>by have:=hno (j+1) (by simpa using hj) (by omega);simpa using this)
   rw[this]
theorem PG {ns:List ByteArray} {k:Nat} {x:List UInt8} (h:k<ns.length) (he:ns[k].toList=x):Zc.dK (aT ns) x=aT ns:=by
 unfold Zc.dK
 rw[if_pos]
 subst he
 exact List.mem_map.2 ⟨ns[k],by simp,rfl⟩
theorem Oh {ns:List ByteArray} {x:List UInt8} (hno:∀j (hj:j<ns.length),ns[j].toList≠x):x∉aT ns:=by
 intro q
 obtain⟨u,hu,rfl⟩:=List.mem_map.1 q
 obtain⟨i,hi,rfl⟩:=List.getElem_of_mem hu
 exact hno i hi rfl
theorem Oi {ns:List ByteArray} {g:ByteArray} (h:g.toList∉aT ns):aT (ns++[g])=Zc.dK (aT ns) g.toList∧(aT ns).idxOf g.toList=ns.length:=by
 unfold Zc.dK
 rw[if_neg h,List.idxOf_eq_length h]
 simp[aT]
structure AV where
 k:Int
 val:Int
 tx:ByteArray
 ao:Option Addr
 n:Nat
 cap:Nat
def gN (a:AV):List Value:=[.int .i64 a.k,.int .i64 a.val,.string a.tx,.slice a.ao a.n a.cap]
def ak (k:Nat):Int:=if k=3 then 1 else if k=4 then 2 else 3
def lV (N:List (List UInt8)) (a:AV) (t:Zc.Tm):Prop:=a.k=ak t.kind∧a.n=t.args.length∧(t.kind=3→t.text.toList∈N∧a.val=(N.idxOf t.text.toList:Int))∧(t.kind=4→a.val=(Zc.numOf t.text:Int)∧t.text.size≤6∧a.tx=⟨#[]⟩)∧(t.kind=2→a.tx=t.text)∧(t.kind=2∨t.kind=3∨t.kind=4)∧t.text.size≤240∧t.args.length≤3
def RA:Nat→List (List UInt8)→(Nat→Prop)→World→AV→Zc.Tm→Prop
 | 0,_,_,_,_,_=>False
 | f+1,N,P,w,a,t=>lV N a t∧(t.args≠[]→∃(g:Nat) (us:List AV) (cs:Array Value),a.ao=some ⟨g,0,none⟩∧P g∧w.heap[g]?=some (.cells cs 76 (0,0))∧cs.toList.take (us.length*4)=us.flatMap gN∧bO (RA f N P w) us t.args)
theorem RA.keep {N:List (List UInt8)} {P Q:Nat→Prop} {w w':World} (hk:∀(g:Nat) (cs:Array Value),P g→w.heap[g]?=some (.cells cs 76 (0,0))→(∃k r,cs.toList= .int .i64 k :: r)→w'.heap[g]?=some (.cells cs 76 (0,0))∧Q g):∀{f:Nat} {a:AV} {t:Zc.Tm},RA f N P w a t→RA f N Q w' a t
 | f+1,_,_,⟨h,q⟩=>⟨h,fun n=>by
  obtain⟨g,us,cs,h1,h2,h3,h4,h5⟩:=q n
  have hi:∃k r,cs.toList= .int .i64 k :: r:=by
   cases us with
   | nil=>have:=h5.length;simp at this;exact absurd (List.length_eq_zero_iff.1 this.symm) n
   | cons u us=>
    cases hc:cs.toList with
    | nil=>rw[hc]at h4;simp[gN]at h4
    | cons c r=>
     rw[hc]at h4
     simp only[List.length_cons,Nat.add_mul,Nat.one_mul,List.flatMap_cons,gN,List.cons_append,List.take_succ_cons]at h4
     injection h4 with h4 _
     exact⟨_,r,by rw[h4]⟩
  obtain⟨r1,r2⟩:=hk g cs h2 h3 hi
  exact⟨g,us,cs,h1,r2,r1,h4,h5.imp fun _ _=>RA.keep hk⟩⟩
theorem RA.imp {N:List (List UInt8)} {P Q:Nat→Prop} {w:World} {f:Nat} {a:AV} {t:Zc.Tm} (h:RA f N P w a t) (hk:∀g,P g→g<w.heap.size→Q g):RA f N Q w a t:=
 h.keep fun g _ hp hg _=>⟨hg,hk g hp (Array.getElem?_eq_some_iff.1 hg).1⟩
theorem RA.set {N:List (List UInt8)} {P:Nat→Prop} {w:World} {f:Nat} {a:AV} {t:Zc.Tm} (h:RA f N P w a t) {b:Nat} (hP:∀g,P g→g≠b) (o:Nat) (v:Value):RA f N P (w.setCell ⟨b,o,none⟩ v) a t:=
 h.keep fun g _ hp hg _=>⟨(Below.heap_setCell _ _ _ _ (fun e=>hP g hp e)).trans hg,hp⟩
theorem lV.more {N:List (List UInt8)} {a:AV} {t:Zc.Tm} (h:lV N a t) (M:List (List UInt8)):lV (N++M) a t:=
 ⟨h.1,h.2.1,fun k=>⟨List.mem_append_left _ (h.2.2.1 k).1,by rw[(h.2.2.1 k).2,List.idxOf_append,if_pos (h.2.2.1 k).1]⟩,h.2.2.2⟩
theorem RA.more {P:Nat→Prop} {w:World} {N:List (List UInt8)} (M:List (List UInt8)):∀{f:Nat} {a:AV} {t:Zc.Tm},RA f N P w a t→RA f (N++M) P w a t
 | f+1,_,_,⟨h,q⟩=>⟨h.more M,fun n=>by
  obtain⟨g,us,cs,h1,h2,h3,h4,h5⟩:=q n
  exact⟨g,us,cs,h1,h2,h3,h4,h5.imp fun _ _=>RA.more M⟩⟩
theorem RA.nI {P:Nat→Prop} {w:World} {N:List (List UInt8)}:∀{f:Nat} {a:AV} {t:Zc.Tm},RA f N P w a t→Zc.nI f t
 | f+1,a,t,⟨h,q⟩=>by
  obtain⟨h1,h2,h3,h4,h5,h6,h7,h8⟩:=h
  refine⟨h7,h8,fun k=>(h4 k).2.1,?_⟩
  intro u hu
  obtain⟨g,us,cs,_,_,_,_,ha⟩:=q (fun e=>by rw[e]at hu;cases hu)
  have:∀(us:List AV) (ts:List Zc.Tm),bO (RA f N P w) us ts→∀u∈ts,Zc.nI f u:=by
   intro us
   induction us with
   | nil=>intro ts ha u hu;cases ts with
    | nil=>cases hu
    | cons t ts=>exact ha.elim
   | cons v us ih=>intro ts ha u hu;cases ts with
    | nil=>cases hu
    | cons t ts=>
     rcases List.mem_cons.1 hu with rfl | hu
     ·exact RA.nI ha.1
     ·exact ih ts ha.2 u hu
  exact this us t.args ha u hu
structure TA (f:Nat) (ns ns':List ByteArray) (w w':World) (val:Int) (tx:ByteArray) (ao:Option Addr) (cap:Nat) (t:Zc.Tm):Prop where
 rep:RA f (aT ns') (fun g=>w.heap.size≤g) w' ⟨ak t.kind,val,tx,ao,t.args.length,cap⟩ t
 nms:aT ns'=Zc.namesF f (aT ns) t
theorem RA.leaf {f:Nat} {N:List (List UInt8)} {P:Nat→Prop} {w:World} {a:AV} {t:Zc.Tm} (h:RA f N P w a t):lV N a t:=by
 cases f with
 | zero=>exact h.elim
 | succ f=>exact h.1
theorem TA.txt {f:Nat} {ns ns':List ByteArray} {w w':World} {val:Int} {tx:ByteArray} {ao:Option Addr} {cap:Nat} {t:Zc.Tm} (h:TA f ns ns' w w' val tx ao cap t):t.kind=2→tx=t.text:=h.rep.leaf.2.2.2.2.1
theorem RA.one {f:Nat} {N:List (List UInt8)} {P:Nat→Prop} {w:World} {a:AV} {t:Zc.Tm} (h:lV N a t) (h0:t.args=[]):RA (f+1) N P w a t:=⟨h,fun q=>absurd h0 q⟩
structure AA (f:Nat) (ns ns':List ByteArray) (w w':World) (ao:Option Addr) (ts:List Zc.Tm):Prop where
 rows:ts≠[]→∃(g:Nat) (us:List AV) (cs:Array Value),ao=some ⟨g,0,none⟩∧w.heap.size≤g∧w'.heap[g]?=some (.cells cs 76 (0,0))∧cs.toList.take (us.length*4)=us.flatMap gN∧bO (RA f (aT ns') (fun g=>w.heap.size≤g) w') us ts
 nms:aT ns'=ts.foldl (Zc.namesF f) (aT ns)
 few:ts.length≤3
def aN (w w':World):Prop:=∀(g:Nat) (cs:Array Value),w.heap[g]?=some (.cells cs 76 (0,0))→(∃k r,cs.toList= .int .i64 k :: r)→w'.heap[g]?=some (.cells cs 76 (0,0))
theorem aN.trans {u v w:World} (h:aN u v) (k:aN v w):aN u w:=fun g cs a b=>k g cs (h g cs a b) b
theorem aN.below {w w':World} (h:Below w.heap.size w w'):aN w w':=fun g _ a _=>(h.block g (Array.getElem?_eq_some_iff.1 a).1).trans a
theorem aN.ka {w w':World} {rb:Nat} {s:ByteArray} {l:List Zc.aj} {ns:List ByteArray} {nv:Value} {e:Int} (hs:St w rb s l ns nv e) (hk:KA rb [rb] w w'):aN w w':=fun g cs hg hi=>(hk.block g (Array.getElem?_eq_some_iff.1 hg).1 (fun q=>by
 obtain rfl:g=rb:=by simpa using q
 obtain⟨k,r,hc⟩:=hi
 have:=hs.rd.c0
 simp[World.cell?,hg]at this
 rw[←Array.getElem?_toList,hc]at this
 simp at this) (Or.inr (by unfold aP;rw[hg];simp))).trans hg
theorem aN.grown {w w':World} {b0:Nat} {T:TypeId} {sz:Nat} {av:Value} {n:Nat} {xs:List Value} (ho:w.ownsRow b0 T sz av n xs) (hg:w.grownBy w' av.ownBlock) (hT:T≠76:=by decide):aN w w':=fun g cs hc _=>(hg.block g (Array.getElem?_eq_some_iff.1 hc).1 (fun q=>by
 rcases ho.2 with⟨rfl,_⟩ | ⟨g',cap,cur,rfl,_,c,_⟩
 ·simp[Value.ownBlock]at q
 ·simp[Value.ownBlock]at q
  subst q
  rw[c]at hc;simp at hc;exact hT hc.2)).trans hc
end Go.Proofs.YthfjnfcekeknlaaGreatDoor
