import Derived.Laws.Strings
import Derived.Lib.ItoaNum
import Derived.Lib.Strings
import Derived.Test.YthfjnfcekeknlabGreatDoorRows
import Derived.WalkKit
import Derived.WalkLawsBesides
import Derived.WalkSpells
import Derived.Deep.QuietTactic
import Derived.BigQuiet
import Derived.Deep.RegionWith
import Derived.OpenShut
set_option maxHeartbeats 8000000
set_option maxRecDepth 100000
namespace Zf
def bU (s:ByteArray) (i:Nat):Nat:=if h:i<s.size then(s[i]'h).toNat else 0
def low (c:Nat):Bool:=decide (97≤c)&&decide (c≤122)
def jc (c:Nat):Bool:=decide (65≤c)&&decide (c≤90)
def iF (c:Nat):Bool:=decide (48≤c)&&decide (c≤57)
def blank (c:Nat):Bool:=c == 32||c == 10
def pL (s:ByteArray):Nat→Nat→Nat
 | 0,i=>i
 | n+1,i=>if i<s.size∧blank (bU s i)=true then pL s n (i+1)else i
def skip (s:ByteArray) (i:Nat):Nat:=pL s (s.size - i) i
def dC (k:Nat) (c:Nat):Bool:=
 if k=2 then low c||iF c else if k=3 then low c||iF c||jc c else iF c
def jP (s:ByteArray) (k:Nat):Nat→Nat→Nat
 | 0,i=>i
 | n+1,i=>if i<s.size∧dC k (bU s i)=true then jP s k n (i+1)else i
def cY (s:ByteArray) (k i:Nat):Nat:=jP s k (s.size - i) i
def dx (a b:Nat):Bool:=
 (a == 58&&b == 45)||(a == 58&&b == 61)||(a == 61&&b == 61)||(a == 92&&b == 61)||(a == 61&&b == 60)
def fB (a:Nat):Bool:=
 a == 61||a == 60||a == 43||a == 45||a == 42||a == 40||a == 41||a == 44||a == 124||a == 46
def cM (s:ByteArray) (i:Nat):Nat:=
 if i+1<s.size∧dx (bU s i) (bU s (i+1))=true then 2
 else if i<s.size∧fB (bU s i)=true then 1 else 0
def aO (s:ByteArray) (i:Nat):Nat:=
 if s.size≤i then 0
 else if low (bU s i)=true then 2
 else if jc (bU s i)=true then 3
 else if iF (bU s i)=true then 4
 else if 0<cM s i then 5 else 1
def cX (s:ByteArray) (i:Nat):Nat:=
 if aO s i=0 then i
 else if aO s i=1 then i+1
 else if aO s i=5 then i+cM s i
 else cY s (aO s i) i
structure Tok where
 kind:Nat
 pos:Nat
 text:ByteArray
def next (s:ByteArray) (p:Nat):Tok:=
 let i:=skip s p
 if s.size≤i then⟨0,s.size,ByteArray.empty⟩else⟨aO s i,i,s.extract i (cX s i)⟩
def ek (s:ByteArray):List Tok→Prop
 | []=>False
 | [t]=>t.kind=0
 | t :: u :: r=>t.kind≠0∧u=next s (t.pos+t.text.size)∧ek s (u :: r)
abbrev dP (α:Type):=Sum (Nat×Nat) (α×List Tok)
def hd (l:List Tok):Tok:=l.headD ⟨0,0,ByteArray.empty⟩
def sees (l:List Tok) (g:List UInt8):Bool:=(hd l).kind == 5&&(hd l).text.toList == g
def bad {α:Type} (e:Nat) (l:List Tok):dP α:= .inl (e,(hd l).pos)
structure Tm where
 kind:Nat
 text:ByteArray
 args:List Tm
def bN (p:List Tok→dP Tm):Nat→List Tok→dP (List Tm)
 | k,l=>
  match p l with
  | .inl e=> .inl e
  | .inr (t,l1)=>
   if sees l1 [44]=true then
    match k with
    | 0=>bad 3 l1
    | k+1=>
     match bN p k l1.tail with
     | .inl e=> .inl e
     | .inr (ts,l2)=> .inr (t :: ts,l2)
   else if sees l1 [41]=true then .inr ([t],l1.tail)else bad 2 l1
def begins (t:Tok):Bool:=t.kind == 2||t.kind == 3||t.kind == 4
def term:Nat→List Tok→dP Tm
 | 0,l=>if begins (hd l)=true then bad 3 l else bad 2 l
 | f+1,l=>
  if begins (hd l)=true then
   if(hd l).kind=4∧6<(hd l).text.size then bad 3 l
   else if(hd l).kind=2 then
    if sees l.tail [40]=true then
     match bN (term f) 2 l.tail.tail with
     | .inl e=> .inl e
     | .inr (ts,l2)=> .inr (⟨2,(hd l).text,ts⟩,l2)
    else .inr (⟨2,(hd l).text,[]⟩,l.tail)
   else .inr (⟨(hd l).kind,(hd l).text,[]⟩,l.tail)
  else bad 2 l
structure aD where
 left:Tm
 sign:List UInt8
 right:Option Tm
 op:List UInt8
 last:Option Tm
def bH (l:List Tok):Bool:=sees l [60]||sees l [61,60]||sees l [61,61]||sees l [92,61]
def gQ (l:List Tok):Bool:=sees l [43]||sees l [45]||sees l [42]
def isInt (t:Tm):Bool:=t.kind == 2&&t.text.toList == [105,110,116]&&t.args.length == 1
def operand (l:List Tok):dP Tm:=if(hd l).kind=2 then bad 2 l else term 8 l
def sides (left:Tm) (fits:Bool) (l:List Tok):dP aD:=
 if fits=true then
  match term 8 l.tail with
  | .inl e=> .inl e
  | .inr (r,l2)=> .inr (⟨left,(hd l).text.toList,some r,[],none⟩,l2)
 else bad 2 l
def assignment (left:Tm) (fits:Bool) (l:List Tok):dP aD:=
 if fits=true then
  match operand l.tail with
  | .inl e=> .inl e
  | .inr (r,l2)=>
   if gQ l2=true then
    match operand l2.tail with
    | .inl e=> .inl e
    | .inr (z,l3)=> .inr (⟨left,(hd l).text.toList,some r,(hd l2).text.toList,some z⟩,l3)
   else .inr (⟨left,(hd l).text.toList,some r,[],none⟩,l2)
 else bad 2 l
def item (tests goals:Bool) (l:List Tok):dP (aD×Bool×Bool):=
 match term 8 l with
 | .inl e=> .inl e
 | .inr (t,l1)=>
  if bH l1=true then
   match sides t tests l1 with
   | .inl e=> .inl e
   | .inr (x,l2)=> .inr ((x,tests,false),l2)
  else if sees l1 [61]=true then
   match sides t goals l1 with
   | .inl e=> .inl e
   | .inr (x,l2)=> .inr ((x,false,goals),l2)
  else if t.kind=3∧sees l1 [58,61]=true then
   match assignment t goals l1 with
   | .inl e=> .inl e
   | .inr (x,l2)=> .inr ((x,false,goals),l2)
  else if t.kind=2∧((tests&&isInt t)||goals)=true then
   .inr ((⟨t,[],none,[],none⟩,tests&&isInt t,goals),l1)
  else bad 2 l1
def items:Nat→Bool→Bool→List Tok→dP (List aD×Bool×Bool)
 | k,tests,goals,l=>
  match item tests goals l with
  | .inl e=> .inl e
  | .inr ((x,t1,g1),l1)=>
   if sees l1 [44]=true then
    match k with
    | 0=>bad 3 l1
    | k+1=>
     match items k t1 g1 l1.tail with
     | .inl e=> .inl e
     | .inr ((xs,t2,g2),l2)=> .inr ((x :: xs,t2,g2),l2)
   else .inr (([x],t1,g1),l1)
structure aI where
 head:Tm
 tests:List aD
 goals:List aD
def body (l:List Tok):dP (List aD×List aD):=
 match items 5 true true l with
 | .inl e=> .inl e
 | .inr ((xs,t,g),l1)=>
  if t=true∧sees l1 [124]=true then
   match items 5 false true l1.tail with
   | .inl e=> .inl e
   | .inr ((ys,_,g2),l2)=>if g2=true then .inr ((xs,ys),l2)else bad 2 l2
  else if g=true then .inr (([],xs),l1)else bad 2 l1
def stop {α:Type} (x:α) (l:List Tok):dP α:=if sees l [46]=true then .inr (x,l.tail)else bad 2 l
def clause (more:Bool) (l:List Tok):dP aI:=
 if(hd l).kind=2 then
  if more=true then
   match term 8 l with
   | .inl e=> .inl e
   | .inr (h,l1)=>
    if sees l1 [58,45]=true then
     match body l1.tail with
     | .inl e=> .inl e
     | .inr ((ts,gs),l2)=>stop ⟨h,ts,gs⟩ l2
    else stop ⟨h,[],[]⟩ l1
  else bad 3 l
 else bad 2 l
def prog:Nat→List Tok→dP (List aI)
 | k,l=>
  if(hd l).kind=0 then .inr ([],l)
  else match k with
   | 0=>match clause false l with
    | .inl e=> .inl e
    | .inr (c,l1)=> .inr ([c],l1)
   | k+1=>
    match clause true l with
    | .inl e=> .inl e
    | .inr (c,l1)=>
     match prog k l1 with
     | .inl e=> .inl e
     | .inr (cs,l2)=> .inr (c :: cs,l2)
theorem ig {s:ByteArray} {i:Nat} (h:i<s.size):bU s i=(s[i]'h).toNat:=by simp[bU,h]
theorem yT {s:ByteArray} {i:Nat} (h:i<s.size) (hb:blank (bU s i)=true):skip s i=skip s (i+1):=by
 unfold skip
 rw[show s.size - i=(s.size - (i+1))+1 by omega,pL,if_pos ⟨h,hb⟩]
theorem pM {s:ByteArray} {i:Nat} (h:¬(i<s.size∧blank (bU s i)=true)):skip s i=i:=by
 unfold skip
 cases hn:s.size - i with
 | zero=>rfl
 | succ n=>rw[pL,if_neg h]
theorem Kg (s:ByteArray) (n i:Nat):i≤pL s n i:=by
 induction n generalizing i with
 | zero=>exact Nat.le_refl _
 | succ n ih=>rw[pL];split
              ·have:=ih (i+1);omega
              ·omega
theorem oI (s:ByteArray) (i:Nat):i≤skip s i:=Kg _ _ _
theorem Kh (s:ByteArray) (n i:Nat) (h:i≤s.size):pL s n i≤s.size:=by
 induction n generalizing i with
 | zero=>exact h
 | succ n ih=>rw[pL];split
              ·exact ih _ (by omega)
              ·exact h
theorem Om {s:ByteArray} {i:Nat} (h:i≤s.size):skip s i≤s.size:=Kh _ _ _ h
theorem oP {s:ByteArray} {k i:Nat} (h:i<s.size) (hb:dC k (bU s i)=true):cY s k i=cY s k (i+1):=by
 unfold cY
 rw[show s.size - i=(s.size - (i+1))+1 by omega,jP,if_pos ⟨h,hb⟩]
theorem oQ {s:ByteArray} {k i:Nat} (h:¬(i<s.size∧dC k (bU s i)=true)):cY s k i=i:=by
 unfold cY
 cases hn:s.size - i with
 | zero=>rfl
 | succ n=>rw[jP,if_neg h]
theorem Ki (s:ByteArray) (k n i:Nat):i≤jP s k n i:=by
 induction n generalizing i with
 | zero=>exact Nat.le_refl _
 | succ n ih=>rw[jP];split
              ·have:=ih (i+1);omega
              ·omega
theorem Fj (s:ByteArray) (k i:Nat):i≤cY s k i:=Ki _ _ _ _
theorem Kj (s:ByteArray) (k n i:Nat) (h:i≤s.size):jP s k n i≤s.size:=by
 induction n generalizing i with
 | zero=>exact h
 | succ n ih=>rw[jP];split
              ·exact ih _ (by omega)
              ·exact h
theorem Fk {s:ByteArray} {k i:Nat} (h:i≤s.size):cY s k i≤s.size:=Kj _ _ _ _ h
theorem AZ {s:ByteArray} {i:Nat} (h:i≤s.size):i+cM s i≤s.size:=by unfold cM;split<;>(try split)<;>omega
theorem G0 (s:ByteArray) (i:Nat):aO s i≤5:=by
 unfold aO
 repeat' split
 all_goals omega
theorem qj {s:ByteArray} {i:Nat}:aO s i=0↔s.size≤i:=by
 unfold aO;repeat' split
 all_goals simp_all
theorem oU {s:ByteArray} {i:Nat} (h:i<s.size):i<cX s i:=by
 unfold cX
 have h0:aO s i≠0:=by rw[Ne,qj];omega
 rw[if_neg h0]
 by_cases h1:aO s i=1
 ·rw[if_pos h1];omega
 ·rw[if_neg h1]
  by_cases h5:aO s i=5
  ·rw[if_pos h5]
   unfold aO at h5
   rw[if_neg (by omega)]at h5
   by_cases hp:0<cM s i
   ·omega
   ·repeat' split at h5
    all_goals omega
  ·rw[if_neg h5]
   have hw:dC (aO s i) (bU s i)=true:=by
    unfold aO at h0 h1 h5⊢
    rw[if_neg (by omega)]at h0 h1 h5⊢
    by_cases a:low (bU s i)=true
    ·simp[a,dC]
    ·rw[if_neg a]at h0 h1 h5⊢
     by_cases b:jc (bU s i)=true
     ·simp[b,dC]
     ·rw[if_neg b]at h0 h1 h5⊢
      by_cases c:iF (bU s i)=true
      ·simp[c,dC]
      ·rw[if_neg c]at h0 h1 h5
       by_cases d:0<cM s i
       ·rw[if_pos d]at h5;exact absurd rfl h5
       ·rw[if_neg d]at h1;exact absurd rfl h1
   rw[oP h hw]
   have:=Fj s (aO s i) (i+1)
   omega
theorem vI {s:ByteArray} {i:Nat} (h:i<s.size):cX s i≤s.size:=by
 unfold cX
 repeat' split
 ·omega
 ·omega
 ·exact AZ (by omega)
 ·exact Fk (by omega)
theorem vJ {s:ByteArray} {p:Nat} (h:s.size≤skip s p):next s p=⟨0,s.size,ByteArray.empty⟩:=by simp[next,h]
theorem oV {s:ByteArray} {p:Nat} (h:skip s p<s.size):next s p=⟨aO s (skip s p),skip s p,s.extract (skip s p) (cX s (skip s p))⟩:=by
 simp[next,show¬s.size≤skip s p by omega]
theorem yf {s:ByteArray} {p:Nat} (h:skip s p<s.size):(next s p).text.size=cX s (skip s p) - skip s p:=by
 rw[oV h];simp[ByteArray.size_extract]
 have:=vI h;omega
theorem nk {s:ByteArray} {p:Nat} (h:skip s p<s.size):(next s p).pos+(next s p).text.size=cX s (skip s p):=by
 rw[yf h,oV h];have:=oU h;simp;omega
theorem lF {s:ByteArray} {p:Nat}:(next s p).kind=0↔s.size≤skip s p:=by
 by_cases h:s.size≤skip s p
 ·simp[vJ h,h]
 ·rw[oV (by omega)];simp[qj]
theorem sk {s:ByteArray} {p:Nat}:(next s p).pos+(next s p).text.size≤s.size:=by
 by_cases h:skip s p<s.size
 ·rw[nk h];exact vI h
 ·rw[vJ (by omega)];simp
theorem Kk (s:ByteArray) (n p:Nat) (h:s.size - p≤n):∃l,ek s (next s p :: l):=by
 induction n generalizing p with
 | zero=>exact⟨[],by rw[ek,lF];have:=oI s p;omega⟩
 | succ n ih=>
  by_cases hk:s.size≤skip s p
  ·exact⟨[],by rw[ek,lF];exact hk⟩
  ·have hk':skip s p<s.size:=by omega
   have hb:=nk hk'
   have hg:=oU hk'
   have hs:=oI s p
   obtain⟨l,hl⟩:=ih ((next s p).pos+(next s p).text.size) (by omega)
   exact⟨next s ((next s p).pos+(next s p).text.size) :: l,fun e=>hk (lF.1 e),rfl,hl⟩
theorem ek.tail {s:ByteArray} {l:List Tok} (h:ek s l) (h0:(hd l).kind≠0):ek s l.tail∧hd l.tail=next s ((hd l).pos+(hd l).text.size)∧l=hd l :: l.tail:=by
 match l,h with
 | [t],h=>exact absurd h h0
 | t :: u :: r,h=>exact⟨h.2.2,h.2.1,rfl⟩
theorem cW {l:List Tok} {g:List UInt8} (h:sees l g=true):(hd l).kind=5:=by
 simp[sees]at h;exact h.1
def su (ys:List aD) (r:dP (List aD×Bool×Bool)):dP (List aD×Bool×Bool):=match r with
 | .inl e=> .inl e
 | .inr ((xs,t,g),l2)=> .inr ((ys++xs,t,g),l2)
theorem Kl (r:dP (List aD×Bool×Bool)):su [] r=r:=by rcases r with e | ⟨⟨us,t,g⟩,l2⟩<;>rfl
theorem G1 (a b:List aD) (r:dP (List aD×Bool×Bool)):su a (su b r)=su (a++b) r:=by rcases r with e | ⟨⟨us,t,g⟩,l2⟩<;>simp[su]
theorem A1 {α:Type} {x:α} {l:List Tok} (h:sees l [46]=true):stop x l= .inr (x,l.tail):=by unfold stop;rw[if_pos h]
theorem DW {α:Type} {x:α} {l:List Tok} (h:sees l [46]=false):stop x l=bad 2 l:=by unfold stop;rw[if_neg (by simp[h])]
theorem Ds {m:Bool} {l:List Tok} (h:(hd l).kind≠2):clause m l=bad 2 l:=by unfold clause;rw[if_neg h]
theorem Dt {l:List Tok} (h:(hd l).kind=2):clause false l=bad 3 l:=by unfold clause;rw[if_pos h,if_neg (by simp)]
theorem Fl {l:List Tok} {e:Nat×Nat} (h:(hd l).kind=2) (hT:term 8 l= .inl e):clause true l= .inl e:=by unfold clause;rw[if_pos h,if_pos rfl,hT]
theorem Du {l l1:List Tok} {t:Tm} (h:(hd l).kind=2) (hT:term 8 l= .inr (t,l1)) (hn:sees l1 [58,45]=false):clause true l=stop ⟨t,[],[]⟩ l1:=by
 unfold clause;rw[if_pos h,if_pos rfl,hT];dsimp only;rw[if_neg (by simp[hn])]
theorem Dv {l l1:List Tok} {t:Tm} {e:Nat×Nat} (h:(hd l).kind=2) (hT:term 8 l= .inr (t,l1)) (hn:sees l1 [58,45]=true) (hb:body l1.tail= .inl e):clause true l= .inl e:=by
 unfold clause;rw[if_pos h,if_pos rfl,hT];dsimp only;rw[if_pos hn,hb]
theorem Dw {l l1 l2:List Tok} {t:Tm} {ts gs:List aD} (h:(hd l).kind=2) (hT:term 8 l= .inr (t,l1)) (hn:sees l1 [58,45]=true) (hb:body l1.tail= .inr ((ts,gs),l2)):clause true l=stop ⟨t,ts,gs⟩ l2:=by
 unfold clause;rw[if_pos h,if_pos rfl,hT];dsimp only;rw[if_pos hn,hb]
theorem Km {l:List Tok} {e:Nat×Nat} (h:items 5 true true l= .inl e):body l= .inl e:=by unfold body;rw[h]
theorem sw {l l1:List Tok} {xs:List aD} {g:Bool} {e:Nat×Nat} (h:items 5 true true l= .inr ((xs,true,g),l1)) (hb:sees l1 [124]=true) (h2:items 5 false true l1.tail= .inl e):body l= .inl e:=by
 unfold body;rw[h];dsimp only;rw[if_pos ⟨rfl,hb⟩,h2]
theorem A2 {l l1 l2:List Tok} {xs ys:List aD} {g t2:Bool} (h:items 5 true true l= .inr ((xs,true,g),l1)) (hb:sees l1 [124]=true) (h2:items 5 false true l1.tail= .inr ((ys,t2,true),l2)):body l= .inr ((xs,ys),l2):=by
 unfold body;rw[h];dsimp only;rw[if_pos ⟨rfl,hb⟩,h2];rfl
theorem uV {l l1 l2:List Tok} {xs ys:List aD} {g t2:Bool} (h:items 5 true true l= .inr ((xs,true,g),l1)) (hb:sees l1 [124]=true) (h2:items 5 false true l1.tail= .inr ((ys,t2,false),l2)):body l=bad 2 l2:=by
 unfold body;rw[h];dsimp only;rw[if_pos ⟨rfl,hb⟩,h2];rfl
theorem wR {l l1:List Tok} {xs:List aD} {t:Bool} (h:items 5 true true l= .inr ((xs,t,true),l1)) (hb:¬(t=true∧sees l1 [124]=true)):body l= .inr (([],xs),l1):=by
 unfold body;rw[h];dsimp only;rw[if_neg hb,if_pos rfl]
theorem rM {l l1:List Tok} {xs:List aD} {t:Bool} (h:items 5 true true l= .inr ((xs,t,false),l1)) (hb:¬(t=true∧sees l1 [124]=true)):body l=bad 2 l1:=by
 unfold body;rw[h];dsimp only;rw[if_neg hb,if_neg (by simp)]
def vK (ys:List aI) (r:dP (List aI)):dP (List aI):=match r with
 | .inl e=> .inl e
 | .inr (xs,l2)=> .inr (ys++xs,l2)
theorem Kn (r:dP (List aI)):vK [] r=r:=by rcases r with e | ⟨us,l2⟩<;>rfl
theorem G3 (a b:List aI) (r:dP (List aI)):vK a (vK b r)=vK (a++b) r:=by rcases r with e | ⟨us,l2⟩<;>simp[vK]
theorem Ko {k:Nat} {l:List Tok} (h:(hd l).kind=0):prog k l= .inr ([],l):=by unfold prog;rw[if_pos h]
theorem A3 (l:List Tok):∃e,clause false l= .inl e:=by
 unfold clause
 by_cases h:(hd l).kind=2
 ·rw[if_pos h,if_neg (by simp)];exact⟨_,rfl⟩
 ·rw[if_neg h];exact⟨_,rfl⟩
theorem Kp {n:Nat} {l:List Tok} {e:Nat×Nat} (hn:n≤12) (h:(hd l).kind≠0) (hc:clause (decide (n<12)) l= .inl e):prog (12 - n) l= .inl e:=by
 by_cases h12:n<12
 ·rw[show 12 - n=(12 - (n+1))+1 by omega,prog,if_neg h]
  rw[decide_eq_true h12]at hc
  rw[hc]
 ·rw[show 12 - n=0 by omega,prog,if_neg h]
  rw[decide_eq_false h12]at hc
  rw[hc]
theorem G5 {n:Nat} {l l1:List Tok} {c:aI} (h:(hd l).kind≠0) (hc:clause (decide (n<12)) l= .inr (c,l1)):n<12∧prog (12 - n) l=vK [c] (prog (12 - (n+1)) l1):=by
 by_cases h12:n<12
 ·refine⟨h12,?_⟩
  rw[show 12 - n=(12 - (n+1))+1 by omega,prog,if_neg h]
  rw[decide_eq_true h12]at hc
  rw[hc]
  dsimp only
  rcases prog (12 - (n+1)) l1 with e | ⟨us,l2⟩<;>rfl
 ·rw[decide_eq_false h12]at hc
  obtain⟨e,he⟩:=A3 l
  rw[he]at hc;cases hc
def Fm (r:dP (List aI)):Nat:=match r with
 | .inl e=>e.1
 | .inr _=>0
def posOf (r:dP (List aI)):Nat:=match r with
 | .inl e=>e.2
 | .inr _=>0
def lZ (l:List UInt8):Nat:=l.foldl (fun v b=>v*10+(b.toNat+208) % 256) 0
def numOf (x:ByteArray):Nat:=lZ x.toList
theorem sy (l:List UInt8) (b:UInt8):lZ (l++[b])=lZ l*10+(b.toNat+208) % 256:=by simp[lZ]
theorem Oo (l:List UInt8):∀v m:Nat,9*v+255≤255*m→9*l.foldl (fun v b=>v*10+(b.toNat+208) % 256) v+255≤255*(m*10 ^ l.length):=by
 induction l with
 | nil=>intro v m h;simpa using h
 | cons b r ih=>
  intro v m h
  have:=ih (v*10+(b.toNat+208) % 256) (m*10) (by omega)
  rw[List.foldl_cons,List.length_cons,Nat.pow_succ,Nat.mul_comm (10 ^ r.length) 10,←Nat.mul_assoc m 10]
  exact this
theorem DX (l:List UInt8) (h:l.length≤6):lZ l≤28333333:=by
 have:=Oo l 0 1 (by omega)
 have h6:10 ^ l.length≤10 ^ 6:=Nat.pow_le_pow_right (by omega) h
 unfold lZ
 generalize 10 ^ l.length=q at*
 omega
end Zf
namespace Go.Proofs.YthfjnfcekeknlabGreatDoor
def bR {α β:Type} (R:α→β→Prop):List α→List β→Prop
 | [],[]=>True
 | a :: xs,b :: ys=>R a b∧bR R xs ys
 | _,_=>False
theorem bR.imp {α β:Type} {R S:α→β→Prop} (h:∀a b,R a b→S a b):∀{xs:List α} {ys:List β},bR R xs ys→bR S xs ys
 | [],[],_=>trivial
 | _ :: _,_ :: _,q=>⟨h _ _ q.1,bR.imp h q.2⟩
theorem bR.length {α β:Type} {R:α→β→Prop}:∀{xs:List α} {ys:List β},bR R xs ys→xs.length=ys.length
 | [],[],_=>rfl
 | _ :: _,_ :: _,q=>by simp[bR.length q.2]
theorem bR.snoc {α β:Type} {R:α→β→Prop} {a:α} {b:β} (h:R a b):∀{xs:List α} {ys:List β},bR R xs ys→bR R (xs++[a]) (ys++[b])
 | [],[],_=>⟨h,trivial⟩
 | _ :: _,_ :: _,q=>⟨q.1,bR.snoc h q.2⟩
open Go
theorem Kq {g:ByteArray} {k:Nat} (h:k<g.size):Zf.lZ (g.toList.take (k+1))=Zf.lZ (g.toList.take k)*10+(g[k].toNat+208) % 256:=by
 rw[←Zf.sy]
 congr 1
 obtain⟨d⟩:=g
 rw[ByteArray.toList_mk]
 have h':k<d.toList.length:=by rw[Array.length_toList];exact h
 rw[List.take_add_one,List.getElem?_eq_getElem h']
 rfl
theorem Oq (g:ByteArray):Zf.lZ (g.toList.take g.size)=Zf.numOf g:=by
 obtain⟨d⟩:=g
 unfold Zf.numOf
 rw[ByteArray.toList_mk]
 congr 1
 exact List.take_of_length_le (by simp[ByteArray.size])
end Go.Proofs.YthfjnfcekeknlabGreatDoor
namespace Zf
def dQ (ns:List (List UInt8)) (x:List UInt8):List (List UInt8):=if x∈ns then ns else ns++[x]
def argS:List (List UInt8)→List UInt8
 | []=>[]
 | x :: xs=>40 :: x++xs.flatMap (fun y=>44 :: y)++[41]
def strF:Nat→List (List UInt8)→Tm→List UInt8
 | 0,_,_=>[]
 | f+1,N,t=>if t.kind=3 then 86 :: Go.Lib.decDigits (N.idxOf t.text.toList)else if t.kind=4 then Go.Lib.decDigits (numOf t.text)else t.text.toList++argS (t.args.map (strF f N))
def namesF:Nat→List (List UInt8)→Tm→List (List UInt8)
 | 0,ns,_=>ns
 | f+1,ns,t=>if t.kind=3 then dQ ns t.text.toList else if t.kind=4 then ns else t.args.foldl (namesF f) ns
def ny:Nat→Tm→Prop
 | 0,_=>False
 | f+1,t=>t.text.size≤240∧t.args.length≤3∧(t.kind=4→t.text.size≤6)∧∀a∈t.args,ny f a
theorem A4 (ns:List (List UInt8)) (x:List UInt8):∃M,dQ ns x=ns++M∧M.length≤1:=by
 unfold dQ
 by_cases h:x∈ns
 ·rw[if_pos h];exact⟨[],by simp,by simp⟩
 ·rw[if_neg h];exact⟨[x],rfl,by simp⟩
theorem Kr (ns M:List (List UInt8)) (x:List UInt8):(dQ ns x++M).idxOf x=ns.idxOf x:=by
 unfold dQ
 by_cases h:x∈ns
 ·rw[if_pos h,List.idxOf_append,if_pos h]
 ·rw[if_neg h,List.append_assoc,List.idxOf_append,if_neg h]
  simp[List.idxOf_eq_length h]
theorem A5 {F:List (List UInt8)→Tm→List (List UInt8)} {c:Nat}:∀(ts:List Tm),(∀t∈ts,∀ns,∃M,F ns t=ns++M∧M.length≤c)→∀ns,∃M,ts.foldl F ns=ns++M∧M.length≤ts.length*c
 | [],_,ns=>⟨[],by simp,by simp⟩
 | t :: ts,h,ns=>by
  obtain⟨M,hM,hl⟩:=h t (by simp) ns
  obtain⟨M2,hM2,hl2⟩:=A5 ts (fun u hu=>h u (by simp[hu])) (F ns t)
  refine⟨M++M2,by rw[List.foldl_cons,hM2,hM,List.append_assoc],?_⟩
  rw[List.length_append,List.length_cons,Nat.add_mul]
  omega
theorem namesF_ext:∀(f:Nat) (t:Tm),ny f t→∀ns,∃M,namesF f ns t=ns++M∧M.length≤3 ^ f
 | 0,_,h,_=>h.elim
 | f+1,t,h,ns=>by
  obtain⟨h1,h2,h3,h4⟩:=h
  unfold namesF
  by_cases hk:t.kind=3
  ·rw[if_pos hk]
   obtain⟨M,hM,hl⟩:=A4 ns t.text.toList
   exact⟨M,hM,Nat.le_trans hl (Nat.one_le_pow _ _ (by omega))⟩
  ·rw[if_neg hk]
   by_cases hk4:t.kind=4
   ·rw[if_pos hk4]
    exact⟨[],by simp,Nat.zero_le _⟩
   rw[if_neg hk4]
   obtain⟨M,hM,hl⟩:=A5 (c:=3 ^ f) t.args (fun u hu=>namesF_ext f u (h4 u hu)) ns
   refine⟨M,hM,Nat.le_trans hl ?_⟩
   rw[Nat.pow_succ,Nat.mul_comm]
   exact Nat.mul_le_mul_left _ h2
def argP:List (List UInt8)→List UInt8
 | []=>[]
 | x :: xs=>40 :: x++xs.flatMap (fun y=>44 :: y)
theorem Ks {c:Nat}:∀(l:List (List UInt8)),(∀x∈l,x.length≤c)→(argP l).length≤l.length*(c+1)
 | [],_=>by simp[argP]
 | x :: xs,h=>by
  have h1:=h x (by simp)
  have:∀(ys:List (List UInt8)),(∀y∈ys,y.length≤c)→(ys.flatMap (fun y=>44 :: y)).length≤ys.length*(c+1):=by
   intro ys
   induction ys with
   | nil=>intro _;simp
   | cons y ys ih=>
    intro h
    have a:=h y (by simp)
    have b:=ih (fun z hz=>h z (by simp[hz]))
    rw[List.flatMap_cons,List.length_append,List.length_cons,List.length_cons,Nat.add_mul]
    omega
  have h2:=this xs (fun y hy=>h y (by simp[hy]))
  simp only[argP,List.cons_append,List.length_cons,List.length_append,Nat.add_mul]
  omega
theorem nA (b:ByteArray):b.toList.length=b.size:=by
 obtain⟨d⟩:=b
 rw[Go.ByteArray.toList_mk]
 simp[ByteArray.size]
def wfK:Nat→Tm→Prop
 | 0,_=>False
 | f+1,t=>(t.kind=2∨t.kind=3∨t.kind=4)∧(t.kind≠2→t.args=[])∧t.args.length≤3∧∀a∈t.args,wfK f a
theorem A6 {Q:Tm→Prop} {p:List Tok→dP Tm} (hp:∀l t l1,p l= .inr (t,l1)→Q t):∀(k:Nat) (l:List Tok) (ts:List Tm) (l2:List Tok),bN p k l= .inr (ts,l2)→(∀t∈ts,Q t)∧ts.length≤k+1:=by
 intro k
 induction k with
 | zero=>
  intro l ts l2 h
  unfold bN at h
  rcases hq:p l with e | ⟨t,l1⟩
  ·rw[hq]at h;cases h
  ·rw[hq]at h
   dsimp only at h
   by_cases h1:sees l1 [44]=true
   ·rw[if_pos h1]at h;cases h
   ·rw[if_neg h1]at h
    by_cases h2:sees l1 [41]=true
    ·rw[if_pos h2]at h
     cases h
     refine⟨fun x hx=> ?_,by simp⟩
     obtain rfl:x=t:=by simpa using hx
     exact hp _ _ _ hq
    ·rw[if_neg h2]at h;cases h
 | succ k ih=>
  intro l ts l2 h
  rw[bN]at h
  rcases hq:p l with e | ⟨t,l1⟩
  ·rw[hq]at h;cases h
  ·rw[hq]at h
   dsimp only at h
   by_cases h1:sees l1 [44]=true
   ·rw[if_pos h1]at h
    rcases hr:bN p k l1.tail with e | ⟨us,l3⟩
    ·rw[hr]at h;cases h
    ·rw[hr]at h
     cases h
     obtain⟨i1,i2⟩:=ih _ _ _ hr
     refine⟨fun x hx=> ?_,by simpa using i2⟩
     rcases List.mem_cons.1 hx with rfl | hx
     ·exact hp _ _ _ hq
     ·exact i1 x hx
   ·rw[if_neg h1]at h
    by_cases h2:sees l1 [41]=true
    ·rw[if_pos h2]at h
     cases h
     refine⟨fun x hx=> ?_,by simp⟩
     obtain rfl:x=t:=by simpa using hx
     exact hp _ _ _ hq
    ·rw[if_neg h2]at h;cases h
theorem wfK_term:∀(f:Nat) (l:List Tok) (t:Tm) (l1:List Tok),term f l= .inr (t,l1)→wfK f t:=by
 intro f
 induction f with
 | zero=>intro l t l1 h;rw[term]at h;split at h<;>cases h
 | succ f ih=>
  intro l t l1 h
  rw[term]at h
  by_cases hb:begins (hd l)=true
  ·rw[if_pos hb]at h
   by_cases hc:(hd l).kind=4∧6<(hd l).text.size
   ·rw[if_pos hc]at h;cases h
   ·rw[if_neg hc]at h
    by_cases h2:(hd l).kind=2
    ·rw[if_pos h2]at h
     by_cases hs:sees l.tail [40]=true
     ·rw[if_pos hs]at h
      rcases hq:bN (term f) 2 l.tail.tail with x | ⟨us,l2⟩
      ·rw[hq]at h;cases h
      ·rw[hq]at h;cases h
       obtain⟨i1,i2⟩:=A6 ih _ _ _ _ hq
       exact⟨Or.inl rfl,fun q=>absurd rfl q,i2,i1⟩
     ·rw[if_neg hs]at h;cases h
      exact⟨Or.inl rfl,fun q=>absurd rfl q,by simp,fun a ha=>by cases ha⟩
    ·rw[if_neg h2]at h;cases h
     refine⟨?_,fun _=>rfl,by simp,fun a ha=>by cases ha⟩
     unfold begins at hb
     simp at hb
     rcases hb with(h3 | h3) | h3
     ·exact Or.inl h3
     ·exact Or.inr (Or.inl h3)
     ·exact Or.inr (Or.inr h3)
  ·rw[if_neg hb]at h;cases h
theorem Kt (l:List (List UInt8)) (x:List UInt8):(dQ l x).length≤l.length+1:=by
 unfold dQ;split<;>simp
theorem namesK_len:∀(f:Nat) (t:Tm) (ns:List (List UInt8)),wfK f t→(namesF f ns t).length≤ns.length+3 ^ f
 | 0,_,_,h=>h.elim
 | f+1,t,ns,⟨_,_,h3,h4⟩=>by
  have hp:1≤3 ^ f:=Nat.one_le_pow _ _ (by omega)
  have hq:3 ^ (f+1)=3*3 ^ f:=by rw[Nat.pow_succ,Nat.mul_comm]
  unfold namesF
  split
  ·have:=Kt ns t.text.toList;omega
  ·split
   ·omega
   ·have:∀(ts:List Tm) (ns:List (List UInt8)),(∀u∈ts,wfK f u)→(ts.foldl (namesF f) ns).length≤ns.length+ts.length*3 ^ f:=by
     intro ts
     induction ts with
     | nil=>intro ns _;simp
     | cons u ts ih=>
      intro ns h
      have q1:=namesK_len f u ns (h u (by simp))
      have q2:=ih (namesF f ns u) (fun v hv=>h v (by simp[hv]))
      rw[List.foldl_cons,List.length_cons,Nat.add_mul]
      omega
    have q:=this t.args ns h4
    have h5:=Nat.mul_le_mul_right (3 ^ f) h3
    omega
theorem Fp {l:List (List UInt8)} {x:List UInt8} (h:l.Nodup):(dQ l x).Nodup:=by
 unfold dQ
 split
 ·exact h
 ·rename_i q
  rw[List.nodup_append]
  refine⟨h,by simp,?_⟩
  intro a ha b hb e
  obtain rfl:b=x:=by simpa using hb
  subst e
  exact q ha
theorem namesV_ext:∀(f:Nat) (t:Tm) (ns:List (List UInt8)),∃K,namesF f ns t=ns++K
 | 0,_,ns=>⟨[],by simp[namesF]⟩
 | f+1,t,ns=>by
  unfold namesF
  split
  ·obtain⟨M,hM,_⟩:=A4 ns t.text.toList
   exact⟨M,hM⟩
  ·split
   ·exact⟨[],by simp⟩
   ·have:∀(ts:List Tm) (ns:List (List UInt8)),∃K,ts.foldl (namesF f) ns=ns++K:=by
     intro ts
     induction ts with
     | nil=>exact fun ns=>⟨[],by simp⟩
     | cons u ts ih=>
      intro ns
      obtain⟨K,hK⟩:=namesV_ext f u ns
      obtain⟨K2,hK2⟩:=ih (namesF f ns u)
      exact⟨K++K2,by rw[List.foldl_cons,hK2,hK,List.append_assoc]⟩
    exact this t.args ns
theorem qO (f:Nat) (ts:List Tm) (ns:List (List UInt8)):∃K,ts.foldl (namesF f) ns=ns++K:=by
 induction ts generalizing ns with
 | nil=>exact⟨[],by simp⟩
 | cons u ts ih=>
  obtain⟨K,hK⟩:=namesV_ext f u ns
  obtain⟨K2,hK2⟩:=ih (namesF f ns u)
  exact⟨K++K2,by rw[List.foldl_cons,hK2,hK,List.append_assoc]⟩
theorem namesF_nodup:∀(f:Nat) (t:Tm) (ns:List (List UInt8)),ns.Nodup→(namesF f ns t).Nodup
 | 0,t,ns,h=>by
  unfold namesF
  exact h
 | f+1,t,ns,h=>by
  have fold:∀(ts:List Tm) (ns:List (List UInt8)),ns.Nodup→(ts.foldl (namesF f) ns).Nodup:=by
   intro ts
   induction ts with
   | nil=>intro ns h;exact h
   | cons u ts ih=>intro ns h;exact ih _ (namesF_nodup f u ns h)
  unfold namesF
  split
  ·exact Fp h
  ·split
   ·exact h
   ·exact fold _ _ h
end Zf
namespace Zf
open Go
theorem oW (s:ByteArray):s.data.toList.length=s.size:=by rw[←Lib.size_eq]
theorem get_eq {s:ByteArray} {i:Nat} (h:i<s.size):s.data.toList[i]'(by rw[oW];exact h)=s[i]:=by
 simp;rfl
theorem PL {s:ByteArray} {i:Nat} (h:i+1<s.size) (a b:UInt8):((s.extract i (i+2)).toList == [a,b])=(bU s i == a.toNat&&bU s (i+1) == b.toNat):=by
 have hl:=oW s
 rw[Lib.extract_toList,show i+2 - i=2 by omega,ig (by omega),ig h]
 rw[List.drop_eq_getElem_cons (by omega),List.drop_eq_getElem_cons (by omega)]
 simp only[List.take_succ_cons,List.take_zero]
 rw[get_eq (by omega),get_eq h,Bool.eq_iff_iff]
 simp[UInt8.toNat_inj]
def from_ (s:ByteArray) (i:Nat):ByteArray:=s.extract i s.size
theorem nB {s:ByteArray} {i:Nat}:(from_ s i).size=s.size - i:=by simp[from_,ByteArray.size_extract]
theorem qP {s:ByteArray} {i j:Nat}:bU (from_ s i) j=bU s (i+j):=by
 unfold bU
 by_cases h:j<s.size - i
 ·rw[dif_pos (by simpa [from_,ByteArray.size_extract] using h),dif_pos (by omega)]
  simp[from_,ByteArray.getElem_extract]
 ·rw[dif_neg (by simpa [from_,ByteArray.size_extract] using h),dif_neg (by omega)]
theorem Fq {s:ByteArray} {k i n j:Nat}:jP (from_ s i) k n j+i=jP s k n (i+j):=by
 induction n generalizing j with
 | zero=>simp[jP];omega
 | succ n ih=>
  rw[jP,jP,qP,nB]
  by_cases h:i+j<s.size∧dC k (bU s (i+j))=true
  ·rw[if_pos h,if_pos ⟨by omega,h.2⟩,ih];rfl
  ·rw[if_neg h,if_neg (by intro q;exact h ⟨by omega,q.2⟩)];omega
theorem A7 {s:ByteArray} {k i:Nat}:cY (from_ s i) k 0+i=cY s k i:=by
 unfold cY
 rw[nB,Fq,Nat.sub_zero];rfl
theorem sA {s:ByteArray} {i:Nat}:cM (from_ s i) 0=cM s i:=by
 unfold cM
 rw[qP,qP,nB]
 have e1:(0+1<s.size - i)=(i+1<s.size):=by rw[eq_iff_iff];omega
 have e2:(0<s.size - i)=(i<s.size):=by rw[eq_iff_iff];omega
 simp only[e1,e2,Nat.add_zero,Nat.zero_add]
theorem uW {s:ByteArray} {i:Nat}:aO (from_ s i) 0=aO s i:=by
 unfold aO
 rw[qP,nB,sA]
 have e1:(s.size - i≤0)=(s.size≤i):=by rw[eq_iff_iff];omega
 simp only[e1,Nat.add_zero]
theorem Fs {s:ByteArray} {i:Nat}:cX (from_ s i) 0+i=cX s i:=by
 unfold cX
 rw[uW,sA]
 have:=@A7 s (aO s i) i
 repeat' split
 all_goals omega
theorem A8 {s:ByteArray} {i n:Nat} (h:i+n≤s.size):(from_ s i).extract 0 n=s.extract i (i+n):=by
 unfold from_
 rw[ByteArray.extract_extract,Nat.add_zero,Nat.min_eq_left h]
theorem A9 {s:ByteArray} {i:Nat} (h:i+1<s.size):dx (bU s i) (bU s (i+1))=(((s.extract i (i+2)).toList == [58,45])||((s.extract i (i+2)).toList == [58,61])||((s.extract i (i+2)).toList == [61,61])||((s.extract i (i+2)).toList == [92,61])||((s.extract i (i+2)).toList == [61,60])):=by
 simp only[PL h];rfl
def shorts:List Nat:=[61,60,43,45,42,40,41,44,124,46]
theorem sB (c:Nat):fB c=true↔∃j,j<10∧shorts[j]?=some c:=by
 constructor
 ·intro h
  simp[fB]at h
  rcases h with(((((((((h | h) | h) | h) | h) | h) | h) | h) | h) | h)<;>subst h
  ·exact⟨0,by omega,rfl⟩
  ·exact⟨1,by omega,rfl⟩
  ·exact⟨2,by omega,rfl⟩
  ·exact⟨3,by omega,rfl⟩
  ·exact⟨4,by omega,rfl⟩
  ·exact⟨5,by omega,rfl⟩
  ·exact⟨6,by omega,rfl⟩
  ·exact⟨7,by omega,rfl⟩
  ·exact⟨8,by omega,rfl⟩
  ·exact⟨9,by omega,rfl⟩
 ·rintro⟨j,hj,h⟩
  have hm:=List.mem_of_getElem? h
  simp[shorts]at hm
  rcases hm with h | h | h | h | h | h | h | h | h | h<;>subst h<;>rfl
theorem Fu {s:ByteArray} {i:Nat} (h:i<s.size) (hb:blank (bU s i)=true):next s i=next s (i+1):=by
 unfold next;rw[yT h hb]
theorem G6 {s:ByteArray} {i:Nat} (h:i<s.size) (hb:blank (bU s i)=false):next s i=⟨aO s i,i,s.extract i (cX s i)⟩:=by
 have e:skip s i=i:=pM (by rw[hb];simp)
 have:=@oV s i (by rw[e];exact h)
 rw[e]at this;exact this
theorem yU {s:ByteArray} {i:Nat} (h:i<s.size) (a:low (bU s i)=true):aO s i=2∧cX s i=cY s 2 i:=by
 have e:aO s i=2:=by unfold aO;rw[if_neg (by omega),if_pos a]
 exact⟨e,by unfold cX;rw[e];rfl⟩
theorem Ku {s:ByteArray} {i:Nat} (h:i<s.size) (a:low (bU s i)=false) (b:jc (bU s i)=true):aO s i=3∧cX s i=cY s 3 i:=by
 have e:aO s i=3:=by unfold aO;rw[if_neg (by omega),if_neg (by simp[a]),if_pos b]
 exact⟨e,by unfold cX;rw[e];rfl⟩
theorem Kv {s:ByteArray} {i:Nat} (h:i<s.size) (a:low (bU s i)=false) (b:jc (bU s i)=false) (c:iF (bU s i)=true):aO s i=4∧cX s i=cY s 4 i:=by
 have e:aO s i=4:=by unfold aO;rw[if_neg (by omega),if_neg (by simp[a]),if_neg (by simp[b]),if_pos c]
 exact⟨e,by unfold cX;rw[e];rfl⟩
theorem yV {s:ByteArray} {i:Nat} (h:i<s.size) (a:low (bU s i)=false) (b:jc (bU s i)=false) (c:iF (bU s i)=false) (d:0<cM s i):aO s i=5∧cX s i=i+cM s i:=by
 have e:aO s i=5:=by unfold aO;rw[if_neg (by omega),if_neg (by simp[a]),if_neg (by simp[b]),if_neg (by simp[c]),if_pos d]
 exact⟨e,by unfold cX;rw[e];rfl⟩
end Zf
namespace Zf
theorem ek.len {s:ByteArray}:∀(n p:Nat) (l:List Tok),ek s l→hd l=next s p→s.size - p≤n→l.length≤n+1:=by
 intro n
 induction n with
 | zero=>
  intro p l h hh hn
  match l,h with
  | [t],_=>simp
  | t :: u :: r,h=>
   have ht:t=next s p:=hh
   have h0:t.kind≠0:=h.1
   rw[ht,Ne,lF]at h0
   have:=oI s p
   omega
 | succ n ih=>
  intro p l h hh hn
  match l,h with
  | [t],_=>simp
  | t :: u :: r,h=>
   have ht:t=next s p:=hh
   have h0:t.kind≠0:=h.1
   have hu:u=next s (t.pos+t.text.size):=h.2.1
   rw[ht,Ne,lF]at h0
   have h1:=oI s p
   have h2:=oU (s:=s) (i:=skip s p) (by omega)
   have h3:t.pos+t.text.size=cX s (skip s p):=by rw[ht];exact nk (by omega)
   have:=ih (t.pos+t.text.size) (u :: r) h.2.2 hu (by omega)
   simp only[List.length_cons]at this⊢
   omega
theorem DY (s:ByteArray):∃L,ek s L∧hd L=next s 0∧(s.size≤240→L.length≤1000):=by
 obtain⟨l,hl⟩:=Kk s s.size 0 (by omega)
 exact⟨_,hl,rfl,fun hs=>by have:=hl.len s.size 0 _ rfl (by omega);omega⟩
end Zf
namespace Go.Proofs.YthfjnfcekeknlabGreatDoor
open Go.RowKit
theorem hide {p:Prop} (h:p):Hid p:=h
theorem ae {p:Prop} (h:Hid p):p:=h
theorem cN {a b:Bool} (h:a=b):Ending.returned (.bool a)= .returned (.bool b):=by rw[h]
theorem cP {k:IntKind} {a b:Int} (h:a=b):Ending.returned (.int k a)= .returned (.int k b):=by rw[h]
theorem uX (c:Nat) (w:World):Calls Tryz.prog 101 #[.int .u8 (c:Int)] w fun e w'=>e= .returned (.bool (Zf.blank c))∧w'=w:=by
 by_cases h1:c=32
 ·subst h1
  go_enter Tryz.func101,Tryz.ntmps101
  go_wp2
  go_ret
  exact⟨rfl,rfl⟩
 ·have e1:((c:Int) == 32)=false:=by simp;omega
  by_cases h2:c=10
  ·subst h2
   go_enter Tryz.func101,Tryz.ntmps101
   go_wp2
   go_ret
   exact⟨rfl,rfl⟩
  ·have e2:((c:Int) == 10)=false:=by simp;omega
   go_enter Tryz.func101,Tryz.ntmps101
   go_wp2
   go_ret
   exact⟨by simp[Zf.blank,h1,h2],rfl⟩
theorem iw (c:Nat) (w:World):Calls Tryz.prog 102 #[.int .u8 (c:Int)] w fun e w'=>e= .returned (.bool (Zf.low c))∧w'=w:=by
 by_cases h1:97≤c
 all_goals
  go_enter Tryz.func102,Tryz.ntmps102
  go_wp2
  go_ret
  exact⟨cN (by rw[Bool.eq_iff_iff];simp[Zf.low];omega),rfl⟩
theorem jd (c:Nat) (w:World):Calls Tryz.prog 103 #[.int .u8 (c:Int)] w fun e w'=>e= .returned (.bool (Zf.jc c))∧w'=w:=by
 by_cases h1:65≤c
 all_goals
  go_enter Tryz.func103,Tryz.ntmps103
  go_wp2
  go_ret
  exact⟨cN (by rw[Bool.eq_iff_iff];simp[Zf.jc];omega),rfl⟩
theorem jl (c:Nat) (w:World):Calls Tryz.prog 104 #[.int .u8 (c:Int)] w fun e w'=>e= .returned (.bool (Zf.iF c))∧w'=w:=by
 by_cases h1:48≤c
 all_goals
  go_enter Tryz.func104,Tryz.ntmps104
  go_wp2
  go_ret
  exact⟨cN (by rw[Bool.eq_iff_iff];simp[Zf.iF];omega),rfl⟩
theorem wS (k c:Nat) (w:World):Calls Tryz.prog 152 #[.int .i64 (k:Int),.int .u8 (c:Int)] w fun e w'=>e= .returned (.bool (Zf.dC k c))∧w'=w:=by
 by_cases h2:k=2
 ·subst h2
  cases hl:Zf.low c
  all_goals
   go_enter Tryz.func152,Tryz.ntmps152
   go_wp2_with (first | (go_at_call 102;refine(iw _ _).mono ?_;rintro e w' ⟨rfl,rfl⟩) | (go_at_call 104;refine(jl _ _).mono ?_;rintro e w' ⟨rfl,rfl⟩))
   go_ret
   exact⟨cN (by simp[Zf.dC,hl]),rfl⟩
 ·have e2:((k:Int) == 2)=false:=by simp;omega
  by_cases h3:k=3
  ·subst h3
   cases hl:Zf.low c<;>cases hd:Zf.iF c
   all_goals
    go_enter Tryz.func152,Tryz.ntmps152
    go_wp2_with (first | (go_at_call 102;refine(iw _ _).mono ?_;rintro e w' ⟨rfl,rfl⟩) | (go_at_call 104;refine(jl _ _).mono ?_;rintro e w' ⟨rfl,rfl⟩) | (go_at_call 103;refine(jd _ _).mono ?_;rintro e w' ⟨rfl,rfl⟩))
    go_ret
    exact⟨cN (by simp[Zf.dC,hl,hd]),rfl⟩
  ·have e3:((k:Int) == 3)=false:=by simp;omega
   go_enter Tryz.func152,Tryz.ntmps152
   go_wp2_with (first | (go_at_call 104;refine(jl _ _).mono ?_;rintro e w' ⟨rfl,rfl⟩))
   go_ret
   exact⟨cN (by simp[Zf.dC,h2,h3]),rfl⟩
theorem qx (s:ByteArray) (p:Nat) (w:World) (hs:s.size≤maxLen) (hp:p≤s.size):
 Calls Tryz.prog 57 #[.string s,.int .i64 (p:Int)] w fun e w'=>e= .returned (.int .i64 ((Zf.skip s p:Nat):Int))∧w'=w:=by
 unfold maxLen at hs
 go_enter Tryz.func57,Tryz.ntmps57
 go_wp2
 go_loop [5] (fun i=>∃k:Nat,k≤s.size∧Hid (Zf.skip s k=Zf.skip s p)∧i= .int .i64 k) (fun i=>s.size - (intOf i).toNat)
 case atStart=>exact⟨p,hp,rfl,rfl⟩
 case round=>
  obtain⟨k,hk,hsk,rfl⟩:=hrel
  by_cases hlt:k<s.size
  ·cases hb:Zf.blank (s[k].toNat)
   ·have hst:Hid (Zf.skip s p=k):=by rw[←hsk.out];exact Zf.pM (by rw[Zf.ig hlt,hb];simp)
    go_wp2_with (go_at_call 101;refine(uX _ _).mono ?_;rintro e w' ⟨rfl,rfl⟩)
    go_ret
    exact⟨cP (by rw[hst.out]),rfl⟩
   ·have hst:Hid (Zf.skip s (k+1)=Zf.skip s p):=by rw[←hsk.out];exact(Zf.yT hlt (by rw[Zf.ig hlt,hb])).symm
    go_wp2_with (go_at_call 101;refine(uX _ _).mono ?_;rintro e w' ⟨rfl,rfl⟩)
    go_round
    case rel=>exact⟨k+1,by omega,hst,by go_num⟩
    case measure=>simp[intOf];omega
  ·have hst:Hid (Zf.skip s p=k):=by rw[←hsk.out];exact Zf.pM (by omega)
   go_wp2
   go_ret
   exact⟨cP (by rw[hst.out]),rfl⟩
theorem mN (k:Nat) (s:ByteArray) (w:World) (hs:s.size≤maxLen):
 Calls Tryz.prog 106 #[.int .i64 (k:Int),.string s] w fun e w'=>e= .returned (.int .i64 ((Zf.cY s k 0:Nat):Int))∧w'=w:=by
 unfold maxLen at hs
 go_enter Tryz.func106,Tryz.ntmps106
 go_wp2
 go_loop [5] (fun i=>∃j:Nat,j≤s.size∧Hid (Zf.cY s k j=Zf.cY s k 0)∧i= .int .i64 j) (fun i=>s.size - (intOf i).toNat)
 case atStart=>exact⟨0,by omega,rfl,rfl⟩
 case round=>
  obtain⟨j,hj,hsk,rfl⟩:=hrel
  by_cases hlt:j<s.size
  ·cases hb:Zf.dC k (s[j].toNat)
   ·have hst:Hid (Zf.cY s k 0=j):=by rw[←hsk.out];exact Zf.oQ (by rw[Zf.ig hlt,hb];simp)
    go_wp2_with (go_at_call 152;refine(wS _ _ _).mono ?_;rintro e w' ⟨rfl,rfl⟩)
    go_ret
    exact⟨cP (by rw[hst.out]),rfl⟩
   ·have hst:Hid (Zf.cY s k (j+1)=Zf.cY s k 0):=by rw[←hsk.out];exact(Zf.oP hlt (by rw[Zf.ig hlt,hb])).symm
    go_wp2_with (go_at_call 152;refine(wS _ _ _).mono ?_;rintro e w' ⟨rfl,rfl⟩)
    go_round
    case rel=>exact⟨j+1,by omega,hst,by go_num⟩
    case measure=>simp[intOf];omega
  ·have hst:Hid (Zf.cY s k 0=j):=by rw[←hsk.out];exact Zf.oQ (by omega)
   go_wp2
   go_ret
   exact⟨cP (by rw[hst.out]),rfl⟩
structure dK (w:World):Prop where
 s0:w.cell? ⟨0,0,none⟩=some (.string ⟨#[58,45]⟩)
 s1:w.cell? ⟨0,1,none⟩=some (.string ⟨#[58,61]⟩)
 s2:w.cell? ⟨0,2,none⟩=some (.string ⟨#[61,61]⟩)
 s3:w.cell? ⟨0,3,none⟩=some (.string ⟨#[92,61]⟩)
 s4:w.cell? ⟨0,4,none⟩=some (.string ⟨#[61,60]⟩)
theorem kH {r:ByteArray} (h:2≤r.size) (hl:Zf.dx (Zf.bU r 0) (Zf.bU r 1)=true):Zf.cM r 0=2:=by
 unfold Zf.cM;rw[if_pos ⟨by omega,hl⟩]
theorem uY {r:ByteArray} (h:0<r.size) (hl:2≤r.size→Zf.dx (Zf.bU r 0) (Zf.bU r 1)=false) (hs:Zf.fB (Zf.bU r 0)=true):Zf.cM r 0=1:=by
 unfold Zf.cM;rw[if_neg (by rintro⟨a,b⟩;rw[hl (by omega)]at b;cases b),if_pos ⟨h,hs⟩]
theorem sD {r:ByteArray} (hl:2≤r.size→Zf.dx (Zf.bU r 0) (Zf.bU r 1)=false) (hs:0<r.size→Zf.fB (Zf.bU r 0)=false):Zf.cM r 0=0:=by
 unfold Zf.cM;rw[if_neg (by rintro⟨a,b⟩;rw[hl (by omega)]at b;cases b),if_neg (by rintro⟨a,b⟩;rw[hs a]at b;cases b)]
def shortB:ByteArray:=⟨#[61,60,43,45,42,40,41,44,124,46]⟩
theorem yX (k:Nat) (h:k<shortB.size):Zf.shorts[k]?=some (shortB[k]'h).toNat:=by
 have h':k<10:=h
 rcases(show k=0∨k=1∨k=2∨k=3∨k=4∨k=5∨k=6∨k=7∨k=8∨k=9 by omega)with rfl | rfl | rfl | rfl | rfl | rfl | rfl | rfl | rfl | rfl<;>rfl
theorem yY {r:ByteArray} {k:Nat} (h0:0<r.size) (hk:k<shortB.size) (h:(((r[0]'h0).toNat:Int) == ((shortB[k]'hk).toNat:Int))=true):Zf.fB (Zf.bU r 0)=true:=by
 rw[Zf.sB]
 refine⟨k,hk,?_⟩
 rw[yX k hk,Zf.ig h0]
 have:((r[0]'h0).toNat:Int)=((shortB[k]'hk).toNat:Int):=by simpa using h
 rw[show (r[0]'h0).toNat=(shortB[k]'hk).toNat by omega]
theorem wT {r:ByteArray} {k:Nat} (h0:0<r.size) (hk:k<shortB.size) (h:(((r[0]'h0).toNat:Int) == ((shortB[k]'hk).toNat:Int))=false) (ho:∀j,j<k→Zf.shorts[j]?≠some (Zf.bU r 0)):∀j,j<k+1→Zf.shorts[j]?≠some (Zf.bU r 0):=by
 intro j hj e
 by_cases hjk:j<k
 ·exact ho j hjk e
 ·obtain rfl:j=k:=by omega
  rw[yX j hk,Zf.ig h0]at e
  have e':=Option.some.inj e
  simp[e']at h
theorem wU {c k:Nat} (h:¬k<10) (ho:∀j,j<k→Zf.shorts[j]?≠some c):Zf.fB c=false:=by
 cases hs:Zf.fB c with
 | false=>rfl
 | true=>
  obtain⟨j,hj,e⟩:=(Zf.sB c).1 hs
  exact absurd e (ho j (by omega))
theorem sF {r:ByteArray} (h:0<r.size):r.toList.isEmpty=false:=by
 rw[ByteArray.toList_eq]
 cases hx:r.data.toList with
 | nil=>have:=Zf.oW r;rw[hx]at this;simp at this;omega
 | cons=>rfl
theorem mO (r:ByteArray) (w:World) (hr:r.size≤maxLen) (h:dK w):Calls Tryz.prog 105 #[.string r] w fun e w'=>e= .returned (.int .i64 ((Zf.cM r 0:Nat):Int))∧∃n,w'=w.drewN n:=by
 obtain⟨s0,s1,s2,s3,s4⟩:=h
 unfold maxLen at hr
 have i0:∀w,(Instr.index 217 (.agg #[.string ⟨#[58,45]⟩,.string ⟨#[58,61]⟩,.string ⟨#[61,61]⟩,.string ⟨#[92,61]⟩,.string ⟨#[61,60]⟩]) (.int .i64 0)).run Tryz.prog w= .ok (.string ⟨#[58,45]⟩) w:=fun _=>by kernel_rfl
 have i1:∀w,(Instr.index 217 (.agg #[.string ⟨#[58,45]⟩,.string ⟨#[58,61]⟩,.string ⟨#[61,61]⟩,.string ⟨#[92,61]⟩,.string ⟨#[61,60]⟩]) (.int .i64 1)).run Tryz.prog w= .ok (.string ⟨#[58,61]⟩) w:=fun _=>by kernel_rfl
 have i2:∀w,(Instr.index 217 (.agg #[.string ⟨#[58,45]⟩,.string ⟨#[58,61]⟩,.string ⟨#[61,61]⟩,.string ⟨#[92,61]⟩,.string ⟨#[61,60]⟩]) (.int .i64 2)).run Tryz.prog w= .ok (.string ⟨#[61,61]⟩) w:=fun _=>by kernel_rfl
 have i3:∀w,(Instr.index 217 (.agg #[.string ⟨#[58,45]⟩,.string ⟨#[58,61]⟩,.string ⟨#[61,61]⟩,.string ⟨#[92,61]⟩,.string ⟨#[61,60]⟩]) (.int .i64 3)).run Tryz.prog w= .ok (.string ⟨#[92,61]⟩) w:=fun _=>by kernel_rfl
 have i4:∀w,(Instr.index 217 (.agg #[.string ⟨#[58,45]⟩,.string ⟨#[58,61]⟩,.string ⟨#[61,61]⟩,.string ⟨#[92,61]⟩,.string ⟨#[61,60]⟩]) (.int .i64 4)).run Tryz.prog w= .ok (.string ⟨#[61,60]⟩) w:=fun _=>by kernel_rfl
 have LS:Hid (2≤r.size→Zf.dx (Zf.bU r 0) (Zf.bU r 1)=(((r.extract 0 2).toList == [58,45])||((r.extract 0 2).toList == [58,61])||((r.extract 0 2).toList == [61,61])||((r.extract 0 2).toList == [92,61])||((r.extract 0 2).toList == [61,60]))):=fun h=>Zf.A9 (i:=0) (by omega)
 by_cases h2:2≤r.size
 ·cases b0:((r.extract 0 2).toList == [58,45])
  ·cases b1:((r.extract 0 2).toList == [58,61])
   ·cases b2:((r.extract 0 2).toList == [61,61])
    ·cases b3:((r.extract 0 2).toList == [92,61])
     ·cases b4:((r.extract 0 2).toList == [61,60])
      ·have LN:Hid (Zf.dx (Zf.bU r 0) (Zf.bU r 1)=false):=by rw[Hid,LS.out h2,b0,b1,b2,b3,b4];rfl
       go_enter Tryz.func105,Tryz.ntmps105
       go_wp2
       refine wp_loop_rounds 6 ?_
       rw[rounds_succ]
       go_wp2
       rw[rounds_succ]
       go_wp2
       rw[rounds_succ]
       go_wp2
       rw[rounds_succ]
       go_wp2
       rw[rounds_succ]
       go_wp2
       rw[rounds_succ]
       go_wp2
       clear i0 i1 i2 i3 i4 b0 b1 b2 b3 b4
       go_loopw [5] (fun i wr=>∃k n:Nat,k≤10∧i= .int .i64 k∧wr=w.drewN n∧Hid (∀j,j<k→Zf.shorts[j]?≠some (Zf.bU r 0))) (fun i _=>10 - (intOf i).toNat)
       case atStart=>exact⟨0,0,by omega,rfl,rfl,fun j h=>absurd h (Nat.not_lt_zero _)⟩
       case round=>
        obtain⟨k,n,hk,rfl,rfl,hno⟩:=hrel
        by_cases hlt:k<10
        ·by_cases h0:0<r.size
         ·have hE:=sF h0
          have HM:Hid (∀hk:k<shortB.size,(((r[0]'h0).toNat:Int) == ((shortB[k]'hk).toNat:Int))=false→∀j,j<k+1→Zf.shorts[j]?≠some (Zf.bU r 0)):=fun hk h=>wT h0 hk h hno.out
          go_wp2
          go_big_region
          go_wp2
          ·go_ret
           exact⟨cP (by rw[uY h0 (fun _=>LN.out) (yY (k:=k) h0 hlt (by assumption))];rfl),n+1,rfl⟩
          ·go_roundw
           case rel=>exact⟨k+1,n+1,by omega,by go_num,rfl,HM.out hlt (by assumption)⟩
           case measure=>simp[intOf];omega
         ·exact absurd (show 0<r.size by omega) h0
        ·have hS:Hid (Zf.fB (Zf.bU r 0)=false):=wU hlt hno.out
         go_wp2
         go_ret
         exact⟨cP (by rw[sD (fun _=>LN.out) (fun _=>hS.out)];rfl),n,rfl⟩
      ·have LN:Hid (Zf.dx (Zf.bU r 0) (Zf.bU r 1)=true):=by rw[Hid,LS.out h2,b0,b1,b2,b3,b4];simp
       go_enter Tryz.func105,Tryz.ntmps105
       go_wp2
       refine wp_loop_rounds 6 ?_
       rw[rounds_succ]
       go_wp2
       rw[rounds_succ]
       go_wp2
       rw[rounds_succ]
       go_wp2
       rw[rounds_succ]
       go_wp2
       rw[rounds_succ]
       go_wp2
       go_ret
       exact⟨cP (by rw[kH h2 LN.out];rfl),0,rfl⟩
     ·have LN:Hid (Zf.dx (Zf.bU r 0) (Zf.bU r 1)=true):=by rw[Hid,LS.out h2,b0,b1,b2,b3];simp
      go_enter Tryz.func105,Tryz.ntmps105
      go_wp2
      refine wp_loop_rounds 6 ?_
      rw[rounds_succ]
      go_wp2
      rw[rounds_succ]
      go_wp2
      rw[rounds_succ]
      go_wp2
      rw[rounds_succ]
      go_wp2
      go_ret
      exact⟨cP (by rw[kH h2 LN.out];rfl),0,rfl⟩
    ·have LN:Hid (Zf.dx (Zf.bU r 0) (Zf.bU r 1)=true):=by rw[Hid,LS.out h2,b0,b1,b2];simp
     go_enter Tryz.func105,Tryz.ntmps105
     go_wp2
     refine wp_loop_rounds 6 ?_
     rw[rounds_succ]
     go_wp2
     rw[rounds_succ]
     go_wp2
     rw[rounds_succ]
     go_wp2
     go_ret
     exact⟨cP (by rw[kH h2 LN.out];rfl),0,rfl⟩
   ·have LN:Hid (Zf.dx (Zf.bU r 0) (Zf.bU r 1)=true):=by rw[Hid,LS.out h2,b0,b1];simp
    go_enter Tryz.func105,Tryz.ntmps105
    go_wp2
    refine wp_loop_rounds 6 ?_
    rw[rounds_succ]
    go_wp2
    rw[rounds_succ]
    go_wp2
    go_ret
    exact⟨cP (by rw[kH h2 LN.out];rfl),0,rfl⟩
  ·have LN:Hid (Zf.dx (Zf.bU r 0) (Zf.bU r 1)=true):=by rw[Hid,LS.out h2,b0];simp
   go_enter Tryz.func105,Tryz.ntmps105
   go_wp2
   refine wp_loop_rounds 6 ?_
   rw[rounds_succ]
   go_wp2
   go_ret
   exact⟨cP (by rw[kH h2 LN.out];rfl),0,rfl⟩
 ·have LN:Hid (2≤r.size→Zf.dx (Zf.bU r 0) (Zf.bU r 1)=false):=fun h=>absurd h h2
  go_enter Tryz.func105,Tryz.ntmps105
  go_wp2
  refine wp_loop_rounds 6 ?_
  rw[rounds_succ]
  go_wp2
  rw[rounds_succ]
  go_wp2
  rw[rounds_succ]
  go_wp2
  rw[rounds_succ]
  go_wp2
  rw[rounds_succ]
  go_wp2
  rw[rounds_succ]
  go_wp2
  clear i0 i1 i2 i3 i4 LS
  go_loopw [5] (fun i wr=>∃k n:Nat,k≤10∧i= .int .i64 k∧wr=w.drewN n∧Hid (∀j,j<k→Zf.shorts[j]?≠some (Zf.bU r 0))) (fun i _=>10 - (intOf i).toNat)
  case atStart=>exact⟨0,0,by omega,rfl,rfl,fun j h=>absurd h (Nat.not_lt_zero _)⟩
  case round=>
   obtain⟨k,n,hk,rfl,rfl,hno⟩:=hrel
   by_cases hlt:k<10
   ·by_cases h0:0<r.size
    ·have hE:=sF h0
     have HM:Hid (∀hk:k<shortB.size,(((r[0]'h0).toNat:Int) == ((shortB[k]'hk).toNat:Int))=false→∀j,j<k+1→Zf.shorts[j]?≠some (Zf.bU r 0)):=fun hk h=>wT h0 hk h hno.out
     go_wp2
     go_big_region
     go_wp2
     ·go_ret
      exact⟨cP (by rw[uY h0 LN.out (yY (k:=k) h0 hlt (by assumption))];rfl),n+1,rfl⟩
     ·go_roundw
      case rel=>exact⟨k+1,n+1,by omega,by go_num,rfl,HM.out hlt (by assumption)⟩
      case measure=>simp[intOf];omega
    ·have hE:r.toList.isEmpty=true:=by rw[ByteArray.toList_eq];have:=Zf.oW r;cases hx:r.data.toList with
      | nil=>rfl
      | cons a l=>rw[hx]at this;simp at this;omega
     have HM:Hid (∀j,j<k+1→Zf.shorts[j]?≠some (Zf.bU r 0)):=fun j hj e=>by
      have e0:Zf.bU r 0=0:=by unfold Zf.bU;rw[dif_neg h0]
      rw[e0]at e
      have hm:=List.mem_of_getElem? e
      simp[Zf.shorts]at hm
     go_wp2
     go_big_region
     go_wp2
     go_roundw
     case rel=>exact⟨k+1,n+1,by omega,by go_num,rfl,HM.out⟩
     case measure=>simp[intOf];omega
   ·have hS:Hid (Zf.fB (Zf.bU r 0)=false):=wU hlt hno.out
    go_wp2
    go_ret
    exact⟨cP (by rw[sD LN.out (fun _=>hS.out)];rfl),n,rfl⟩
theorem dK.below {B:Nat} {w w':World} (h:dK w) (hb:Below B w w') (h0:0<B):dK w':=
 ⟨(hb.cell (p:=⟨0,0,none⟩) h0).trans h.s0,(hb.cell (p:=⟨0,1,none⟩) h0).trans h.s1,(hb.cell (p:=⟨0,2,none⟩) h0).trans h.s2,(hb.cell (p:=⟨0,3,none⟩) h0).trans h.s3,(hb.cell (p:=⟨0,4,none⟩) h0).trans h.s4⟩
theorem dK.draws {w:World} (h:dK w) (n:Nat):dK (w.drewN n):=⟨h.s0,h.s1,h.s2,h.s3,h.s4⟩
theorem Ot {r:ByteArray} (h:r.size=0):Zf.aO r 0=0:=by unfold Zf.aO;rw[if_pos (by omega)]
theorem Ou {r:ByteArray} (h:0<r.size) (a:Zf.low (r[0].toNat)=true):Zf.aO r 0=2:=by unfold Zf.aO;rw[if_neg (by omega),Zf.ig h,if_pos a]
theorem Ov {r:ByteArray} (h:0<r.size) (a:Zf.low (r[0].toNat)=false) (b:Zf.jc (r[0].toNat)=true):Zf.aO r 0=3:=by unfold Zf.aO;rw[if_neg (by omega),Zf.ig h,if_neg (by simp[a]),if_pos b]
theorem Ow {r:ByteArray} (h:0<r.size) (a:Zf.low (r[0].toNat)=false) (b:Zf.jc (r[0].toNat)=false) (c:Zf.iF (r[0].toNat)=true):Zf.aO r 0=4:=by unfold Zf.aO;rw[if_neg (by omega),Zf.ig h,if_neg (by simp[a]),if_neg (by simp[b]),if_pos c]
theorem Ox {r:ByteArray} (h:0<r.size) (a:Zf.low (r[0].toNat)=false) (b:Zf.jc (r[0].toNat)=false) (c:Zf.iF (r[0].toNat)=false) (d:0<Zf.cM r 0):Zf.aO r 0=5:=by unfold Zf.aO;rw[if_neg (by omega),Zf.ig h,if_neg (by simp[a]),if_neg (by simp[b]),if_neg (by simp[c]),if_pos d]
theorem Oy {r:ByteArray} (h:0<r.size) (a:Zf.low (r[0].toNat)=false) (b:Zf.jc (r[0].toNat)=false) (c:Zf.iF (r[0].toNat)=false) (d:¬0<Zf.cM r 0):Zf.aO r 0=1:=by unfold Zf.aO;rw[if_neg (by omega),Zf.ig h,if_neg (by simp[a]),if_neg (by simp[b]),if_neg (by simp[c]),if_neg d]
theorem Kw {r:ByteArray} (h:r.size=0):r.toList.isEmpty=true:=by
 rw[ByteArray.toList_eq]
 have:=Zf.oW r
 cases hx:r.data.toList with
 | nil=>rfl
 | cons a l=>rw[hx]at this;simp at this;omega
theorem Fv (r:ByteArray) (w:World) (hr:r.size≤maxLen) (h:dK w):Calls Tryz.prog 58 #[.string r] w fun e w'=>e= .returned (.int .i64 ((Zf.aO r 0:Nat):Int))∧∃n,w'=w.drewN n:=by
 have hr':=hr
 unfold maxLen at hr'
 have H:=h
 by_cases h0:0<r.size
 ·have hE:=sF h0
  cases a:Zf.low (r[0].toNat)
  ·cases b:Zf.jc (r[0].toNat)
   ·cases c:Zf.iF (r[0].toNat)
    ·by_cases d:0<Zf.cM r 0
     ·have K:=hide (Ox h0 a b c d)
      go_enter Tryz.func58,Tryz.ntmps58
      go_wp2_with (first | (go_at_call 102;refine(iw _ _).mono ?_;rintro e w' ⟨rfl,rfl⟩) | (go_at_call 104;refine(jl _ _).mono ?_;rintro e w' ⟨rfl,rfl⟩) | (go_at_call 103;refine(jd _ _).mono ?_;rintro e w' ⟨rfl,rfl⟩) | (go_at_call 105;refine(mO _ _ hr H).mono ?_;rintro e w' ⟨rfl,n,rfl⟩))
      go_ret
      exact⟨cP (by rw[ae K];rfl),n,rfl⟩
     ·have K:=hide (Oy h0 a b c d)
      go_enter Tryz.func58,Tryz.ntmps58
      go_wp2_with (first | (go_at_call 102;refine(iw _ _).mono ?_;rintro e w' ⟨rfl,rfl⟩) | (go_at_call 104;refine(jl _ _).mono ?_;rintro e w' ⟨rfl,rfl⟩) | (go_at_call 103;refine(jd _ _).mono ?_;rintro e w' ⟨rfl,rfl⟩) | (go_at_call 105;refine(mO _ _ hr H).mono ?_;rintro e w' ⟨rfl,n,rfl⟩))
      go_ret
      exact⟨cP (by rw[ae K];rfl),n,rfl⟩
    ·have K:=hide (Ow h0 a b c)
     go_enter Tryz.func58,Tryz.ntmps58
     go_wp2_with (first | (go_at_call 102;refine(iw _ _).mono ?_;rintro e w' ⟨rfl,rfl⟩) | (go_at_call 104;refine(jl _ _).mono ?_;rintro e w' ⟨rfl,rfl⟩) | (go_at_call 103;refine(jd _ _).mono ?_;rintro e w' ⟨rfl,rfl⟩))
     go_ret
     exact⟨cP (by rw[ae K];rfl),0,rfl⟩
   ·have K:=hide (Ov h0 a b)
    go_enter Tryz.func58,Tryz.ntmps58
    go_wp2_with (first | (go_at_call 102;refine(iw _ _).mono ?_;rintro e w' ⟨rfl,rfl⟩) | (go_at_call 103;refine(jd _ _).mono ?_;rintro e w' ⟨rfl,rfl⟩))
    go_ret
    exact⟨cP (by rw[ae K];rfl),0,rfl⟩
  ·have K:=hide (Ou h0 a)
   go_enter Tryz.func58,Tryz.ntmps58
   go_wp2_with (first | (go_at_call 102;refine(iw _ _).mono ?_;rintro e w' ⟨rfl,rfl⟩))
   go_ret
   exact⟨cP (by rw[ae K];rfl),0,rfl⟩
 ·have hE:=Kw (r:=r) (by omega)
  have K:=hide (Ot (r:=r) (by omega))
  go_enter Tryz.func58,Tryz.ntmps58
  go_wp2
  go_ret
  exact⟨cP (by rw[ae K];rfl),0,rfl⟩
theorem Ba (r:ByteArray) (w:World) (hr:r.size≤maxLen) (h:dK w):Calls Tryz.prog 59 #[.int .i64 ((Zf.aO r 0:Nat):Int),.string r] w fun e w'=>e= .returned (.int .i64 ((Zf.cX r 0:Nat):Int))∧∃n,w'=w.drewN n:=by
 have hk:=Zf.G0 r 0
 have KE:Hid (Zf.cX r 0=if Zf.aO r 0=0 then 0 else if Zf.aO r 0=1 then 0+1 else if Zf.aO r 0=5 then 0+Zf.cM r 0 else Zf.cY r (Zf.aO r 0) 0):=rfl
 generalize Zf.aO r 0=k at*
 rcases(show k=0∨k=1∨k=2∨k=3∨k=4∨k=5 by omega)with rfl | rfl | rfl | rfl | rfl | rfl
 ·go_enter Tryz.func59,Tryz.ntmps59
  go_wp2_with fail
  go_ret
  exact⟨cP (by rw[KE.out];rfl),0,rfl⟩
 ·go_enter Tryz.func59,Tryz.ntmps59
  go_wp2_with fail
  go_ret
  exact⟨cP (by rw[KE.out];rfl),0,rfl⟩
 ·go_enter Tryz.func59,Tryz.ntmps59
  go_wp2_with (go_at_call 106;refine(mN 2 _ _ hr).mono ?_;rintro e w' ⟨rfl,rfl⟩)
  go_ret
  exact⟨cP (by rw[KE.out];rfl),0,rfl⟩
 ·go_enter Tryz.func59,Tryz.ntmps59
  go_wp2_with (go_at_call 106;refine(mN 3 _ _ hr).mono ?_;rintro e w' ⟨rfl,rfl⟩)
  go_ret
  exact⟨cP (by rw[KE.out];rfl),0,rfl⟩
 ·go_enter Tryz.func59,Tryz.ntmps59
  go_wp2_with (go_at_call 106;refine(mN 4 _ _ hr).mono ?_;rintro e w' ⟨rfl,rfl⟩)
  go_ret
  exact⟨cP (by rw[KE.out];rfl),0,rfl⟩
 ·go_enter Tryz.func59,Tryz.ntmps59
  go_wp2_with (go_at_call 105;refine(mO _ _ hr h).mono ?_;rintro e w' ⟨rfl,n,rfl⟩)
  go_ret
  exact⟨cP (by rw[KE.out];simp),n,rfl⟩
theorem vL (s:ByteArray) (p:Nat) (w:World) (hs:s.size≤maxLen) (hp:p≤s.size) (h:dK w) (hz:0<w.heap.size):
 Calls Tryz.prog 30 #[.string s,.int .i64 (p:Int)] w fun e w'=>e= .returned (.agg #[.int .i64 ((Zf.next s p).kind:Int),.int .i64 ((Zf.next s p).pos:Int),.string (Zf.next s p).text])∧Below w.heap.size w w':=by
 have hs':=hs
 unfold maxLen at hs'
 have hle:=Zf.Om hp
 have hge:=Zf.oI s p
 by_cases he:Zf.skip s p<s.size
 ·have hS:∀o,dK (w.alloc o):=fun o=>h.below ((Below.refl _ _).alloc (Nat.le_refl _) o) hz
  have hsz:(s.extract (Zf.skip s p) s.size).size≤maxLen:=by rw[←Zf.from_,Zf.nB];omega
  have hN:=hide (Zf.oV he)
  have hK:=hide (@Zf.uW s (Zf.skip s p))
  have hE:=hide (@Zf.Fs s (Zf.skip s p))
  have hEl:=Zf.vI he
  have hEg:=Zf.oU he
  have hX:Hid (∀n:Nat,Zf.skip s p+n≤s.size→(Zf.from_ s (Zf.skip s p)).extract 0 n=s.extract (Zf.skip s p) (Zf.skip s p+n)):=fun n h=>Zf.A8 h
  unfold Zf.from_ at hK hE hX
  go_enter Tryz.func30,Tryz.ntmps30
  go_wp2_with fail
  refine(qx s p _ hs hp).mono ?_
  rintro e w' ⟨rfl,rfl⟩
  go_wp2_with fail
  refine(Fv (s.extract (Zf.skip s p) s.size) _ hsz (hS _)).mono ?_
  rintro e w' ⟨rfl,n,rfl⟩
  go_wp2_with fail
  refine(Ba (s.extract (Zf.skip s p) s.size) _ hsz ((hS _).draws _)).mono ?_
  rintro e w' ⟨rfl,m,rfl⟩
  have hb:Zf.cX (s.extract (Zf.skip s p) s.size) 0+Zf.skip s p=Zf.cX s (Zf.skip s p):=ae hE
  have hb2:Zf.cX (s.extract (Zf.skip s p) s.size) 0≤(s.extract (Zf.skip s p) s.size).size:=by rw[ByteArray.size_extract];omega
  generalize hg:Zf.cX (s.extract (Zf.skip s p) s.size) 0=q at*
  have hg':=hide hg
  clear hg
  have hb':=hide hb
  clear hb
  go_wp2_with fail
  refine bodyPost_ret (v:= .agg #[.int .i64 (Zf.aO (s.extract (Zf.skip s p) s.size) 0:Int),.int .i64 (Zf.skip s p:Int),.string ((s.extract (Zf.skip s p) s.size).extract 0 q)]) (by simp[results,Tryz.results30,go_sem]) rfl ⟨?_,?_⟩
  ·rw[ae hN,ae hK,ae hX q (by rw[ByteArray.size_extract]at hb2;omega),Nat.add_comm,ae hb']
  ·exact(((below_drewN ((Below.refl _ _).alloc (Nat.le_refl _) _) _).setCell (Nat.le_refl _) _).setCell (Nat.le_refl _) _).setCell (Nat.le_refl _) _
 ·have hN:=hide (Zf.vJ (s:=s) (p:=p) (by omega))
  go_enter Tryz.func30,Tryz.ntmps30
  go_wp2_with fail
  refine(qx s p _ hs hp).mono ?_
  rintro e w' ⟨rfl,rfl⟩
  go_wp2_with fail
  refine bodyPost_ret (v:= .agg #[.int .i64 0,.int .i64 (s.size:Int),.string ByteArray.empty]) (by simp[results,Tryz.results30,go_sem];rfl) rfl ⟨?_,?_⟩
  ·rw[ae hN];rfl
  ·exact(Below.refl _ _).alloc (Nat.le_refl _) _
def aM (w:World) (k:Nat):Option TypeId:=match w.heap[k]? with
 | some (.cells _ t _)=>some t
 | _=>none
structure KA (b:Nat) (X:List Nat) (w w':World):Prop where
 os:w'.os=w.os
 tape:w'.tape=w.tape
 output:w'.output=w.output
 size:w.heap.size≤w'.heap.size
 block:∀k,k<w.heap.size→k∉X→(k<b∨aM w k≠some 9)→w'.heap[k]?=w.heap[k]?
theorem KA.refl (b:Nat) (X:List Nat) (w:World):KA b X w w:=⟨rfl,rfl,rfl,Nat.le_refl _,fun _ _ _ _=>rfl⟩
theorem KA.trans {b:Nat} {X:List Nat} {u v w:World} (h:KA b X u v) (k:KA b X v w):KA b X u w:=
 ⟨k.os.trans h.os,k.tape.trans h.tape,k.output.trans h.output,Nat.le_trans h.size k.size,fun i hi hX ht=>by
  have e:=h.block i hi hX ht
  rw[k.block i (Nat.lt_of_lt_of_le hi h.size) hX (by unfold aM at ht⊢;rw[e];exact ht),e]⟩
theorem KA.of_below {b:Nat} {X:List Nat} {w w':World} (h:Below w.heap.size w w'):KA b X w w':=⟨h.os,h.tape,h.output,h.size,fun k hk _ _=>h.block k hk⟩
theorem KA.drew {b:Nat} {X:List Nat} {u w:World} (h:KA b X u w):KA b X u w.drew:=h.trans (KA.of_below (Below.refl _ _).drew)
theorem KA.alloc {b:Nat} {X:List Nat} {u w:World} (h:KA b X u w) (o:Obj):KA b X u (w.alloc o):=h.trans (KA.of_below ((Below.refl _ _).alloc (Nat.le_refl _) o))
theorem KA.fH {b:Nat} {X:List Nat} {u w:World} (h:KA b X u w) {p:Addr} (hp:p.block∈X) (v:Value):KA b X u (w.setCell p v):=
 h.trans ⟨rfl,rfl,rfl,by simp[World.setCell],fun k hk hX _=>Below.heap_setCell _ _ _ _ (fun e=>hX (e ▸ hp))⟩
theorem KA.wV {b:Nat} {X:List Nat} {u w:World} (h:KA b X u w) {p:Addr} (hp:u.heap.size≤p.block) (v:Value):KA b X u (w.setCell p v):=
 ⟨h.os,h.tape,h.output,by have:=h.size;simp[World.setCell];omega,fun k hk hX ht=>(Below.heap_setCell _ _ _ _ (by omega)).trans (h.block k hk hX ht)⟩
theorem KA.mono {b:Nat} {X Y:List Nat} {u w:World} (h:KA b X u w) (hs:∀x∈X,x∈Y):KA b Y u w:=
 ⟨h.os,h.tape,h.output,h.size,fun k hk hY ht=>h.block k hk (fun e=>hY (hs k e)) ht⟩
theorem KA.forget {b:Nat} {X Y:List Nat} {u w:World} (h:KA b Y u w) (hs:∀x∈Y,x∈X∨u.heap.size≤x):KA b X u w:=
 ⟨h.os,h.tape,h.output,h.size,fun k hk hX ht=>h.block k hk (fun e=>(hs k e).elim hX (fun q=>by omega)) ht⟩
theorem KA.cell {b:Nat} {X:List Nat} {w w':World} (h:KA b X w w') {p:Addr} (hp:p.block<w.heap.size) (hX:p.block∉X) (ht:p.block<b∨aM w p.block≠some 9):w'.cell? p=w.cell? p:=World.cell?_of_block (w:=w) (h.block p.block hp hX ht)
theorem KA.frozen {b:Nat} {X:List Nat} {w w':World} (h:KA b X w w') {p:Addr} (hp:p.block<w.heap.size) (hX:p.block∉X) (ht:p.block<b∨aM w p.block≠some 9):w'.frozen? p=w.frozen? p:=World.frozen?_of_block (w:=w) (h.block p.block hp hX ht)
theorem KA.below {b:Nat} {X:List Nat} {w w':World} (h:KA b X w w') {B:Nat} (hB:B≤w.heap.size) (hb:B≤b) (hX:∀x∈X,B≤x):Below B w w':=
 ⟨h.os,h.tape,h.output,h.size,fun k hk=>h.block k (by omega) (fun e=>by have:=hX k e;omega) (Or.inl (by omega))⟩
theorem KA.grown {b:Nat} {X:List Nat} {u w w':World} {row:Option Nat} (h:KA b X u w) (hg:w.grownBy w' row) (hr:∀k,row=some k→u.heap.size≤k∨k∈X∨(b≤k∧aM w k=some 9)):KA b X u w':=
 ⟨hg.os.trans h.os,hg.tape.trans h.tape,hg.output.trans h.output,Nat.le_trans h.size hg.size,fun k hk hX ht=>by
  have e:=h.block k hk hX ht
  rw[hg.block k (Nat.lt_of_lt_of_le hk h.size) (fun q=> ?_),e]
  rcases hr k q.symm with a | a | ⟨a,c⟩
  ·omega
  ·exact hX a
  ·rcases ht with t | t
   ·omega
   ·apply t;unfold aM at c⊢;rw[←e];exact c⟩
theorem dK.ka {b:Nat} {X:List Nat} {w w':World} (h:dK w) (hk:KA b X w w') (h0:0<w.heap.size) (hX:0∉X) (hb:0<b):dK w':=
 ⟨(hk.cell (p:=⟨0,0,none⟩) h0 hX (Or.inl hb)).trans h.s0,(hk.cell (p:=⟨0,1,none⟩) h0 hX (Or.inl hb)).trans h.s1,(hk.cell (p:=⟨0,2,none⟩) h0 hX (Or.inl hb)).trans h.s2,(hk.cell (p:=⟨0,3,none⟩) h0 hX (Or.inl hb)).trans h.s3,(hk.cell (p:=⟨0,4,none⟩) h0 hX (Or.inl hb)).trans h.s4⟩
structure Rd (w:World) (rb:Nat) (s:ByteArray) (t:Zf.Tok) (nv:Value) (e:Int):Prop where
 c0:w.cell? ⟨rb,0,none⟩=some (.string s)
 c1:w.cell? ⟨rb,1,none⟩=some (.int .i64 (t.kind:Int))
 c2:w.cell? ⟨rb,2,none⟩=some (.int .i64 (t.pos:Int))
 c3:w.cell? ⟨rb,3,none⟩=some (.string t.text)
 c4:w.cell? ⟨rb,4,none⟩=some nv
 c5:w.cell? ⟨rb,5,none⟩=some (.int .i64 e)
 f1:w.frozen? ⟨rb,1,none⟩=false
 f2:w.frozen? ⟨rb,2,none⟩=false
 f3:w.frozen? ⟨rb,3,none⟩=false
 f4:w.frozen? ⟨rb,4,none⟩=false
 f5:w.frozen? ⟨rb,5,none⟩=false
theorem Rd.below {B:Nat} {w w':World} {rb:Nat} {s:ByteArray} {t:Zf.Tok} {nv:Value} {e:Int} (h:Rd w rb s t nv e) (hb:Below B w w') (hr:rb<B):Rd w' rb s t nv e:=
 ⟨(hb.cell (p:=⟨rb,0,none⟩) hr).trans h.c0,(hb.cell (p:=⟨rb,1,none⟩) hr).trans h.c1,(hb.cell (p:=⟨rb,2,none⟩) hr).trans h.c2,(hb.cell (p:=⟨rb,3,none⟩) hr).trans h.c3,(hb.cell (p:=⟨rb,4,none⟩) hr).trans h.c4,(hb.cell (p:=⟨rb,5,none⟩) hr).trans h.c5,
  (hb.frozen (p:=⟨rb,1,none⟩) hr).trans h.f1,(hb.frozen (p:=⟨rb,2,none⟩) hr).trans h.f2,(hb.frozen (p:=⟨rb,3,none⟩) hr).trans h.f3,(hb.frozen (p:=⟨rb,4,none⟩) hr).trans h.f4,(hb.frozen (p:=⟨rb,5,none⟩) hr).trans h.f5⟩
structure St (w:World) (rb:Nat) (s:ByteArray) (l:List Zf.Tok) (ns:List ByteArray) (nv:Value) (e:Int):Prop where
 rd:Rd w rb s (Zf.hd l) nv e
 own:w.ownsRow (rb+1) 9 1 nv ns.length (ns.map Value.string)
 chain:Zf.ek s l
 isNext:∃p,Zf.hd l=Zf.next s p
 few:ns.length+l.length≤1000
 short:s.size≤240
 signs:dK w
 pos:0<rb
 lt:rb<w.heap.size
theorem St.below {w w':World} {rb:Nat} {s:ByteArray} {l:List Zf.Tok} {ns:List ByteArray} {nv:Value} {e:Int} (h:St w rb s l ns nv e) (hb:Below w.heap.size w w'):St w' rb s l ns nv e:=
 ⟨h.rd.below hb h.lt,⟨h.own.1,h.own.2.imp id fun⟨g,cap,cur,a,b,c,d⟩=>⟨g,cap,cur,a,b,(hb.block g (by
  have:=Array.getElem?_eq_some_iff.1 c;exact this.1)).trans c,d⟩⟩,h.chain,h.isNext,h.few,h.short,h.signs.below hb (by have:=h.lt;omega),h.pos,by have:=hb.size;have:=h.lt;omega⟩
theorem kJ {w:World} {rb:Nat} {T:TypeId} {sz:Nat} {nv:Value} {n:Nat} {xs:List Value} (h:w.ownsRow (rb+1) T sz nv n xs) (o:Nat) (v:Value):(w.setCell ⟨rb,o,none⟩ v).ownsRow (rb+1) T sz nv n xs:=
 ownsRow_setCell_below h (by show rb<rb+1;omega) v
theorem dK.setCell {w:World} (h:dK w) {p:Addr} (hp:p.block≠0) (v:Value):dK (w.setCell p v):=by
 have k:∀o,(w.setCell p v).cell? ⟨0,o,none⟩=w.cell? ⟨0,o,none⟩:=fun o=>World.cell?_of_block (Below.heap_setCell _ _ _ _ (fun e=>hp e.symm))
 exact⟨(k 0).trans h.s0,(k 1).trans h.s1,(k 2).trans h.s2,(k 3).trans h.s3,(k 4).trans h.s4⟩
structure aq (R R':Nat→Prop) (w w':World):Prop where
 os:w'.os=w.os
 tape:w'.tape=w.tape
 output:w'.output=w.output
 size:w.heap.size≤w'.heap.size
 block:∀k,k<w.heap.size→¬R k→w'.heap[k]?=w.heap[k]?
 row:∀k,R' k→R k∨w.heap.size≤k
theorem aq.of_below {R:Nat→Prop} {w w':World} (h:Below w.heap.size w w'):aq R R w w':=⟨h.os,h.tape,h.output,h.size,fun k hk _=>h.block k hk,fun _ q=>Or.inl q⟩
theorem aq.trans {R R1 R2:Nat→Prop} {u v w:World} (h:aq R R1 u v) (k:aq R1 R2 v w):aq R R2 u w:=
 ⟨k.os.trans h.os,k.tape.trans h.tape,k.output.trans h.output,Nat.le_trans h.size k.size,fun i hi h1=>(k.block i (Nat.lt_of_lt_of_le hi h.size) (fun q=>by
  rcases h.row i q with e | e
  ·exact h1 e
  ·omega)).trans (h.block i hi h1),fun i q=>by
  rcases k.row i q with e | e
  ·exact h.row i e
  ·exact Or.inr (Nat.le_trans h.size e)⟩
theorem aq.not {R R':Nat→Prop} {w w':World} (h:aq R R' w w') {k:Nat} (hk:k<w.heap.size) (hr:¬R k):¬R' k:=fun q=>by
 rcases h.row k q with e | e
 ·exact hr e
 ·omega
theorem ai {w w':World} {b0:Nat} {T:TypeId} {sz:Nat} {v:Value} {n:Nat} {xs:List Value} (h:w.ownsRow b0 T sz v n xs) (hk:∀g,v.ownBlock=some g→w'.heap[g]?=w.heap[g]?):w'.ownsRow b0 T sz v n xs:=
 ⟨h.1,h.2.imp id fun⟨g,cap,cur,a,b,c,d⟩=>⟨g,cap,cur,a,b,(hk g (by rw[a];rfl)).trans c,d⟩⟩
theorem iQ {o:Option Addr} {n cap:Nat} {k:Nat} (h:∀q,o=some q→k≠q.block):some k≠(Value.slice o n cap).ownBlock:=by
 cases o with
 | none=>simp[Value.ownBlock]
 | some q=>have:=h q rfl;simpa [Value.ownBlock] using this
theorem aq.cell {R R':Nat→Prop} {w w':World} (h:aq R R' w w') {p:Addr} (hp:p.block<w.heap.size) (hr:¬R p.block):w'.cell? p=w.cell? p:=World.cell?_of_block (w:=w) (h.block p.block hp hr)
theorem aq.down {R R':Nat→Prop} {w w':World} (h:aq R R' w w') {b:Nat} (hb:b≤w.heap.size) (hr:∀k,R k→b≤k):Below b w w':=
 ⟨h.os,h.tape,h.output,h.size,fun k hk=>h.block k (by omega) (fun q=>by have:=hr k q;omega)⟩
theorem cg (w:World) (rb:Nat) (s:ByteArray) (l:List Zf.Tok) (ns:List ByteArray) (nv:Value) (e0:Int) (c:Int) (h:St w rb s l ns nv e0):
 Calls Tryz.prog 68 #[.pointer (some ⟨rb,0,none⟩),.int .i64 c] w fun e w'=>e= .returned (.tuple #[])∧St w' rb s l ns nv c∧KA rb [rb] w w':=by
 obtain⟨⟨c0,c1,c2,c3,c4,c5,f1,f2,f3,f4,f5⟩,own,chain,isn,few,short,signs,pos,lt⟩:=h
 go_enter Tryz.func68,Tryz.ntmps68
 go_wp2
 go_end0
 refine⟨rfl,⟨⟨?_,?_,?_,?_,?_,?_,?_,?_,?_,?_,?_⟩,kJ own _ _,chain,isn,few,short,signs.setCell (by show rb≠0;omega) _,pos,by simpa using lt⟩,(KA.refl _ _ _).fH (by simp) _⟩
 all_goals first | go_cell | (simp[go_sem, *];done)
theorem bD (w:World) (rb:Nat) (s:ByteArray) (l:List Zf.Tok) (ns:List ByteArray) (nv:Value) (e0:Int) (g:ByteArray) (h:St w rb s l ns nv e0):
 Calls Tryz.prog 62 #[.pointer (some ⟨rb,0,none⟩),.string g] w fun e w'=>e= .returned (.bool (Zf.sees l g.toList))∧w'=w:=by
 obtain⟨⟨c0,c1,c2,c3,c4,c5,f1,f2,f3,f4,f5⟩,own,chain,isn,few,short,signs,pos,lt⟩:=h
 clear own chain isn few signs
 by_cases hk:(Zf.hd l).kind=5
 ·have hk':(((Zf.hd l).kind:Int) == 5)=true:=by simp;omega
  have HS:=hide (show Zf.sees l g.toList=((Zf.hd l).text.toList == g.toList)by simp[Zf.sees,hk])
  clear hk
  go_enter Tryz.func62,Tryz.ntmps62
  go_wp2
  go_ret
  exact⟨cN (by rw[ae HS]),rfl⟩
 ·have hk':(((Zf.hd l).kind:Int) == 5)=false:=by simp;omega
  have HS:=hide (show Zf.sees l g.toList=false by simp[Zf.sees,hk])
  clear hk
  go_enter Tryz.func62,Tryz.ntmps62
  go_wp2
  go_ret
  exact⟨cN (by rw[ae HS]),rfl⟩
theorem Ky {w w1:World} {rb:Nat} {s:ByteArray} {l:List Zf.Tok} {ns:List ByteArray} {nv:Value} {e0:Int} (h:St w rb s l ns nv e0) (h0:(Zf.hd l).kind≠0) (hb:Below w.heap.size w w1):
 St (((w1.setCell ⟨rb,1,none⟩ (.int .i64 ((Zf.next s ((Zf.hd l).pos+(Zf.hd l).text.size)).kind:Int))).setCell ⟨rb,2,none⟩ (.int .i64 ((Zf.next s ((Zf.hd l).pos+(Zf.hd l).text.size)).pos:Int))).setCell ⟨rb,3,none⟩ (.string (Zf.next s ((Zf.hd l).pos+(Zf.hd l).text.size)).text)) rb s l.tail ns nv e0∧
 KA rb [rb] w (((w1.setCell ⟨rb,1,none⟩ (.int .i64 ((Zf.next s ((Zf.hd l).pos+(Zf.hd l).text.size)).kind:Int))).setCell ⟨rb,2,none⟩ (.int .i64 ((Zf.next s ((Zf.hd l).pos+(Zf.hd l).text.size)).pos:Int))).setCell ⟨rb,3,none⟩ (.string (Zf.next s ((Zf.hd l).pos+(Zf.hd l).text.size)).text)):=by
 have hk:=h.chain.tail h0
 have h1:=h.below hb
 have few:=h.few
 have hl:l.length=l.tail.length+1:=by
  rcases l with _ | ⟨a,r⟩
  ·exact absurd h.chain (by simp[Zf.ek])
  ·rfl
 obtain⟨⟨d0,d1,d2,d3,d4,d5,g1,g2,g3,g4,g5⟩,own,chain,isn,few1,short,signs,pos,lt⟩:=h1
 have z:rb≠0:=by omega
 refine⟨⟨?_,kJ (kJ (kJ own _ _) _ _) _ _,hk.1,⟨_,hk.2.1⟩,by omega,short,((signs.setCell (by exact z) _).setCell (by exact z) _).setCell (by exact z) _,pos,by simpa using lt⟩,(((KA.of_below hb).fH (by simp) _).fH (by simp) _).fH (by simp) _⟩
 rw[hk.2.1]
 generalize Zf.next s ((Zf.hd l).pos+(Zf.hd l).text.size)=t
 exact⟨by go_cell,by go_cell,by go_cell,by go_cell,by go_cell,by go_cell,by go_cell,by go_cell,by go_cell,by go_cell,by go_cell⟩
theorem aw {w:World} {b:Nat} {cs:Array Value} {T:TypeId} (h:w.heap[b]?=some (.cells cs T (0,0))) (i:Nat) (v:Value):(w.setCell ⟨b,i,none⟩ v).heap[b]?=some (.cells (cs.setIfInBounds i v) T (0,0)):=by
 simp[World.setCell,Array.getElem?_modify,h]
theorem aF {w:World} {b:Nat} {x:Obj} (h:w.heap[b]?=some x) {b':Nat} (hne:b≠b') (i:Nat) (v:Value):(w.setCell ⟨b',i,none⟩ v).heap[b]?=some x:=(Below.heap_setCell _ _ _ _ hne).trans h
theorem Bb {w:World} {b:Nat} {T:TypeId} {c0 c1 c2 c3 c4 c5 c6 c7 c8 c9 c10 c11 c12 c13:Value} (v5 v6 v7 v8 v9:Value) (h:w.heap[b]?=some (.cells #[c0,c1,c2,c3,c4,c5,c6,c7,c8,c9,c10,c11,c12,c13] T (0,0))):(((((w.setCell ⟨b,5,none⟩ v5).setCell ⟨b,6,none⟩ v6).setCell ⟨b,7,none⟩ v7).setCell ⟨b,8,none⟩ v8).setCell ⟨b,9,none⟩ v9).heap[b]?=some (.cells #[c0,c1,c2,c3,c4,v5,v6,v7,v8,v9,c10,c11,c12,c13] T (0,0)):=by
 have:=aw (aw (aw (aw (aw h 5 v5) 6 v6) 7 v7) 8 v8) 9 v9
 simpa using this
theorem wW {w:World} {b b':Nat} {x:Obj} (v5 v6 v7 v8 v9:Value) (h:w.heap[b']?=some x) (hne:b'≠b):(((((w.setCell ⟨b,5,none⟩ v5).setCell ⟨b,6,none⟩ v6).setCell ⟨b,7,none⟩ v7).setCell ⟨b,8,none⟩ v8).setCell ⟨b,9,none⟩ v9).heap[b']?=some x:=
 aF (aF (aF (aF (aF h hne 5 v5) hne 6 v6) hne 7 v7) hne 8 v8) hne 9 v9
end Go.Proofs.YthfjnfcekeknlabGreatDoor
namespace Zf
open Go
def At (s:ByteArray) (p:Nat) (x:List UInt8):Prop:=p≤s.size∧s.data.toList.drop p=x
theorem At.start (s:ByteArray):At s 0 s.data.toList:=⟨Nat.zero_le _,rfl⟩
theorem At.head {s:ByteArray} {p:Nat} {c:UInt8} {x:List UInt8} (h:At s p (c :: x)):p<s.size∧bU s p=c.toNat∧At s (p+1) x:=by
 have hl:=oW s
 have hp:p<s.size:=by
  have:=congrArg List.length h.2
  rw[List.length_drop]at this
  simp at this
  have:=h.1
  omega
 have h2:=h.2
 rw[List.drop_eq_getElem_cons (by omega)]at h2
 injection h2 with h3 h4
 exact⟨hp,by rw[ig hp,←h3,get_eq hp],by omega,h4⟩
theorem At.nil {s:ByteArray} {p:Nat} (h:At s p []):p=s.size:=by
 have hl:=oW s
 have:=congrArg List.length h.2
 rw[List.length_drop]at this
 simp at this
 have:=h.1
 omega
theorem At.more {s:ByteArray}:∀{x y:List UInt8} {p:Nat},At s p (x++y)→At s (p+x.length) y
 | [],_,_,h=>h
 | c :: x,y,p,h=>by
  have:=(At.head (c:=c) (x:=x++y) h).2.2.more
  rw[List.length_cons]
  rwa [show p+(x.length+1)=p+1+x.length by omega]
theorem At.text {s:ByteArray} {p:Nat} {x y:List UInt8} (h:At s p (x++y)):s.extract p (p+x.length)=⟨x.toArray⟩:=by
 have e:(s.extract p (p+x.length)).toList=x:=by
  rw[Lib.extract_toList,h.2,show p+x.length - p=x.length by omega]
  simp
 rw[ByteArray.toList_eq]at e
 exact ByteArray.ext (Array.ext' (by simpa using e))
def Tk (s:ByteArray) (p:Nat) (l:List Tok):Prop:=ek s l∧hd l=next s p
theorem Tk.blank {s:ByteArray} {p:Nat} {l:List Tok} {c:UInt8} {x:List UInt8} (h:Tk s p l) (ha:At s p (c :: x)) (hb:Zf.blank c.toNat=true):Tk s (p+1) l∧At s (p+1) x:=by
 obtain⟨h1,h2,h3⟩:=ha.head
 exact⟨⟨h.1,h.2.trans (Fu h1 (by rw[h2];exact hb))⟩,h3⟩
theorem Tk.tok {s:ByteArray} {p:Nat} {l:List Tok} {c:UInt8} {x:List UInt8} (h:Tk s p l) (ha:At s p (c :: x)) (hb:Zf.blank c.toNat=false):l=⟨aO s p,p,s.extract p (cX s p)⟩ :: l.tail∧Tk s (cX s p) l.tail:=by
 obtain⟨h1,h2,h3⟩:=ha.head
 have hn:=G6 h1 (by rw[h2];exact hb)
 have hk:(hd l).kind≠0:=by
  rw[h.2,hn]
  show aO s p≠0
  rw[Ne,qj]
  omega
 have Xc:(hd l).pos+(hd l).text.size=cX s p:=by
  have e:skip s p=p:=pM (by rw[h2,hb];simp)
  rw[h.2]
  have:=@nk s p (by rw[e];exact h1)
  rw[e]at this
  exact this
 obtain⟨t1,t2,t3⟩:=h.1.tail hk
 rw[Xc]at t2
 refine⟨?_,t1,t2⟩
 rw[h.2,hn]at t3
 exact t3
theorem Tk.done {s:ByteArray} {p:Nat} {l:List Tok} (h:Tk s p l) (ha:At s p []):(hd l).kind=0:=by
 rw[h.2,lF]
 have:=oI s p
 have:=ha.nil
 omega
theorem Bc {s:ByteArray} {k:Nat}:∀{wd rest:List UInt8} {p:Nat},At s p (wd++rest)→(∀c∈wd,dC k c.toNat=true)→(∀c r,rest=c :: r→dC k c.toNat=false)→cY s k p=p+wd.length
 | [],rest,p,h,_,hr=>by
  refine oQ ?_
  cases rest with
  | nil=>have:=h.nil;omega
  | cons c r=>
   obtain⟨h1,h2,h3⟩:=At.head (c:=c) (x:=r) h
   rw[h2,hr c r rfl]
   simp
 | c :: wd,rest,p,h,hw,hr=>by
  obtain⟨h1,h2,h3⟩:=At.head (c:=c) (x:=wd++rest) h
  rw[oP h1 (by rw[h2];exact hw c (by simp)),Bc h3 (fun d hd=>hw d (by simp[hd])) hr,List.length_cons]
  omega
theorem Kz {k c:Nat} (h:dC 3 c=false) (hk:k=2∨k=3∨k=4):dC k c=false:=by
 unfold dC at h⊢
 rcases hk with rfl | rfl | rfl
 ·simp at h⊢
  exact h.1
 ·exact h
 ·simp at h⊢
  exact h.1.2
def jQ (k:Nat) (x:List UInt8):Prop:=∃c r,x=c :: r∧(k=2∧low c.toNat=true∨k=3∧jc c.toNat=true∨k=4∧iF c.toNat=true)∧∀d∈x,dC k d.toNat=true
theorem Oz {c:Nat} (h:jc c=true):low c=false:=by unfold jc at h;unfold low;simp at h⊢;omega
theorem DZ {c:Nat} (h:iF c=true):low c=false∧jc c=false:=by unfold iF at h;unfold low jc;simp at h⊢;omega
theorem pN {c:Nat} (h:low c=true∨jc c=true∨iF c=true):blank c=false:=by unfold low jc iF at h;unfold blank;simp at h⊢;omega
theorem Tk.word {s:ByteArray} {k p:Nat} {l:List Tok} {x rest:List UInt8} (h:Tk s p l) (hx:jQ k x) (ha:At s p (x++rest)) (hr:∀c r,rest=c :: r→dC 3 c.toNat=false):l=⟨k,p,⟨x.toArray⟩⟩ :: l.tail∧Tk s (p+x.length) l.tail∧At s (p+x.length) rest:=by
 obtain⟨c,r,rfl,hc,hw⟩:=hx
 have hk:k=2∨k=3∨k=4:=by omega
 obtain⟨h1,h2,h3⟩:=At.head (c:=c) (x:=r++rest) ha
 have hb:Zf.blank c.toNat=false:=by
  rcases hc with⟨_,q⟩ | ⟨_,q⟩ | ⟨_,q⟩
  ·exact pN (Or.inl q)
  ·exact pN (Or.inr (Or.inl q))
  ·exact pN (Or.inr (Or.inr q))
 have hend:=Bc (k:=k) ha hw (fun c r q=>Kz (hr c r q) hk)
 have qy:aO s p=k∧cX s p=p+(c :: r).length:=by
  rw[←hend]
  rcases hc with⟨rfl,q⟩ | ⟨rfl,q⟩ | ⟨rfl,q⟩
  ·exact yU h1 (by rw[h2];exact q)
  ·exact Ku h1 (by rw[h2];exact Oz q) (by rw[h2];exact q)
  ·exact Kv h1 (by rw[h2];exact(DZ q).1) (by rw[h2];exact(DZ q).2) (by rw[h2];exact q)
 obtain⟨t1,t2⟩:=h.tok ha hb
 rw[qy.1,qy.2,ha.text]at t1
 rw[qy.2]at t2
 exact⟨t1,t2,ha.more⟩
def sG (c:Nat):Bool:= !low c&& !jc c&& !iF c&& !blank c
theorem Tk.Ax {s:ByteArray} {p:Nat} {l:List Tok} {a b:UInt8} {rest:List UInt8} (h:Tk s p l) (ha:At s p (a :: b :: rest)) (hn:sG a.toNat=true) (hl:dx a.toNat b.toNat=true):l=⟨5,p,⟨#[a,b]⟩⟩ :: l.tail∧Tk s (p+2) l.tail∧At s (p+2) rest:=by
 obtain⟨h1,h2,h3⟩:=ha.head
 obtain⟨k1,k2,k3⟩:=h3.head
 unfold sG at hn
 simp only[Bool.and_eq_true,Bool.not_eq_true']at hn
 obtain⟨⟨⟨n1,n2⟩,n3⟩,n4⟩:=hn
 have hs:cM s p=2:=by unfold cM;rw[h2,k2,if_pos ⟨by omega,hl⟩]
 have qy:=yV h1 (by rw[h2];exact n1) (by rw[h2];exact n2) (by rw[h2];exact n3) (by omega)
 rw[hs]at qy
 obtain⟨t1,t2⟩:=h.tok ha n4
 rw[qy.1,qy.2,show s.extract p (p+2)=_ from At.text (x:=[a,b]) (y:=rest) ha]at t1
 rw[qy.2]at t2
 exact⟨t1,t2,k3⟩
theorem Tk.M9 {s:ByteArray} {p:Nat} {l:List Tok} {a:UInt8} {rest:List UInt8} (h:Tk s p l) (ha:At s p (a :: rest)) (hn:sG a.toNat=true) (hs:fB a.toNat=true) (hl:∀c r,rest=c :: r→dx a.toNat c.toNat=false):l=⟨5,p,⟨#[a]⟩⟩ :: l.tail∧Tk s (p+1) l.tail∧At s (p+1) rest:=by
 obtain⟨h1,h2,h3⟩:=ha.head
 unfold sG at hn
 simp only[Bool.and_eq_true,Bool.not_eq_true']at hn
 obtain⟨⟨⟨n1,n2⟩,n3⟩,n4⟩:=hn
 have hs:cM s p=1:=by
  unfold cM
  rw[if_neg,if_pos ⟨h1,by rw[h2];exact hs⟩]
  rintro⟨q1,q2⟩
  cases rest with
  | nil=>have:=h3.nil;omega
  | cons c r=>
   obtain⟨k1,k2,k3⟩:=h3.head
   rw[h2,k2,hl c r rfl]at q2
   cases q2
 have qy:=yV h1 (by rw[h2];exact n1) (by rw[h2];exact n2) (by rw[h2];exact n3) (by omega)
 rw[hs]at qy
 obtain⟨t1,t2⟩:=h.tok ha n4
 rw[qy.1,qy.2,show s.extract p (p+1)=_ from At.text (x:=[a]) (y:=rest) ha]at t1
 rw[qy.2]at t2
 exact⟨t1,t2,h3⟩
theorem Tk.first {s:ByteArray} {p:Nat} {l:List Tok} {c:UInt8} {x:List UInt8} (h:Tk s p l) (ha:At s p (c :: x)) (hb:Zf.blank c.toNat=false):∃r,(hd l).text.toList=c :: r:=by
 obtain⟨h1,h2,h3⟩:=ha.head
 obtain⟨t1,_⟩:=h.tok ha hb
 rw[t1]
 show∃r,(s.extract p (cX s p)).toList=c :: r
 have:=oU h1
 rw[Lib.extract_toList,ha.2]
 cases hq:cX s p - p with
 | zero=>omega
 | succ n=>exact⟨_,rfl⟩
structure iA where
 v:ByteArray→ByteArray
 n:ByteArray→ByteArray
def arS:List (List UInt8)→List UInt8
 | []=>[]
 | x :: xs=>40 :: x++xs.flatMap (fun y=>44 :: y)++[41]
def bE (σ:iA):Nat→Tm→List UInt8
 | 0,_=>[]
 | f+1,t=>if t.kind=3 then(σ.v t.text).toList else if t.kind=4 then(σ.n t.text).toList else t.text.toList++arS (t.args.map (bE σ f))
def gM (σ:iA):Nat→Tm→Tm
 | 0,t=>t
 | f+1,t=>if t.kind=3 then⟨3,σ.v t.text,[]⟩else if t.kind=4 then⟨4,σ.n t.text,[]⟩else⟨2,t.text,t.args.map (gM σ f)⟩
def gA (σ:iA):Nat→Tm→Prop
 | 0,_=>False
 | f+1,t=>(t.kind=3∧jQ 3 (σ.v t.text).toList)∨(t.kind=4∧jQ 4 (σ.n t.text).toList∧(σ.n t.text).size≤6)∨(t.kind=2∧jQ 2 t.text.toList∧t.args.length≤3∧∀a∈t.args,gA σ f a)
def stops:List UInt8:=[44,41,61,60,92,124,46,58,43]
def sH (rest:List UInt8):Prop:=∃c r,(rest=c :: r∨rest=32 :: c :: r∨rest=[])∧c∈stops
theorem uo (b:ByteArray):(⟨b.toList.toArray⟩:ByteArray)=b:=by
 rw[ByteArray.toList_eq]
theorem eU (x:List UInt8):(⟨x.toArray⟩:ByteArray).toList=x:=by
 rw[ByteArray.toList_eq]
theorem kX {c:UInt8} (h:c∈stops):Zf.blank c.toNat=false∧dC 3 c.toNat=false∧c≠40:=by
 simp only[stops,List.mem_cons,List.not_mem_nil,or_false]at h
 rcases h with rfl | rfl | rfl | rfl | rfl | rfl | rfl | rfl | rfl<;>decide
theorem sH.word {rest:List UInt8} (h:sH rest):∀c r,rest=c :: r→dC 3 c.toNat=false:=by
 obtain⟨c,r,h1 | h1 | h1,h2⟩:=h
 ·intro d q hq
  rw[h1]at hq
  injection hq with e _
  subst e
  exact(kX h2).2.1
 ·intro d q hq
  rw[h1]at hq
  injection hq with e _
  subst e
  decide
 ·intro d q hq
  rw[h1]at hq
  cases hq
theorem ij {l:List Tok} {c d:UInt8} {r g:List UInt8} (h:(hd l).text.toList=c :: r) (hd:c≠d):sees l (d :: g)=false:=by
 unfold sees
 rw[h]
 simp[hd]
theorem sI {l:List Tok} (h:(hd l).kind=0) (g:List UInt8):sees l g=false:=by
 unfold sees
 rw[h]
 rfl
theorem Tk.rest {s:ByteArray} {p:Nat} {l:List Tok} {rest:List UInt8} (h:Tk s p l) (ha:At s p rest) (hr:sH rest):sees l [40]=false:=by
 obtain⟨c,r,h1 | h1 | h1,h2⟩:=hr
 ·subst h1
  obtain⟨q,hq⟩:=h.first ha (kX h2).1
  exact ij hq (kX h2).2.2
 ·subst h1
  obtain⟨k1,k2⟩:=h.blank ha (by decide)
  obtain⟨q,hq⟩:=k1.first k2 (kX h2).1
  exact ij hq (kX h2).2.2
 ·subst h1
  exact sI (h.done ha) _
theorem eW (p:Nat) (x g:List UInt8) (m:List Tok):sees (⟨5,p,⟨x.toArray⟩⟩ :: m) g=(x == g):=by
 show ((5 == 5)&&(⟨x.toArray⟩:ByteArray).toList == g)=_
 rw[eU]
 rfl
theorem OA {a:Nat} (h:a≠58∧a≠61∧a≠92) (c:Nat):dx a c=false:=by
 unfold dx
 simp[h.1,h.2.1,h.2.2]
theorem Tk.one {s:ByteArray} {p:Nat} {l:List Tok} {rest:List UInt8} (a:UInt8) (h:Tk s p l) (ha:At s p (a :: rest)) (hq:(sG a.toNat&&fB a.toNat&&a != 58&&a != 61&&a != 92)=true):l=⟨5,p,⟨#[a]⟩⟩ :: l.tail∧Tk s (p+1) l.tail∧At s (p+1) rest:=by
 simp only[Bool.and_eq_true,bne_iff_ne,ne_eq]at hq
 obtain⟨⟨⟨⟨h1,h2⟩,h3⟩,h4⟩,h5⟩:=hq
 refine h.M9 ha h1 h2 (fun c r _=>OA ⟨fun e=>h3 ?_,fun e=>h4 ?_,fun e=>h5 ?_⟩ _)
 ·exact UInt8.toNat_inj.1 e
 ·exact UInt8.toNat_inj.1 e
 ·exact UInt8.toNat_inj.1 e
def KB (σ:iA) (f:Nat) (t:Tm):Prop:=∀(s:ByteArray) (p:Nat) (l:List Tok) (rest:List UInt8),Tk s p l→At s p (bE σ f t++rest)→sH rest→∃l',term f l= .inr (gM σ f t,l')∧Tk s (p+(bE σ f t).length) l'∧At s (p+(bE σ f t).length) rest
theorem Bd {σ:iA} {f:Nat}:∀(ts:List Tm) (t:Tm) (k:Nat),ts.length≤k→KB σ f t→(∀u∈ts,KB σ f u)→∀(s:ByteArray) (p:Nat) (l:List Tok) (rest:List UInt8),Tk s p l→At s p (bE σ f t++(ts.map (bE σ f)).flatMap (fun y=>44 :: y)++41 :: rest)→∃l',bN (term f) k l= .inr (gM σ f t :: ts.map (gM σ f),l')∧Tk s (p+(bE σ f t++(ts.map (bE σ f)).flatMap (fun y=>44 :: y)).length+1) l'∧At s (p+(bE σ f t++(ts.map (bE σ f)).flatMap (fun y=>44 :: y)).length+1) rest
 | [],t,k,_,ht,_,s,p,l,rest,hl,ha=>by
  simp only[List.map_nil,List.flatMap_nil,List.append_nil]at ha⊢
  obtain⟨l1,e1,k1,a1⟩:=ht s p l _ hl ha ⟨41,rest,Or.inl rfl,by decide⟩
  obtain⟨e2,k2,a2⟩:=k1.one 41 a1 (by decide)
  refine⟨l1.tail,?_,k2,a2⟩
  rw[bN,e1]
  dsimp only
  rw[e2]
  rw[show sees (⟨5,p+(bE σ f t).length,⟨#[41]⟩⟩ :: l1.tail) [44]=false from eW _ [41] [44] _,show sees (⟨5,p+(bE σ f t).length,⟨#[41]⟩⟩ :: l1.tail) [41]=true from eW _ [41] [41] _]
  rfl
 | u :: ts,t,k,hk,ht,hu,s,p,l,rest,hl,ha=>by
  cases k with
  | zero=>simp at hk
  | succ k=>
   simp only[List.map_cons,List.flatMap_cons,List.append_assoc,List.cons_append]at ha
   obtain⟨l1,e1,k1,a1⟩:=ht s p l _ hl ha ⟨44,_,Or.inl rfl,by decide⟩
   obtain⟨e2,k2,a2⟩:=k1.one 44 a1 (by decide)
   obtain⟨l3,e3,k3,a3⟩:=Bd ts u k (by simpa using hk) (hu u (by simp)) (fun x hx=>hu x (by simp[hx])) s _ _ rest k2 (by simpa using a2)
   have hz:p+(bE σ f t).length+1+(bE σ f u++(ts.map (bE σ f)).flatMap (fun y=>44 :: y)).length+1=p+(bE σ f t++((u :: ts).map (bE σ f)).flatMap (fun y=>44 :: y)).length+1:=by
    simp;omega
   rw[hz]at k3 a3
   refine⟨l3,?_,k3,a3⟩
   rw[bN,e1]
   dsimp only
   rw[e2]
   rw[if_pos (show sees (⟨5,p+(bE σ f t).length,⟨#[44]⟩⟩ :: l1.tail) [44]=true from eW _ [44] [44] _)]
   show (match bN (term f) k l1.tail with | .inl e=>_ | .inr (ts,l2)=>_)=_
   rw[e3]
   rfl
theorem kY (σ:iA):∀(f:Nat) (t:Tm),gA σ f t→KB σ f t
 | 0,_,h=>h.elim
 | f+1,t,h=>by
  intro s p l rest hl ha hr
  rcases h with⟨hk,hw⟩ | ⟨hk,hw,h6⟩ | ⟨hk,hw,h3,hargs⟩
  ·have e0:bE σ (f+1) t=(σ.v t.text).toList:=by unfold bE;rw[if_pos hk]
   have e1:gM σ (f+1) t=⟨3,σ.v t.text,[]⟩:=by unfold gM;rw[if_pos hk]
   rw[e0]at ha⊢
   obtain⟨k1,k2,k3⟩:=hl.word hw ha hr.word
   rw[uo]at k1
   refine⟨l.tail,?_,k2,k3⟩
   rw[e1,k1]
   rfl
  ·have e0:bE σ (f+1) t=(σ.n t.text).toList:=by unfold bE;rw[if_neg (by omega),if_pos hk]
   have e1:gM σ (f+1) t=⟨4,σ.n t.text,[]⟩:=by unfold gM;rw[if_neg (by omega),if_pos hk]
   rw[e0]at ha⊢
   obtain⟨k1,k2,k3⟩:=hl.word hw ha hr.word
   rw[uo]at k1
   refine⟨l.tail,?_,k2,k3⟩
   rw[e1,k1]
   unfold term
   rw[if_pos (show begins (hd (⟨4,p,σ.n t.text⟩ :: l.tail))=true from rfl),if_neg (show¬((hd (⟨4,p,σ.n t.text⟩ :: l.tail)).kind=4∧6<(hd (⟨4,p,σ.n t.text⟩ :: l.tail)).text.size)from fun q=>by have:=q.2;change 6<(σ.n t.text).size at this;omega)]
   rfl
  ·have e0:bE σ (f+1) t=t.text.toList++arS (t.args.map (bE σ f)):=by unfold bE;rw[if_neg (by omega),if_neg (by omega)]
   have e1:gM σ (f+1) t=⟨2,t.text,t.args.map (gM σ f)⟩:=by unfold gM;rw[if_neg (by omega),if_neg (by omega)]
   rw[e0]at ha⊢
   cases hA:t.args with
   | nil=>
    rw[hA]at ha e1
    simp only[List.map_nil,arS,List.append_nil]at ha e1⊢
    obtain⟨k1,k2,k3⟩:=hl.word hw ha hr.word
    rw[uo]at k1
    refine⟨l.tail,?_,k2,k3⟩
    have hs:sees l.tail [40]=false:=k2.rest k3 hr
    rw[e1,k1]
    unfold term
    rw[if_pos (show begins (hd (⟨2,p,t.text⟩ :: l.tail))=true from rfl),if_neg (show¬((hd (⟨2,p,t.text⟩ :: l.tail)).kind=4∧6<(hd (⟨2,p,t.text⟩ :: l.tail)).text.size)from fun q=>by have:=q.1;change 2=4 at this;omega),if_pos (show (hd (⟨2,p,t.text⟩ :: l.tail)).kind=2 from rfl),if_neg (show¬sees (List.tail (⟨2,p,t.text⟩ :: l.tail)) [40]=true from by rw[List.tail_cons,hs];simp)]
    rfl
   | cons u ts=>
    rw[hA]at ha e1 h3
    have hu:=kY σ f u (hargs u (by rw[hA];simp))
    have hts:=fun x (hx:x∈ts)=>kY σ f x (hargs x (by rw[hA];simp[hx]))
    simp only[List.map_cons,arS,List.append_assoc,List.cons_append,List.nil_append]at ha
    obtain⟨k1,k2,k3⟩:=hl.word hw ha (fun c r q=>by injection q with q _;subst q;decide)
    rw[uo]at k1
    obtain⟨j1,j2,j3⟩:=k2.one 40 k3 (by decide)
    obtain⟨l3,e3,m3,a3⟩:=Bd ts u 2 (by simpa using h3) hu hts s _ _ rest j2 (by simpa using j3)
    have hz:p+t.text.toList.length+1+(bE σ f u++(ts.map (bE σ f)).flatMap (fun y=>44 :: y)).length+1=p+(t.text.toList++arS ((u :: ts).map (bE σ f))).length:=by
     simp[arS];omega
    rw[hz]at m3 a3
    refine⟨l3,?_,m3,a3⟩
    rw[e1,k1]
    unfold term
    rw[if_pos (show begins (hd (⟨2,p,t.text⟩ :: l.tail))=true from rfl),if_neg (show¬((hd (⟨2,p,t.text⟩ :: l.tail)).kind=4∧6<(hd (⟨2,p,t.text⟩ :: l.tail)).text.size)from fun q=>by have:=q.1;change 2=4 at this;omega),if_pos (show (hd (⟨2,p,t.text⟩ :: l.tail)).kind=2 from rfl),if_pos (show sees (List.tail (⟨2,p,t.text⟩ :: l.tail)) [40]=true from by rw[List.tail_cons,j1];exact eW _ [40] [40] _)]
    show (match bN (term f) 2 l.tail.tail with | .inl e=>_ | .inr (ts,l2)=>_)=_
    rw[e3]
    rfl
def sp (b:Bool):List UInt8:=if b=true then [32]else []
def nl (b:Bool):List UInt8:=if b=true then [10]else []
theorem Tk.sp {s:ByteArray} {p:Nat} {l:List Tok} {rest:List UInt8} (b:Bool) (h:Tk s p l) (ha:At s p (Zf.sp b++rest)):Tk s (p+(Zf.sp b).length) l∧At s (p+(Zf.sp b).length) rest:=by
 cases b
 ·exact⟨h,ha⟩
 ·exact h.blank (c:=32) ha (by decide)
theorem Tk.nl {s:ByteArray} {p:Nat} {l:List Tok} {rest:List UInt8} (b:Bool) (h:Tk s p l) (ha:At s p (Zf.nl b++rest)):Tk s (p+(Zf.nl b).length) l∧At s (p+(Zf.nl b).length) rest:=by
 cases b
 ·exact⟨h,ha⟩
 ·exact h.blank (c:=10) ha (by decide)
theorem Be {σ:iA} {f:Nat} {t:Tm} (h:gA σ f t):∃c r,bE σ f t=c :: r∧(low c.toNat=true∨jc c.toNat=true∨iF c.toNat=true):=by
 cases f with
 | zero=>exact h.elim
 | succ f=>
  rcases h with⟨hk,c,r,h1,h2,h3⟩ | ⟨hk,⟨c,r,h1,h2,h3⟩,_⟩ | ⟨hk,⟨c,r,h1,h2,h3⟩,_⟩
  ·refine⟨c,r,?_,by rcases h2 with⟨_,q⟩ | ⟨_,q⟩ | ⟨_,q⟩<;>simp[q]⟩
   unfold bE;rw[if_pos hk,h1]
  ·refine⟨c,r,?_,by rcases h2 with⟨_,q⟩ | ⟨_,q⟩ | ⟨_,q⟩<;>simp[q]⟩
   unfold bE;rw[if_neg (by omega),if_pos hk,h1]
  ·refine⟨c,r++arS (t.args.map (bE σ f)),?_,by rcases h2 with⟨_,q⟩ | ⟨_,q⟩ | ⟨_,q⟩<;>simp[q]⟩
   unfold bE;rw[if_neg (by omega),if_neg (by omega),h1];rfl
theorem G7 {a c:Nat} (h:low c=true∨jc c=true∨iF c=true):dx a c=false:=by
 unfold low jc iF at h
 unfold dx
 simp at h⊢
 omega
def ends:List UInt8:=[44,46,124]
def oz (rest:List UInt8):Prop:=∃c r,(rest=c :: r∨rest=32 :: c :: r∨rest=[])∧c∈ends
theorem qQ {c:UInt8} (h:c∈ends):c∈stops:=by
 simp only[ends,List.mem_cons,List.not_mem_nil,or_false]at h
 rcases h with rfl | rfl | rfl<;>decide
theorem oz.rest {rest:List UInt8} (h:oz rest):sH rest:=by
 obtain⟨c,r,h1,h2⟩:=h
 exact⟨c,r,h1,qQ h2⟩
theorem Tk.ends {s:ByteArray} {p:Nat} {l:List Tok} {rest:List UInt8} (h:Tk s p l) (ha:At s p rest) (hr:oz rest):bH l=false∧sees l [61]=false∧sees l [58,61]=false:=by
 have hq:(hd l).kind=0∨∃c r,c∈Zf.ends∧(hd l).text.toList=c :: r:=by
  obtain⟨c,r,h1 | h1 | h1,h2⟩:=hr
  ·subst h1
   obtain⟨q,hq⟩:=h.first ha (kX (qQ h2)).1
   exact Or.inr ⟨c,q,h2,hq⟩
  ·subst h1
   obtain⟨k1,k2⟩:=h.blank ha (by decide)
   obtain⟨q,hq⟩:=k1.first k2 (kX (qQ h2)).1
   exact Or.inr ⟨c,q,h2,hq⟩
  ·subst h1
   exact Or.inl (h.done ha)
 rcases hq with hq | ⟨c,r,hc,hq⟩
 ·unfold bH
  simp[sI hq]
 ·have hne:c≠60∧c≠61∧c≠92∧c≠58:=by
   simp only[Zf.ends,List.mem_cons,List.not_mem_nil,or_false]at hc
   rcases hc with rfl | rfl | rfl<;>decide
  unfold bH
  rw[ij hq hne.1,ij hq hne.2.1,ij hq hne.2.1,ij hq hne.2.2.1,ij hq hne.2.2.2,ij hq hne.2.1]
  exact⟨rfl,rfl,rfl⟩
def jW (σ:iA) (x:aD):List UInt8:=bE σ 8 x.left++(match x.right with
 | none=>[]
 | some r=>x.sign++bE σ 8 r)
def sJ (σ:iA) (x:aD):aD:=⟨gM σ 8 x.left,x.sign,x.right.map (gM σ 8),[],none⟩
inductive iR (σ:iA):aD→Prop
 | call (t:Tm) (h:gA σ 8 t) (hk:t.kind=2) (hi:isInt t=false):iR σ ⟨t,[],none,[],none⟩
 | eq (a b:Tm) (ha:gA σ 8 a) (hb:gA σ 8 b):iR σ ⟨a,[61],some b,[],none⟩
inductive Ay (σ:iA):aD→Prop
 | int (t:Tm) (h:gA σ 8 t) (hk:t.kind=2) (hi:isInt t=true):Ay σ ⟨t,[],none,[],none⟩
 | rel (a b:Tm) (g:List UInt8) (ha:gA σ 8 a) (hb:gA σ 8 b) (hg:g=[61,61]∨g=[92,61]∨g=[60]∨g=[61,60]):Ay σ ⟨a,g,some b,[],none⟩
theorem OB {σ:iA} {t:Tm} (hk:t.kind=2):(gM σ 8 t).kind=2∧isInt (gM σ 8 t)=isInt t:=by
 have e:gM σ 8 t=⟨2,t.text,t.args.map (gM σ 7)⟩:=by unfold gM;rw[if_neg (by omega),if_neg (by omega)]
 rw[e]
 refine⟨rfl,?_⟩
 unfold isInt
 rw[hk]
 simp
theorem Bf {σ:iA} {t:Tm} (h:gA σ 8 t) (hk:t.kind=2) {tests goals:Bool} (hf:((tests&&isInt t)||goals)=true) {s:ByteArray} {p:Nat} {l:List Tok} {rest:List UInt8} (hl:Tk s p l) (ha:At s p (bE σ 8 t++rest)) (hr:oz rest):
 ∃l',item tests goals l= .inr ((⟨gM σ 8 t,[],none,[],none⟩,tests&&isInt t,goals),l')∧Tk s (p+(bE σ 8 t).length) l'∧At s (p+(bE σ 8 t).length) rest:=by
 obtain⟨l1,e1,k1,a1⟩:=kY σ 8 t h s p l rest hl ha hr.rest
 obtain⟨n1,n2,n3⟩:=k1.ends a1 hr
 obtain⟨m1,m2⟩:=OB (σ:=σ) hk
 refine⟨l1,?_,k1,a1⟩
 unfold item
 rw[e1]
 dsimp only
 rw[if_neg (by rw[n1];decide),if_neg (by rw[n2];decide),if_neg (by rw[n3];simp),m2,if_pos ⟨m1,hf⟩]
theorem Bg {σ:iA} {a b:Tm} (ha:gA σ 8 a) (hb:gA σ 8 b) {g:List UInt8} (hg:g=[61]∨g=[61,61]∨g=[92,61]∨g=[60]∨g=[61,60]) {s:ByteArray} {p:Nat} {l:List Tok} {rest:List UInt8} (hl:Tk s p l) (hA:At s p (bE σ 8 a++(g++bE σ 8 b)++rest)) (hr:oz rest):
 ∃l1 l',term 8 l= .inr (gM σ 8 a,l1)∧(∀k,sees l1 k=(g == k))∧(hd l1).text.toList=g∧term 8 l1.tail= .inr (gM σ 8 b,l')∧Tk s (p+(bE σ 8 a++(g++bE σ 8 b)).length) l'∧At s (p+(bE σ 8 a++(g++bE σ 8 b)).length) rest:=by
 obtain⟨c,r,hc,hw⟩:=Be hb
 rw[List.append_assoc]at hA
 obtain⟨l1,e1,k1,a1⟩:=kY σ 8 a ha s p l _ hl hA (by rcases hg with rfl | rfl | rfl | rfl | rfl<;>exact⟨_,_,Or.inl rfl,by decide⟩)
 have key:l1=⟨5,p+(bE σ 8 a).length,⟨g.toArray⟩⟩ :: l1.tail∧Tk s (p+(bE σ 8 a).length+g.length) l1.tail∧At s (p+(bE σ 8 a).length+g.length) (bE σ 8 b++rest):=by
  rcases hg with rfl | rfl | rfl | rfl | rfl
  ·exact k1.M9 (a:=61) a1 (by decide) (by decide) (fun d q e=>by
    rw[hc]at e
    injection e with e _
    subst e
    exact G7 hw)
  ·exact k1.Ax (a:=61) (b:=61) a1 (by decide) (by decide)
  ·exact k1.Ax (a:=92) (b:=61) a1 (by decide) (by decide)
  ·exact k1.one 60 a1 (by decide)
  ·exact k1.Ax (a:=61) (b:=60) a1 (by decide) (by decide)
 obtain⟨q1,q2,q3⟩:=key
 obtain⟨l2,e2,k2,a2⟩:=kY σ 8 b hb s _ _ _ q2 q3 hr.rest
 have hz:p+(bE σ 8 a).length+g.length+(bE σ 8 b).length=p+(bE σ 8 a++(g++bE σ 8 b)).length:=by simp;omega
 rw[hz]at k2 a2
 refine⟨l1,l2,e1,fun k=> ?_,?_,e2,k2,a2⟩
 ·rw[q1];exact eW _ g k _
 ·rw[q1];exact eU g
theorem PM {σ:iA} {a b:Tm} (ha:gA σ 8 a) (hb:gA σ 8 b) {tests:Bool} {s:ByteArray} {p:Nat} {l:List Tok} {rest:List UInt8} (hl:Tk s p l) (hA:At s p (bE σ 8 a++([61]++bE σ 8 b)++rest)) (hr:oz rest):
 ∃l',item tests true l= .inr ((⟨gM σ 8 a,[61],some (gM σ 8 b),[],none⟩,false,true),l')∧Tk s (p+(bE σ 8 a++([61]++bE σ 8 b)).length) l'∧At s (p+(bE σ 8 a++([61]++bE σ 8 b)).length) rest:=by
 obtain⟨l1,l2,e1,e2,e3,e4,k,a⟩:=Bg ha hb (g:=[61]) (Or.inl rfl) hl hA hr
 refine⟨l2,?_,k,a⟩
 unfold item
 rw[e1]
 dsimp only
 unfold bH
 rw[e2,e2,e2,e2,e2]
 unfold sides
 rw[e4,e3]
 rfl
theorem OC {σ:iA} {a b:Tm} (ha:gA σ 8 a) (hb:gA σ 8 b) {g:List UInt8} (hg:g=[61,61]∨g=[92,61]∨g=[60]∨g=[61,60]) {goals:Bool} {s:ByteArray} {p:Nat} {l:List Tok} {rest:List UInt8} (hl:Tk s p l) (hA:At s p (bE σ 8 a++(g++bE σ 8 b)++rest)) (hr:oz rest):
 ∃l',item true goals l= .inr ((⟨gM σ 8 a,g,some (gM σ 8 b),[],none⟩,true,false),l')∧Tk s (p+(bE σ 8 a++(g++bE σ 8 b)).length) l'∧At s (p+(bE σ 8 a++(g++bE σ 8 b)).length) rest:=by
 obtain⟨l1,l2,e1,e2,e3,e4,k,a⟩:=Bg ha hb (g:=g) (Or.inr hg) hl hA hr
 refine⟨l2,?_,k,a⟩
 unfold item
 rw[e1]
 dsimp only
 have ht:bH l1=true:=by
  unfold bH
  rw[e2,e2,e2,e2]
  rcases hg with rfl | rfl | rfl | rfl<;>decide
 rw[if_pos ht]
 unfold sides
 rw[e4,e3]
 rfl
theorem Bh {σ:iA} {x:aD} (h:iR σ x) {tests:Bool} {s:ByteArray} {p:Nat} {l:List Tok} {rest:List UInt8} (hl:Tk s p l) (hA:At s p (jW σ x++rest)) (hr:oz rest):
 ∃l',item tests true l= .inr ((sJ σ x,false,true),l')∧Tk s (p+(jW σ x).length) l'∧At s (p+(jW σ x).length) rest:=by
 cases h with
 | call t h hk hi=>
  have e:jW σ ⟨t,[],none,[],none⟩=bE σ 8 t:=by simp[jW]
  rw[e]at hA⊢
  obtain⟨l',e1,k⟩:=Bf h hk (tests:=tests) (goals:=true) (by simp) hl hA hr
  refine⟨l',?_,k⟩
  rw[e1,hi,Bool.and_false]
  rfl
 | eq a b ha hb=>exact PM ha hb hl hA hr
theorem KC {σ:iA} {x:aD} (h:Ay σ x) {s:ByteArray} {p:Nat} {l:List Tok} {rest:List UInt8} (hl:Tk s p l) (hA:At s p (jW σ x++rest)) (hr:oz rest):
 ∃l' g,item true true l= .inr ((sJ σ x,true,g),l')∧Tk s (p+(jW σ x).length) l'∧At s (p+(jW σ x).length) rest:=by
 cases h with
 | int t h hk hi=>
  have e:jW σ ⟨t,[],none,[],none⟩=bE σ 8 t:=by simp[jW]
  rw[e]at hA⊢
  obtain⟨l',e1,k⟩:=Bf h hk (tests:=true) (goals:=true) (by simp) hl hA hr
  refine⟨l',true,?_,k⟩
  rw[e1,hi]
  rfl
 | rel a b g ha hb hg=>
  obtain⟨l',e1,k⟩:=OC ha hb hg (goals:=true) hl hA hr
  exact⟨l',false,e1,k⟩
def iG (σ:iA) (b:Bool):List aD→List UInt8
 | []=>[]
 | x :: xs=>jW σ x++xs.flatMap (fun y=>44 :: sp b++jW σ y)
theorem qR {σ:iA} {b:Bool} {tl:List UInt8} (htl:tl=[]∨∃r,tl=46 :: r):∀(xs:List aD) (x:aD) (k:Nat) (tests:Bool),xs.length≤k→iR σ x→(∀y∈xs,iR σ y)→∀(s:ByteArray) (p:Nat) (l:List Tok),Tk s p l→At s p (iG σ b (x :: xs)++tl)→∃l',items k tests true l= .inr (((x :: xs).map (sJ σ),false,true),l')∧Tk s (p+(iG σ b (x :: xs)).length) l'∧At s (p+(iG σ b (x :: xs)).length) tl
 | [],x,k,tests,_,hx,_,s,p,l,hl,ha=>by
  simp only[iG,List.flatMap_nil,List.append_nil]at ha⊢
  obtain⟨l1,e1,k1,a1⟩:=Bh hx (tests:=tests) hl ha (by
   rcases htl with rfl | ⟨r,rfl⟩
   ·exact⟨46,[],Or.inr (Or.inr rfl),by decide⟩
   ·exact⟨46,r,Or.inl rfl,by decide⟩)
  refine⟨l1,?_,k1,a1⟩
  have e2:sees l1 [44]=false:=by
   rcases htl with rfl | ⟨r,rfl⟩
   ·exact sI (k1.done a1) _
   ·obtain⟨e2,k2,a2⟩:=k1.one 46 a1 (by decide)
    rw[e2]
    exact eW _ [46] [44] _
  unfold items
  rw[e1]
  dsimp only
  rw[if_neg (by rw[e2];simp)]
  rfl
 | y :: ys,x,k,tests,hk,hx,hy,s,p,l,hl,ha=>by
  cases k with
  | zero=>simp at hk
  | succ k=>
   simp only[iG,List.flatMap_cons,List.append_assoc,List.cons_append]at ha
   obtain⟨l1,e1,k1,a1⟩:=Bh hx (tests:=tests) hl ha ⟨44,_,Or.inl rfl,by decide⟩
   obtain⟨e2,k2,a2⟩:=k1.one 44 a1 (by decide)
   obtain⟨k3,a3⟩:=k2.sp b a2
   obtain⟨l4,e4,k4,a4⟩:=qR (σ:=σ) (b:=b) htl ys y k false (by simpa using hk) (hy y (by simp)) (fun z hz=>hy z (by simp[hz])) s _ _ k3 (by simpa [iG] using a3)
   have hz:p+(jW σ x).length+1+(sp b).length+(iG σ b (y :: ys)).length=p+(iG σ b (x :: y :: ys)).length:=by simp[iG];omega
   rw[hz]at k4 a4
   refine⟨l4,?_,k4,a4⟩
   unfold items
   rw[e1]
   dsimp only
   rw[if_pos (show sees l1 [44]=true by rw[e2];exact eW _ [44] [44] _)]
   rw[e4]
   rfl
theorem yZ {σ:iA} {b:Bool} (xs:List aD) (x:aD) (k:Nat) (tests:Bool) (hk:xs.length≤k) (hx:iR σ x) (hy:∀y∈xs,iR σ y) (s:ByteArray) (p:Nat) (l:List Tok) (rest:List UInt8) (hl:Tk s p l) (ha:At s p (iG σ b (x :: xs)++46 :: rest)):∃l',items k tests true l= .inr (((x :: xs).map (sJ σ),false,true),l')∧Tk s (p+(iG σ b (x :: xs)).length) l'∧At s (p+(iG σ b (x :: xs)).length) (46 :: rest):=
 qR (Or.inr ⟨rest,rfl⟩) xs x k tests hk hx hy s p l hl ha
def rN (σ:iA) (b:Bool) (c:aI):List UInt8:=bE σ 8 c.head++(match c.goals with
 | []=>[]
 | g :: gs=>sp b++([58,45]++(sp b++((match c.tests with
  | []=>[]
  | x :: _=>jW σ x++(sp b++([124]++sp b)))++iG σ b (g :: gs)))))++(46 :: nl b)
def Bi (σ:iA) (c:aI):aI:=⟨gM σ 8 c.head,c.tests.map (sJ σ),c.goals.map (sJ σ)⟩
structure yg (σ:iA) (c:aI):Prop where
 head:gA σ 8 c.head
 name:c.head.kind=2
 tests:c.tests=[]∨∃x,c.tests=[x]∧Ay σ x
 goals:∀x∈c.goals,iR σ x
 few:c.goals.length≤6
 fact:c.goals=[]→c.tests=[]
theorem OD {σ:iA} {t:Tm} (h:gA σ 8 t) (hk:t.kind=2) {s:ByteArray} {p:Nat} {l:List Tok} {rest:List UInt8} (hl:Tk s p l) (ha:At s p (bE σ 8 t++rest)):(hd l).kind=2:=by
 obtain⟨c,r,hc,hw⟩:=Be h
 rw[hc]at ha
 obtain⟨h1,h2,h3⟩:=At.head (c:=c) (x:=r++rest) ha
 obtain⟨t1,_⟩:=hl.tok (c:=c) (x:=r++rest) ha (pN hw)
 rw[t1]
 show aO s p=2
 have Fw:low c.toNat=true:=by
  rcases h with⟨q,_⟩ | ⟨q,_⟩ | ⟨q,⟨c',r',q1,q2,q3⟩,_⟩
  ·omega
  ·omega
  ·have:bE σ 8 t=c' :: (r'++arS (t.args.map (bE σ 7))):=by unfold bE;rw[if_neg (by omega),if_neg (by omega),q1];rfl
   rw[hc]at this
   injection this with e _
   subst e
   rcases q2 with⟨_,z⟩ | ⟨z,_⟩ | ⟨z,_⟩
   ·exact z
   ·omega
   ·omega
 exact(yU h1 (by rw[h2];exact Fw)).1
theorem KD {σ:iA} {b:Bool} {c:aI} (h:yg σ c) {g:aD} {gs:List aD} (hg:c.goals=g :: gs) {s:ByteArray} {p:Nat} {l:List Tok} {rest:List UInt8} (hl:Tk s p l) (ha:At s p (((match c.tests with
 | []=>[]
 | x :: _=>jW σ x++(sp b++([124]++sp b)))++iG σ b (g :: gs))++46 :: rest)):
 ∃l',body l= .inr ((c.tests.map (sJ σ),c.goals.map (sJ σ)),l')∧Tk s (p+((match c.tests with
 | []=>[]
 | x :: _=>jW σ x++(sp b++([124]++sp b)))++iG σ b (g :: gs)).length) l'∧At s (p+((match c.tests with
 | []=>[]
 | x :: _=>jW σ x++(sp b++([124]++sp b)))++iG σ b (g :: gs)).length) (46 :: rest):=by
 have hgg:iR σ g:=h.goals g (by rw[hg];simp)
 have uZ:∀y∈gs,iR σ y:=fun y hy=>h.goals y (by rw[hg];simp[hy])
 have h6:gs.length≤5:=by have:=h.few;rw[hg]at this;simpa using this
 rcases h.tests with ht | ⟨x,ht,hx⟩
 ·rw[ht]at ha⊢
  simp only[List.nil_append]at ha⊢
  obtain⟨l1,e1,k1,a1⟩:=yZ gs g 5 true h6 hgg uZ s p l rest hl ha
  refine⟨l1,?_,k1,a1⟩
  unfold body
  rw[e1]
  dsimp only
  rw[if_neg (by simp),if_pos rfl,hg]
  rfl
 ·rw[ht]at ha⊢
  dsimp only at ha⊢
  simp only[List.append_assoc]at ha
  obtain⟨l1,fg,e1,k1,a1⟩:=KC hx hl ha (by cases b;exact⟨124,_,Or.inl rfl,by decide⟩;exact⟨124,_,Or.inr (Or.inl rfl),by decide⟩)
  obtain⟨k2,a2⟩:=k1.sp b a1
  obtain⟨e3,k3,a3⟩:=k2.one 124 a2 (by decide)
  obtain⟨k4,a4⟩:=k3.sp b a3
  obtain⟨l5,e5,k5,a5⟩:=yZ gs g 5 false h6 hgg uZ s _ _ rest k4 a4
  have hz:p+(jW σ x).length+(sp b).length+1+(sp b).length+(iG σ b (g :: gs)).length=p+(jW σ x++(sp b++([124]++sp b))++iG σ b (g :: gs)).length:=by simp;omega
  rw[hz]at k5 a5
  refine⟨l5,?_,k5,a5⟩
  have VE:sees l1 [44]=false:=by rw[e3];exact eW _ [124] [44] _
  have Tx:sees l1 [124]=true:=by rw[e3];exact eW _ [124] [124] _
  have e6:items 5 true true l= .inr (([sJ σ x],true,fg),l1):=by
   unfold items
   rw[e1]
   dsimp only
   rw[if_neg (by rw[VE];simp)]
  unfold body
  rw[e6]
  dsimp only
  rw[if_pos ⟨rfl,Tx⟩,e5]
  dsimp only
  rw[if_pos rfl,hg]
  rfl
theorem Fx {σ:iA} {b:Bool} {c:aI} (h:yg σ c) {s:ByteArray} {p:Nat} {l:List Tok} {rest:List UInt8} (hl:Tk s p l) (ha:At s p (rN σ b c++rest)):
 (hd l).kind=2∧∃l',clause true l= .inr (Bi σ c,l')∧Tk s (p+(rN σ b c).length) l'∧At s (p+(rN σ b c).length) rest:=by
 unfold rN at ha
 simp only[List.append_assoc,List.cons_append]at ha
 have hk:=OD h.head h.name hl ha
 refine⟨hk,?_⟩
 cases hg:c.goals with
 | nil=>
  rw[hg]at ha
  dsimp only at ha
  simp only[List.nil_append]at ha
  obtain⟨l1,e1,k1,a1⟩:=kY σ 8 c.head h.head s p l _ hl ha ⟨46,_,Or.inl rfl,by decide⟩
  obtain⟨e2,k2,a2⟩:=k1.one 46 a1 (by decide)
  obtain⟨k3,a3⟩:=k2.nl b a2
  have hz:p+(bE σ 8 c.head).length+1+(nl b).length=p+(rN σ b c).length:=by unfold rN;rw[hg];simp;omega
  rw[hz]at k3 a3
  refine⟨l1.tail,?_,k3,a3⟩
  have n1:sees l1 [58,45]=false:=by rw[e2];exact eW _ [46] [58,45] _
  have n2:sees l1 [46]=true:=by rw[e2];exact eW _ [46] [46] _
  unfold clause
  rw[if_pos hk,if_pos rfl,e1]
  dsimp only
  rw[if_neg (by rw[n1];simp)]
  unfold stop
  rw[if_pos n2]
  unfold Bi
  rw[hg,h.fact hg]
  rfl
 | cons g gs=>
  rw[hg]at ha
  dsimp only at ha
  obtain⟨l1,e1,k1,a1⟩:=kY σ 8 c.head h.head s p l _ hl ha (by cases b;exact⟨58,_,Or.inl rfl,by decide⟩;exact⟨58,_,Or.inr (Or.inl rfl),by decide⟩)
  obtain⟨k2,a2⟩:=k1.sp b (by simpa using a1)
  obtain⟨e3,k3,a3⟩:=k2.Ax (a:=58) (b:=45) a2 (by decide) (by decide)
  obtain⟨k4,a4⟩:=k3.sp b a3
  obtain⟨l5,e5,k5,a5⟩:=KD h hg k4 (b:=b) (rest:=nl b++rest) (by simpa using a4)
  obtain⟨e6,k6,a6⟩:=k5.one 46 a5 (by decide)
  obtain⟨k7,a7⟩:=k6.nl b a6
  have hz:p+(bE σ 8 c.head).length+(sp b).length+2+(sp b).length+((match c.tests with
  | []=>[]
  | x :: _=>jW σ x++(sp b++([124]++sp b)))++iG σ b (g :: gs)).length+1+(nl b).length=p+(rN σ b c).length:=by unfold rN;rw[hg];simp;omega
  rw[hz]at k7 a7
  refine⟨l5.tail,?_,k7,a7⟩
  have n1:sees l1 [58,45]=true:=by rw[e3];exact eW _ [58,45] [58,45] _
  have n2:sees l5 [46]=true:=by rw[e6];exact eW _ [46] [46] _
  unfold clause
  rw[if_pos hk,if_pos rfl,e1]
  dsimp only
  rw[if_pos n1,e5]
  dsimp only
  unfold stop
  rw[if_pos n2]
  rfl
end Zf
