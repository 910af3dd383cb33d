import Derived.Laws.Strings
import Derived.Lib.ItoaNum
import Derived.Lib.Strings
import Derived.Test.YthfjnfcekeknlaaGreatDoorRows
import Derived.WalkKit
import Derived.WalkLawsBesides
import Derived.WalkSpells
import Derived.Deep.QuietTactic
import Derived.BigQuiet
import Derived.Deep.RegionWith
import Derived.OpenShut
set_option maxHeartbeats 8000000
set_option maxRecDepth 100000
namespace Za
def bN (s:ByteArray) (i:Nat):Nat:=if h:i<s.size then(s[i]'h).toNat else 0
def low (c:Nat):Bool:=decide (97≤c)&&decide (c≤122)
def iH (c:Nat):Bool:=decide (65≤c)&&decide (c≤90)
def ik (c:Nat):Bool:=decide (48≤c)&&decide (c≤57)
def blank (c:Nat):Bool:=c == 32||c == 10
def pE (s:ByteArray):Nat→Nat→Nat
 | 0,i=>i
 | n+1,i=>if i<s.size∧blank (bN s i)=true then pE s n (i+1)else i
def skip (s:ByteArray) (i:Nat):Nat:=pE s (s.size - i) i
def cV (k:Nat) (c:Nat):Bool:=
 if k=2 then low c||ik c else if k=3 then low c||ik c||iH c else ik c
def jz (s:ByteArray) (k:Nat):Nat→Nat→Nat
 | 0,i=>i
 | n+1,i=>if i<s.size∧cV k (bN s i)=true then jz s k n (i+1)else i
def cN (s:ByteArray) (k i:Nat):Nat:=jz s k (s.size - i) i
def cU (a b:Nat):Bool:=
 (a == 58&&b == 45)||(a == 58&&b == 61)||(a == 61&&b == 61)||(a == 92&&b == 61)||(a == 61&&b == 60)
def fo (a:Nat):Bool:=
 a == 61||a == 60||a == 43||a == 45||a == 42||a == 40||a == 41||a == 44||a == 124||a == 46
def cr (s:ByteArray) (i:Nat):Nat:=
 if i+1<s.size∧cU (bN s i) (bN s (i+1))=true then 2
 else if i<s.size∧fo (bN s i)=true then 1 else 0
def aO (s:ByteArray) (i:Nat):Nat:=
 if s.size≤i then 0
 else if low (bN s i)=true then 2
 else if iH (bN s i)=true then 3
 else if ik (bN s i)=true then 4
 else if 0<cr s i then 5 else 1
def cM (s:ByteArray) (i:Nat):Nat:=
 if aO s i=0 then i
 else if aO s i=1 then i+1
 else if aO s i=5 then i+cr s i
 else cN s (aO s i) i
structure Tok where
 kind:Nat
 pos:Nat
 text:ByteArray
def next (s:ByteArray) (p:Nat):Tok:=
 let i:=skip s p
 if s.size≤i then⟨0,s.size,ByteArray.empty⟩else⟨aO s i,i,s.extract i (cM s i)⟩
def dP (s:ByteArray):List Tok→Prop
 | []=>False
 | [t]=>t.kind=0
 | t :: u :: r=>t.kind≠0∧u=next s (t.pos+t.text.size)∧dP s (u :: r)
abbrev dH (α:Type):=Sum (Nat×Nat) (α×List Tok)
def hd (l:List Tok):Tok:=l.headD ⟨0,0,ByteArray.empty⟩
def sees (l:List Tok) (g:List UInt8):Bool:=(hd l).kind == 5&&(hd l).text.toList == g
def bad {α:Type} (e:Nat) (l:List Tok):dH α:= .inl (e,(hd l).pos)
structure Tm where
 kind:Nat
 text:ByteArray
 args:List Tm
def bG (p:List Tok→dH Tm):Nat→List Tok→dH (List Tm)
 | k,l=>
  match p l with
  | .inl e=> .inl e
  | .inr (t,l1)=>
   if sees l1 [44]=true then
    match k with
    | 0=>bad 3 l1
    | k+1=>
     match bG p k l1.tail with
     | .inl e=> .inl e
     | .inr (ts,l2)=> .inr (t :: ts,l2)
   else if sees l1 [41]=true then .inr ([t],l1.tail)else bad 2 l1
def begins (t:Tok):Bool:=t.kind == 2||t.kind == 3||t.kind == 4
def term:Nat→List Tok→dH Tm
 | 0,l=>if begins (hd l)=true then bad 3 l else bad 2 l
 | f+1,l=>
  if begins (hd l)=true then
   if(hd l).kind=4∧6<(hd l).text.size then bad 3 l
   else if(hd l).kind=2 then
    if sees l.tail [40]=true then
     match bG (term f) 2 l.tail.tail with
     | .inl e=> .inl e
     | .inr (ts,l2)=> .inr (⟨2,(hd l).text,ts⟩,l2)
    else .inr (⟨2,(hd l).text,[]⟩,l.tail)
   else .inr (⟨(hd l).kind,(hd l).text,[]⟩,l.tail)
  else bad 2 l
structure aC where
 left:Tm
 sign:List UInt8
 right:Option Tm
 op:List UInt8
 last:Option Tm
def br (l:List Tok):Bool:=sees l [60]||sees l [61,60]||sees l [61,61]||sees l [92,61]
def gB (l:List Tok):Bool:=sees l [43]||sees l [45]||sees l [42]
def isInt (t:Tm):Bool:=t.kind == 2&&t.text.toList == [105,110,116]&&t.args.length == 1
def operand (l:List Tok):dH Tm:=if(hd l).kind=2 then bad 2 l else term 8 l
def sides (left:Tm) (fits:Bool) (l:List Tok):dH aC:=
 if fits=true then
  match term 8 l.tail with
  | .inl e=> .inl e
  | .inr (r,l2)=> .inr (⟨left,(hd l).text.toList,some r,[],none⟩,l2)
 else bad 2 l
def assignment (left:Tm) (fits:Bool) (l:List Tok):dH aC:=
 if fits=true then
  match operand l.tail with
  | .inl e=> .inl e
  | .inr (r,l2)=>
   if gB l2=true then
    match operand l2.tail with
    | .inl e=> .inl e
    | .inr (z,l3)=> .inr (⟨left,(hd l).text.toList,some r,(hd l2).text.toList,some z⟩,l3)
   else .inr (⟨left,(hd l).text.toList,some r,[],none⟩,l2)
 else bad 2 l
def item (tests goals:Bool) (l:List Tok):dH (aC×Bool×Bool):=
 match term 8 l with
 | .inl e=> .inl e
 | .inr (t,l1)=>
  if br l1=true then
   match sides t tests l1 with
   | .inl e=> .inl e
   | .inr (x,l2)=> .inr ((x,tests,false),l2)
  else if sees l1 [61]=true then
   match sides t goals l1 with
   | .inl e=> .inl e
   | .inr (x,l2)=> .inr ((x,false,goals),l2)
  else if t.kind=3∧sees l1 [58,61]=true then
   match assignment t goals l1 with
   | .inl e=> .inl e
   | .inr (x,l2)=> .inr ((x,false,goals),l2)
  else if t.kind=2∧((tests&&isInt t)||goals)=true then
   .inr ((⟨t,[],none,[],none⟩,tests&&isInt t,goals),l1)
  else bad 2 l1
def items:Nat→Bool→Bool→List Tok→dH (List aC×Bool×Bool)
 | k,tests,goals,l=>
  match item tests goals l with
  | .inl e=> .inl e
  | .inr ((x,t1,g1),l1)=>
   if sees l1 [44]=true then
    match k with
    | 0=>bad 3 l1
    | k+1=>
     match items k t1 g1 l1.tail with
     | .inl e=> .inl e
     | .inr ((xs,t2,g2),l2)=> .inr ((x :: xs,t2,g2),l2)
   else .inr (([x],t1,g1),l1)
structure aG where
 head:Tm
 tests:List aC
 goals:List aC
def body (l:List Tok):dH (List aC×List aC):=
 match items 5 true true l with
 | .inl e=> .inl e
 | .inr ((xs,t,g),l1)=>
  if t=true∧sees l1 [124]=true then
   match items 5 false true l1.tail with
   | .inl e=> .inl e
   | .inr ((ys,_,g2),l2)=>if g2=true then .inr ((xs,ys),l2)else bad 2 l2
  else if g=true then .inr (([],xs),l1)else bad 2 l1
def stop {α:Type} (x:α) (l:List Tok):dH α:=if sees l [46]=true then .inr (x,l.tail)else bad 2 l
def clause (more:Bool) (l:List Tok):dH aG:=
 if(hd l).kind=2 then
  if more=true then
   match term 8 l with
   | .inl e=> .inl e
   | .inr (h,l1)=>
    if sees l1 [58,45]=true then
     match body l1.tail with
     | .inl e=> .inl e
     | .inr ((ts,gs),l2)=>stop ⟨h,ts,gs⟩ l2
    else stop ⟨h,[],[]⟩ l1
  else bad 3 l
 else bad 2 l
def prog:Nat→List Tok→dH (List aG)
 | k,l=>
  if(hd l).kind=0 then .inr ([],l)
  else match k with
   | 0=>match clause false l with
    | .inl e=> .inl e
    | .inr (c,l1)=> .inr ([c],l1)
   | k+1=>
    match clause true l with
    | .inl e=> .inl e
    | .inr (c,l1)=>
     match prog k l1 with
     | .inl e=> .inl e
     | .inr (cs,l2)=> .inr (c :: cs,l2)
theorem gP {s:ByteArray} {i:Nat} (h:i<s.size):bN s i=(s[i]'h).toNat:=by simp[bN,h]
theorem yJ {s:ByteArray} {i:Nat} (h:i<s.size) (hb:blank (bN s i)=true):skip s i=skip s (i+1):=by
 unfold skip
 rw[show s.size - i=(s.size - (i+1))+1 by omega,pE,if_pos ⟨h,hb⟩]
theorem pF {s:ByteArray} {i:Nat} (h:¬(i<s.size∧blank (bN s i)=true)):skip s i=i:=by
 unfold skip
 cases hn:s.size - i with
 | zero=>rfl
 | succ n=>rw[pE,if_neg h]
theorem JN (s:ByteArray) (n i:Nat):i≤pE s n i:=by
 induction n generalizing i with
 | zero=>exact Nat.le_refl _
 | succ n ih=>rw[pE];split
              ·have:=ih (i+1);omega
              ·omega
theorem oq (s:ByteArray) (i:Nat):i≤skip s i:=JN _ _ _
theorem JO (s:ByteArray) (n i:Nat) (h:i≤s.size):pE s n i≤s.size:=by
 induction n generalizing i with
 | zero=>exact h
 | succ n ih=>rw[pE];split
              ·exact ih _ (by omega)
              ·exact h
theorem NF {s:ByteArray} {i:Nat} (h:i≤s.size):skip s i≤s.size:=JO _ _ _ h
theorem oH {s:ByteArray} {k i:Nat} (h:i<s.size) (hb:cV k (bN s i)=true):cN s k i=cN s k (i+1):=by
 unfold cN
 rw[show s.size - i=(s.size - (i+1))+1 by omega,jz,if_pos ⟨h,hb⟩]
theorem oI {s:ByteArray} {k i:Nat} (h:¬(i<s.size∧cV k (bN s i)=true)):cN s k i=i:=by
 unfold cN
 cases hn:s.size - i with
 | zero=>rfl
 | succ n=>rw[jz,if_neg h]
theorem JP (s:ByteArray) (k n i:Nat):i≤jz s k n i:=by
 induction n generalizing i with
 | zero=>exact Nat.le_refl _
 | succ n ih=>rw[jz];split
              ·have:=ih (i+1);omega
              ·omega
theorem EI (s:ByteArray) (k i:Nat):i≤cN s k i:=JP _ _ _ _
theorem JQ (s:ByteArray) (k n i:Nat) (h:i≤s.size):jz s k n i≤s.size:=by
 induction n generalizing i with
 | zero=>exact h
 | succ n ih=>rw[jz];split
              ·exact ih _ (by omega)
              ·exact h
theorem EJ {s:ByteArray} {k i:Nat} (h:i≤s.size):cN s k i≤s.size:=JQ _ _ _ _ h
theorem Ay {s:ByteArray} {i:Nat} (h:i≤s.size):i+cr s i≤s.size:=by unfold cr;split<;>(try split)<;>omega
theorem Gv (s:ByteArray) (i:Nat):aO s i≤5:=by
 unfold aO
 repeat' split
 all_goals omega
theorem p9 {s:ByteArray} {i:Nat}:aO s i=0↔s.size≤i:=by
 unfold aO;repeat' split
 all_goals simp_all
theorem oJ {s:ByteArray} {i:Nat} (h:i<s.size):i<cM s i:=by
 unfold cM
 have h0:aO s i≠0:=by rw[Ne,p9];omega
 rw[if_neg h0]
 by_cases h1:aO s i=1
 ·rw[if_pos h1];omega
 ·rw[if_neg h1]
  by_cases h5:aO s i=5
  ·rw[if_pos h5]
   unfold aO at h5
   rw[if_neg (by omega)]at h5
   by_cases hp:0<cr s i
   ·omega
   ·repeat' split at h5
    all_goals omega
  ·rw[if_neg h5]
   have hw:cV (aO s i) (bN s i)=true:=by
    unfold aO at h0 h1 h5⊢
    rw[if_neg (by omega)]at h0 h1 h5⊢
    by_cases a:low (bN s i)=true
    ·simp[a,cV]
    ·rw[if_neg a]at h0 h1 h5⊢
     by_cases b:iH (bN s i)=true
     ·simp[b,cV]
     ·rw[if_neg b]at h0 h1 h5⊢
      by_cases c:ik (bN s i)=true
      ·simp[c,cV]
      ·rw[if_neg c]at h0 h1 h5
       by_cases d:0<cr s i
       ·rw[if_pos d]at h5;exact absurd rfl h5
       ·rw[if_neg d]at h1;exact absurd rfl h1
   rw[oH h hw]
   have:=EI s (aO s i) (i+1)
   omega
theorem vp {s:ByteArray} {i:Nat} (h:i<s.size):cM s i≤s.size:=by
 unfold cM
 repeat' split
 ·omega
 ·omega
 ·exact Ay (by omega)
 ·exact EJ (by omega)
theorem vq {s:ByteArray} {p:Nat} (h:s.size≤skip s p):next s p=⟨0,s.size,ByteArray.empty⟩:=by simp[next,h]
theorem oK {s:ByteArray} {p:Nat} (h:skip s p<s.size):next s p=⟨aO s (skip s p),skip s p,s.extract (skip s p) (cM s (skip s p))⟩:=by
 simp[next,show¬s.size≤skip s p by omega]
theorem xS {s:ByteArray} {p:Nat} (h:skip s p<s.size):(next s p).text.size=cM s (skip s p) - skip s p:=by
 rw[oK h];simp[ByteArray.size_extract]
 have:=vp h;omega
theorem mS {s:ByteArray} {p:Nat} (h:skip s p<s.size):(next s p).pos+(next s p).text.size=cM s (skip s p):=by
 rw[xS h,oK h];have:=oJ h;simp;omega
theorem kQ {s:ByteArray} {p:Nat}:(next s p).kind=0↔s.size≤skip s p:=by
 by_cases h:s.size≤skip s p
 ·simp[vq h,h]
 ·rw[oK (by omega)];simp[p9]
theorem rR {s:ByteArray} {p:Nat}:(next s p).pos+(next s p).text.size≤s.size:=by
 by_cases h:skip s p<s.size
 ·rw[mS h];exact vp h
 ·rw[vq (by omega)];simp
theorem JR (s:ByteArray) (n p:Nat) (h:s.size - p≤n):∃l,dP s (next s p :: l):=by
 induction n generalizing p with
 | zero=>exact⟨[],by rw[dP,kQ];have:=oq s p;omega⟩
 | succ n ih=>
  by_cases hk:s.size≤skip s p
  ·exact⟨[],by rw[dP,kQ];exact hk⟩
  ·have hk':skip s p<s.size:=by omega
   have hb:=mS hk'
   have hg:=oJ hk'
   have hs:=oq s p
   obtain⟨l,hl⟩:=ih ((next s p).pos+(next s p).text.size) (by omega)
   exact⟨next s ((next s p).pos+(next s p).text.size) :: l,fun e=>hk (kQ.1 e),rfl,hl⟩
theorem dP.tail {s:ByteArray} {l:List Tok} (h:dP s l) (h0:(hd l).kind≠0):dP s l.tail∧hd l.tail=next s ((hd l).pos+(hd l).text.size)∧l=hd l :: l.tail:=by
 match l,h with
 | [t],h=>exact absurd h h0
 | t :: u :: r,h=>exact⟨h.2.2,h.2.1,rfl⟩
theorem cK {l:List Tok} {g:List UInt8} (h:sees l g=true):(hd l).kind=5:=by
 simp[sees]at h;exact h.1
def rS (ys:List aC) (r:dH (List aC×Bool×Bool)):dH (List aC×Bool×Bool):=match r with
 | .inl e=> .inl e
 | .inr ((xs,t,g),l2)=> .inr ((ys++xs,t,g),l2)
theorem JS (r:dH (List aC×Bool×Bool)):rS [] r=r:=by rcases r with e | ⟨⟨us,t,g⟩,l2⟩<;>rfl
theorem Gw (a b:List aC) (r:dH (List aC×Bool×Bool)):rS a (rS b r)=rS (a++b) r:=by rcases r with e | ⟨⟨us,t,g⟩,l2⟩<;>simp[rS]
theorem Az {α:Type} {x:α} {l:List Tok} (h:sees l [46]=true):stop x l= .inr (x,l.tail):=by unfold stop;rw[if_pos h]
theorem DB {α:Type} {x:α} {l:List Tok} (h:sees l [46]=false):stop x l=bad 2 l:=by unfold stop;rw[if_neg (by simp[h])]
theorem Dg {m:Bool} {l:List Tok} (h:(hd l).kind≠2):clause m l=bad 2 l:=by unfold clause;rw[if_neg h]
theorem Dh {l:List Tok} (h:(hd l).kind=2):clause false l=bad 3 l:=by unfold clause;rw[if_pos h,if_neg (by simp)]
theorem EK {l:List Tok} {e:Nat×Nat} (h:(hd l).kind=2) (hT:term 8 l= .inl e):clause true l= .inl e:=by unfold clause;rw[if_pos h,if_pos rfl,hT]
theorem Di {l l1:List Tok} {t:Tm} (h:(hd l).kind=2) (hT:term 8 l= .inr (t,l1)) (hn:sees l1 [58,45]=false):clause true l=stop ⟨t,[],[]⟩ l1:=by
 unfold clause;rw[if_pos h,if_pos rfl,hT];dsimp only;rw[if_neg (by simp[hn])]
theorem Dj {l l1:List Tok} {t:Tm} {e:Nat×Nat} (h:(hd l).kind=2) (hT:term 8 l= .inr (t,l1)) (hn:sees l1 [58,45]=true) (hb:body l1.tail= .inl e):clause true l= .inl e:=by
 unfold clause;rw[if_pos h,if_pos rfl,hT];dsimp only;rw[if_pos hn,hb]
theorem Dk {l l1 l2:List Tok} {t:Tm} {ts gs:List aC} (h:(hd l).kind=2) (hT:term 8 l= .inr (t,l1)) (hn:sees l1 [58,45]=true) (hb:body l1.tail= .inr ((ts,gs),l2)):clause true l=stop ⟨t,ts,gs⟩ l2:=by
 unfold clause;rw[if_pos h,if_pos rfl,hT];dsimp only;rw[if_pos hn,hb]
theorem JT {l:List Tok} {e:Nat×Nat} (h:items 5 true true l= .inl e):body l= .inl e:=by unfold body;rw[h]
theorem rT {l l1:List Tok} {xs:List aC} {g:Bool} {e:Nat×Nat} (h:items 5 true true l= .inr ((xs,true,g),l1)) (hb:sees l1 [124]=true) (h2:items 5 false true l1.tail= .inl e):body l= .inl e:=by
 unfold body;rw[h];dsimp only;rw[if_pos ⟨rfl,hb⟩,h2]
theorem AE {l l1 l2:List Tok} {xs ys:List aC} {g t2:Bool} (h:items 5 true true l= .inr ((xs,true,g),l1)) (hb:sees l1 [124]=true) (h2:items 5 false true l1.tail= .inr ((ys,t2,true),l2)):body l= .inr ((xs,ys),l2):=by
 unfold body;rw[h];dsimp only;rw[if_pos ⟨rfl,hb⟩,h2];rfl
theorem uF {l l1 l2:List Tok} {xs ys:List aC} {g t2:Bool} (h:items 5 true true l= .inr ((xs,true,g),l1)) (hb:sees l1 [124]=true) (h2:items 5 false true l1.tail= .inr ((ys,t2,false),l2)):body l=bad 2 l2:=by
 unfold body;rw[h];dsimp only;rw[if_pos ⟨rfl,hb⟩,h2];rfl
theorem wI {l l1:List Tok} {xs:List aC} {t:Bool} (h:items 5 true true l= .inr ((xs,t,true),l1)) (hb:¬(t=true∧sees l1 [124]=true)):body l= .inr (([],xs),l1):=by
 unfold body;rw[h];dsimp only;rw[if_neg hb,if_pos rfl]
theorem rF {l l1:List Tok} {xs:List aC} {t:Bool} (h:items 5 true true l= .inr ((xs,t,false),l1)) (hb:¬(t=true∧sees l1 [124]=true)):body l=bad 2 l1:=by
 unfold body;rw[h];dsimp only;rw[if_neg hb,if_neg (by simp)]
def vt (ys:List aG) (r:dH (List aG)):dH (List aG):=match r with
 | .inl e=> .inl e
 | .inr (xs,l2)=> .inr (ys++xs,l2)
theorem JU (r:dH (List aG)):vt [] r=r:=by rcases r with e | ⟨us,l2⟩<;>rfl
theorem Gx (a b:List aG) (r:dH (List aG)):vt a (vt b r)=vt (a++b) r:=by rcases r with e | ⟨us,l2⟩<;>simp[vt]
theorem JW {k:Nat} {l:List Tok} (h:(hd l).kind=0):prog k l= .inr ([],l):=by unfold prog;rw[if_pos h]
theorem AH (l:List Tok):∃e,clause false l= .inl e:=by
 unfold clause
 by_cases h:(hd l).kind=2
 ·rw[if_pos h,if_neg (by simp)];exact⟨_,rfl⟩
 ·rw[if_neg h];exact⟨_,rfl⟩
theorem JX {n:Nat} {l:List Tok} {e:Nat×Nat} (hn:n≤12) (h:(hd l).kind≠0) (hc:clause (decide (n<12)) l= .inl e):prog (12 - n) l= .inl e:=by
 by_cases h12:n<12
 ·rw[show 12 - n=(12 - (n+1))+1 by omega,prog,if_neg h]
  rw[decide_eq_true h12]at hc
  rw[hc]
 ·rw[show 12 - n=0 by omega,prog,if_neg h]
  rw[decide_eq_false h12]at hc
  rw[hc]
theorem Gy {n:Nat} {l l1:List Tok} {c:aG} (h:(hd l).kind≠0) (hc:clause (decide (n<12)) l= .inr (c,l1)):n<12∧prog (12 - n) l=vt [c] (prog (12 - (n+1)) l1):=by
 by_cases h12:n<12
 ·refine⟨h12,?_⟩
  rw[show 12 - n=(12 - (n+1))+1 by omega,prog,if_neg h]
  rw[decide_eq_true h12]at hc
  rw[hc]
  dsimp only
  rcases prog (12 - (n+1)) l1 with e | ⟨us,l2⟩<;>rfl
 ·rw[decide_eq_false h12]at hc
  obtain⟨e,he⟩:=AH l
  rw[he]at hc;cases hc
def EL (r:dH (List aG)):Nat:=match r with
 | .inl e=>e.1
 | .inr _=>0
def posOf (r:dH (List aG)):Nat:=match r with
 | .inl e=>e.2
 | .inr _=>0
def lC (l:List UInt8):Nat:=l.foldl (fun v b=>v*10+(b.toNat+208) % 256) 0
def numOf (x:ByteArray):Nat:=lC x.toList
theorem rU (l:List UInt8) (b:UInt8):lC (l++[b])=lC l*10+(b.toNat+208) % 256:=by simp[lC]
theorem NI (l:List UInt8):∀v m:Nat,9*v+255≤255*m→9*l.foldl (fun v b=>v*10+(b.toNat+208) % 256) v+255≤255*(m*10 ^ l.length):=by
 induction l with
 | nil=>intro v m h;simpa using h
 | cons b r ih=>
  intro v m h
  have:=ih (v*10+(b.toNat+208) % 256) (m*10) (by omega)
  rw[List.foldl_cons,List.length_cons,Nat.pow_succ,Nat.mul_comm (10 ^ r.length) 10,←Nat.mul_assoc m 10]
  exact this
theorem DC (l:List UInt8) (h:l.length≤6):lC l≤28333333:=by
 have:=NI l 0 1 (by omega)
 have h6:10 ^ l.length≤10 ^ 6:=Nat.pow_le_pow_right (by omega) h
 unfold lC
 generalize 10 ^ l.length=q at*
 omega
end Za
namespace Go.Proofs.YthfjnfcekeknlaaGreatDoor
def bK {α β:Type} (R:α→β→Prop):List α→List β→Prop
 | [],[]=>True
 | a :: xs,b :: ys=>R a b∧bK R xs ys
 | _,_=>False
theorem bK.imp {α β:Type} {R S:α→β→Prop} (h:∀a b,R a b→S a b):∀{xs:List α} {ys:List β},bK R xs ys→bK S xs ys
 | [],[],_=>trivial
 | _ :: _,_ :: _,q=>⟨h _ _ q.1,bK.imp h q.2⟩
theorem bK.length {α β:Type} {R:α→β→Prop}:∀{xs:List α} {ys:List β},bK R xs ys→xs.length=ys.length
 | [],[],_=>rfl
 | _ :: _,_ :: _,q=>by simp[bK.length q.2]
theorem bK.snoc {α β:Type} {R:α→β→Prop} {a:α} {b:β} (h:R a b):∀{xs:List α} {ys:List β},bK R xs ys→bK R (xs++[a]) (ys++[b])
 | [],[],_=>⟨h,trivial⟩
 | _ :: _,_ :: _,q=>⟨q.1,bK.snoc h q.2⟩
open Go
theorem JY {g:ByteArray} {k:Nat} (h:k<g.size):Za.lC (g.toList.take (k+1))=Za.lC (g.toList.take k)*10+(g[k].toNat+208) % 256:=by
 rw[←Za.rU]
 congr 1
 obtain⟨d⟩:=g
 rw[ByteArray.toList_mk]
 have h':k<d.toList.length:=by rw[Array.length_toList];exact h
 rw[List.take_add_one,List.getElem?_eq_getElem h']
 rfl
theorem NJ (g:ByteArray):Za.lC (g.toList.take g.size)=Za.numOf g:=by
 obtain⟨d⟩:=g
 unfold Za.numOf
 rw[ByteArray.toList_mk]
 congr 1
 exact List.take_of_length_le (by simp[ByteArray.size])
end Go.Proofs.YthfjnfcekeknlaaGreatDoor
namespace Za
def cW (ns:List (List UInt8)) (x:List UInt8):List (List UInt8):=if x∈ns then ns else ns++[x]
def argS:List (List UInt8)→List UInt8
 | []=>[]
 | x :: xs=>40 :: x++xs.flatMap (fun y=>44 :: y)++[41]
def strF:Nat→List (List UInt8)→Tm→List UInt8
 | 0,_,_=>[]
 | f+1,N,t=>if t.kind=3 then 86 :: Go.Lib.decDigits (N.idxOf t.text.toList)else if t.kind=4 then Go.Lib.decDigits (numOf t.text)else t.text.toList++argS (t.args.map (strF f N))
def namesF:Nat→List (List UInt8)→Tm→List (List UInt8)
 | 0,ns,_=>ns
 | f+1,ns,t=>if t.kind=3 then cW ns t.text.toList else if t.kind=4 then ns else t.args.foldl (namesF f) ns
def mZ:Nat→Tm→Prop
 | 0,_=>False
 | f+1,t=>t.text.size≤240∧t.args.length≤3∧(t.kind=4→t.text.size≤6)∧∀a∈t.args,mZ f a
theorem AJ (ns:List (List UInt8)) (x:List UInt8):∃M,cW ns x=ns++M∧M.length≤1:=by
 unfold cW
 by_cases h:x∈ns
 ·rw[if_pos h];exact⟨[],by simp,by simp⟩
 ·rw[if_neg h];exact⟨[x],rfl,by simp⟩
theorem JZ (ns M:List (List UInt8)) (x:List UInt8):(cW ns x++M).idxOf x=ns.idxOf x:=by
 unfold cW
 by_cases h:x∈ns
 ·rw[if_pos h,List.idxOf_append,if_pos h]
 ·rw[if_neg h,List.append_assoc,List.idxOf_append,if_neg h]
  simp[List.idxOf_eq_length h]
theorem AK {F:List (List UInt8)→Tm→List (List UInt8)} {c:Nat}:∀(ts:List Tm),(∀t∈ts,∀ns,∃M,F ns t=ns++M∧M.length≤c)→∀ns,∃M,ts.foldl F ns=ns++M∧M.length≤ts.length*c
 | [],_,ns=>⟨[],by simp,by simp⟩
 | t :: ts,h,ns=>by
  obtain⟨M,hM,hl⟩:=h t (by simp) ns
  obtain⟨M2,hM2,hl2⟩:=AK ts (fun u hu=>h u (by simp[hu])) (F ns t)
  refine⟨M++M2,by rw[List.foldl_cons,hM2,hM,List.append_assoc],?_⟩
  rw[List.length_append,List.length_cons,Nat.add_mul]
  omega
theorem namesF_ext:∀(f:Nat) (t:Tm),mZ f t→∀ns,∃M,namesF f ns t=ns++M∧M.length≤3 ^ f
 | 0,_,h,_=>h.elim
 | f+1,t,h,ns=>by
  obtain⟨h1,h2,h3,h4⟩:=h
  unfold namesF
  by_cases hk:t.kind=3
  ·rw[if_pos hk]
   obtain⟨M,hM,hl⟩:=AJ ns t.text.toList
   exact⟨M,hM,Nat.le_trans hl (Nat.one_le_pow _ _ (by omega))⟩
  ·rw[if_neg hk]
   by_cases hk4:t.kind=4
   ·rw[if_pos hk4]
    exact⟨[],by simp,Nat.zero_le _⟩
   rw[if_neg hk4]
   obtain⟨M,hM,hl⟩:=AK (c:=3 ^ f) t.args (fun u hu=>namesF_ext f u (h4 u hu)) ns
   refine⟨M,hM,Nat.le_trans hl ?_⟩
   rw[Nat.pow_succ,Nat.mul_comm]
   exact Nat.mul_le_mul_left _ h2
def argP:List (List UInt8)→List UInt8
 | []=>[]
 | x :: xs=>40 :: x++xs.flatMap (fun y=>44 :: y)
theorem J0 {c:Nat}:∀(l:List (List UInt8)),(∀x∈l,x.length≤c)→(argP l).length≤l.length*(c+1)
 | [],_=>by simp[argP]
 | x :: xs,h=>by
  have h1:=h x (by simp)
  have:∀(ys:List (List UInt8)),(∀y∈ys,y.length≤c)→(ys.flatMap (fun y=>44 :: y)).length≤ys.length*(c+1):=by
   intro ys
   induction ys with
   | nil=>intro _;simp
   | cons y ys ih=>
    intro h
    have a:=h y (by simp)
    have b:=ih (fun z hz=>h z (by simp[hz]))
    rw[List.flatMap_cons,List.length_append,List.length_cons,List.length_cons,Nat.add_mul]
    omega
  have h2:=this xs (fun y hy=>h y (by simp[hy]))
  simp only[argP,List.cons_append,List.length_cons,List.length_append,Nat.add_mul]
  omega
theorem ng (b:ByteArray):b.toList.length=b.size:=by
 obtain⟨d⟩:=b
 rw[Go.ByteArray.toList_mk]
 simp[ByteArray.size]
def wfK:Nat→Tm→Prop
 | 0,_=>False
 | f+1,t=>(t.kind=2∨t.kind=3∨t.kind=4)∧(t.kind≠2→t.args=[])∧t.args.length≤3∧∀a∈t.args,wfK f a
theorem AL {Q:Tm→Prop} {p:List Tok→dH Tm} (hp:∀l t l1,p l= .inr (t,l1)→Q t):∀(k:Nat) (l:List Tok) (ts:List Tm) (l2:List Tok),bG p k l= .inr (ts,l2)→(∀t∈ts,Q t)∧ts.length≤k+1:=by
 intro k
 induction k with
 | zero=>
  intro l ts l2 h
  unfold bG at h
  rcases hq:p l with e | ⟨t,l1⟩
  ·rw[hq]at h;cases h
  ·rw[hq]at h
   dsimp only at h
   by_cases h1:sees l1 [44]=true
   ·rw[if_pos h1]at h;cases h
   ·rw[if_neg h1]at h
    by_cases h2:sees l1 [41]=true
    ·rw[if_pos h2]at h
     cases h
     refine⟨fun x hx=> ?_,by simp⟩
     obtain rfl:x=t:=by simpa using hx
     exact hp _ _ _ hq
    ·rw[if_neg h2]at h;cases h
 | succ k ih=>
  intro l ts l2 h
  rw[bG]at h
  rcases hq:p l with e | ⟨t,l1⟩
  ·rw[hq]at h;cases h
  ·rw[hq]at h
   dsimp only at h
   by_cases h1:sees l1 [44]=true
   ·rw[if_pos h1]at h
    rcases hr:bG p k l1.tail with e | ⟨us,l3⟩
    ·rw[hr]at h;cases h
    ·rw[hr]at h
     cases h
     obtain⟨i1,i2⟩:=ih _ _ _ hr
     refine⟨fun x hx=> ?_,by simpa using i2⟩
     rcases List.mem_cons.1 hx with rfl | hx
     ·exact hp _ _ _ hq
     ·exact i1 x hx
   ·rw[if_neg h1]at h
    by_cases h2:sees l1 [41]=true
    ·rw[if_pos h2]at h
     cases h
     refine⟨fun x hx=> ?_,by simp⟩
     obtain rfl:x=t:=by simpa using hx
     exact hp _ _ _ hq
    ·rw[if_neg h2]at h;cases h
theorem wfK_term:∀(f:Nat) (l:List Tok) (t:Tm) (l1:List Tok),term f l= .inr (t,l1)→wfK f t:=by
 intro f
 induction f with
 | zero=>intro l t l1 h;rw[term]at h;split at h<;>cases h
 | succ f ih=>
  intro l t l1 h
  rw[term]at h
  by_cases hb:begins (hd l)=true
  ·rw[if_pos hb]at h
   by_cases hc:(hd l).kind=4∧6<(hd l).text.size
   ·rw[if_pos hc]at h;cases h
   ·rw[if_neg hc]at h
    by_cases h2:(hd l).kind=2
    ·rw[if_pos h2]at h
     by_cases hs:sees l.tail [40]=true
     ·rw[if_pos hs]at h
      rcases hq:bG (term f) 2 l.tail.tail with x | ⟨us,l2⟩
      ·rw[hq]at h;cases h
      ·rw[hq]at h;cases h
       obtain⟨i1,i2⟩:=AL ih _ _ _ _ hq
       exact⟨Or.inl rfl,fun q=>absurd rfl q,i2,i1⟩
     ·rw[if_neg hs]at h;cases h
      exact⟨Or.inl rfl,fun q=>absurd rfl q,by simp,fun a ha=>by cases ha⟩
    ·rw[if_neg h2]at h;cases h
     refine⟨?_,fun _=>rfl,by simp,fun a ha=>by cases ha⟩
     unfold begins at hb
     simp at hb
     rcases hb with(h3 | h3) | h3
     ·exact Or.inl h3
     ·exact Or.inr (Or.inl h3)
     ·exact Or.inr (Or.inr h3)
  ·rw[if_neg hb]at h;cases h
theorem J1 (l:List (List UInt8)) (x:List UInt8):(cW l x).length≤l.length+1:=by
 unfold cW;split<;>simp
theorem namesK_len:∀(f:Nat) (t:Tm) (ns:List (List UInt8)),wfK f t→(namesF f ns t).length≤ns.length+3 ^ f
 | 0,_,_,h=>h.elim
 | f+1,t,ns,⟨_,_,h3,h4⟩=>by
  have hp:1≤3 ^ f:=Nat.one_le_pow _ _ (by omega)
  have hq:3 ^ (f+1)=3*3 ^ f:=by rw[Nat.pow_succ,Nat.mul_comm]
  unfold namesF
  split
  ·have:=J1 ns t.text.toList;omega
  ·split
   ·omega
   ·have:∀(ts:List Tm) (ns:List (List UInt8)),(∀u∈ts,wfK f u)→(ts.foldl (namesF f) ns).length≤ns.length+ts.length*3 ^ f:=by
     intro ts
     induction ts with
     | nil=>intro ns _;simp
     | cons u ts ih=>
      intro ns h
      have q1:=namesK_len f u ns (h u (by simp))
      have q2:=ih (namesF f ns u) (fun v hv=>h v (by simp[hv]))
      rw[List.foldl_cons,List.length_cons,Nat.add_mul]
      omega
    have q:=this t.args ns h4
    have h5:=Nat.mul_le_mul_right (3 ^ f) h3
    omega
theorem EM {l:List (List UInt8)} {x:List UInt8} (h:l.Nodup):(cW l x).Nodup:=by
 unfold cW
 split
 ·exact h
 ·rename_i q
  rw[List.nodup_append]
  refine⟨h,by simp,?_⟩
  intro a ha b hb e
  obtain rfl:b=x:=by simpa using hb
  subst e
  exact q ha
theorem namesV_ext:∀(f:Nat) (t:Tm) (ns:List (List UInt8)),∃K,namesF f ns t=ns++K
 | 0,_,ns=>⟨[],by simp[namesF]⟩
 | f+1,t,ns=>by
  unfold namesF
  split
  ·obtain⟨M,hM,_⟩:=AJ ns t.text.toList
   exact⟨M,hM⟩
  ·split
   ·exact⟨[],by simp⟩
   ·have:∀(ts:List Tm) (ns:List (List UInt8)),∃K,ts.foldl (namesF f) ns=ns++K:=by
     intro ts
     induction ts with
     | nil=>exact fun ns=>⟨[],by simp⟩
     | cons u ts ih=>
      intro ns
      obtain⟨K,hK⟩:=namesV_ext f u ns
      obtain⟨K2,hK2⟩:=ih (namesF f ns u)
      exact⟨K++K2,by rw[List.foldl_cons,hK2,hK,List.append_assoc]⟩
    exact this t.args ns
theorem qM (f:Nat) (ts:List Tm) (ns:List (List UInt8)):∃K,ts.foldl (namesF f) ns=ns++K:=by
 induction ts generalizing ns with
 | nil=>exact⟨[],by simp⟩
 | cons u ts ih=>
  obtain⟨K,hK⟩:=namesV_ext f u ns
  obtain⟨K2,hK2⟩:=ih (namesF f ns u)
  exact⟨K++K2,by rw[List.foldl_cons,hK2,hK,List.append_assoc]⟩
theorem namesF_nodup:∀(f:Nat) (t:Tm) (ns:List (List UInt8)),ns.Nodup→(namesF f ns t).Nodup
 | 0,t,ns,h=>by
  unfold namesF
  exact h
 | f+1,t,ns,h=>by
  have fold:∀(ts:List Tm) (ns:List (List UInt8)),ns.Nodup→(ts.foldl (namesF f) ns).Nodup:=by
   intro ts
   induction ts with
   | nil=>intro ns h;exact h
   | cons u ts ih=>intro ns h;exact ih _ (namesF_nodup f u ns h)
  unfold namesF
  split
  ·exact EM h
  ·split
   ·exact h
   ·exact fold _ _ h
end Za
namespace Za
open Go
theorem oL (s:ByteArray):s.data.toList.length=s.size:=by rw[←Lib.size_eq]
theorem get_eq {s:ByteArray} {i:Nat} (h:i<s.size):s.data.toList[i]'(by rw[oL];exact h)=s[i]:=by
 simp;rfl
theorem Pe {s:ByteArray} {i:Nat} (h:i+1<s.size) (a b:UInt8):((s.extract i (i+2)).toList == [a,b])=(bN s i == a.toNat&&bN s (i+1) == b.toNat):=by
 have hl:=oL s
 rw[Lib.extract_toList,show i+2 - i=2 by omega,gP (by omega),gP h]
 rw[List.drop_eq_getElem_cons (by omega),List.drop_eq_getElem_cons (by omega)]
 simp only[List.take_succ_cons,List.take_zero]
 rw[get_eq (by omega),get_eq h,Bool.eq_iff_iff]
 simp[UInt8.toNat_inj]
def from_ (s:ByteArray) (i:Nat):ByteArray:=s.extract i s.size
theorem ni {s:ByteArray} {i:Nat}:(from_ s i).size=s.size - i:=by simp[from_,ByteArray.size_extract]
theorem qN {s:ByteArray} {i j:Nat}:bN (from_ s i) j=bN s (i+j):=by
 unfold bN
 by_cases h:j<s.size - i
 ·rw[dif_pos (by simpa [from_,ByteArray.size_extract] using h),dif_pos (by omega)]
  simp[from_,ByteArray.getElem_extract]
 ·rw[dif_neg (by simpa [from_,ByteArray.size_extract] using h),dif_neg (by omega)]
theorem EN {s:ByteArray} {k i n j:Nat}:jz (from_ s i) k n j+i=jz s k n (i+j):=by
 induction n generalizing j with
 | zero=>simp[jz];omega
 | succ n ih=>
  rw[jz,jz,qN,ni]
  by_cases h:i+j<s.size∧cV k (bN s (i+j))=true
  ·rw[if_pos h,if_pos ⟨by omega,h.2⟩,ih];rfl
  ·rw[if_neg h,if_neg (by intro q;exact h ⟨by omega,q.2⟩)];omega
theorem AO {s:ByteArray} {k i:Nat}:cN (from_ s i) k 0+i=cN s k i:=by
 unfold cN
 rw[ni,EN,Nat.sub_zero];rfl
theorem rV {s:ByteArray} {i:Nat}:cr (from_ s i) 0=cr s i:=by
 unfold cr
 rw[qN,qN,ni]
 have e1:(0+1<s.size - i)=(i+1<s.size):=by rw[eq_iff_iff];omega
 have e2:(0<s.size - i)=(i<s.size):=by rw[eq_iff_iff];omega
 simp only[e1,e2,Nat.add_zero,Nat.zero_add]
theorem uG {s:ByteArray} {i:Nat}:aO (from_ s i) 0=aO s i:=by
 unfold aO
 rw[qN,ni,rV]
 have e1:(s.size - i≤0)=(s.size≤i):=by rw[eq_iff_iff];omega
 simp only[e1,Nat.add_zero]
theorem EO {s:ByteArray} {i:Nat}:cM (from_ s i) 0+i=cM s i:=by
 unfold cM
 rw[uG,rV]
 have:=@AO s (aO s i) i
 repeat' split
 all_goals omega
theorem AP {s:ByteArray} {i n:Nat} (h:i+n≤s.size):(from_ s i).extract 0 n=s.extract i (i+n):=by
 unfold from_
 rw[ByteArray.extract_extract,Nat.add_zero,Nat.min_eq_left h]
theorem AQ {s:ByteArray} {i:Nat} (h:i+1<s.size):cU (bN s i) (bN s (i+1))=(((s.extract i (i+2)).toList == [58,45])||((s.extract i (i+2)).toList == [58,61])||((s.extract i (i+2)).toList == [61,61])||((s.extract i (i+2)).toList == [92,61])||((s.extract i (i+2)).toList == [61,60])):=by
 simp only[Pe h];rfl
def shorts:List Nat:=[61,60,43,45,42,40,41,44,124,46]
theorem rW (c:Nat):fo c=true↔∃j,j<10∧shorts[j]?=some c:=by
 constructor
 ·intro h
  simp[fo]at h
  rcases h with(((((((((h | h) | h) | h) | h) | h) | h) | h) | h) | h)<;>subst h
  ·exact⟨0,by omega,rfl⟩
  ·exact⟨1,by omega,rfl⟩
  ·exact⟨2,by omega,rfl⟩
  ·exact⟨3,by omega,rfl⟩
  ·exact⟨4,by omega,rfl⟩
  ·exact⟨5,by omega,rfl⟩
  ·exact⟨6,by omega,rfl⟩
  ·exact⟨7,by omega,rfl⟩
  ·exact⟨8,by omega,rfl⟩
  ·exact⟨9,by omega,rfl⟩
 ·rintro⟨j,hj,h⟩
  have hm:=List.mem_of_getElem? h
  simp[shorts]at hm
  rcases hm with h | h | h | h | h | h | h | h | h | h<;>subst h<;>rfl
theorem EP {s:ByteArray} {i:Nat} (h:i<s.size) (hb:blank (bN s i)=true):next s i=next s (i+1):=by
 unfold next;rw[yJ h hb]
theorem Gz {s:ByteArray} {i:Nat} (h:i<s.size) (hb:blank (bN s i)=false):next s i=⟨aO s i,i,s.extract i (cM s i)⟩:=by
 have e:skip s i=i:=pF (by rw[hb];simp)
 have:=@oK s i (by rw[e];exact h)
 rw[e]at this;exact this
theorem yK {s:ByteArray} {i:Nat} (h:i<s.size) (a:low (bN s i)=true):aO s i=2∧cM s i=cN s 2 i:=by
 have e:aO s i=2:=by unfold aO;rw[if_neg (by omega),if_pos a]
 exact⟨e,by unfold cM;rw[e];rfl⟩
theorem J2 {s:ByteArray} {i:Nat} (h:i<s.size) (a:low (bN s i)=false) (b:iH (bN s i)=true):aO s i=3∧cM s i=cN s 3 i:=by
 have e:aO s i=3:=by unfold aO;rw[if_neg (by omega),if_neg (by simp[a]),if_pos b]
 exact⟨e,by unfold cM;rw[e];rfl⟩
theorem J3 {s:ByteArray} {i:Nat} (h:i<s.size) (a:low (bN s i)=false) (b:iH (bN s i)=false) (c:ik (bN s i)=true):aO s i=4∧cM s i=cN s 4 i:=by
 have e:aO s i=4:=by unfold aO;rw[if_neg (by omega),if_neg (by simp[a]),if_neg (by simp[b]),if_pos c]
 exact⟨e,by unfold cM;rw[e];rfl⟩
theorem yL {s:ByteArray} {i:Nat} (h:i<s.size) (a:low (bN s i)=false) (b:iH (bN s i)=false) (c:ik (bN s i)=false) (d:0<cr s i):aO s i=5∧cM s i=i+cr s i:=by
 have e:aO s i=5:=by unfold aO;rw[if_neg (by omega),if_neg (by simp[a]),if_neg (by simp[b]),if_neg (by simp[c]),if_pos d]
 exact⟨e,by unfold cM;rw[e];rfl⟩
end Za
namespace Za
theorem dP.len {s:ByteArray}:∀(n p:Nat) (l:List Tok),dP s l→hd l=next s p→s.size - p≤n→l.length≤n+1:=by
 intro n
 induction n with
 | zero=>
  intro p l h hh hn
  match l,h with
  | [t],_=>simp
  | t :: u :: r,h=>
   have ht:t=next s p:=hh
   have h0:t.kind≠0:=h.1
   rw[ht,Ne,kQ]at h0
   have:=oq s p
   omega
 | succ n ih=>
  intro p l h hh hn
  match l,h with
  | [t],_=>simp
  | t :: u :: r,h=>
   have ht:t=next s p:=hh
   have h0:t.kind≠0:=h.1
   have hu:u=next s (t.pos+t.text.size):=h.2.1
   rw[ht,Ne,kQ]at h0
   have h1:=oq s p
   have h2:=oJ (s:=s) (i:=skip s p) (by omega)
   have h3:t.pos+t.text.size=cM s (skip s p):=by rw[ht];exact mS (by omega)
   have:=ih (t.pos+t.text.size) (u :: r) h.2.2 hu (by omega)
   simp only[List.length_cons]at this⊢
   omega
theorem DD (s:ByteArray):∃L,dP s L∧hd L=next s 0∧(s.size≤240→L.length≤1000):=by
 obtain⟨l,hl⟩:=JR s s.size 0 (by omega)
 exact⟨_,hl,rfl,fun hs=>by have:=hl.len s.size 0 _ rfl (by omega);omega⟩
end Za
namespace Go.Proofs.YthfjnfcekeknlaaGreatDoor
open Go.RowKit
theorem hide {p:Prop} (h:p):Hid p:=h
theorem ae {p:Prop} (h:Hid p):p:=h
theorem cu {a b:Bool} (h:a=b):Ending.returned (.bool a)= .returned (.bool b):=by rw[h]
theorem cD {k:IntKind} {a b:Int} (h:a=b):Ending.returned (.int k a)= .returned (.int k b):=by rw[h]
theorem uH (c:Nat) (w:World):Calls Tryz.prog 123 #[.int .u8 (c:Int)] w fun e w'=>e= .returned (.bool (Za.blank c))∧w'=w:=by
 by_cases h1:c=32
 ·subst h1
  go_enter Tryz.func123,Tryz.ntmps123
  go_wp2
  go_ret
  exact⟨rfl,rfl⟩
 ·have e1:((c:Int) == 32)=false:=by simp;omega
  by_cases h2:c=10
  ·subst h2
   go_enter Tryz.func123,Tryz.ntmps123
   go_wp2
   go_ret
   exact⟨rfl,rfl⟩
  ·have e2:((c:Int) == 10)=false:=by simp;omega
   go_enter Tryz.func123,Tryz.ntmps123
   go_wp2
   go_ret
   exact⟨by simp[Za.blank,h1,h2],rfl⟩
theorem gV (c:Nat) (w:World):Calls Tryz.prog 124 #[.int .u8 (c:Int)] w fun e w'=>e= .returned (.bool (Za.low c))∧w'=w:=by
 by_cases h1:97≤c
 all_goals
  go_enter Tryz.func124,Tryz.ntmps124
  go_wp2
  go_ret
  exact⟨cu (by rw[Bool.eq_iff_iff];simp[Za.low];omega),rfl⟩
theorem iR (c:Nat) (w:World):Calls Tryz.prog 125 #[.int .u8 (c:Int)] w fun e w'=>e= .returned (.bool (Za.iH c))∧w'=w:=by
 by_cases h1:65≤c
 all_goals
  go_enter Tryz.func125,Tryz.ntmps125
  go_wp2
  go_ret
  exact⟨cu (by rw[Bool.eq_iff_iff];simp[Za.iH];omega),rfl⟩
theorem iZ (c:Nat) (w:World):Calls Tryz.prog 126 #[.int .u8 (c:Int)] w fun e w'=>e= .returned (.bool (Za.ik c))∧w'=w:=by
 by_cases h1:48≤c
 all_goals
  go_enter Tryz.func126,Tryz.ntmps126
  go_wp2
  go_ret
  exact⟨cu (by rw[Bool.eq_iff_iff];simp[Za.ik];omega),rfl⟩
theorem wJ (k c:Nat) (w:World):Calls Tryz.prog 175 #[.int .i64 (k:Int),.int .u8 (c:Int)] w fun e w'=>e= .returned (.bool (Za.cV k c))∧w'=w:=by
 by_cases h2:k=2
 ·subst h2
  cases hl:Za.low c
  all_goals
   go_enter Tryz.func175,Tryz.ntmps175
   go_wp2_with (first | (go_at_call 124;refine(gV _ _).mono ?_;rintro e w' ⟨rfl,rfl⟩) | (go_at_call 126;refine(iZ _ _).mono ?_;rintro e w' ⟨rfl,rfl⟩))
   go_ret
   exact⟨cu (by simp[Za.cV,hl]),rfl⟩
 ·have e2:((k:Int) == 2)=false:=by simp;omega
  by_cases h3:k=3
  ·subst h3
   cases hl:Za.low c<;>cases hd:Za.ik c
   all_goals
    go_enter Tryz.func175,Tryz.ntmps175
    go_wp2_with (first | (go_at_call 124;refine(gV _ _).mono ?_;rintro e w' ⟨rfl,rfl⟩) | (go_at_call 126;refine(iZ _ _).mono ?_;rintro e w' ⟨rfl,rfl⟩) | (go_at_call 125;refine(iR _ _).mono ?_;rintro e w' ⟨rfl,rfl⟩))
    go_ret
    exact⟨cu (by simp[Za.cV,hl,hd]),rfl⟩
  ·have e3:((k:Int) == 3)=false:=by simp;omega
   go_enter Tryz.func175,Tryz.ntmps175
   go_wp2_with (first | (go_at_call 126;refine(iZ _ _).mono ?_;rintro e w' ⟨rfl,rfl⟩))
   go_ret
   exact⟨cu (by simp[Za.cV,h2,h3]),rfl⟩
theorem qo (s:ByteArray) (p:Nat) (w:World) (hs:s.size≤maxLen) (hp:p≤s.size):
 Calls Tryz.prog 71 #[.string s,.int .i64 (p:Int)] w fun e w'=>e= .returned (.int .i64 ((Za.skip s p:Nat):Int))∧w'=w:=by
 unfold maxLen at hs
 go_enter Tryz.func71,Tryz.ntmps71
 go_wp2
 go_loop [5] (fun i=>∃k:Nat,k≤s.size∧Hid (Za.skip s k=Za.skip s p)∧i= .int .i64 k) (fun i=>s.size - (intOf i).toNat)
 case atStart=>exact⟨p,hp,rfl,rfl⟩
 case round=>
  obtain⟨k,hk,hsk,rfl⟩:=hrel
  by_cases hlt:k<s.size
  ·cases hb:Za.blank (s[k].toNat)
   ·have hst:Hid (Za.skip s p=k):=by rw[←hsk.out];exact Za.pF (by rw[Za.gP hlt,hb];simp)
    go_wp2_with (go_at_call 123;refine(uH _ _).mono ?_;rintro e w' ⟨rfl,rfl⟩)
    go_ret
    exact⟨cD (by rw[hst.out]),rfl⟩
   ·have hst:Hid (Za.skip s (k+1)=Za.skip s p):=by rw[←hsk.out];exact(Za.yJ hlt (by rw[Za.gP hlt,hb])).symm
    go_wp2_with (go_at_call 123;refine(uH _ _).mono ?_;rintro e w' ⟨rfl,rfl⟩)
    go_round
    case rel=>exact⟨k+1,by omega,hst,by go_num⟩
    case measure=>simp[intOf];omega
  ·have hst:Hid (Za.skip s p=k):=by rw[←hsk.out];exact Za.pF (by omega)
   go_wp2
   go_ret
   exact⟨cD (by rw[hst.out]),rfl⟩
theorem mA (k:Nat) (s:ByteArray) (w:World) (hs:s.size≤maxLen):
 Calls Tryz.prog 128 #[.int .i64 (k:Int),.string s] w fun e w'=>e= .returned (.int .i64 ((Za.cN s k 0:Nat):Int))∧w'=w:=by
 unfold maxLen at hs
 go_enter Tryz.func128,Tryz.ntmps128
 go_wp2
 go_loop [5] (fun i=>∃j:Nat,j≤s.size∧Hid (Za.cN s k j=Za.cN s k 0)∧i= .int .i64 j) (fun i=>s.size - (intOf i).toNat)
 case atStart=>exact⟨0,by omega,rfl,rfl⟩
 case round=>
  obtain⟨j,hj,hsk,rfl⟩:=hrel
  by_cases hlt:j<s.size
  ·cases hb:Za.cV k (s[j].toNat)
   ·have hst:Hid (Za.cN s k 0=j):=by rw[←hsk.out];exact Za.oI (by rw[Za.gP hlt,hb];simp)
    go_wp2_with (go_at_call 175;refine(wJ _ _ _).mono ?_;rintro e w' ⟨rfl,rfl⟩)
    go_ret
    exact⟨cD (by rw[hst.out]),rfl⟩
   ·have hst:Hid (Za.cN s k (j+1)=Za.cN s k 0):=by rw[←hsk.out];exact(Za.oH hlt (by rw[Za.gP hlt,hb])).symm
    go_wp2_with (go_at_call 175;refine(wJ _ _ _).mono ?_;rintro e w' ⟨rfl,rfl⟩)
    go_round
    case rel=>exact⟨j+1,by omega,hst,by go_num⟩
    case measure=>simp[intOf];omega
  ·have hst:Hid (Za.cN s k 0=j):=by rw[←hsk.out];exact Za.oI (by omega)
   go_wp2
   go_ret
   exact⟨cD (by rw[hst.out]),rfl⟩
structure dD (w:World):Prop where
 s0:w.cell? ⟨0,0,none⟩=some (.string ⟨#[58,45]⟩)
 s1:w.cell? ⟨0,1,none⟩=some (.string ⟨#[58,61]⟩)
 s2:w.cell? ⟨0,2,none⟩=some (.string ⟨#[61,61]⟩)
 s3:w.cell? ⟨0,3,none⟩=some (.string ⟨#[92,61]⟩)
 s4:w.cell? ⟨0,4,none⟩=some (.string ⟨#[61,60]⟩)
theorem jY {r:ByteArray} (h:2≤r.size) (hl:Za.cU (Za.bN r 0) (Za.bN r 1)=true):Za.cr r 0=2:=by
 unfold Za.cr;rw[if_pos ⟨by omega,hl⟩]
theorem uI {r:ByteArray} (h:0<r.size) (hl:2≤r.size→Za.cU (Za.bN r 0) (Za.bN r 1)=false) (hs:Za.fo (Za.bN r 0)=true):Za.cr r 0=1:=by
 unfold Za.cr;rw[if_neg (by rintro⟨a,b⟩;rw[hl (by omega)]at b;cases b),if_pos ⟨h,hs⟩]
theorem rX {r:ByteArray} (hl:2≤r.size→Za.cU (Za.bN r 0) (Za.bN r 1)=false) (hs:0<r.size→Za.fo (Za.bN r 0)=false):Za.cr r 0=0:=by
 unfold Za.cr;rw[if_neg (by rintro⟨a,b⟩;rw[hl (by omega)]at b;cases b),if_neg (by rintro⟨a,b⟩;rw[hs a]at b;cases b)]
def shortB:ByteArray:=⟨#[61,60,43,45,42,40,41,44,124,46]⟩
theorem yM (k:Nat) (h:k<shortB.size):Za.shorts[k]?=some (shortB[k]'h).toNat:=by
 have h':k<10:=h
 rcases(show k=0∨k=1∨k=2∨k=3∨k=4∨k=5∨k=6∨k=7∨k=8∨k=9 by omega)with rfl | rfl | rfl | rfl | rfl | rfl | rfl | rfl | rfl | rfl<;>rfl
theorem yN {r:ByteArray} {k:Nat} (h0:0<r.size) (hk:k<shortB.size) (h:(((r[0]'h0).toNat:Int) == ((shortB[k]'hk).toNat:Int))=true):Za.fo (Za.bN r 0)=true:=by
 rw[Za.rW]
 refine⟨k,hk,?_⟩
 rw[yM k hk,Za.gP h0]
 have:((r[0]'h0).toNat:Int)=((shortB[k]'hk).toNat:Int):=by simpa using h
 rw[show (r[0]'h0).toNat=(shortB[k]'hk).toNat by omega]
theorem wK {r:ByteArray} {k:Nat} (h0:0<r.size) (hk:k<shortB.size) (h:(((r[0]'h0).toNat:Int) == ((shortB[k]'hk).toNat:Int))=false) (ho:∀j,j<k→Za.shorts[j]?≠some (Za.bN r 0)):∀j,j<k+1→Za.shorts[j]?≠some (Za.bN r 0):=by
 intro j hj e
 by_cases hjk:j<k
 ·exact ho j hjk e
 ·obtain rfl:j=k:=by omega
  rw[yM j hk,Za.gP h0]at e
  have e':=Option.some.inj e
  simp[e']at h
theorem wL {c k:Nat} (h:¬k<10) (ho:∀j,j<k→Za.shorts[j]?≠some c):Za.fo c=false:=by
 cases hs:Za.fo c with
 | false=>rfl
 | true=>
  obtain⟨j,hj,e⟩:=(Za.rW c).1 hs
  exact absurd e (ho j (by omega))
theorem rY {r:ByteArray} (h:0<r.size):r.toList.isEmpty=false:=by
 rw[ByteArray.toList_eq]
 cases hx:r.data.toList with
 | nil=>have:=Za.oL r;rw[hx]at this;simp at this;omega
 | cons=>rfl
theorem mB (r:ByteArray) (w:World) (hr:r.size≤maxLen) (h:dD w):Calls Tryz.prog 127 #[.string r] w fun e w'=>e= .returned (.int .i64 ((Za.cr r 0:Nat):Int))∧∃n,w'=w.drewN n:=by
 obtain⟨s0,s1,s2,s3,s4⟩:=h
 unfold maxLen at hr
 have i0:∀w,(Instr.index 238 (.agg #[.string ⟨#[58,45]⟩,.string ⟨#[58,61]⟩,.string ⟨#[61,61]⟩,.string ⟨#[92,61]⟩,.string ⟨#[61,60]⟩]) (.int .i64 0)).run Tryz.prog w= .ok (.string ⟨#[58,45]⟩) w:=fun _=>by kernel_rfl
 have i1:∀w,(Instr.index 238 (.agg #[.string ⟨#[58,45]⟩,.string ⟨#[58,61]⟩,.string ⟨#[61,61]⟩,.string ⟨#[92,61]⟩,.string ⟨#[61,60]⟩]) (.int .i64 1)).run Tryz.prog w= .ok (.string ⟨#[58,61]⟩) w:=fun _=>by kernel_rfl
 have i2:∀w,(Instr.index 238 (.agg #[.string ⟨#[58,45]⟩,.string ⟨#[58,61]⟩,.string ⟨#[61,61]⟩,.string ⟨#[92,61]⟩,.string ⟨#[61,60]⟩]) (.int .i64 2)).run Tryz.prog w= .ok (.string ⟨#[61,61]⟩) w:=fun _=>by kernel_rfl
 have i3:∀w,(Instr.index 238 (.agg #[.string ⟨#[58,45]⟩,.string ⟨#[58,61]⟩,.string ⟨#[61,61]⟩,.string ⟨#[92,61]⟩,.string ⟨#[61,60]⟩]) (.int .i64 3)).run Tryz.prog w= .ok (.string ⟨#[92,61]⟩) w:=fun _=>by kernel_rfl
 have i4:∀w,(Instr.index 238 (.agg #[.string ⟨#[58,45]⟩,.string ⟨#[58,61]⟩,.string ⟨#[61,61]⟩,.string ⟨#[92,61]⟩,.string ⟨#[61,60]⟩]) (.int .i64 4)).run Tryz.prog w= .ok (.string ⟨#[61,60]⟩) w:=fun _=>by kernel_rfl
 have LS:Hid (2≤r.size→Za.cU (Za.bN r 0) (Za.bN r 1)=(((r.extract 0 2).toList == [58,45])||((r.extract 0 2).toList == [58,61])||((r.extract 0 2).toList == [61,61])||((r.extract 0 2).toList == [92,61])||((r.extract 0 2).toList == [61,60]))):=fun h=>Za.AQ (i:=0) (by omega)
 by_cases h2:2≤r.size
 ·cases b0:((r.extract 0 2).toList == [58,45])
  ·cases b1:((r.extract 0 2).toList == [58,61])
   ·cases b2:((r.extract 0 2).toList == [61,61])
    ·cases b3:((r.extract 0 2).toList == [92,61])
     ·cases b4:((r.extract 0 2).toList == [61,60])
      ·have LN:Hid (Za.cU (Za.bN r 0) (Za.bN r 1)=false):=by rw[Hid,LS.out h2,b0,b1,b2,b3,b4];rfl
       go_enter Tryz.func127,Tryz.ntmps127
       go_wp2
       refine wp_loop_rounds 6 ?_
       rw[rounds_succ]
       go_wp2
       rw[rounds_succ]
       go_wp2
       rw[rounds_succ]
       go_wp2
       rw[rounds_succ]
       go_wp2
       rw[rounds_succ]
       go_wp2
       rw[rounds_succ]
       go_wp2
       clear i0 i1 i2 i3 i4 b0 b1 b2 b3 b4
       go_loopw [5] (fun i wr=>∃k n:Nat,k≤10∧i= .int .i64 k∧wr=w.drewN n∧Hid (∀j,j<k→Za.shorts[j]?≠some (Za.bN r 0))) (fun i _=>10 - (intOf i).toNat)
       case atStart=>exact⟨0,0,by omega,rfl,rfl,fun j h=>absurd h (Nat.not_lt_zero _)⟩
       case round=>
        obtain⟨k,n,hk,rfl,rfl,hno⟩:=hrel
        by_cases hlt:k<10
        ·by_cases h0:0<r.size
         ·have hE:=rY h0
          have HM:Hid (∀hk:k<shortB.size,(((r[0]'h0).toNat:Int) == ((shortB[k]'hk).toNat:Int))=false→∀j,j<k+1→Za.shorts[j]?≠some (Za.bN r 0)):=fun hk h=>wK h0 hk h hno.out
          go_wp2
          go_big_region
          go_wp2
          ·go_ret
           exact⟨cD (by rw[uI h0 (fun _=>LN.out) (yN (k:=k) h0 hlt (by assumption))];rfl),n+1,rfl⟩
          ·go_roundw
           case rel=>exact⟨k+1,n+1,by omega,by go_num,rfl,HM.out hlt (by assumption)⟩
           case measure=>simp[intOf];omega
         ·exact absurd (show 0<r.size by omega) h0
        ·have hS:Hid (Za.fo (Za.bN r 0)=false):=wL hlt hno.out
         go_wp2
         go_ret
         exact⟨cD (by rw[rX (fun _=>LN.out) (fun _=>hS.out)];rfl),n,rfl⟩
      ·have LN:Hid (Za.cU (Za.bN r 0) (Za.bN r 1)=true):=by rw[Hid,LS.out h2,b0,b1,b2,b3,b4];simp
       go_enter Tryz.func127,Tryz.ntmps127
       go_wp2
       refine wp_loop_rounds 6 ?_
       rw[rounds_succ]
       go_wp2
       rw[rounds_succ]
       go_wp2
       rw[rounds_succ]
       go_wp2
       rw[rounds_succ]
       go_wp2
       rw[rounds_succ]
       go_wp2
       go_ret
       exact⟨cD (by rw[jY h2 LN.out];rfl),0,rfl⟩
     ·have LN:Hid (Za.cU (Za.bN r 0) (Za.bN r 1)=true):=by rw[Hid,LS.out h2,b0,b1,b2,b3];simp
      go_enter Tryz.func127,Tryz.ntmps127
      go_wp2
      refine wp_loop_rounds 6 ?_
      rw[rounds_succ]
      go_wp2
      rw[rounds_succ]
      go_wp2
      rw[rounds_succ]
      go_wp2
      rw[rounds_succ]
      go_wp2
      go_ret
      exact⟨cD (by rw[jY h2 LN.out];rfl),0,rfl⟩
    ·have LN:Hid (Za.cU (Za.bN r 0) (Za.bN r 1)=true):=by rw[Hid,LS.out h2,b0,b1,b2];simp
     go_enter Tryz.func127,Tryz.ntmps127
     go_wp2
     refine wp_loop_rounds 6 ?_
     rw[rounds_succ]
     go_wp2
     rw[rounds_succ]
     go_wp2
     rw[rounds_succ]
     go_wp2
     go_ret
     exact⟨cD (by rw[jY h2 LN.out];rfl),0,rfl⟩
   ·have LN:Hid (Za.cU (Za.bN r 0) (Za.bN r 1)=true):=by rw[Hid,LS.out h2,b0,b1];simp
    go_enter Tryz.func127,Tryz.ntmps127
    go_wp2
    refine wp_loop_rounds 6 ?_
    rw[rounds_succ]
    go_wp2
    rw[rounds_succ]
    go_wp2
    go_ret
    exact⟨cD (by rw[jY h2 LN.out];rfl),0,rfl⟩
  ·have LN:Hid (Za.cU (Za.bN r 0) (Za.bN r 1)=true):=by rw[Hid,LS.out h2,b0];simp
   go_enter Tryz.func127,Tryz.ntmps127
   go_wp2
   refine wp_loop_rounds 6 ?_
   rw[rounds_succ]
   go_wp2
   go_ret
   exact⟨cD (by rw[jY h2 LN.out];rfl),0,rfl⟩
 ·have LN:Hid (2≤r.size→Za.cU (Za.bN r 0) (Za.bN r 1)=false):=fun h=>absurd h h2
  go_enter Tryz.func127,Tryz.ntmps127
  go_wp2
  refine wp_loop_rounds 6 ?_
  rw[rounds_succ]
  go_wp2
  rw[rounds_succ]
  go_wp2
  rw[rounds_succ]
  go_wp2
  rw[rounds_succ]
  go_wp2
  rw[rounds_succ]
  go_wp2
  rw[rounds_succ]
  go_wp2
  clear i0 i1 i2 i3 i4 LS
  go_loopw [5] (fun i wr=>∃k n:Nat,k≤10∧i= .int .i64 k∧wr=w.drewN n∧Hid (∀j,j<k→Za.shorts[j]?≠some (Za.bN r 0))) (fun i _=>10 - (intOf i).toNat)
  case atStart=>exact⟨0,0,by omega,rfl,rfl,fun j h=>absurd h (Nat.not_lt_zero _)⟩
  case round=>
   obtain⟨k,n,hk,rfl,rfl,hno⟩:=hrel
   by_cases hlt:k<10
   ·by_cases h0:0<r.size
    ·have hE:=rY h0
     have HM:Hid (∀hk:k<shortB.size,(((r[0]'h0).toNat:Int) == ((shortB[k]'hk).toNat:Int))=false→∀j,j<k+1→Za.shorts[j]?≠some (Za.bN r 0)):=fun hk h=>wK h0 hk h hno.out
     go_wp2
     go_big_region
     go_wp2
     ·go_ret
      exact⟨cD (by rw[uI h0 LN.out (yN (k:=k) h0 hlt (by assumption))];rfl),n+1,rfl⟩
     ·go_roundw
      case rel=>exact⟨k+1,n+1,by omega,by go_num,rfl,HM.out hlt (by assumption)⟩
      case measure=>simp[intOf];omega
    ·have hE:r.toList.isEmpty=true:=by rw[ByteArray.toList_eq];have:=Za.oL r;cases hx:r.data.toList with
      | nil=>rfl
      | cons a l=>rw[hx]at this;simp at this;omega
     have HM:Hid (∀j,j<k+1→Za.shorts[j]?≠some (Za.bN r 0)):=fun j hj e=>by
      have e0:Za.bN r 0=0:=by unfold Za.bN;rw[dif_neg h0]
      rw[e0]at e
      have hm:=List.mem_of_getElem? e
      simp[Za.shorts]at hm
     go_wp2
     go_big_region
     go_wp2
     go_roundw
     case rel=>exact⟨k+1,n+1,by omega,by go_num,rfl,HM.out⟩
     case measure=>simp[intOf];omega
   ·have hS:Hid (Za.fo (Za.bN r 0)=false):=wL hlt hno.out
    go_wp2
    go_ret
    exact⟨cD (by rw[rX LN.out (fun _=>hS.out)];rfl),n,rfl⟩
theorem dD.below {B:Nat} {w w':World} (h:dD w) (hb:Below B w w') (h0:0<B):dD w':=
 ⟨(hb.cell (p:=⟨0,0,none⟩) h0).trans h.s0,(hb.cell (p:=⟨0,1,none⟩) h0).trans h.s1,(hb.cell (p:=⟨0,2,none⟩) h0).trans h.s2,(hb.cell (p:=⟨0,3,none⟩) h0).trans h.s3,(hb.cell (p:=⟨0,4,none⟩) h0).trans h.s4⟩
theorem dD.draws {w:World} (h:dD w) (n:Nat):dD (w.drewN n):=⟨h.s0,h.s1,h.s2,h.s3,h.s4⟩
theorem NK {r:ByteArray} (h:r.size=0):Za.aO r 0=0:=by unfold Za.aO;rw[if_pos (by omega)]
theorem NL {r:ByteArray} (h:0<r.size) (a:Za.low (r[0].toNat)=true):Za.aO r 0=2:=by unfold Za.aO;rw[if_neg (by omega),Za.gP h,if_pos a]
theorem NM {r:ByteArray} (h:0<r.size) (a:Za.low (r[0].toNat)=false) (b:Za.iH (r[0].toNat)=true):Za.aO r 0=3:=by unfold Za.aO;rw[if_neg (by omega),Za.gP h,if_neg (by simp[a]),if_pos b]
theorem NN {r:ByteArray} (h:0<r.size) (a:Za.low (r[0].toNat)=false) (b:Za.iH (r[0].toNat)=false) (c:Za.ik (r[0].toNat)=true):Za.aO r 0=4:=by unfold Za.aO;rw[if_neg (by omega),Za.gP h,if_neg (by simp[a]),if_neg (by simp[b]),if_pos c]
theorem NP {r:ByteArray} (h:0<r.size) (a:Za.low (r[0].toNat)=false) (b:Za.iH (r[0].toNat)=false) (c:Za.ik (r[0].toNat)=false) (d:0<Za.cr r 0):Za.aO r 0=5:=by unfold Za.aO;rw[if_neg (by omega),Za.gP h,if_neg (by simp[a]),if_neg (by simp[b]),if_neg (by simp[c]),if_pos d]
theorem NQ {r:ByteArray} (h:0<r.size) (a:Za.low (r[0].toNat)=false) (b:Za.iH (r[0].toNat)=false) (c:Za.ik (r[0].toNat)=false) (d:¬0<Za.cr r 0):Za.aO r 0=1:=by unfold Za.aO;rw[if_neg (by omega),Za.gP h,if_neg (by simp[a]),if_neg (by simp[b]),if_neg (by simp[c]),if_neg d]
theorem J4 {r:ByteArray} (h:r.size=0):r.toList.isEmpty=true:=by
 rw[ByteArray.toList_eq]
 have:=Za.oL r
 cases hx:r.data.toList with
 | nil=>rfl
 | cons a l=>rw[hx]at this;simp at this;omega
theorem ER (r:ByteArray) (w:World) (hr:r.size≤maxLen) (h:dD w):Calls Tryz.prog 72 #[.string r] w fun e w'=>e= .returned (.int .i64 ((Za.aO r 0:Nat):Int))∧∃n,w'=w.drewN n:=by
 have hr':=hr
 unfold maxLen at hr'
 have H:=h
 by_cases h0:0<r.size
 ·have hE:=rY h0
  cases a:Za.low (r[0].toNat)
  ·cases b:Za.iH (r[0].toNat)
   ·cases c:Za.ik (r[0].toNat)
    ·by_cases d:0<Za.cr r 0
     ·have K:=hide (NP h0 a b c d)
      go_enter Tryz.func72,Tryz.ntmps72
      go_wp2_with (first | (go_at_call 124;refine(gV _ _).mono ?_;rintro e w' ⟨rfl,rfl⟩) | (go_at_call 126;refine(iZ _ _).mono ?_;rintro e w' ⟨rfl,rfl⟩) | (go_at_call 125;refine(iR _ _).mono ?_;rintro e w' ⟨rfl,rfl⟩) | (go_at_call 127;refine(mB _ _ hr H).mono ?_;rintro e w' ⟨rfl,n,rfl⟩))
      go_ret
      exact⟨cD (by rw[ae K];rfl),n,rfl⟩
     ·have K:=hide (NQ h0 a b c d)
      go_enter Tryz.func72,Tryz.ntmps72
      go_wp2_with (first | (go_at_call 124;refine(gV _ _).mono ?_;rintro e w' ⟨rfl,rfl⟩) | (go_at_call 126;refine(iZ _ _).mono ?_;rintro e w' ⟨rfl,rfl⟩) | (go_at_call 125;refine(iR _ _).mono ?_;rintro e w' ⟨rfl,rfl⟩) | (go_at_call 127;refine(mB _ _ hr H).mono ?_;rintro e w' ⟨rfl,n,rfl⟩))
      go_ret
      exact⟨cD (by rw[ae K];rfl),n,rfl⟩
    ·have K:=hide (NN h0 a b c)
     go_enter Tryz.func72,Tryz.ntmps72
     go_wp2_with (first | (go_at_call 124;refine(gV _ _).mono ?_;rintro e w' ⟨rfl,rfl⟩) | (go_at_call 126;refine(iZ _ _).mono ?_;rintro e w' ⟨rfl,rfl⟩) | (go_at_call 125;refine(iR _ _).mono ?_;rintro e w' ⟨rfl,rfl⟩))
     go_ret
     exact⟨cD (by rw[ae K];rfl),0,rfl⟩
   ·have K:=hide (NM h0 a b)
    go_enter Tryz.func72,Tryz.ntmps72
    go_wp2_with (first | (go_at_call 124;refine(gV _ _).mono ?_;rintro e w' ⟨rfl,rfl⟩) | (go_at_call 125;refine(iR _ _).mono ?_;rintro e w' ⟨rfl,rfl⟩))
    go_ret
    exact⟨cD (by rw[ae K];rfl),0,rfl⟩
  ·have K:=hide (NL h0 a)
   go_enter Tryz.func72,Tryz.ntmps72
   go_wp2_with (first | (go_at_call 124;refine(gV _ _).mono ?_;rintro e w' ⟨rfl,rfl⟩))
   go_ret
   exact⟨cD (by rw[ae K];rfl),0,rfl⟩
 ·have hE:=J4 (r:=r) (by omega)
  have K:=hide (NK (r:=r) (by omega))
  go_enter Tryz.func72,Tryz.ntmps72
  go_wp2
  go_ret
  exact⟨cD (by rw[ae K];rfl),0,rfl⟩
theorem AR (r:ByteArray) (w:World) (hr:r.size≤maxLen) (h:dD w):Calls Tryz.prog 73 #[.int .i64 ((Za.aO r 0:Nat):Int),.string r] w fun e w'=>e= .returned (.int .i64 ((Za.cM r 0:Nat):Int))∧∃n,w'=w.drewN n:=by
 have hk:=Za.Gv r 0
 have KE:Hid (Za.cM r 0=if Za.aO r 0=0 then 0 else if Za.aO r 0=1 then 0+1 else if Za.aO r 0=5 then 0+Za.cr r 0 else Za.cN r (Za.aO r 0) 0):=rfl
 generalize Za.aO r 0=k at*
 rcases(show k=0∨k=1∨k=2∨k=3∨k=4∨k=5 by omega)with rfl | rfl | rfl | rfl | rfl | rfl
 ·go_enter Tryz.func73,Tryz.ntmps73
  go_wp2_with fail
  go_ret
  exact⟨cD (by rw[KE.out];rfl),0,rfl⟩
 ·go_enter Tryz.func73,Tryz.ntmps73
  go_wp2_with fail
  go_ret
  exact⟨cD (by rw[KE.out];rfl),0,rfl⟩
 ·go_enter Tryz.func73,Tryz.ntmps73
  go_wp2_with (go_at_call 128;refine(mA 2 _ _ hr).mono ?_;rintro e w' ⟨rfl,rfl⟩)
  go_ret
  exact⟨cD (by rw[KE.out];rfl),0,rfl⟩
 ·go_enter Tryz.func73,Tryz.ntmps73
  go_wp2_with (go_at_call 128;refine(mA 3 _ _ hr).mono ?_;rintro e w' ⟨rfl,rfl⟩)
  go_ret
  exact⟨cD (by rw[KE.out];rfl),0,rfl⟩
 ·go_enter Tryz.func73,Tryz.ntmps73
  go_wp2_with (go_at_call 128;refine(mA 4 _ _ hr).mono ?_;rintro e w' ⟨rfl,rfl⟩)
  go_ret
  exact⟨cD (by rw[KE.out];rfl),0,rfl⟩
 ·go_enter Tryz.func73,Tryz.ntmps73
  go_wp2_with (go_at_call 127;refine(mB _ _ hr h).mono ?_;rintro e w' ⟨rfl,n,rfl⟩)
  go_ret
  exact⟨cD (by rw[KE.out];simp),n,rfl⟩
theorem vw (s:ByteArray) (p:Nat) (w:World) (hs:s.size≤maxLen) (hp:p≤s.size) (h:dD w) (hz:0<w.heap.size):
 Calls Tryz.prog 38 #[.string s,.int .i64 (p:Int)] w fun e w'=>e= .returned (.agg #[.int .i64 ((Za.next s p).kind:Int),.int .i64 ((Za.next s p).pos:Int),.string (Za.next s p).text])∧Below w.heap.size w w':=by
 have hs':=hs
 unfold maxLen at hs'
 have hle:=Za.NF hp
 have hge:=Za.oq s p
 by_cases he:Za.skip s p<s.size
 ·have hS:∀o,dD (w.alloc o):=fun o=>h.below ((Below.refl _ _).alloc (Nat.le_refl _) o) hz
  have hsz:(s.extract (Za.skip s p) s.size).size≤maxLen:=by rw[←Za.from_,Za.ni];omega
  have hN:=hide (Za.oK he)
  have hK:=hide (@Za.uG s (Za.skip s p))
  have hE:=hide (@Za.EO s (Za.skip s p))
  have hEl:=Za.vp he
  have hEg:=Za.oJ he
  have hX:Hid (∀n:Nat,Za.skip s p+n≤s.size→(Za.from_ s (Za.skip s p)).extract 0 n=s.extract (Za.skip s p) (Za.skip s p+n)):=fun n h=>Za.AP h
  unfold Za.from_ at hK hE hX
  go_enter Tryz.func38,Tryz.ntmps38
  go_wp2_with fail
  refine(qo s p _ hs hp).mono ?_
  rintro e w' ⟨rfl,rfl⟩
  go_wp2_with fail
  refine(ER (s.extract (Za.skip s p) s.size) _ hsz (hS _)).mono ?_
  rintro e w' ⟨rfl,n,rfl⟩
  go_wp2_with fail
  refine(AR (s.extract (Za.skip s p) s.size) _ hsz ((hS _).draws _)).mono ?_
  rintro e w' ⟨rfl,m,rfl⟩
  have hb:Za.cM (s.extract (Za.skip s p) s.size) 0+Za.skip s p=Za.cM s (Za.skip s p):=ae hE
  have hb2:Za.cM (s.extract (Za.skip s p) s.size) 0≤(s.extract (Za.skip s p) s.size).size:=by rw[ByteArray.size_extract];omega
  generalize hg:Za.cM (s.extract (Za.skip s p) s.size) 0=q at*
  have hg':=hide hg
  clear hg
  have hb':=hide hb
  clear hb
  go_wp2_with fail
  refine bodyPost_ret (v:= .agg #[.int .i64 (Za.aO (s.extract (Za.skip s p) s.size) 0:Int),.int .i64 (Za.skip s p:Int),.string ((s.extract (Za.skip s p) s.size).extract 0 q)]) (by simp[results,Tryz.results38,go_sem]) rfl ⟨?_,?_⟩
  ·rw[ae hN,ae hK,ae hX q (by rw[ByteArray.size_extract]at hb2;omega),Nat.add_comm,ae hb']
  ·exact(((below_drewN ((Below.refl _ _).alloc (Nat.le_refl _) _) _).setCell (Nat.le_refl _) _).setCell (Nat.le_refl _) _).setCell (Nat.le_refl _) _
 ·have hN:=hide (Za.vq (s:=s) (p:=p) (by omega))
  go_enter Tryz.func38,Tryz.ntmps38
  go_wp2_with fail
  refine(qo s p _ hs hp).mono ?_
  rintro e w' ⟨rfl,rfl⟩
  go_wp2_with fail
  refine bodyPost_ret (v:= .agg #[.int .i64 0,.int .i64 (s.size:Int),.string ByteArray.empty]) (by simp[results,Tryz.results38,go_sem];rfl) rfl ⟨?_,?_⟩
  ·rw[ae hN];rfl
  ·exact(Below.refl _ _).alloc (Nat.le_refl _) _
def aL (w:World) (k:Nat):Option TypeId:=match w.heap[k]? with
 | some (.cells _ t _)=>some t
 | _=>none
structure KA (b:Nat) (X:List Nat) (w w':World):Prop where
 os:w'.os=w.os
 tape:w'.tape=w.tape
 output:w'.output=w.output
 size:w.heap.size≤w'.heap.size
 block:∀k,k<w.heap.size→k∉X→(k<b∨aL w k≠some 9)→w'.heap[k]?=w.heap[k]?
theorem KA.refl (b:Nat) (X:List Nat) (w:World):KA b X w w:=⟨rfl,rfl,rfl,Nat.le_refl _,fun _ _ _ _=>rfl⟩
theorem KA.trans {b:Nat} {X:List Nat} {u v w:World} (h:KA b X u v) (k:KA b X v w):KA b X u w:=
 ⟨k.os.trans h.os,k.tape.trans h.tape,k.output.trans h.output,Nat.le_trans h.size k.size,fun i hi hX ht=>by
  have e:=h.block i hi hX ht
  rw[k.block i (Nat.lt_of_lt_of_le hi h.size) hX (by unfold aL at ht⊢;rw[e];exact ht),e]⟩
theorem KA.of_below {b:Nat} {X:List Nat} {w w':World} (h:Below w.heap.size w w'):KA b X w w':=⟨h.os,h.tape,h.output,h.size,fun k hk _ _=>h.block k hk⟩
theorem KA.drew {b:Nat} {X:List Nat} {u w:World} (h:KA b X u w):KA b X u w.drew:=h.trans (KA.of_below (Below.refl _ _).drew)
theorem KA.alloc {b:Nat} {X:List Nat} {u w:World} (h:KA b X u w) (o:Obj):KA b X u (w.alloc o):=h.trans (KA.of_below ((Below.refl _ _).alloc (Nat.le_refl _) o))
theorem KA.fB {b:Nat} {X:List Nat} {u w:World} (h:KA b X u w) {p:Addr} (hp:p.block∈X) (v:Value):KA b X u (w.setCell p v):=
 h.trans ⟨rfl,rfl,rfl,by simp[World.setCell],fun k hk hX _=>Below.heap_setCell _ _ _ _ (fun e=>hX (e ▸ hp))⟩
theorem KA.wM {b:Nat} {X:List Nat} {u w:World} (h:KA b X u w) {p:Addr} (hp:u.heap.size≤p.block) (v:Value):KA b X u (w.setCell p v):=
 ⟨h.os,h.tape,h.output,by have:=h.size;simp[World.setCell];omega,fun k hk hX ht=>(Below.heap_setCell _ _ _ _ (by omega)).trans (h.block k hk hX ht)⟩
theorem KA.mono {b:Nat} {X Y:List Nat} {u w:World} (h:KA b X u w) (hs:∀x∈X,x∈Y):KA b Y u w:=
 ⟨h.os,h.tape,h.output,h.size,fun k hk hY ht=>h.block k hk (fun e=>hY (hs k e)) ht⟩
theorem KA.forget {b:Nat} {X Y:List Nat} {u w:World} (h:KA b Y u w) (hs:∀x∈Y,x∈X∨u.heap.size≤x):KA b X u w:=
 ⟨h.os,h.tape,h.output,h.size,fun k hk hX ht=>h.block k hk (fun e=>(hs k e).elim hX (fun q=>by omega)) ht⟩
theorem KA.cell {b:Nat} {X:List Nat} {w w':World} (h:KA b X w w') {p:Addr} (hp:p.block<w.heap.size) (hX:p.block∉X) (ht:p.block<b∨aL w p.block≠some 9):w'.cell? p=w.cell? p:=World.cell?_of_block (w:=w) (h.block p.block hp hX ht)
theorem KA.frozen {b:Nat} {X:List Nat} {w w':World} (h:KA b X w w') {p:Addr} (hp:p.block<w.heap.size) (hX:p.block∉X) (ht:p.block<b∨aL w p.block≠some 9):w'.frozen? p=w.frozen? p:=World.frozen?_of_block (w:=w) (h.block p.block hp hX ht)
theorem KA.below {b:Nat} {X:List Nat} {w w':World} (h:KA b X w w') {B:Nat} (hB:B≤w.heap.size) (hb:B≤b) (hX:∀x∈X,B≤x):Below B w w':=
 ⟨h.os,h.tape,h.output,h.size,fun k hk=>h.block k (by omega) (fun e=>by have:=hX k e;omega) (Or.inl (by omega))⟩
theorem KA.grown {b:Nat} {X:List Nat} {u w w':World} {row:Option Nat} (h:KA b X u w) (hg:w.grownBy w' row) (hr:∀k,row=some k→u.heap.size≤k∨k∈X∨(b≤k∧aL w k=some 9)):KA b X u w':=
 ⟨hg.os.trans h.os,hg.tape.trans h.tape,hg.output.trans h.output,Nat.le_trans h.size hg.size,fun k hk hX ht=>by
  have e:=h.block k hk hX ht
  rw[hg.block k (Nat.lt_of_lt_of_le hk h.size) (fun q=> ?_),e]
  rcases hr k q.symm with a | a | ⟨a,c⟩
  ·omega
  ·exact hX a
  ·rcases ht with t | t
   ·omega
   ·apply t;unfold aL at c⊢;rw[←e];exact c⟩
theorem dD.ka {b:Nat} {X:List Nat} {w w':World} (h:dD w) (hk:KA b X w w') (h0:0<w.heap.size) (hX:0∉X) (hb:0<b):dD w':=
 ⟨(hk.cell (p:=⟨0,0,none⟩) h0 hX (Or.inl hb)).trans h.s0,(hk.cell (p:=⟨0,1,none⟩) h0 hX (Or.inl hb)).trans h.s1,(hk.cell (p:=⟨0,2,none⟩) h0 hX (Or.inl hb)).trans h.s2,(hk.cell (p:=⟨0,3,none⟩) h0 hX (Or.inl hb)).trans h.s3,(hk.cell (p:=⟨0,4,none⟩) h0 hX (Or.inl hb)).trans h.s4⟩
structure Rd (w:World) (rb:Nat) (s:ByteArray) (t:Za.Tok) (nv:Value) (e:Int):Prop where
 c0:w.cell? ⟨rb,0,none⟩=some (.string s)
 c1:w.cell? ⟨rb,1,none⟩=some (.int .i64 (t.kind:Int))
 c2:w.cell? ⟨rb,2,none⟩=some (.int .i64 (t.pos:Int))
 c3:w.cell? ⟨rb,3,none⟩=some (.string t.text)
 c4:w.cell? ⟨rb,4,none⟩=some nv
 c5:w.cell? ⟨rb,5,none⟩=some (.int .i64 e)
 f1:w.frozen? ⟨rb,1,none⟩=false
 f2:w.frozen? ⟨rb,2,none⟩=false
 f3:w.frozen? ⟨rb,3,none⟩=false
 f4:w.frozen? ⟨rb,4,none⟩=false
 f5:w.frozen? ⟨rb,5,none⟩=false
theorem Rd.below {B:Nat} {w w':World} {rb:Nat} {s:ByteArray} {t:Za.Tok} {nv:Value} {e:Int} (h:Rd w rb s t nv e) (hb:Below B w w') (hr:rb<B):Rd w' rb s t nv e:=
 ⟨(hb.cell (p:=⟨rb,0,none⟩) hr).trans h.c0,(hb.cell (p:=⟨rb,1,none⟩) hr).trans h.c1,(hb.cell (p:=⟨rb,2,none⟩) hr).trans h.c2,(hb.cell (p:=⟨rb,3,none⟩) hr).trans h.c3,(hb.cell (p:=⟨rb,4,none⟩) hr).trans h.c4,(hb.cell (p:=⟨rb,5,none⟩) hr).trans h.c5,
  (hb.frozen (p:=⟨rb,1,none⟩) hr).trans h.f1,(hb.frozen (p:=⟨rb,2,none⟩) hr).trans h.f2,(hb.frozen (p:=⟨rb,3,none⟩) hr).trans h.f3,(hb.frozen (p:=⟨rb,4,none⟩) hr).trans h.f4,(hb.frozen (p:=⟨rb,5,none⟩) hr).trans h.f5⟩
structure St (w:World) (rb:Nat) (s:ByteArray) (l:List Za.Tok) (ns:List ByteArray) (nv:Value) (e:Int):Prop where
 rd:Rd w rb s (Za.hd l) nv e
 own:w.ownsRow (rb+1) 9 1 nv ns.length (ns.map Value.string)
 chain:Za.dP s l
 isNext:∃p,Za.hd l=Za.next s p
 few:ns.length+l.length≤1000
 short:s.size≤240
 signs:dD w
 pos:0<rb
 lt:rb<w.heap.size
theorem St.below {w w':World} {rb:Nat} {s:ByteArray} {l:List Za.Tok} {ns:List ByteArray} {nv:Value} {e:Int} (h:St w rb s l ns nv e) (hb:Below w.heap.size w w'):St w' rb s l ns nv e:=
 ⟨h.rd.below hb h.lt,⟨h.own.1,h.own.2.imp id fun⟨g,cap,cur,a,b,c,d⟩=>⟨g,cap,cur,a,b,(hb.block g (by
  have:=Array.getElem?_eq_some_iff.1 c;exact this.1)).trans c,d⟩⟩,h.chain,h.isNext,h.few,h.short,h.signs.below hb (by have:=h.lt;omega),h.pos,by have:=hb.size;have:=h.lt;omega⟩
theorem jZ {w:World} {rb:Nat} {T:TypeId} {sz:Nat} {nv:Value} {n:Nat} {xs:List Value} (h:w.ownsRow (rb+1) T sz nv n xs) (o:Nat) (v:Value):(w.setCell ⟨rb,o,none⟩ v).ownsRow (rb+1) T sz nv n xs:=
 ownsRow_setCell_below h (by show rb<rb+1;omega) v
theorem dD.setCell {w:World} (h:dD w) {p:Addr} (hp:p.block≠0) (v:Value):dD (w.setCell p v):=by
 have k:∀o,(w.setCell p v).cell? ⟨0,o,none⟩=w.cell? ⟨0,o,none⟩:=fun o=>World.cell?_of_block (Below.heap_setCell _ _ _ _ (fun e=>hp e.symm))
 exact⟨(k 0).trans h.s0,(k 1).trans h.s1,(k 2).trans h.s2,(k 3).trans h.s3,(k 4).trans h.s4⟩
structure aj (R R':Nat→Prop) (w w':World):Prop where
 os:w'.os=w.os
 tape:w'.tape=w.tape
 output:w'.output=w.output
 size:w.heap.size≤w'.heap.size
 block:∀k,k<w.heap.size→¬R k→w'.heap[k]?=w.heap[k]?
 row:∀k,R' k→R k∨w.heap.size≤k
theorem aj.of_below {R:Nat→Prop} {w w':World} (h:Below w.heap.size w w'):aj R R w w':=⟨h.os,h.tape,h.output,h.size,fun k hk _=>h.block k hk,fun _ q=>Or.inl q⟩
theorem aj.trans {R R1 R2:Nat→Prop} {u v w:World} (h:aj R R1 u v) (k:aj R1 R2 v w):aj R R2 u w:=
 ⟨k.os.trans h.os,k.tape.trans h.tape,k.output.trans h.output,Nat.le_trans h.size k.size,fun i hi h1=>(k.block i (Nat.lt_of_lt_of_le hi h.size) (fun q=>by
  rcases h.row i q with e | e
  ·exact h1 e
  ·omega)).trans (h.block i hi h1),fun i q=>by
  rcases k.row i q with e | e
  ·exact h.row i e
  ·exact Or.inr (Nat.le_trans h.size e)⟩
theorem aj.not {R R':Nat→Prop} {w w':World} (h:aj R R' w w') {k:Nat} (hk:k<w.heap.size) (hr:¬R k):¬R' k:=fun q=>by
 rcases h.row k q with e | e
 ·exact hr e
 ·omega
theorem ah {w w':World} {b0:Nat} {T:TypeId} {sz:Nat} {v:Value} {n:Nat} {xs:List Value} (h:w.ownsRow b0 T sz v n xs) (hk:∀g,v.ownBlock=some g→w'.heap[g]?=w.heap[g]?):w'.ownsRow b0 T sz v n xs:=
 ⟨h.1,h.2.imp id fun⟨g,cap,cur,a,b,c,d⟩=>⟨g,cap,cur,a,b,(hk g (by rw[a];rfl)).trans c,d⟩⟩
theorem iL {o:Option Addr} {n cap:Nat} {k:Nat} (h:∀q,o=some q→k≠q.block):some k≠(Value.slice o n cap).ownBlock:=by
 cases o with
 | none=>simp[Value.ownBlock]
 | some q=>have:=h q rfl;simpa [Value.ownBlock] using this
theorem aj.cell {R R':Nat→Prop} {w w':World} (h:aj R R' w w') {p:Addr} (hp:p.block<w.heap.size) (hr:¬R p.block):w'.cell? p=w.cell? p:=World.cell?_of_block (w:=w) (h.block p.block hp hr)
theorem aj.down {R R':Nat→Prop} {w w':World} (h:aj R R' w w') {b:Nat} (hb:b≤w.heap.size) (hr:∀k,R k→b≤k):Below b w w':=
 ⟨h.os,h.tape,h.output,h.size,fun k hk=>h.block k (by omega) (fun q=>by have:=hr k q;omega)⟩
theorem bT (w:World) (rb:Nat) (s:ByteArray) (l:List Za.Tok) (ns:List ByteArray) (nv:Value) (e0:Int) (c:Int) (h:St w rb s l ns nv e0):
 Calls Tryz.prog 82 #[.pointer (some ⟨rb,0,none⟩),.int .i64 c] w fun e w'=>e= .returned (.tuple #[])∧St w' rb s l ns nv c∧KA rb [rb] w w':=by
 obtain⟨⟨c0,c1,c2,c3,c4,c5,f1,f2,f3,f4,f5⟩,own,chain,isn,few,short,signs,pos,lt⟩:=h
 go_enter Tryz.func82,Tryz.ntmps82
 go_wp2
 go_end0
 refine⟨rfl,⟨⟨?_,?_,?_,?_,?_,?_,?_,?_,?_,?_,?_⟩,jZ own _ _,chain,isn,few,short,signs.setCell (by show rb≠0;omega) _,pos,by simpa using lt⟩,(KA.refl _ _ _).fB (by simp) _⟩
 all_goals first | go_cell | (simp[go_sem, *];done)
theorem bl (w:World) (rb:Nat) (s:ByteArray) (l:List Za.Tok) (ns:List ByteArray) (nv:Value) (e0:Int) (g:ByteArray) (h:St w rb s l ns nv e0):
 Calls Tryz.prog 76 #[.pointer (some ⟨rb,0,none⟩),.string g] w fun e w'=>e= .returned (.bool (Za.sees l g.toList))∧w'=w:=by
 obtain⟨⟨c0,c1,c2,c3,c4,c5,f1,f2,f3,f4,f5⟩,own,chain,isn,few,short,signs,pos,lt⟩:=h
 clear own chain isn few signs
 by_cases hk:(Za.hd l).kind=5
 ·have hk':(((Za.hd l).kind:Int) == 5)=true:=by simp;omega
  have HS:=hide (show Za.sees l g.toList=((Za.hd l).text.toList == g.toList)by simp[Za.sees,hk])
  clear hk
  go_enter Tryz.func76,Tryz.ntmps76
  go_wp2
  go_ret
  exact⟨cu (by rw[ae HS]),rfl⟩
 ·have hk':(((Za.hd l).kind:Int) == 5)=false:=by simp;omega
  have HS:=hide (show Za.sees l g.toList=false by simp[Za.sees,hk])
  clear hk
  go_enter Tryz.func76,Tryz.ntmps76
  go_wp2
  go_ret
  exact⟨cu (by rw[ae HS]),rfl⟩
theorem J5 {w w1:World} {rb:Nat} {s:ByteArray} {l:List Za.Tok} {ns:List ByteArray} {nv:Value} {e0:Int} (h:St w rb s l ns nv e0) (h0:(Za.hd l).kind≠0) (hb:Below w.heap.size w w1):
 St (((w1.setCell ⟨rb,1,none⟩ (.int .i64 ((Za.next s ((Za.hd l).pos+(Za.hd l).text.size)).kind:Int))).setCell ⟨rb,2,none⟩ (.int .i64 ((Za.next s ((Za.hd l).pos+(Za.hd l).text.size)).pos:Int))).setCell ⟨rb,3,none⟩ (.string (Za.next s ((Za.hd l).pos+(Za.hd l).text.size)).text)) rb s l.tail ns nv e0∧
 KA rb [rb] w (((w1.setCell ⟨rb,1,none⟩ (.int .i64 ((Za.next s ((Za.hd l).pos+(Za.hd l).text.size)).kind:Int))).setCell ⟨rb,2,none⟩ (.int .i64 ((Za.next s ((Za.hd l).pos+(Za.hd l).text.size)).pos:Int))).setCell ⟨rb,3,none⟩ (.string (Za.next s ((Za.hd l).pos+(Za.hd l).text.size)).text)):=by
 have hk:=h.chain.tail h0
 have h1:=h.below hb
 have few:=h.few
 have hl:l.length=l.tail.length+1:=by
  rcases l with _ | ⟨a,r⟩
  ·exact absurd h.chain (by simp[Za.dP])
  ·rfl
 obtain⟨⟨d0,d1,d2,d3,d4,d5,g1,g2,g3,g4,g5⟩,own,chain,isn,few1,short,signs,pos,lt⟩:=h1
 have z:rb≠0:=by omega
 refine⟨⟨?_,jZ (jZ (jZ own _ _) _ _) _ _,hk.1,⟨_,hk.2.1⟩,by omega,short,((signs.setCell (by exact z) _).setCell (by exact z) _).setCell (by exact z) _,pos,by simpa using lt⟩,(((KA.of_below hb).fB (by simp) _).fB (by simp) _).fB (by simp) _⟩
 rw[hk.2.1]
 generalize Za.next s ((Za.hd l).pos+(Za.hd l).text.size)=t
 exact⟨by go_cell,by go_cell,by go_cell,by go_cell,by go_cell,by go_cell,by go_cell,by go_cell,by go_cell,by go_cell,by go_cell⟩
end Go.Proofs.YthfjnfcekeknlaaGreatDoor
