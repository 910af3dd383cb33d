import Derived.Test.YthfjnfcekeknlabGreatDoorGu03
import Derived.Test.YthfjnfcekeknlabGreatDoorGu32
set_option maxHeartbeats 8000000
set_option maxRecDepth 100000
namespace Zf
def NZ {α:Type} (r:dP α):Prop:=∀e,r= .inl e→e.1≠0
theorem fM {α:Type} {e:Nat} (he:e≠0) (l:List Tok):NZ (bad (α:=α) e l):=fun x hx=>by
 unfold bad at hx
 cases hx
 exact he
theorem eZ {α:Type} (x:α×List Tok):NZ (.inr x:dP α):=fun e he=>by cases he
theorem PC {p:List Tok→dP Tm} (hp:∀l,NZ (p l)):∀(k:Nat) (l:List Tok),NZ (bN p k l):=by
 intro k
 induction k with
 | zero=>
  intro l
  unfold bN
  cases hr:p l with
  | inl e=>intro x hx;cases hx;exact hp l e hr
  | inr r=>
   dsimp only
   split
   ·exact fM (by omega) _
   ·split
    ·exact eZ _
    ·exact fM (by omega) _
 | succ k ih=>
  intro l
  unfold bN
  cases hr:p l with
  | inl e=>intro x hx;cases hx;exact hp l e hr
  | inr r=>
   dsimp only
   split
   ·have:=ih r.2.tail
    cases hq:bN p k r.2.tail with
    | inl e=>intro x hx;cases hx;exact this e hq
    | inr q=>exact eZ _
   ·split
    ·exact eZ _
    ·exact fM (by omega) _
theorem nz_term:∀(f:Nat) (l:List Tok),NZ (term f l):=by
 intro f
 induction f with
 | zero=>
  intro l
  unfold term
  split
  ·exact fM (by omega) _
  ·exact fM (by omega) _
 | succ f ih=>
  intro l
  unfold term
  split
  ·split
   ·exact fM (by omega) _
   ·split
    ·split
     ·have:=PC ih 2 l.tail.tail
      cases hq:bN (term f) 2 l.tail.tail with
      | inl e=>intro x hx;cases hx;exact this e hq
      | inr q=>exact eZ _
     ·exact eZ _
    ·exact eZ _
  ·exact fM (by omega) _
theorem xZ (l:List Tok):NZ (operand l):=by
 unfold operand
 split
 ·exact fM (by omega) _
 ·exact nz_term 8 l
theorem Di (t:Tm) (b:Bool) (l:List Tok):NZ (sides t b l):=by
 unfold sides
 split
 ·cases hq:term 8 l.tail with
  | inl e=>intro x hx;cases hx;exact nz_term 8 _ e hq
  | inr q=>exact eZ _
 ·exact fM (by omega) _
theorem JZ (t:Tm) (b:Bool) (l:List Tok):NZ (assignment t b l):=by
 unfold assignment
 split
 ·cases hq:operand l.tail with
  | inl e=>intro x hx;cases hx;exact xZ _ e hq
  | inr q=>
   dsimp only
   split
   ·cases hq2:operand q.2.tail with
    | inl e=>intro x hx;cases hx;exact xZ _ e hq2
    | inr q2=>exact eZ _
   ·exact eZ _
 ·exact fM (by omega) _
theorem EY (a b:Bool) (l:List Tok):NZ (item a b l):=by
 unfold item
 cases hq:term 8 l with
 | inl e=>intro x hx;cases hx;exact nz_term 8 _ e hq
 | inr q=>
  dsimp only
  split
  ·cases h2:sides q.1 a q.2 with
   | inl e=>intro x hx;cases hx;exact Di _ _ _ e h2
   | inr q2=>exact eZ _
  ·split
   ·cases h2:sides q.1 b q.2 with
    | inl e=>intro x hx;cases hx;exact Di _ _ _ e h2
    | inr q2=>exact eZ _
   ·split
    ·cases h2:assignment q.1 b q.2 with
     | inl e=>intro x hx;cases hx;exact JZ _ _ _ e h2
     | inr q2=>exact eZ _
    ·split
     ·exact eZ _
     ·exact fM (by omega) _
theorem nz_items:∀(k:Nat) (a b:Bool) (l:List Tok),NZ (items k a b l):=by
 intro k
 induction k with
 | zero=>
  intro a b l
  unfold items
  cases hq:item a b l with
  | inl e=>intro x hx;cases hx;exact EY _ _ _ e hq
  | inr q=>
   dsimp only
   split
   ·exact fM (by omega) _
   ·exact eZ _
 | succ k ih=>
  intro a b l
  unfold items
  cases hq:item a b l with
  | inl e=>intro x hx;cases hx;exact EY _ _ _ e hq
  | inr q=>
   dsimp only
   split
   ·cases h2:items k q.1.2.1 q.1.2.2 q.2.tail with
    | inl e=>intro x hx;cases hx;exact ih _ _ _ e h2
    | inr q2=>exact eZ _
   ·exact eZ _
theorem MI (l:List Tok):NZ (query l):=by
 unfold query
 cases hq:items 5 false true l with
 | inl e=>intro x hx;cases hx;exact nz_items _ _ _ _ e hq
 | inr q=>
  dsimp only
  split
  ·exact eZ _
  ·exact fM (by omega) _
theorem PD (l:List Tok):NZ (body l):=by
 unfold body
 cases hq:items 5 true true l with
 | inl e=>intro x hx;cases hx;exact nz_items _ _ _ _ e hq
 | inr q=>
  dsimp only
  split
  ·cases h2:items 5 false true q.2.tail with
   | inl e=>intro x hx;cases hx;exact nz_items _ _ _ _ e h2
   | inr q2=>
    dsimp only
    split
    ·exact eZ _
    ·exact fM (by omega) _
  ·split
   ·exact eZ _
   ·exact fM (by omega) _
theorem EZ {α:Type} (x:α) (l:List Tok):NZ (stop x l):=by
 unfold stop
 split
 ·exact eZ _
 ·exact fM (by omega) _
theorem Ag (b:Bool) (l:List Tok):NZ (clause b l):=by
 unfold clause
 split
 ·split
  ·cases hq:term 8 l with
   | inl e=>intro x hx;cases hx;exact nz_term 8 _ e hq
   | inr q=>
    dsimp only
    split
    ·cases h2:body q.2.tail with
     | inl e=>intro x hx;cases hx;exact PD _ e h2
     | inr q2=>exact EZ _ _
    ·exact EZ _ _
  ·exact fM (by omega) _
 ·exact fM (by omega) _
theorem nz_prog:∀(k:Nat) (l:List Tok),NZ (prog k l):=by
 intro k
 induction k with
 | zero=>
  intro l
  unfold prog
  split
  ·exact eZ _
  ·cases hq:clause false l with
   | inl e=>intro x hx;cases hx;exact Ag _ _ e hq
   | inr q=>exact eZ _
 | succ k ih=>
  intro l
  unfold prog
  split
  ·exact eZ _
  ·cases hq:clause true l with
   | inl e=>intro x hx;cases hx;exact Ag _ _ e hq
   | inr q=>
    dsimp only
    cases h2:prog k q.2 with
    | inl e=>intro x hx;cases hx;exact ih _ e h2
    | inr q2=>exact eZ _
def jz (t:Tm):Nat:=size (pO 8 0 t)
theorem rJ {l l1:List Tok} {t:Tm} (h:term 8 l= .inr (t,l1)):jz t+l1.length≤l.length:=by
 obtain⟨c,h1,h2⟩:=Ha 0 8 l t l1 h
 have:=h2.2
 rw[subs_len]at this
 unfold jz
 omega
def Ah (x:aD):Nat:=jz x.left+x.right.elim 0 jz+x.last.elim 0 jz
theorem gL {l:List Tok} {g:List UInt8} (h:sees l g=true):(hd l).text.toList=g:=by
 unfold sees at h
 simp only[Bool.and_eq_true,beq_iff_eq]at h
 exact h.2
theorem Aq {l:List Tok} (h:bH l=true):((hd l).text.toList=[61,61]∨(hd l).text.toList=[92,61]∨(hd l).text.toList=[61,60]∨(hd l).text.toList=[60])∧l.length=l.tail.length+1:=by
 unfold bH at h
 simp only[Bool.or_eq_true]at h
 rcases h with((h | h) | h) | h
 ·exact⟨Or.inr (Or.inr (Or.inr (gL h))),dM h⟩
 ·exact⟨Or.inr (Or.inr (Or.inl (gL h))),dM h⟩
 ·exact⟨Or.inl (gL h),dM h⟩
 ·exact⟨Or.inr (Or.inl (gL h)),dM h⟩
theorem Ar {l:List Tok} (h:gQ l=true):(hd l).text.toList.length=1∧l.length=l.tail.length+1:=by
 unfold gQ at h
 simp only[Bool.or_eq_true]at h
 rcases h with(h | h) | h
 ·exact⟨by rw[gL h];rfl,dM h⟩
 ·exact⟨by rw[gL h];rfl,dM h⟩
 ·exact⟨by rw[gL h];rfl,dM h⟩
theorem x9 {l l1:List Tok} {t:Tm} (h:operand l= .inr (t,l1)):wfK 8 t∧jz t+l1.length≤l.length:=by
 unfold operand at h
 split at h
 ·cases h
 ·exact⟨wfK_term 8 l t l1 h,rJ h⟩
theorem Dj {t:Tm} {b:Bool} {l l2:List Tok} {x:aD} (h:sides t b l= .inr (x,l2)):b=true∧∃r,x=⟨t,(hd l).text.toList,some r,[],none⟩∧wfK 8 r∧jz r+l2.length≤l.tail.length:=by
 unfold sides at h
 split at h
 ·rename_i hb
  cases hq:term 8 l.tail with
  | inl e=>rw[hq]at h;cases h
  | inr q=>
   obtain⟨r,l3⟩:=q
   rw[hq]at h
   cases h
   exact⟨hb,r,rfl,wfK_term 8 _ r _ hq,rJ hq⟩
 ·cases h
theorem J0 {t:Tm} {b:Bool} {l l2:List Tok} {x:aD} (h:assignment t b l= .inr (x,l2)):b=true∧∃r,wfK 8 r∧((x=⟨t,(hd l).text.toList,some r,[],none⟩∧jz r+l2.length≤l.tail.length)∨∃o z,o.length=1∧wfK 8 z∧x=⟨t,(hd l).text.toList,some r,o,some z⟩∧jz r+jz z+l2.length≤l.tail.length):=by
 unfold assignment at h
 split at h
 ·rename_i hb
  cases hq:operand l.tail with
  | inl e=>rw[hq]at h;cases h
  | inr q=>
   obtain⟨r,l3⟩:=q
   rw[hq]at h
   dsimp only at h
   obtain⟨w1,s1⟩:=x9 hq
   split at h
   ·rename_i ho
    obtain⟨o1,o2⟩:=Ar ho
    cases hq2:operand l3.tail with
    | inl e=>rw[hq2]at h;cases h
    | inr q2=>
     obtain⟨z,l4⟩:=q2
     rw[hq2]at h
     cases h
     obtain⟨w2,s2⟩:=x9 hq2
     exact⟨hb,r,w1,Or.inr ⟨_,z,o1,w2,rfl,by omega⟩⟩
   ·cases h
    exact⟨hb,r,w1,Or.inl ⟨rfl,s1⟩⟩
 ·cases h
theorem E0 {a b t1 g1:Bool} {l l1:List Tok} {x:aD} (h:item a b l= .inr ((x,t1,g1),l1)):(t1=true→a=true∧gW x)∧(g1=true→b=true∧iV x)∧(a=false→b=true→g1=true)∧Ah x+l1.length≤l.length:=by
 unfold item at h
 cases hq:term 8 l with
 | inl e=>rw[hq]at h;cases h
 | inr q=>
  obtain⟨t,l2⟩:=q
  rw[hq]at h
  dsimp only at h
  have wt:=wfK_term 8 l t l2 hq
  have st:=rJ hq
  split at h
  ·rename_i hs
   obtain⟨s1,s2⟩:=Aq hs
   cases h2:sides t a l2 with
   | inl e=>rw[h2]at h;cases h
   | inr q2=>
    obtain⟨y,l3⟩:=q2
    rw[h2]at h
    obtain⟨ha,r,rfl,wr,sr⟩:=Dj h2
    cases h
    refine⟨fun _=>⟨ha,⟨wt,(fun r' q=>by cases q;exact wr),(fun q=>by cases q),(fun r' q=>by cases q;exact s1),rfl⟩⟩,(fun q=>by cases q),(fun q=>by rw[ha]at q;cases q),?_⟩
    show jz t+jz r+0+l1.length≤l.length
    omega
  ·split at h
   ·rename_i hs
    have s1:=gL hs
    have s2:=dM hs
    cases h2:sides t b l2 with
    | inl e=>rw[h2]at h;cases h
    | inr q2=>
     obtain⟨y,l3⟩:=q2
     rw[h2]at h
     obtain⟨hb,r,rfl,wr,sr⟩:=Dj h2
     cases h
     refine⟨(fun q=>by cases q),fun _=>⟨hb,⟨⟨wt,fun q=> ?_,fun _=>⟨r,rfl,wr⟩,fun _=>rfl,fun q=>absurd rfl q,fun q=>absurd rfl q⟩,Or.inr (Or.inl s1),fun q=> ?_,fun q=>absurd rfl q,by simp⟩⟩,fun _ q=>q,?_⟩
     ·change (hd l2).text.toList=[]at q;rw[s1]at q;cases q
     ·change (hd l2).text.toList=[]at q;rw[s1]at q;cases q
     ·show jz t+jz r+0+l1.length≤l.length
      omega
   ·split at h
    ·rename_i hs
     have s1:=gL hs.2
     have s2:=dM hs.2
     cases h2:assignment t b l2 with
     | inl e=>rw[h2]at h;cases h
     | inr q2=>
      obtain⟨y,l3⟩:=q2
      rw[h2]at h
      obtain⟨hb,r,wr,hx⟩:=J0 h2
      cases h
      rcases hx with⟨rfl,sr⟩ | ⟨o,z,ho,wz,rfl,sr⟩
      ·refine⟨(fun q=>by cases q),fun _=>⟨hb,⟨⟨wt,fun q=> ?_,fun _=>⟨r,rfl,wr⟩,fun _=>rfl,fun q=>absurd rfl q,fun q=>absurd rfl q⟩,Or.inr (Or.inr s1),fun q=> ?_,fun q=>absurd rfl q,by simp⟩⟩,fun _ q=>q,?_⟩
       ·change (hd l2).text.toList=[]at q;rw[s1]at q;cases q
       ·change (hd l2).text.toList=[]at q;rw[s1]at q;cases q
       ·show jz t+jz r+0+l1.length≤l.length
        omega
      ·refine⟨(fun q=>by cases q),fun _=>⟨hb,⟨⟨wt,fun q=> ?_,fun _=>⟨r,rfl,wr⟩,fun q=> ?_,fun _=>⟨z,rfl,wz⟩,fun _ q=> ?_⟩,Or.inr (Or.inr s1),fun q=> ?_,fun _=>s1,by show o.length≤2;omega⟩⟩,fun _ q=>q,?_⟩
       ·change (hd l2).text.toList=[]at q;rw[s1]at q;cases q
       ·change o=[]at q;rw[q]at ho;cases ho
       ·change (hd l2).text.toList=[]at q;rw[s1]at q;cases q
       ·change (hd l2).text.toList=[]at q;rw[s1]at q;cases q
       ·show jz t+jz r+jz z+l1.length≤l.length
        omega
    ·split at h
     ·rename_i hk
      cases h
      refine⟨fun q=> ?_,fun q=>⟨q,⟨⟨wt,fun _=>rfl,fun q=>absurd rfl q,fun _=>rfl,fun q=>absurd rfl q,fun q=>absurd rfl q⟩,Or.inl rfl,fun _=>hk.1,fun q=>absurd rfl q,by simp⟩⟩,fun _ q=>q,?_⟩
      ·simp only[Bool.and_eq_true]at q
       refine⟨q.1,⟨wt,(fun r q=>by cases q),fun _=>⟨rfl,hk.1,?_⟩,(fun r q=>by cases q),rfl⟩⟩
       have:=q.2
       unfold isInt at this
       simp only[Bool.and_eq_true,beq_iff_eq]at this
       exact this.2
      ·show jz t+0+0+l1.length≤l.length
       omega
     ·cases h
def ou (xs:List aD):Nat:=(xs.map Ah).sum
theorem items_is:∀(k:Nat) (a b t1 g1:Bool) (l l1:List Tok) (xs:List aD),items k a b l= .inr ((xs,t1,g1),l1)→(t1=true→a=true∧∀x∈xs,gW x)∧(g1=true→b=true∧∀x∈xs,iV x)∧(a=false→b=true→g1=true)∧ou xs+l1.length≤l.length∧xs.length≤k+1:=by
 intro k
 induction k with
 | zero=>
  intro a b t1 g1 l l1 xs h
  unfold items at h
  cases hq:item a b l with
  | inl e=>rw[hq]at h;cases h
  | inr q=>
   obtain⟨⟨x,t2,g2⟩,l2⟩:=q
   rw[hq]at h
   dsimp only at h
   obtain⟨h1,h2,h3,h4⟩:=E0 hq
   split at h
   ·cases h
   ·cases h
    refine⟨fun q=>⟨(h1 q).1,fun y hy=> ?_⟩,fun q=>⟨(h2 q).1,fun y hy=> ?_⟩,h3,by simpa [ou] using h4,by simp⟩
    ·rw[List.mem_singleton.1 hy];exact(h1 q).2
    ·rw[List.mem_singleton.1 hy];exact(h2 q).2
 | succ k ih=>
  intro a b t1 g1 l l1 xs h
  unfold items at h
  cases hq:item a b l with
  | inl e=>rw[hq]at h;cases h
  | inr q=>
   obtain⟨⟨x,t2,g2⟩,l2⟩:=q
   rw[hq]at h
   dsimp only at h
   obtain⟨h1,h2,h3,h4⟩:=E0 hq
   split at h
   ·rename_i hs
    have s2:=dM hs
    cases hq2:items k t2 g2 l2.tail with
    | inl e=>rw[hq2]at h;cases h
    | inr q2=>
     obtain⟨⟨ys,t3,g3⟩,l3⟩:=q2
     rw[hq2]at h
     cases h
     obtain⟨k1,k2,k3,k4,k5⟩:=ih _ _ _ _ _ _ _ hq2
     refine⟨fun q=>⟨(h1 (k1 q).1).1,fun y hy=> ?_⟩,fun q=>⟨(h2 (k2 q).1).1,fun y hy=> ?_⟩,fun qa qb=> ?_,?_,by simp;omega⟩
     ·rcases List.mem_cons.1 hy with rfl | hy
      ·exact(h1 (k1 q).1).2
      ·exact(k1 q).2 y hy
     ·rcases List.mem_cons.1 hy with rfl | hy
      ·exact(h2 (k2 q).1).2
      ·exact(k2 q).2 y hy
     ·refine k3 ?_ (h3 qa qb)
      cases ht:t2 with
      | false=>rfl
      | true=>have:=(h1 ht).1;rw[qa]at this;cases this
     ·have:ou (x :: ys)=Ah x+ou ys:=by simp[ou]
      omega
   ·cases h
    refine⟨fun q=>⟨(h1 q).1,fun y hy=> ?_⟩,fun q=>⟨(h2 q).1,fun y hy=> ?_⟩,h3,by simpa [ou] using h4,by simp⟩
    ·rw[List.mem_singleton.1 hy];exact(h1 q).2
    ·rw[List.mem_singleton.1 hy];exact(h2 q).2
theorem qf (sd:Nat):∀(f:Nat) (t:Tm) (ns:List (List UInt8)),wfK f t→(namesF f ns t).length≤ns.length+size (pO f sd t)
 | f+1,t,ns,hw=>by
  unfold namesF pO bJ
  by_cases k3:t.kind=3
  ·rw[if_pos k3,if_pos k3]
   rw[size]
   unfold dQ
   split
   ·omega
   ·simp
  ·rw[if_neg k3,if_neg k3]
   by_cases k4:t.kind=4
   ·rw[if_pos k4,if_pos k4];omega
   ·rw[if_neg k4,if_neg k4,size]
    have key:∀(ts:List Tm) (ns:List (List UInt8)),(∀u∈ts,wfK f u)→(ts.foldl (namesF f) ns).length≤ns.length+sizeL (ts.map (bJ (fun x=> .v (x,sd)) f)):=by
     intro ts
     induction ts with
     | nil=>intro ns _;simp[sizeL]
     | cons u ts ih=>
      intro ns hu
      have h1:=qf sd f u ns (hu u (by simp))
      have h2:=ih (namesF f ns u) (fun v hv=>hu v (by simp[hv]))
      rw[List.foldl_cons,List.map_cons,sizeL]
      unfold pO at h1
      omega
    have:=key t.args ns hw.2.2.2
    omega
theorem GW {x:aD} {ns:List (List UInt8)} (hl:wfK 8 x.left) (hr:∀r,x.right=some r→wfK 8 r) (hz:∀z,x.last=some z→wfK 8 z):(aL ns x).length≤ns.length+Ah x:=by
 have h1:=qf 0 8 x.left ns hl
 unfold aL Ah jz
 have nO:∀(o:Option Tm) (ns:List (List UInt8)),(∀r,o=some r→wfK 8 r)→(cL ns o).length≤ns.length+o.elim 0 (fun t=>size (pO 8 0 t)):=fun o ns ho=>by
  cases o with
  | none=>simp[cL]
  | some r=>exact qf 0 8 r ns (ho r rfl)
 have h2:=nO x.right (namesF 8 ns x.left) hr
 have h3:=nO x.last (cL (namesF 8 ns x.left) x.right) hz
 omega
theorem namesL_lsz:∀(xs:List aD) (ns:List (List UInt8)),(∀x∈xs,wfK 8 x.left∧(∀r,x.right=some r→wfK 8 r)∧(∀z,x.last=some z→wfK 8 z))→(ay ns xs).length≤ns.length+ou xs
 | [],ns,_=>by simp[ay,ou]
 | x :: xs,ns,h=>by
  have h0:=h x (by simp)
  have h1:=GW (ns:=ns) h0.1 h0.2.1 h0.2.2
  have h2:=namesL_lsz xs (aL ns x) (fun y hy=>h y (by simp[hy]))
  rw[qs]
  have:ou (x :: xs)=Ah x+ou xs:=by simp[ou]
  omega
theorem gW.wf {x:aD} (h:gW x):wfK 8 x.left∧(∀r,x.right=some r→wfK 8 r)∧(∀z,x.last=some z→wfK 8 z):=⟨h.wl,h.wr,fun z q=>by rw[h.la]at q;cases q⟩
theorem iV.wf {x:aD} (h:iV x):wfK 8 x.left∧(∀r,x.right=some r→wfK 8 r)∧(∀z,x.last=some z→wfK 8 z):=by
 refine⟨h.ok.wl,fun r q=> ?_,fun z q=> ?_⟩
 ·by_cases k:x.sign=[]
  ·rw[h.ok.r0 k]at q;cases q
  ·obtain⟨r',e,w⟩:=h.ok.r1 k
   rw[e]at q;cases q;exact w
 ·by_cases k:x.op=[]
  ·rw[h.ok.z0 k]at q;cases q
  ·obtain⟨r',e,w⟩:=h.ok.z1 k
   rw[e]at q;cases q;exact w
theorem GX {θ:Vr→U} (h:∀x,size (θ x)=1):∀u,size (sub θ u)=size u:=by
 refine U.ind (fun x=> ?_) (fun k tx num ss ih=> ?_)
 ·rw[sub,h,size]
 ·rw[ej,size,size]
  have key:∀(ss:List U),(∀a∈ss,size (sub θ a)=size a)→sizeL (ss.map (sub θ))=sizeL ss:=by
   intro ss
   induction ss with
   | nil=>intro _;rfl
   | cons a ss ih2=>
    intro hs
    rw[List.map_cons,sizeL,sizeL,hs a (by simp),ih2 (fun b hb=>hs b (by simp[hb]))]
  rw[key ss ih]
theorem yQ {η:List UInt8→U} {t:Tm} (hw:wfK 8 t) (ns:List (List UInt8)) (h:∀y∈namesF 8 ns t,size (η y)=1):size (bJ η 8 t)=jz t:=by
 rw[gN (θ:=fun y=>if y∈namesF 8 ns t then η y else .v ([],0)) 8 t ns hw (fun y hy=>(if_pos hy).symm),uu _ 0 8 t hw]
 refine GX (fun x=> ?_) _
 split
 ·rename_i q;exact h _ q
 ·rfl
theorem S5 {x:aD} {xs:List aD} (h:x∈xs):Ah x≤ou xs:=by
 unfold ou
 induction xs with
 | nil=>cases h
 | cons y ys ih=>
  rw[List.map_cons,List.sum_cons]
  rcases List.mem_cons.1 h with rfl | h
  ·omega
  ·have:=ih h;omega
theorem J1 {f:Nat} {l l1:List Tok} {t:Tm} (h:term f l= .inr (t,l1)):t.kind=(hd l).kind:=by
 cases f with
 | zero=>unfold term at h;split at h<;>cases h
 | succ f=>
  unfold term at h
  split at h
  ·split at h
   ·cases h
   ·split at h
    ·rename_i k
     split at h
     ·cases hq:bN (term f) 2 l.tail.tail with
      | inl e=>rw[hq]at h;cases h
      | inr q=>rw[hq]at h;cases h;exact k.symm
     ·cases h;exact k.symm
    ·cases h;rfl
  ·cases h
theorem PE {l l2:List Tok} {ts gs:List aD} (h:body l= .inr ((ts,gs),l2)):(∀x∈ts,gW x)∧(∀x∈gs,iV x)∧ts.length≤6∧gs.length≤6∧ou ts+ou gs+l2.length≤l.length:=by
 unfold body at h
 cases hq:items 5 true true l with
 | inl e=>rw[hq]at h;cases h
 | inr q=>
  obtain⟨⟨xs,t,g⟩,l1⟩:=q
  rw[hq]at h
  dsimp only at h
  obtain⟨h1,h2,h3,h4,h5⟩:=items_is _ _ _ _ _ _ _ _ hq
  split at h
  ·rename_i ht
   have s2:=dM ht.2
   cases hq2:items 5 false true l1.tail with
   | inl e=>rw[hq2]at h;cases h
   | inr q2=>
    obtain⟨⟨ys,t2,g2⟩,l3⟩:=q2
    rw[hq2]at h
    dsimp only at h
    obtain⟨k1,k2,k3,k4,k5⟩:=items_is _ _ _ _ _ _ _ _ hq2
    split at h
    ·rename_i hg
     cases h
     exact⟨(h1 ht.1).2,(k2 hg).2,h5,k5,by omega⟩
    ·cases h
  ·split at h
   ·rename_i hg
    cases h
    refine⟨(fun x hx=>by cases hx),(h2 hg).2,by simp,h5,?_⟩
    have:ou []=0:=rfl
    omega
   ·cases h
theorem Ai {b:Bool} {l l1:List Tok} {c:aI} (h:clause b l= .inr (c,l1)) (hl:l.length≤1000):b=true∧((∀x∈c.tests,(x.right≠none∧(x.sign=[61,60]∨x.sign=[60])))→jN c)∧(∀x∈c.goals,iV x)∧l1.length≤l.length:=by
 unfold clause at h
 split at h
 ·rename_i hk
  split at h
  ·rename_i hb
   cases hq:term 8 l with
   | inl e=>rw[hq]at h;cases h
   | inr q=>
    obtain⟨t,l2⟩:=q
    rw[hq]at h
    dsimp only at h
    have wt:=wfK_term 8 l t l2 hq
    have st:=rJ hq
    have kt:=(J1 hq).trans hk
    have hh:(namesF 8 [] t).length≤jz t:=by have:=qf 0 8 t [] wt;simpa [jz] using this
    have stop_is:∀{x:aI} {l3:List Tok},stop x l3= .inr (c,l1)→c=x∧l1.length≤l3.length:=fun {x l3} q=>by
     unfold stop at q
     split at q
     ·cases q
      exact⟨rfl,by rw[List.length_tail];omega⟩
     ·cases q
    split at h
    ·rename_i hs
     have s2:=dM hs
     cases hq2:body l2.tail with
     | inl e=>rw[hq2]at h;cases h
     | inr q2=>
      obtain⟨⟨ts,gs⟩,l3⟩:=q2
      rw[hq2]at h
      obtain⟨k1,k2,k3,k4,k5⟩:=PE hq2
      obtain⟨rfl,jE⟩:=stop_is h
      refine⟨hb,fun h0=>⟨kt,wt,k1,k3,fun x hx=>(k2 x hx).ok,k4,?_,h0⟩,k2,by omega⟩
      have n1:=namesL_lsz ts (namesF 8 [] t) (fun x hx=>(k1 x hx).wf)
      have n2:=namesL_lsz gs (ay (namesF 8 [] t) ts) (fun x hx=>(k2 x hx).wf)
      show (ay (ay (namesF 8 [] t) ts) gs).length≤100000
      omega
    ·obtain⟨rfl,jE⟩:=stop_is h
     refine⟨hb,fun h0=>⟨kt,wt,(fun x hx=>by cases hx),by simp,(fun x hx=>by cases hx),by simp,?_,h0⟩,(fun x hx=>by cases hx),by omega⟩
     show (namesF 8 [] t).length≤100000
     omega
  ·cases h
 ·cases h
theorem prog_is:∀(k:Nat) (l l1:List Tok) (cls:List aI),prog k l= .inr (cls,l1)→l.length≤1000→(∀c∈cls,((∀x∈c.tests,(x.right≠none∧(x.sign=[61,60]∨x.sign=[60])))→jN c)∧∀x∈c.goals,iV x)∧cls.length≤k:=by
 intro k
 induction k with
 | zero=>
  intro l l1 cls h hl
  unfold prog at h
  split at h
  ·cases h
   exact⟨(fun c hc=>by cases hc),by simp⟩
  ·cases hq:clause false l with
   | inl e=>rw[hq]at h;cases h
   | inr q=>
    have:=(Ai (c:=q.1) (l1:=q.2) hq hl).1
    cases this
 | succ k ih=>
  intro l l1 cls h hl
  unfold prog at h
  split at h
  ·cases h
   exact⟨(fun c hc=>by cases hc),by simp⟩
  ·cases hq:clause true l with
   | inl e=>rw[hq]at h;cases h
   | inr q=>
    obtain⟨c,l2⟩:=q
    rw[hq]at h
    dsimp only at h
    obtain⟨_,h1,h2,h3⟩:=Ai hq hl
    cases hq2:prog k l2 with
    | inl e=>rw[hq2]at h;cases h
    | inr q2=>
     obtain⟨cs,l3⟩:=q2
     rw[hq2]at h
     cases h
     obtain⟨k1,k2⟩:=ih l2 l1 cs hq2 (by omega)
     refine⟨fun d hd=> ?_,by simp;omega⟩
     rcases List.mem_cons.1 hd with rfl | hd
     ·exact⟨h1,h2⟩
     ·exact k1 d hd
end Zf
namespace Go.Proofs.YthfjnfcekeknlabGreatDoor
open Go.RowKit
theorem TU {sp:ByteArray} {LP:List Zf.Tok} {sq:ByteArray} {LQ:List Zf.Tok} (hPl:sp.size≤240→LP.length≤1000) (hQ:Zf.ek sq LQ) (hQh:Zf.hd LQ=Zf.next sq 0) (ht:∀cls l,Zf.prog 12 LP= .inr (cls,l)→∀c∈cls,∀x∈c.tests,(x.right≠none∧(x.sign=[61,60]∨x.sign=[60]))):GV sp LP sq LQ:=by
 refine⟨Zf.nz_prog 12 LP,Zf.MI LQ,fun cls l hs h=>⟨fun c hc=>⟨((Zf.prog_is 12 LP l cls h (hPl hs)).1 c hc).1 (ht cls l h c hc),((Zf.prog_is 12 LP l cls h (hPl hs)).1 c hc).2⟩,(Zf.prog_is 12 LP l cls h (hPl hs)).2⟩,fun ys l hs h=> ?_⟩
 have hlen:LQ.length≤97:=by have:=Zf.ek.len sq.size 0 LQ hQ hQh (by omega);omega
 unfold Zf.query at h
 cases hq:Zf.items 5 false true LQ with
 | inl e=>rw[hq]at h;cases h
 | inr q=>
  obtain⟨⟨xs,t,g⟩,l1⟩:=q
  rw[hq]at h
  dsimp only at h
  obtain⟨h1,h2,h3,h4,h5⟩:=Zf.items_is _ _ _ _ _ _ _ _ hq
  split at h
  ·cases h
   have hgl:=(h2 (h3 rfl rfl)).2
   have hn:=Zf.namesL_lsz ys [] (fun x hx=>(hgl x hx).wf)
   simp only[List.length_nil,Nat.zero_add]at hn
   refine⟨hgl,h5,by omega,fun x hx η hη=> ?_⟩
   have hi:=Zf.S5 hx
   have wf:=(hgl x hx).wf
   obtain⟨ns',hs'⟩:=Zf.fA ys [] x hx
   unfold Zf.Ah at hi
   have eL:∀y∈Zf.namesF 8 ns' x.left,Zf.size (η y)=1:=fun y hy=>hη y (hs' y (by
    obtain⟨K1,e1⟩:=lS x.right (Zf.namesF 8 ns' x.left)
    obtain⟨K2,e2⟩:=lS x.last (Zf.cL (Zf.namesF 8 ns' x.left) x.right)
    unfold Zf.aL
    rw[e2,e1]
    simp[hy]))
   refine⟨by rw[Zf.yQ wf.1 ns' eL];omega,fun r q=> ?_,fun z q=> ?_⟩
   ·rw[Zf.yQ (wf.2.1 r q) (Zf.namesF 8 ns' x.left) (fun y hy=>hη y (hs' y (by
     obtain⟨K2,e2⟩:=lS x.last (Zf.cL (Zf.namesF 8 ns' x.left) x.right)
     unfold Zf.aL
     rw[e2,q]
     exact List.mem_append_left _ hy)))]
    rw[q]at hi
    simp only[Option.elim]at hi
    omega
   ·rw[Zf.yQ (wf.2.2 z q) (Zf.cL (Zf.namesF 8 ns' x.left) x.right) (fun y hy=>hη y (hs' y (by
     unfold Zf.aL
     rw[q]
     exact hy)))]
    rw[q]at hi
    simp only[Option.elim]at hi
    omega
  ·cases h
end Go.Proofs.YthfjnfcekeknlabGreatDoor
namespace Go.Proofs.YthfjnfcekeknlabGreatDoor
open Go.RowKit
open Zf (U Vr aI)
def Dk (w:World) (b:Nat) (R:Value) (en:Int) (log:List Int) (vals gols:List (List UInt8)) (wts:List Bool):Prop:=
 ∃(lo:Option Addr) (lc:Nat) (xo:Option Addr) (xc:Nat) (go:Option Addr) (gc:Nat) (yo:Option Addr) (yc:Nat),R= .agg #[.int .i64 en,.slice lo log.length lc,.slice xo vals.length xc,.slice go gols.length gc,.slice yo wts.length yc]∧w.ownsRow b 3 1 (.slice lo log.length lc) log.length (log.map fT)∧w.ownsRow b 9 1 (.slice xo vals.length xc) vals.length (vals.map iy)∧w.ownsRow b 9 1 (.slice go gols.length gc) gols.length (gols.map iy)∧w.ownsRow b 4 1 (.slice yo wts.length yc) wts.length (wts.map fun b=> .bool b)∧(∀k,rowOf xo k→¬rowOf go k)
theorem PF {cls:List aI} {F:List Nat} {script:List (Int×Int)} {S0:cE} {b:Nat} {R:Value} {w':World} (hok:∀c∈cls,Zf.jN c) (h0:xX F S0) (h:tW cls F script S0 b (.returned R) w'):∃en log vals gols wts,Zf.pI cls script (js F S0) en log vals gols wts∧Dk w' b R en log vals gols wts:=by
 obtain⟨j,S,L,lo,lc,h1,⟨h2,xo,xc,go,gc,yo,yc,h3,h4,h5,h6,h7,h8⟩ | ⟨pg,pc,i,en,z,h2,h3,h4,h5,h6⟩⟩:=h
 ·obtain⟨m1,m2⟩:=Dh hok h0 h1
  refine⟨_,L,(eO S.T F).1,(kE S.T (eO S.T F).2 S.G).1,S.G.map (fun g=> !gm S.fr g),⟨j,_,L,m1,Or.inl ⟨by rw[uN];exact h2,(PA F S).symm,rfl,?_,?_,?_⟩⟩,⟨lo,lc,xo,xc,go,gc,yo,yc,?_,h4,?_,?_,?_,h8⟩⟩
  ·show _=(Zf.iW (F.map S.T)).1
   rw[EX]
  ·show _=(Zf.wD (Zf.iW (F.map S.T)).2 (js F S).gs).1
   rw[EX,PB m2]
  ·show _=(S.G.map _).map _
   rw[List.map_map]
   rfl
  ·injection h3 with h3
   rw[h3,CU,CV,List.length_map]
  ·rw[CU];exact h5
  ·rw[CV];exact h6
  ·rw[List.length_map,List.map_map];exact h7
 ·obtain⟨m1,m2⟩:=Dh hok h0 h1
  refine⟨en,L++[z],[],[],[],⟨j,_,L,m1,Or.inr ⟨pg,pc,i,z,h2,by rw[uN];exact h3,?_,rfl,rfl,rfl,rfl⟩⟩,⟨lo,lc,none,0,none,0,none,0,?_,h6,World.ownsRow_nil _ _ _ _,World.ownsRow_nil _ _ _ _,World.ownsRow_nil _ _ _ _,(fun k ⟨_,q,_⟩=>by cases q)⟩⟩
  ·rcases h4 with⟨k1,_,k3⟩ | ⟨k1,S',k2,k3⟩
   ·exact Or.inl ⟨MH hok m2 k1,k3⟩
   ·obtain⟨q1,q2⟩:=Db hok m2 k2
    exact Or.inr ⟨k1,_,q1,by rw[EW q2];exact k3⟩
  ·injection h5
def S6 (sp:ByteArray) (LP:List Zf.Tok) (sq:ByteArray) (LQ:List Zf.Tok) (script:List (Int×Int)) (w:World) (e:Ending) (w':World):Prop:=
 (∃er:Nat,er≠0∧er=(if ko sp LP≠0 then ko sp LP else if 100<script.length then 1 else mD sq LQ)∧e= .returned (.tuple #[.agg #[.int .i64 0,.slice none 0 0,.slice none 0 0,.slice none 0 0,.slice none 0 0],.int .i64 (er:Int)])∧Below w.heap.size w w')∨
 (ko sp LP=0∧script.length≤100∧mD sq LQ=0∧∃(cls:List aI) (l1:List Zf.Tok) (ys:List Zf.aD) (l2:List Zf.Tok) (R:Value),Zf.prog 12 LP= .inr (cls,l1)∧Zf.query LQ= .inr (ys,l2)∧(∀c∈cls,Zf.jN c)∧(∀x∈ys,Zf.iV x)∧e= .returned (.tuple #[R,.int .i64 0])∧Below w.heap.size w w'∧∃(r:Nat→Nat) (P:Nat→Prop) (S0:Zf.MS) (en:Int) (log:List Int) (vals gols:List (List UInt8)) (wts:List Bool),Zf.eP r P (Zf.jk 1 (Zf.ay [] ys) ys) S0∧Zf.pI cls script S0 en log vals gols wts∧Dk w' w.heap.size R en log vals gols wts)
theorem PG {sp:ByteArray} {LP:List Zf.Tok} {sq:ByteArray} {LQ:List Zf.Tok} {script:List (Int×Int)} {w:World} {e:Ending} {w':World} (hok:GV sp LP sq LQ) (h:SX sp LP sq LQ script w e w'):S6 sp LP sq LQ script w e w':=by
 rcases h with h | ⟨h1,h2,h3,cls,l1,ys,l2,F,S0,R,h4,h5,h6,h7,h8,h9⟩
 ·exact Or.inl h
 ·have hsp:sp.size≤240:=by
   unfold ko at h1
   split at h1
   ·cases h1
   ·omega
  have YJ:sq.size≤96:=by
   unfold mD at h3
   split at h3
   ·cases h3
   ·omega
  have hk:∀c∈cls,Zf.jN c:=fun c hc=>((hok.p cls l1 hsp h4).1 c hc).1
  have hy:=(hok.q ys l2 YJ h5).1
  obtain⟨p1,p2⟩:=JY h6 hy
  obtain⟨en,log,vals,gols,wts,q1,q2⟩:=PF hk p1 h8
  exact Or.inr ⟨h1,h2,h3,cls,l1,ys,l2,R,h4,h5,hk,hy,h7,h9,_,_,_,en,log,vals,gols,wts,p2,q1,q2⟩
theorem S6.ends {sp:ByteArray} {LP:List Zf.Tok} {sq:ByteArray} {LQ:List Zf.Tok} {script:List (Int×Int)} {w:World} {e:Ending} {w':World} (h:S6 sp LP sq LQ script w e w') {cls:List aI} {l1:List Zf.Tok} {ys:List Zf.aD} {l2:List Zf.Tok} (hp:ko sp LP=0) (hs:script.length≤100) (hq:mD sq LQ=0) (hc:Zf.prog 12 LP= .inr (cls,l1)) (hy:Zf.query LQ= .inr (ys,l2)) {en:Int} {log:List Int} {vals gols:List (List UInt8)} {wts:List Bool} (he:Zf.pI cls script (Zf.jk 1 (Zf.ay [] ys) ys) en log vals gols wts):∃R,e= .returned (.tuple #[R,.int .i64 0])∧Dk w' w.heap.size R en log vals gols wts∧Below w.heap.size w w':=by
 rcases h with⟨er,h1,h2,_⟩ | ⟨h1,h2,h3,cls',l1',ys',l2',R,h4,h5,hk,hg,h7,h9,r,P,S0,en',log',vals',gols',wts',q1,q2,q3⟩
 ·exfalso
  rw[hp,hq]at h2
  rw[if_neg (by simp),if_neg (by omega)]at h2
  exact h1 h2
 ·rw[hc]at h4
  rw[hy]at h5
  cases h4
  cases h5
  obtain⟨rfl,rfl,rfl,rfl,rfl⟩:=he.same hk q1 q2
  exact⟨R,h7,q3,h9⟩
end Go.Proofs.YthfjnfcekeknlabGreatDoor
