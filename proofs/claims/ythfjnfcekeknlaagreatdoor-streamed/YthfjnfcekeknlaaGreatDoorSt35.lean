import Derived.Test.YthfjnfcekeknlaaGreatDoorSt32
import Derived.Test.YthfjnfcekeknlaaGreatDoorSt34
set_option maxHeartbeats 8000000
set_option maxRecDepth 100000
namespace Za
open Go.Proofs.YthfjnfcekeknlaaGreatDoor (dh)
def kB (s:Nat) (N:List (List UInt8)) (items:List aC):MS:=⟨(List.range N.length).map fun k=> .v ([],s+k),items.map (MG.of fun y=> .v ([],s+N.idxOf y)),s+N.length⟩
end Za
namespace Go.Proofs.YthfjnfcekeknlaaGreatDoor
open Go.RowKit
open Za (U Vr aG)
theorem Md {cls:List aG} {V:List Nat} {S:bX} {i:Nat} {p en:Int} (hok:∀c∈cls,Za.jx c) (h:xN V S) (hg:Jd cls S i p en):Za.Eu cls (jg V S) i p en:=by
 obtain⟨g,fQ,hc⟩:=hg
 have jN:g∈S.G:=List.mem_of_getElem? fQ
 have gw:=h.wf.gw g jN
 have hai:(jg V S).gs[i]?=some (ej S.fr S.T g):=by show (S.G.map _)[i]?=_;rw[List.getElem?_map,fQ];rfl
 have lN:Za.bj (Za.PQ (·<S.D.length)) (S.T g.l):=(h.wf.tJ gw.ll).mono fun x hx=>⟨hx.1,hx.2.1⟩
 refine⟨_,hai,?_⟩
 rcases hc with⟨hs,he,rn,hr,hrl,hno⟩ | ⟨hs,rn,zn,hr,hrl,hz,hw,hv⟩ | ⟨hs,he,tx,us,htx,hnt,rs,r1,r2,r3⟩
 ·left
  refine⟨hs,he,fun θ=> ?_⟩
  show Za.sub θ (S.T g.l)≠Za.sub θ (b6 S.T g.r)
  rw[hr,fU]
  exact hno θ
 ·right;left
  obtain⟨ew,ev⟩:=CU (T:=S.T) (op:=g.op.toList) hr (fun q=>(hz q).1)
  refine⟨hs,?_,?_⟩
  ·show (Za.eN g.op.toList (b6 S.T g.r) (b6 S.T g.z)).wt=[]
   rw[ew];exact hw
  ·show (en=5∧eI g.op.toList (b6 S.T g.r) (b6 S.T g.z)=none)∨(en=4∧∃x,eI g.op.toList (b6 S.T g.r) (b6 S.T g.z)=some x∧_)
   rw[ev]
   exact hv
 ·right;right
  rw[htx]at r2 lN
  refine⟨he,_,_,⟨hs,tx,us,htx,hnt,rfl,rfl⟩,fun t c ht hc=> ?_⟩
  show (Za.bD S.D.length (S.T g.l) c).1=2
  rw[htx]
  have ht':t<rs.length:=by omega
  obtain⟨q1,q2,_⟩:=tM r2 lN hok ht' hc
  rw[q1]
  unfold Za.lW at r3
  have q3:=List.any_eq_false.1 r3 rs[t] (List.getElem_mem ht')
  have q4:rs[t].1≠3:=by simpa using q3
  obtain⟨_,c',V',F',T',_,hcn⟩:=r2 t rs[t] (List.getElem?_eq_getElem ht')
  rcases hcn with⟨_,k,_⟩ | ⟨_,_,_,_,_,k,_⟩
  ·rcases Al (Za.matU 8 c'.head (.n 1 tx 0 us) ⟨[],Za.Wn.none⟩).w with e | e | e<;>rw[e]at k
   ·exact absurd k q2
   ·exact k
   ·exact absurd k q4
  ·rcases Al (Za.iB (cH T' (V'++F') (Za.NG c')) c'.tests)with e | e | e<;>rw[e]at k
   ·exact absurd k q2
   ·exact k
   ·exact absurd k q4
theorem uz (V:List Nat) (S:bX):Za.jf (jg V S).gs=b9 S.fr S.G S.G.length:=by
 unfold Za.jf b9 jg
 dsimp only
 rw[List.length_map]
 refine List.filter_congr fun i _=> ?_
 rw[List.getElem?_map]
 cases S.G[i]? with
 | none=>rfl
 | some g=>simp[ej]
theorem OX (V:List Nat) (S:bX):Za.yA (jg V S).gs=gj S.fr S.G:=by
 unfold Za.yA gj
 rw[uz]
 have:(jg V S).gs=[]↔S.G=[]:=List.map_eq_nil_iff
 by_cases q:S.G=[]
 ·rw[if_pos q,if_pos (this.2 q)]
 ·rw[if_neg q,if_neg (fun e=>q (this.1 e))]
theorem big_z:Za.big Za.zU=false:=by decide
theorem tO (T:Nat→U) (x:Int):fR T x=Za.big (b6 T x):=by
 unfold fR Za.big b6
 by_cases q:x= -1
 ·rw[if_pos q,decide_eq_false (fun e=>e.1 q)];exact big_z.symm
 ·rw[if_neg q]
  exact decide_eq_decide.2 ⟨fun e=>e.2,fun e=>⟨q,e⟩⟩
theorem EC {V:List Nat} {S:bX} (h:xN V S):Za.ql (jg V S)=mK V S:=by
 unfold Za.ql mK jg
 dsimp only
 rw[List.length_map,List.any_map,List.any_map,List.any_map]
 have e1:V.any (Za.big∘S.T)=V.any (fR S.T∘fun n:Nat=>(n:Int)):=by
  congr 1
  funext v
  show Za.big (S.T v)=fR S.T (v:Int)
  rw[tO,fU]
 have e2:S.G.any (Za.nL∘ej S.fr S.T)=S.G.any (je S.D S.fr S.T):=by
  have key:∀g∈S.G,Za.nL (ej S.fr S.T g)=je S.D S.fr S.T g:=fun g hg=>by
   have gw:=h.wf.gw g hg
   unfold Za.nL je iC
   by_cases q:g.sg.toList=[]
   ·rw[if_pos (show (ej S.fr S.T g).sg=[]from q),if_pos q]
    have hf:=h.wf.ok.lt gw.ll
    rw[List.getElem?_eq_getElem hf]
    dsimp only[Option.elim]
    rw[List.any_map]
    have ht:=h.wf.sto.tr g.l
    have ea:Za.ga (aV S.D) (S.fr g.l)=S.D[S.fr g.l].args:=jC hf
    show (match S.T g.l with
     | .v _=>false
     | .n _ _ _ us=>us.any Za.big)=_
    generalize S.T g.l=x at ht
    cases ht with
    | var h1 h2=>rw[←ea,h2];rfl
    | @node _ k tx num us h1 h2 h3=>
     dsimp only
     rw[ea]at h2 h3
     have eu:us=S.D[S.fr g.l].args.map S.T:=by
      apply List.ext_getElem (by rw[List.length_map,h2])
      intro j j1 j2
      rw[List.getElem_map]
      have ja:j<S.D[S.fr g.l].args.length:=by simpa using j2
      exact(h3 j _ _ (List.getElem?_eq_getElem ja) (List.getElem?_eq_getElem j1)).one (h.wf.sto.tr _)
     rw[eu,List.any_map]
     congr 1
     funext v
     show Za.big (S.T v)=fR S.T (v:Int)
     rw[tO,fU]
   ·rw[if_neg (show¬(ej S.fr S.T g).sg=[]from q),if_neg q]
    show (Za.big (S.T g.l)||Za.big (b6 S.T g.r)||Za.big (b6 S.T g.z))=_
    simp only[List.any_cons,List.any_nil,Bool.or_false,tO,fU,Bool.or_assoc]
  have:∀l:List Gl,(∀g∈l,g∈S.G)→l.any (Za.nL∘ej S.fr S.T)=l.any (je S.D S.fr S.T):=by
   intro l
   induction l with
   | nil=>intro _;rfl
   | cons g l ih=>
    intro hl
    rw[List.any_cons,List.any_cons,ih (fun x hx=>hl x (by simp[hx]))]
    show (Za.nL (ej S.fr S.T g)||_)=_
    rw[key g (hl g (by simp))]
  exact this S.G fun g hg=>hg
 rw[e1,e2]
theorem ED (T:Nat→U) (V:List Nat):Za.jX (V.map T)=dX T V:=by
 unfold Za.jX dX
 rw[List.foldl_map]
 rfl
theorem OY {V:List Nat} {S:bX} (h:xN V S) (N:List Vr):Za.vZ N (jg V S).gs=jW S.T N S.G:=by
 have nz:∀(N:List Vr) (x:Int),Za.aS N (b6 S.T x)=gY S.T N x:=fun N x=>by
  unfold b6 gY
  by_cases q:x= -1
  ·rw[if_pos q,if_pos q];rfl
  ·rw[if_neg q,if_neg q]
 have key:∀g∈S.G,∀a,Za.mX a (ej S.fr S.T g)=stepG S.T a g:=fun g hg a=>by
  have gw:=h.wf.gw g hg
  have en:∀N,Za.jy N (ej S.fr S.T g)=Jj S.T N g:=fun N=>by
   unfold Za.jy Jj
   show Za.aS (Za.aS (Za.aS N (S.T g.l)) (b6 S.T g.r)) (b6 S.T g.z)=_
   rw[nz,nz]
   have:gY S.T N (g.l:Int)=Za.aS N (S.T g.l):=by rw[←nz,fU]
   rw[this]
  have et:∀N,Za.uw N (ej S.fr S.T g)=En S.T N g:=fun N=>by
   unfold Za.uw En
   show Za.mM (Za.bM Lib.itoa N (S.T g.l)) g.sg.toList (Za.bM Lib.itoa N (b6 S.T g.r)) g.op.toList (Za.bM Lib.itoa N (b6 S.T g.z))=_
   unfold Za.mM
   by_cases q:g.sg.toList=[]
   ·rw[if_pos q,if_pos q]
   ·rw[if_neg q,if_neg q]
    obtain⟨n,hn,_⟩:=gw.rr q
    have e1:b6 S.T g.r=S.T g.r.toNat:=by rw[hn,fU];rfl
    rw[e1]
    by_cases o:g.op.toList=[]
    ·rw[if_pos o,if_pos o]
    ·rw[if_neg o,if_neg o]
     obtain⟨m,hm,_⟩:=gw.zz o
     have e2:b6 S.T g.z=S.T g.z.toNat:=by rw[hm,fU];rfl
     rw[e2]
  unfold Za.mX stepG
  rw[en,et]
 unfold Za.vZ jW jg
 dsimp only
 rw[List.foldl_map]
 have:∀(l:List Gl) (a:List (List UInt8)×List Vr),(∀g∈l,g∈S.G)→l.foldl (fun x y=>Za.mX x (ej S.fr S.T y)) a=l.foldl (stepG S.T) a:=by
  intro l
  induction l with
  | nil=>intro a _;rfl
  | cons g l ih=>
   intro a hl
   rw[List.foldl_cons,List.foldl_cons,key g (hl g (by simp))]
   exact ih _ fun x hx=>hl x (by simp[hx])
 exact this S.G _ fun g hg=>hg
theorem CY {cls:List aG} {V:List Nat} {script:List (Int×Int)} {S0:bX} (hok:∀c∈cls,Za.jx c) (h0:xN V S0) {j:Nat} {S:bX} {L:List Int} (h:yt cls V script S0 j S L):Za.nM cls script (jg V S0) j (jg V S) L∧xN V S:=by
 induction h with
 | start=>exact⟨.start,h0⟩
 | @step j S S' L pg pc z i h hs hi hg hl ih=>
  obtain⟨i1,i2⟩:=ih
  obtain⟨k1,k2⟩:=CV hok i2 hg
  exact⟨.step i1 hs (by rw[uz];exact hi) k1 (by rw[EC k2];exact hl),k2⟩
theorem Jx {items:List Za.aC} {F:List Nat} {S:bX} (h:CH (Za.ay [] items) items F S) (hi:∀x∈items,Za.iN x):xN F S∧Za.dY (fun k=>(F[k - 1]?).getD 0) (fun k=>1≤k∧k<1+(Za.ay [] items).length) (Za.kB 1 (Za.ay [] items) items) (jg F S):=by
 have hgl:=h.gl
 have uS:∀{xs:List Za.aC} {gs:List Gl},bK (mq S.T S.D.length (cH S.T F (Za.ay [] items))) xs gs→(∀x∈xs,Za.iN x)→∀g∈gs,lX S.T S.D.length g∧g.nd=[]:=by
  intro xs
  induction xs with
  | nil=>
   intro gs ha _ g hg
   cases gs with
   | nil=>cases hg
   | cons y ys=>exact ha.elim
  | cons x xs ih=>
   intro gs ha hx g hg
   cases gs with
   | nil=>cases hg
   | cons y ys=>
    rcases List.mem_cons.1 hg with q | q
    ·rw[q];exact⟨ha.1.gw (hx x (by simp)),ha.1.nd⟩
    ·exact ih ha.2 (fun z hz=>hx z (by simp[hz])) g q
 have hv:∀f∈F,S.T f= .v ([],f):=fun f hf=>(o6 (D:=[]) (E:=S.D) (by rw[List.nil_append];exact h.ok) (by rw[List.nil_append];exact h.sto) h.nd h.nv f hf).2.2
 have hF:∀k (hk:k<F.length),(F[(1+k) - 1]?).getD 0=F[k]:=fun k hk=>by
  rw[Nat.add_sub_cancel_left,List.getElem?_eq_getElem hk];rfl
 refine⟨⟨⟨h.sto,h.ok,fun g hg=>(uS hgl hi g hg).1,fun g hg v hv=>(by rw[(uS hgl hi g hg).2]at hv;cases hv)⟩,fun g hg v hv=>(by rw[(uS hgl hi g hg).2]at hv;cases hv),h.lt⟩,⟨fun i j hPi hPj hij=> ?_,fun k hk=>hk.2,fun k hk=> ?_,fun u hu=> ?_,fun g hg=> ?_,?_,?_⟩⟩
 ·have lT:=h.ln
  show (F[i - 1]?).getD 0<(F[j - 1]?).getD 0
  rw[List.getElem?_eq_getElem (show i - 1<F.length by omega),List.getElem?_eq_getElem (show j - 1<F.length by omega)]
  exact List.pairwise_iff_getElem.1 h.nv.ord _ _ _ _ (by omega)
 ·have lT:=h.ln
  show (F[k - 1]?).getD 0<S.D.length
  rw[List.getElem?_eq_getElem (show k - 1<F.length by omega)]
  exact h.lt _ (List.getElem_mem _)
 ·obtain⟨k,hk,rfl⟩:=List.mem_map.1 hu
  have:=List.mem_range.1 hk
  exact .v ⟨rfl,by show 1≤1+k;omega,by show 1+k<_;omega⟩
 ·obtain⟨x,hx,rfl⟩:=List.mem_map.1 hg
  obtain⟨ns,hn⟩:=Za.fk items [] x hx
  refine Za.Nu (hi x hx).ok ns fun y hy=> .v ⟨rfl,by show 1≤1+_;omega,?_⟩
  have:=List.idxOf_lt_length_of_mem (hn y hy)
  show 1+(Za.ay [] items).idxOf y<_
  omega
 ·show F.map S.T=((List.range _).map _).map _
  rw[List.map_map]
  apply List.ext_getElem (by simp[h.ln])
  intro k k1 k2
  have hk:k<F.length:=by simpa using k1
  rw[List.getElem_map,List.getElem_map,List.getElem_range,hv _ (List.getElem_mem hk)]
  show U.v ([],F[k])= .v ([],(F[(1+k) - 1]?).getD 0)
  rw[hF k hk]
 ·show S.G.map _=(items.map _).map _
  rw[List.map_map]
  refine wj hgl fun x hx y hy=> ?_
  rw[EA hy (hi x hx).ok]
  obtain⟨ns,hn⟩:=Za.fk items [] x hx
  refine Za.Jt (hi x hx).ok ns fun w hw=> ?_
  have uY:=List.idxOf_lt_length_of_mem (hn w hw)
  have hk:(Za.ay [] items).idxOf w<F.length:=by rw[h.ln];exact uY
  show cH S.T F (Za.ay [] items) w=U.v ([],(F[(1+(Za.ay [] items).idxOf w) - 1]?).getD 0)
  rw[hF _ hk]
  unfold cH
  rw[List.getElem?_eq_getElem hk]
  exact hv _ (List.getElem_mem hk)
def CZ (w:World) (b:Nat) (R:Value) (en:Int) (log:List Int) (vals gols:List (List UInt8)) (wts:List Bool):Prop:=
 ∃(lo:Option Addr) (lc:Nat) (xo:Option Addr) (xc:Nat) (go:Option Addr) (gc:Nat) (yo:Option Addr) (yc:Nat),R= .agg #[.int .i64 en,.slice lo log.length lc,.slice xo vals.length xc,.slice go gols.length gc,.slice yo wts.length yc]∧w.ownsRow b 3 1 (.slice lo log.length lc) log.length (log.map fO)∧w.ownsRow b 9 1 (.slice xo vals.length xc) vals.length (vals.map gW)∧w.ownsRow b 9 1 (.slice go gols.length gc) gols.length (gols.map gW)∧w.ownsRow b 4 1 (.slice yo wts.length yc) wts.length (wts.map fun b=> .bool b)∧(∀k,rowOf xo k→¬rowOf go k)
theorem OZ {cls:List aG} {F:List Nat} {script:List (Int×Int)} {S0:bX} {b:Nat} {R:Value} {w':World} (hok:∀c∈cls,Za.jx c) (h0:xN F S0) (h:tG cls F script S0 b (.returned R) w'):∃en log vals gols wts,Za.pq cls script (jg F S0) en log vals gols wts∧CZ w' b R en log vals gols wts:=by
 obtain⟨j,S,L,lo,lc,h1,⟨h2,xo,xc,go,gc,yo,yc,h3,h4,h5,h6,h7,h8⟩ | ⟨pg,pc,i,en,z,h2,h3,h4,h5,h6⟩⟩:=h
 ·obtain⟨m1,m2⟩:=CY hok h0 h1
  refine⟨_,L,(dX S.T F).1,(jW S.T (dX S.T F).2 S.G).1,S.G.map (fun g=> !fT S.fr g),⟨j,_,L,m1,Or.inl ⟨by rw[uz];exact h2,(OX F S).symm,rfl,?_,?_,?_⟩⟩,⟨lo,lc,xo,xc,go,gc,yo,yc,?_,h4,?_,?_,?_,h8⟩⟩
  ·show _=(Za.jX (F.map S.T)).1
   rw[ED]
  ·show _=(Za.vZ (Za.jX (F.map S.T)).2 (jg F S).gs).1
   rw[ED,OY m2]
  ·show _=(S.G.map _).map _
   rw[List.map_map]
   rfl
  ·injection h3 with h3
   rw[h3,Cw,Cx,List.length_map]
  ·rw[Cw];exact h5
  ·rw[Cx];exact h6
  ·rw[List.length_map,List.map_map];exact h7
 ·obtain⟨m1,m2⟩:=CY hok h0 h1
  refine⟨en,L++[z],[],[],[],⟨j,_,L,m1,Or.inr ⟨pg,pc,i,z,h2,by rw[uz];exact h3,?_,rfl,rfl,rfl,rfl⟩⟩,⟨lo,lc,none,0,none,0,none,0,?_,h6,World.ownsRow_nil _ _ _ _,World.ownsRow_nil _ _ _ _,World.ownsRow_nil _ _ _ _,(fun k ⟨_,q,_⟩=>by cases q)⟩⟩
  ·rcases h4 with⟨k1,_,k3⟩ | ⟨k1,S',k2,k3⟩
   ·exact Or.inl ⟨Md hok m2 k1,k3⟩
   ·obtain⟨q1,q2⟩:=CV hok m2 k2
    exact Or.inr ⟨k1,_,q1,by rw[EC q2];exact k3⟩
  ·injection h5
def Ss (sp:ByteArray) (LP:List Za.Tok) (sq:ByteArray) (LQ:List Za.Tok) (script:List (Int×Int)) (w:World) (e:Ending) (w':World):Prop:=
 (∃er:Nat,er≠0∧er=(if jO sp LP≠0 then jO sp LP else if 100<script.length then 1 else lZ sq LQ)∧e= .returned (.tuple #[.agg #[.int .i64 0,.slice none 0 0,.slice none 0 0,.slice none 0 0,.slice none 0 0],.int .i64 (er:Int)])∧Below w.heap.size w w')∨
 (jO sp LP=0∧script.length≤100∧lZ sq LQ=0∧∃(cls:List aG) (l1:List Za.Tok) (ys:List Za.aC) (l2:List Za.Tok) (R:Value),Za.prog 12 LP= .inr (cls,l1)∧Za.query LQ= .inr (ys,l2)∧(∀c∈cls,Za.jx c)∧(∀x∈ys,Za.iN x)∧e= .returned (.tuple #[R,.int .i64 0])∧Below w.heap.size w w'∧∃(r:Nat→Nat) (P:Nat→Prop) (S0:Za.MS) (en:Int) (log:List Int) (vals gols:List (List UInt8)) (wts:List Bool),Za.dY r P (Za.kB 1 (Za.ay [] ys) ys) S0∧Za.pq cls script S0 en log vals gols wts∧CZ w' w.heap.size R en log vals gols wts)
theorem O0 {sp:ByteArray} {LP:List Za.Tok} {sq:ByteArray} {LQ:List Za.Tok} {script:List (Int×Int)} {w:World} {e:Ending} {w':World} (hok:F9 sp LP sq LQ) (h:Sb sp LP sq LQ script w e w'):Ss sp LP sq LQ script w e w':=by
 rcases h with h | ⟨h1,h2,h3,cls,l1,ys,l2,F,S0,R,h4,h5,h6,h7,h8,h9⟩
 ·exact Or.inl h
 ·have hsp:sp.size≤240:=by
   unfold jO at h1
   split at h1
   ·cases h1
   ·omega
  have XZ:sq.size≤96:=by
   unfold lZ at h3
   split at h3
   ·cases h3
   ·omega
  have hk:∀c∈cls,Za.jx c:=fun c hc=>((hok.p cls l1 hsp h4).1 c hc).1
  have hy:=(hok.q ys l2 XZ h5).1
  obtain⟨p1,p2⟩:=Jx h6 hy
  obtain⟨en,log,vals,gols,wts,q1,q2⟩:=OZ hk p1 h8
  exact Or.inr ⟨h1,h2,h3,cls,l1,ys,l2,R,h4,h5,hk,hy,h7,h9,_,_,_,en,log,vals,gols,wts,p2,q1,q2⟩
theorem Ss.ends {sp:ByteArray} {LP:List Za.Tok} {sq:ByteArray} {LQ:List Za.Tok} {script:List (Int×Int)} {w:World} {e:Ending} {w':World} (h:Ss sp LP sq LQ script w e w') {cls:List aG} {l1:List Za.Tok} {ys:List Za.aC} {l2:List Za.Tok} (hp:jO sp LP=0) (hs:script.length≤100) (hq:lZ sq LQ=0) (hc:Za.prog 12 LP= .inr (cls,l1)) (hy:Za.query LQ= .inr (ys,l2)) {en:Int} {log:List Int} {vals gols:List (List UInt8)} {wts:List Bool} (he:Za.pq cls script (Za.kB 1 (Za.ay [] ys) ys) en log vals gols wts):∃R,e= .returned (.tuple #[R,.int .i64 0])∧CZ w' w.heap.size R en log vals gols wts∧Below w.heap.size w w':=by
 rcases h with⟨er,h1,h2,_⟩ | ⟨h1,h2,h3,cls',l1',ys',l2',R,h4,h5,hk,hg,h7,h9,r,P,S0,en',log',vals',gols',wts',q1,q2,q3⟩
 ·exfalso
  rw[hp,hq]at h2
  rw[if_neg (by simp),if_neg (by omega)]at h2
  exact h1 h2
 ·rw[hc]at h4
  rw[hy]at h5
  cases h4
  cases h5
  obtain⟨rfl,rfl,rfl,rfl,rfl⟩:=he.same hk q1 q2
  exact⟨R,h7,q3,h9⟩
end Go.Proofs.YthfjnfcekeknlaaGreatDoor
