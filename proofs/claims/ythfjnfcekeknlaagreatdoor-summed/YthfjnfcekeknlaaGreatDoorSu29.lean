import Derived.Test.YthfjnfcekeknlaaGreatDoorSu28
import Derived.Deep.LoopGhost
set_option maxHeartbeats 8000000
set_option maxRecDepth 100000
namespace Go.Proofs.YthfjnfcekeknlaaGreatDoor
open Go.RowKit
def Cb (b:Nat) (E:List Ng):Prop:=∀(i:Nat) (d:Ng),E[i]?=some d→d.nx=b+i∧d.mrk=0∧gH (b+i) d
theorem Cb.at {D E:List Ng} (h:Cb D.length E) {n:Nat} (h1:D.length≤n) (h2:n<(D++E).length):(D++E)[n].nx=n∧(D++E)[n].mrk=0∧gH n (D++E)[n]:=by
 rw[List.getElem_append_right h1]
 rw[List.length_append]at h2
 have:=h (n - D.length) E[n - D.length] (List.getElem?_eq_getElem (by omega))
 rwa [show D.length+(n - D.length)=n by omega]at this
theorem b6.MH {D E:List Ng} {fr:Nat→Nat} (h:b6 D fr) (hE:Cb D.length E):b6 (D++E) fr:=by
 refine⟨fun n hn=> ?_,fun n hn=> ?_,fun n hn=>h.out n (by rw[List.length_append]at hn;omega)⟩
 ·by_cases q:n<D.length
  ·rw[List.getElem_append_left q]
   exact(h.nd n q).mono (by rw[List.length_append];omega)
  ·exact(hE.at (by omega) hn).2.2.mono (by omega)
 ·by_cases q:n<D.length
  ·obtain⟨k,hk⟩:=h.hop n q
   have key:∀{n m k},Hop D n m k→Hop (D++E) n m k:=by
    intro n m k hk
    induction hk with
    | stop q e=>exact .stop (by rw[List.length_append];omega) (by rw[List.getElem_append_left q];exact e)
    | go q e _ ih=>exact .go (by rw[List.length_append];omega) (by rw[List.getElem_append_left q];exact e) (by rw[List.getElem_append_left q];exact ih)
   exact⟨k,key hk⟩
  ·rw[h.out n (by omega)]
   exact⟨0,.stop hn (hE.at (by omega) hn).1⟩
theorem I4 {D E:List Ng} {fr:Nat→Nat} {T:Nat→Za.U} (h:b6 D fr) (hS:Za.dG (aX D) fr T) (hE:Cb D.length E):∃T',Za.dG (aX (D++E)) fr T'∧∀n,n<D.length→T' n=T n:=by
 have ho:=h.MH hE
 have hplain:Za.Plain (aX (D++E)):=fun n hg=>by
  by_cases q:n<(D++E).length
  ·rw[lU q]at hg
   rw[jS q]
   exact((ho.nd n q).v ((ho.nd n q).fY.1 hg)).2.2.2
  ·exact xt (by omega)
 have pZ:∀n,∃u,Za.Tr (aX (D++E)) fr n u:=by
  intro n
  induction n using Nat.strongRecOn with
  | _ n ih=>
   by_cases q:n<D.length
   ·exact⟨_,uK h (hS.tr n) q⟩
   ·have hf:fr n=n:=h.out n (by omega)
    refine Za.qY hplain fun a ha=>ih a ?_
    rw[hf]at ha
    by_cases r:n<(D++E).length
    ·rw[jS r]at ha
     exact(hE.at (by omega) r).2.2.inn a ha
    ·rw[xt (by omega)]at ha
     cases ha
 refine⟨fun n=>Classical.choose (pZ n),⟨⟨ho.idem,fun n hn=> ?_⟩,⟨fun n hn=> ?_,fun n hn i x y hx hy=> ?_⟩,fun n=>Classical.choose_spec (pZ n),hplain,fun n hg=> ?_⟩,fun n hn=> ?_⟩
 ·by_cases q:n<D.length
  ·rw[gB q]at hn
   rw[gB (h.lt q)]
   exact hS.fronts.fY n hn
  ·rw[h.out n (by omega)];exact hn
 ·by_cases q:n<D.length
  ·rw[gB q]at hn
   have:=hS.cong.fY n hn
   unfold Za.pM at this⊢
   rw[gB q,gB (h.lt q),jG q,jG (h.lt q)]
   exact this
  ·rw[h.out n (by omega)];exact⟨rfl,rfl⟩
 ·by_cases q:n<D.length
  ·rw[gB q]at hn
   rw[jG q]at hx
   rw[jG (h.lt q)]at hy
   exact hS.cong.args n hn i x y hx hy
  ·rw[h.out n (by omega),hx]at hy
   obtain rfl:=Option.some.inj hy
   exact .fr rfl
 ·by_cases q:n<D.length
  ·rw[gB (h.lt q)]at hg
   exact hS.sD n hg
  ·rw[h.out n (by omega)];exact Nat.le_refl _
 ·exact(Classical.choose_spec (pZ n)).one (uK h (hS.tr n) hn)
def gK (x:Int) (n:Nat):Ng:=⟨2,x,⟨#[]⟩,0,none,0,[],n,0⟩
theorem Cc (x:Int) (b:Nat):Cb b [gK x b]:=fun i d hd=>by
 cases i with
 | zero=>
  simp at hd
  subst hd
  exact⟨rfl,rfl,Or.inr (Or.inl rfl),(fun q=>absurd q (show¬(2:Int)=1 by decide)),(fun _=>⟨rfl,rfl,rfl⟩),(fun q=>absurd q (show¬(2:Int)=3 by decide)),(fun a ha=>by cases ha)⟩
 | succ i=>simp at hd
theorem Oa (P:Nat→Prop) (w:World) (sb so:Nat) (cs:Array Value) (T:TypeId) (cb:Nat) (D:List Ng) (V:List Nat) (no:Option Addr) (nc:Nat) (vo:Option Addr) (vc:Nat) (x:Int) (h:fK P w sb so cs T cb D V no nc vo vc) (hP:∀g,w.heap.size≤g→P g) (hT:T≠76) (hd:D.length+1≤1000000000):
 Calls Tryz.prog 54 #[.pointer (some ⟨sb,so,none⟩),.agg #[.int .i64 2,.int .i64 x,.string ⟨#[]⟩,.slice none 0 0],.pointer (some ⟨cb,0,none⟩)] w fun e w'=>e= .returned (.int .i64 (D.length:Int))∧∃no' nc',fK P w' sb so (cs.setIfInBounds so (.slice no' (D.length+1) nc')) T cb (D++[gK x D.length]) V no' nc' vo vc∧au (b9 sb no cb vo) (b9 sb no' cb vo) w w':=by
 have si:so<cs.size:=(Array.getElem?_eq_some_iff.1 h.st.cel).1
 have hB:=(Below.refl w.heap.size w).alloc (Nat.le_refl _) (.cells #[.int .i64 2,.int .i64 x,.string ⟨#[]⟩,.slice none 0 0] 76)
 have had:=h.below hB
 have eE:=heap_alloc_new w (.cells #[.int .i64 2,.int .i64 x,.string ⟨#[]⟩,.slice none 0 0] 76)
 generalize hwr:w.alloc (.cells #[.int .i64 2,.int .i64 x,.string ⟨#[]⟩,.slice none 0 0] 76)=wr at*
 have s0:=had.st.cell
 have b0:=ah eE 0
 have b1:=ah eE 1
 have b2:=ah eE 2
 have b3:=ah eE 3
 simp only[List.getElem?_toArray,List.getElem?_cons_zero,List.getElem?_cons_succ]at b0 b1 b2 b3
 have sz:=ag had.st.blk
 have z4:=ag eE
 have LB:=af (show Calls _ _ _ _ _ from qK (wr.drew) ⟨2,x,⟨#[]⟩,none,0,0⟩)
 have U':sb≠w.heap.size:=fun e=>by
  have:=had.st.blk
  rw[e,eE]at this
  simp only[Option.some.injEq,Obj.cells.injEq]at this
  exact hT this.2.1.symm
 have sZ:=af (show some sb≠(Value.slice no D.length nc).ownBlock from bX (aR had.st.own had.st.blk had.st.ty))
 have xr:=af (show some w.heap.size≠(Value.slice no D.length nc).ownBlock from bX (aR had.st.own eE (by decide)))
 have Hx:=af si
 have BC:=af had
 have HP:=af hP
 have hz0:=hB.size
 have aY:=af hB
 obtain⟨ti,hi,vY,vZ,tJ⟩:=info_parts infoNd
 clear h had hP hT si hB eE
 go_enter Tryz.func54,Tryz.ntmps54
 go_wp2_with fail
 refine wp_loop_rounds 1 ?_
 rw[rounds_succ]
 go_wp2_with fail
 go_region_law (first
  | (go_simp;go_at_call 95;refine(ae LB).mono ?_;rintro e w2 ⟨rfl,hb⟩;have bf:=af (((Below.refl _ wr).drew).trans hb);have k0:=(hb.cell (p:=⟨sb,so,none⟩) sz).trans s0;have k1:=(hb.cell (p:=⟨w.heap.size,0,none⟩) z4).trans b0;have k2:=(hb.cell (p:=⟨w.heap.size,1,none⟩) z4).trans b1;have k3:=(hb.cell (p:=⟨w.heap.size,2,none⟩) z4).trans b2;have k4:=(hb.cell (p:=⟨w.heap.size,3,none⟩) z4).trans b3;have hz2:wr.heap.size≤w2.heap.size:=hb.size;have k0':∀o,(w2.alloc o).cell? ⟨sb,so,none⟩=some (.slice no D.length nc):=(fun o=>(World.cell?_alloc_past _ _ _ (by omega)).trans k0);clear hb)
  | (refine step_append_lies _ (by rfl) _ _ _ (by rfl) 0 180 ti _ 7 80 Tryz.underlying86 hi vY vZ tJ rfl (by omega) (.slice no D.length nc) D.length (kA D) (by rfl) (((ae BC).below (ae bf)).st.own.alloc _) ⟨w2.heap.size,0,none⟩ 1 1 [.int .i64 2,.int .i64 x,.string ⟨#[]⟩,.int .i64 0,.slice none 0 0,.int .i64 (D.length:Int),.int .i64 0] (by rfl) (by rfl) (World.news_of_block (cs:=#[.int .i64 2,.int .i64 x,.string ⟨#[]⟩,.int .i64 0,.slice none 0 0,.int .i64 (D.length:Int),.int .i64 0]) (t:=180) (fr:=(0,0)) (heap_alloc_new w2 _)) (by simp[Value.oneCell']) (by omega) (by unfold maxLen;omega) (by omega) (Nat.zero_le _) (w2.heap.size+1) (by simp) ?_;intro g cap' w7 hown1 hgrow hat jl;have m0:=(hgrow.cell_far ⟨sb,so,none⟩ (by simp;omega) (ae sZ)).trans ((World.cell?_alloc_past _ _ _ (by omega)).trans k0);have m1:=(hgrow.cell_far ⟨w.heap.size,0,none⟩ (by simp;omega) (ae xr)).trans ((World.cell?_alloc_past _ _ _ (by omega)).trans k1);have m2:=(hgrow.cell_far ⟨w.heap.size,1,none⟩ (by simp;omega) (ae xr)).trans ((World.cell?_alloc_past _ _ _ (by omega)).trans k2);have m3:=(hgrow.cell_far ⟨w.heap.size,2,none⟩ (by simp;omega) (ae xr)).trans ((World.cell?_alloc_past _ _ _ (by omega)).trans k3);have m4:=(hgrow.cell_far ⟨w.heap.size,3,none⟩ (by simp;omega) (ae xr)).trans ((World.cell?_alloc_past _ _ _ (by omega)).trans k4);have HN:=af (((ae BC).below (ae bf)).node (fun g q=>ae HP g (by omega)) (ae Hx) ((Below.refl _ _).alloc (Nat.le_refl _) _) (d:=gK x D.length) (show w7.ownsRow _ _ _ _ _ (_++[_,_,_,_,_,_,_])from hown1) hgrow (by rcases hat with q | q;exact Or.inl (aI q);(right;omega)) (fun q=>absurd rfl q));have k9:w7.frozen? ⟨sb,so,none⟩=false:=(by have:=ay (ae HN).1.st.blk so;rwa [World.frozen?_setCell]at this);have zz7:sb<w7.heap.size:=(by have:=ag (ae HN).1.st.blk;rwa [cL]at this);clear hown1 hgrow hat jl))
 all_goals (go_wp2_with fail;go_ret;exact⟨rfl,_,_,(ae HN).1,((au.aw (ae aY)).trans (au.aw (ae bf))).trans (ae HN).2⟩)
end Go.Proofs.YthfjnfcekeknlaaGreatDoor
namespace Za
def dZ (op:List UInt8) (u v:U):Wn:=if op=[]then Wn.none.bP u else(Wn.none.bP u).bP v
end Za
namespace Go.Proofs.YthfjnfcekeknlaaGreatDoor
open Go.RowKit
theorem qf {w:World} {cb:Nat} {V:List Nat} {vo:Option Addr} {vc:Nat} (h:Bx w cb V vo vc) {k:Nat} {ys:Array Value} {S:TypeId} (hk:w.heap[k]?=some (.cells ys S (0,0))) (h1:S≠93):k≠cb:=fun e=>by
 rw[e,h.blk]at hk
 simp only[Option.some.injEq,Obj.cells.injEq]at hk
 exact h1 hk.2.1.symm
theorem cP.added {P:Nat→Prop} {w w':World} {mb:Nat} {cs:Array Value} {D D':List Ng} {nO no':Option Addr} {nC nc':Nat} {fr:Nat→Nat} {G:List Gl} {po:Option Addr} {pc cb:Nat} {V V':List Nat} {vo vo':Option Addr} {vc vc':Nat} (h:cP w mb cs D nO nC fr G po pc) (hsc:Bx w cb V vo vc) (Qp:∀g∈G,∀k,rowOf g.no k→¬rowOf vo k) (had:fK P w' mb 1 (cs.setIfInBounds 1 (.slice no' D'.length nc')) 91 cb D' V' no' nc' vo' vc') (ok:b6 D' fr) (hl:D.length≤D'.length) (hf:au (b9 mb nO cb vo) (b9 mb no' cb vo') w w'):cP w' mb (cs.setIfInBounds 1 (.slice no' D'.length nc')) D' no' nc' fr G po pc:=by
 have nomb:∀{k:Nat} {ys:Array Value} {S:TypeId},w.heap[k]?=some (.cells ys S (0,0))→S≠91→k≠mb:=fun {k ys S} hk hS e=>by
  rw[e,h.st.blk]at hk
  simp only[Option.some.injEq,Obj.cells.injEq]at hk
  exact hS hk.2.1.symm
 refine⟨had.st,ok,by rw[Array.getElem?_setIfInBounds_ne (by omega)];exact h.c3,ai h.pool fun g q=> ?_,fun g hg=>ai (h.nds g hg) fun k q=> ?_,fun g hg v hv=>Nat.lt_of_lt_of_le (h.nlt g hg v hv) hl,h.nl⟩
 ·obtain⟨cur,hc⟩:=aK h.pool (aI q)
  refine hf.block g (ag hc) ?_
  rintro(e | e | e | e)
  ·exact nomb hc (by decide) e
  ·exact aR h.st.own hc (by decide) e
  ·exact qf hsc hc (by decide) e
  ·exact aR hsc.own hc (by decide) e
 ·obtain⟨cur,hc⟩:=aK (h.nds g hg) (aI q)
  refine hf.block k (ag hc) ?_
  rintro(e | e | e | e)
  ·exact nomb hc (by decide) e
  ·exact aR h.st.own hc (by decide) e
  ·exact qf hsc hc (by decide) e
  ·exact Qp g hg k (aI q) e
theorem uO {D:List Ng} {x:Int}:(D++[gK x D.length]).length=D.length+1:=by simp
def tU (mb:Nat) (cs:Array Value) (D:List Ng) (nO:Option Addr) (nC:Nat) (fr:Nat→Nat) (TT:Nat→Za.U) (P:Nat→Prop) (G:List Gl) (po:Option Addr) (pc i:Nat) (g:Gl) (W:Za.Wn) (r:Option Int) (w:World) (e:Ending) (w':World):Prop:=
 (W.wt≠[]∧∃(wo:Option Addr) (wc:Nat),e= .returned (.int .i64 (-1))∧cP w' mb cs D nO nC fr (G.set i {g with wt:=true,no:=wo,nc:=wc,nd:=W.wt}) po pc∧au (rowOf po) (rowOf po) w w'∧(∀k,rowOf wo k→w.heap.size≤k))∨
 (W.wt=[]∧r=none∧e= .returned (.int .i64 (-2))∧w'.heap[mb]?=some (.cells (cs.setIfInBounds 5 (.int .i64 5)) 91 (0,0))∧au (fun k=>k=mb) (fun k=>k=mb) w w')∨
 (W.wt=[]∧∃(x:Int) (no':Option Addr) (nc':Nat) (T2:Nat→Za.U) (w2:World),r=some x∧b6 (D++[gK x D.length]) fr∧Za.dG (aX (D++[gK x D.length])) fr T2∧(∀m,m<D.length→T2 m=TT m)∧T2 D.length= .n 3 [] x []∧cP w2 mb (cs.setIfInBounds 1 (.slice no' (D++[gK x D.length]).length nc')) (D++[gK x D.length]) no' nc' fr G po pc∧aZ w2 (D++[gK x D.length]) P∧au (cH mb nO) (cH mb no') w w2∧zv mb (cs.setIfInBounds 1 (.slice no' (D++[gK x D.length]).length nc')) (D++[gK x D.length]) no' nc' fr T2 G i g.l D.length w2 e w')
theorem FM {D:List Ng} {fr:Nat→Nat} {T:Nat→Za.U} {x:Int} (_ok:b6 (D++[gK x D.length]) fr) (hS:Za.dG (aX (D++[gK x D.length])) fr T):T D.length= .n 3 [] x []:=by
 have hn:D.length<(D++[gK x D.length]).length:=by simp
 have p6:(D++[gK x D.length])[D.length]=gK x D.length:=by simp
 rw[hS.reads.node D.length 3 [] x (by rw[lU hn,p6];rfl),jS hn,p6]
 rfl
theorem I5 {fr:Nat→Nat} {TT:Nat→Za.U} {D:List Ng} (ok:b6 D fr) {W:Za.Wn} {n:Nat} (hn:n<D.length) (hW:∀v∈W.wt,v<D.length) (hv:∀x,TT n= .v x→x=([],fr n)):∀v∈(W.bP (TT n)).wt,v<D.length:=fun v hm=>by
 cases hu:TT n with
 | n k tx num ss=>rw[hu]at hm;exact hW v hm
 | v x=>
  rw[hu,hv x hu]at hm
  have:v∈Za.fT W.wt (fr n):=hm
  unfold Za.fT at this
  split at this
  ·exact hW v this
  ·rcases List.mem_append.1 this with q | q
   ·exact hW v q
   ·rw[List.mem_singleton.1 q];exact ok.lt hn
end Go.Proofs.YthfjnfcekeknlaaGreatDoor
namespace Za
structure tW (x:aH):Prop where
 wl:wfK 8 x.left
 r0:x.sign=[]→x.right=none
 r1:x.sign≠[]→∃r,x.right=some r∧wfK 8 r
 z0:x.op=[]→x.last=none
 z1:x.op≠[]→∃z,x.last=some z∧wfK 8 z
 sz:x.op≠[]→x.sign≠[]
end Za
namespace Go.Proofs.YthfjnfcekeknlaaGreatDoor
open Go.RowKit
theorem au.eO {R R':Nat→Prop} {w W:World} (h:au R R' w W) {b:Nat} (hb:w.heap.size≤b) (c:Nat) (v:Value):au R R' w (W.setCell ⟨b,c,none⟩ v):=
 ⟨h.os,h.tape,h.output,by rw[cL];exact h.size,fun k hk hr=>(aJ _ _ _ _ (by omega)).trans (h.block k hk hr),h.row⟩
theorem gN.eO {P:Nat→Prop} {w:World} {sb so:Nat} {cs:Array Value} {T:TypeId} {cb:Nat} {D:List Ng} {V:List Nat} {no:Option Addr} {nc:Nat} {vo:Option Addr} {vc:Nat} {fr:Nat→Nat} {TT:Nat→Za.U} (h:gN P w sb so cs T cb D V no nc vo vc fr TT) {b:Nat} {ys:Array Value} {S:TypeId} (hb:w.heap[b]?=some (.cells ys S (0,0))) (h1:S≠T) (h2:S≠180) (h3:S≠93) (h4:S≠3) (c:Nat) (v:Value):gN P (w.setCell ⟨b,c,none⟩ v) sb so cs T cb D V no nc vo vc fr TT:=
 h.fZ fun g ys' S' hg hS=>aJ _ _ _ _ (fun e=>by
  rw[e,hb]at hg
  simp only[Option.some.injEq,Obj.cells.injEq]at hg
  have:=hg.2.1
  subst this
  rcases hS with q | q | q | q
  ·exact h1 q
  ·exact h2 q
  ·exact h3 q
  ·exact h4 q)
structure JM (P:Nat→Prop) (wr:World) (mb:Nat) (cs:Array Value) (cb:Nat) (D:List Ng) (V:List Nat) (no vo:Option Addr) (fr:Nat→Nat) (TT:Nat→Za.U) (ic mc:Array Value) (ns:List (List UInt8)) (E:List Ng) (F:List Nat) (no':Option Addr) (nc':Nat) (vo':Option Addr) (vc':Nat) (T':Nat→Za.U) (W:World):Prop where
 ms:gN P W mb 1 (cs.setIfInBounds 1 (.slice no' (D++E).length nc')) 91 cb (D++E) (V++F) no' nc' vo' vc' fr T'
 old:∀m,m<D.length→T' m=TT m
 nd:dJ D.length E
 nv:fF D.length E F
 ln:(V++F).length=ns.length
 fg:au (b9 mb no cb vo) (b9 mb no' cb vo') wr W
 bi:W.heap[wr.heap.size]?=some (.cells ic 151 (0,0))
 bm:W.heap[wr.heap.size+1]?=some (.cells mc 158 (0,0))
section
variable {P:Nat→Prop} {wr:World} {mb:Nat} {cs:Array Value} {cb:Nat} {D:List Ng} {V:List Nat} {no vo:Option Addr} {fr:Nat→Nat} {TT:Nat→Za.U} {ic mc:Array Value} {ns:List (List UInt8)} {E:List Ng} {F:List Nat} {no':Option Addr} {nc':Nat} {vo':Option Addr} {vc':Nat} {T':Nat→Za.U} {W:World}
theorem JM.below (h:JM P wr mb cs cb D V no vo fr TT ic mc ns E F no' nc' vo' vc' T' W) {W':World} (hb:Below W.heap.size W W'):JM P wr mb cs cb D V no vo fr TT ic mc ns E F no' nc' vo' vc' T' W':=
 ⟨h.ms.below hb,h.old,h.nd,h.nv,h.ln,h.fg.trans (au.aw hb),(hb.block _ (ag h.bi)).trans h.bi,(hb.block _ (ag h.bm)).trans h.bm⟩
theorem JM.set (h:JM P wr mb cs cb D V no vo fr TT ic mc ns E F no' nc' vo' vc' T' W) (c:Nat) (v:Value):JM P wr mb cs cb D V no vo fr TT ic (mc.setIfInBounds c v) ns E F no' nc' vo' vc' T' (W.setCell ⟨wr.heap.size+1,c,none⟩ v):=
 ⟨h.ms.eO h.bm (by decide) (by decide) (by decide) (by decide) c v,h.old,h.nd,h.nv,h.ln,h.fg.eO (Nat.le_succ _) c v,(aJ _ _ _ _ (by omega)).trans h.bi,aA h.bm c v⟩
theorem JM.add (h:JM P wr mb cs cb D V no vo fr TT ic mc ns E F no' nc' vo' vc' T' W) {N:List (List UInt8)} {t:Za.Tm} {e:Ending} {w':World} (hq:TU P mb 1 (cs.setIfInBounds 1 (.slice no' (D++E).length nc')) 91 cb (D++E) (V++F) no' vo' fr T' N ns t W e w'):
 ∃(n:Nat) (E2:List Ng) (F2:List Nat) (no2:Option Addr) (nc2:Nat) (vo2:Option Addr) (vc2:Nat) (T2:Nat→Za.U),e= .returned (.int .i64 (n:Int))∧JM P wr mb cs cb D V no vo fr TT ic mc (Za.namesF 8 ns t) (E++E2) (F++F2) no2 nc2 vo2 vc2 T2 w'∧n<(D++(E++E2)).length∧T2 n=Za.bJ (cQ T2 (V++(F++F2)) N) 8 t∧(∀m,m<(D++E).length→T2 m=T' m)∧E2.length+1≤6561:=by
 obtain⟨n,E2,F2,no2,nc2,vo2,vc2,T2,rfl,ms,old,nd,nv,ln,nl,tn,el,fg⟩:=hq
 rw[set_set]at ms
 refine⟨n,E2,F2,no2,nc2,vo2,vc2,T2,rfl,⟨by rw[←List.append_assoc,←List.append_assoc];exact ms,fun m hm=> ?_,h.nd.app (by rw[List.length_append]at nd;exact nd),h.nv.app (by rw[List.length_append]at nv;exact nv),by rw[←List.append_assoc];exact ln,h.fg.trans fg,?_,?_⟩,by rw[←List.append_assoc];exact nl,by rw[←List.append_assoc];exact tn,old,el⟩
 ·rw[old m (by rw[List.length_append];omega),h.old m hm]
 ·exact h.ms.ad.blk fg h.bi (by decide) (by decide) (by decide) (by decide)
 ·exact h.ms.ad.blk fg h.bm (by decide) (by decide) (by decide) (by decide)
end
structure mH (T:Nat→Za.U) (len:Nat) (η:List UInt8→Za.U) (x:Za.aH) (g:Gl):Prop where
 sg:g.sg.toList=x.sign
 op:g.op.toList=x.op
 ll:g.l<len
 tl:T g.l=Za.bJ η 8 x.left
 r0:x.sign=[]→g.r= -1
 r1:∀r,x.right=some r→∃n:Nat,g.r=(n:Int)∧n<len∧T n=Za.bJ η 8 r
 z0:x.op=[]→g.z= -1
 z1:∀z,x.last=some z→∃n:Nat,g.z=(n:Int)∧n<len∧T n=Za.bJ η 8 z
 nw:g.wt=false
 nd:g.nd=[]
 no:g.no=none
 nc:g.nc=0
theorem cP.joined {w W w7:World} {mb:Nat} {cs:Array Value} {D:List Ng} {nO:Option Addr} {nC:Nat} {fr:Nat→Nat} {G:List Gl} {po:Option Addr} {pc:Nat} (h:cP w mb cs D nO nC fr G po pc) (hW:Below w.heap.size w W) {g' cap':Nat} {g:Gl} (hown:w7.ownsRow 0 158 7 (.slice (some ⟨g',0,none⟩) (G.length+1) cap') (G.length+1) (G.flatMap fN++fN g)) (hg:W.grownBy w7 (Value.slice po G.length pc).ownBlock) (hat:rowOf po g'∨w.heap.size≤g') (dC:g.nd=[]) (hno:g.no=none) (WY:g.nc=0):
 cP (w7.setCell ⟨mb,3,none⟩ (.slice (some ⟨g',0,none⟩) (G.length+1) cap')) mb (cs.setIfInBounds 3 (.slice (some ⟨g',0,none⟩) (G++[g]).length cap')) D nO nC fr (G++[g]) (some ⟨g',0,none⟩) cap'∧au (fun k=>k=mb∨rowOf po k) (fun k=>k=mb∨rowOf (some ⟨g',0,none⟩) k) w (w7.setCell ⟨mb,3,none⟩ (.slice (some ⟨g',0,none⟩) (G.length+1) cap')):=by
 have mz:=ag h.st.blk
 have wz:=hW.size
 have nomb:¬rowOf po mb:=aR h.pool h.st.blk (by decide)
 have keep:∀k,k≠mb→¬rowOf po k→k<w.heap.size→(w7.setCell ⟨mb,3,none⟩ (.slice (some ⟨g',0,none⟩) (G.length+1) cap')).heap[k]?=w.heap[k]?:=fun k h1 h2 h3=>by
  rw[aJ _ _ _ _ h1,hg.block k (by omega) (bX h2),hW.block k h3]
 have fZ:∀(k:Nat) (ys:Array Value) (S:TypeId),w.heap[k]?=some (.cells ys S (0,0))→S≠158→S≠91→(w7.setCell ⟨mb,3,none⟩ (.slice (some ⟨g',0,none⟩) (G.length+1) cap')).heap[k]?=w.heap[k]?:=fun k ys S hk h1 h2=>keep k (fun e=>by
  rw[e,h.st.blk]at hk
  simp only[Option.some.injEq,Obj.cells.injEq]at hk
  exact h2 hk.2.1.symm) (aR h.pool hk h1) (ag hk)
 have h3:3<cs.size:=(Array.getElem?_eq_some_iff.1 h.c3).1
 have gne:g'≠mb:=fun e=>by
  rcases hat with q | q
  ·exact nomb (e ▸ q)
  ·omega
 have el:(G++[g]).length=G.length+1:=by simp
 rw[el]
 refine⟨⟨⟨?_,?_,ai h.st.own fun k q=> ?_,h.st.ty⟩,h.ok,?_,?_,fun x hx=> ?_,fun x hx=> ?_,fun x hx=> ?_⟩,⟨hg.os.trans hW.os,hg.tape.trans hW.tape,hg.output.trans hW.output,by rw[cL];exact Nat.le_trans wz hg.size,fun k hk hr=>keep k (fun e=>hr (Or.inl e)) (fun e=>hr (Or.inr e)) hk,fun k q=> ?_⟩⟩
 ·refine aA ?_ 3 (.slice (some ⟨g',0,none⟩) (G.length+1) cap')
  rw[hg.block mb (by omega) (bX nomb),hW.block mb mz]
  exact h.st.blk
 ·rw[Array.getElem?_setIfInBounds_ne (by omega)];exact h.st.cel
 ·obtain⟨cur,hc⟩:=aK h.st.own (aI q)
  exact fZ k _ _ hc (by decide) (by decide)
 ·rw[Array.getElem?_setIfInBounds_self,if_pos h3,el]
 ·rw[el,List.flatMap_append]
  have:[g].flatMap fN=fN g:=by simp
  rw[this]
  exact ai hown fun k q=>aJ _ _ _ _ (fun e=>by
   obtain⟨p,hp,hk⟩:=aI q
   cases hp
   exact gne (hk.symm.trans e))
 ·rcases List.mem_append.1 hx with q | q
  ·exact ai (h.nds x q) fun k r=>by
    obtain⟨cur,hc⟩:=aK (h.nds x q) (aI r)
    exact fZ k _ _ hc (by decide) (by decide)
  ·rw[List.mem_singleton.1 q,dC,hno,WY]
   exact World.ownsRow_nil _ _ _ _
 ·rcases List.mem_append.1 hx with q | q
  ·exact h.nlt x q
  ·rw[List.mem_singleton.1 q,dC];intro v hv;cases hv
 ·rcases List.mem_append.1 hx with q | q
  ·exact h.nl x q
  ·rw[List.mem_singleton.1 q,dC];simp
 ·rcases q with e | ⟨p,hp,hq⟩
  ·exact Or.inl (Or.inl e)
  ·cases hp
   rcases hat with r | r
   ·exact Or.inl (Or.inr (hq ▸ r))
   ·exact Or.inr (hq ▸ r)
theorem gN.I6 {P:Nat→Prop} {w w':World} {sb so:Nat} {cs cs':Array Value} {T:TypeId} {cb:Nat} {D:List Ng} {V:List Nat} {no:Option Addr} {nc:Nat} {vo:Option Addr} {vc:Nat} {fr:Nat→Nat} {TT:Nat→Za.U} (h:gN P w sb so cs T cb D V no nc vo vc fr TT) (hs:bI w' sb so cs' T D no nc) (hk:∀(g:Nat) (ys:Array Value) (S:TypeId),w.heap[g]?=some (.cells ys S (0,0))→(S=93∨S=3)→w'.heap[g]?=w.heap[g]?):gN P w' sb so cs' T cb D V no nc vo vc fr TT:=by
 refine⟨⟨hs,⟨(hk cb _ _ h.ad.sc.blk (Or.inl rfl)).trans h.ad.sc.blk,ai h.ad.sc.own fun g q=> ?_⟩,h.ad.t1,h.ad.t2,h.ad.args.keep fun g _ hp hg=>⟨(hk g _ _ hg (Or.inr rfl)).trans hg,hp⟩⟩,h.ok,h.to,h.lt⟩
 obtain⟨cur,hc⟩:=aK h.ad.sc.own (aI q)
 exact hk g _ _ hc (Or.inr rfl)
theorem au.SX {w w':World} {mb:Nat} {no2 vo2 po po':Option Addr} {cb:Nat} (h:au (fun k=>k=mb∨rowOf po k) (fun k=>k=mb∨rowOf po' k) w w'):au (fun k=>b9 mb no2 cb vo2 k∨rowOf po k) (fun k=>b9 mb no2 cb vo2 k∨rowOf po' k) w w':=
 ⟨h.os,h.tape,h.output,h.size,fun k hk hr=>h.block k hk (fun q=>hr (q.imp (fun e=>Or.inl e) id)),fun k q=>by
  rcases q with q | q
  ·exact Or.inl (Or.inl q)
  ·rcases h.row k (Or.inr q)with(e | e) | e
   ·exact Or.inl (Or.inl (Or.inl e))
   ·exact Or.inl (Or.inr e)
   ·exact Or.inr e⟩
def uP (mb:Nat) (no:Option Addr) (cb:Nat) (vo po:Option Addr) (k:Nat):Prop:=b9 mb no cb vo k∨rowOf po k
structure Ce (P:Nat→Prop) (w:World) (mb:Nat) (cs:Array Value) (cb:Nat) (D:List Ng) (V:List Nat) (nO vo:Option Addr) (fr:Nat→Nat) (TT:Nat→Za.U) (G:List Gl) (po:Option Addr) (N ns:List (List UInt8)) (items:List Za.aH) (E:List Ng) (F:List Nat) (no':Option Addr) (nc':Nat) (vo':Option Addr) (vc':Nat) (T':Nat→Za.U) (Gn:List Gl) (po':Option Addr) (pc':Nat) (wr:World):Prop where
 ms:gN P wr mb 1 ((cs.setIfInBounds 1 (.slice no' (D++E).length nc')).setIfInBounds 3 (.slice po' (G++Gn).length pc')) 91 cb (D++E) (V++F) no' nc' vo' vc' fr T'
 mc:cP wr mb ((cs.setIfInBounds 1 (.slice no' (D++E).length nc')).setIfInBounds 3 (.slice po' (G++Gn).length pc')) (D++E) no' nc' fr (G++Gn) po' pc'
 fv:∀g∈G++Gn,∀k,rowOf g.no k→¬rowOf vo' k
 old:∀m,m<D.length→T' m=TT m
 nd:dJ D.length E
 nv:fF D.length E F
 ln:(V++F).length=(Za.aD ns items).length
 gl:bR (mH T' (D++E).length (cQ T' (V++F) N)) items Gn
 el:E.length≤items.length*19683
 fg:au (uP mb nO cb vo po) (uP mb no' cb vo' po') w wr
def Ub (P:Nat→Prop) (w:World) (mb:Nat) (cs:Array Value) (cb:Nat) (D:List Ng) (V:List Nat) (nO vo:Option Addr) (fr:Nat→Nat) (TT:Nat→Za.U) (G:List Gl) (po:Option Addr) (N ns:List (List UInt8)) (items:List Za.aH) (k:Nat) (iv:Value) (wr:World):Prop:=
 ∃(j:Nat) (E:List Ng) (F:List Nat) (no':Option Addr) (nc':Nat) (vo':Option Addr) (vc':Nat) (T':Nat→Za.U) (Gn:List Gl) (po':Option Addr) (pc':Nat),k+j=items.length∧iv= .int .i64 (j:Int)∧Ce P w mb cs cb D V nO vo fr TT G po N ns (items.take j) E F no' nc' vo' vc' T' Gn po' pc' wr
theorem dW (D E:List Ng):D.length≤(D++E).length:=by rw[List.length_append];omega
theorem Vo (cs:Array Value) (x y a b:Value):((((cs.setIfInBounds 1 x).setIfInBounds 3 y).setIfInBounds 1 a).setIfInBounds 3 b)=(cs.setIfInBounds 1 a).setIfInBounds 3 b:=by
 apply Array.ext_getElem?
 intro i
 simp only[Array.getElem?_setIfInBounds,Array.size_setIfInBounds]
 by_cases h1:1=i
 ·subst h1;simp
 ·by_cases h3:3=i
  ·subst h3;simp
  ·simp[h1,h3]
theorem bR.Qq {α β:Type} {R S:α→β→Prop}:∀{xs:List α} {ys:List β},(∀a b,a∈xs→R a b→S a b)→bR R xs ys→bR S xs ys
 | [],[],_,_=>trivial
 | [],_ :: _,_,h=>h
 | _ :: _,[],_,h=>h
 | _ :: _,_ :: _,f,h=>⟨f _ _ (by simp) h.1,bR.Qq (fun a b ha=>f a b (by simp[ha])) h.2⟩
theorem mi {T1 T2:Nat→Za.U} {V F:List Nat} {N M ns:List (List UInt8)} {t:Za.Tm} {b n:Nat} (hw:Za.wfK 8 t) (h:T1 n=Za.bJ (cQ T1 V N) 8 t) (hn:n<b) {ns':List (List UInt8)} (hs:∀y∈Za.namesF 8 ns' t,y∈ns) (hN:N=ns++M) (hl:V.length=ns.length) (hlt:∀m∈V,m<b) (he:∀m,m<b→T2 m=T1 m):T2 n=Za.bJ (cQ T2 (V++F) N) 8 t:=by
 rw[he n hn,h]
 exact(Za.ik 8 t ns' hw (fun y hy=>KL (hs y hy) hN hl hlt he)).symm
theorem lK (t:Option Za.Tm) (ns:List (List UInt8)):∃K,Za.cG ns t=ns++K:=by
 cases t with
 | none=>exact⟨[],by simp[Za.cG]⟩
 | some r=>exact Za.namesV_ext 8 r ns
theorem mH.more {T1 T2:Nat→Za.U} {V F:List Nat} {N M ns:List (List UInt8)} {x:Za.aH} {g:Gl} {b b':Nat} (hx:Za.tW x) (h:mH T1 b (cQ T1 V N) x g) {ns':List (List UInt8)} (hs:∀y∈Za.aQ ns' x,y∈ns) (hN:N=ns++M) (hl:V.length=ns.length) (hlt:∀m∈V,m<b) (he:∀m,m<b→T2 m=T1 m) (hb:b≤b'):mH T2 b' (cQ T2 (V++F) N) x g:=by
 have nO:∀(t:Option Za.Tm) (ns:List (List UInt8)),∃K,Za.cG ns t=ns++K:=fun t ns=>by
  cases t with
  | none=>exact⟨[],by simp[Za.cG]⟩
  | some r=>exact Za.namesV_ext 8 r ns
 have SY:∀y∈Za.namesF 8 ns' x.left,y∈ns:=fun y hy=>hs y (by
  obtain⟨K1,h1⟩:=nO x.right (Za.namesF 8 ns' x.left)
  obtain⟨K2,h2⟩:=nO x.last (Za.cG (Za.namesF 8 ns' x.left) x.right)
  unfold Za.aQ
  rw[h2,h1]
  simp[hy])
 have hright:∀r,x.right=some r→∀y∈Za.namesF 8 (Za.namesF 8 ns' x.left) r,y∈ns:=fun r q y hy=>hs y (by
  obtain⟨K2,h2⟩:=nO x.last (Za.cG (Za.namesF 8 ns' x.left) x.right)
  unfold Za.aQ
  rw[h2,q]
  exact List.mem_append_left _ hy)
 have SZ:∀z,x.last=some z→∀y∈Za.namesF 8 (Za.cG (Za.namesF 8 ns' x.left) x.right) z,y∈ns:=fun z q y hy=>hs y (by
  unfold Za.aQ
  rw[q]
  exact hy)
 refine⟨h.sg,h.op,Nat.lt_of_lt_of_le h.ll hb,mi hx.wl h.tl h.ll SY hN hl hlt he,h.r0,fun r q=> ?_,h.z0,fun z q=> ?_,h.nw,h.nd,h.no,h.nc⟩
 ·obtain⟨n,q1,q2,q3⟩:=h.r1 r q
  have hw:Za.wfK 8 r:=by
   by_cases k:x.sign=[]
   ·rw[hx.r0 k]at q;cases q
   ·obtain⟨r',e,w⟩:=hx.r1 k
    rw[e]at q;cases q;exact w
  exact⟨n,q1,Nat.lt_of_lt_of_le q2 hb,mi hw q3 q2 (hright r q) hN hl hlt he⟩
 ·obtain⟨n,q1,q2,q3⟩:=h.z1 z q
  have hw:Za.wfK 8 z:=by
   by_cases k:x.op=[]
   ·rw[hx.z0 k]at q;cases q
   ·obtain⟨r',e,w⟩:=hx.z1 k
    rw[e]at q;cases q;exact w
  exact⟨n,q1,Nat.lt_of_lt_of_le q2 hb,mi hw q3 q2 (SZ z q) hN hl hlt he⟩
theorem K4 {P:Nat→Prop} {wr:World} {mb:Nat} {cs:Array Value} {cb:Nat} {D:List Ng} {V:List Nat} {no vo:Option Addr} {fr:Nat→Nat} {TT:Nat→Za.U} {ic mc:Array Value} {ns:List (List UInt8)} {E:List Ng} {F:List Nat} {no':Option Addr} {nc':Nat} {vo':Option Addr} {vc':Nat} {T':Nat→Za.U} {W:World} (h:JM P wr mb cs cb D V no vo fr TT ic mc ns E F no' nc' vo' vc' T' W) (hP:∀g,wr.heap.size≤g→P g) {N:List (List UInt8)} {a:AV} {t:Za.Tm} (hr:RA 8 N anyA W a t) (hw:Za.wfK 8 t) (hN:∃M,N=Za.namesF 8 ns t++M) (hD:(D++E).length+6561≤1000000000) (hNl:N.length≤100000):
 Calls Tryz.prog 54 #[.pointer (some ⟨mb,1,none⟩),.agg #[.int .i64 a.k,.int .i64 a.val,.string a.tx,.slice a.ao a.n a.cap],.pointer (some ⟨cb,0,none⟩)] W fun e w'=>∃(n:Nat) (E2:List Ng) (F2:List Nat) (no2:Option Addr) (nc2:Nat) (vo2:Option Addr) (vc2:Nat) (T2:Nat→Za.U),e= .returned (.int .i64 (n:Int))∧JM P wr mb cs cb D V no vo fr TT ic mc (Za.namesF 8 ns t) (E++E2) (F++F2) no2 nc2 vo2 vc2 T2 w'∧n<(D++(E++E2)).length∧T2 n=Za.bJ (cQ T2 (V++(F++F2)) N) 8 t∧(∀m,m<(D++E).length→T2 m=T' m)∧E2.length+1≤6561:=by
 refine(SN h.ms (fun g hg=>hP g (Nat.le_trans h.fg.size hg)) (by decide) hr hw h.ln hN hD ?_).mono fun e w' q=>h.add q
 obtain⟨M,hM⟩:=hN
 obtain⟨K,hK⟩:=Za.namesV_ext 8 t ns
 have:ns.length≤N.length:=by rw[hM,hK];simp
 have:=h.ln
 omega
theorem JM.ra {P:Nat→Prop} {wr:World} {mb:Nat} {cs:Array Value} {cb:Nat} {D:List Ng} {V:List Nat} {no vo:Option Addr} {fr:Nat→Nat} {TT:Nat→Za.U} {ic mc:Array Value} {ns:List (List UInt8)} {E:List Ng} {F:List Nat} {no':Option Addr} {nc':Nat} {vo':Option Addr} {vc':Nat} {T':Nat→Za.U} {W:World} (h:JM P wr mb cs cb D V no vo fr TT ic mc ns E F no' nc' vo' vc' T' W) {nc vc:Nat} {cs1:Array Value} (hs:fK P wr mb 1 cs1 91 cb D V no nc vo vc) {N:List (List UInt8)} {a:AV} {t:Za.Tm} (hr:RA 8 N anyA wr a t):RA 8 N anyA W a t:=hs.ra (by decide) h.fg hr
theorem Ce.next {P:Nat→Prop} {w:World} {mb:Nat} {cs:Array Value} {cb:Nat} {D:List Ng} {V:List Nat} {nO vo:Option Addr} {fr:Nat→Nat} {TT:Nat→Za.U} {G:List Gl} {po:Option Addr} {N ns:List (List UInt8)} {items:List Za.aH} {E:List Ng} {F:List Nat} {no1:Option Addr} {nc1:Nat} {vo1:Option Addr} {vc1:Nat} {T1:Nat→Za.U} {Gn:List Gl} {po1:Option Addr} {pc1:Nat} {wr:World} (h:Ce P w mb cs cb D V nO vo fr TT G po N ns items E F no1 nc1 vo1 vc1 T1 Gn po1 pc1 wr)
 {ic mc:Array Value} {x:Za.aH} {E2:List Ng} {F2:List Nat} {no2:Option Addr} {nc2:Nat} {vo2:Option Addr} {vc2:Nat} {T2:Nat→Za.U} {W:World} (hj:JM P wr mb ((cs.setIfInBounds 1 (.slice no1 (D++E).length nc1)).setIfInBounds 3 (.slice po1 (G++Gn).length pc1)) cb (D++E) (V++F) no1 vo1 fr T1 ic mc (Za.aQ (Za.aD ns items) x) E2 F2 no2 nc2 vo2 vc2 T2 W)
 {g:Gl} (hg:mH T2 ((D++E)++E2).length (cQ T2 ((V++F)++F2) N) x g) (hE:E2.length≤19683) (aF:∀x∈items,Za.tW x) (hN:∃M,N=Za.aD ns items++M)
 {W' w7:World} {g' cap':Nat} (hW:Below W.heap.size W W') (hown:w7.ownsRow 0 158 7 (.slice (some ⟨g',0,none⟩) ((G++Gn).length+1) cap') ((G++Gn).length+1) ((G++Gn).flatMap fN++fN g)) (hgr:W'.grownBy w7 (Value.slice po1 (G++Gn).length pc1).ownBlock) (hat:rowOf po1 g'∨W.heap.size≤g'):
 Ce P w mb cs cb D V nO vo fr TT G po N ns (items++[x]) (E++E2) (F++F2) no2 nc2 vo2 vc2 T2 (Gn++[g]) (some ⟨g',0,none⟩) cap' (w7.setCell ⟨mb,3,none⟩ (.slice (some ⟨g',0,none⟩) ((G++Gn).length+1) cap')):=by
 have hm:=h.mc.added h.ms.ad.sc h.fv hj.ms.ad hj.ms.ok (dW _ _) hj.fg
 obtain⟨pY,hf2⟩:=hm.joined hW hown hgr hat hg.nd hg.no hg.nc
 rw[Vo]at pY
 have mz:=ag hm.st.blk
 have xJ:gN P (w7.setCell ⟨mb,3,none⟩ (.slice (some ⟨g',0,none⟩) ((G++Gn).length+1) cap')) mb 1 ((cs.setIfInBounds 1 (.slice no2 ((D++E)++E2).length nc2)).setIfInBounds 3 (.slice (some ⟨g',0,none⟩) ((G++Gn)++[g]).length cap')) 91 cb ((D++E)++E2) ((V++F)++F2) no2 nc2 vo2 vc2 fr T2:=hj.ms.I6 pY.st fun k ys S hk hS=>hf2.block k (ag hk) (by
  rintro(e | e)
  ·rw[e,hm.st.blk]at hk
   simp only[Option.some.injEq,Obj.cells.injEq]at hk
   rcases hS with q | q<;>(rw[q]at hk;exact absurd hk.2.1 (by decide))
  ·refine aR hm.pool hk ?_ e
   rcases hS with q | q<;>(rw[q];decide))
 obtain⟨M,hM⟩:=hN
 refine⟨by rw[←List.append_assoc,←List.append_assoc,←List.append_assoc];exact xJ,by rw[←List.append_assoc,←List.append_assoc];exact pY,fun q hq k hk=> ?_,fun m nJ=> ?_,h.nd.app (by have:=hj.nd;rwa [List.length_append]at this),h.nv.app (by have:=hj.nv;rwa [List.length_append]at this),?_,?_,?_,?_⟩
 ·rw[←List.append_assoc]at hq
  rcases List.mem_append.1 hq with r | r
  ·intro hv
   rcases hj.fg.row k (Or.inr (Or.inr (Or.inr hv)))with(e | e | e | e) | e
   ·obtain⟨cur,hc⟩:=aK (h.mc.nds q r) hk
    rw[e,h.mc.st.blk]at hc
    simp only[Option.some.injEq,Obj.cells.injEq]at hc
    exact absurd hc.2.1 (by decide)
   ·obtain⟨cur,hc⟩:=aK (h.mc.nds q r) hk
    exact aR h.mc.st.own hc (by decide) e
   ·obtain⟨cur,hc⟩:=aK (h.mc.nds q r) hk
    exact qf h.ms.ad.sc hc (by decide) e
   ·exact h.fv q r k hk e
   ·obtain⟨cur,hc⟩:=aK (h.mc.nds q r) hk
    have:=ag hc
    omega
  ·rw[List.mem_singleton.1 r,hg.no]at hk
   obtain⟨_,e,_⟩:=hk
   cases e
 ·rw[hj.old m (by rw[List.length_append];omega),h.old m nJ]
 ·rw[←List.append_assoc,hj.ln]
  unfold Za.aD
  rw[List.foldl_append]
  rfl
 ·rw[←List.append_assoc,←List.append_assoc]
  refine bR.snoc hg (bR.Qq (fun a b ha hab=> ?_) h.gl)
  obtain⟨ns',hs⟩:=Za.fx items ns a ha
  exact mH.more (aF a ha) hab hs hM h.ln h.ms.lt hj.old (dW _ _)
 ·have:=h.el
  rw[List.length_append,List.length_append]
  simp only[List.length_cons,List.length_nil]
  omega
 ·have q:=(hj.fg.wide (rowOf po1)).trans (au.less (X:=uP mb no2 cb vo2 (some ⟨g',0,none⟩)) (R':=fun k=>b9 mb no2 cb vo2 k∨rowOf (some ⟨g',0,none⟩) k) (au.SX hf2) fun k q=>q)
  exact h.fg.trans q
end Go.Proofs.YthfjnfcekeknlaaGreatDoor
namespace Go.Proofs.YthfjnfcekeknlaaGreatDoor
open Go.RowKit
theorem zE {P:Nat→Prop} {w:World} {mb:Nat} {cs:Array Value} {cb:Nat} {D:List Ng} {V:List Nat} {no:Option Addr} {nc:Nat} {vo:Option Addr} {vc:Nat} {G:List Gl} {po:Option Addr} {pc:Nat} {fr:Nat→Nat} (h:fK P w mb 1 cs 91 cb D V no nc vo vc) (hm:cP w mb cs D no nc fr G po pc) {g:Nat} {ys:Array Value} {S:TypeId} (hg:w.heap[g]?=some (.cells ys S (0,0))) (h1:S≠91) (h2:S≠180) (h3:S≠93) (h4:S≠3) (h5:S≠158):¬uP mb no cb vo po g:=by
 rintro((e | e | e | e) | e)
 ·rw[e,h.st.blk]at hg
  simp only[Option.some.injEq,Obj.cells.injEq]at hg
  exact h1 hg.2.1.symm
 ·exact aR h.st.own hg h2 e
 ·exact qf h.sc hg h3 e
 ·exact aR h.sc.own hg h4 e
 ·exact aR hm.pool hg h5 e
theorem pq.fr {R R':Nat→Prop} {w w':World} {N:List (List UInt8)} {v:JV} {x:Za.aH} (hi:pq N w v x) (hf:au R R' w w') (hn:∀(g:Nat) (ys:Array Value),w.heap[g]?=some (.cells ys 76 (0,0))→¬R g):pq N w' v x:=by
 have ra:∀{f:Nat} {a:AV} {t:Za.Tm},RA f N anyA w a t→RA f N anyA w' a t:=fun hr=>hr.keep fun g _ hp hg _=>⟨(hf.block g (ag hg) (hn g _ hg)).trans hg,hp⟩
 exact⟨ra hi.left,hi.sign,fun r q=>ra (hi.right r q),hi.op,fun r q=>ra (hi.last r q)⟩
theorem cP.Cf {P:Nat→Prop} {w:World} {mb:Nat} {cs:Array Value} {cb:Nat} {D:List Ng} {V:List Nat} {nO vo:Option Addr} {fr:Nat→Nat} {TT:Nat→Za.U} {G:List Gl} {po:Option Addr} {N ns:List (List UInt8)} {items:List Za.aH} {E:List Ng} {F:List Nat} {no1:Option Addr} {nc1:Nat} {vo1:Option Addr} {vc1:Nat} {T1:Nat→Za.U} {Gn:List Gl} {po1:Option Addr} {pc1:Nat} {wr:World} (h:Ce P w mb cs cb D V nO vo fr TT G po N ns items E F no1 nc1 vo1 vc1 T1 Gn po1 pc1 wr) {ic mc:Array Value} {nx:List (List UInt8)} {E2:List Ng} {F2:List Nat} {no2:Option Addr} {nc2:Nat} {vo2:Option Addr} {vc2:Nat} {T2:Nat→Za.U} {W:World} (hj:JM P wr mb ((cs.setIfInBounds 1 (.slice no1 (D++E).length nc1)).setIfInBounds 3 (.slice po1 (G++Gn).length pc1)) cb (D++E) (V++F) no1 vo1 fr T1 ic mc nx E2 F2 no2 nc2 vo2 vc2 T2 W):∃cs2:Array Value,cP W mb cs2 (D++E++E2) no2 nc2 fr (G++Gn) po1 pc1:=⟨_,h.mc.added h.ms.ad.sc h.fv hj.ms.ad hj.ms.ok (dW _ _) hj.fg⟩
theorem Cg (w:World) (mb:Nat) (cs:Array Value) (cb:Nat) (D:List Ng) (V:List Nat) (nO:Option Addr) (nC:Nat) (vo:Option Addr) (vc:Nat) (fr:Nat→Nat) (TT:Nat→Za.U) (P:Nat→Prop) (G:List Gl) (po:Option Addr) (pc:Nat) (N ns:List (List UInt8)) (items:List Za.aH) (o:Option Addr) (n c:Nat) (h:gN P w mb 1 cs 91 cb D V nO nC vo vc fr TT) (hm:cP w mb cs D nO nC fr G po pc) (I7:∀g∈G,∀k,rowOf g.no k→¬rowOf vo k) (hP:∀g,w.heap.size≤g→P g) (hit:cm N w o n items) (aF:∀x∈items,Za.tW x) (hl:V.length=ns.length) (hN:∃M,N=Za.aD ns items++M) (hNl:N.length≤100000) (sk:items.length≤100) (hD:D.length+4000000≤1000000000) (hGl:G.length≤1000000):
 Calls Tryz.prog 42 #[.pointer (some ⟨mb,0,none⟩),.slice o n c,.pointer (some ⟨cb,0,none⟩)] w fun e w'=>e= .returned (.tuple #[])∧∃(E:List Ng) (F:List Nat) (no':Option Addr) (nc':Nat) (vo':Option Addr) (vc':Nat) (T':Nat→Za.U) (Gn:List Gl) (po':Option Addr) (pc':Nat),Ce P w mb cs cb D V nO vo fr TT G po N ns items E F no' nc' vo' vc' T' Gn po' pc' w':=by
 obtain⟨rfl,hit⟩:=hit
 have HST:=af (show Ub P w mb cs cb D V nO vo fr TT G po N ns items items.length (.int .i64 0) w from by
  refine⟨0,[],[],nO,nC,vo,vc,TT,[],po,pc,by omega,rfl,⟨?_,?_,by simpa using I7,fun _ _=>rfl,(fun i d hd=>by simp at hd),fF.nil _ _,by simpa [Za.aD] using hl,trivial,by simp,⟨rfl,rfl,rfl,Nat.le_refl _,fun _ _ _=>rfl,fun _ q=>Or.inl q⟩⟩⟩
  ·simp only[List.append_nil]
   rw[l9 h.ad.st.cel,l9 hm.c3]
   exact h
  ·simp only[List.append_nil]
   rw[l9 h.ad.st.cel,l9 hm.c3]
   exact hm)
 have MC:=af hit
 have HB:=af h
 have HM:=af hm
 have qM:=af aF
 have HN:=af hN
 have Qr:=af hNl
 have Uc:=af sk
 have HD:=af hD
 have H9:=af hGl
 have HP:=af hP
 obtain⟨ti,hi,vY,vZ,tJ⟩:=info_parts infoGoal
 clear h hm I7 hP hit aF hl hN hNl hD hGl
 go_enter Tryz.func42,Tryz.ntmps42
 go_wp2_with fail
 go_loopg [11] items.length (fun k iv wr=>Ub P w mb cs cb D V nO vo fr TT G po N ns items k iv wr)
 case atStart=>exact ae HST
 case round=>
  clear HST
  obtain⟨j,E,F,no1,nc1,vo1,vc1,T1,Gn,po1,pc1,hkj,rfl,ej⟩:=hrel
  by_cases hlt:j<items.length
  ·obtain⟨g,vs,ics,Qs,hcs,I8,hall⟩:=ae MC (fun q=>by rw[q]at hlt;simp at hlt)
   subst Qs
   have kL:j<vs.length:=by have:=hall.length;omega
   have hcw:wr.heap[g]?=some (.cells ics 151 (0,0)):=(ej.fg.block g (ag hcs) (zE (ae HB).ad (ae HM) hcs (by decide) (by decide) (by decide) (by decide) (by decide))).trans hcs
   have fc:∀i,i<14→wr.cell? ⟨g,j*14+i,none⟩=(p8 vs[j])[i]?:=fun i hi=>by
    rw[ah hcw,←Array.getElem?_toList,←Qa kL i hi,←I8,List.getElem?_take_of_lt (by omega)]
   have Qt:=(hall.at j kL hlt).fr ej.fg (fun g ys hg=>zE (ae HB).ad (ae HM) hg (by decide) (by decide) (by decide) (by decide) (by decide))
   have K5:=ae qM _ (List.getElem_mem hlt)
   obtain⟨M,hM⟩:=ae HN
   have oI:items.take (j+1)=items.take j++[items[j]]:=by rw[List.take_add_one,List.getElem?_eq_getElem hlt];rfl
   have hNj:∃K,N=Za.aD ns (items.take j)++K:=by
    obtain⟨K,hK⟩:=Za.jV (items.drop j) (Za.aD ns (items.take j))
    refine⟨K++M,?_⟩
    rw[hM,←List.append_assoc,←hK]
    unfold Za.aD
    rw[←List.foldl_append,List.take_append_drop]
   have hNj1:∃K,N=Za.aQ (Za.aD ns (items.take j)) items[j]++K:=by
    obtain⟨K,hK⟩:=Za.jV (items.drop (j+1)) (Za.aD ns (items.take (j+1)))
    refine⟨K++M,?_⟩
    have e:Za.aQ (Za.aD ns (items.take j)) items[j]=Za.aD ns (items.take (j+1)):=by
     rw[oI]
     unfold Za.aD
     rw[List.foldl_append]
     rfl
    rw[e,hM,←List.append_assoc,←hK]
    unfold Za.aD
    rw[←List.foldl_append,List.take_append_drop]
   have rZ:=af oI
   have Qu:=af hNj
   have K6:=af hNj1
   have hDl:(D++E).length+2000000≤1000000000:=by
    have q1:=ej.el
    have q2:=ae HD
    have q3:=ae Uc
    have q4:(items.take j).length≤100:=by rw[List.length_take];omega
    have q5:(items.take j).length*19683≤100*19683:=Nat.mul_le_mul_right _ q4
    rw[List.length_append]
    omega
   have hGG:(G++Gn).length≤1000100:=by
    have q1:=ej.gl.length
    have q2:=ae H9
    have q3:=ae Uc
    have q4:(items.take j).length≤100:=by rw[List.length_take];omega
    rw[List.length_append]
    omega
   have f0:=fc 0 (by omega)
   have f1:=fc 1 (by omega)
   have f2:=fc 2 (by omega)
   have f3:=fc 3 (by omega)
   have f4:=fc 4 (by omega)
   have f5:=fc 5 (by omega)
   have f6:=fc 6 (by omega)
   have f7:=fc 7 (by omega)
   have f8:=fc 8 (by omega)
   have f9:=fc 9 (by omega)
   have f10:=fc 10 (by omega)
   have f11:=fc 11 (by omega)
   have f12:=fc 12 (by omega)
   have f13:=fc 13 (by omega)
   simp only[p8,List.getElem?_cons_zero,List.getElem?_cons_succ,Nat.add_zero]at f0 f1 f2 f3 f4 f5 f6 f7 f8 f9 f10 f11 f12 f13
   have gz:=ag hcw
   have i0:(0:Int)≤(j:Int):=by omega
   have i1:(j:Int)<(items.length:Int):=by omega
   generalize vs[j]=v at*
   have HX:=af (show items[j]∈items from List.getElem_mem hlt)
   generalize items[j]=x at*
   obtain⟨⟨ak0,av0,ax0,ao0,an0,ac0⟩,⟨bk0,bv0,bx0,bo0,bn0,bc0⟩,⟨ck0,cv0,cx0,co0,cn0,cc0⟩,sg,op⟩:=v
   dsimp only at f0 f1 f2 f3 f4 f5 f6 f7 f8 f9 f10 f11 f12 f13
   have Eb:JM P wr mb ((cs.setIfInBounds 1 (.slice no1 (D++E).length nc1)).setIfInBounds 3 (.slice po1 (G++Gn).length pc1)) cb (D++E) (V++F) no1 vo1 fr T1 #[.int .i64 ak0,.int .i64 av0,.string ax0,.slice ao0 an0 ac0,.string sg,.int .i64 bk0,.int .i64 bv0,.string bx0,.slice bo0 bn0 bc0,.string op,.int .i64 ck0,.int .i64 cv0,.string cx0,.slice co0 cn0 cc0] #[.int .i64 0,.string sg,.int .i64 (-1),.string op,.int .i64 (-1),.bool false,.slice none 0 0] (Za.aD ns (items.take j)) [] [] no1 nc1 vo1 vc1 T1 ((wr.alloc (.cells #[.int .i64 ak0,.int .i64 av0,.string ax0,.slice ao0 an0 ac0,.string sg,.int .i64 bk0,.int .i64 bv0,.string bx0,.slice bo0 bn0 bc0,.string op,.int .i64 ck0,.int .i64 cv0,.string cx0,.slice co0 cn0 cc0] 151)).alloc (.cells #[.int .i64 0,.string sg,.int .i64 (-1),.string op,.int .i64 (-1),.bool false,.slice none 0 0] 158)):=by
    have hb:=((Below.refl wr.heap.size wr).alloc (Nat.le_refl _) (.cells #[.int .i64 ak0,.int .i64 av0,.string ax0,.slice ao0 an0 ac0,.string sg,.int .i64 bk0,.int .i64 bv0,.string bx0,.slice bo0 bn0 bc0,.string op,.int .i64 ck0,.int .i64 cv0,.string cx0,.slice co0 cn0 cc0] 151)).alloc (by simp) (.cells #[.int .i64 0,.string sg,.int .i64 (-1),.string op,.int .i64 (-1),.bool false,.slice none 0 0] 158)
    refine⟨?_,fun _ _=>rfl,(fun i d hd=>by simp at hd),fF.nil _ _,by simpa using ej.ln,au.aw hb,aB (heap_alloc_new wr _) _,?_⟩
    ·have:=ej.ms.below hb
     simp only[List.append_nil]
     rw[l9 (ej.ms.ad.st.cel)]
     exact this
    ·have:=heap_alloc_new (wr.alloc (.cells #[.int .i64 ak0,.int .i64 av0,.string ax0,.slice ao0 an0 ac0,.string sg,.int .i64 bk0,.int .i64 bv0,.string bx0,.slice bo0 bn0 bc0,.string op,.int .i64 ck0,.int .i64 cv0,.string cx0,.slice co0 cn0 cc0] 151)) (.cells #[.int .i64 0,.string sg,.int .i64 (-1),.string op,.int .i64 (-1),.bool false,.slice none 0 0] 158)
     rw[World.size_alloc]at this
     exact this
   have hnames1:∃K,N=Za.namesF 8 (Za.aD ns (items.take j)) x.left++K:=by
    obtain⟨K,hK⟩:=ae K6
    obtain⟨K1,h1⟩:=lK x.right (Za.namesF 8 (Za.aD ns (items.take j)) x.left)
    obtain⟨K2,h2⟩:=lK x.last (Za.cG (Za.namesF 8 (Za.aD ns (items.take j)) x.left) x.right)
    refine⟨K1++(K2++K),?_⟩
    rw[hK]
    unfold Za.aQ
    rw[h2,h1]
    simp
   have IA:=af (fun W (hu:Below (wr.heap.size+2) ((wr.alloc (.cells #[.int .i64 ak0,.int .i64 av0,.string ax0,.slice ao0 an0 ac0,.string sg,.int .i64 bk0,.int .i64 bv0,.string bx0,.slice bo0 bn0 bc0,.string op,.int .i64 ck0,.int .i64 cv0,.string cx0,.slice co0 cn0 cc0] 151)).alloc (.cells #[.int .i64 0,.string sg,.int .i64 (-1),.string op,.int .i64 (-1),.bool false,.slice none 0 0] 158)) W)=>K4 (Eb.below (hu.mono (by simp))) (fun g hg=>ae HP g (Nat.le_trans ej.fg.size hg)) (a:=⟨ak0,av0,ax0,ao0,an0,ac0⟩) ((Eb.below (hu.mono (by simp))).ra ej.ms.ad Qt.left) K5.wl hnames1 (by simp only[List.append_nil];omega) (ae Qr))
   have mI:=af Qt
   have wD:=af K5
   have su:=af ej
   have BF:=af hDl
   have bh:=af hlt
   have aT:=af hkj
   have mz:=ag ej.mc.st.blk
   have mne:mb≠wr.heap.size:=by omega
   have mne2:mb≠wr.heap.size+1:=by omega
   have D4:=af hnames1
   clear ej Eb hcs hcw I8 hall kL fc Qt K5 hM oI hNj hNj1 hDl hkj hnames1
   go_wp2_with fail
   go_region_with (go_at_call 54;refine(ae IA _ (by first | exact Below.refl _ _ | exact(Below.refl _ _).drew | exact(Below.refl _ _).drew.drew | exact(Below.refl _ _).drew.drew.drew)).mono ?_;rintro y w2 ⟨n1,E1,F1,no2,nc2,vo2,vc2,T2,rfl,jm2,nl2,tn2,old2,el2⟩;have e2:=ah jm2.bm 0;have x2:=ay jm2.bm 0;have ez2:=ag jm2.bm;simp only[List.getElem?_toArray,List.getElem?_cons_zero]at e2)
   have jm3:JM P wr mb ((cs.setIfInBounds 1 (.slice no1 (D++E).length nc1)).setIfInBounds 3 (.slice po1 (G++Gn).length pc1)) cb (D++E) (V++F) no1 vo1 fr T1 #[.int .i64 ak0,.int .i64 av0,.string ax0,.slice ao0 an0 ac0,.string sg,.int .i64 bk0,.int .i64 bv0,.string bx0,.slice bo0 bn0 bc0,.string op,.int .i64 ck0,.int .i64 cv0,.string cx0,.slice co0 cn0 cc0] #[.int .i64 (n1:Int),.string sg,.int .i64 (-1),.string op,.int .i64 (-1),.bool false,.slice none 0 0] (Za.namesF 8 (Za.aD ns (items.take j)) x.left) ([]++E1) ([]++F1) no2 nc2 vo2 vc2 T2 _:=jm2.set 0 (.int .i64 (n1:Int))
   generalize hw2:(w2.setCell ⟨wr.heap.size+1,0,none⟩ (.int .i64 (n1:Int)))=W2 at*
   clear hw2 jm2 e2 x2 ez2
   have ia4:=ah jm3.bi 4
   have iz:=ag jm3.bi
   have zm:=ag jm3.bm
   simp only[List.getElem?_toArray,List.getElem?_cons_zero,List.getElem?_cons_succ]at ia4
   by_cases aW:x.sign=[]
   ·have hop:x.op=[]:=Classical.byContradiction fun q=>(ae wD).sz q aW
    have zt:=(ae wD).r0 aW
    have Ch:=(ae wD).z0 hop
    have t1:(sg.toList == [])=true:=by rw[(ae mI).sign,aW];rfl
    have t2:(sg.toList != [])=false:=by rw[(ae mI).sign,aW];rfl
    have t3:(op.toList == [])=true:=by rw[(ae mI).op,hop];rfl
    have t4:(op.toList != [])=false:=by rw[(ae mI).op,hop];rfl
    have kJ:Za.aQ (Za.aD ns (items.take j)) x=Za.namesF 8 (Za.aD ns (items.take j)) x.left:=by unfold Za.aQ;rw[zt,Ch];rfl
    rw[←kJ]at jm3
    have ia9:=ah jm3.bi 9
    have ma0:=ah jm3.bm 0
    have ma1:=ah jm3.bm 1
    have ma2:=ah jm3.bm 2
    have ma3:=ah jm3.bm 3
    have ma4:=ah jm3.bm 4
    have ma5:=ah jm3.bm 5
    have ma6:=ah jm3.bm 6
    have iz:=ag jm3.bi
    have zm:=ag jm3.bm
    simp only[List.getElem?_toArray,List.getElem?_cons_zero,List.getElem?_cons_succ]at ia9 ma0 ma1 ma2 ma3 ma4 ma5 ma6
    have dK:=(show mH T2 ((D++E)++([]++E1)).length (cQ T2 ((V++F)++([]++F1)) N) x ⟨n1,sg,(-1),op,(-1),false,none,0,[]⟩from ⟨(ae mI).sign,(ae mI).op,nl2,tn2,fun _=>rfl,(fun r q=>by rw[zt]at q;cases q),fun _=>rfl,(fun z q=>by rw[Ch]at q;cases q),rfl,rfl,rfl,rfl⟩)
    have fC:_:=(show ([]++E1).length≤19683 by simp only[List.nil_append];omega)
    have Qv:=af dK
    have Mx:=af fC
    obtain⟨cs2,fE⟩:=cP.Cf (ae su) jm3
    have f3':=(ah fE.st.blk 3).trans fE.c3
    have mz':=ag fE.st.blk
    have xK:=af (fun Y (hu:Below W2.heap.size W2 Y)=>(fE.below hu).pool)
    have gT:=af (show some mb≠(Value.slice po1 (G++Gn).length pc1).ownBlock from bX (aR fE.pool fE.st.blk (by decide)))
    have Ud:=af fE.st.blk
    have Ci:=af (fun W' w7 g' cap' a1 a2 a3 a4=>(ae su).next jm3 dK fC (fun x hx=>ae qM x (List.mem_of_mem_take hx)) (ae Qu) (W':=W') (w7:=w7) (g':=g') (cap':=cap') a1 a2 a3 a4)
    clear dK fC fE jm3 kJ zt Ch aW hop
    generalize hGN:G++Gn=GG at*
    clear hGN
    go_wp2_with fail
    go_region_law (refine step_append_lies _ (by rfl) _ _ _ (by rfl) 0 158 ti _ 7 88 Tryz.underlying89 hi vY vZ tJ rfl (by omega) (.slice po1 GG.length pc1) GG.length (GG.flatMap fN) (by rfl) ((ae xK _ (by first | exact Below.refl _ _ | exact(Below.refl _ _).drew)).alloc _) ⟨W2.heap.size,0,none⟩ 1 1 [.int .i64 (n1:Int),.string sg,.int .i64 (-1),.string op,.int .i64 (-1),.bool false,.slice none 0 0] (by rfl) (by rfl) (World.news_of_block (cs:=#[.int .i64 (n1:Int),.string sg,.int .i64 (-1),.string op,.int .i64 (-1),.bool false,.slice none 0 0]) (t:=158) (fr:=(0,0)) (heap_alloc_new _ _)) (by simp[Value.oneCell']) (by omega) (by unfold maxLen;omega) (by omega) (Nat.zero_le _) (W2.heap.size+1) (by simp) ?_;intro g' cap' w7 hown1 hgrow hat jl;have m0:=(hgrow.cell_far ⟨mb,3,none⟩ (by simp;omega) (ae gT)).trans ((World.cell?_alloc_past _ _ _ (by first | exact mz' | simp;omega)).trans f3');have jx:=af (ae Ci _ _ _ _ (((Below.refl _ _).drew).alloc (Nat.le_refl _) _) (show w7.ownsRow _ _ _ _ _ (_++[_,_,_,_,_,_,_])from hown1) hgrow (by rcases hat with q | q;exact Or.inl (aI q);(right;omega)));have k9:w7.frozen? ⟨mb,3,none⟩=false:=(by have:=ay (ae jx).mc.st.blk 3;rwa [World.frozen?_setCell]at this);have zz7:mb<w7.heap.size:=(by have:=ag (ae jx).mc.st.blk;rwa [cL]at this);clear hown1 hgrow hat jl)
    all_goals
     go_wp2_with fail
     go_roundg (gk - 1)
     case measure=>have:=ae aT;have:=ae bh;omega
     case rel=>exact⟨j+1,_,_,_,_,_,_,_,_,_,_,by have:=ae aT;have:=ae bh;omega,by go_num,by rw[ae rZ];exact ae jx⟩
   ·obtain⟨r,hr,wfr⟩:=(ae wD).r1 aW
    have t1:(sg.toList == [])=false:=by rw[(ae mI).sign];simpa using aW
    have t2:(sg.toList != [])=true:=by rw[(ae mI).sign];simpa using aW
    obtain⟨M1,hM1⟩:=ae D4
    have MI:=af (fun(T3:Nat→Za.U) (F2:List Nat) (he:∀m,m<(D++E++([]++E1)).length→T3 m=T2 m)=>mi (F:=F2) (ae wD).wl tn2 nl2 (fun y hy=>hy) hM1 jm3.ln jm3.ms.lt he)
    have hnames2:∃K,N=Za.namesF 8 (Za.namesF 8 (Za.aD ns (items.take j)) x.left) r++K:=by
     obtain⟨K,hK⟩:=ae K6
     obtain⟨K2,h2⟩:=lK x.last (Za.cG (Za.namesF 8 (Za.aD ns (items.take j)) x.left) x.right)
     refine⟨K2++K,?_⟩
     rw[hK]
     unfold Za.aQ
     rw[h2,hr,List.append_assoc]
     rfl
    have ia5:=ah jm3.bi 5
    have ia6:=ah jm3.bi 6
    have ia7:=ah jm3.bi 7
    have ia8:=ah jm3.bi 8
    have iz:=ag jm3.bi
    have zm:=ag jm3.bm
    simp only[List.getElem?_toArray,List.getElem?_cons_zero,List.getElem?_cons_succ]at ia5 ia6 ia7 ia8
    have IB:=af (fun Y (hu:Below W2.heap.size W2 Y)=>K4 (jm3.below hu) (fun g hg=>ae HP g (Nat.le_trans (ae su).fg.size hg)) (a:=⟨bk0,bv0,bx0,bo0,bn0,bc0⟩) ((jm3.below hu).ra (ae su).ms.ad ((ae mI).right r hr)) wfr hnames2 (by have:=ae BF;simp only[List.nil_append,List.length_append]at this⊢;omega) (ae Qr))
    have Qw:=af nl2
    have K7:=af el2
    have tB:=af hnames2
    have MJ:=af hr
    have Vp:=af wfr
    have jJ:=af aW
    clear jm3 tn2 nl2 old2 el2 hM1 hnames2 hr wfr aW
    go_wp2_with fail
    go_region_with (go_at_call 54;refine(ae IB _ (by first | exact Below.refl _ _ | exact(Below.refl _ _).drew | exact(Below.refl _ _).drew.drew | exact(Below.refl _ _).drew.drew.drew)).mono ?_;rintro y w3 ⟨n2,E2,F2,no3,nc3,vo3,vc3,T3,rfl,jm4,nl3,tn3,old3,el3⟩;have e3:=ah jm4.bm 2;have x3:=ay jm4.bm 2;have ez3:=ag jm4.bm;simp only[List.getElem?_toArray,List.getElem?_cons_zero,List.getElem?_cons_succ]at e3)
    have jm5:JM P wr mb ((cs.setIfInBounds 1 (.slice no1 (D++E).length nc1)).setIfInBounds 3 (.slice po1 (G++Gn).length pc1)) cb (D++E) (V++F) no1 vo1 fr T1 #[.int .i64 ak0,.int .i64 av0,.string ax0,.slice ao0 an0 ac0,.string sg,.int .i64 bk0,.int .i64 bv0,.string bx0,.slice bo0 bn0 bc0,.string op,.int .i64 ck0,.int .i64 cv0,.string cx0,.slice co0 cn0 cc0] #[.int .i64 (n1:Int),.string sg,.int .i64 (n2:Int),.string op,.int .i64 (-1),.bool false,.slice none 0 0] (Za.namesF 8 (Za.namesF 8 (Za.aD ns (items.take j)) x.left) r) ([]++E1++E2) ([]++F1++F2) no3 nc3 vo3 vc3 T3 _:=jm4.set 2 (.int .i64 (n2:Int))
    generalize hw3:(w3.setCell ⟨wr.heap.size+1,2,none⟩ (.int .i64 (n2:Int)))=W3 at*
    clear hw3 jm4 e3 x3 ez3
    clear IB ia4 ia5 ia6 ia7 ia8
    have ia9:=ah jm5.bi 9
    have iz:=ag jm5.bi
    have zm:=ag jm5.bm
    simp only[List.getElem?_toArray,List.getElem?_cons_zero,List.getElem?_cons_succ]at ia9
    by_cases hop:x.op=[]
    ·have Ch:=(ae wD).z0 hop
     have t3:(op.toList == [])=true:=by rw[(ae mI).op,hop];rfl
     have t4:(op.toList != [])=false:=by rw[(ae mI).op,hop];rfl
     have kJ:Za.aQ (Za.aD ns (items.take j)) x=Za.namesF 8 (Za.namesF 8 (Za.aD ns (items.take j)) x.left) r:=by unfold Za.aQ;rw[ae MJ,Ch];rfl
     rw[←kJ]at jm5
     have ia9:=ah jm5.bi 9
     have ma0:=ah jm5.bm 0
     have ma1:=ah jm5.bm 1
     have ma2:=ah jm5.bm 2
     have ma3:=ah jm5.bm 3
     have ma4:=ah jm5.bm 4
     have ma5:=ah jm5.bm 5
     have ma6:=ah jm5.bm 6
     have iz:=ag jm5.bi
     have zm:=ag jm5.bm
     simp only[List.getElem?_toArray,List.getElem?_cons_zero,List.getElem?_cons_succ]at ia9 ma0 ma1 ma2 ma3 ma4 ma5 ma6
     have dK:=(show mH T3 ((D++E)++([]++E1++E2)).length (cQ T3 ((V++F)++([]++F1++F2)) N) x ⟨n1,sg,(n2:Int),op,(-1),false,none,0,[]⟩from ⟨(ae mI).sign,(ae mI).op,(by have:=ae Qw;simp only[List.nil_append,List.length_append]at this⊢;omega),(by have:=ae MI T3 F2 old3;rwa [List.append_assoc (V++F)]at this),(fun q=>absurd q (ae jJ)),(fun r' q=>by rw[ae MJ]at q;cases q;exact⟨n2,rfl,nl3,tn3⟩),fun _=>rfl,(fun z q=>by rw[Ch]at q;cases q),rfl,rfl,rfl,rfl⟩)
     have fC:_:=(show ([]++E1++E2).length≤19683 by have:=ae K7;simp only[List.nil_append,List.length_append];omega)
     have Qv:=af dK
     have Mx:=af fC
     obtain⟨cs2,fE⟩:=cP.Cf (ae su) jm5
     have f3':=(ah fE.st.blk 3).trans fE.c3
     have mz':=ag fE.st.blk
     have xK:=af (fun Y (hu:Below W3.heap.size W3 Y)=>(fE.below hu).pool)
     have gT:=af (show some mb≠(Value.slice po1 (G++Gn).length pc1).ownBlock from bX (aR fE.pool fE.st.blk (by decide)))
     have Ud:=af fE.st.blk
     have Ci:=af (fun W' w7 g' cap' a1 a2 a3 a4=>(ae su).next jm5 dK fC (fun x hx=>ae qM x (List.mem_of_mem_take hx)) (ae Qu) (W':=W') (w7:=w7) (g':=g') (cap':=cap') a1 a2 a3 a4)
     clear dK fC fE jm5 kJ Ch hop
     generalize hGN:G++Gn=GG at*
     clear hGN
     go_wp2_with fail
     go_region_law (refine step_append_lies _ (by rfl) _ _ _ (by rfl) 0 158 ti _ 7 88 Tryz.underlying89 hi vY vZ tJ rfl (by omega) (.slice po1 GG.length pc1) GG.length (GG.flatMap fN) (by rfl) ((ae xK _ (by first | exact Below.refl _ _ | exact(Below.refl _ _).drew)).alloc _) ⟨W3.heap.size,0,none⟩ 1 1 [.int .i64 (n1:Int),.string sg,.int .i64 (n2:Int),.string op,.int .i64 (-1),.bool false,.slice none 0 0] (by rfl) (by rfl) (World.news_of_block (cs:=#[.int .i64 (n1:Int),.string sg,.int .i64 (n2:Int),.string op,.int .i64 (-1),.bool false,.slice none 0 0]) (t:=158) (fr:=(0,0)) (heap_alloc_new _ _)) (by simp[Value.oneCell']) (by omega) (by unfold maxLen;omega) (by omega) (Nat.zero_le _) (W3.heap.size+1) (by simp) ?_;intro g' cap' w7 hown1 hgrow hat jl;have m0:=(hgrow.cell_far ⟨mb,3,none⟩ (by simp;omega) (ae gT)).trans ((World.cell?_alloc_past _ _ _ (by first | exact mz' | simp;omega)).trans f3');have jx:=af (ae Ci _ _ _ _ (((Below.refl _ _).drew).alloc (Nat.le_refl _) _) (show w7.ownsRow _ _ _ _ _ (_++[_,_,_,_,_,_,_])from hown1) hgrow (by rcases hat with q | q;exact Or.inl (aI q);(right;omega)));have k9:w7.frozen? ⟨mb,3,none⟩=false:=(by have:=ay (ae jx).mc.st.blk 3;rwa [World.frozen?_setCell]at this);have zz7:mb<w7.heap.size:=(by have:=ag (ae jx).mc.st.blk;rwa [cL]at this);clear hown1 hgrow hat jl)
     all_goals
      go_wp2_with fail
      go_roundg (gk - 1)
      case measure=>have:=ae aT;have:=ae bh;omega
      case rel=>exact⟨j+1,_,_,_,_,_,_,_,_,_,_,by have:=ae aT;have:=ae bh;omega,by go_num,by rw[ae rZ];exact ae jx⟩
    ·obtain⟨z,hz,wfz⟩:=(ae wD).z1 hop
     have t3:(op.toList == [])=false:=by rw[(ae mI).op];simpa using hop
     have t4:(op.toList != [])=true:=by rw[(ae mI).op];simpa using hop
     obtain⟨M2,hM2⟩:=ae tB
     have Qx:=af (fun(T4:Nat→Za.U) (F3:List Nat) (he:∀m,m<(D++E++([]++E1++E2)).length→T4 m=T3 m)=>mi (F:=F3) (ae Vp) tn3 nl3 (fun y hy=>hy) hM2 jm5.ln jm5.ms.lt he)
     have kJ:Za.aQ (Za.aD ns (items.take j)) x=Za.namesF 8 (Za.namesF 8 (Za.namesF 8 (Za.aD ns (items.take j)) x.left) r) z:=by unfold Za.aQ;rw[ae MJ,hz];rfl
     have hnames3:∃K,N=Za.namesF 8 (Za.namesF 8 (Za.namesF 8 (Za.aD ns (items.take j)) x.left) r) z++K:=by
      obtain⟨K,hK⟩:=ae K6
      rw[kJ]at hK
      exact⟨K,hK⟩
     have ia10:=ah jm5.bi 10
     have ia11:=ah jm5.bi 11
     have ia12:=ah jm5.bi 12
     have ia13:=ah jm5.bi 13
     have iz:=ag jm5.bi
     have zm:=ag jm5.bm
     simp only[List.getElem?_toArray,List.getElem?_cons_zero,List.getElem?_cons_succ]at ia10 ia11 ia12 ia13
     have IC:=af (fun Y (hu:Below W3.heap.size W3 Y)=>K4 (jm5.below hu) (fun g hg=>ae HP g (Nat.le_trans (ae su).fg.size hg)) (a:=⟨ck0,cv0,cx0,co0,cn0,cc0⟩) ((jm5.below hu).ra (ae su).ms.ad ((ae mI).last z hz)) wfz hnames3 (by have:=ae BF;have:=ae K7;simp only[List.nil_append,List.length_append]at*;omega) (ae Qr))
     have S3:=af old3
     have La:=af nl3
     have Vq:=af el3
     have gT:=af kJ
     have WZ:=af hz
     have Qy:=af hop
     clear jm5 tn3 nl3 old3 el3 hM2 hnames3 kJ hz wfz hop
     go_wp2_with fail
     go_region_with (go_at_call 54;refine(ae IC _ (by first | exact Below.refl _ _ | exact(Below.refl _ _).drew | exact(Below.refl _ _).drew.drew | exact(Below.refl _ _).drew.drew.drew)).mono ?_;rintro y w4 ⟨n3,E3,F3,no4,nc4,vo4,vc4,T4,rfl,jm6,nl4,tn4,old4,el4⟩;have e4:=ah jm6.bm 4;have x4:=ay jm6.bm 4;have ez4:=ag jm6.bm;simp only[List.getElem?_toArray,List.getElem?_cons_zero,List.getElem?_cons_succ]at e4)
     have jm7:JM P wr mb ((cs.setIfInBounds 1 (.slice no1 (D++E).length nc1)).setIfInBounds 3 (.slice po1 (G++Gn).length pc1)) cb (D++E) (V++F) no1 vo1 fr T1 #[.int .i64 ak0,.int .i64 av0,.string ax0,.slice ao0 an0 ac0,.string sg,.int .i64 bk0,.int .i64 bv0,.string bx0,.slice bo0 bn0 bc0,.string op,.int .i64 ck0,.int .i64 cv0,.string cx0,.slice co0 cn0 cc0] #[.int .i64 (n1:Int),.string sg,.int .i64 (n2:Int),.string op,.int .i64 (n3:Int),.bool false,.slice none 0 0] (Za.namesF 8 (Za.namesF 8 (Za.namesF 8 (Za.aD ns (items.take j)) x.left) r) z) ([]++E1++E2++E3) ([]++F1++F2++F3) no4 nc4 vo4 vc4 T4 _:=jm6.set 4 (.int .i64 (n3:Int))
     generalize hw4:(w4.setCell ⟨wr.heap.size+1,4,none⟩ (.int .i64 (n3:Int)))=W4 at*
     clear hw4 jm6 e4 x4 ez4
     clear IC ia9 ia10 ia11 ia12 ia13
     rw[←ae gT]at jm7
     clear gT
     have ia9:=ah jm7.bi 9
     have ma0:=ah jm7.bm 0
     have ma1:=ah jm7.bm 1
     have ma2:=ah jm7.bm 2
     have ma3:=ah jm7.bm 3
     have ma4:=ah jm7.bm 4
     have ma5:=ah jm7.bm 5
     have ma6:=ah jm7.bm 6
     have iz:=ag jm7.bi
     have zm:=ag jm7.bm
     simp only[List.getElem?_toArray,List.getElem?_cons_zero,List.getElem?_cons_succ]at ia9 ma0 ma1 ma2 ma3 ma4 ma5 ma6
     have dK:=(show mH T4 ((D++E)++([]++E1++E2++E3)).length (cQ T4 ((V++F)++([]++F1++F2++F3)) N) x ⟨n1,sg,(n2:Int),op,(n3:Int),false,none,0,[]⟩from ⟨(ae mI).sign,(ae mI).op,(by have:=ae Qw;simp only[List.nil_append,List.length_append]at this⊢;omega),(by have:=ae MI T4 (F2++F3) (fun m hm=>(old4 m (by simp only[List.nil_append,List.length_append]at hm⊢;omega)).trans (ae S3 m hm));rwa [List.append_assoc (V++F),←List.append_assoc ([]++F1)]at this),(fun q=>absurd q (ae jJ)),(fun r' q=>by rw[ae MJ]at q;cases q;exact⟨n2,rfl,(by have:=ae La;simp only[List.nil_append,List.length_append]at this⊢;omega),(by have:=ae Qx T4 F3 old4;rwa [List.append_assoc (V++F)]at this)⟩),(fun q=>absurd q (ae Qy)),(fun z' q=>by rw[ae WZ]at q;cases q;exact⟨n3,rfl,nl4,tn4⟩),rfl,rfl,rfl,rfl⟩)
     have fC:_:=(show ([]++E1++E2++E3).length≤19683 by have:=ae K7;have:=ae Vq;simp only[List.nil_append,List.length_append];omega)
     have Qv:=af dK
     have Mx:=af fC
     obtain⟨cs2,fE⟩:=cP.Cf (ae su) jm7
     have f3':=(ah fE.st.blk 3).trans fE.c3
     have mz':=ag fE.st.blk
     have xK:=af (fun Y (hu:Below W4.heap.size W4 Y)=>(fE.below hu).pool)
     have gT:=af (show some mb≠(Value.slice po1 (G++Gn).length pc1).ownBlock from bX (aR fE.pool fE.st.blk (by decide)))
     have Ud:=af fE.st.blk
     have Ci:=af (fun W' w7 g' cap' a1 a2 a3 a4=>(ae su).next jm7 dK fC (fun x hx=>ae qM x (List.mem_of_mem_take hx)) (ae Qu) (W':=W') (w7:=w7) (g':=g') (cap':=cap') a1 a2 a3 a4)
     clear dK fC fE jm7
     generalize hGN:G++Gn=GG at*
     clear hGN
     go_wp2_with fail
     go_region_law (refine step_append_lies _ (by rfl) _ _ _ (by rfl) 0 158 ti _ 7 88 Tryz.underlying89 hi vY vZ tJ rfl (by omega) (.slice po1 GG.length pc1) GG.length (GG.flatMap fN) (by rfl) ((ae xK _ (by first | exact Below.refl _ _ | exact(Below.refl _ _).drew)).alloc _) ⟨W4.heap.size,0,none⟩ 1 1 [.int .i64 (n1:Int),.string sg,.int .i64 (n2:Int),.string op,.int .i64 (n3:Int),.bool false,.slice none 0 0] (by rfl) (by rfl) (World.news_of_block (cs:=#[.int .i64 (n1:Int),.string sg,.int .i64 (n2:Int),.string op,.int .i64 (n3:Int),.bool false,.slice none 0 0]) (t:=158) (fr:=(0,0)) (heap_alloc_new _ _)) (by simp[Value.oneCell']) (by omega) (by unfold maxLen;omega) (by omega) (Nat.zero_le _) (W4.heap.size+1) (by simp) ?_;intro g' cap' w7 hown1 hgrow hat jl;have m0:=(hgrow.cell_far ⟨mb,3,none⟩ (by simp;omega) (ae gT)).trans ((World.cell?_alloc_past _ _ _ (by first | exact mz' | simp;omega)).trans f3');have jx:=af (ae Ci _ _ _ _ (((Below.refl _ _).drew).alloc (Nat.le_refl _) _) (show w7.ownsRow _ _ _ _ _ (_++[_,_,_,_,_,_,_])from hown1) hgrow (by rcases hat with q | q;exact Or.inl (aI q);(right;omega)));have k9:w7.frozen? ⟨mb,3,none⟩=false:=(by have:=ay (ae jx).mc.st.blk 3;rwa [World.frozen?_setCell]at this);have zz7:mb<w7.heap.size:=(by have:=ag (ae jx).mc.st.blk;rwa [cL]at this);clear hown1 hgrow hat jl)
     all_goals
      go_wp2_with fail
      go_roundg (gk - 1)
      case measure=>have:=ae aT;have:=ae bh;omega
      case rel=>exact⟨j+1,_,_,_,_,_,_,_,_,_,_,by have:=ae aT;have:=ae bh;omega,by go_num,by rw[ae rZ];exact ae jx⟩
  ·obtain rfl:j=items.length:=by omega
   rw[List.take_length]at ej
   have su:=af ej
   clear ej hkj
   go_wp2_with fail
   go_end0
   exact⟨rfl,_,_,_,_,_,_,_,_,_,_,ae su⟩
end Go.Proofs.YthfjnfcekeknlaaGreatDoor
