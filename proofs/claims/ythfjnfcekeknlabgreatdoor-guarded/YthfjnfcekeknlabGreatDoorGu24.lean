import Derived.Test.YthfjnfcekeknlabGreatDoorGu23
import Derived.Deep.LoopGhost
set_option maxHeartbeats 8000000
set_option maxRecDepth 100000
namespace Go.Proofs.YthfjnfcekeknlabGreatDoor
open Go.RowKit
def Cy (b:Nat) (E:List Ng):Prop:=∀(i:Nat) (d:Ng),E[i]?=some d→d.nx=b+i∧d.mrk=0∧fU (b+i) d
theorem Cy.at {D E:List Ng} (h:Cy D.length E) {n:Nat} (h1:D.length≤n) (h2:n<(D++E).length):(D++E)[n].nx=n∧(D++E)[n].mrk=0∧fU n (D++E)[n]:=by
 rw[List.getElem_append_right h1]
 rw[List.length_append]at h2
 have:=h (n - D.length) E[n - D.length] (List.getElem?_eq_getElem (by omega))
 rwa [show D.length+(n - D.length)=n by omega]at this
theorem bZ.NI {D E:List Ng} {fr:Nat→Nat} (h:bZ D fr) (hE:Cy D.length E):bZ (D++E) fr:=by
 refine⟨fun n hn=> ?_,fun n hn=> ?_,fun n hn=>h.out n (by rw[List.length_append]at hn;omega)⟩
 ·by_cases q:n<D.length
  ·rw[List.getElem_append_left q]
   exact(h.nd n q).mono (by rw[List.length_append];omega)
  ·exact(hE.at (by omega) hn).2.2.mono (by omega)
 ·by_cases q:n<D.length
  ·obtain⟨k,hk⟩:=h.hop n q
   have key:∀{n m k},Hop D n m k→Hop (D++E) n m k:=by
    intro n m k hk
    induction hk with
    | stop q e=>exact .stop (by rw[List.length_append];omega) (by rw[List.getElem_append_left q];exact e)
    | go q e _ ih=>exact .go (by rw[List.length_append];omega) (by rw[List.getElem_append_left q];exact e) (by rw[List.getElem_append_left q];exact ih)
   exact⟨k,key hk⟩
  ·rw[h.out n (by omega)]
   exact⟨0,.stop hn (hE.at (by omega) hn).1⟩
theorem Jv {D E:List Ng} {fr:Nat→Nat} {T:Nat→Zf.U} (h:bZ D fr) (hS:Zf.dI (aX D) fr T) (hE:Cy D.length E):∃T',Zf.dI (aX (D++E)) fr T'∧∀n,n<D.length→T' n=T n:=by
 have ho:=h.NI hE
 have hplain:Zf.Plain (aX (D++E)):=fun n hg=>by
  by_cases q:n<(D++E).length
  ·rw[mf q]at hg
   rw[jS q]
   exact((ho.nd n q).v ((ho.nd n q).lab.1 hg)).2.2.2
  ·exact xq (by omega)
 have htr:∀n,∃u,Zf.Tr (aX (D++E)) fr n u:=by
  intro n
  induction n using Nat.strongRecOn with
  | _ n ih=>
   by_cases q:n<D.length
   ·exact⟨_,uA h (hS.tr n) q⟩
   ·have hf:fr n=n:=h.out n (by omega)
    refine Zf.qN hplain fun a ha=>ih a ?_
    rw[hf]at ha
    by_cases r:n<(D++E).length
    ·rw[jS r]at ha
     exact(hE.at (by omega) r).2.2.inn a ha
    ·rw[xq (by omega)]at ha
     cases ha
 refine⟨fun n=>Classical.choose (htr n),⟨⟨ho.idem,fun n hn=> ?_⟩,⟨fun n hn=> ?_,fun n hn i x y hx hy=> ?_⟩,fun n=>Classical.choose_spec (htr n),hplain,fun n hg=> ?_⟩,fun n hn=> ?_⟩
 ·by_cases q:n<D.length
  ·rw[gD q]at hn
   rw[gD (h.lt q)]
   exact hS.fronts.lab n hn
  ·rw[h.out n (by omega)];exact hn
 ·by_cases q:n<D.length
  ·rw[gD q]at hn
   have:=hS.cong.lab n hn
   unfold Zf.pK at this⊢
   rw[gD q,gD (h.lt q),jH q,jH (h.lt q)]
   exact this
  ·rw[h.out n (by omega)];exact⟨rfl,rfl⟩
 ·by_cases q:n<D.length
  ·rw[gD q]at hn
   rw[jH q]at hx
   rw[jH (h.lt q)]at hy
   exact hS.cong.args n hn i x y hx hy
  ·rw[h.out n (by omega),hx]at hy
   obtain rfl:=Option.some.inj hy
   exact .fr rfl
 ·by_cases q:n<D.length
  ·rw[gD (h.lt q)]at hg
   exact hS.sj n hg
  ·rw[h.out n (by omega)];exact Nat.le_refl _
 ·exact(Classical.choose_spec (htr n)).one (uA h (hS.tr n) hn)
def gK (x:Int) (n:Nat):Ng:=⟨2,x,⟨#[]⟩,0,none,0,[],n,0⟩
theorem Cz (x:Int) (b:Nat):Cy b [gK x b]:=fun i d hd=>by
 cases i with
 | zero=>
  simp at hd
  subst hd
  exact⟨rfl,rfl,Or.inr (Or.inl rfl),(fun q=>absurd q (show¬(2:Int)=1 by decide)),(fun _=>⟨rfl,rfl,rfl⟩),(fun q=>absurd q (show¬(2:Int)=3 by decide)),(fun a ha=>by cases ha)⟩
 | succ i=>simp at hd
theorem Ph (P:Nat→Prop) (w:World) (sb so:Nat) (cs:Array Value) (T:TypeId) (cb:Nat) (D:List Ng) (V:List Nat) (no:Option Addr) (nc:Nat) (vo:Option Addr) (vc:Nat) (x:Int) (h:fI P w sb so cs T cb D V no nc vo vc) (hP:∀g,w.heap.size≤g→P g) (hT:T≠74) (hd:D.length+1≤1000000000):
 Calls Tryz.prog 45 #[.pointer (some ⟨sb,so,none⟩),.agg #[.int .i64 2,.int .i64 x,.string ⟨#[]⟩,.slice none 0 0],.pointer (some ⟨cb,0,none⟩)] w fun e w'=>e= .returned (.int .i64 (D.length:Int))∧∃no' nc',fI P w' sb so (cs.setIfInBounds so (.slice no' (D.length+1) nc')) T cb (D++[gK x D.length]) V no' nc' vo vc∧aq (bO sb no cb vo) (bO sb no' cb vo) w w':=by
 have rV:so<cs.size:=(Array.getElem?_eq_some_iff.1 h.st.cel).1
 have hB:=(Below.refl w.heap.size w).alloc (Nat.le_refl _) (.cells #[.int .i64 2,.int .i64 x,.string ⟨#[]⟩,.slice none 0 0] 74)
 have had:=h.below hB
 have dN:=heap_alloc_new w (.cells #[.int .i64 2,.int .i64 x,.string ⟨#[]⟩,.slice none 0 0] 74)
 generalize hwr:w.alloc (.cells #[.int .i64 2,.int .i64 x,.string ⟨#[]⟩,.slice none 0 0] 74)=wr at*
 have s0:=had.st.cell
 have b0:=ah dN 0
 have b1:=ah dN 1
 have b2:=ah dN 2
 have b3:=ah dN 3
 simp only[List.getElem?_toArray,List.getElem?_cons_zero,List.getElem?_cons_succ]at b0 b1 b2 b3
 have sz:=af had.st.blk
 have z4:=af dN
 have LB:=hide (show Calls _ _ _ _ _ from qC (wr.drew) ⟨2,x,⟨#[]⟩,none,0,0⟩)
 have VR:sb≠w.heap.size:=fun e=>by
  have:=had.st.blk
  rw[e,dN]at this
  simp only[Option.some.injEq,Obj.cells.injEq]at this
  exact hT this.2.1.symm
 have sP:=hide (show some sb≠(Value.slice no D.length nc).ownBlock from bX (aN had.st.own had.st.blk had.st.ty))
 have xm:=hide (show some w.heap.size≠(Value.slice no D.length nc).ownBlock from bX (aN had.st.own dN (by decide)))
 have ID:=hide rV
 have BV:=hide had
 have HP:=hide hP
 have hz0:=hB.size
 have aS:=hide hB
 obtain⟨ti,hi,vQ,vR,tz⟩:=info_parts infoNd
 clear h had hP hT rV hB dN
 go_enter Tryz.func45,Tryz.ntmps45
 go_wp2_with fail
 refine wp_loop_rounds 1 ?_
 rw[rounds_succ]
 go_wp2_with fail
 go_region_law (first
  | (go_simp;go_at_call 78;refine(ae LB).mono ?_;rintro e w2 ⟨rfl,hb⟩;have aP:=hide (((Below.refl _ wr).drew).trans hb);have k0:=(hb.cell (p:=⟨sb,so,none⟩) sz).trans s0;have k1:=(hb.cell (p:=⟨w.heap.size,0,none⟩) z4).trans b0;have k2:=(hb.cell (p:=⟨w.heap.size,1,none⟩) z4).trans b1;have k3:=(hb.cell (p:=⟨w.heap.size,2,none⟩) z4).trans b2;have k4:=(hb.cell (p:=⟨w.heap.size,3,none⟩) z4).trans b3;have hz2:wr.heap.size≤w2.heap.size:=hb.size;have k0':∀o,(w2.alloc o).cell? ⟨sb,so,none⟩=some (.slice no D.length nc):=(fun o=>(World.cell?_alloc_past _ _ _ (by omega)).trans k0);clear hb)
  | (refine step_append_lies _ (by rfl) _ _ _ (by rfl) 0 147 ti _ 7 80 Tryz.underlying83 hi vQ vR tz rfl (by omega) (.slice no D.length nc) D.length (kA D) (by rfl) (((ae BV).below (ae aP)).st.own.alloc _) ⟨w2.heap.size,0,none⟩ 1 1 [.int .i64 2,.int .i64 x,.string ⟨#[]⟩,.int .i64 0,.slice none 0 0,.int .i64 (D.length:Int),.int .i64 0] (by rfl) (by rfl) (World.news_of_block (cs:=#[.int .i64 2,.int .i64 x,.string ⟨#[]⟩,.int .i64 0,.slice none 0 0,.int .i64 (D.length:Int),.int .i64 0]) (t:=147) (fr:=(0,0)) (heap_alloc_new w2 _)) (by simp[Value.oneCell']) (by omega) (by unfold maxLen;omega) (by omega) (Nat.zero_le _) (w2.heap.size+1) (by simp) ?_;intro g cap' w7 hown1 hgrow hat jG;have m0:=(hgrow.cell_far ⟨sb,so,none⟩ (by simp;omega) (ae sP)).trans ((World.cell?_alloc_past _ _ _ (by omega)).trans k0);have m1:=(hgrow.cell_far ⟨w.heap.size,0,none⟩ (by simp;omega) (ae xm)).trans ((World.cell?_alloc_past _ _ _ (by omega)).trans k1);have m2:=(hgrow.cell_far ⟨w.heap.size,1,none⟩ (by simp;omega) (ae xm)).trans ((World.cell?_alloc_past _ _ _ (by omega)).trans k2);have m3:=(hgrow.cell_far ⟨w.heap.size,2,none⟩ (by simp;omega) (ae xm)).trans ((World.cell?_alloc_past _ _ _ (by omega)).trans k3);have m4:=(hgrow.cell_far ⟨w.heap.size,3,none⟩ (by simp;omega) (ae xm)).trans ((World.cell?_alloc_past _ _ _ (by omega)).trans k4);have HN:=hide (((ae BV).below (ae aP)).node (fun g q=>ae HP g (by omega)) (ae ID) ((Below.refl _ _).alloc (Nat.le_refl _) _) (d:=gK x D.length) (show w7.ownsRow _ _ _ _ _ (_++[_,_,_,_,_,_,_])from hown1) hgrow (by rcases hat with q | q;exact Or.inl (aG q);(right;omega)) (fun q=>absurd rfl q));have k9:w7.frozen? ⟨sb,so,none⟩=false:=(by have:=au (ae HN).1.st.blk so;rwa [World.frozen?_setCell]at this);have zz7:sb<w7.heap.size:=(by have:=af (ae HN).1.st.blk;rwa [bS]at this);clear hown1 hgrow hat jG))
 all_goals (go_wp2_with fail;go_ret;exact⟨rfl,_,_,(ae HN).1,((aq.of_below (ae aS)).trans (aq.of_below (ae aP))).trans (ae HN).2⟩)
end Go.Proofs.YthfjnfcekeknlabGreatDoor
namespace Zf
def fp (op:List UInt8) (u v:U):Wn:=if op=[]then Wn.none.aU u else(Wn.none.aU u).aU v
end Zf
namespace Go.Proofs.YthfjnfcekeknlabGreatDoor
open Go.RowKit
theorem pY {w:World} {cb:Nat} {V:List Nat} {vo:Option Addr} {vc:Nat} (h:BR w cb V vo vc) {k:Nat} {ys:Array Value} {S:TypeId} (hk:w.heap[k]?=some (.cells ys S (0,0))) (h1:S≠90):k≠cb:=fun e=>by
 rw[e,h.blk]at hk
 simp only[Option.some.injEq,Obj.cells.injEq]at hk
 exact h1 hk.2.1.symm
theorem cR.added {P:Nat→Prop} {w w':World} {mb:Nat} {cs:Array Value} {D D':List Ng} {nO no':Option Addr} {nC nc':Nat} {fr:Nat→Nat} {G:List Gl} {po:Option Addr} {pc cb:Nat} {V V':List Nat} {vo vo':Option Addr} {vc vc':Nat} (h:cR w mb cs D nO nC fr G po pc) (hsc:BR w cb V vo vc) (Rj:∀g∈G,∀k,rowOf g.no k→¬rowOf vo k) (had:fI P w' mb 1 (cs.setIfInBounds 1 (.slice no' D'.length nc')) 88 cb D' V' no' nc' vo' vc') (ok:bZ D' fr) (hl:D.length≤D'.length) (hf:aq (bO mb nO cb vo) (bO mb no' cb vo') w w'):cR w' mb (cs.setIfInBounds 1 (.slice no' D'.length nc')) D' no' nc' fr G po pc:=by
 have nomb:∀{k:Nat} {ys:Array Value} {S:TypeId},w.heap[k]?=some (.cells ys S (0,0))→S≠88→k≠mb:=fun {k ys S} hk hS e=>by
  rw[e,h.st.blk]at hk
  simp only[Option.some.injEq,Obj.cells.injEq]at hk
  exact hS hk.2.1.symm
 refine⟨had.st,ok,by rw[Array.getElem?_setIfInBounds_ne (by omega)];exact h.c3,ai h.pool fun g q=> ?_,fun g hg=>ai (h.nds g hg) fun k q=> ?_,fun g hg v hv=>Nat.lt_of_lt_of_le (h.nlt g hg v hv) hl,h.nl⟩
 ·obtain⟨cur,hc⟩:=aH h.pool (aG q)
  refine hf.block g (af hc) ?_
  rintro(e | e | e | e)
  ·exact nomb hc (by decide) e
  ·exact aN h.st.own hc (by decide) e
  ·exact pY hsc hc (by decide) e
  ·exact aN hsc.own hc (by decide) e
 ·obtain⟨cur,hc⟩:=aH (h.nds g hg) (aG q)
  refine hf.block k (af hc) ?_
  rintro(e | e | e | e)
  ·exact nomb hc (by decide) e
  ·exact aN h.st.own hc (by decide) e
  ·exact pY hsc hc (by decide) e
  ·exact Rj g hg k (aG q) e
theorem uE {D:List Ng} {x:Int}:(D++[gK x D.length]).length=D.length+1:=by simp
def tO (mb:Nat) (cs:Array Value) (D:List Ng) (nO:Option Addr) (nC:Nat) (fr:Nat→Nat) (TT:Nat→Zf.U) (P:Nat→Prop) (G:List Gl) (po:Option Addr) (pc i:Nat) (g:Gl) (W:Zf.Wn) (r:Option Int) (w:World) (e:Ending) (w':World):Prop:=
 (W.wt≠[]∧∃(wo:Option Addr) (wc:Nat),e= .returned (.int .i64 (-1))∧cR w' mb cs D nO nC fr (G.set i {g with wt:=true,no:=wo,nc:=wc,nd:=W.wt}) po pc∧aq (rowOf po) (rowOf po) w w'∧(∀k,rowOf wo k→w.heap.size≤k))∨
 (W.wt=[]∧r=none∧e= .returned (.int .i64 (-2))∧w'.heap[mb]?=some (.cells (cs.setIfInBounds 5 (.int .i64 5)) 88 (0,0))∧aq (fun k=>k=mb) (fun k=>k=mb) w w')∨
 (W.wt=[]∧∃(x:Int) (no':Option Addr) (nc':Nat) (T2:Nat→Zf.U) (w2:World),r=some x∧bZ (D++[gK x D.length]) fr∧Zf.dI (aX (D++[gK x D.length])) fr T2∧(∀m,m<D.length→T2 m=TT m)∧T2 D.length= .n 3 [] x []∧cR w2 mb (cs.setIfInBounds 1 (.slice no' (D++[gK x D.length]).length nc')) (D++[gK x D.length]) no' nc' fr G po pc∧aY w2 (D++[gK x D.length]) P∧aq (cI mb nO) (cI mb no') w w2∧zQ mb (cs.setIfInBounds 1 (.slice no' (D++[gK x D.length]).length nc')) (D++[gK x D.length]) no' nc' fr T2 G i g.l D.length w2 e w')
theorem Gq {D:List Ng} {fr:Nat→Nat} {T:Nat→Zf.U} {x:Int} (_ok:bZ (D++[gK x D.length]) fr) (hS:Zf.dI (aX (D++[gK x D.length])) fr T):T D.length= .n 3 [] x []:=by
 have hn:D.length<(D++[gK x D.length]).length:=by simp
 have tA:(D++[gK x D.length])[D.length]=gK x D.length:=by simp
 rw[hS.reads.node D.length 3 [] x (by rw[mf hn,tA];rfl),jS hn,tA]
 rfl
theorem Jw {fr:Nat→Nat} {TT:Nat→Zf.U} {D:List Ng} (ok:bZ D fr) {W:Zf.Wn} {n:Nat} (hn:n<D.length) (hW:∀v∈W.wt,v<D.length) (hv:∀x,TT n= .v x→x=([],fr n)):∀v∈(W.aU (TT n)).wt,v<D.length:=fun v hm=>by
 cases hu:TT n with
 | n k tx num ss=>rw[hu]at hm;exact hW v hm
 | v x=>
  rw[hu,hv x hu]at hm
  have:v∈Zf.cZ W.wt (fr n):=hm
  unfold Zf.cZ at this
  split at this
  ·exact hW v this
  ·rcases List.mem_append.1 this with q | q
   ·exact hW v q
   ·rw[List.mem_singleton.1 q];exact ok.lt hn
end Go.Proofs.YthfjnfcekeknlabGreatDoor
namespace Zf
structure tP (x:aD):Prop where
 wl:wfK 8 x.left
 r0:x.sign=[]→x.right=none
 r1:x.sign≠[]→∃r,x.right=some r∧wfK 8 r
 z0:x.op=[]→x.last=none
 z1:x.op≠[]→∃z,x.last=some z∧wfK 8 z
 sz:x.op≠[]→x.sign≠[]
end Zf
namespace Go.Proofs.YthfjnfcekeknlabGreatDoor
open Go.RowKit
theorem aq.eN {R R':Nat→Prop} {w W:World} (h:aq R R' w W) {b:Nat} (hb:w.heap.size≤b) (c:Nat) (v:Value):aq R R' w (W.setCell ⟨b,c,none⟩ v):=
 ⟨h.os,h.tape,h.output,by rw[bS];exact h.size,fun k hk hr=>(aC _ _ _ _ (by omega)).trans (h.block k hk hr),h.row⟩
theorem fy.eN {P:Nat→Prop} {w:World} {sb so:Nat} {cs:Array Value} {T:TypeId} {cb:Nat} {D:List Ng} {V:List Nat} {no:Option Addr} {nc:Nat} {vo:Option Addr} {vc:Nat} {fr:Nat→Nat} {TT:Nat→Zf.U} (h:fy P w sb so cs T cb D V no nc vo vc fr TT) {b:Nat} {ys:Array Value} {S:TypeId} (hb:w.heap[b]?=some (.cells ys S (0,0))) (h1:S≠T) (h2:S≠147) (h3:S≠90) (h4:S≠3) (c:Nat) (v:Value):fy P (w.setCell ⟨b,c,none⟩ v) sb so cs T cb D V no nc vo vc fr TT:=
 h.fQ fun g ys' S' hg hS=>aC _ _ _ _ (fun e=>by
  rw[e,hb]at hg
  simp only[Option.some.injEq,Obj.cells.injEq]at hg
  have:=hg.2.1
  subst this
  rcases hS with q | q | q | q
  ·exact h1 q
  ·exact h2 q
  ·exact h3 q
  ·exact h4 q)
structure JM (P:Nat→Prop) (wr:World) (mb:Nat) (cs:Array Value) (cb:Nat) (D:List Ng) (V:List Nat) (no vo:Option Addr) (fr:Nat→Nat) (TT:Nat→Zf.U) (ic mc:Array Value) (ns:List (List UInt8)) (E:List Ng) (F:List Nat) (no':Option Addr) (nc':Nat) (vo':Option Addr) (vc':Nat) (T':Nat→Zf.U) (W:World):Prop where
 ms:fy P W mb 1 (cs.setIfInBounds 1 (.slice no' (D++E).length nc')) 88 cb (D++E) (V++F) no' nc' vo' vc' fr T'
 old:∀m,m<D.length→T' m=TT m
 nd:dD D.length E
 nv:fe D.length E F
 ln:(V++F).length=ns.length
 fg:aq (bO mb no cb vo) (bO mb no' cb vo') wr W
 bi:W.heap[wr.heap.size]?=some (.cells ic 125 (0,0))
 bm:W.heap[wr.heap.size+1]?=some (.cells mc 133 (0,0))
section
variable {P:Nat→Prop} {wr:World} {mb:Nat} {cs:Array Value} {cb:Nat} {D:List Ng} {V:List Nat} {no vo:Option Addr} {fr:Nat→Nat} {TT:Nat→Zf.U} {ic mc:Array Value} {ns:List (List UInt8)} {E:List Ng} {F:List Nat} {no':Option Addr} {nc':Nat} {vo':Option Addr} {vc':Nat} {T':Nat→Zf.U} {W:World}
theorem JM.below (h:JM P wr mb cs cb D V no vo fr TT ic mc ns E F no' nc' vo' vc' T' W) {W':World} (hb:Below W.heap.size W W'):JM P wr mb cs cb D V no vo fr TT ic mc ns E F no' nc' vo' vc' T' W':=
 ⟨h.ms.below hb,h.old,h.nd,h.nv,h.ln,h.fg.trans (aq.of_below hb),(hb.block _ (af h.bi)).trans h.bi,(hb.block _ (af h.bm)).trans h.bm⟩
theorem JM.set (h:JM P wr mb cs cb D V no vo fr TT ic mc ns E F no' nc' vo' vc' T' W) (c:Nat) (v:Value):JM P wr mb cs cb D V no vo fr TT ic (mc.setIfInBounds c v) ns E F no' nc' vo' vc' T' (W.setCell ⟨wr.heap.size+1,c,none⟩ v):=
 ⟨h.ms.eN h.bm (by decide) (by decide) (by decide) (by decide) c v,h.old,h.nd,h.nv,h.ln,h.fg.eN (Nat.le_succ _) c v,(aC _ _ _ _ (by omega)).trans h.bi,aw h.bm c v⟩
theorem JM.add (h:JM P wr mb cs cb D V no vo fr TT ic mc ns E F no' nc' vo' vc' T' W) {N:List (List UInt8)} {t:Zf.Tm} {e:Ending} {w':World} (hq:UC P mb 1 (cs.setIfInBounds 1 (.slice no' (D++E).length nc')) 88 cb (D++E) (V++F) no' vo' fr T' N ns t W e w'):
 ∃(n:Nat) (E2:List Ng) (F2:List Nat) (no2:Option Addr) (nc2:Nat) (vo2:Option Addr) (vc2:Nat) (T2:Nat→Zf.U),e= .returned (.int .i64 (n:Int))∧JM P wr mb cs cb D V no vo fr TT ic mc (Zf.namesF 8 ns t) (E++E2) (F++F2) no2 nc2 vo2 vc2 T2 w'∧n<(D++(E++E2)).length∧T2 n=Zf.bJ (bT T2 (V++(F++F2)) N) 8 t∧(∀m,m<(D++E).length→T2 m=T' m)∧E2.length+1≤6561:=by
 obtain⟨n,E2,F2,no2,nc2,vo2,vc2,T2,rfl,ms,old,nd,nv,ln,nl,tn,el,fg⟩:=hq
 rw[set_set]at ms
 refine⟨n,E2,F2,no2,nc2,vo2,vc2,T2,rfl,⟨by rw[←List.append_assoc,←List.append_assoc];exact ms,fun m hm=> ?_,h.nd.app (by rw[List.length_append]at nd;exact nd),h.nv.app (by rw[List.length_append]at nv;exact nv),by rw[←List.append_assoc];exact ln,h.fg.trans fg,?_,?_⟩,by rw[←List.append_assoc];exact nl,by rw[←List.append_assoc];exact tn,old,el⟩
 ·rw[old m (by rw[List.length_append];omega),h.old m hm]
 ·exact h.ms.ad.blk fg h.bi (by decide) (by decide) (by decide) (by decide)
 ·exact h.ms.ad.blk fg h.bm (by decide) (by decide) (by decide) (by decide)
end
structure mL (T:Nat→Zf.U) (len:Nat) (η:List UInt8→Zf.U) (x:Zf.aD) (g:Gl):Prop where
 sg:g.sg.toList=x.sign
 op:g.op.toList=x.op
 ll:g.l<len
 tl:T g.l=Zf.bJ η 8 x.left
 r0:x.sign=[]→g.r= -1
 r1:∀r,x.right=some r→∃n:Nat,g.r=(n:Int)∧n<len∧T n=Zf.bJ η 8 r
 z0:x.op=[]→g.z= -1
 z1:∀z,x.last=some z→∃n:Nat,g.z=(n:Int)∧n<len∧T n=Zf.bJ η 8 z
 nw:g.wt=false
 nd:g.nd=[]
 no:g.no=none
 nc:g.nc=0
theorem cR.joined {w W w7:World} {mb:Nat} {cs:Array Value} {D:List Ng} {nO:Option Addr} {nC:Nat} {fr:Nat→Nat} {G:List Gl} {po:Option Addr} {pc:Nat} (h:cR w mb cs D nO nC fr G po pc) (hW:Below w.heap.size w W) {g' cap':Nat} {g:Gl} (hown:w7.ownsRow 0 133 7 (.slice (some ⟨g',0,none⟩) (G.length+1) cap') (G.length+1) (G.flatMap fL++fL g)) (hg:W.grownBy w7 (Value.slice po G.length pc).ownBlock) (hat:rowOf po g'∨w.heap.size≤g') (hnd:g.nd=[]) (hno:g.no=none) (hnc:g.nc=0):
 cR (w7.setCell ⟨mb,3,none⟩ (.slice (some ⟨g',0,none⟩) (G.length+1) cap')) mb (cs.setIfInBounds 3 (.slice (some ⟨g',0,none⟩) (G++[g]).length cap')) D nO nC fr (G++[g]) (some ⟨g',0,none⟩) cap'∧aq (fun k=>k=mb∨rowOf po k) (fun k=>k=mb∨rowOf (some ⟨g',0,none⟩) k) w (w7.setCell ⟨mb,3,none⟩ (.slice (some ⟨g',0,none⟩) (G.length+1) cap')):=by
 have mz:=af h.st.blk
 have wz:=hW.size
 have nomb:¬rowOf po mb:=aN h.pool h.st.blk (by decide)
 have keep:∀k,k≠mb→¬rowOf po k→k<w.heap.size→(w7.setCell ⟨mb,3,none⟩ (.slice (some ⟨g',0,none⟩) (G.length+1) cap')).heap[k]?=w.heap[k]?:=fun k h1 h2 h3=>by
  rw[aC _ _ _ _ h1,hg.block k (by omega) (bX h2),hW.block k h3]
 have fQ:∀(k:Nat) (ys:Array Value) (S:TypeId),w.heap[k]?=some (.cells ys S (0,0))→S≠133→S≠88→(w7.setCell ⟨mb,3,none⟩ (.slice (some ⟨g',0,none⟩) (G.length+1) cap')).heap[k]?=w.heap[k]?:=fun k ys S hk h1 h2=>keep k (fun e=>by
  rw[e,h.st.blk]at hk
  simp only[Option.some.injEq,Obj.cells.injEq]at hk
  exact h2 hk.2.1.symm) (aN h.pool hk h1) (af hk)
 have h3:3<cs.size:=(Array.getElem?_eq_some_iff.1 h.c3).1
 have gne:g'≠mb:=fun e=>by
  rcases hat with q | q
  ·exact nomb (e ▸ q)
  ·omega
 have el:(G++[g]).length=G.length+1:=by simp
 rw[el]
 refine⟨⟨⟨?_,?_,ai h.st.own fun k q=> ?_,h.st.ty⟩,h.ok,?_,?_,fun x hx=> ?_,fun x hx=> ?_,fun x hx=> ?_⟩,⟨hg.os.trans hW.os,hg.tape.trans hW.tape,hg.output.trans hW.output,by rw[bS];exact Nat.le_trans wz hg.size,fun k hk hr=>keep k (fun e=>hr (Or.inl e)) (fun e=>hr (Or.inr e)) hk,fun k q=> ?_⟩⟩
 ·refine aw ?_ 3 (.slice (some ⟨g',0,none⟩) (G.length+1) cap')
  rw[hg.block mb (by omega) (bX nomb),hW.block mb mz]
  exact h.st.blk
 ·rw[Array.getElem?_setIfInBounds_ne (by omega)];exact h.st.cel
 ·obtain⟨cur,hc⟩:=aH h.st.own (aG q)
  exact fQ k _ _ hc (by decide) (by decide)
 ·rw[Array.getElem?_setIfInBounds_self,if_pos h3,el]
 ·rw[el,List.flatMap_append]
  have:[g].flatMap fL=fL g:=by simp
  rw[this]
  exact ai hown fun k q=>aC _ _ _ _ (fun e=>by
   obtain⟨p,hp,hk⟩:=aG q
   cases hp
   exact gne (hk.symm.trans e))
 ·rcases List.mem_append.1 hx with q | q
  ·exact ai (h.nds x q) fun k r=>by
    obtain⟨cur,hc⟩:=aH (h.nds x q) (aG r)
    exact fQ k _ _ hc (by decide) (by decide)
  ·rw[List.mem_singleton.1 q,hnd,hno,hnc]
   exact World.ownsRow_nil _ _ _ _
 ·rcases List.mem_append.1 hx with q | q
  ·exact h.nlt x q
  ·rw[List.mem_singleton.1 q,hnd];intro v hv;cases hv
 ·rcases List.mem_append.1 hx with q | q
  ·exact h.nl x q
  ·rw[List.mem_singleton.1 q,hnd];simp
 ·rcases q with e | ⟨p,hp,hq⟩
  ·exact Or.inl (Or.inl e)
  ·cases hp
   rcases hat with r | r
   ·exact Or.inl (Or.inr (hq ▸ r))
   ·exact Or.inr (hq ▸ r)
theorem fy.Jx {P:Nat→Prop} {w w':World} {sb so:Nat} {cs cs':Array Value} {T:TypeId} {cb:Nat} {D:List Ng} {V:List Nat} {no:Option Addr} {nc:Nat} {vo:Option Addr} {vc:Nat} {fr:Nat→Nat} {TT:Nat→Zf.U} (h:fy P w sb so cs T cb D V no nc vo vc fr TT) (hs:bG w' sb so cs' T D no nc) (hk:∀(g:Nat) (ys:Array Value) (S:TypeId),w.heap[g]?=some (.cells ys S (0,0))→(S=90∨S=3)→w'.heap[g]?=w.heap[g]?):fy P w' sb so cs' T cb D V no nc vo vc fr TT:=by
 refine⟨⟨hs,⟨(hk cb _ _ h.ad.sc.blk (Or.inl rfl)).trans h.ad.sc.blk,ai h.ad.sc.own fun g q=> ?_⟩,h.ad.t1,h.ad.t2,h.ad.args.keep fun g _ hp hg=>⟨(hk g _ _ hg (Or.inr rfl)).trans hg,hp⟩⟩,h.ok,h.to,h.lt⟩
 obtain⟨cur,hc⟩:=aH h.ad.sc.own (aG q)
 exact hk g _ _ hc (Or.inr rfl)
theorem aq.TN {w w':World} {mb:Nat} {no2 vo2 po po':Option Addr} {cb:Nat} (h:aq (fun k=>k=mb∨rowOf po k) (fun k=>k=mb∨rowOf po' k) w w'):aq (fun k=>bO mb no2 cb vo2 k∨rowOf po k) (fun k=>bO mb no2 cb vo2 k∨rowOf po' k) w w':=
 ⟨h.os,h.tape,h.output,h.size,fun k hk hr=>h.block k hk (fun q=>hr (q.imp (fun e=>Or.inl e) id)),fun k q=>by
  rcases q with q | q
  ·exact Or.inl (Or.inl q)
  ·rcases h.row k (Or.inr q)with(e | e) | e
   ·exact Or.inl (Or.inl (Or.inl e))
   ·exact Or.inl (Or.inr e)
   ·exact Or.inr e⟩
def uF (mb:Nat) (no:Option Addr) (cb:Nat) (vo po:Option Addr) (k:Nat):Prop:=bO mb no cb vo k∨rowOf po k
structure CD (P:Nat→Prop) (w:World) (mb:Nat) (cs:Array Value) (cb:Nat) (D:List Ng) (V:List Nat) (nO vo:Option Addr) (fr:Nat→Nat) (TT:Nat→Zf.U) (G:List Gl) (po:Option Addr) (N ns:List (List UInt8)) (items:List Zf.aD) (E:List Ng) (F:List Nat) (no':Option Addr) (nc':Nat) (vo':Option Addr) (vc':Nat) (T':Nat→Zf.U) (Gn:List Gl) (po':Option Addr) (pc':Nat) (wr:World):Prop where
 ms:fy P wr mb 1 ((cs.setIfInBounds 1 (.slice no' (D++E).length nc')).setIfInBounds 3 (.slice po' (G++Gn).length pc')) 88 cb (D++E) (V++F) no' nc' vo' vc' fr T'
 mc:cR wr mb ((cs.setIfInBounds 1 (.slice no' (D++E).length nc')).setIfInBounds 3 (.slice po' (G++Gn).length pc')) (D++E) no' nc' fr (G++Gn) po' pc'
 fv:∀g∈G++Gn,∀k,rowOf g.no k→¬rowOf vo' k
 old:∀m,m<D.length→T' m=TT m
 nd:dD D.length E
 nv:fe D.length E F
 ln:(V++F).length=(Zf.ay ns items).length
 gl:bR (mL T' (D++E).length (bT T' (V++F) N)) items Gn
 el:E.length≤items.length*19683
 fg:aq (uF mb nO cb vo po) (uF mb no' cb vo' po') w wr
def UT (P:Nat→Prop) (w:World) (mb:Nat) (cs:Array Value) (cb:Nat) (D:List Ng) (V:List Nat) (nO vo:Option Addr) (fr:Nat→Nat) (TT:Nat→Zf.U) (G:List Gl) (po:Option Addr) (N ns:List (List UInt8)) (items:List Zf.aD) (k:Nat) (iv:Value) (wr:World):Prop:=
 ∃(j:Nat) (E:List Ng) (F:List Nat) (no':Option Addr) (nc':Nat) (vo':Option Addr) (vc':Nat) (T':Nat→Zf.U) (Gn:List Gl) (po':Option Addr) (pc':Nat),k+j=items.length∧iv= .int .i64 (j:Int)∧CD P w mb cs cb D V nO vo fr TT G po N ns (items.take j) E F no' nc' vo' vc' T' Gn po' pc' wr
theorem dV (D E:List Ng):D.length≤(D++E).length:=by rw[List.length_append];omega
theorem Wh (cs:Array Value) (x y a b:Value):((((cs.setIfInBounds 1 x).setIfInBounds 3 y).setIfInBounds 1 a).setIfInBounds 3 b)=(cs.setIfInBounds 1 a).setIfInBounds 3 b:=by
 apply Array.ext_getElem?
 intro i
 simp only[Array.getElem?_setIfInBounds,Array.size_setIfInBounds]
 by_cases h1:1=i
 ·subst h1;simp
 ·by_cases h3:3=i
  ·subst h3;simp
  ·simp[h1,h3]
theorem bR.Rk {α β:Type} {R S:α→β→Prop}:∀{xs:List α} {ys:List β},(∀a b,a∈xs→R a b→S a b)→bR R xs ys→bR S xs ys
 | [],[],_,_=>trivial
 | [],_ :: _,_,h=>h
 | _ :: _,[],_,h=>h
 | _ :: _,_ :: _,f,h=>⟨f _ _ (by simp) h.1,bR.Rk (fun a b ha=>f a b (by simp[ha])) h.2⟩
theorem mq {T1 T2:Nat→Zf.U} {V F:List Nat} {N M ns:List (List UInt8)} {t:Zf.Tm} {b n:Nat} (hw:Zf.wfK 8 t) (h:T1 n=Zf.bJ (bT T1 V N) 8 t) (hn:n<b) {ns':List (List UInt8)} (hs:∀y∈Zf.namesF 8 ns' t,y∈ns) (hN:N=ns++M) (hl:V.length=ns.length) (hlt:∀m∈V,m<b) (he:∀m,m<b→T2 m=T1 m):T2 n=Zf.bJ (bT T2 (V++F) N) 8 t:=by
 rw[he n hn,h]
 exact(Zf.gN 8 t ns' hw (fun y hy=>rh (hs y hy) hN hl hlt he)).symm
theorem lS (t:Option Zf.Tm) (ns:List (List UInt8)):∃K,Zf.cL ns t=ns++K:=by
 cases t with
 | none=>exact⟨[],by simp[Zf.cL]⟩
 | some r=>exact Zf.namesV_ext 8 r ns
theorem mL.more {T1 T2:Nat→Zf.U} {V F:List Nat} {N M ns:List (List UInt8)} {x:Zf.aD} {g:Gl} {b b':Nat} (hx:Zf.tP x) (h:mL T1 b (bT T1 V N) x g) {ns':List (List UInt8)} (hs:∀y∈Zf.aL ns' x,y∈ns) (hN:N=ns++M) (hl:V.length=ns.length) (hlt:∀m∈V,m<b) (he:∀m,m<b→T2 m=T1 m) (hb:b≤b'):mL T2 b' (bT T2 (V++F) N) x g:=by
 have nO:∀(t:Option Zf.Tm) (ns:List (List UInt8)),∃K,Zf.cL ns t=ns++K:=fun t ns=>by
  cases t with
  | none=>exact⟨[],by simp[Zf.cL]⟩
  | some r=>exact Zf.namesV_ext 8 r ns
 have hleft:∀y∈Zf.namesF 8 ns' x.left,y∈ns:=fun y hy=>hs y (by
  obtain⟨K1,h1⟩:=nO x.right (Zf.namesF 8 ns' x.left)
  obtain⟨K2,h2⟩:=nO x.last (Zf.cL (Zf.namesF 8 ns' x.left) x.right)
  unfold Zf.aL
  rw[h2,h1]
  simp[hy])
 have hright:∀r,x.right=some r→∀y∈Zf.namesF 8 (Zf.namesF 8 ns' x.left) r,y∈ns:=fun r q y hy=>hs y (by
  obtain⟨K2,h2⟩:=nO x.last (Zf.cL (Zf.namesF 8 ns' x.left) x.right)
  unfold Zf.aL
  rw[h2,q]
  exact List.mem_append_left _ hy)
 have hlast:∀z,x.last=some z→∀y∈Zf.namesF 8 (Zf.cL (Zf.namesF 8 ns' x.left) x.right) z,y∈ns:=fun z q y hy=>hs y (by
  unfold Zf.aL
  rw[q]
  exact hy)
 refine⟨h.sg,h.op,Nat.lt_of_lt_of_le h.ll hb,mq hx.wl h.tl h.ll hleft hN hl hlt he,h.r0,fun r q=> ?_,h.z0,fun z q=> ?_,h.nw,h.nd,h.no,h.nc⟩
 ·obtain⟨n,q1,q2,q3⟩:=h.r1 r q
  have hw:Zf.wfK 8 r:=by
   by_cases k:x.sign=[]
   ·rw[hx.r0 k]at q;cases q
   ·obtain⟨r',e,w⟩:=hx.r1 k
    rw[e]at q;cases q;exact w
  exact⟨n,q1,Nat.lt_of_lt_of_le q2 hb,mq hw q3 q2 (hright r q) hN hl hlt he⟩
 ·obtain⟨n,q1,q2,q3⟩:=h.z1 z q
  have hw:Zf.wfK 8 z:=by
   by_cases k:x.op=[]
   ·rw[hx.z0 k]at q;cases q
   ·obtain⟨r',e,w⟩:=hx.z1 k
    rw[e]at q;cases q;exact w
  exact⟨n,q1,Nat.lt_of_lt_of_le q2 hb,mq hw q3 q2 (hlast z q) hN hl hlt he⟩
theorem LU {P:Nat→Prop} {wr:World} {mb:Nat} {cs:Array Value} {cb:Nat} {D:List Ng} {V:List Nat} {no vo:Option Addr} {fr:Nat→Nat} {TT:Nat→Zf.U} {ic mc:Array Value} {ns:List (List UInt8)} {E:List Ng} {F:List Nat} {no':Option Addr} {nc':Nat} {vo':Option Addr} {vc':Nat} {T':Nat→Zf.U} {W:World} (h:JM P wr mb cs cb D V no vo fr TT ic mc ns E F no' nc' vo' vc' T' W) (hP:∀g,wr.heap.size≤g→P g) {N:List (List UInt8)} {a:AV} {t:Zf.Tm} (hr:RA 8 N anyA W a t) (hw:Zf.wfK 8 t) (hN:∃M,N=Zf.namesF 8 ns t++M) (hD:(D++E).length+6561≤1000000000) (hNl:N.length≤100000):
 Calls Tryz.prog 45 #[.pointer (some ⟨mb,1,none⟩),.agg #[.int .i64 a.k,.int .i64 a.val,.string a.tx,.slice a.ao a.n a.cap],.pointer (some ⟨cb,0,none⟩)] W fun e w'=>∃(n:Nat) (E2:List Ng) (F2:List Nat) (no2:Option Addr) (nc2:Nat) (vo2:Option Addr) (vc2:Nat) (T2:Nat→Zf.U),e= .returned (.int .i64 (n:Int))∧JM P wr mb cs cb D V no vo fr TT ic mc (Zf.namesF 8 ns t) (E++E2) (F++F2) no2 nc2 vo2 vc2 T2 w'∧n<(D++(E++E2)).length∧T2 n=Zf.bJ (bT T2 (V++(F++F2)) N) 8 t∧(∀m,m<(D++E).length→T2 m=T' m)∧E2.length+1≤6561:=by
 refine(Gb h.ms (fun g hg=>hP g (Nat.le_trans h.fg.size hg)) (by decide) hr hw h.ln hN hD ?_).mono fun e w' q=>h.add q
 obtain⟨M,hM⟩:=hN
 obtain⟨K,hK⟩:=Zf.namesV_ext 8 t ns
 have:ns.length≤N.length:=by rw[hM,hK];simp
 have:=h.ln
 omega
theorem JM.ra {P:Nat→Prop} {wr:World} {mb:Nat} {cs:Array Value} {cb:Nat} {D:List Ng} {V:List Nat} {no vo:Option Addr} {fr:Nat→Nat} {TT:Nat→Zf.U} {ic mc:Array Value} {ns:List (List UInt8)} {E:List Ng} {F:List Nat} {no':Option Addr} {nc':Nat} {vo':Option Addr} {vc':Nat} {T':Nat→Zf.U} {W:World} (h:JM P wr mb cs cb D V no vo fr TT ic mc ns E F no' nc' vo' vc' T' W) {nc vc:Nat} {cs1:Array Value} (hs:fI P wr mb 1 cs1 88 cb D V no nc vo vc) {N:List (List UInt8)} {a:AV} {t:Zf.Tm} (hr:RA 8 N anyA wr a t):RA 8 N anyA W a t:=hs.ra (by decide) h.fg hr
theorem CD.next {P:Nat→Prop} {w:World} {mb:Nat} {cs:Array Value} {cb:Nat} {D:List Ng} {V:List Nat} {nO vo:Option Addr} {fr:Nat→Nat} {TT:Nat→Zf.U} {G:List Gl} {po:Option Addr} {N ns:List (List UInt8)} {items:List Zf.aD} {E:List Ng} {F:List Nat} {no1:Option Addr} {nc1:Nat} {vo1:Option Addr} {vc1:Nat} {T1:Nat→Zf.U} {Gn:List Gl} {po1:Option Addr} {pc1:Nat} {wr:World} (h:CD P w mb cs cb D V nO vo fr TT G po N ns items E F no1 nc1 vo1 vc1 T1 Gn po1 pc1 wr)
 {ic mc:Array Value} {x:Zf.aD} {E2:List Ng} {F2:List Nat} {no2:Option Addr} {nc2:Nat} {vo2:Option Addr} {vc2:Nat} {T2:Nat→Zf.U} {W:World} (hj:JM P wr mb ((cs.setIfInBounds 1 (.slice no1 (D++E).length nc1)).setIfInBounds 3 (.slice po1 (G++Gn).length pc1)) cb (D++E) (V++F) no1 vo1 fr T1 ic mc (Zf.aL (Zf.ay ns items) x) E2 F2 no2 nc2 vo2 vc2 T2 W)
 {g:Gl} (hg:mL T2 ((D++E)++E2).length (bT T2 ((V++F)++F2) N) x g) (hE:E2.length≤19683) (hok:∀x∈items,Zf.tP x) (hN:∃M,N=Zf.ay ns items++M)
 {W' w7:World} {g' cap':Nat} (hW:Below W.heap.size W W') (hown:w7.ownsRow 0 133 7 (.slice (some ⟨g',0,none⟩) ((G++Gn).length+1) cap') ((G++Gn).length+1) ((G++Gn).flatMap fL++fL g)) (hgr:W'.grownBy w7 (Value.slice po1 (G++Gn).length pc1).ownBlock) (hat:rowOf po1 g'∨W.heap.size≤g'):
 CD P w mb cs cb D V nO vo fr TT G po N ns (items++[x]) (E++E2) (F++F2) no2 nc2 vo2 vc2 T2 (Gn++[g]) (some ⟨g',0,none⟩) cap' (w7.setCell ⟨mb,3,none⟩ (.slice (some ⟨g',0,none⟩) ((G++Gn).length+1) cap')):=by
 have hm:=h.mc.added h.ms.ad.sc h.fv hj.ms.ad hj.ms.ok (dV _ _) hj.fg
 obtain⟨hm2,hf2⟩:=hm.joined hW hown hgr hat hg.nd hg.no hg.nc
 rw[Wh]at hm2
 have mz:=af hm.st.blk
 have xO:fy P (w7.setCell ⟨mb,3,none⟩ (.slice (some ⟨g',0,none⟩) ((G++Gn).length+1) cap')) mb 1 ((cs.setIfInBounds 1 (.slice no2 ((D++E)++E2).length nc2)).setIfInBounds 3 (.slice (some ⟨g',0,none⟩) ((G++Gn)++[g]).length cap')) 88 cb ((D++E)++E2) ((V++F)++F2) no2 nc2 vo2 vc2 fr T2:=hj.ms.Jx hm2.st fun k ys S hk hS=>hf2.block k (af hk) (by
  rintro(e | e)
  ·rw[e,hm.st.blk]at hk
   simp only[Option.some.injEq,Obj.cells.injEq]at hk
   rcases hS with q | q<;>(rw[q]at hk;exact absurd hk.2.1 (by decide))
  ·refine aN hm.pool hk ?_ e
   rcases hS with q | q<;>(rw[q];decide))
 obtain⟨M,hM⟩:=hN
 refine⟨by rw[←List.append_assoc,←List.append_assoc,←List.append_assoc];exact xO,by rw[←List.append_assoc,←List.append_assoc];exact hm2,fun q hq k hk=> ?_,fun m hm'=> ?_,h.nd.app (by have:=hj.nd;rwa [List.length_append]at this),h.nv.app (by have:=hj.nv;rwa [List.length_append]at this),?_,?_,?_,?_⟩
 ·rw[←List.append_assoc]at hq
  rcases List.mem_append.1 hq with r | r
  ·intro hv
   rcases hj.fg.row k (Or.inr (Or.inr (Or.inr hv)))with(e | e | e | e) | e
   ·obtain⟨cur,hc⟩:=aH (h.mc.nds q r) hk
    rw[e,h.mc.st.blk]at hc
    simp only[Option.some.injEq,Obj.cells.injEq]at hc
    exact absurd hc.2.1 (by decide)
   ·obtain⟨cur,hc⟩:=aH (h.mc.nds q r) hk
    exact aN h.mc.st.own hc (by decide) e
   ·obtain⟨cur,hc⟩:=aH (h.mc.nds q r) hk
    exact pY h.ms.ad.sc hc (by decide) e
   ·exact h.fv q r k hk e
   ·obtain⟨cur,hc⟩:=aH (h.mc.nds q r) hk
    have:=af hc
    omega
  ·rw[List.mem_singleton.1 r,hg.no]at hk
   obtain⟨_,e,_⟩:=hk
   cases e
 ·rw[hj.old m (by rw[List.length_append];omega),h.old m hm']
 ·rw[←List.append_assoc,hj.ln]
  unfold Zf.ay
  rw[List.foldl_append]
  rfl
 ·rw[←List.append_assoc,←List.append_assoc]
  refine bR.snoc hg (bR.Rk (fun a b ha hab=> ?_) h.gl)
  obtain⟨ns',hs⟩:=Zf.fA items ns a ha
  exact mL.more (hok a ha) hab hs hM h.ln h.ms.lt hj.old (dV _ _)
 ·have:=h.el
  rw[List.length_append,List.length_append]
  simp only[List.length_cons,List.length_nil]
  omega
 ·have q:=(hj.fg.wide (rowOf po1)).trans (aq.less (X:=uF mb no2 cb vo2 (some ⟨g',0,none⟩)) (R':=fun k=>bO mb no2 cb vo2 k∨rowOf (some ⟨g',0,none⟩) k) (aq.TN hf2) fun k q=>q)
  exact h.fg.trans q
end Go.Proofs.YthfjnfcekeknlabGreatDoor
namespace Go.Proofs.YthfjnfcekeknlabGreatDoor
open Go.RowKit
theorem zT {P:Nat→Prop} {w:World} {mb:Nat} {cs:Array Value} {cb:Nat} {D:List Ng} {V:List Nat} {no:Option Addr} {nc:Nat} {vo:Option Addr} {vc:Nat} {G:List Gl} {po:Option Addr} {pc:Nat} {fr:Nat→Nat} (h:fI P w mb 1 cs 88 cb D V no nc vo vc) (hm:cR w mb cs D no nc fr G po pc) {g:Nat} {ys:Array Value} {S:TypeId} (hg:w.heap[g]?=some (.cells ys S (0,0))) (h1:S≠88) (h2:S≠147) (h3:S≠90) (h4:S≠3) (h5:S≠133):¬uF mb no cb vo po g:=by
 rintro((e | e | e | e) | e)
 ·rw[e,h.st.blk]at hg
  simp only[Option.some.injEq,Obj.cells.injEq]at hg
  exact h1 hg.2.1.symm
 ·exact aN h.st.own hg h2 e
 ·exact pY h.sc hg h3 e
 ·exact aN h.sc.own hg h4 e
 ·exact aN hm.pool hg h5 e
theorem kO.fr {R R':Nat→Prop} {w w':World} {N:List (List UInt8)} {v:JV} {x:Zf.aD} (hi:kO N w v x) (hf:aq R R' w w') (hn:∀(g:Nat) (ys:Array Value),w.heap[g]?=some (.cells ys 74 (0,0))→¬R g):kO N w' v x:=by
 have ra:∀{f:Nat} {a:AV} {t:Zf.Tm},RA f N anyA w a t→RA f N anyA w' a t:=fun hr=>hr.keep fun g _ hp hg _=>⟨(hf.block g (af hg) (hn g _ hg)).trans hg,hp⟩
 exact⟨ra hi.left,hi.sign,fun r q=>ra (hi.right r q),hi.op,fun r q=>ra (hi.last r q)⟩
theorem cR.CE {P:Nat→Prop} {w:World} {mb:Nat} {cs:Array Value} {cb:Nat} {D:List Ng} {V:List Nat} {nO vo:Option Addr} {fr:Nat→Nat} {TT:Nat→Zf.U} {G:List Gl} {po:Option Addr} {N ns:List (List UInt8)} {items:List Zf.aD} {E:List Ng} {F:List Nat} {no1:Option Addr} {nc1:Nat} {vo1:Option Addr} {vc1:Nat} {T1:Nat→Zf.U} {Gn:List Gl} {po1:Option Addr} {pc1:Nat} {wr:World} (h:CD P w mb cs cb D V nO vo fr TT G po N ns items E F no1 nc1 vo1 vc1 T1 Gn po1 pc1 wr) {ic mc:Array Value} {nx:List (List UInt8)} {E2:List Ng} {F2:List Nat} {no2:Option Addr} {nc2:Nat} {vo2:Option Addr} {vc2:Nat} {T2:Nat→Zf.U} {W:World} (hj:JM P wr mb ((cs.setIfInBounds 1 (.slice no1 (D++E).length nc1)).setIfInBounds 3 (.slice po1 (G++Gn).length pc1)) cb (D++E) (V++F) no1 vo1 fr T1 ic mc nx E2 F2 no2 nc2 vo2 vc2 T2 W):∃cs2:Array Value,cR W mb cs2 (D++E++E2) no2 nc2 fr (G++Gn) po1 pc1:=⟨_,h.mc.added h.ms.ad.sc h.fv hj.ms.ad hj.ms.ok (dV _ _) hj.fg⟩
theorem CF (w:World) (mb:Nat) (cs:Array Value) (cb:Nat) (D:List Ng) (V:List Nat) (nO:Option Addr) (nC:Nat) (vo:Option Addr) (vc:Nat) (fr:Nat→Nat) (TT:Nat→Zf.U) (P:Nat→Prop) (G:List Gl) (po:Option Addr) (pc:Nat) (N ns:List (List UInt8)) (items:List Zf.aD) (o:Option Addr) (n c:Nat) (h:fy P w mb 1 cs 88 cb D V nO nC vo vc fr TT) (hm:cR w mb cs D nO nC fr G po pc) (Jy:∀g∈G,∀k,rowOf g.no k→¬rowOf vo k) (hP:∀g,w.heap.size≤g→P g) (hit:cD N w o n items) (hok:∀x∈items,Zf.tP x) (hl:V.length=ns.length) (hN:∃M,N=Zf.ay ns items++M) (hNl:N.length≤100000) (hil:items.length≤100) (hD:D.length+4000000≤1000000000) (hGl:G.length≤1000000):
 Calls Tryz.prog 34 #[.pointer (some ⟨mb,0,none⟩),.slice o n c,.pointer (some ⟨cb,0,none⟩)] w fun e w'=>e= .returned (.tuple #[])∧∃(E:List Ng) (F:List Nat) (no':Option Addr) (nc':Nat) (vo':Option Addr) (vc':Nat) (T':Nat→Zf.U) (Gn:List Gl) (po':Option Addr) (pc':Nat),CD P w mb cs cb D V nO vo fr TT G po N ns items E F no' nc' vo' vc' T' Gn po' pc' w':=by
 obtain⟨rfl,hit⟩:=hit
 have HST:=hide (show UT P w mb cs cb D V nO vo fr TT G po N ns items items.length (.int .i64 0) w from by
  refine⟨0,[],[],nO,nC,vo,vc,TT,[],po,pc,by omega,rfl,⟨?_,?_,by simpa using Jy,fun _ _=>rfl,(fun i d hd=>by simp at hd),fe.nil _ _,by simpa [Zf.ay] using hl,trivial,by simp,⟨rfl,rfl,rfl,Nat.le_refl _,fun _ _ _=>rfl,fun _ q=>Or.inl q⟩⟩⟩
  ·simp only[List.append_nil]
   rw[ml h.ad.st.cel,ml hm.c3]
   exact h
  ·simp only[List.append_nil]
   rw[ml h.ad.st.cel,ml hm.c3]
   exact hm)
 have HIT:=hide hit
 have HB:=hide h
 have HM:=hide hm
 have qE:=hide hok
 have HN:=hide hN
 have Rl:=hide hNl
 have UU:=hide hil
 have HD:=hide hD
 have IX:=hide hGl
 have HP:=hide hP
 obtain⟨ti,hi,vQ,vR,tz⟩:=info_parts infoGoal
 clear h hm Jy hP hit hok hl hN hNl hD hGl
 go_enter Tryz.func34,Tryz.ntmps34
 go_wp2_with fail
 go_loopg [11] items.length (fun k iv wr=>UT P w mb cs cb D V nO vo fr TT G po N ns items k iv wr)
 case atStart=>exact ae HST
 case round=>
  clear HST
  obtain⟨j,E,F,no1,nc1,vo1,vc1,T1,Gn,po1,pc1,hkj,rfl,hjo⟩:=hrel
  by_cases hlt:j<items.length
  ·obtain⟨g,vs,ics,Jn,hcs,htk,hall⟩:=ae HIT (fun q=>by rw[q]at hlt;simp at hlt)
   subst Jn
   have jh:j<vs.length:=by have:=hall.length;omega
   have hcw:wr.heap[g]?=some (.cells ics 125 (0,0)):=(hjo.fg.block g (af hcs) (zT (ae HB).ad (ae HM) hcs (by decide) (by decide) (by decide) (by decide) (by decide))).trans hcs
   have fc:∀i,i<14→wr.cell? ⟨g,j*14+i,none⟩=(n7 vs[j])[i]?:=fun i hi=>by
    rw[ah hcw,←Array.getElem?_toList,←Jj jh i hi,←htk,List.getElem?_take_of_lt (by omega)]
   have hir:=(hall.at j jh hlt).fr hjo.fg (fun g ys hg=>zT (ae HB).ad (ae HM) hg (by decide) (by decide) (by decide) (by decide) (by decide))
   have LV:=ae qE _ (List.getElem_mem hlt)
   obtain⟨M,hM⟩:=ae HN
   have htake:items.take (j+1)=items.take j++[items[j]]:=by rw[List.take_add_one,List.getElem?_eq_getElem hlt];rfl
   have hNj:∃K,N=Zf.ay ns (items.take j)++K:=by
    obtain⟨K,hK⟩:=Zf.iU (items.drop j) (Zf.ay ns (items.take j))
    refine⟨K++M,?_⟩
    rw[hM,←List.append_assoc,←hK]
    unfold Zf.ay
    rw[←List.foldl_append,List.take_append_drop]
   have hNj1:∃K,N=Zf.aL (Zf.ay ns (items.take j)) items[j]++K:=by
    obtain⟨K,hK⟩:=Zf.iU (items.drop (j+1)) (Zf.ay ns (items.take (j+1)))
    refine⟨K++M,?_⟩
    have e:Zf.aL (Zf.ay ns (items.take j)) items[j]=Zf.ay ns (items.take (j+1)):=by
     rw[htake]
     unfold Zf.ay
     rw[List.foldl_append]
     rfl
    rw[e,hM,←List.append_assoc,←hK]
    unfold Zf.ay
    rw[←List.foldl_append,List.take_append_drop]
   have rU:=hide htake
   have Jo:=hide hNj
   have LW:=hide hNj1
   have hDl:(D++E).length+2000000≤1000000000:=by
    have q1:=hjo.el
    have q2:=ae HD
    have q3:=ae UU
    have q4:(items.take j).length≤100:=by rw[List.length_take];omega
    have q5:(items.take j).length*19683≤100*19683:=Nat.mul_le_mul_right _ q4
    rw[List.length_append]
    omega
   have hGG:(G++Gn).length≤1000100:=by
    have q1:=hjo.gl.length
    have q2:=ae IX
    have q3:=ae UU
    have q4:(items.take j).length≤100:=by rw[List.length_take];omega
    rw[List.length_append]
    omega
   have f0:=fc 0 (by omega)
   have f1:=fc 1 (by omega)
   have f2:=fc 2 (by omega)
   have f3:=fc 3 (by omega)
   have f4:=fc 4 (by omega)
   have f5:=fc 5 (by omega)
   have f6:=fc 6 (by omega)
   have f7:=fc 7 (by omega)
   have f8:=fc 8 (by omega)
   have f9:=fc 9 (by omega)
   have f10:=fc 10 (by omega)
   have f11:=fc 11 (by omega)
   have f12:=fc 12 (by omega)
   have f13:=fc 13 (by omega)
   simp only[n7,List.getElem?_cons_zero,List.getElem?_cons_succ,Nat.add_zero]at f0 f1 f2 f3 f4 f5 f6 f7 f8 f9 f10 f11 f12 f13
   have gz:=af hcw
   have i0:(0:Int)≤(j:Int):=by omega
   have i1:(j:Int)<(items.length:Int):=by omega
   generalize vs[j]=v at*
   have HX:=hide (show items[j]∈items from List.getElem_mem hlt)
   generalize items[j]=x at*
   obtain⟨⟨ak0,av0,ax0,ao0,an0,ac0⟩,⟨bk0,bv0,bx0,bo0,bn0,bc0⟩,⟨ck0,cv0,cx0,co0,cn0,cc0⟩,sg,op⟩:=v
   dsimp only at f0 f1 f2 f3 f4 f5 f6 f7 f8 f9 f10 f11 f12 f13
   have hjm:JM P wr mb ((cs.setIfInBounds 1 (.slice no1 (D++E).length nc1)).setIfInBounds 3 (.slice po1 (G++Gn).length pc1)) cb (D++E) (V++F) no1 vo1 fr T1 #[.int .i64 ak0,.int .i64 av0,.string ax0,.slice ao0 an0 ac0,.string sg,.int .i64 bk0,.int .i64 bv0,.string bx0,.slice bo0 bn0 bc0,.string op,.int .i64 ck0,.int .i64 cv0,.string cx0,.slice co0 cn0 cc0] #[.int .i64 0,.string sg,.int .i64 (-1),.string op,.int .i64 (-1),.bool false,.slice none 0 0] (Zf.ay ns (items.take j)) [] [] no1 nc1 vo1 vc1 T1 ((wr.alloc (.cells #[.int .i64 ak0,.int .i64 av0,.string ax0,.slice ao0 an0 ac0,.string sg,.int .i64 bk0,.int .i64 bv0,.string bx0,.slice bo0 bn0 bc0,.string op,.int .i64 ck0,.int .i64 cv0,.string cx0,.slice co0 cn0 cc0] 125)).alloc (.cells #[.int .i64 0,.string sg,.int .i64 (-1),.string op,.int .i64 (-1),.bool false,.slice none 0 0] 133)):=by
    have hb:=((Below.refl wr.heap.size wr).alloc (Nat.le_refl _) (.cells #[.int .i64 ak0,.int .i64 av0,.string ax0,.slice ao0 an0 ac0,.string sg,.int .i64 bk0,.int .i64 bv0,.string bx0,.slice bo0 bn0 bc0,.string op,.int .i64 ck0,.int .i64 cv0,.string cx0,.slice co0 cn0 cc0] 125)).alloc (by simp) (.cells #[.int .i64 0,.string sg,.int .i64 (-1),.string op,.int .i64 (-1),.bool false,.slice none 0 0] 133)
    refine⟨?_,fun _ _=>rfl,(fun i d hd=>by simp at hd),fe.nil _ _,by simpa using hjo.ln,aq.of_below hb,aA (heap_alloc_new wr _) _,?_⟩
    ·have:=hjo.ms.below hb
     simp only[List.append_nil]
     rw[ml (hjo.ms.ad.st.cel)]
     exact this
    ·have:=heap_alloc_new (wr.alloc (.cells #[.int .i64 ak0,.int .i64 av0,.string ax0,.slice ao0 an0 ac0,.string sg,.int .i64 bk0,.int .i64 bv0,.string bx0,.slice bo0 bn0 bc0,.string op,.int .i64 ck0,.int .i64 cv0,.string cx0,.slice co0 cn0 cc0] 125)) (.cells #[.int .i64 0,.string sg,.int .i64 (-1),.string op,.int .i64 (-1),.bool false,.slice none 0 0] 133)
     rw[World.size_alloc]at this
     exact this
   have hnames1:∃K,N=Zf.namesF 8 (Zf.ay ns (items.take j)) x.left++K:=by
    obtain⟨K,hK⟩:=ae LW
    obtain⟨K1,h1⟩:=lS x.right (Zf.namesF 8 (Zf.ay ns (items.take j)) x.left)
    obtain⟨K2,h2⟩:=lS x.last (Zf.cL (Zf.namesF 8 (Zf.ay ns (items.take j)) x.left) x.right)
    refine⟨K1++(K2++K),?_⟩
    rw[hK]
    unfold Zf.aL
    rw[h2,h1]
    simp
   have IA:=hide (fun W (hu:Below (wr.heap.size+2) ((wr.alloc (.cells #[.int .i64 ak0,.int .i64 av0,.string ax0,.slice ao0 an0 ac0,.string sg,.int .i64 bk0,.int .i64 bv0,.string bx0,.slice bo0 bn0 bc0,.string op,.int .i64 ck0,.int .i64 cv0,.string cx0,.slice co0 cn0 cc0] 125)).alloc (.cells #[.int .i64 0,.string sg,.int .i64 (-1),.string op,.int .i64 (-1),.bool false,.slice none 0 0] 133)) W)=>LU (hjm.below (hu.mono (by simp))) (fun g hg=>ae HP g (Nat.le_trans hjo.fg.size hg)) (a:=⟨ak0,av0,ax0,ao0,an0,ac0⟩) ((hjm.below (hu.mono (by simp))).ra hjo.ms.ad hir.left) LV.wl hnames1 (by simp only[List.append_nil];omega) (ae Rl))
   have mM:=hide hir
   have wq:=hide LV
   have rZ:=hide hjo
   have BW:=hide hDl
   have ba:=hide hlt
   have aW:=hide hkj
   have mz:=af hjo.mc.st.blk
   have mne:mb≠wr.heap.size:=by omega
   have mne2:mb≠wr.heap.size+1:=by omega
   have zI:=hide hnames1
   clear hjo hjm hcs hcw htk hall jh fc hir LV hM htake hNj hNj1 hDl hkj hnames1
   go_wp2_with fail
   go_region_with (go_at_call 45;refine(ae IA _ (by first | exact Below.refl _ _ | exact(Below.refl _ _).drew | exact(Below.refl _ _).drew.drew | exact(Below.refl _ _).drew.drew.drew)).mono ?_;rintro y w2 ⟨n1,E1,F1,no2,nc2,vo2,vc2,T2,rfl,jm2,nl2,tn2,old2,el2⟩;have e2:=ah jm2.bm 0;have x2:=au jm2.bm 0;have ez2:=af jm2.bm;simp only[List.getElem?_toArray,List.getElem?_cons_zero]at e2)
   have jm3:JM P wr mb ((cs.setIfInBounds 1 (.slice no1 (D++E).length nc1)).setIfInBounds 3 (.slice po1 (G++Gn).length pc1)) cb (D++E) (V++F) no1 vo1 fr T1 #[.int .i64 ak0,.int .i64 av0,.string ax0,.slice ao0 an0 ac0,.string sg,.int .i64 bk0,.int .i64 bv0,.string bx0,.slice bo0 bn0 bc0,.string op,.int .i64 ck0,.int .i64 cv0,.string cx0,.slice co0 cn0 cc0] #[.int .i64 (n1:Int),.string sg,.int .i64 (-1),.string op,.int .i64 (-1),.bool false,.slice none 0 0] (Zf.namesF 8 (Zf.ay ns (items.take j)) x.left) ([]++E1) ([]++F1) no2 nc2 vo2 vc2 T2 _:=jm2.set 0 (.int .i64 (n1:Int))
   generalize hw2:(w2.setCell ⟨wr.heap.size+1,0,none⟩ (.int .i64 (n1:Int)))=W2 at*
   clear hw2 jm2 e2 x2 ez2
   have ia4:=ah jm3.bi 4
   have iz:=af jm3.bi
   have zm:=af jm3.bm
   simp only[List.getElem?_toArray,List.getElem?_cons_zero,List.getElem?_cons_succ]at ia4
   by_cases aV:x.sign=[]
   ·have hop:x.op=[]:=Classical.byContradiction fun q=>(ae wq).sz q aV
    have zO:=(ae wq).r0 aV
    have CG:=(ae wq).z0 hop
    have t1:(sg.toList == [])=true:=by rw[(ae mM).sign,aV];rfl
    have t2:(sg.toList != [])=false:=by rw[(ae mM).sign,aV];rfl
    have t3:(op.toList == [])=true:=by rw[(ae mM).op,hop];rfl
    have t4:(op.toList != [])=false:=by rw[(ae mM).op,hop];rfl
    have kL:Zf.aL (Zf.ay ns (items.take j)) x=Zf.namesF 8 (Zf.ay ns (items.take j)) x.left:=by unfold Zf.aL;rw[zO,CG];rfl
    rw[←kL]at jm3
    have ia9:=ah jm3.bi 9
    have ma0:=ah jm3.bm 0
    have ma1:=ah jm3.bm 1
    have ma2:=ah jm3.bm 2
    have ma3:=ah jm3.bm 3
    have ma4:=ah jm3.bm 4
    have ma5:=ah jm3.bm 5
    have ma6:=ah jm3.bm 6
    have iz:=af jm3.bi
    have zm:=af jm3.bm
    simp only[List.getElem?_toArray,List.getElem?_cons_zero,List.getElem?_cons_succ]at ia9 ma0 ma1 ma2 ma3 ma4 ma5 ma6
    have hgl:=(show mL T2 ((D++E)++([]++E1)).length (bT T2 ((V++F)++([]++F1)) N) x ⟨n1,sg,(-1),op,(-1),false,none,0,[]⟩from ⟨(ae mM).sign,(ae mM).op,nl2,tn2,fun _=>rfl,(fun r q=>by rw[zO]at q;cases q),fun _=>rfl,(fun z q=>by rw[CG]at q;cases q),rfl,rfl,rfl,rfl⟩)
    have hel:_:=(show ([]++E1).length≤19683 by simp only[List.nil_append];omega)
    have Rm:=hide hgl
    have En:=hide hel
    obtain⟨cs2,fE⟩:=cR.CE (ae rZ) jm3
    have f3':=(ah fE.st.blk 3).trans fE.c3
    have mz':=af fE.st.blk
    have xP:=hide (fun Y (hu:Below W2.heap.size W2 Y)=>(fE.below hu).pool)
    have gX:=hide (show some mb≠(Value.slice po1 (G++Gn).length pc1).ownBlock from bX (aN fE.pool fE.st.blk (by decide)))
    have UW:=hide fE.st.blk
    have CH:=hide (fun W' w7 g' cap' a1 a2 a3 a4=>(ae rZ).next jm3 hgl hel (fun x hx=>ae qE x (List.mem_of_mem_take hx)) (ae Jo) (W':=W') (w7:=w7) (g':=g') (cap':=cap') a1 a2 a3 a4)
    clear hgl hel fE jm3 kL zO CG aV hop
    generalize hGN:G++Gn=GG at*
    clear hGN
    go_wp2_with fail
    go_region_law (refine step_append_lies _ (by rfl) _ _ _ (by rfl) 0 133 ti _ 7 88 Tryz.underlying86 hi vQ vR tz rfl (by omega) (.slice po1 GG.length pc1) GG.length (GG.flatMap fL) (by rfl) ((ae xP _ (by first | exact Below.refl _ _ | exact(Below.refl _ _).drew)).alloc _) ⟨W2.heap.size,0,none⟩ 1 1 [.int .i64 (n1:Int),.string sg,.int .i64 (-1),.string op,.int .i64 (-1),.bool false,.slice none 0 0] (by rfl) (by rfl) (World.news_of_block (cs:=#[.int .i64 (n1:Int),.string sg,.int .i64 (-1),.string op,.int .i64 (-1),.bool false,.slice none 0 0]) (t:=133) (fr:=(0,0)) (heap_alloc_new _ _)) (by simp[Value.oneCell']) (by omega) (by unfold maxLen;omega) (by omega) (Nat.zero_le _) (W2.heap.size+1) (by simp) ?_;intro g' cap' w7 hown1 hgrow hat jG;have m0:=(hgrow.cell_far ⟨mb,3,none⟩ (by simp;omega) (ae gX)).trans ((World.cell?_alloc_past _ _ _ (by first | exact mz' | simp;omega)).trans f3');have jy:=hide (ae CH _ _ _ _ (((Below.refl _ _).drew).alloc (Nat.le_refl _) _) (show w7.ownsRow _ _ _ _ _ (_++[_,_,_,_,_,_,_])from hown1) hgrow (by rcases hat with q | q;exact Or.inl (aG q);(right;omega)));have k9:w7.frozen? ⟨mb,3,none⟩=false:=(by have:=au (ae jy).mc.st.blk 3;rwa [World.frozen?_setCell]at this);have zz7:mb<w7.heap.size:=(by have:=af (ae jy).mc.st.blk;rwa [bS]at this);clear hown1 hgrow hat jG)
    all_goals
     go_wp2_with fail
     go_roundg (gk - 1)
     case measure=>have:=ae aW;have:=ae ba;omega
     case rel=>exact⟨j+1,_,_,_,_,_,_,_,_,_,_,by have:=ae aW;have:=ae ba;omega,by go_num,by rw[ae rU];exact ae jy⟩
   ·obtain⟨r,hr,wfr⟩:=(ae wq).r1 aV
    have t1:(sg.toList == [])=false:=by rw[(ae mM).sign];simpa using aV
    have t2:(sg.toList != [])=true:=by rw[(ae mM).sign];simpa using aV
    obtain⟨M1,hM1⟩:=ae zI
    have NJ:=hide (fun(T3:Nat→Zf.U) (F2:List Nat) (he:∀m,m<(D++E++([]++E1)).length→T3 m=T2 m)=>mq (F:=F2) (ae wq).wl tn2 nl2 (fun y hy=>hy) hM1 jm3.ln jm3.ms.lt he)
    have hnames2:∃K,N=Zf.namesF 8 (Zf.namesF 8 (Zf.ay ns (items.take j)) x.left) r++K:=by
     obtain⟨K,hK⟩:=ae LW
     obtain⟨K2,h2⟩:=lS x.last (Zf.cL (Zf.namesF 8 (Zf.ay ns (items.take j)) x.left) x.right)
     refine⟨K2++K,?_⟩
     rw[hK]
     unfold Zf.aL
     rw[h2,hr,List.append_assoc]
     rfl
    have ia5:=ah jm3.bi 5
    have ia6:=ah jm3.bi 6
    have ia7:=ah jm3.bi 7
    have ia8:=ah jm3.bi 8
    have iz:=af jm3.bi
    have zm:=af jm3.bm
    simp only[List.getElem?_toArray,List.getElem?_cons_zero,List.getElem?_cons_succ]at ia5 ia6 ia7 ia8
    have IB:=hide (fun Y (hu:Below W2.heap.size W2 Y)=>LU (jm3.below hu) (fun g hg=>ae HP g (Nat.le_trans (ae rZ).fg.size hg)) (a:=⟨bk0,bv0,bx0,bo0,bn0,bc0⟩) ((jm3.below hu).ra (ae rZ).ms.ad ((ae mM).right r hr)) wfr hnames2 (by have:=ae BW;simp only[List.nil_append,List.length_append]at this⊢;omega) (ae Rl))
    have Rn:=hide nl2
    have LX:=hide el2
    have nG:=hide hnames2
    have NK:=hide hr
    have Wi:=hide wfr
    have jL:=hide aV
    clear jm3 tn2 nl2 old2 el2 hM1 hnames2 hr wfr aV
    go_wp2_with fail
    go_region_with (go_at_call 45;refine(ae IB _ (by first | exact Below.refl _ _ | exact(Below.refl _ _).drew | exact(Below.refl _ _).drew.drew | exact(Below.refl _ _).drew.drew.drew)).mono ?_;rintro y w3 ⟨n2,E2,F2,no3,nc3,vo3,vc3,T3,rfl,jm4,nl3,tn3,old3,el3⟩;have e3:=ah jm4.bm 2;have x3:=au jm4.bm 2;have ez3:=af jm4.bm;simp only[List.getElem?_toArray,List.getElem?_cons_zero,List.getElem?_cons_succ]at e3)
    have jm5:JM P wr mb ((cs.setIfInBounds 1 (.slice no1 (D++E).length nc1)).setIfInBounds 3 (.slice po1 (G++Gn).length pc1)) cb (D++E) (V++F) no1 vo1 fr T1 #[.int .i64 ak0,.int .i64 av0,.string ax0,.slice ao0 an0 ac0,.string sg,.int .i64 bk0,.int .i64 bv0,.string bx0,.slice bo0 bn0 bc0,.string op,.int .i64 ck0,.int .i64 cv0,.string cx0,.slice co0 cn0 cc0] #[.int .i64 (n1:Int),.string sg,.int .i64 (n2:Int),.string op,.int .i64 (-1),.bool false,.slice none 0 0] (Zf.namesF 8 (Zf.namesF 8 (Zf.ay ns (items.take j)) x.left) r) ([]++E1++E2) ([]++F1++F2) no3 nc3 vo3 vc3 T3 _:=jm4.set 2 (.int .i64 (n2:Int))
    generalize hw3:(w3.setCell ⟨wr.heap.size+1,2,none⟩ (.int .i64 (n2:Int)))=W3 at*
    clear hw3 jm4 e3 x3 ez3
    clear IB ia4 ia5 ia6 ia7 ia8
    have ia9:=ah jm5.bi 9
    have iz:=af jm5.bi
    have zm:=af jm5.bm
    simp only[List.getElem?_toArray,List.getElem?_cons_zero,List.getElem?_cons_succ]at ia9
    by_cases hop:x.op=[]
    ·have CG:=(ae wq).z0 hop
     have t3:(op.toList == [])=true:=by rw[(ae mM).op,hop];rfl
     have t4:(op.toList != [])=false:=by rw[(ae mM).op,hop];rfl
     have kL:Zf.aL (Zf.ay ns (items.take j)) x=Zf.namesF 8 (Zf.namesF 8 (Zf.ay ns (items.take j)) x.left) r:=by unfold Zf.aL;rw[ae NK,CG];rfl
     rw[←kL]at jm5
     have ia9:=ah jm5.bi 9
     have ma0:=ah jm5.bm 0
     have ma1:=ah jm5.bm 1
     have ma2:=ah jm5.bm 2
     have ma3:=ah jm5.bm 3
     have ma4:=ah jm5.bm 4
     have ma5:=ah jm5.bm 5
     have ma6:=ah jm5.bm 6
     have iz:=af jm5.bi
     have zm:=af jm5.bm
     simp only[List.getElem?_toArray,List.getElem?_cons_zero,List.getElem?_cons_succ]at ia9 ma0 ma1 ma2 ma3 ma4 ma5 ma6
     have hgl:=(show mL T3 ((D++E)++([]++E1++E2)).length (bT T3 ((V++F)++([]++F1++F2)) N) x ⟨n1,sg,(n2:Int),op,(-1),false,none,0,[]⟩from ⟨(ae mM).sign,(ae mM).op,(by have:=ae Rn;simp only[List.nil_append,List.length_append]at this⊢;omega),(by have:=ae NJ T3 F2 old3;rwa [List.append_assoc (V++F)]at this),(fun q=>absurd q (ae jL)),(fun r' q=>by rw[ae NK]at q;cases q;exact⟨n2,rfl,nl3,tn3⟩),fun _=>rfl,(fun z q=>by rw[CG]at q;cases q),rfl,rfl,rfl,rfl⟩)
     have hel:_:=(show ([]++E1++E2).length≤19683 by have:=ae LX;simp only[List.nil_append,List.length_append];omega)
     have Rm:=hide hgl
     have En:=hide hel
     obtain⟨cs2,fE⟩:=cR.CE (ae rZ) jm5
     have f3':=(ah fE.st.blk 3).trans fE.c3
     have mz':=af fE.st.blk
     have xP:=hide (fun Y (hu:Below W3.heap.size W3 Y)=>(fE.below hu).pool)
     have gX:=hide (show some mb≠(Value.slice po1 (G++Gn).length pc1).ownBlock from bX (aN fE.pool fE.st.blk (by decide)))
     have UW:=hide fE.st.blk
     have CH:=hide (fun W' w7 g' cap' a1 a2 a3 a4=>(ae rZ).next jm5 hgl hel (fun x hx=>ae qE x (List.mem_of_mem_take hx)) (ae Jo) (W':=W') (w7:=w7) (g':=g') (cap':=cap') a1 a2 a3 a4)
     clear hgl hel fE jm5 kL CG hop
     generalize hGN:G++Gn=GG at*
     clear hGN
     go_wp2_with fail
     go_region_law (refine step_append_lies _ (by rfl) _ _ _ (by rfl) 0 133 ti _ 7 88 Tryz.underlying86 hi vQ vR tz rfl (by omega) (.slice po1 GG.length pc1) GG.length (GG.flatMap fL) (by rfl) ((ae xP _ (by first | exact Below.refl _ _ | exact(Below.refl _ _).drew)).alloc _) ⟨W3.heap.size,0,none⟩ 1 1 [.int .i64 (n1:Int),.string sg,.int .i64 (n2:Int),.string op,.int .i64 (-1),.bool false,.slice none 0 0] (by rfl) (by rfl) (World.news_of_block (cs:=#[.int .i64 (n1:Int),.string sg,.int .i64 (n2:Int),.string op,.int .i64 (-1),.bool false,.slice none 0 0]) (t:=133) (fr:=(0,0)) (heap_alloc_new _ _)) (by simp[Value.oneCell']) (by omega) (by unfold maxLen;omega) (by omega) (Nat.zero_le _) (W3.heap.size+1) (by simp) ?_;intro g' cap' w7 hown1 hgrow hat jG;have m0:=(hgrow.cell_far ⟨mb,3,none⟩ (by simp;omega) (ae gX)).trans ((World.cell?_alloc_past _ _ _ (by first | exact mz' | simp;omega)).trans f3');have jy:=hide (ae CH _ _ _ _ (((Below.refl _ _).drew).alloc (Nat.le_refl _) _) (show w7.ownsRow _ _ _ _ _ (_++[_,_,_,_,_,_,_])from hown1) hgrow (by rcases hat with q | q;exact Or.inl (aG q);(right;omega)));have k9:w7.frozen? ⟨mb,3,none⟩=false:=(by have:=au (ae jy).mc.st.blk 3;rwa [World.frozen?_setCell]at this);have zz7:mb<w7.heap.size:=(by have:=af (ae jy).mc.st.blk;rwa [bS]at this);clear hown1 hgrow hat jG)
     all_goals
      go_wp2_with fail
      go_roundg (gk - 1)
      case measure=>have:=ae aW;have:=ae ba;omega
      case rel=>exact⟨j+1,_,_,_,_,_,_,_,_,_,_,by have:=ae aW;have:=ae ba;omega,by go_num,by rw[ae rU];exact ae jy⟩
    ·obtain⟨z,hz,wfz⟩:=(ae wq).z1 hop
     have t3:(op.toList == [])=false:=by rw[(ae mM).op];simpa using hop
     have t4:(op.toList != [])=true:=by rw[(ae mM).op];simpa using hop
     obtain⟨M2,hM2⟩:=ae nG
     have Ro:=hide (fun(T4:Nat→Zf.U) (F3:List Nat) (he:∀m,m<(D++E++([]++E1++E2)).length→T4 m=T3 m)=>mq (F:=F3) (ae Wi) tn3 nl3 (fun y hy=>hy) hM2 jm5.ln jm5.ms.lt he)
     have kL:Zf.aL (Zf.ay ns (items.take j)) x=Zf.namesF 8 (Zf.namesF 8 (Zf.namesF 8 (Zf.ay ns (items.take j)) x.left) r) z:=by unfold Zf.aL;rw[ae NK,hz];rfl
     have hnames3:∃K,N=Zf.namesF 8 (Zf.namesF 8 (Zf.namesF 8 (Zf.ay ns (items.take j)) x.left) r) z++K:=by
      obtain⟨K,hK⟩:=ae LW
      rw[kL]at hK
      exact⟨K,hK⟩
     have ia10:=ah jm5.bi 10
     have ia11:=ah jm5.bi 11
     have ia12:=ah jm5.bi 12
     have ia13:=ah jm5.bi 13
     have iz:=af jm5.bi
     have zm:=af jm5.bm
     simp only[List.getElem?_toArray,List.getElem?_cons_zero,List.getElem?_cons_succ]at ia10 ia11 ia12 ia13
     have IC:=hide (fun Y (hu:Below W3.heap.size W3 Y)=>LU (jm5.below hu) (fun g hg=>ae HP g (Nat.le_trans (ae rZ).fg.size hg)) (a:=⟨ck0,cv0,cx0,co0,cn0,cc0⟩) ((jm5.below hu).ra (ae rZ).ms.ad ((ae mM).last z hz)) wfz hnames3 (by have:=ae BW;have:=ae LX;simp only[List.nil_append,List.length_append]at*;omega) (ae Rl))
     have TP:=hide old3
     have LY:=hide nl3
     have Wj:=hide el3
     have gX:=hide kL
     have XV:=hide hz
     have Rp:=hide hop
     clear jm5 tn3 nl3 old3 el3 hM2 hnames3 kL hz wfz hop
     go_wp2_with fail
     go_region_with (go_at_call 45;refine(ae IC _ (by first | exact Below.refl _ _ | exact(Below.refl _ _).drew | exact(Below.refl _ _).drew.drew | exact(Below.refl _ _).drew.drew.drew)).mono ?_;rintro y w4 ⟨n3,E3,F3,no4,nc4,vo4,vc4,T4,rfl,jm6,nl4,tn4,old4,el4⟩;have e4:=ah jm6.bm 4;have x4:=au jm6.bm 4;have ez4:=af jm6.bm;simp only[List.getElem?_toArray,List.getElem?_cons_zero,List.getElem?_cons_succ]at e4)
     have jm7:JM P wr mb ((cs.setIfInBounds 1 (.slice no1 (D++E).length nc1)).setIfInBounds 3 (.slice po1 (G++Gn).length pc1)) cb (D++E) (V++F) no1 vo1 fr T1 #[.int .i64 ak0,.int .i64 av0,.string ax0,.slice ao0 an0 ac0,.string sg,.int .i64 bk0,.int .i64 bv0,.string bx0,.slice bo0 bn0 bc0,.string op,.int .i64 ck0,.int .i64 cv0,.string cx0,.slice co0 cn0 cc0] #[.int .i64 (n1:Int),.string sg,.int .i64 (n2:Int),.string op,.int .i64 (n3:Int),.bool false,.slice none 0 0] (Zf.namesF 8 (Zf.namesF 8 (Zf.namesF 8 (Zf.ay ns (items.take j)) x.left) r) z) ([]++E1++E2++E3) ([]++F1++F2++F3) no4 nc4 vo4 vc4 T4 _:=jm6.set 4 (.int .i64 (n3:Int))
     generalize hw4:(w4.setCell ⟨wr.heap.size+1,4,none⟩ (.int .i64 (n3:Int)))=W4 at*
     clear hw4 jm6 e4 x4 ez4
     clear IC ia9 ia10 ia11 ia12 ia13
     rw[←ae gX]at jm7
     clear gX
     have ia9:=ah jm7.bi 9
     have ma0:=ah jm7.bm 0
     have ma1:=ah jm7.bm 1
     have ma2:=ah jm7.bm 2
     have ma3:=ah jm7.bm 3
     have ma4:=ah jm7.bm 4
     have ma5:=ah jm7.bm 5
     have ma6:=ah jm7.bm 6
     have iz:=af jm7.bi
     have zm:=af jm7.bm
     simp only[List.getElem?_toArray,List.getElem?_cons_zero,List.getElem?_cons_succ]at ia9 ma0 ma1 ma2 ma3 ma4 ma5 ma6
     have hgl:=(show mL T4 ((D++E)++([]++E1++E2++E3)).length (bT T4 ((V++F)++([]++F1++F2++F3)) N) x ⟨n1,sg,(n2:Int),op,(n3:Int),false,none,0,[]⟩from ⟨(ae mM).sign,(ae mM).op,(by have:=ae Rn;simp only[List.nil_append,List.length_append]at this⊢;omega),(by have:=ae NJ T4 (F2++F3) (fun m hm=>(old4 m (by simp only[List.nil_append,List.length_append]at hm⊢;omega)).trans (ae TP m hm));rwa [List.append_assoc (V++F),←List.append_assoc ([]++F1)]at this),(fun q=>absurd q (ae jL)),(fun r' q=>by rw[ae NK]at q;cases q;exact⟨n2,rfl,(by have:=ae LY;simp only[List.nil_append,List.length_append]at this⊢;omega),(by have:=ae Ro T4 F3 old4;rwa [List.append_assoc (V++F)]at this)⟩),(fun q=>absurd q (ae Rp)),(fun z' q=>by rw[ae XV]at q;cases q;exact⟨n3,rfl,nl4,tn4⟩),rfl,rfl,rfl,rfl⟩)
     have hel:_:=(show ([]++E1++E2++E3).length≤19683 by have:=ae LX;have:=ae Wj;simp only[List.nil_append,List.length_append];omega)
     have Rm:=hide hgl
     have En:=hide hel
     obtain⟨cs2,fE⟩:=cR.CE (ae rZ) jm7
     have f3':=(ah fE.st.blk 3).trans fE.c3
     have mz':=af fE.st.blk
     have xP:=hide (fun Y (hu:Below W4.heap.size W4 Y)=>(fE.below hu).pool)
     have gX:=hide (show some mb≠(Value.slice po1 (G++Gn).length pc1).ownBlock from bX (aN fE.pool fE.st.blk (by decide)))
     have UW:=hide fE.st.blk
     have CH:=hide (fun W' w7 g' cap' a1 a2 a3 a4=>(ae rZ).next jm7 hgl hel (fun x hx=>ae qE x (List.mem_of_mem_take hx)) (ae Jo) (W':=W') (w7:=w7) (g':=g') (cap':=cap') a1 a2 a3 a4)
     clear hgl hel fE jm7
     generalize hGN:G++Gn=GG at*
     clear hGN
     go_wp2_with fail
     go_region_law (refine step_append_lies _ (by rfl) _ _ _ (by rfl) 0 133 ti _ 7 88 Tryz.underlying86 hi vQ vR tz rfl (by omega) (.slice po1 GG.length pc1) GG.length (GG.flatMap fL) (by rfl) ((ae xP _ (by first | exact Below.refl _ _ | exact(Below.refl _ _).drew)).alloc _) ⟨W4.heap.size,0,none⟩ 1 1 [.int .i64 (n1:Int),.string sg,.int .i64 (n2:Int),.string op,.int .i64 (n3:Int),.bool false,.slice none 0 0] (by rfl) (by rfl) (World.news_of_block (cs:=#[.int .i64 (n1:Int),.string sg,.int .i64 (n2:Int),.string op,.int .i64 (n3:Int),.bool false,.slice none 0 0]) (t:=133) (fr:=(0,0)) (heap_alloc_new _ _)) (by simp[Value.oneCell']) (by omega) (by unfold maxLen;omega) (by omega) (Nat.zero_le _) (W4.heap.size+1) (by simp) ?_;intro g' cap' w7 hown1 hgrow hat jG;have m0:=(hgrow.cell_far ⟨mb,3,none⟩ (by simp;omega) (ae gX)).trans ((World.cell?_alloc_past _ _ _ (by first | exact mz' | simp;omega)).trans f3');have jy:=hide (ae CH _ _ _ _ (((Below.refl _ _).drew).alloc (Nat.le_refl _) _) (show w7.ownsRow _ _ _ _ _ (_++[_,_,_,_,_,_,_])from hown1) hgrow (by rcases hat with q | q;exact Or.inl (aG q);(right;omega)));have k9:w7.frozen? ⟨mb,3,none⟩=false:=(by have:=au (ae jy).mc.st.blk 3;rwa [World.frozen?_setCell]at this);have zz7:mb<w7.heap.size:=(by have:=af (ae jy).mc.st.blk;rwa [bS]at this);clear hown1 hgrow hat jG)
     all_goals
      go_wp2_with fail
      go_roundg (gk - 1)
      case measure=>have:=ae aW;have:=ae ba;omega
      case rel=>exact⟨j+1,_,_,_,_,_,_,_,_,_,_,by have:=ae aW;have:=ae ba;omega,by go_num,by rw[ae rU];exact ae jy⟩
  ·obtain rfl:j=items.length:=by omega
   rw[List.take_length]at hjo
   have rZ:=hide hjo
   clear hjo hkj
   go_wp2_with fail
   go_end0
   exact⟨rfl,_,_,_,_,_,_,_,_,_,_,ae rZ⟩
end Go.Proofs.YthfjnfcekeknlabGreatDoor
