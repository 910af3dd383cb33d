import Derived.Test.YthfjnfcekeknlaaGreatDoorSt23
set_option maxHeartbeats 8000000
set_option maxRecDepth 100000
namespace Go.Proofs.YthfjnfcekeknlaaGreatDoor
open Go.RowKit
def B0 (b:Nat) (E:List Ng):Prop:=∀(i:Nat) (d:Ng),E[i]?=some d→d.nx=b+i∧d.mrk=0∧gf (b+i) d
theorem B0.at {D E:List Ng} (h:B0 D.length E) {n:Nat} (h1:D.length≤n) (h2:n<(D++E).length):(D++E)[n].nx=n∧(D++E)[n].mrk=0∧gf n (D++E)[n]:=by
 rw[List.getElem_append_right h1]
 rw[List.length_append]at h2
 have:=h (n - D.length) E[n - D.length] (List.getElem?_eq_getElem (by omega))
 rwa [show D.length+(n - D.length)=n by omega]at this
theorem bR.MZ {D E:List Ng} {fr:Nat→Nat} (h:bR D fr) (hE:B0 D.length E):bR (D++E) fr:=by
 refine⟨fun n hn=> ?_,fun n hn=> ?_,fun n hn=>h.out n (by rw[List.length_append]at hn;omega)⟩
 ·by_cases q:n<D.length
  ·rw[List.getElem_append_left q]
   exact(h.nd n q).mono (by rw[List.length_append];omega)
  ·exact(hE.at (by omega) hn).2.2.mono (by omega)
 ·by_cases q:n<D.length
  ·obtain⟨k,hk⟩:=h.hop n q
   have key:∀{n m k},Hop D n m k→Hop (D++E) n m k:=by
    intro n m k hk
    induction hk with
    | stop q e=>exact .stop (by rw[List.length_append];omega) (by rw[List.getElem_append_left q];exact e)
    | go q e _ ih=>exact .go (by rw[List.length_append];omega) (by rw[List.getElem_append_left q];exact e) (by rw[List.getElem_append_left q];exact ih)
   exact⟨k,key hk⟩
  ·rw[h.out n (by omega)]
   exact⟨0,.stop hn (hE.at (by omega) hn).1⟩
theorem I6 {D E:List Ng} {fr:Nat→Nat} {T:Nat→Za.U} (h:bR D fr) (hS:Za.dw (aV D) fr T) (hE:B0 D.length E):∃T',Za.dw (aV (D++E)) fr T'∧∀n,n<D.length→T' n=T n:=by
 have ho:=h.MZ hE
 have hplain:Za.Plain (aV (D++E)):=fun n hg=>by
  by_cases q:n<(D++E).length
  ·rw[lH q]at hg
   rw[jC q]
   exact((ho.nd n q).v ((ho.nd n q).lab.1 hg)).2.2.2
  ·exact wY (by omega)
 have htr:∀n,∃u,Za.Tr (aV (D++E)) fr n u:=by
  intro n
  induction n using Nat.strongRecOn with
  | _ n ih=>
   by_cases q:n<D.length
   ·exact⟨_,uf h (hS.tr n) q⟩
   ·have hf:fr n=n:=h.out n (by omega)
    refine Za.qL hplain fun a ha=>ih a ?_
    rw[hf]at ha
    by_cases r:n<(D++E).length
    ·rw[jC r]at ha
     exact(hE.at (by omega) r).2.2.inn a ha
    ·rw[wY (by omega)]at ha
     cases ha
 refine⟨fun n=>Classical.choose (htr n),⟨⟨ho.idem,fun n hn=> ?_⟩,⟨fun n hn=> ?_,fun n hn i x y hx hy=> ?_⟩,fun n=>Classical.choose_spec (htr n),hplain,fun n hg=> ?_⟩,fun n hn=> ?_⟩
 ·by_cases q:n<D.length
  ·rw[fX q]at hn
   rw[fX (h.lt q)]
   exact hS.fronts.lab n hn
  ·rw[h.out n (by omega)];exact hn
 ·by_cases q:n<D.length
  ·rw[fX q]at hn
   have:=hS.cong.lab n hn
   unfold Za.pD at this⊢
   rw[fX q,fX (h.lt q),jt q,jt (h.lt q)]
   exact this
  ·rw[h.out n (by omega)];exact⟨rfl,rfl⟩
 ·by_cases q:n<D.length
  ·rw[fX q]at hn
   rw[jt q]at hx
   rw[jt (h.lt q)]at hy
   exact hS.cong.args n hn i x y hx hy
  ·rw[h.out n (by omega),hx]at hy
   obtain rfl:=Option.some.inj hy
   exact .fr rfl
 ·by_cases q:n<D.length
  ·rw[fX (h.lt q)]at hg
   exact hS.rQ n hg
  ·rw[h.out n (by omega)];exact Nat.le_refl _
 ·exact(Classical.choose_spec (htr n)).one (uf h (hS.tr n) hn)
def gm (x:Int) (n:Nat):Ng:=⟨2,x,⟨#[]⟩,0,none,0,[],n,0⟩
theorem B6 (x:Int) (b:Nat):B0 b [gm x b]:=fun i d hd=>by
 cases i with
 | zero=>
  simp at hd
  subst hd
  exact⟨rfl,rfl,Or.inr (Or.inl rfl),(fun q=>absurd q (show¬(2:Int)=1 by decide)),(fun _=>⟨rfl,rfl,rfl⟩),(fun q=>absurd q (show¬(2:Int)=3 by decide)),(fun a ha=>by cases ha)⟩
 | succ i=>simp at hd
theorem OA (P:Nat→Prop) (w:World) (sb so:Nat) (cs:Array Value) (T:TypeId) (cb:Nat) (D:List Ng) (V:List Nat) (no:Option Addr) (nc:Nat) (vo:Option Addr) (vc:Nat) (x:Int) (h:fD P w sb so cs T cb D V no nc vo vc) (hP:∀g,w.heap.size≤g→P g) (hT:T≠76) (hd:D.length+1≤1000000000):
 Calls Tryz.prog 54 #[.pointer (some ⟨sb,so,none⟩),.agg #[.int .i64 2,.int .i64 x,.string ⟨#[]⟩,.slice none 0 0],.pointer (some ⟨cb,0,none⟩)] w fun e w'=>e= .returned (.int .i64 (D.length:Int))∧∃no' nc',fD P w' sb so (cs.setIfInBounds so (.slice no' (D.length+1) nc')) T cb (D++[gm x D.length]) V no' nc' vo vc∧aj (bU sb no cb vo) (bU sb no' cb vo) w w':=by
 have rL:so<cs.size:=(Array.getElem?_eq_some_iff.1 h.st.cel).1
 have hB:=(Below.refl w.heap.size w).alloc (Nat.le_refl _) (.cells #[.int .i64 2,.int .i64 x,.string ⟨#[]⟩,.slice none 0 0] 76)
 have had:=h.below hB
 have dC:=heap_alloc_new w (.cells #[.int .i64 2,.int .i64 x,.string ⟨#[]⟩,.slice none 0 0] 76)
 generalize hwr:w.alloc (.cells #[.int .i64 2,.int .i64 x,.string ⟨#[]⟩,.slice none 0 0] 76)=wr at*
 have s0:=had.st.cell
 have b0:=ag dC 0
 have b1:=ag dC 1
 have b2:=ag dC 2
 have b3:=ag dC 3
 simp only[List.getElem?_toArray,List.getElem?_cons_zero,List.getElem?_cons_succ]at b0 b1 b2 b3
 have sz:=af had.st.blk
 have z4:=af dC
 have LB:=hide (show Calls _ _ _ _ _ from qw (wr.drew) ⟨2,x,⟨#[]⟩,none,0,0⟩)
 have Va:sb≠w.heap.size:=fun e=>by
  have:=had.st.blk
  rw[e,dC]at this
  simp only[Option.some.injEq,Obj.cells.injEq]at this
  exact hT this.2.1.symm
 have sF:=hide (show some sb≠(Value.slice no D.length nc).ownBlock from bP (aN had.st.own had.st.blk had.st.ty))
 have wX:=hide (show some w.heap.size≠(Value.slice no D.length nc).ownBlock from bP (aN had.st.own dC (by decide)))
 have Hx:=hide rL
 have Bu:=hide had
 have HP:=hide hP
 have hz0:=hB.size
 have aT:=hide hB
 obtain⟨ti,hi,vE,vF,sM⟩:=info_parts infoNd
 clear h had hP hT rL hB dC
 go_enter Tryz.func54,Tryz.ntmps54
 go_wp2_with fail
 refine wp_loop_rounds 1 ?_
 rw[rounds_succ]
 go_wp2_with fail
 go_region_law (first
  | (go_simp;go_at_call 95;refine(ae LB).mono ?_;rintro e w2 ⟨rfl,hb⟩;have aX:=hide (((Below.refl _ wr).drew).trans hb);have k0:=(hb.cell (p:=⟨sb,so,none⟩) sz).trans s0;have k1:=(hb.cell (p:=⟨w.heap.size,0,none⟩) z4).trans b0;have k2:=(hb.cell (p:=⟨w.heap.size,1,none⟩) z4).trans b1;have k3:=(hb.cell (p:=⟨w.heap.size,2,none⟩) z4).trans b2;have k4:=(hb.cell (p:=⟨w.heap.size,3,none⟩) z4).trans b3;have hz2:wr.heap.size≤w2.heap.size:=hb.size;have k0':∀o,(w2.alloc o).cell? ⟨sb,so,none⟩=some (.slice no D.length nc):=(fun o=>(World.cell?_alloc_past _ _ _ (by omega)).trans k0);clear hb)
  | (refine step_append_lies _ (by rfl) _ _ _ (by rfl) 0 180 ti _ 7 80 Tryz.underlying86 hi vE vF sM rfl (by omega) (.slice no D.length nc) D.length (jS D) (by rfl) (((ae Bu).below (ae aX)).st.own.alloc _) ⟨w2.heap.size,0,none⟩ 1 1 [.int .i64 2,.int .i64 x,.string ⟨#[]⟩,.int .i64 0,.slice none 0 0,.int .i64 (D.length:Int),.int .i64 0] (by rfl) (by rfl) (World.news_of_block (cs:=#[.int .i64 2,.int .i64 x,.string ⟨#[]⟩,.int .i64 0,.slice none 0 0,.int .i64 (D.length:Int),.int .i64 0]) (t:=180) (fr:=(0,0)) (heap_alloc_new w2 _)) (by simp[Value.oneCell']) (by omega) (by unfold maxLen;omega) (by omega) (Nat.zero_le _) (w2.heap.size+1) (by simp) ?_;intro g cap' w7 hown1 hgrow hat iX;have m0:=(hgrow.cell_far ⟨sb,so,none⟩ (by simp;omega) (ae sF)).trans ((World.cell?_alloc_past _ _ _ (by omega)).trans k0);have m1:=(hgrow.cell_far ⟨w.heap.size,0,none⟩ (by simp;omega) (ae wX)).trans ((World.cell?_alloc_past _ _ _ (by omega)).trans k1);have m2:=(hgrow.cell_far ⟨w.heap.size,1,none⟩ (by simp;omega) (ae wX)).trans ((World.cell?_alloc_past _ _ _ (by omega)).trans k2);have m3:=(hgrow.cell_far ⟨w.heap.size,2,none⟩ (by simp;omega) (ae wX)).trans ((World.cell?_alloc_past _ _ _ (by omega)).trans k3);have m4:=(hgrow.cell_far ⟨w.heap.size,3,none⟩ (by simp;omega) (ae wX)).trans ((World.cell?_alloc_past _ _ _ (by omega)).trans k4);have HN:=hide (((ae Bu).below (ae aX)).node (fun g q=>ae HP g (by omega)) (ae Hx) ((Below.refl _ _).alloc (Nat.le_refl _) _) (d:=gm x D.length) (show w7.ownsRow _ _ _ _ _ (_++[_,_,_,_,_,_,_])from hown1) hgrow (by rcases hat with q | q;exact Or.inl (aD q);(right;omega)) (fun q=>absurd rfl q));have k9:w7.frozen? ⟨sb,so,none⟩=false:=(by have:=aq (ae HN).1.st.blk so;rwa [World.frozen?_setCell]at this);have zz7:sb<w7.heap.size:=(by have:=af (ae HN).1.st.blk;rwa [cC]at this);clear hown1 hgrow hat iX))
 all_goals (go_wp2_with fail;go_ret;exact⟨rfl,_,_,(ae HN).1,((aj.of_below (ae aT)).trans (aj.of_below (ae aX))).trans (ae HN).2⟩)
end Go.Proofs.YthfjnfcekeknlaaGreatDoor
namespace Za
def eN (op:List UInt8) (u v:U):Wn:=if op=[]then Wn.none.bI u else(Wn.none.bI u).bI v
end Za
namespace Go.Proofs.YthfjnfcekeknlaaGreatDoor
open Go.RowKit
theorem pS {w:World} {cb:Nat} {V:List Nat} {vo:Option Addr} {vc:Nat} (h:Bp w cb V vo vc) {k:Nat} {ys:Array Value} {S:TypeId} (hk:w.heap[k]?=some (.cells ys S (0,0))) (h1:S≠93):k≠cb:=fun e=>by
 rw[e,h.blk]at hk
 simp only[Option.some.injEq,Obj.cells.injEq]at hk
 exact h1 hk.2.1.symm
theorem cG.added {P:Nat→Prop} {w w':World} {mb:Nat} {cs:Array Value} {D D':List Ng} {nO no':Option Addr} {nC nc':Nat} {fr:Nat→Nat} {G:List Gl} {po:Option Addr} {pc cb:Nat} {V V':List Nat} {vo vo':Option Addr} {vc vc':Nat} (h:cG w mb cs D nO nC fr G po pc) (hsc:Bp w cb V vo vc) (QB:∀g∈G,∀k,rowOf g.no k→¬rowOf vo k) (had:fD P w' mb 1 (cs.setIfInBounds 1 (.slice no' D'.length nc')) 91 cb D' V' no' nc' vo' vc') (ok:bR D' fr) (hl:D.length≤D'.length) (hf:aj (bU mb nO cb vo) (bU mb no' cb vo') w w'):cG w' mb (cs.setIfInBounds 1 (.slice no' D'.length nc')) D' no' nc' fr G po pc:=by
 have nomb:∀{k:Nat} {ys:Array Value} {S:TypeId},w.heap[k]?=some (.cells ys S (0,0))→S≠91→k≠mb:=fun {k ys S} hk hS e=>by
  rw[e,h.st.blk]at hk
  simp only[Option.some.injEq,Obj.cells.injEq]at hk
  exact hS hk.2.1.symm
 refine⟨had.st,ok,by rw[Array.getElem?_setIfInBounds_ne (by omega)];exact h.c3,ah h.pool fun g q=> ?_,fun g hg=>ah (h.nds g hg) fun k q=> ?_,fun g hg v hv=>Nat.lt_of_lt_of_le (h.nlt g hg v hv) hl,h.nl⟩
 ·obtain⟨cur,hc⟩:=aH h.pool (aD q)
  refine hf.block g (af hc) ?_
  rintro(e | e | e | e)
  ·exact nomb hc (by decide) e
  ·exact aN h.st.own hc (by decide) e
  ·exact pS hsc hc (by decide) e
  ·exact aN hsc.own hc (by decide) e
 ·obtain⟨cur,hc⟩:=aH (h.nds g hg) (aD q)
  refine hf.block k (af hc) ?_
  rintro(e | e | e | e)
  ·exact nomb hc (by decide) e
  ·exact aN h.st.own hc (by decide) e
  ·exact pS hsc hc (by decide) e
  ·exact QB g hg k (aD q) e
theorem uk {D:List Ng} {x:Int}:(D++[gm x D.length]).length=D.length+1:=by simp
def sZ (mb:Nat) (cs:Array Value) (D:List Ng) (nO:Option Addr) (nC:Nat) (fr:Nat→Nat) (TT:Nat→Za.U) (P:Nat→Prop) (G:List Gl) (po:Option Addr) (pc i:Nat) (g:Gl) (W:Za.Wn) (r:Option Int) (w:World) (e:Ending) (w':World):Prop:=
 (W.wt≠[]∧∃(wo:Option Addr) (wc:Nat),e= .returned (.int .i64 (-1))∧cG w' mb cs D nO nC fr (G.set i {g with wt:=true,no:=wo,nc:=wc,nd:=W.wt}) po pc∧aj (rowOf po) (rowOf po) w w'∧(∀k,rowOf wo k→w.heap.size≤k))∨
 (W.wt=[]∧r=none∧e= .returned (.int .i64 (-2))∧w'.heap[mb]?=some (.cells (cs.setIfInBounds 5 (.int .i64 5)) 91 (0,0))∧aj (fun k=>k=mb) (fun k=>k=mb) w w')∨
 (W.wt=[]∧∃(x:Int) (no':Option Addr) (nc':Nat) (T2:Nat→Za.U) (w2:World),r=some x∧bR (D++[gm x D.length]) fr∧Za.dw (aV (D++[gm x D.length])) fr T2∧(∀m,m<D.length→T2 m=TT m)∧T2 D.length= .n 3 [] x []∧cG w2 mb (cs.setIfInBounds 1 (.slice no' (D++[gm x D.length]).length nc')) (D++[gm x D.length]) no' nc' fr G po pc∧aW w2 (D++[gm x D.length]) P∧aj (cm mb nO) (cm mb no') w w2∧zD mb (cs.setIfInBounds 1 (.slice no' (D++[gm x D.length]).length nc')) (D++[gm x D.length]) no' nc' fr T2 G i g.l D.length w2 e w')
theorem FE {D:List Ng} {fr:Nat→Nat} {T:Nat→Za.U} {x:Int} (_ok:bR (D++[gm x D.length]) fr) (hS:Za.dw (aV (D++[gm x D.length])) fr T):T D.length= .n 3 [] x []:=by
 have hn:D.length<(D++[gm x D.length]).length:=by simp
 have sN:(D++[gm x D.length])[D.length]=gm x D.length:=by simp
 rw[hS.reads.node D.length 3 [] x (by rw[lH hn,sN];rfl),jC hn,sN]
 rfl
theorem I7 {fr:Nat→Nat} {TT:Nat→Za.U} {D:List Ng} (ok:bR D fr) {W:Za.Wn} {n:Nat} (hn:n<D.length) (hW:∀v∈W.wt,v<D.length) (hv:∀x,TT n= .v x→x=([],fr n)):∀v∈(W.bI (TT n)).wt,v<D.length:=fun v hm=>by
 cases hu:TT n with
 | n k tx num ss=>rw[hu]at hm;exact hW v hm
 | v x=>
  rw[hu,hv x hu]at hm
  have:v∈Za.fy W.wt (fr n):=hm
  unfold Za.fy at this
  split at this
  ·exact hW v this
  ·rcases List.mem_append.1 this with q | q
   ·exact hW v q
   ·rw[List.mem_singleton.1 q];exact ok.lt hn
end Go.Proofs.YthfjnfcekeknlaaGreatDoor
namespace Za
structure td (x:aC):Prop where
 wl:wfK 8 x.left
 r0:x.sign=[]→x.right=none
 r1:x.sign≠[]→∃r,x.right=some r∧wfK 8 r
 z0:x.op=[]→x.last=none
 z1:x.op≠[]→∃z,x.last=some z∧wfK 8 z
 sz:x.op≠[]→x.sign≠[]
end Za
namespace Go.Proofs.YthfjnfcekeknlaaGreatDoor
open Go.RowKit
theorem aj.dW {R R':Nat→Prop} {w W:World} (h:aj R R' w W) {b:Nat} (hb:w.heap.size≤b) (c:Nat) (v:Value):aj R R' w (W.setCell ⟨b,c,none⟩ v):=
 ⟨h.os,h.tape,h.output,by rw[cC];exact h.size,fun k hk hr=>(aF _ _ _ _ (by omega)).trans (h.block k hk hr),h.row⟩
theorem gu.dW {P:Nat→Prop} {w:World} {sb so:Nat} {cs:Array Value} {T:TypeId} {cb:Nat} {D:List Ng} {V:List Nat} {no:Option Addr} {nc:Nat} {vo:Option Addr} {vc:Nat} {fr:Nat→Nat} {TT:Nat→Za.U} (h:gu P w sb so cs T cb D V no nc vo vc fr TT) {b:Nat} {ys:Array Value} {S:TypeId} (hb:w.heap[b]?=some (.cells ys S (0,0))) (h1:S≠T) (h2:S≠180) (h3:S≠93) (h4:S≠3) (c:Nat) (v:Value):gu P (w.setCell ⟨b,c,none⟩ v) sb so cs T cb D V no nc vo vc fr TT:=
 h.fS fun g ys' S' hg hS=>aF _ _ _ _ (fun e=>by
  rw[e,hb]at hg
  simp only[Option.some.injEq,Obj.cells.injEq]at hg
  have:=hg.2.1
  subst this
  rcases hS with q | q | q | q
  ·exact h1 q
  ·exact h2 q
  ·exact h3 q
  ·exact h4 q)
structure JM (P:Nat→Prop) (wr:World) (mb:Nat) (cs:Array Value) (cb:Nat) (D:List Ng) (V:List Nat) (no vo:Option Addr) (fr:Nat→Nat) (TT:Nat→Za.U) (ic mc:Array Value) (ns:List (List UInt8)) (E:List Ng) (F:List Nat) (no':Option Addr) (nc':Nat) (vo':Option Addr) (vc':Nat) (T':Nat→Za.U) (W:World):Prop where
 ms:gu P W mb 1 (cs.setIfInBounds 1 (.slice no' (D++E).length nc')) 91 cb (D++E) (V++F) no' nc' vo' vc' fr T'
 old:∀m,m<D.length→T' m=TT m
 nd:dB D.length E
 nv:fA D.length E F
 ln:(V++F).length=ns.length
 fg:aj (bU mb no cb vo) (bU mb no' cb vo') wr W
 bi:W.heap[wr.heap.size]?=some (.cells ic 151 (0,0))
 bm:W.heap[wr.heap.size+1]?=some (.cells mc 158 (0,0))
section
variable {P:Nat→Prop} {wr:World} {mb:Nat} {cs:Array Value} {cb:Nat} {D:List Ng} {V:List Nat} {no vo:Option Addr} {fr:Nat→Nat} {TT:Nat→Za.U} {ic mc:Array Value} {ns:List (List UInt8)} {E:List Ng} {F:List Nat} {no':Option Addr} {nc':Nat} {vo':Option Addr} {vc':Nat} {T':Nat→Za.U} {W:World}
theorem JM.below (h:JM P wr mb cs cb D V no vo fr TT ic mc ns E F no' nc' vo' vc' T' W) {W':World} (hb:Below W.heap.size W W'):JM P wr mb cs cb D V no vo fr TT ic mc ns E F no' nc' vo' vc' T' W':=
 ⟨h.ms.below hb,h.old,h.nd,h.nv,h.ln,h.fg.trans (aj.of_below hb),(hb.block _ (af h.bi)).trans h.bi,(hb.block _ (af h.bm)).trans h.bm⟩
theorem JM.set (h:JM P wr mb cs cb D V no vo fr TT ic mc ns E F no' nc' vo' vc' T' W) (c:Nat) (v:Value):JM P wr mb cs cb D V no vo fr TT ic (mc.setIfInBounds c v) ns E F no' nc' vo' vc' T' (W.setCell ⟨wr.heap.size+1,c,none⟩ v):=
 ⟨h.ms.dW h.bm (by decide) (by decide) (by decide) (by decide) c v,h.old,h.nd,h.nv,h.ln,h.fg.dW (Nat.le_succ _) c v,(aF _ _ _ _ (by omega)).trans h.bi,au h.bm c v⟩
theorem JM.add (h:JM P wr mb cs cb D V no vo fr TT ic mc ns E F no' nc' vo' vc' T' W) {N:List (List UInt8)} {t:Za.Tm} {e:Ending} {w':World} (hq:T8 P mb 1 (cs.setIfInBounds 1 (.slice no' (D++E).length nc')) 91 cb (D++E) (V++F) no' vo' fr T' N ns t W e w'):
 ∃(n:Nat) (E2:List Ng) (F2:List Nat) (no2:Option Addr) (nc2:Nat) (vo2:Option Addr) (vc2:Nat) (T2:Nat→Za.U),e= .returned (.int .i64 (n:Int))∧JM P wr mb cs cb D V no vo fr TT ic mc (Za.namesF 8 ns t) (E++E2) (F++F2) no2 nc2 vo2 vc2 T2 w'∧n<(D++(E++E2)).length∧T2 n=Za.bA (cH T2 (V++(F++F2)) N) 8 t∧(∀m,m<(D++E).length→T2 m=T' m)∧E2.length+1≤6561:=by
 obtain⟨n,E2,F2,no2,nc2,vo2,vc2,T2,rfl,ms,old,nd,nv,ln,nl,tn,el,fg⟩:=hq
 rw[set_set]at ms
 refine⟨n,E2,F2,no2,nc2,vo2,vc2,T2,rfl,⟨by rw[←List.append_assoc,←List.append_assoc];exact ms,fun m hm=> ?_,h.nd.app (by rw[List.length_append]at nd;exact nd),h.nv.app (by rw[List.length_append]at nv;exact nv),by rw[←List.append_assoc];exact ln,h.fg.trans fg,?_,?_⟩,by rw[←List.append_assoc];exact nl,by rw[←List.append_assoc];exact tn,old,el⟩
 ·rw[old m (by rw[List.length_append];omega),h.old m hm]
 ·exact h.ms.ad.blk fg h.bi (by decide) (by decide) (by decide) (by decide)
 ·exact h.ms.ad.blk fg h.bm (by decide) (by decide) (by decide) (by decide)
end
structure mq (T:Nat→Za.U) (len:Nat) (η:List UInt8→Za.U) (x:Za.aC) (g:Gl):Prop where
 sg:g.sg.toList=x.sign
 op:g.op.toList=x.op
 ll:g.l<len
 tl:T g.l=Za.bA η 8 x.left
 r0:x.sign=[]→g.r= -1
 r1:∀r,x.right=some r→∃n:Nat,g.r=(n:Int)∧n<len∧T n=Za.bA η 8 r
 z0:x.op=[]→g.z= -1
 z1:∀z,x.last=some z→∃n:Nat,g.z=(n:Int)∧n<len∧T n=Za.bA η 8 z
 nw:g.wt=false
 nd:g.nd=[]
 no:g.no=none
 nc:g.nc=0
theorem cG.joined {w W w7:World} {mb:Nat} {cs:Array Value} {D:List Ng} {nO:Option Addr} {nC:Nat} {fr:Nat→Nat} {G:List Gl} {po:Option Addr} {pc:Nat} (h:cG w mb cs D nO nC fr G po pc) (hW:Below w.heap.size w W) {g' cap':Nat} {g:Gl} (hown:w7.ownsRow 0 158 7 (.slice (some ⟨g',0,none⟩) (G.length+1) cap') (G.length+1) (G.flatMap fG++fG g)) (hg:W.grownBy w7 (Value.slice po G.length pc).ownBlock) (hat:rowOf po g'∨w.heap.size≤g') (hnd:g.nd=[]) (hno:g.no=none) (hnc:g.nc=0):
 cG (w7.setCell ⟨mb,3,none⟩ (.slice (some ⟨g',0,none⟩) (G.length+1) cap')) mb (cs.setIfInBounds 3 (.slice (some ⟨g',0,none⟩) (G++[g]).length cap')) D nO nC fr (G++[g]) (some ⟨g',0,none⟩) cap'∧aj (fun k=>k=mb∨rowOf po k) (fun k=>k=mb∨rowOf (some ⟨g',0,none⟩) k) w (w7.setCell ⟨mb,3,none⟩ (.slice (some ⟨g',0,none⟩) (G.length+1) cap')):=by
 have mz:=af h.st.blk
 have wz:=hW.size
 have nomb:¬rowOf po mb:=aN h.pool h.st.blk (by decide)
 have keep:∀k,k≠mb→¬rowOf po k→k<w.heap.size→(w7.setCell ⟨mb,3,none⟩ (.slice (some ⟨g',0,none⟩) (G.length+1) cap')).heap[k]?=w.heap[k]?:=fun k h1 h2 h3=>by
  rw[aF _ _ _ _ h1,hg.block k (by omega) (bP h2),hW.block k h3]
 have fS:∀(k:Nat) (ys:Array Value) (S:TypeId),w.heap[k]?=some (.cells ys S (0,0))→S≠158→S≠91→(w7.setCell ⟨mb,3,none⟩ (.slice (some ⟨g',0,none⟩) (G.length+1) cap')).heap[k]?=w.heap[k]?:=fun k ys S hk h1 h2=>keep k (fun e=>by
  rw[e,h.st.blk]at hk
  simp only[Option.some.injEq,Obj.cells.injEq]at hk
  exact h2 hk.2.1.symm) (aN h.pool hk h1) (af hk)
 have h3:3<cs.size:=(Array.getElem?_eq_some_iff.1 h.c3).1
 have gne:g'≠mb:=fun e=>by
  rcases hat with q | q
  ·exact nomb (e ▸ q)
  ·omega
 have el:(G++[g]).length=G.length+1:=by simp
 rw[el]
 refine⟨⟨⟨?_,?_,ah h.st.own fun k q=> ?_,h.st.ty⟩,h.ok,?_,?_,fun x hx=> ?_,fun x hx=> ?_,fun x hx=> ?_⟩,⟨hg.os.trans hW.os,hg.tape.trans hW.tape,hg.output.trans hW.output,by rw[cC];exact Nat.le_trans wz hg.size,fun k hk hr=>keep k (fun e=>hr (Or.inl e)) (fun e=>hr (Or.inr e)) hk,fun k q=> ?_⟩⟩
 ·refine au ?_ 3 (.slice (some ⟨g',0,none⟩) (G.length+1) cap')
  rw[hg.block mb (by omega) (bP nomb),hW.block mb mz]
  exact h.st.blk
 ·rw[Array.getElem?_setIfInBounds_ne (by omega)];exact h.st.cel
 ·obtain⟨cur,hc⟩:=aH h.st.own (aD q)
  exact fS k _ _ hc (by decide) (by decide)
 ·rw[Array.getElem?_setIfInBounds_self,if_pos h3,el]
 ·rw[el,List.flatMap_append]
  have:[g].flatMap fG=fG g:=by simp
  rw[this]
  exact ah hown fun k q=>aF _ _ _ _ (fun e=>by
   obtain⟨p,hp,hk⟩:=aD q
   cases hp
   exact gne (hk.symm.trans e))
 ·rcases List.mem_append.1 hx with q | q
  ·exact ah (h.nds x q) fun k r=>by
    obtain⟨cur,hc⟩:=aH (h.nds x q) (aD r)
    exact fS k _ _ hc (by decide) (by decide)
  ·rw[List.mem_singleton.1 q,hnd,hno,hnc]
   exact World.ownsRow_nil _ _ _ _
 ·rcases List.mem_append.1 hx with q | q
  ·exact h.nlt x q
  ·rw[List.mem_singleton.1 q,hnd];intro v hv;cases hv
 ·rcases List.mem_append.1 hx with q | q
  ·exact h.nl x q
  ·rw[List.mem_singleton.1 q,hnd];simp
 ·rcases q with e | ⟨p,hp,hq⟩
  ·exact Or.inl (Or.inl e)
  ·cases hp
   rcases hat with r | r
   ·exact Or.inl (Or.inr (hq ▸ r))
   ·exact Or.inr (hq ▸ r)
theorem gu.I8 {P:Nat→Prop} {w w':World} {sb so:Nat} {cs cs':Array Value} {T:TypeId} {cb:Nat} {D:List Ng} {V:List Nat} {no:Option Addr} {nc:Nat} {vo:Option Addr} {vc:Nat} {fr:Nat→Nat} {TT:Nat→Za.U} (h:gu P w sb so cs T cb D V no nc vo vc fr TT) (hs:bt w' sb so cs' T D no nc) (hk:∀(g:Nat) (ys:Array Value) (S:TypeId),w.heap[g]?=some (.cells ys S (0,0))→(S=93∨S=3)→w'.heap[g]?=w.heap[g]?):gu P w' sb so cs' T cb D V no nc vo vc fr TT:=by
 refine⟨⟨hs,⟨(hk cb _ _ h.ad.sc.blk (Or.inl rfl)).trans h.ad.sc.blk,ah h.ad.sc.own fun g q=> ?_⟩,h.ad.t1,h.ad.t2,h.ad.args.keep fun g _ hp hg=>⟨(hk g _ _ hg (Or.inr rfl)).trans hg,hp⟩⟩,h.ok,h.to,h.lt⟩
 obtain⟨cur,hc⟩:=aH h.ad.sc.own (aD q)
 exact hk g _ _ hc (Or.inr rfl)
theorem aj.Td {w w':World} {mb:Nat} {no2 vo2 po po':Option Addr} {cb:Nat} (h:aj (fun k=>k=mb∨rowOf po k) (fun k=>k=mb∨rowOf po' k) w w'):aj (fun k=>bU mb no2 cb vo2 k∨rowOf po k) (fun k=>bU mb no2 cb vo2 k∨rowOf po' k) w w':=
 ⟨h.os,h.tape,h.output,h.size,fun k hk hr=>h.block k hk (fun q=>hr (q.imp (fun e=>Or.inl e) id)),fun k q=>by
  rcases q with q | q
  ·exact Or.inl (Or.inl q)
  ·rcases h.row k (Or.inr q)with(e | e) | e
   ·exact Or.inl (Or.inl (Or.inl e))
   ·exact Or.inl (Or.inr e)
   ·exact Or.inr e⟩
def um (mb:Nat) (no:Option Addr) (cb:Nat) (vo po:Option Addr) (k:Nat):Prop:=bU mb no cb vo k∨rowOf po k
structure Ca (P:Nat→Prop) (w:World) (mb:Nat) (cs:Array Value) (cb:Nat) (D:List Ng) (V:List Nat) (nO vo:Option Addr) (fr:Nat→Nat) (TT:Nat→Za.U) (G:List Gl) (po:Option Addr) (N ns:List (List UInt8)) (items:List Za.aC) (E:List Ng) (F:List Nat) (no':Option Addr) (nc':Nat) (vo':Option Addr) (vc':Nat) (T':Nat→Za.U) (Gn:List Gl) (po':Option Addr) (pc':Nat) (wr:World):Prop where
 ms:gu P wr mb 1 ((cs.setIfInBounds 1 (.slice no' (D++E).length nc')).setIfInBounds 3 (.slice po' (G++Gn).length pc')) 91 cb (D++E) (V++F) no' nc' vo' vc' fr T'
 mc:cG wr mb ((cs.setIfInBounds 1 (.slice no' (D++E).length nc')).setIfInBounds 3 (.slice po' (G++Gn).length pc')) (D++E) no' nc' fr (G++Gn) po' pc'
 fv:∀g∈G++Gn,∀k,rowOf g.no k→¬rowOf vo' k
 old:∀m,m<D.length→T' m=TT m
 nd:dB D.length E
 nv:fA D.length E F
 ln:(V++F).length=(Za.ay ns items).length
 gl:bK (mq T' (D++E).length (cH T' (V++F) N)) items Gn
 el:E.length≤items.length*19683
 fg:aj (um mb nO cb vo po) (um mb no' cb vo' po') w wr
def Uj (P:Nat→Prop) (w:World) (mb:Nat) (cs:Array Value) (cb:Nat) (D:List Ng) (V:List Nat) (nO vo:Option Addr) (fr:Nat→Nat) (TT:Nat→Za.U) (G:List Gl) (po:Option Addr) (N ns:List (List UInt8)) (items:List Za.aC) (k:Nat) (iv:Value) (wr:World):Prop:=
 ∃(j:Nat) (E:List Ng) (F:List Nat) (no':Option Addr) (nc':Nat) (vo':Option Addr) (vc':Nat) (T':Nat→Za.U) (Gn:List Gl) (po':Option Addr) (pc':Nat),k+j=items.length∧iv= .int .i64 (j:Int)∧Ca P w mb cs cb D V nO vo fr TT G po N ns (items.take j) E F no' nc' vo' vc' T' Gn po' pc' wr
theorem dL (D E:List Ng):D.length≤(D++E).length:=by rw[List.length_append];omega
theorem Vp (cs:Array Value) (x y a b:Value):((((cs.setIfInBounds 1 x).setIfInBounds 3 y).setIfInBounds 1 a).setIfInBounds 3 b)=(cs.setIfInBounds 1 a).setIfInBounds 3 b:=by
 apply Array.ext_getElem?
 intro i
 simp only[Array.getElem?_setIfInBounds,Array.size_setIfInBounds]
 by_cases h1:1=i
 ·subst h1;simp
 ·by_cases h3:3=i
  ·subst h3;simp
  ·simp[h1,h3]
theorem bK.QC {α β:Type} {R S:α→β→Prop}:∀{xs:List α} {ys:List β},(∀a b,a∈xs→R a b→S a b)→bK R xs ys→bK S xs ys
 | [],[],_,_=>trivial
 | [],_ :: _,_,h=>h
 | _ :: _,[],_,h=>h
 | _ :: _,_ :: _,f,h=>⟨f _ _ (by simp) h.1,bK.QC (fun a b ha=>f a b (by simp[ha])) h.2⟩
theorem lV {T1 T2:Nat→Za.U} {V F:List Nat} {N M ns:List (List UInt8)} {t:Za.Tm} {b n:Nat} (hw:Za.wfK 8 t) (h:T1 n=Za.bA (cH T1 V N) 8 t) (hn:n<b) {ns':List (List UInt8)} (hs:∀y∈Za.namesF 8 ns' t,y∈ns) (hN:N=ns++M) (hl:V.length=ns.length) (hlt:∀m∈V,m<b) (he:∀m,m<b→T2 m=T1 m):T2 n=Za.bA (cH T2 (V++F) N) 8 t:=by
 rw[he n hn,h]
 exact(Za.gQ 8 t ns' hw (fun y hy=>KO (hs y hy) hN hl hlt he)).symm
theorem lj (t:Option Za.Tm) (ns:List (List UInt8)):∃K,Za.cg ns t=ns++K:=by
 cases t with
 | none=>exact⟨[],by simp[Za.cg]⟩
 | some r=>exact Za.namesV_ext 8 r ns
theorem mq.more {T1 T2:Nat→Za.U} {V F:List Nat} {N M ns:List (List UInt8)} {x:Za.aC} {g:Gl} {b b':Nat} (hx:Za.td x) (h:mq T1 b (cH T1 V N) x g) {ns':List (List UInt8)} (hs:∀y∈Za.aK ns' x,y∈ns) (hN:N=ns++M) (hl:V.length=ns.length) (hlt:∀m∈V,m<b) (he:∀m,m<b→T2 m=T1 m) (hb:b≤b'):mq T2 b' (cH T2 (V++F) N) x g:=by
 have nO:∀(t:Option Za.Tm) (ns:List (List UInt8)),∃K,Za.cg ns t=ns++K:=fun t ns=>by
  cases t with
  | none=>exact⟨[],by simp[Za.cg]⟩
  | some r=>exact Za.namesV_ext 8 r ns
 have hleft:∀y∈Za.namesF 8 ns' x.left,y∈ns:=fun y hy=>hs y (by
  obtain⟨K1,h1⟩:=nO x.right (Za.namesF 8 ns' x.left)
  obtain⟨K2,h2⟩:=nO x.last (Za.cg (Za.namesF 8 ns' x.left) x.right)
  unfold Za.aK
  rw[h2,h1]
  simp[hy])
 have hright:∀r,x.right=some r→∀y∈Za.namesF 8 (Za.namesF 8 ns' x.left) r,y∈ns:=fun r q y hy=>hs y (by
  obtain⟨K2,h2⟩:=nO x.last (Za.cg (Za.namesF 8 ns' x.left) x.right)
  unfold Za.aK
  rw[h2,q]
  exact List.mem_append_left _ hy)
 have hlast:∀z,x.last=some z→∀y∈Za.namesF 8 (Za.cg (Za.namesF 8 ns' x.left) x.right) z,y∈ns:=fun z q y hy=>hs y (by
  unfold Za.aK
  rw[q]
  exact hy)
 refine⟨h.sg,h.op,Nat.lt_of_lt_of_le h.ll hb,lV hx.wl h.tl h.ll hleft hN hl hlt he,h.r0,fun r q=> ?_,h.z0,fun z q=> ?_,h.nw,h.nd,h.no,h.nc⟩
 ·obtain⟨n,q1,q2,q3⟩:=h.r1 r q
  have hw:Za.wfK 8 r:=by
   by_cases k:x.sign=[]
   ·rw[hx.r0 k]at q;cases q
   ·obtain⟨r',e,w⟩:=hx.r1 k
    rw[e]at q;cases q;exact w
  exact⟨n,q1,Nat.lt_of_lt_of_le q2 hb,lV hw q3 q2 (hright r q) hN hl hlt he⟩
 ·obtain⟨n,q1,q2,q3⟩:=h.z1 z q
  have hw:Za.wfK 8 z:=by
   by_cases k:x.op=[]
   ·rw[hx.z0 k]at q;cases q
   ·obtain⟨r',e,w⟩:=hx.z1 k
    rw[e]at q;cases q;exact w
  exact⟨n,q1,Nat.lt_of_lt_of_le q2 hb,lV hw q3 q2 (hlast z q) hN hl hlt he⟩
theorem La {P:Nat→Prop} {wr:World} {mb:Nat} {cs:Array Value} {cb:Nat} {D:List Ng} {V:List Nat} {no vo:Option Addr} {fr:Nat→Nat} {TT:Nat→Za.U} {ic mc:Array Value} {ns:List (List UInt8)} {E:List Ng} {F:List Nat} {no':Option Addr} {nc':Nat} {vo':Option Addr} {vc':Nat} {T':Nat→Za.U} {W:World} (h:JM P wr mb cs cb D V no vo fr TT ic mc ns E F no' nc' vo' vc' T' W) (hP:∀g,wr.heap.size≤g→P g) {N:List (List UInt8)} {a:AV} {t:Za.Tm} (hr:RA 8 N anyA W a t) (hw:Za.wfK 8 t) (hN:∃M,N=Za.namesF 8 ns t++M) (hD:(D++E).length+6561≤1000000000) (hNl:N.length≤100000):
 Calls Tryz.prog 54 #[.pointer (some ⟨mb,1,none⟩),.agg #[.int .i64 a.k,.int .i64 a.val,.string a.tx,.slice a.ao a.n a.cap],.pointer (some ⟨cb,0,none⟩)] W fun e w'=>∃(n:Nat) (E2:List Ng) (F2:List Nat) (no2:Option Addr) (nc2:Nat) (vo2:Option Addr) (vc2:Nat) (T2:Nat→Za.U),e= .returned (.int .i64 (n:Int))∧JM P wr mb cs cb D V no vo fr TT ic mc (Za.namesF 8 ns t) (E++E2) (F++F2) no2 nc2 vo2 vc2 T2 w'∧n<(D++(E++E2)).length∧T2 n=Za.bA (cH T2 (V++(F++F2)) N) 8 t∧(∀m,m<(D++E).length→T2 m=T' m)∧E2.length+1≤6561:=by
 refine(S6 h.ms (fun g hg=>hP g (Nat.le_trans h.fg.size hg)) (by decide) hr hw h.ln hN hD ?_).mono fun e w' q=>h.add q
 obtain⟨M,hM⟩:=hN
 obtain⟨K,hK⟩:=Za.namesV_ext 8 t ns
 have:ns.length≤N.length:=by rw[hM,hK];simp
 have:=h.ln
 omega
theorem JM.ra {P:Nat→Prop} {wr:World} {mb:Nat} {cs:Array Value} {cb:Nat} {D:List Ng} {V:List Nat} {no vo:Option Addr} {fr:Nat→Nat} {TT:Nat→Za.U} {ic mc:Array Value} {ns:List (List UInt8)} {E:List Ng} {F:List Nat} {no':Option Addr} {nc':Nat} {vo':Option Addr} {vc':Nat} {T':Nat→Za.U} {W:World} (h:JM P wr mb cs cb D V no vo fr TT ic mc ns E F no' nc' vo' vc' T' W) {nc vc:Nat} {cs1:Array Value} (hs:fD P wr mb 1 cs1 91 cb D V no nc vo vc) {N:List (List UInt8)} {a:AV} {t:Za.Tm} (hr:RA 8 N anyA wr a t):RA 8 N anyA W a t:=hs.ra (by decide) h.fg hr
theorem Ca.next {P:Nat→Prop} {w:World} {mb:Nat} {cs:Array Value} {cb:Nat} {D:List Ng} {V:List Nat} {nO vo:Option Addr} {fr:Nat→Nat} {TT:Nat→Za.U} {G:List Gl} {po:Option Addr} {N ns:List (List UInt8)} {items:List Za.aC} {E:List Ng} {F:List Nat} {no1:Option Addr} {nc1:Nat} {vo1:Option Addr} {vc1:Nat} {T1:Nat→Za.U} {Gn:List Gl} {po1:Option Addr} {pc1:Nat} {wr:World} (h:Ca P w mb cs cb D V nO vo fr TT G po N ns items E F no1 nc1 vo1 vc1 T1 Gn po1 pc1 wr)
 {ic mc:Array Value} {x:Za.aC} {E2:List Ng} {F2:List Nat} {no2:Option Addr} {nc2:Nat} {vo2:Option Addr} {vc2:Nat} {T2:Nat→Za.U} {W:World} (hj:JM P wr mb ((cs.setIfInBounds 1 (.slice no1 (D++E).length nc1)).setIfInBounds 3 (.slice po1 (G++Gn).length pc1)) cb (D++E) (V++F) no1 vo1 fr T1 ic mc (Za.aK (Za.ay ns items) x) E2 F2 no2 nc2 vo2 vc2 T2 W)
 {g:Gl} (hg:mq T2 ((D++E)++E2).length (cH T2 ((V++F)++F2) N) x g) (hE:E2.length≤19683) (hok:∀x∈items,Za.td x) (hN:∃M,N=Za.ay ns items++M)
 {W' w7:World} {g' cap':Nat} (hW:Below W.heap.size W W') (hown:w7.ownsRow 0 158 7 (.slice (some ⟨g',0,none⟩) ((G++Gn).length+1) cap') ((G++Gn).length+1) ((G++Gn).flatMap fG++fG g)) (hgr:W'.grownBy w7 (Value.slice po1 (G++Gn).length pc1).ownBlock) (hat:rowOf po1 g'∨W.heap.size≤g'):
 Ca P w mb cs cb D V nO vo fr TT G po N ns (items++[x]) (E++E2) (F++F2) no2 nc2 vo2 vc2 T2 (Gn++[g]) (some ⟨g',0,none⟩) cap' (w7.setCell ⟨mb,3,none⟩ (.slice (some ⟨g',0,none⟩) ((G++Gn).length+1) cap')):=by
 have hm:=h.mc.added h.ms.ad.sc h.fv hj.ms.ad hj.ms.ok (dL _ _) hj.fg
 obtain⟨hm2,hf2⟩:=hm.joined hW hown hgr hat hg.nd hg.no hg.nc
 rw[Vp]at hm2
 have mz:=af hm.st.blk
 have xC:gu P (w7.setCell ⟨mb,3,none⟩ (.slice (some ⟨g',0,none⟩) ((G++Gn).length+1) cap')) mb 1 ((cs.setIfInBounds 1 (.slice no2 ((D++E)++E2).length nc2)).setIfInBounds 3 (.slice (some ⟨g',0,none⟩) ((G++Gn)++[g]).length cap')) 91 cb ((D++E)++E2) ((V++F)++F2) no2 nc2 vo2 vc2 fr T2:=hj.ms.I8 hm2.st fun k ys S hk hS=>hf2.block k (af hk) (by
  rintro(e | e)
  ·rw[e,hm.st.blk]at hk
   simp only[Option.some.injEq,Obj.cells.injEq]at hk
   rcases hS with q | q<;>(rw[q]at hk;exact absurd hk.2.1 (by decide))
  ·refine aN hm.pool hk ?_ e
   rcases hS with q | q<;>(rw[q];decide))
 obtain⟨M,hM⟩:=hN
 refine⟨by rw[←List.append_assoc,←List.append_assoc,←List.append_assoc];exact xC,by rw[←List.append_assoc,←List.append_assoc];exact hm2,fun q hq k hk=> ?_,fun m hm'=> ?_,h.nd.app (by have:=hj.nd;rwa [List.length_append]at this),h.nv.app (by have:=hj.nv;rwa [List.length_append]at this),?_,?_,?_,?_⟩
 ·rw[←List.append_assoc]at hq
  rcases List.mem_append.1 hq with r | r
  ·intro hv
   rcases hj.fg.row k (Or.inr (Or.inr (Or.inr hv)))with(e | e | e | e) | e
   ·obtain⟨cur,hc⟩:=aH (h.mc.nds q r) hk
    rw[e,h.mc.st.blk]at hc
    simp only[Option.some.injEq,Obj.cells.injEq]at hc
    exact absurd hc.2.1 (by decide)
   ·obtain⟨cur,hc⟩:=aH (h.mc.nds q r) hk
    exact aN h.mc.st.own hc (by decide) e
   ·obtain⟨cur,hc⟩:=aH (h.mc.nds q r) hk
    exact pS h.ms.ad.sc hc (by decide) e
   ·exact h.fv q r k hk e
   ·obtain⟨cur,hc⟩:=aH (h.mc.nds q r) hk
    have:=af hc
    omega
  ·rw[List.mem_singleton.1 r,hg.no]at hk
   obtain⟨_,e,_⟩:=hk
   cases e
 ·rw[hj.old m (by rw[List.length_append];omega),h.old m hm']
 ·rw[←List.append_assoc,hj.ln]
  unfold Za.ay
  rw[List.foldl_append]
  rfl
 ·rw[←List.append_assoc,←List.append_assoc]
  refine bK.snoc hg (bK.QC (fun a b ha hab=> ?_) h.gl)
  obtain⟨ns',hs⟩:=Za.fk items ns a ha
  exact mq.more (hok a ha) hab hs hM h.ln h.ms.lt hj.old (dL _ _)
 ·have:=h.el
  rw[List.length_append,List.length_append]
  simp only[List.length_cons,List.length_nil]
  omega
 ·have q:=(hj.fg.wide (rowOf po1)).trans (aj.less (X:=um mb no2 cb vo2 (some ⟨g',0,none⟩)) (R':=fun k=>bU mb no2 cb vo2 k∨rowOf (some ⟨g',0,none⟩) k) (aj.Td hf2) fun k q=>q)
  exact h.fg.trans q
end Go.Proofs.YthfjnfcekeknlaaGreatDoor
