import Derived.Test.YthfjnfcekeknlaaGreatDoorSt31
import Derived.Deep.LoopGhost
set_option maxHeartbeats 8000000
set_option maxRecDepth 100000
namespace Go.Proofs.YthfjnfcekeknlaaGreatDoor
open Go.RowKit
def pn (w:World) (so:Option Addr) (script:List (Int×Int)):Prop:=script≠[]→∃g off,so=some ⟨g,off,none⟩∧g<w.heap.size∧∀(i:Nat) (h:i<script.length),w.cell? ⟨g,off+i*2,none⟩=some (.int .i64 script[i].1)∧w.cell? ⟨g,off+i*2+1,none⟩=some (.int .i64 script[i].2)
structure CH (N:List (List UInt8)) (items:List Za.aC) (F:List Nat) (S:bX):Prop where
 fr:S.fr=id
 nd:dB 0 S.D
 nv:fA 0 S.D F
 ln:F.length=(Za.ay [] items).length
 lt:∀v∈F,v<S.D.length
 sto:Za.dw (aV S.D) S.fr S.T
 ok:bR S.D S.fr
 gl:bK (mq S.T S.D.length (cH S.T F N)) items S.G
def tG (cls:List Za.aG) (F:List Nat) (script:List (Int×Int)) (S0:bX) (b:Nat) (e:Ending) (w':World):Prop:=
 ∃(j:Nat) (S:bX) (L:List Int) (lo:Option Addr) (lc:Nat),yt cls F script S0 j S L∧
  ((((j=script.length∨b9 S.fr S.G S.G.length=[])∧∃(xo:Option Addr) (xc:Nat) (go:Option Addr) (gc:Nat) (yo:Option Addr) (yc:Nat),e= .returned (.agg #[.int .i64 (gj S.fr S.G),.slice lo L.length lc,.slice xo F.length xc,.slice go S.G.length gc,.slice yo S.G.length yc])∧w'.ownsRow b 3 1 (.slice lo L.length lc) L.length (L.map fO)∧w'.ownsRow b 9 1 (.slice xo F.length xc) F.length ((dX S.T F).1.map gW)∧w'.ownsRow b 9 1 (.slice go S.G.length gc) S.G.length ((jW S.T (dX S.T F).2 S.G).1.map gW)∧w'.ownsRow b 4 1 (.slice yo S.G.length yc) S.G.length (S.G.map fun g=> .bool (!fT S.fr g))∧(∀k,rowOf xo k→¬rowOf go k)))∨
   (∃(pg pc:Int) (i:Nat) (en z:Int),script[j]?=some (pg,pc)∧(b9 S.fr S.G S.G.length)[dh pg (b9 S.fr S.G S.G.length).length]?=some i∧((Jd cls S i pc en∧(en=4∨en=5)∧z= -2)∨(en=6∧∃S',Cl cls S S' i pc z∧mK F S'=true))∧e= .returned (.agg #[.int .i64 en,.slice lo (L++[z]).length lc,.slice none 0 0,.slice none 0 0,.slice none 0 0])∧w'.ownsRow b 3 1 (.slice lo (L++[z]).length lc) (L++[z]).length ((L++[z]).map fO)))
structure QS (w:World) (cls:List Za.aG) (clo:Option Addr) (clc:Nat) (F:List Nat) (vo:Option Addr) (vc:Nat) (script:List (Int×Int)) (S0:bX) (j:Nat) (S:bX) (L:List Int) (lo:Option Addr) (lc:Nat) (nO:Option Addr) (nC:Nat) (po:Option Addr) (pc:Nat) (wr:World):Prop where
 ru:yt cls F script S0 j S L
 ma:dM wr (w.heap.size+1) cls clo clc F vo vc L lo lc S nO nC po pc
 sm:RM F S
 gl:S.G.length≤100
 ll:L.length=j
 dl:S.D.length≤200000+j*1100000
 be:Below w.heap.size w wr
 rw_:∀k,(rowOf nO k∨rowOf po k∨rowOf lo k)→w.heap.size≤k
 zb:wr.heap[w.heap.size]?=some (.cells #[.int .i64 0,.slice none 0 0,.slice none 0 0,.slice none 0 0,.slice none 0 0] 32 (0,0))
def UL (w:World) (cls:List Za.aG) (clo:Option Addr) (clc:Nat) (F:List Nat) (vo:Option Addr) (vc:Nat) (script:List (Int×Int)) (S0:bX) (k:Nat) (iv:Value) (wr:World):Prop:=
 ∃(j:Nat) (S:bX) (L:List Int) (lo:Option Addr) (lc:Nat) (nO:Option Addr) (nC:Nat) (po:Option Addr) (pc:Nat),k+j=script.length∧iv= .int .i64 (j:Int)∧QS w cls clo clc F vo vc script S0 j S L lo lc nO nC po pc wr
theorem QS.below {w:World} {cls:List Za.aG} {clo:Option Addr} {clc:Nat} {F:List Nat} {vo:Option Addr} {vc:Nat} {script:List (Int×Int)} {S0:bX} {j:Nat} {S:bX} {L:List Int} {lo:Option Addr} {lc:Nat} {nO:Option Addr} {nC:Nat} {po:Option Addr} {pc:Nat} {wr w':World} (h:QS w cls clo clc F vo vc script S0 j S L lo lc nO nC po pc wr) (hb:Below wr.heap.size wr w'):QS w cls clo clc F vo vc script S0 j S L lo lc nO nC po pc w':=
 ⟨h.ru,h.ma.below hb,h.sm,h.gl,h.ll,h.dl,h.be.trans (hb.mono h.be.size),h.rw_,(hb.block _ (af h.zb)).trans h.zb⟩
theorem sto_empty:Za.dw (aV []) id (fun n=> .v ([],n)):=by
 have hg:∀n,Za.gl (aV []) n=none:=fun n=>rfl
 have ha:∀n,Za.ga (aV []) n=[]:=fun n=>rfl
 exact⟨⟨fun _=>rfl,fun n hn=>absurd (hg n) hn⟩,⟨fun n hn=>absurd (hg n) hn,fun n hn=>absurd (hg n) hn⟩,fun n=> .var (hg n) (ha n),fun n _=>ha n,fun n _=>Nat.le_refl _⟩
theorem okD_empty:bR [] id:=⟨fun _ hn=>absurd hn (Nat.not_lt_zero _),fun _ hn=>absurd hn (Nat.not_lt_zero _),fun _ _=>rfl⟩
structure UM (w:World) (cls:List Za.aG) (clo:Option Addr) (items:List Za.aC) (N:List (List UInt8)) (o:Option Addr) (n:Nat) (script:List (Int×Int)) (so:Option Addr):Prop where
 cl:cP w clo cls.length cls
 ok:∀c∈cls,Za.jx c∧∀x∈c.goals,Za.iN x
 cc:cls.length≤12
 it:bW N w o n items
 gl:∀x∈items,Za.iN x
 il:items.length≤6
 nm:∃M,N=Za.ay [] items++M
 nl:N.length≤100
 sz:∀x∈items,∀η:List UInt8→Za.U,(∀y∈Za.ay [] items,Za.size (η y)=1)→Za.size (Za.bA η 8 x.left)≤300∧(∀r,x.right=some r→Za.size (Za.bA η 8 r)≤300)∧(∀z,x.last=some z→Za.size (Za.bA η 8 z)≤300)
 sc:pn w so script
 sl:script.length≤100
 sr:∀p∈script,(-9223372036854775808≤p.1∧p.1≤9223372036854775807)∧(-9223372036854775808≤p.2∧p.2≤9223372036854775807)
 pw:Pow w
theorem OI (fr:Nat→Nat) (G:List Gl):gj fr G=1∨gj fr G=2∨gj fr G=3:=by
 unfold gj
 split
 ·exact Or.inl rfl
 ·split
  ·exact Or.inr (Or.inl rfl)
  ·exact Or.inr (Or.inr rfl)
theorem QS.res {w:World} {cls:List Za.aG} {clo:Option Addr} {clc:Nat} {F:List Nat} {vo:Option Addr} {vc:Nat} {script:List (Int×Int)} {S0:bX} {j:Nat} {S:bX} {L:List Int} {lo:Option Addr} {lc:Nat} {nO:Option Addr} {nC:Nat} {po:Option Addr} {pc:Nat} {wr:World} (h:QS w cls clo clc F vo vc script S0 j S L lo lc nO nC po pc wr) (hpw:Pow w) (hF:F.length≤100) (hj:j=script.length∨b9 S.fr S.G S.G.length=[]):
 Calls Tryz.prog 47 #[.pointer (some ⟨w.heap.size+1,0,none⟩)] (wr.setCell ⟨w.heap.size+1,5,none⟩ (.int .i64 (gj S.fr S.G))) fun e w'=>∃(xo:Option Addr) (xc:Nat) (go:Option Addr) (gc:Nat) (yo:Option Addr) (yc:Nat),e= .returned (.agg #[.int .i64 (gj S.fr S.G),.slice lo L.length lc,.slice xo F.length xc,.slice go S.G.length gc,.slice yo S.G.length yc])∧tG cls F script S0 w.heap.size e w'∧Below w.heap.size w w'∧w'.heap[w.heap.size]?=some (.cells #[.int .i64 0,.slice none 0 0,.slice none 0 0,.slice none 0 0,.slice none 0 0] 32 (0,0))∧∀vs:List Value,vs.length=5→tG cls F script S0 w.heap.size e (((((w'.setCell ⟨w.heap.size,0,none⟩ (vs[0]?.getD (.int .i64 0))).setCell ⟨w.heap.size,1,none⟩ (vs[1]?.getD (.int .i64 0))).setCell ⟨w.heap.size,2,none⟩ (vs[2]?.getD (.int .i64 0))).setCell ⟨w.heap.size,3,none⟩ (vs[3]?.getD (.int .i64 0))).setCell ⟨w.heap.size,4,none⟩ (vs[4]?.getD (.int .i64 0))):=by
 have hm:=h.ma
 have aM:=h.be.setCell (p:=⟨w.heap.size+1,5,none⟩) (Nat.le_succ _) (.int .i64 (gj S.fr S.G))
 have kT:∀{k:Nat} {ys:Array Value} {Y:TypeId},wr.heap[k]?=some (.cells ys Y (0,0))→Y≠91→(wr.setCell ⟨w.heap.size+1,5,none⟩ (.int .i64 (gj S.fr S.G))).heap[k]?=wr.heap[k]?:=fun {k ys Y} hk h1=>aF _ _ _ _ (fun e=>by
  rw[e,hm.mc.st.blk]at hk
  simp only[Option.some.injEq,Obj.cells.injEq]at hk
  exact h1 hk.2.1.symm)
 have kR:∀{b n cap sz:Nat} {Y:TypeId} {o:Option Addr} {zs:List Value},wr.ownsRow b Y sz (.slice o n cap) n zs→Y≠91→(wr.setCell ⟨w.heap.size+1,5,none⟩ (.int .i64 (gj S.fr S.G))).ownsRow b Y sz (.slice o n cap) n zs:=fun {b n cap sz Y o zs} ho h1=>ah ho fun k q=>by
  obtain⟨cur,hc⟩:=aH ho (aD q)
  exact kT hc h1
 have fw:cG (wr.setCell ⟨w.heap.size+1,5,none⟩ (.int .i64 (gj S.fr S.G))) (w.heap.size+1) (pX clo cls.length clc nO S.D.length nC vo F.length vc po S.G.length pc lo L.length lc (gj S.fr S.G)) S.D nO nC S.fr S.G po pc:=⟨⟨au hm.mc.st.blk 5 (.int .i64 (gj S.fr S.G)),rfl,kR hm.mc.st.own (by decide),hm.mc.st.ty⟩,hm.mc.ok,rfl,kR hm.mc.pool (by decide),fun g hg=>kR (hm.mc.nds g hg) (by decide),hm.mc.nlt,hm.mc.nl⟩
 have iX:=kR hm.lg (by decide)
 have hzb:=(kT h.zb (by decide)).trans h.zb
 refine(Jk _ _ cls clo clc F vo vc L lo lc S nO nC po pc (gj S.fr S.G) fw hm.to (fun _=>True) (hm.ar.keep fun g _ _ hg=>⟨(kT hg (by decide)).trans hg,trivial⟩) (kR hm.vr (by decide)) hm.vl hm.vb hm.tb hm.gw (hpw.below aM) (OI _ _) hF h.gl (fun v hv=>by have:=h.sm.1 v hv;omega) (fun g hg x hx hne=>by have:=h.sm.2 g hg x hx hne;omega)).mono ?_
 rintro e w' ⟨xo,xc,go,gc,yo,yc,rfl,h1,h2,h3,h4,h5⟩
 have hsz:w.heap.size≤(wr.setCell ⟨w.heap.size+1,5,none⟩ (.int .i64 (gj S.fr S.G))).heap.size:=aM.size
 have Wb:w.heap.size<(wr.setCell ⟨w.heap.size+1,5,none⟩ (.int .i64 (gj S.fr S.G))).heap.size:=af hzb
 have yu:∀k,rowOf lo k→w.heap.size<k:=fun k q=>by
  have q1:=h.rw_ k (Or.inr (Or.inr q))
  have q2:k≠w.heap.size:=fun e=>aN hm.lg h.zb (by decide) (e ▸ q)
  omega
 have RN:w'.ownsRow w.heap.size 3 1 (.slice lo L.length lc) L.length (L.map fO):=by
  have q:=ah iX fun k q=>h5.block k (iX.lt k q).2
  refine⟨q.1,?_⟩
  rcases q.2 with r | ⟨g,cap,cur,r1,r2,r3⟩
  ·exact Or.inl r
  ·refine Or.inr ⟨g,cap,cur,r1,?_,r3⟩
   simp only[Value.slice.injEq]at r1
   exact Nat.le_of_lt (yu g ⟨_,r1.1,rfl⟩)
 refine⟨xo,xc,go,gc,yo,yc,rfl,?_,aM.trans (h5.mono hsz),(h5.block _ Wb).trans hzb,fun vs _=> ?_⟩
 ·exact⟨j,S,L,lo,lc,h.ru,Or.inl ⟨hj,xo,xc,go,gc,yo,yc,rfl,RN,bZ h1 hsz,bZ h2 hsz,bZ h3 hsz,h4⟩⟩
 ·have kk:∀k,k≠w.heap.size→(((((w'.setCell ⟨w.heap.size,0,none⟩ (vs[0]?.getD (.int .i64 0))).setCell ⟨w.heap.size,1,none⟩ (vs[1]?.getD (.int .i64 0))).setCell ⟨w.heap.size,2,none⟩ (vs[2]?.getD (.int .i64 0))).setCell ⟨w.heap.size,3,none⟩ (vs[3]?.getD (.int .i64 0))).setCell ⟨w.heap.size,4,none⟩ (vs[4]?.getD (.int .i64 0))).heap[k]?=w'.heap[k]?:=fun k q=>by
   rw[aF _ _ _ _ q,aF _ _ _ _ q,aF _ _ _ _ q,aF _ _ _ _ q,aF _ _ _ _ q]
  exact⟨j,S,L,lo,lc,h.ru,Or.inl ⟨hj,xo,xc,go,gc,yo,yc,rfl,ah RN fun k q=>kk k (by have:=yu k (aD q);omega),ah (bZ h1 hsz) fun k q=>kk k (by have:=(h1.lt k q).1;omega),ah (bZ h2 hsz) fun k q=>kk k (by have:=(h2.lt k q).1;omega),ah (bZ h3 hsz) fun k q=>kk k (by have:=(h3.lt k q).1;omega),h4⟩⟩
theorem kD.res {w:World} {LL:List Int} {lo:Option Addr} {lc:Nat} {en:Int} {wr:World} (h:kD wr (w.heap.size+1) LL lo lc en) (hen:en=4∨en=5∨en=6) (aM:Below w.heap.size w wr) (hzb:wr.heap[w.heap.size]?=some (.cells #[.int .i64 0,.slice none 0 0,.slice none 0 0,.slice none 0 0,.slice none 0 0] 32 (0,0))) (hlo:∀k,rowOf lo k→w.heap.size≤k):
 Calls Tryz.prog 47 #[.pointer (some ⟨w.heap.size+1,0,none⟩)] wr fun e w'=>e= .returned (.agg #[.int .i64 en,.slice lo LL.length lc,.slice none 0 0,.slice none 0 0,.slice none 0 0])∧Below w.heap.size w w'∧w'.heap[w.heap.size]?=some (.cells #[.int .i64 0,.slice none 0 0,.slice none 0 0,.slice none 0 0,.slice none 0 0] 32 (0,0))∧w'.ownsRow (w.heap.size+1) 3 1 (.slice lo LL.length lc) LL.length (LL.map fO):=by
 refine(FZ wr _ LL lo lc en h hen).mono ?_
 rintro e w' ⟨rfl,hb⟩
 obtain⟨cs,_,_,_,_,ho⟩:=h
 refine⟨rfl,aM.trans (hb.mono aM.size),(hb.block _ (af hzb)).trans hzb,?_⟩
 have q:=ah ho fun k q=>hb.block k (ho.lt k q).2
 refine⟨q.1,?_⟩
 rcases q.2 with r | ⟨g,cap,cur,r1,r2,r3⟩
 ·exact Or.inl r
 ·refine Or.inr ⟨g,cap,cur,r1,?_,r3⟩
  simp only[Value.slice.injEq]at r1
  have h1:=hlo g ⟨_,r1.1,rfl⟩
  have h2:g≠w.heap.size:=fun e=>aN ho hzb (by decide) ⟨_,r1.1,e.symm⟩
  omega
theorem FW.from {mb:Nat} {cls:List Za.aG} {clo:Option Addr} {clc:Nat} {V:List Nat} {vo:Option Addr} {vc:Nat} {L:List Int} {lo:Option Addr} {S:bX} {nO po:Option Addr} {i:Nat} {p:Int} {w w1 w':World} (hb:Below w.heap.size w w1) (h:FW mb cls clo clc V vo vc L lo S nO po i p w1 w'):FW mb cls clo clc V vo vc L lo S nO po i p w w':=by
 obtain⟨lo',lc',⟨z,S',nO',nC',po',pc',h1,h2,h3,h4,h5⟩ | ⟨z,S',h1,h2,h3,h4⟩ | ⟨en,h1,h2,h3,h4⟩⟩:=h
 ·exact⟨lo',lc',Or.inl ⟨z,S',nO',nC',po',pc',h1,h2,h3,h4,(aj.of_below hb).trans h5⟩⟩
 ·exact⟨lo',lc',Or.inr (Or.inl ⟨z,S',h1,h2,h3,(aj.of_below hb).trans h4⟩)⟩
 ·exact⟨lo',lc',Or.inr (Or.inr ⟨en,h1,h2,h3,(aj.of_below hb).trans h4⟩)⟩
theorem OJ (fr:Nat→Nat) (G:List Gl) (j:Nat):∀i∈b9 fr G j,i<G.length:=fun i hi=>by
 have:=(List.mem_filter.1 hi).2
 cases q:G[i]? with
 | none=>rw[q]at this;cases this
 | some g=>exact(List.getElem?_eq_some_iff.1 q).1
section
variable {w:World} {cls:List Za.aG} {clo:Option Addr} {clc:Nat} {F:List Nat} {vo:Option Addr} {vc:Nat} {script:List (Int×Int)} {S0:bX} {j:Nat} {S:bX} {L:List Int} {lo:Option Addr} {lc:Nat} {nO:Option Addr} {nC:Nat} {po:Option Addr} {pc:Nat} {wr:World}
theorem QS.frame (h:QS w cls clo clc F vo vc script S0 j S L lo lc nO nC po pc wr) {w':World} {R':Nat→Prop} (hf:aj (fun k=>k=w.heap.size+1∨rowOf nO k∨rowOf po k∨rowOf lo k) R' wr w'):Below w.heap.size w w'∧(∀k,R' k→w.heap.size≤k)∧w'.heap[w.heap.size]?=some (.cells #[.int .i64 0,.slice none 0 0,.slice none 0 0,.slice none 0 0,.slice none 0 0] 32 (0,0)):=by
 have hr:∀k,(k=w.heap.size+1∨rowOf nO k∨rowOf po k∨rowOf lo k)→w.heap.size≤k:=fun k q=>by
  rcases q with e | e
  ·omega
  ·exact h.rw_ k e
 refine⟨h.be.trans (hf.down h.be.size hr),fun k q=> ?_,?_⟩
 ·rcases hf.row k q with e | e
  ·exact hr k e
  ·exact Nat.le_trans h.be.size e
 ·refine(hf.block _ (af h.zb) ?_).trans h.zb
  rintro(e | e | e | e)
  ·omega
  ·exact aN h.ma.mc.st.own h.zb (by decide) e
  ·exact aN h.ma.mc.pool h.zb (by decide) e
  ·exact aN h.ma.lg h.zb (by decide) e
theorem QS.next (h:QS w cls clo clc F vo vc script S0 j S L lo lc nO nC po pc wr) {pg pk z:Int} {i:Nat} (hs:script[j]?=some (pg,pk)) (hi:(b9 S.fr S.G S.G.length)[dh pg (b9 S.fr S.G S.G.length).length]?=some i) {S':bX} (hg:Cl cls S S' i pk z) (hl:mK F S'=false) {w':World} {lo':Option Addr} {lc':Nat} {nO':Option Addr} {nC':Nat} {po':Option Addr} {pc':Nat} (hm:dM w' (w.heap.size+1) cls clo clc F vo vc (L++[z]) lo' lc' S' nO' nC' po' pc') (hd:S'.D.length≤S.D.length+1100000) (hf:aj (fun k=>k=w.heap.size+1∨rowOf nO k∨rowOf po k∨rowOf lo k) (fun k=>k=w.heap.size+1∨rowOf nO' k∨rowOf po' k∨rowOf lo' k) wr w'):QS w cls clo clc F vo vc script S0 (j+1) S' (L++[z]) lo' lc' nO' nC' po' pc' w':=by
 obtain⟨hb,hr,hz⟩:=h.frame hf
 obtain⟨hsm,hgl⟩:=F6 hm hl
 exact⟨.step h.ru hs hi hg hl,hm,hsm,by omega,by rw[List.length_append,h.ll];rfl,by have:=h.dl;omega,hb,fun k q=>hr k (Or.inr q),hz⟩
end
theorem Jn (w:World) (cls:List Za.aG) (clo:Option Addr) (clc:Nat) (items:List Za.aC) (N:List (List UInt8)) (o:Option Addr) (n c:Nat) (script:List (Int×Int)) (so:Option Addr) (sc:Nat) (h:UM w cls clo items N o n script so):
 Calls Tryz.prog 28 #[.slice clo cls.length clc,.slice o n c,.slice so script.length sc] w fun e w'=>∃(F:List Nat) (S0:bX),CH N items F S0∧tG cls F script S0 w.heap.size e w'∧Below w.heap.size w w':=by
 have hb1:=((Below.refl w.heap.size w).alloc (Nat.le_refl _) (.cells #[.int .i64 0,.slice none 0 0,.slice none 0 0,.slice none 0 0,.slice none 0 0] 32)).alloc (by simp) (.cells #[.slice clo cls.length clc,.slice none 0 0,.slice none 0 0,.slice none 0 0,.slice none 0 0,.int .i64 0] 91)
 have hb2:=hb1.alloc hb1.size (.cells #[.slice none 0 0] 93)
 have hmb:=aw (heap_alloc_new (w.alloc (.cells #[.int .i64 0,.slice none 0 0,.slice none 0 0,.slice none 0 0,.slice none 0 0] 32)) (.cells #[.slice clo cls.length clc,.slice none 0 0,.slice none 0 0,.slice none 0 0,.slice none 0 0,.int .i64 0] 91)) (.cells #[.slice none 0 0] 93)
 rw[World.size_alloc]at hmb
 have hzb:=aw (aw (heap_alloc_new w (.cells #[.int .i64 0,.slice none 0 0,.slice none 0 0,.slice none 0 0,.slice none 0 0] 32)) (.cells #[.slice clo cls.length clc,.slice none 0 0,.slice none 0 0,.slice none 0 0,.slice none 0 0,.int .i64 0] 91)) (.cells #[.slice none 0 0] 93)
 have hcb:=heap_alloc_new ((w.alloc (.cells #[.int .i64 0,.slice none 0 0,.slice none 0 0,.slice none 0 0,.slice none 0 0] 32)).alloc (.cells #[.slice clo cls.length clc,.slice none 0 0,.slice none 0 0,.slice none 0 0,.slice none 0 0,.int .i64 0] 91)) (.cells #[.slice none 0 0] 93)
 simp only[World.size_alloc]at hcb
 have Ym:(((w.alloc (.cells #[.int .i64 0,.slice none 0 0,.slice none 0 0,.slice none 0 0,.slice none 0 0] 32)).alloc (.cells #[.slice clo cls.length clc,.slice none 0 0,.slice none 0 0,.slice none 0 0,.slice none 0 0,.int .i64 0] 91)).alloc (.cells #[.slice none 0 0] 93)).heap.size=w.heap.size+3:=by simp
 generalize hW:(((w.alloc (.cells #[.int .i64 0,.slice none 0 0,.slice none 0 0,.slice none 0 0,.slice none 0 0] 32)).alloc (.cells #[.slice clo cls.length clc,.slice none 0 0,.slice none 0 0,.slice none 0 0,.slice none 0 0,.int .i64 0] 91)).alloc (.cells #[.slice none 0 0] 93))=W2 at*
 have hst:bt W2 (w.heap.size+1) 1 (pX clo cls.length clc none 0 0 none 0 0 none 0 0 none 0 0 0) 91 [] none 0:=⟨hmb,rfl,World.ownsRow_nil _ _ _ _,by decide⟩
 have xC:gu (fun _=>True) W2 (w.heap.size+1) 1 (pX clo cls.length clc none 0 0 none 0 0 none 0 0 none 0 0 0) 91 (w.heap.size+1+1) [] [] none 0 none 0 id (fun n=> .v ([],n)):=⟨⟨hst,⟨hcb,World.ownsRow_nil _ _ _ _⟩,by decide,by decide,(fun d hd=>by cases hd)⟩,okD_empty,sto_empty,(fun v hv=>by cases hv)⟩
 have fw:cG W2 (w.heap.size+1) (pX clo cls.length clc none 0 0 none 0 0 none 0 0 none 0 0 0) [] none 0 id [] none 0:=⟨hst,okD_empty,rfl,World.ownsRow_nil _ _ _ _,(fun g hg=>by cases hg),(fun g hg=>by cases hg),(fun g hg=>by cases hg)⟩
 have IJ:=hide (Cc W2 (w.heap.size+1) _ (w.heap.size+1+1) [] [] none 0 none 0 id _ (fun _=>True) [] none 0 N [] items o n c xC fw (fun g hg=>by cases hg) (fun _ _=>trivial) (h.it.keep (aQ.below hb2)) (fun x hx=>(h.gl x hx).ok) rfl h.nm (by have:=h.nl;omega) (by have:=h.il;omega) (by simp) (by simp))
 have HQ:=hide h
 have aX:=hide hb2
 have Nk:=hide hzb
 have YA:=hide xC
 have YB:=hide fw
 have hsl:=h.sl
 clear h hb1 hb2 hmb hzb hcb hst xC fw
 go_enter Tryz.func28,Tryz.ntmps28
 go_wp2_with fail
 refine(ae IJ).mono ?_
 rintro e w3 ⟨rfl,E,F,no',nc',vo',vc',T',Gn,po',pc',hjo⟩
 have hrows:∀k,um (w.heap.size+1) no' (w.heap.size+1+1) vo' po' k→w.heap.size≤k:=fun k q=>by
  rcases hjo.fg.row k q with((e | ⟨_,e,_⟩ | e | ⟨_,e,_⟩) | ⟨_,e,_⟩) | e
  ·omega
  ·cases e
  ·omega
  ·cases e
  ·cases e
  ·omega
 have F7:Below w.heap.size w w3:=(ae aX).trans (hjo.fg.down (by omega) fun k q=>by
  rcases q with(e | ⟨_,e,_⟩ | e | ⟨_,e,_⟩) | ⟨_,e,_⟩
  ·omega
  ·cases e
  ·omega
  ·cases e
  ·cases e)
 have hz3:w3.heap[w.heap.size]?=some (.cells #[.int .i64 0,.slice none 0 0,.slice none 0 0,.slice none 0 0,.slice none 0 0] 32 (0,0)):=(hjo.fg.block _ (af (ae Nk)) (fun q=>by
  rcases q with(e | ⟨_,e,_⟩ | e | ⟨_,e,_⟩) | ⟨_,e,_⟩
  ·omega
  ·cases e
  ·omega
  ·cases e
  ·cases e)).trans (ae Nk)
 have RQ:cP w3 clo cls.length cls:=(dR.below F7).cls (ae HQ).cl
 have UN:=dM.start hjo RQ (ae HQ).gl
 have vW:=hjo.ms
 have vX:=hjo.mc
 have hnd:=hjo.nd
 have gD:=hjo.nv
 have lT:=hjo.ln
 have hgl:=hjo.gl
 have hel:=hjo.el
 simp only[List.nil_append,List.length_nil]at vW vX hnd gD lT hgl
 have s0:=ag vW.ad.sc.blk 0
 have sz0:=af vW.ad.sc.blk
 have m2:w3.cell? ⟨w.heap.size+1,2,none⟩=some (.slice none 0 0):=ag vX.st.blk 2
 have mx2:=aq vX.st.blk 2
 have mz3:=af vX.st.blk
 simp only[List.getElem?_toArray,List.getElem?_cons_zero]at s0
 have hvar:∀f∈F,T' f= .v ([],f):=fun f hf=>by
  have:=o6 (D:=[]) (E:=E) (F:=F) (fr:=id) (T':=T') (by simpa using vX.ok) (by simpa using vW.to) (by simpa using hnd) (by simpa using gD) f hf
  exact this.2.2
 have hPS:CH N items F ⟨E,id,T',Gn⟩:=⟨rfl,hnd,gD,lT,vW.lt,vW.to,vX.ok,hgl⟩
 have hsm:RM F ⟨E,id,T',Gn⟩:=by
  refine⟨fun v hv=> ?_,fun g hg x hx hne=> ?_⟩
  ·show Za.size (T' v)≤300
   rw[hvar v hv]
   simp[Za.size]
  ·change g∈Gn at hg
   show Za.size (T' x.toNat)≤300
   obtain⟨j,hj,rfl⟩:=List.getElem_of_mem hg
   have PI:j<items.length:=by have:=hgl.length;omega
   have hg1:=hgl.at j PI hj
   have Ee:items[j]∈items:=List.getElem_mem PI
   obtain⟨M,hM⟩:=(ae HQ).nm
   have hs:=(ae HQ).sz _ Ee (cH T' F N) (fun y hy=>by
    obtain⟨m,hm,he⟩:=Ip (T:=T') hy hM lT
    rw[he,hvar m hm]
    simp[Za.size])
   have hgo:=(ae HQ).gl _ Ee
   rcases hx with rfl | rfl | rfl
   ·have e0:((Gn[j].l:Int)).toNat=Gn[j].l:=by simp
    rw[e0,hg1.tl]
    exact hs.1
   ·by_cases q:items[j].sign=[]
    ·exact absurd (hg1.r0 q) hne
    ·obtain⟨r,hr,_⟩:=hgo.ok.r1 q
     obtain⟨m,k1,k2,k3⟩:=hg1.r1 r hr
     rw[k1]
     have e0:((m:Int)).toNat=m:=by simp
     rw[e0,k3]
     exact hs.2.1 r hr
   ·by_cases q:items[j].op=[]
    ·exact absurd (hg1.z0 q) hne
    ·obtain⟨r,hr,_⟩:=hgo.ok.z1 q
     obtain⟨m,k1,k2,k3⟩:=hg1.z1 r hr
     rw[k1]
     have e0:((m:Int)).toNat=m:=by simp
     rw[e0,k3]
     exact hs.2.2 r hr
 have sY:Gn.length≤6:=by have:=hgl.length;have:=(ae HQ).il;omega
 have hFl:F.length≤100:=by
  obtain⟨M,hM⟩:=(ae HQ).nm
  have h1:=(ae HQ).nl
  rw[hM,List.length_append]at h1
  omega
 have HST:=hide (show UL w cls clo clc F vo' vc' script ⟨E,id,T',Gn⟩ script.length (.int .i64 0) (w3.setCell ⟨w.heap.size+1,2,none⟩ (.slice vo' F.length vc'))from by
  refine⟨0,⟨E,id,T',Gn⟩,[],none,0,no',nc',po',pc',by omega,rfl,⟨.start,UN,hsm,by show Gn.length≤100;omega,rfl,?_,F7.setCell (Nat.le_succ _) _,fun k q=> ?_,(aF _ _ _ _ (by simp)).trans hz3⟩⟩
  ·show E.length≤_
   have:=(ae HQ).il
   have:items.length*19683≤6*19683:=Nat.mul_le_mul_right _ this
   omega
  ·rcases q with q | q | ⟨_,q,_⟩
   ·exact hrows k (Or.inl (Or.inr (Or.inl q)))
   ·exact hrows k (Or.inr q)
   ·cases q)
 have y8:=hide hPS
 clear hjo hrows F7 hz3 RQ UN vW vX hnd gD lT hgl hel hvar hPS hsm sY IJ
 generalize (⟨E,id,T',Gn⟩:bX)=S0 at*
 go_wp2_with fail
 go_loopg [22] script.length (fun k iv wr=>UL w cls clo clc F vo' vc' script S0 k iv wr)
 case atStart=>exact ae HST
 case round=>
  clear HST s0 sz0 m2 mx2 mz3
  obtain⟨j,S,L,lo,lc,nO,nC,po,pc,hkj,rfl,tH⟩:=hrel
  by_cases hlt:j<script.length
  ·obtain⟨g,off,rL,gz0,hcell⟩:=(ae HQ).sc (fun q=>by rw[q]at hlt;simp at hlt)
   subst rL
   obtain⟨c0,c1⟩:=hcell j hlt
   have d0:=(tH.be.cell (p:=⟨g,off+j*2,none⟩) gz0).trans c0
   have d1:=(tH.be.cell (p:=⟨g,off+j*2+1,none⟩) gz0).trans c1
   have kA:=(ae HQ).sr _ (List.getElem_mem hlt)
   have hsj:script[j]?=some (script[j].1,script[j].2):=by rw[List.getElem?_eq_getElem hlt]
   have gz:g<wr.heap.size:=Nat.lt_of_lt_of_le gz0 tH.be.size
   have i0:(0:Int)≤(j:Int):=by omega
   have i1:(j:Int)<(script.length:Int):=by omega
   generalize script[j].1=pg at*
   generalize script[j].2=pk at*
   have Jm:=(Below.refl wr.heap.size wr).alloc (Nat.le_refl _) (.cells #[.int .i64 pg,.int .i64 pk] 62)
   have RR:=tH.below Jm
   have hpk:=heap_alloc_new wr (.cells #[.int .i64 pg,.int .i64 pk] 62)
   have hrl:=BU S.fr S.G S.G.length
   have hgl:=tH.gl
   have IR:=hide (zC _ _ _ S.D nO nC S.fr S.G po pc RR.ma.mc (by omega))
   have XN:=hide RR
   have UO:=hide hpk
   have aP:=hide hkj
   have aY:=hide hlt
   have RT:=hide hsj
   have zj:=hide kA
   have hjl:j≤100:=by omega
   clear tH hkj hlt hsj kA hcell c0 c1 Jm RR hpk
   go_wp2_with fail
   refine(ae IR).mono ?_
   rintro e w5 ⟨oo,oc,rfl,how,bu⟩
   have nB:=(ae XN).below bu
   have CI:=(bu.block _ (af (ae UO))).trans (ae UO)
   have k0:=ag CI 0
   have k1:=ag CI 1
   have kz:=af CI
   simp only[List.getElem?_toArray,List.getElem?_cons_zero,List.getElem?_cons_succ]at k0 k1
   by_cases pQ:b9 S.fr S.G S.G.length=[]
   ·have t0:(((b9 S.fr S.G S.G.length).length:Int) == 0)=true:=by rw[pQ];rfl
    have t1:((b9 S.fr S.G S.G.length).length == 0)=true:=by rw[pQ];rfl
    have IFN:=hide (zF w5 _ _ S.D nO nC S.fr S.G po pc nB.ma.mc (by omega) rfl)
    have CJ:=hide nB
    have jL:=hide pQ
    clear nB CI how bu IR pQ
    go_wp2_with fail
    refine(ae IFN).mono ?_
    rintro e w6 ⟨rfl,W,hbW,rfl⟩
    have IRS:=hide (((ae CJ).below hbW).res (ae HQ).pw hFl (Or.inr (ae jL)))
    clear hbW IFN
    go_wp2_with fail
    refine(ae IRS).mono ?_
    rintro e w7 ⟨xo,xc,go,gc,yo,yc,rfl,CK,kO,iE,hpv⟩
    have z0:=ag iE
    have zx:=aq iE
    have zz:=af iE
    have RU:=hide (hpv [.int .i64 (gj S.fr S.G),.slice lo L.length lc,.slice xo F.length xc,.slice go S.G.length gc,.slice yo S.G.length yc] rfl)
    have vY:=hide kO
    clear CK kO iE hpv IRS
    go_wp2_with fail
    refine bodyPost_ret (v:= .agg #[.int .i64 (gj S.fr S.G),.slice lo L.length lc,.slice xo F.length xc,.slice go S.G.length gc,.slice yo S.G.length yc]) (by simp[results,Tryz.results28,go_sem,z0]) rfl ?_
    exact⟨F,S0,ae y8,ae RU,(((((ae vY).setCell (Nat.le_refl _) _).setCell (Nat.le_refl _) _).setCell (Nat.le_refl _) _).setCell (Nat.le_refl _) _).setCell (Nat.le_refl _) _⟩
   ·have hpos:0<(b9 S.fr S.G S.G.length).length:=List.length_pos_iff.2 pQ
    have hbg:=tq pg (b9 S.fr S.G S.G.length).length hpos
    obtain⟨rg,hrg⟩:∃rg,oo=some ⟨rg,0,none⟩:=by
     rcases how.2 with⟨q,q2⟩ | ⟨g,cp,cur,q,_⟩
     ·omega
     ·simp only[Value.slice.injEq]at q
      exact⟨g,q.1⟩
    subst hrg
    have rz:=(how.lt rg rfl).2
    have YC:w5.cell? ⟨rg,dh pg (b9 S.fr S.G S.G.length).length,none⟩=some (.int .i64 ((b9 S.fr S.G S.G.length)[dh pg (b9 S.fr S.G S.G.length).length]:Int)):=by
     rw[how.cellAt _ (by omega),List.getElem?_map,List.getElem?_eq_getElem hbg]
     rfl
    have UQ:(b9 S.fr S.G S.G.length)[dh pg (b9 S.fr S.G S.G.length).length]?=some (b9 S.fr S.G S.G.length)[dh pg (b9 S.fr S.G S.G.length).length]:=List.getElem?_eq_getElem hbg
    have hil:=OJ S.fr S.G S.G.length _ (List.getElem_mem hbg)
    have kA:=ae zj
    have IC:=hide (fun W=>zJ W pg (b9 S.fr S.G S.G.length).length (by omega) kA.1.1 kA.1.2)
    generalize (b9 S.fr S.G S.G.length)[dh pg (b9 S.fr S.G S.G.length).length]=ii at*
    have RX:=hide UQ
    generalize UR:dh pg (b9 S.fr S.G S.G.length).length=bq at*
    have RY:=hide UR
    clear UR
    have t0:(((b9 S.fr S.G S.G.length).length:Int) == 0)=false:=by simp;omega
    have t1:((b9 S.fr S.G S.G.length).length == 0)=false:=by simp;omega
    have j0:(0:Int)≤(bq:Int):=by omega
    have j1:(bq:Int)<((b9 S.fr S.G S.G.length).length:Int):=by omega
    have IST:=hide (fun W (hu:Below w5.heap.size w5 W)=>(Lx W (w.heap.size+1) cls clo clc F vo' vc' L lo lc S nO nC po pc ii pk (nB.ma.below hu) (ae HQ).ok (ae HQ).cc hil (fun g hg=>by
     have:=nB.sm.2 g hg (g.l:Int) (Or.inl rfl) (by omega)
     simpa using this) kA.2.1 kA.2.2 (by have:=nB.dl;omega) (by omega) (by have:=nB.ll;omega) (by omega)).mono (fun e w' q=>And.intro q.1 (q.2.from hu)))
    have CJ:=hide nB
    clear nB CI how bu IR pQ UQ kA hil hbg hpos
    generalize zu:(b9 S.fr S.G S.G.length).length=rn at*
    have zL:=hide zu
    clear zu
    go_wp2_with fail
    refine(ae IC _).mono ?_
    rintro e w5 ⟨rfl,rfl⟩
    go_wp2_with fail
    go_region_with (go_at_call 45;refine(ae IST _ (by first | exact Below.refl _ _ | exact(Below.refl _ _).drew | exact(Below.refl _ _).drew.drew | exact(Below.refl _ _).drew.drew.drew)).mono ?_;rintro y w6 ⟨rfl,hst⟩)
    all_goals
     obtain⟨lo',lc',hst⟩:=hst
     rcases hst with⟨z,S',nO',nC',po9,pc9,hgo,iX,hm,zh,hf⟩ | ⟨z,S',hgo,iX,hm,hf⟩ | ⟨en,hgo,hen,hm,hf⟩
     ·have hnx:=(ae CJ).next (ae RT) (by rw[ae zL,ae RY];exact ae RX) hgo iX hm zh hf
      have f5:w6.cell? ⟨w.heap.size+1,5,none⟩=some (.int .i64 0):=ag hm.mc.st.blk 5
      have mz6:=af hm.mc.st.blk
      have jM:=hide hnx
      clear hnx hm hgo iX zh hf
      go_wp2_with fail
      go_roundg (gk - 1)
      case measure=>have:=ae aP;have:=ae aY;omega
      case rel=>exact⟨j+1,S',L++[z],lo',lc',nO',nC',po9,pc9,by have:=ae aP;have:=ae aY;omega,by go_num,ae jM⟩
     ·have nB:=ae CJ
      obtain⟨CL,xk,yU⟩:=nB.frame hf
      have CM:∀k,rowOf lo' k→w.heap.size≤k:=fun k q=>xk k (Or.inr q)
      clear xk
      have hm0:=hm
      obtain⟨cs6,gA,h66,h46,h56,RZ⟩:=hm
      have f5:=(ag gA 5).trans h56
      have mz6:=af gA
      have t5:(6 == 0)=false:=rfl
      have IFE:=hide (xB w6 _ cs6 _ 6 gA h56 (by decide))
      have IRE:=hide (hm0.res (Or.inr (Or.inr rfl)) CL yU CM)
      have R5:=hide nB.ru
      clear nB CL yU CM hm0 gA h66 h46 h56 RZ hf
      have zN:=hide hgo
      have Ei:=hide iX
      clear hgo iX
      go_wp2_with fail
      refine(ae IFE).mono ?_
      rintro e w6 ⟨rfl,rfl⟩
      go_wp2_with fail
      refine(ae IRE).mono ?_
      rintro e w7 ⟨rfl,kO,iE,xK⟩
      have z0:=ag iE
      have zx:=aq iE
      have zz:=af iE
      have vY:=hide kO
      have kK:=hide xK
      clear kO iE xK IRE IFE
      go_wp2_with fail
      refine bodyPost_ret (v:= .agg #[.int .i64 6,.slice lo' (L++[z]).length lc',.slice none 0 0,.slice none 0 0,.slice none 0 0]) (by simp[results,Tryz.results28,go_sem,z0]) rfl ?_
      refine⟨F,S0,ae y8,⟨j,S,L,lo',lc',ae R5,Or.inr ⟨pg,pk,ii,6,z,ae RT,by rw[ae zL,ae RY];exact ae RX,Or.inr ⟨rfl,S',ae zN,ae Ei⟩,rfl,?_⟩⟩,(((((ae vY).setCell (Nat.le_refl _) _).setCell (Nat.le_refl _) _).setCell (Nat.le_refl _) _).setCell (Nat.le_refl _) _).setCell (Nat.le_refl _) _⟩
      refine bZ (ah (ae kK) fun k q=> ?_) (Nat.le_succ _)
      have hne:k≠w.heap.size:=by have:=((ae kK).lt k q).1;omega
      rw[aF _ _ _ _ hne,aF _ _ _ _ hne,aF _ _ _ _ hne,aF _ _ _ _ hne,aF _ _ _ _ hne]
     ·have nB:=ae CJ
      obtain⟨CL,xk,yU⟩:=nB.frame hf
      have CM:∀k,rowOf lo' k→w.heap.size≤k:=fun k q=>xk k (Or.inr q)
      clear xk
      have hm0:=hm
      obtain⟨cs6,gA,h66,h46,h56,RZ⟩:=hm
      have f5:=(ag gA 5).trans h56
      have mz6:=af gA
      have t5:(en == 0)=false:=by rcases hen with q | q<;>(rw[q];rfl)
      have IFE:=hide (xB w6 _ cs6 _ en gA h56 (by rcases hen with q | q<;>(rw[q];decide)))
      have IRE:=hide (hm0.res (by rcases hen with q | q;exact Or.inl q;exact Or.inr (Or.inl q)) CL yU CM)
      have R5:=hide nB.ru
      clear nB CL yU CM hm0 gA h66 h46 h56 RZ hf
      have zN:=hide hgo
      have Re:=hide hen
      clear hgo hen
      go_wp2_with fail
      refine(ae IFE).mono ?_
      rintro e w6 ⟨rfl,rfl⟩
      go_wp2_with fail
      refine(ae IRE).mono ?_
      rintro e w7 ⟨rfl,kO,iE,xK⟩
      have z0:=ag iE
      have zx:=aq iE
      have zz:=af iE
      have vY:=hide kO
      have kK:=hide xK
      clear kO iE xK IRE IFE
      go_wp2_with fail
      refine bodyPost_ret (v:= .agg #[.int .i64 en,.slice lo' (L++[(-2)]).length lc',.slice none 0 0,.slice none 0 0,.slice none 0 0]) (by simp[results,Tryz.results28,go_sem,z0]) rfl ?_
      refine⟨F,S0,ae y8,⟨j,S,L,lo',lc',ae R5,Or.inr ⟨pg,pk,ii,en,(-2),ae RT,by rw[ae zL,ae RY];exact ae RX,Or.inl ⟨ae zN,ae Re,rfl⟩,rfl,?_⟩⟩,(((((ae vY).setCell (Nat.le_refl _) _).setCell (Nat.le_refl _) _).setCell (Nat.le_refl _) _).setCell (Nat.le_refl _) _).setCell (Nat.le_refl _) _⟩
      refine bZ (ah (ae kK) fun k q=> ?_) (Nat.le_succ _)
      have hne:k≠w.heap.size:=by have:=((ae kK).lt k q).1;omega
      rw[aF _ _ _ _ hne,aF _ _ _ _ hne,aF _ _ _ _ hne,aF _ _ _ _ hne,aF _ _ _ _ hne]
  ·obtain rfl:j=script.length:=by omega
   have hgl:=tH.gl
   have IFN:=hide (zF wr _ _ S.D nO nC S.fr S.G po pc tH.ma.mc (by omega) rfl)
   have CJ:=hide tH
   clear tH hkj hlt
   go_wp2_with fail
   refine(ae IFN).mono ?_
   rintro e w6 ⟨rfl,W,hbW,rfl⟩
   have IRS:=hide (((ae CJ).below hbW).res (ae HQ).pw hFl (Or.inl rfl))
   clear hbW IFN
   go_wp2_with fail
   refine(ae IRS).mono ?_
   rintro e w7 ⟨xo,xc,go,gc,yo,yc,rfl,CK,kO,iE,hpv⟩
   have z0:=ag iE
   have zx:=aq iE
   have zz:=af iE
   have RU:=hide (hpv [.int .i64 (gj S.fr S.G),.slice lo L.length lc,.slice xo F.length xc,.slice go S.G.length gc,.slice yo S.G.length yc] rfl)
   have vY:=hide kO
   clear CK kO iE hpv IRS
   go_wp2_with fail
   refine bodyPost_ret (v:= .agg #[.int .i64 (gj S.fr S.G),.slice lo L.length lc,.slice xo F.length xc,.slice go S.G.length gc,.slice yo S.G.length yc]) (by simp[results,Tryz.results28,go_sem,z0]) rfl ?_
   exact⟨F,S0,ae y8,ae RU,(((((ae vY).setCell (Nat.le_refl _) _).setCell (Nat.le_refl _) _).setCell (Nat.le_refl _) _).setCell (Nat.le_refl _) _).setCell (Nat.le_refl _) _⟩
end Go.Proofs.YthfjnfcekeknlaaGreatDoor
namespace Za
def query (l:List Tok):dH (List aC):=match items 5 false true l with
 | .inl e=> .inl e
 | .inr ((ys,_,_),l1)=>if(hd l1).kind=0 then .inr (ys,l1)else bad 2 l1
theorem OL {l:List Tok} {e:Nat×Nat} (h:items 5 false true l= .inl e):query l= .inl e:=by unfold query;rw[h]
theorem Eo {l l1:List Tok} {ys:List aC} {a b:Bool} (h:items 5 false true l= .inr ((ys,a,b),l1)) (hk:(hd l1).kind=0):query l= .inr (ys,l1):=by unfold query;rw[h];dsimp only;rw[if_pos hk]
theorem OM {l l1:List Tok} {ys:List aC} {a b:Bool} (h:items 5 false true l= .inr ((ys,a,b),l1)) (hk:(hd l1).kind≠0):query l=bad 2 l1:=by unfold query;rw[h];dsimp only;rw[if_neg hk]
end Za
namespace Go.Proofs.YthfjnfcekeknlaaGreatDoor
open Go.RowKit
def XO (r:Za.dH (List Za.aC)) (w:World) (e:Ending) (w':World):Prop:=∃(o:Option Addr) (n cap er:Nat),e= .returned (.agg #[.slice o n cap,.int .i64 (er:Int)])∧(match r with
 | .inl (er',_)=>er=er'
 | .inr (ys,_)=>er=0∧bW (Za.ay [] ys) w' o n ys)∧Below w.heap.size w w'
theorem OO (w:World) (s:ByteArray) (hs:96<s.size):
 Calls Tryz.prog 27 #[.string s] w fun e w'=>e= .returned (.agg #[.slice none 0 0,.int .i64 1])∧Below w.heap.size w w':=by
 have hsz:decide (96<(s.size:Int))=true:=by simp;omega
 go_enter Tryz.func27,Tryz.ntmps27
 go_wp2_with fail
 refine bodyPost_ret (v:= .agg #[.slice none 0 0,.int .i64 1]) (by simp[results,Tryz.results27,go_sem]) rfl ?_
 exact⟨rfl,(Below.refl _ _).alloc (Nat.le_refl _) _⟩
theorem Sa (w:World) (s:ByteArray) (L:List Za.Tok) (hs:s.size≤96) (hL:Za.dP s L) (hh:Za.hd L=Za.next s 0) (hl:L.length≤1000) (aU:dD w) (h0:0<w.heap.size):
 Calls Tryz.prog 27 #[.string s] w fun e w'=>XO (Za.query L) w e w':=by
 have hsz:decide (96<(s.size:Int))=false:=by simp;omega
 have jw:=hide aU
 clear aU
 go_enter Tryz.func27,Tryz.ntmps27
 go_wp2_with fail
 refine(vw s 0 _ (by unfold maxLen;omega) (Nat.zero_le _) ((ae jw).below ((Below.refl _ _).alloc (Nat.le_refl _) _) h0) (by simp)).mono ?_
 rintro e w1 ⟨rfl,hb1⟩
 have BM:=((ae jw).below ((Below.refl _ _).alloc (Nat.le_refl _) (.cells #[.slice none 0 0,.int .i64 0] 56)) h0).below hb1 (by simp)
 have hw1:w.heap.size<w1.heap.size:=by have:=hb1.size;simp at this;omega
 have HS:=hide (G0 BM (by omega) hL hh hl (by omega))
 have aT:=hide (aw ((hb1.block w.heap.size (by simp)).trans (heap_alloc_new w (.cells #[.slice none 0 0,.int .i64 0] 56))) (.cells #[.string s,.int .i64 ((Za.next s 0).kind:Int),.int .i64 ((Za.next s 0).pos:Int),.string (Za.next s 0).text,.slice none 0 0,.int .i64 0] 73))
 have df:=hide ((((Below.refl w.heap.size w).alloc (Nat.le_refl _) (.cells #[.slice none 0 0,.int .i64 0] 56)).trans (hb1.mono (by simp))).alloc (by omega) (.cells #[.string s,.int .i64 ((Za.next s 0).kind:Int),.int .i64 ((Za.next s 0).pos:Int),.string (Za.next s 0).text,.slice none 0 0,.int .i64 0] 73))
 clear hb1 BM jw hL hh hl
 generalize (Za.next s 0).kind=tk at*
 generalize (Za.next s 0).pos=tp at*
 generalize (Za.next s 0).text=tt at*
 have YD:(w1.alloc (.cells #[.string s,.int .i64 (tk:Int),.int .i64 (tp:Int),.string tt,.slice none 0 0,.int .i64 0] 73)).heap.size=w1.heap.size+1:=by simp
 have I:=hide (pP _ w1.heap.size s L [] (.slice none 0 0) 0 false true (ae HS))
 go_wp2_with fail
 refine(ae I).mono ?_
 generalize hW:w1.alloc (.cells #[.string s,.int .i64 (tk:Int),.int .i64 (tp:Int),.string tt,.slice none 0 0,.int .i64 0] 73)=W at*
 generalize mg:w1.heap.size=rb at*
 clear I hW mg
 generalize hr:Za.items 5 false true L=r
 have HR:=hide hr
 clear hr
 rcases r with⟨er,pos⟩ | ⟨⟨ys,tb,gb⟩,l1⟩
 ·rintro e w2 ⟨l',ns',nv',rfl,hs2,-,hk2⟩
  have hz2:=hk2.size
  have b0:=ai hk2 (ae aT) (by simp;omega)
  have y0:=ag b0
  have x0:=aq b0
  have z0:=af b0
  have c5:=hs2.rd.c5
  have zr:=hs2.lt
  have cX:=hide (show Below w.heap.size w w2 from (ae df).trans (hk2.below (by have:=(ae df).size;omega) (by omega) (by simp;omega)))
  have zw:w.heap.size≤w2.heap.size:=(ae cX).size
  clear hs2 hk2 b0
  go_wp2_with fail
  refine bodyPost_ret (v:= .agg #[.slice none 0 0,.int .i64 er]) (by simp[results,Tryz.results27,go_sem,y0,z0,World.cell?_alloc_past]) rfl ?_
  rw[Za.OL (ae HR)]
  exact⟨none,0,0,er,rfl,rfl,by first | exact(((ae cX).setCell (Nat.le_refl _) _).setCell (Nat.le_refl _) _).alloc (by simp only[cC];omega) _ | exact(((ae cX).alloc (by omega) _).setCell (Nat.le_refl _) _).setCell (Nat.le_refl _) _⟩
 ·rintro e w2 ⟨ao,n,cap,ns',nv',e',rfl,⟨hit,kj⟩,hs2,hk2⟩
  have hz2:=hk2.size
  have b0:=ai hk2 (ae aT) (by simp;omega)
  have zr:=hs2.lt
  have cX:=hide (show Below w.heap.size w w2 from (ae df).trans (hk2.below (by have:=(ae df).size;omega) (by omega) (by simp;omega)))
  have zw:w.heap.size≤w2.heap.size:=(ae cX).size
  have bV:=hide hs2
  have jU:=hide b0
  have HIT:=hide hit
  have gK:=hide kj
  have y0:=ag b0
  have x0:=aq b0
  have z0:=af b0
  clear hs2 hk2 b0 hit kj
  by_cases hk:(Za.hd l1).kind=0
  ·have HW:=hide (Za.Eo (ae HR) hk)
   go_wp2_with fail
   refine(Oa _ rb s l1 ns' _ e' ((ae bV).below ((Below.refl _ _).alloc (Nat.le_refl _) _)) hk).mono ?_
   rintro e w3 ⟨rfl,rfl⟩
   clear hk
   go_wp2_with fail
   refine bodyPost_ret (v:= .agg #[.slice ao n cap,.int .i64 0]) (by simp[results,Tryz.results27,go_sem,y0,z0,World.cell?_alloc_past]) rfl ?_
   rw[ae HW]
   have hne:∀{g:Nat} {cs:Array Value} {Y:TypeId},w2.heap[g]?=some (.cells cs Y (0,0))→Y≠56→g≠w.heap.size:=fun {g cs Y} hg hY e=>by
    rw[e,ae jU]at hg
    simp only[Option.some.injEq,Obj.cells.injEq]at hg
    exact hY hg.2.1.symm
   refine⟨ao,n,cap,0,rfl,⟨rfl,?_⟩,(((ae cX).setCell (Nat.le_refl _) _).setCell (Nat.le_refl _) _).alloc (by simp only[cC];omega) _⟩
   have hn:aR ns'=Za.ay [] ys:=ae gK
   rw[←hn]
   refine(ae HIT).keep ⟨fun g cs hg _=> ?_,fun g cs hg _=> ?_⟩
   ·have q:=hne hg (by decide)
    rw[Below.heap_alloc _ _ _ (by simp only[cC];exact af hg),aF _ _ _ _ q,aF _ _ _ _ q]
    exact hg
   ·have q:=hne hg (by decide)
    rw[Below.heap_alloc _ _ _ (by simp only[cC];exact af hg),aF _ _ _ _ q,aF _ _ _ _ q]
    exact hg
  ·have HW:=hide (Za.OM (ae HR) hk)
   go_wp2_with fail
   refine(Ob _ rb s l1 ns' _ e' ((ae bV).below ((Below.refl _ _).alloc (Nat.le_refl _) _)) hk).mono ?_
   clear hk
   rintro e w3 ⟨rfl,hs3,hk3⟩
   have b3:=ai hk3 (aw (ae jU) _) (by simp;omega)
   have y3:=ag b3
   have x3:=aq b3
   have z3:=af b3
   have c5:=hs3.rd.c5
   have zr3:=hs3.lt
   have nH:=hide (show Below w.heap.size w w3 from ((ae cX).alloc (ae cX).size _).trans (hk3.below (by have:=(ae cX).size;simp;omega) (by omega) (by simp;omega)))
   clear hs3 hk3 b3 y0 x0 z0
   go_wp2_with fail
   refine bodyPost_ret (v:= .agg #[.slice none 0 0,.int .i64 2]) (by simp[results,Tryz.results27,go_sem,y3]) rfl ?_
   rw[ae HW]
   exact⟨none,0,0,2,rfl,rfl,((ae nH).setCell (Nat.le_refl _) _).setCell (Nat.le_refl _) _⟩
theorem tG.keep {cls:List Za.aG} {F:List Nat} {script:List (Int×Int)} {S0:bX} {b b':Nat} {e:Ending} {w' w2:World} (h:tG cls F script S0 b e w') (hb:b'≤b) (hk:∀k,b≤k→w2.heap[k]?=w'.heap[k]?):tG cls F script S0 b' e w2:=by
 have row:∀{Y:TypeId} {o:Option Addr} {n cap:Nat} {xs:List Value},w'.ownsRow b Y 1 (.slice o n cap) n xs→w2.ownsRow b' Y 1 (.slice o n cap) n xs:=fun {Y o n cap xs} q=>bZ (ah q fun k r=>hk k (q.lt k r).1) hb
 obtain⟨j,S,L,lo,lc,h1,⟨h2,xo,xc,go,gc,yo,yc,h3,h4,h5,h6,h7,h8⟩ | ⟨pg,pc,i,en,z,h2,h3,h4,h5,h6⟩⟩:=h
 ·exact⟨j,S,L,lo,lc,h1,Or.inl ⟨h2,xo,xc,go,gc,yo,yc,h3,row h4,row h5,row h6,row h7,h8⟩⟩
 ·exact⟨j,S,L,lo,lc,h1,Or.inr ⟨pg,pc,i,en,z,h2,h3,h4,h5,row h6⟩⟩
theorem tG.five {cls:List Za.aG} {F:List Nat} {script:List (Int×Int)} {S0:bX} {b:Nat} {e:Ending} {w':World} (h:tG cls F script S0 b e w'):∃(en:Int) (lo:Option Addr) (ln lc:Nat) (xo:Option Addr) (xn xc:Nat) (go:Option Addr) (gn gc:Nat) (yo:Option Addr) (yn yc:Nat),e= .returned (.agg #[.int .i64 en,.slice lo ln lc,.slice xo xn xc,.slice go gn gc,.slice yo yn yc]):=by
 obtain⟨j,S,L,lo,lc,h1,⟨h2,xo,xc,go,gc,yo,yc,h3,_⟩ | ⟨pg,pc,i,en,z,h2,h3,h4,h5,h6⟩⟩:=h
 ·exact⟨_,_,_,_,_,_,_,_,_,_,_,_,_,h3⟩
 ·exact⟨_,_,_,_,_,_,_,_,_,_,_,_,_,h5⟩
structure F9 (sp:ByteArray) (LP:List Za.Tok) (sq:ByteArray) (LQ:List Za.Tok):Prop where
 pe:∀e,Za.prog 12 LP= .inl e→e.1≠0
 qe:∀e,Za.query LQ= .inl e→e.1≠0
 p:∀cls l,sp.size≤240→Za.prog 12 LP= .inr (cls,l)→(∀c∈cls,Za.jx c∧∀x∈c.goals,Za.iN x)∧cls.length≤12
 q:∀ys l,sq.size≤96→Za.query LQ= .inr (ys,l)→(∀x∈ys,Za.iN x)∧ys.length≤6∧(Za.ay [] ys).length≤100∧∀x∈ys,∀η:List UInt8→Za.U,(∀y∈Za.ay [] ys,Za.size (η y)=1)→Za.size (Za.bA η 8 x.left)≤300∧(∀r,x.right=some r→Za.size (Za.bA η 8 r)≤300)∧(∀z,x.last=some z→Za.size (Za.bA η 8 z)≤300)
def lZ (s:ByteArray) (L:List Za.Tok):Nat:=if 96<s.size then 1 else(match Za.query L with
 | .inl e=>e.1
 | .inr _=>0)
def jO (s:ByteArray) (L:List Za.Tok):Nat:=if 240<s.size then 1 else Za.EL (Za.prog 12 L)
def Sb (sp:ByteArray) (LP:List Za.Tok) (sq:ByteArray) (LQ:List Za.Tok) (script:List (Int×Int)) (w:World) (e:Ending) (w':World):Prop:=
 (∃er:Nat,er≠0∧er=(if jO sp LP≠0 then jO sp LP else if 100<script.length then 1 else lZ sq LQ)∧e= .returned (.tuple #[.agg #[.int .i64 0,.slice none 0 0,.slice none 0 0,.slice none 0 0,.slice none 0 0],.int .i64 (er:Int)])∧Below w.heap.size w w')∨
 (jO sp LP=0∧script.length≤100∧lZ sq LQ=0∧∃(cls:List Za.aG) (l1:List Za.Tok) (ys:List Za.aC) (l2:List Za.Tok) (F:List Nat) (S0:bX) (R:Value),Za.prog 12 LP= .inr (cls,l1)∧Za.query LQ= .inr (ys,l2)∧CH (Za.ay [] ys) ys F S0∧e= .returned (.tuple #[R,.int .i64 0])∧tG cls F script S0 w.heap.size (.returned R) w'∧Below w.heap.size w w')
theorem Tg (w:World) (s:ByteArray) (L:List Za.Tok) (hL:Za.dP s L) (hh:Za.hd L=Za.next s 0) (hl:s.size≤240→L.length≤1000) (aU:dD w) (h0:0<w.heap.size) (he:∀e,Za.prog 12 L= .inl e→e.1≠0):
 Calls Tryz.prog 26 #[.string s] w fun e w'=>∃(o:Option Addr) (n c p:Nat),e= .returned (.agg #[.slice o n c,.int .i64 (jO s L:Int),.int .i64 (p:Int)])∧(jO s L=0→s.size≤240∧∃cls l1,Za.prog 12 L= .inr (cls,l1)∧cP w' o n cls)∧Below w.heap.size w w':=by
 by_cases hs:240<s.size
 ·refine(KV w s hs).mono ?_
  rintro e w' ⟨rfl,hb⟩
  have:jO s L=1:=by unfold jO;rw[if_pos hs]
  exact⟨none,0,0,0,by rw[this];rfl,fun q=>by omega,hb⟩
 ·refine(Ow w s L (by omega) hL hh (hl (by omega)) aU h0).mono ?_
  rintro e w' ⟨o,n,c,rfl,hr,hb⟩
  have e1:jO s L=Za.EL (Za.prog 12 L):=by unfold jO;rw[if_neg hs]
  refine⟨o,n,c,Za.posOf (Za.prog 12 L),by rw[e1],fun q=>⟨by omega,?_⟩,hb⟩
  rw[e1]at q
  cases hp:Za.prog 12 L with
  | inl x=>rw[hp]at q;exact absurd q (he x hp)
  | inr x=>
   obtain⟨cls,l1⟩:=x
   rw[hp]at hr
   exact⟨cls,l1,rfl,hr⟩
theorem Sc (w:World) (s:ByteArray) (L:List Za.Tok) (hL:Za.dP s L) (hh:Za.hd L=Za.next s 0) (hl:s.size≤96→L.length≤1000) (aU:dD w) (h0:0<w.heap.size) (he:∀e,Za.query L= .inl e→e.1≠0):
 Calls Tryz.prog 27 #[.string s] w fun e w'=>∃(o:Option Addr) (n c:Nat),e= .returned (.agg #[.slice o n c,.int .i64 (lZ s L:Int)])∧(lZ s L=0→s.size≤96∧∃ys l1,Za.query L= .inr (ys,l1)∧bW (Za.ay [] ys) w' o n ys)∧Below w.heap.size w w':=by
 by_cases hs:96<s.size
 ·refine(OO w s hs).mono ?_
  rintro e w' ⟨rfl,hb⟩
  have:lZ s L=1:=by unfold lZ;rw[if_pos hs]
  exact⟨none,0,0,by rw[this];rfl,fun q=>by omega,hb⟩
 ·refine(Sa w s L (by omega) hL hh (hl (by omega)) aU h0).mono ?_
  rintro e w' ⟨o,n,c,er,rfl,hr,hb⟩
  cases hp:Za.query L with
  | inl x=>
   obtain⟨x1,x2⟩:=x
   rw[hp]at hr
   have e1:lZ s L=x1:=by unfold lZ;rw[if_neg hs,hp]
   have hr':er=x1:=hr
   exact⟨o,n,c,by rw[e1,hr'],fun q=>by rw[e1]at q;exact absurd q (he _ hp),hb⟩
  | inr x=>
   obtain⟨ys,l1⟩:=x
   rw[hp]at hr
   have e1:lZ s L=0:=by unfold lZ;rw[if_neg hs,hp]
   obtain⟨rfl,hi⟩:=hr
   exact⟨o,n,c,by rw[e1],fun _=>⟨by omega,ys,l1,rfl,hi⟩,hb⟩
theorem OP (w:World) (sp:ByteArray) (LP:List Za.Tok) (sq:ByteArray) (LQ:List Za.Tok) (script:List (Int×Int)) (so:Option Addr) (sc:Nat) (hP:Za.dP sp LP) (hPh:Za.hd LP=Za.next sp 0) (hPl:sp.size≤240→LP.length≤1000) (hQ:Za.dP sq LQ) (hQh:Za.hd LQ=Za.next sq 0) (hQl:sq.size≤96→LQ.length≤1000) (aU:dD w) (h0:0<w.heap.size) (hpw:Pow w) (hok:F9 sp LP sq LQ) (hsc:pn w so script) (kA:∀p∈script,(-9223372036854775808≤p.1∧p.1≤9223372036854775807)∧(-9223372036854775808≤p.2∧p.2≤9223372036854775807)):
 Calls Tryz.prog 15 #[.string sp,.string sq,.slice so script.length sc] w fun e w'=>Sb sp LP sq LQ script w e w':=by
 have hb0:=(Below.refl w.heap.size w).alloc (Nat.le_refl _) (.cells #[.int .i64 0,.slice none 0 0,.slice none 0 0,.slice none 0 0,.slice none 0 0] 32)
 have IP:=hide (Tg _ sp LP hP hPh hPl (aU.below hb0 h0) (by simp) hok.pe)
 have IQ:=hide (fun W (hu:Below w.heap.size w W)=>Sc W sq LQ hQ hQh hQl (aU.below hu h0) (Nat.lt_of_lt_of_le h0 hu.size) hok.qe)
 have Jo:=hide (heap_alloc_new w (.cells #[.int .i64 0,.slice none 0 0,.slice none 0 0,.slice none 0 0,.slice none 0 0] 32))
 have aT:=hide hb0
 have qy:=hide hok
 have El:=hide hpw
 have Sd:=hide hsc
 have zj:=hide kA
 clear hb0 hP hPh hPl hQ hQh hQl aU hpw hok hsc kA
 generalize UT:jO sp LP=ep at*
 generalize heq:lZ sq LQ=eq at*
 have Nl:=hide UT
 have UU:=hide heq
 clear UT heq
 go_enter Tryz.func15,Tryz.ntmps15
 go_wp2_with fail
 refine(ae IP).mono ?_
 rintro e w1 ⟨o1,n1,c1,p1,rfl,hp1,hb1⟩
 have L6:=(ae aT).trans (hb1.mono (ae aT).size)
 have hz1:=(hb1.block w.heap.size (by simp)).trans (ae Jo)
 have hbA:=L6.alloc L6.size (.cells #[.slice o1 n1 c1,.int .i64 (ep:Int),.int .i64 (p1:Int)] 52)
 have hzA:=aw hz1 (.cells #[.slice o1 n1 c1,.int .i64 (ep:Int),.int .i64 (p1:Int)] 52)
 have haA:=heap_alloc_new w1 (.cells #[.slice o1 n1 c1,.int .i64 (ep:Int),.int .i64 (p1:Int)] 52)
 have IQ1:=hide (ae IQ _ hbA)
 have H9:=hide hp1
 have Sg:=hide hzA
 have GR:=hide haA
 have xJ:=hide hbA
 have z1w:w.heap.size<w1.heap.size:=af hz1
 clear hp1 hb1 L6 hz1 hbA hzA haA IP IQ
 go_wp2_with fail
 refine(ae IQ1).mono ?_
 rintro e w2 ⟨o2,n2,c2,rfl,hq2,hb2⟩
 have tE:=(ae xJ).trans (hb2.mono (ae xJ).size)
 have hz2:=(hb2.block _ (af (ae Sg))).trans (ae Sg)
 have ha2:=(hb2.block _ (af (ae GR))).trans (ae GR)
 have hbB:=tE.alloc tE.size (.cells #[.slice o2 n2 c2,.int .i64 (eq:Int)] 56)
 have hzB:=aw hz2 (.cells #[.slice o2 n2 c2,.int .i64 (eq:Int)] 56)
 have haB:=aw ha2 (.cells #[.slice o2 n2 c2,.int .i64 (eq:Int)] 56)
 have hqB:=heap_alloc_new w2 (.cells #[.slice o2 n2 c2,.int .i64 (eq:Int)] 56)
 have sM:=af ha2
 have hcl:ep=0→sp.size≤240∧∃cls l1,Za.prog 12 LP= .inr (cls,l1)∧cP (w2.alloc (.cells #[.slice o2 n2 c2,.int .i64 (eq:Int)] 56)) o1 n1 cls:=fun q=>by
  obtain⟨q1,cls,l1,q2,q3⟩:=ae H9 q
  exact⟨q1,cls,l1,q2,((dR.below ((Below.refl _ w1).alloc (Nat.le_refl _) _)).trans ((dR.below hb2).trans (dR.below ((Below.refl _ w2).alloc (Nat.le_refl _) _)))).cls q3⟩
 have UW:eq=0→sq.size≤96∧∃ys l1,Za.query LQ= .inr (ys,l1)∧bW (Za.ay [] ys) (w2.alloc (.cells #[.slice o2 n2 c2,.int .i64 (eq:Int)] 56)) o2 n2 ys:=fun q=>by
  obtain⟨q1,ys,l1,q2,q3⟩:=hq2 q
  exact⟨q1,ys,l1,q2,q3.keep (aQ.alloc _ _)⟩
 have uX:=hide hcl
 have Np:=hide UW
 generalize hw3:w2.alloc (.cells #[.slice o2 n2 c2,.int .i64 (eq:Int)] 56)=w3 at*
 have a0:=ag haB 0
 have a1:=ag haB 1
 have q0:=ag hqB 0
 have q1:=ag hqB 1
 have az:=af haB
 have qz:=af hqB
 have z0:=ag hzB
 have zx:=aq hzB
 have zz:=af hzB
 simp only[List.getElem?_toArray,List.getElem?_cons_zero,List.getElem?_cons_succ]at a0 a1 q0 q1
 have nV:=hide hbB
 have Nk:=hide hzB
 clear hq2 hb2 tE hz2 ha2 hbB hzB haB hqB hcl UW IQ1 H9 Sg GR xJ Jo aT
 by_cases h1:ep=0
 ·have t1:((ep:Int) != 0)=false:=by rw[h1];rfl
  have t1':((ep:Int) == 0)=true:=by rw[h1];rfl
  by_cases h2:100<script.length
  ·have t2:decide (100<(script.length:Int))=true:=by simp;omega
   have HE:=hide (show (1:Nat)=(if jO sp LP≠0 then jO sp LP else if 100<script.length then 1 else lZ sq LQ)by rw[ae Nl,if_neg (by omega),if_pos h2])
   clear h1 h2
   go_wp2_with fail
   refine bodyPost_ret (v:= .tuple #[.agg #[.int .i64 0,.slice none 0 0,.slice none 0 0,.slice none 0 0,.slice none 0 0],.int .i64 1]) (by simp[results,Tryz.results15,go_sem,z0]) rfl ?_
   exact Or.inl ⟨1,by omega,ae HE,rfl,(((((ae nV).setCell (Nat.le_refl _) _).setCell (Nat.le_refl _) _).setCell (Nat.le_refl _) _).setCell (Nat.le_refl _) _).setCell (Nat.le_refl _) _⟩
  ·have t2:decide (100<(script.length:Int))=false:=by simp;omega
   by_cases h3:eq=0
   ·have t3:((eq:Int) != 0)=false:=by rw[h3];rfl
    have t3':((eq:Int) == 0)=true:=by rw[h3];rfl
    obtain⟨hs1,cls,l1,CG,hcl⟩:=ae uX h1
    obtain⟨hs2,ys,l2,Sh,hit⟩:=ae Np h3
    obtain⟨okp,cl12⟩:=(ae qy).p cls l1 hs1 CG
    obtain⟨okq,il6,nl,szq⟩:=(ae qy).q ys l2 hs2 Sh
    have nj:n1=cls.length:=hcl.1
    subst nj
    have Si:UM w3 cls o1 ys (Za.ay [] ys) o2 n2 script so:=⟨hcl,okp,cl12,hit,okq,il6,⟨[],by simp⟩,nl,szq,fun hne=>by
     obtain⟨g,off,q1,q2,q3⟩:=ae Sd hne
     exact⟨g,off,q1,Nat.lt_of_lt_of_le q2 (ae nV).size,fun i hi=>⟨((ae nV).cell (p:=⟨g,off+i*2,none⟩) q2).trans (q3 i hi).1,((ae nV).cell (p:=⟨g,off+i*2+1,none⟩) q2).trans (q3 i hi).2⟩⟩,by omega,ae zj,(ae El).below (ae nV)⟩
    have IY:=hide (Jn w3 cls o1 c1 ys (Za.ay [] ys) o2 n2 c2 script so sc Si)
    have di:=hide (show∀(R:Value) (F:List Nat) (S0:bX) (w4 w5:World),CH (Za.ay [] ys) ys F S0→tG cls F script S0 w3.heap.size (.returned R) w4→(∀k,w3.heap.size≤k→w5.heap[k]?=w4.heap[k]?)→Below w.heap.size w w5→Sb sp LP sq LQ script w (.returned (.tuple #[R,.int .i64 0])) w5 from fun R F S0 w4 w5 k1 k2 k3 k4=>Or.inr ⟨by rw[ae Nl];exact h1,by omega,by rw[ae UU];exact h3,cls,l1,ys,l2,F,S0,R,CG,Sh,k1,rfl,k2.keep (ae nV).size k3,k4⟩)
    clear h1 h2 h3 hs1 CG hcl hs2 Sh hit okp cl12 okq il6 nl szq Si uX Np
    go_wp2_with fail
    refine(ae IY).mono ?_
    rintro e w4 ⟨F,S0,hps,CK,hb4⟩
    obtain⟨en,lo,ln,lc,xo,xn,xc,go,gn,gc,yo,yn,yc,rfl⟩:=CK.five
    have Nq:=(hb4.block _ zz).trans (ae Nk)
    have y0:=ag Nq
    have yx:=aq Nq
    have yz:=af Nq
    have CE:=(ae nV).trans (hb4.mono (ae nV).size)
    have cR:=hide CE
    have XP:=hide CK
    have y8:=hide hps
    clear Nq CE hb4 CK hps IY
    go_wp2_with fail
    refine bodyPost_ret (v:= .tuple #[.agg #[.int .i64 en,.slice lo ln lc,.slice xo xn xc,.slice go gn gc,.slice yo yn yc],.int .i64 0]) (by simp[results,Tryz.results15,go_sem,y0]) rfl ?_
    refine ae di _ F S0 w4 _ (ae y8) (ae XP) (fun k hk=> ?_) ((((((ae cR).setCell (Nat.le_refl _) _).setCell (Nat.le_refl _) _).setCell (Nat.le_refl _) _).setCell (Nat.le_refl _) _).setCell (Nat.le_refl _) _)
    have q:k≠w.heap.size:=by omega
    rw[aF _ _ _ _ q,aF _ _ _ _ q,aF _ _ _ _ q,aF _ _ _ _ q,aF _ _ _ _ q]
   ·have t3:((eq:Int) != 0)=true:=by simp;omega
    have t3':((eq:Int) == 0)=false:=by simp;omega
    have HE:=hide (show eq=(if jO sp LP≠0 then jO sp LP else if 100<script.length then 1 else lZ sq LQ)by rw[ae Nl,ae UU,if_neg (by omega),if_neg h2])
    have qx:=hide h3
    clear h1 h2 h3 uX Np
    go_wp2_with fail
    go_region
    all_goals
     go_wp2_with fail
     refine bodyPost_ret (v:= .tuple #[.agg #[.int .i64 0,.slice none 0 0,.slice none 0 0,.slice none 0 0,.slice none 0 0],.int .i64 (eq:Int)]) (by simp[results,Tryz.results15,go_sem,z0]) rfl ?_
     exact Or.inl ⟨eq,ae qx,ae HE,rfl,by first | exact((((((ae nV).setCell (Nat.le_refl _) _).setCell (Nat.le_refl _) _).setCell (Nat.le_refl _) _).setCell (Nat.le_refl _) _).setCell (Nat.le_refl _) _).drew | exact(((((ae nV).drew.setCell (Nat.le_refl _) _).setCell (Nat.le_refl _) _).setCell (Nat.le_refl _) _).setCell (Nat.le_refl _) _).setCell (Nat.le_refl _) _⟩
 ·have t1:((ep:Int) != 0)=true:=by simp;omega
  have t1':((ep:Int) == 0)=false:=by simp;omega
  have HE:=hide (show ep=(if jO sp LP≠0 then jO sp LP else if 100<script.length then 1 else lZ sq LQ)by rw[ae Nl,if_pos h1])
  have qx:=hide h1
  clear h1 uX Np
  go_wp2_with fail
  go_region
  all_goals
   go_wp2_with fail
   refine bodyPost_ret (v:= .tuple #[.agg #[.int .i64 0,.slice none 0 0,.slice none 0 0,.slice none 0 0,.slice none 0 0],.int .i64 (ep:Int)]) (by simp[results,Tryz.results15,go_sem,z0]) rfl ?_
   exact Or.inl ⟨ep,ae qx,ae HE,rfl,by first | exact((((((ae nV).setCell (Nat.le_refl _) _).setCell (Nat.le_refl _) _).setCell (Nat.le_refl _) _).setCell (Nat.le_refl _) _).setCell (Nat.le_refl _) _).drew | exact(((((ae nV).drew.setCell (Nat.le_refl _) _).setCell (Nat.le_refl _) _).setCell (Nat.le_refl _) _).setCell (Nat.le_refl _) _).setCell (Nat.le_refl _) _⟩
end Go.Proofs.YthfjnfcekeknlaaGreatDoor
namespace Za
def NZ {α:Type} (r:dH α):Prop:=∀e,r= .inl e→e.1≠0
theorem fH {α:Type} {e:Nat} (he:e≠0) (l:List Tok):NZ (bad (α:=α) e l):=fun x hx=>by
 unfold bad at hx
 cases hx
 exact he
theorem eG {α:Type} (x:α×List Tok):NZ (.inr x:dH α):=fun e he=>by cases he
theorem OQ {p:List Tok→dH Tm} (hp:∀l,NZ (p l)):∀(k:Nat) (l:List Tok),NZ (bG p k l):=by
 intro k
 induction k with
 | zero=>
  intro l
  unfold bG
  cases hr:p l with
  | inl e=>intro x hx;cases hx;exact hp l e hr
  | inr r=>
   dsimp only
   split
   ·exact fH (by omega) _
   ·split
    ·exact eG _
    ·exact fH (by omega) _
 | succ k ih=>
  intro l
  unfold bG
  cases hr:p l with
  | inl e=>intro x hx;cases hx;exact hp l e hr
  | inr r=>
   dsimp only
   split
   ·have:=ih r.2.tail
    cases hq:bG p k r.2.tail with
    | inl e=>intro x hx;cases hx;exact this e hq
    | inr q=>exact eG _
   ·split
    ·exact eG _
    ·exact fH (by omega) _
theorem nz_term:∀(f:Nat) (l:List Tok),NZ (term f l):=by
 intro f
 induction f with
 | zero=>
  intro l
  unfold term
  split
  ·exact fH (by omega) _
  ·exact fH (by omega) _
 | succ f ih=>
  intro l
  unfold term
  split
  ·split
   ·exact fH (by omega) _
   ·split
    ·split
     ·have:=OQ ih 2 l.tail.tail
      cases hq:bG (term f) 2 l.tail.tail with
      | inl e=>intro x hx;cases hx;exact this e hq
      | inr q=>exact eG _
     ·exact eG _
    ·exact eG _
  ·exact fH (by omega) _
theorem xL (l:List Tok):NZ (operand l):=by
 unfold operand
 split
 ·exact fH (by omega) _
 ·exact nz_term 8 l
theorem CN (t:Tm) (b:Bool) (l:List Tok):NZ (sides t b l):=by
 unfold sides
 split
 ·cases hq:term 8 l.tail with
  | inl e=>intro x hx;cases hx;exact nz_term 8 _ e hq
  | inr q=>exact eG _
 ·exact fH (by omega) _
theorem Jp (t:Tm) (b:Bool) (l:List Tok):NZ (assignment t b l):=by
 unfold assignment
 split
 ·cases hq:operand l.tail with
  | inl e=>intro x hx;cases hx;exact xL _ e hq
  | inr q=>
   dsimp only
   split
   ·cases hq2:operand q.2.tail with
    | inl e=>intro x hx;cases hx;exact xL _ e hq2
    | inr q2=>exact eG _
   ·exact eG _
 ·exact fH (by omega) _
theorem Ep (a b:Bool) (l:List Tok):NZ (item a b l):=by
 unfold item
 cases hq:term 8 l with
 | inl e=>intro x hx;cases hx;exact nz_term 8 _ e hq
 | inr q=>
  dsimp only
  split
  ·cases h2:sides q.1 a q.2 with
   | inl e=>intro x hx;cases hx;exact CN _ _ _ e h2
   | inr q2=>exact eG _
  ·split
   ·cases h2:sides q.1 b q.2 with
    | inl e=>intro x hx;cases hx;exact CN _ _ _ e h2
    | inr q2=>exact eG _
   ·split
    ·cases h2:assignment q.1 b q.2 with
     | inl e=>intro x hx;cases hx;exact Jp _ _ _ e h2
     | inr q2=>exact eG _
    ·split
     ·exact eG _
     ·exact fH (by omega) _
theorem nz_items:∀(k:Nat) (a b:Bool) (l:List Tok),NZ (items k a b l):=by
 intro k
 induction k with
 | zero=>
  intro a b l
  unfold items
  cases hq:item a b l with
  | inl e=>intro x hx;cases hx;exact Ep _ _ _ e hq
  | inr q=>
   dsimp only
   split
   ·exact fH (by omega) _
   ·exact eG _
 | succ k ih=>
  intro a b l
  unfold items
  cases hq:item a b l with
  | inl e=>intro x hx;cases hx;exact Ep _ _ _ e hq
  | inr q=>
   dsimp only
   split
   ·cases h2:items k q.1.2.1 q.1.2.2 q.2.tail with
    | inl e=>intro x hx;cases hx;exact ih _ _ _ e h2
    | inr q2=>exact eG _
   ·exact eG _
theorem L8 (l:List Tok):NZ (query l):=by
 unfold query
 cases hq:items 5 false true l with
 | inl e=>intro x hx;cases hx;exact nz_items _ _ _ _ e hq
 | inr q=>
  dsimp only
  split
  ·exact eG _
  ·exact fH (by omega) _
theorem OS (l:List Tok):NZ (body l):=by
 unfold body
 cases hq:items 5 true true l with
 | inl e=>intro x hx;cases hx;exact nz_items _ _ _ _ e hq
 | inr q=>
  dsimp only
  split
  ·cases h2:items 5 false true q.2.tail with
   | inl e=>intro x hx;cases hx;exact nz_items _ _ _ _ e h2
   | inr q2=>
    dsimp only
    split
    ·exact eG _
    ·exact fH (by omega) _
  ·split
   ·exact eG _
   ·exact fH (by omega) _
theorem Er {α:Type} (x:α) (l:List Tok):NZ (stop x l):=by
 unfold stop
 split
 ·exact eG _
 ·exact fH (by omega) _
theorem zQ (b:Bool) (l:List Tok):NZ (clause b l):=by
 unfold clause
 split
 ·split
  ·cases hq:term 8 l with
   | inl e=>intro x hx;cases hx;exact nz_term 8 _ e hq
   | inr q=>
    dsimp only
    split
    ·cases h2:body q.2.tail with
     | inl e=>intro x hx;cases hx;exact OS _ e h2
     | inr q2=>exact Er _ _
    ·exact Er _ _
  ·exact fH (by omega) _
 ·exact fH (by omega) _
theorem nz_prog:∀(k:Nat) (l:List Tok),NZ (prog k l):=by
 intro k
 induction k with
 | zero=>
  intro l
  unfold prog
  split
  ·exact eG _
  ·cases hq:clause false l with
   | inl e=>intro x hx;cases hx;exact zQ _ _ e hq
   | inr q=>exact eG _
 | succ k ih=>
  intro l
  unfold prog
  split
  ·exact eG _
  ·cases hq:clause true l with
   | inl e=>intro x hx;cases hx;exact zQ _ _ e hq
   | inr q=>
    dsimp only
    cases h2:prog k q.2 with
    | inl e=>intro x hx;cases hx;exact ih _ e h2
    | inr q2=>exact eG _
def jk (t:Tm):Nat:=size (pG 8 0 t)
theorem rB {l l1:List Tok} {t:Tm} (h:term 8 l= .inr (t,l1)):jk t+l1.length≤l.length:=by
 obtain⟨c,h1,h2⟩:=GD 0 8 l t l1 h
 have:=h2.2
 rw[subs_len]at this
 unfold jk
 omega
def zR (x:aC):Nat:=jk x.left+x.right.elim 0 jk+x.last.elim 0 jk
theorem gp {l:List Tok} {g:List UInt8} (h:sees l g=true):(hd l).text.toList=g:=by
 unfold sees at h
 simp only[Bool.and_eq_true,beq_iff_eq]at h
 exact h.2
theorem Ab {l:List Tok} (h:br l=true):((hd l).text.toList=[61,61]∨(hd l).text.toList=[92,61]∨(hd l).text.toList=[61,60]∨(hd l).text.toList=[60])∧l.length=l.tail.length+1:=by
 unfold br at h
 simp only[Bool.or_eq_true]at h
 rcases h with((h | h) | h) | h
 ·exact⟨Or.inr (Or.inr (Or.inr (gp h))),dF h⟩
 ·exact⟨Or.inr (Or.inr (Or.inl (gp h))),dF h⟩
 ·exact⟨Or.inl (gp h),dF h⟩
 ·exact⟨Or.inr (Or.inl (gp h)),dF h⟩
theorem Ac {l:List Tok} (h:gB l=true):(hd l).text.toList.length=1∧l.length=l.tail.length+1:=by
 unfold gB at h
 simp only[Bool.or_eq_true]at h
 rcases h with(h | h) | h
 ·exact⟨by rw[gp h];rfl,dF h⟩
 ·exact⟨by rw[gp h];rfl,dF h⟩
 ·exact⟨by rw[gp h];rfl,dF h⟩
theorem xM {l l1:List Tok} {t:Tm} (h:operand l= .inr (t,l1)):wfK 8 t∧jk t+l1.length≤l.length:=by
 unfold operand at h
 split at h
 ·cases h
 ·exact⟨wfK_term 8 l t l1 h,rB h⟩
theorem CO {t:Tm} {b:Bool} {l l2:List Tok} {x:aC} (h:sides t b l= .inr (x,l2)):b=true∧∃r,x=⟨t,(hd l).text.toList,some r,[],none⟩∧wfK 8 r∧jk r+l2.length≤l.tail.length:=by
 unfold sides at h
 split at h
 ·rename_i hb
  cases hq:term 8 l.tail with
  | inl e=>rw[hq]at h;cases h
  | inr q=>
   obtain⟨r,l3⟩:=q
   rw[hq]at h
   cases h
   exact⟨hb,r,rfl,wfK_term 8 _ r _ hq,rB hq⟩
 ·cases h
theorem Jq {t:Tm} {b:Bool} {l l2:List Tok} {x:aC} (h:assignment t b l= .inr (x,l2)):b=true∧∃r,wfK 8 r∧((x=⟨t,(hd l).text.toList,some r,[],none⟩∧jk r+l2.length≤l.tail.length)∨∃o z,o.length=1∧wfK 8 z∧x=⟨t,(hd l).text.toList,some r,o,some z⟩∧jk r+jk z+l2.length≤l.tail.length):=by
 unfold assignment at h
 split at h
 ·rename_i hb
  cases hq:operand l.tail with
  | inl e=>rw[hq]at h;cases h
  | inr q=>
   obtain⟨r,l3⟩:=q
   rw[hq]at h
   dsimp only at h
   obtain⟨w1,s1⟩:=xM hq
   split at h
   ·rename_i ho
    obtain⟨o1,o2⟩:=Ac ho
    cases hq2:operand l3.tail with
    | inl e=>rw[hq2]at h;cases h
    | inr q2=>
     obtain⟨z,l4⟩:=q2
     rw[hq2]at h
     cases h
     obtain⟨w2,s2⟩:=xM hq2
     exact⟨hb,r,w1,Or.inr ⟨_,z,o1,w2,rfl,by omega⟩⟩
   ·cases h
    exact⟨hb,r,w1,Or.inl ⟨rfl,s1⟩⟩
 ·cases h
theorem Es {a b t1 g1:Bool} {l l1:List Tok} {x:aC} (h:item a b l= .inr ((x,t1,g1),l1)):(t1=true→a=true∧gZ x)∧(g1=true→b=true∧iN x)∧(a=false→b=true→g1=true)∧zR x+l1.length≤l.length:=by
 unfold item at h
 cases hq:term 8 l with
 | inl e=>rw[hq]at h;cases h
 | inr q=>
  obtain⟨t,l2⟩:=q
  rw[hq]at h
  dsimp only at h
  have wt:=wfK_term 8 l t l2 hq
  have st:=rB hq
  split at h
  ·rename_i hs
   obtain⟨s1,s2⟩:=Ab hs
   cases h2:sides t a l2 with
   | inl e=>rw[h2]at h;cases h
   | inr q2=>
    obtain⟨y,l3⟩:=q2
    rw[h2]at h
    obtain⟨ha,r,rfl,wr,sr⟩:=CO h2
    cases h
    refine⟨fun _=>⟨ha,⟨wt,(fun r' q=>by cases q;exact wr),(fun q=>by cases q),(fun r' q=>by cases q;exact s1),rfl⟩⟩,(fun q=>by cases q),(fun q=>by rw[ha]at q;cases q),?_⟩
    show jk t+jk r+0+l1.length≤l.length
    omega
  ·split at h
   ·rename_i hs
    have s1:=gp hs
    have s2:=dF hs
    cases h2:sides t b l2 with
    | inl e=>rw[h2]at h;cases h
    | inr q2=>
     obtain⟨y,l3⟩:=q2
     rw[h2]at h
     obtain⟨hb,r,rfl,wr,sr⟩:=CO h2
     cases h
     refine⟨(fun q=>by cases q),fun _=>⟨hb,⟨⟨wt,fun q=> ?_,fun _=>⟨r,rfl,wr⟩,fun _=>rfl,fun q=>absurd rfl q,fun q=>absurd rfl q⟩,Or.inr (Or.inl s1),fun q=> ?_,fun q=>absurd rfl q,by simp⟩⟩,fun _ q=>q,?_⟩
     ·change (hd l2).text.toList=[]at q;rw[s1]at q;cases q
     ·change (hd l2).text.toList=[]at q;rw[s1]at q;cases q
     ·show jk t+jk r+0+l1.length≤l.length
      omega
   ·split at h
    ·rename_i hs
     have s1:=gp hs.2
     have s2:=dF hs.2
     cases h2:assignment t b l2 with
     | inl e=>rw[h2]at h;cases h
     | inr q2=>
      obtain⟨y,l3⟩:=q2
      rw[h2]at h
      obtain⟨hb,r,wr,hx⟩:=Jq h2
      cases h
      rcases hx with⟨rfl,sr⟩ | ⟨o,z,ho,wz,rfl,sr⟩
      ·refine⟨(fun q=>by cases q),fun _=>⟨hb,⟨⟨wt,fun q=> ?_,fun _=>⟨r,rfl,wr⟩,fun _=>rfl,fun q=>absurd rfl q,fun q=>absurd rfl q⟩,Or.inr (Or.inr s1),fun q=> ?_,fun q=>absurd rfl q,by simp⟩⟩,fun _ q=>q,?_⟩
       ·change (hd l2).text.toList=[]at q;rw[s1]at q;cases q
       ·change (hd l2).text.toList=[]at q;rw[s1]at q;cases q
       ·show jk t+jk r+0+l1.length≤l.length
        omega
      ·refine⟨(fun q=>by cases q),fun _=>⟨hb,⟨⟨wt,fun q=> ?_,fun _=>⟨r,rfl,wr⟩,fun q=> ?_,fun _=>⟨z,rfl,wz⟩,fun _ q=> ?_⟩,Or.inr (Or.inr s1),fun q=> ?_,fun _=>s1,by show o.length≤2;omega⟩⟩,fun _ q=>q,?_⟩
       ·change (hd l2).text.toList=[]at q;rw[s1]at q;cases q
       ·change o=[]at q;rw[q]at ho;cases ho
       ·change (hd l2).text.toList=[]at q;rw[s1]at q;cases q
       ·change (hd l2).text.toList=[]at q;rw[s1]at q;cases q
       ·show jk t+jk r+jk z+l1.length≤l.length
        omega
    ·split at h
     ·rename_i hk
      cases h
      refine⟨fun q=> ?_,fun q=>⟨q,⟨⟨wt,fun _=>rfl,fun q=>absurd rfl q,fun _=>rfl,fun q=>absurd rfl q,fun q=>absurd rfl q⟩,Or.inl rfl,fun _=>hk.1,fun q=>absurd rfl q,by simp⟩⟩,fun _ q=>q,?_⟩
      ·simp only[Bool.and_eq_true]at q
       refine⟨q.1,⟨wt,(fun r q=>by cases q),fun _=>⟨rfl,hk.1,?_⟩,(fun r q=>by cases q),rfl⟩⟩
       have:=q.2
       unfold isInt at this
       simp only[Bool.and_eq_true,beq_iff_eq]at this
       exact this.2
      ·show jk t+0+0+l1.length≤l.length
       omega
     ·cases h
def nX (xs:List aC):Nat:=(xs.map zR).sum
theorem items_is:∀(k:Nat) (a b t1 g1:Bool) (l l1:List Tok) (xs:List aC),items k a b l= .inr ((xs,t1,g1),l1)→(t1=true→a=true∧∀x∈xs,gZ x)∧(g1=true→b=true∧∀x∈xs,iN x)∧(a=false→b=true→g1=true)∧nX xs+l1.length≤l.length∧xs.length≤k+1:=by
 intro k
 induction k with
 | zero=>
  intro a b t1 g1 l l1 xs h
  unfold items at h
  cases hq:item a b l with
  | inl e=>rw[hq]at h;cases h
  | inr q=>
   obtain⟨⟨x,t2,g2⟩,l2⟩:=q
   rw[hq]at h
   dsimp only at h
   obtain⟨h1,h2,h3,h4⟩:=Es hq
   split at h
   ·cases h
   ·cases h
    refine⟨fun q=>⟨(h1 q).1,fun y hy=> ?_⟩,fun q=>⟨(h2 q).1,fun y hy=> ?_⟩,h3,by simpa [nX] using h4,by simp⟩
    ·rw[List.mem_singleton.1 hy];exact(h1 q).2
    ·rw[List.mem_singleton.1 hy];exact(h2 q).2
 | succ k ih=>
  intro a b t1 g1 l l1 xs h
  unfold items at h
  cases hq:item a b l with
  | inl e=>rw[hq]at h;cases h
  | inr q=>
   obtain⟨⟨x,t2,g2⟩,l2⟩:=q
   rw[hq]at h
   dsimp only at h
   obtain⟨h1,h2,h3,h4⟩:=Es hq
   split at h
   ·rename_i hs
    have s2:=dF hs
    cases hq2:items k t2 g2 l2.tail with
    | inl e=>rw[hq2]at h;cases h
    | inr q2=>
     obtain⟨⟨ys,t3,g3⟩,l3⟩:=q2
     rw[hq2]at h
     cases h
     obtain⟨k1,k2,k3,k4,k5⟩:=ih _ _ _ _ _ _ _ hq2
     refine⟨fun q=>⟨(h1 (k1 q).1).1,fun y hy=> ?_⟩,fun q=>⟨(h2 (k2 q).1).1,fun y hy=> ?_⟩,fun qa qb=> ?_,?_,by simp;omega⟩
     ·rcases List.mem_cons.1 hy with rfl | hy
      ·exact(h1 (k1 q).1).2
      ·exact(k1 q).2 y hy
     ·rcases List.mem_cons.1 hy with rfl | hy
      ·exact(h2 (k2 q).1).2
      ·exact(k2 q).2 y hy
     ·refine k3 ?_ (h3 qa qb)
      cases ht:t2 with
      | false=>rfl
      | true=>have:=(h1 ht).1;rw[qa]at this;cases this
     ·have:nX (x :: ys)=zR x+nX ys:=by simp[nX]
      omega
   ·cases h
    refine⟨fun q=>⟨(h1 q).1,fun y hy=> ?_⟩,fun q=>⟨(h2 q).1,fun y hy=> ?_⟩,h3,by simpa [nX] using h4,by simp⟩
    ·rw[List.mem_singleton.1 hy];exact(h1 q).2
    ·rw[List.mem_singleton.1 hy];exact(h2 q).2
theorem p6 (sd:Nat):∀(f:Nat) (t:Tm) (ns:List (List UInt8)),wfK f t→(namesF f ns t).length≤ns.length+size (pG f sd t)
 | f+1,t,ns,hw=>by
  unfold namesF pG bA
  by_cases k3:t.kind=3
  ·rw[if_pos k3,if_pos k3]
   rw[size]
   unfold cW
   split
   ·omega
   ·simp
  ·rw[if_neg k3,if_neg k3]
   by_cases k4:t.kind=4
   ·rw[if_pos k4,if_pos k4];omega
   ·rw[if_neg k4,if_neg k4,size]
    have key:∀(ts:List Tm) (ns:List (List UInt8)),(∀u∈ts,wfK f u)→(ts.foldl (namesF f) ns).length≤ns.length+sizeL (ts.map (bA (fun x=> .v (x,sd)) f)):=by
     intro ts
     induction ts with
     | nil=>intro ns _;simp[sizeL]
     | cons u ts ih=>
      intro ns hu
      have h1:=p6 sd f u ns (hu u (by simp))
      have h2:=ih (namesF f ns u) (fun v hv=>hu v (by simp[hv]))
      rw[List.foldl_cons,List.map_cons,sizeL]
      unfold pG at h1
      omega
    have:=key t.args ns hw.2.2.2
    omega
theorem Ga {x:aC} {ns:List (List UInt8)} (hl:wfK 8 x.left) (hr:∀r,x.right=some r→wfK 8 r) (hz:∀z,x.last=some z→wfK 8 z):(aK ns x).length≤ns.length+zR x:=by
 have h1:=p6 0 8 x.left ns hl
 unfold aK zR jk
 have nO:∀(o:Option Tm) (ns:List (List UInt8)),(∀r,o=some r→wfK 8 r)→(cg ns o).length≤ns.length+o.elim 0 (fun t=>size (pG 8 0 t)):=fun o ns ho=>by
  cases o with
  | none=>simp[cg]
  | some r=>exact p6 0 8 r ns (ho r rfl)
 have h2:=nO x.right (namesF 8 ns x.left) hr
 have h3:=nO x.last (cg (namesF 8 ns x.left) x.right) hz
 omega
theorem namesL_lsz:∀(xs:List aC) (ns:List (List UInt8)),(∀x∈xs,wfK 8 x.left∧(∀r,x.right=some r→wfK 8 r)∧(∀z,x.last=some z→wfK 8 z))→(ay ns xs).length≤ns.length+nX xs
 | [],ns,_=>by simp[ay,nX]
 | x :: xs,ns,h=>by
  have h0:=h x (by simp)
  have h1:=Ga (ns:=ns) h0.1 h0.2.1 h0.2.2
  have h2:=namesL_lsz xs (aK ns x) (fun y hy=>h y (by simp[hy]))
  rw[qg]
  have:nX (x :: xs)=zR x+nX xs:=by simp[nX]
  omega
theorem gZ.wf {x:aC} (h:gZ x):wfK 8 x.left∧(∀r,x.right=some r→wfK 8 r)∧(∀z,x.last=some z→wfK 8 z):=⟨h.wl,h.wr,fun z q=>by rw[h.la]at q;cases q⟩
theorem iN.wf {x:aC} (h:iN x):wfK 8 x.left∧(∀r,x.right=some r→wfK 8 r)∧(∀z,x.last=some z→wfK 8 z):=by
 refine⟨h.ok.wl,fun r q=> ?_,fun z q=> ?_⟩
 ·by_cases k:x.sign=[]
  ·rw[h.ok.r0 k]at q;cases q
  ·obtain⟨r',e,w⟩:=h.ok.r1 k
   rw[e]at q;cases q;exact w
 ·by_cases k:x.op=[]
  ·rw[h.ok.z0 k]at q;cases q
  ·obtain⟨r',e,w⟩:=h.ok.z1 k
   rw[e]at q;cases q;exact w
theorem Gb {θ:Vr→U} (h:∀x,size (θ x)=1):∀u,size (sub θ u)=size u:=by
 refine U.ind (fun x=> ?_) (fun k tx num ss ih=> ?_)
 ·rw[sub,h,size]
 ·rw[dI,size,size]
  have key:∀(ss:List U),(∀a∈ss,size (sub θ a)=size a)→sizeL (ss.map (sub θ))=sizeL ss:=by
   intro ss
   induction ss with
   | nil=>intro _;rfl
   | cons a ss ih2=>
    intro hs
    rw[List.map_cons,sizeL,sizeL,hs a (by simp),ih2 (fun b hb=>hs b (by simp[hb]))]
  rw[key ss ih]
theorem yw {η:List UInt8→U} {t:Tm} (hw:wfK 8 t) (ns:List (List UInt8)) (h:∀y∈namesF 8 ns t,size (η y)=1):size (bA η 8 t)=jk t:=by
 rw[gQ (θ:=fun y=>if y∈namesF 8 ns t then η y else .v ([],0)) 8 t ns hw (fun y hy=>(if_pos hy).symm),tU _ 0 8 t hw]
 refine Gb (fun x=> ?_) _
 split
 ·rename_i q;exact h _ q
 ·rfl
theorem Sj {x:aC} {xs:List aC} (h:x∈xs):zR x≤nX xs:=by
 unfold nX
 induction xs with
 | nil=>cases h
 | cons y ys ih=>
  rw[List.map_cons,List.sum_cons]
  rcases List.mem_cons.1 h with rfl | h
  ·omega
  ·have:=ih h;omega
theorem Jr {f:Nat} {l l1:List Tok} {t:Tm} (h:term f l= .inr (t,l1)):t.kind=(hd l).kind:=by
 cases f with
 | zero=>unfold term at h;split at h<;>cases h
 | succ f=>
  unfold term at h
  split at h
  ·split at h
   ·cases h
   ·split at h
    ·rename_i k
     split at h
     ·cases hq:bG (term f) 2 l.tail.tail with
      | inl e=>rw[hq]at h;cases h
      | inr q=>rw[hq]at h;cases h;exact k.symm
     ·cases h;exact k.symm
    ·cases h;rfl
  ·cases h
theorem OT {l l2:List Tok} {ts gs:List aC} (h:body l= .inr ((ts,gs),l2)):(∀x∈ts,gZ x)∧(∀x∈gs,iN x)∧ts.length≤6∧gs.length≤6∧nX ts+nX gs+l2.length≤l.length:=by
 unfold body at h
 cases hq:items 5 true true l with
 | inl e=>rw[hq]at h;cases h
 | inr q=>
  obtain⟨⟨xs,t,g⟩,l1⟩:=q
  rw[hq]at h
  dsimp only at h
  obtain⟨h1,h2,h3,h4,h5⟩:=items_is _ _ _ _ _ _ _ _ hq
  split at h
  ·rename_i ht
   have s2:=dF ht.2
   cases hq2:items 5 false true l1.tail with
   | inl e=>rw[hq2]at h;cases h
   | inr q2=>
    obtain⟨⟨ys,t2,g2⟩,l3⟩:=q2
    rw[hq2]at h
    dsimp only at h
    obtain⟨k1,k2,k3,k4,k5⟩:=items_is _ _ _ _ _ _ _ _ hq2
    split at h
    ·rename_i hg
     cases h
     exact⟨(h1 ht.1).2,(k2 hg).2,h5,k5,by omega⟩
    ·cases h
  ·split at h
   ·rename_i hg
    cases h
    refine⟨(fun x hx=>by cases hx),(h2 hg).2,by simp,h5,?_⟩
    have:nX []=0:=rfl
    omega
   ·cases h
theorem zS {b:Bool} {l l1:List Tok} {c:aG} (h:clause b l= .inr (c,l1)) (hl:l.length≤1000):b=true∧(c.tests=[]→jx c)∧(∀x∈c.goals,iN x)∧l1.length≤l.length:=by
 unfold clause at h
 split at h
 ·rename_i hk
  split at h
  ·rename_i hb
   cases hq:term 8 l with
   | inl e=>rw[hq]at h;cases h
   | inr q=>
    obtain⟨t,l2⟩:=q
    rw[hq]at h
    dsimp only at h
    have wt:=wfK_term 8 l t l2 hq
    have st:=rB hq
    have kt:=(Jr hq).trans hk
    have hh:(namesF 8 [] t).length≤jk t:=by have:=p6 0 8 t [] wt;simpa [jk] using this
    have stop_is:∀{x:aG} {l3:List Tok},stop x l3= .inr (c,l1)→c=x∧l1.length≤l3.length:=fun {x l3} q=>by
     unfold stop at q
     split at q
     ·cases q
      exact⟨rfl,by rw[List.length_tail];omega⟩
     ·cases q
    split at h
    ·rename_i hs
     have s2:=dF hs
     cases hq2:body l2.tail with
     | inl e=>rw[hq2]at h;cases h
     | inr q2=>
      obtain⟨⟨ts,gs⟩,l3⟩:=q2
      rw[hq2]at h
      obtain⟨k1,k2,k3,k4,k5⟩:=OT hq2
      obtain⟨rfl,jr⟩:=stop_is h
      refine⟨hb,fun h0=>⟨kt,wt,k1,k3,fun x hx=>(k2 x hx).ok,k4,?_,h0⟩,k2,by omega⟩
      have n1:=namesL_lsz ts (namesF 8 [] t) (fun x hx=>(k1 x hx).wf)
      have n2:=namesL_lsz gs (ay (namesF 8 [] t) ts) (fun x hx=>(k2 x hx).wf)
      show (ay (ay (namesF 8 [] t) ts) gs).length≤100000
      omega
    ·obtain⟨rfl,jr⟩:=stop_is h
     refine⟨hb,fun h0=>⟨kt,wt,(fun x hx=>by cases hx),by simp,(fun x hx=>by cases hx),by simp,?_,h0⟩,(fun x hx=>by cases hx),by omega⟩
     show (namesF 8 [] t).length≤100000
     omega
  ·cases h
 ·cases h
theorem prog_is:∀(k:Nat) (l l1:List Tok) (cls:List aG),prog k l= .inr (cls,l1)→l.length≤1000→(∀c∈cls,(c.tests=[]→jx c)∧∀x∈c.goals,iN x)∧cls.length≤k:=by
 intro k
 induction k with
 | zero=>
  intro l l1 cls h hl
  unfold prog at h
  split at h
  ·cases h
   exact⟨(fun c hc=>by cases hc),by simp⟩
  ·cases hq:clause false l with
   | inl e=>rw[hq]at h;cases h
   | inr q=>
    have:=(zS (c:=q.1) (l1:=q.2) hq hl).1
    cases this
 | succ k ih=>
  intro l l1 cls h hl
  unfold prog at h
  split at h
  ·cases h
   exact⟨(fun c hc=>by cases hc),by simp⟩
  ·cases hq:clause true l with
   | inl e=>rw[hq]at h;cases h
   | inr q=>
    obtain⟨c,l2⟩:=q
    rw[hq]at h
    dsimp only at h
    obtain⟨_,h1,h2,h3⟩:=zS hq hl
    cases hq2:prog k l2 with
    | inl e=>rw[hq2]at h;cases h
    | inr q2=>
     obtain⟨cs,l3⟩:=q2
     rw[hq2]at h
     cases h
     obtain⟨k1,k2⟩:=ih l2 l1 cs hq2 (by omega)
     refine⟨fun d hd=> ?_,by simp;omega⟩
     rcases List.mem_cons.1 hd with rfl | hd
     ·exact⟨h1,h2⟩
     ·exact k1 d hd
end Za
namespace Go.Proofs.YthfjnfcekeknlaaGreatDoor
open Go.RowKit
theorem Th {sp:ByteArray} {LP:List Za.Tok} {sq:ByteArray} {LQ:List Za.Tok} (hPl:sp.size≤240→LP.length≤1000) (hQ:Za.dP sq LQ) (hQh:Za.hd LQ=Za.next sq 0) (ht:∀cls l,Za.prog 12 LP= .inr (cls,l)→∀c∈cls,c.tests=[]):F9 sp LP sq LQ:=by
 refine⟨Za.nz_prog 12 LP,Za.L8 LQ,fun cls l hs h=>⟨fun c hc=>⟨((Za.prog_is 12 LP l cls h (hPl hs)).1 c hc).1 (ht cls l h c hc),((Za.prog_is 12 LP l cls h (hPl hs)).1 c hc).2⟩,(Za.prog_is 12 LP l cls h (hPl hs)).2⟩,fun ys l hs h=> ?_⟩
 have hlen:LQ.length≤97:=by have:=Za.dP.len sq.size 0 LQ hQ hQh (by omega);omega
 unfold Za.query at h
 cases hq:Za.items 5 false true LQ with
 | inl e=>rw[hq]at h;cases h
 | inr q=>
  obtain⟨⟨xs,t,g⟩,l1⟩:=q
  rw[hq]at h
  dsimp only at h
  obtain⟨h1,h2,h3,h4,h5⟩:=Za.items_is _ _ _ _ _ _ _ _ hq
  split at h
  ·cases h
   have hgl:=(h2 (h3 rfl rfl)).2
   have hn:=Za.namesL_lsz ys [] (fun x hx=>(hgl x hx).wf)
   simp only[List.length_nil,Nat.zero_add]at hn
   refine⟨hgl,h5,by omega,fun x hx η hη=> ?_⟩
   have hi:=Za.Sj hx
   have wf:=(hgl x hx).wf
   obtain⟨ns',hs'⟩:=Za.fk ys [] x hx
   unfold Za.zR at hi
   have eL:∀y∈Za.namesF 8 ns' x.left,Za.size (η y)=1:=fun y hy=>hη y (hs' y (by
    obtain⟨K1,e1⟩:=lj x.right (Za.namesF 8 ns' x.left)
    obtain⟨K2,e2⟩:=lj x.last (Za.cg (Za.namesF 8 ns' x.left) x.right)
    unfold Za.aK
    rw[e2,e1]
    simp[hy]))
   refine⟨by rw[Za.yw wf.1 ns' eL];omega,fun r q=> ?_,fun z q=> ?_⟩
   ·rw[Za.yw (wf.2.1 r q) (Za.namesF 8 ns' x.left) (fun y hy=>hη y (hs' y (by
     obtain⟨K2,e2⟩:=lj x.last (Za.cg (Za.namesF 8 ns' x.left) x.right)
     unfold Za.aK
     rw[e2,q]
     exact List.mem_append_left _ hy)))]
    rw[q]at hi
    simp only[Option.elim]at hi
    omega
   ·rw[Za.yw (wf.2.2 z q) (Za.cg (Za.namesF 8 ns' x.left) x.right) (fun y hy=>hη y (hs' y (by
     unfold Za.aK
     rw[q]
     exact hy)))]
    rw[q]at hi
    simp only[Option.elim]at hi
    omega
  ·cases h
end Go.Proofs.YthfjnfcekeknlaaGreatDoor
