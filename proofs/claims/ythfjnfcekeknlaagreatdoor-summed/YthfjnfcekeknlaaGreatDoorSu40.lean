import Derived.Test.YthfjnfcekeknlaaGreatDoorSu38
import Derived.Deep.LoopGhost
set_option maxHeartbeats 8000000
set_option maxRecDepth 100000
namespace Go.Proofs.YthfjnfcekeknlaaGreatDoor
open Go.RowKit
theorem F6.from {mb:Nat} {cls:List Za.aL} {clo:Option Addr} {clc:Nat} {V:List Nat} {vo:Option Addr} {vc:Nat} {L:List Int} {lo:Option Addr} {S:cq} {nO po:Option Addr} {i:Nat} {p:Int} {w w1 w':World} (hb:Below w.heap.size w w1) (h:F6 mb cls clo clc V vo vc L lo S nO po i p w1 w'):F6 mb cls clo clc V vo vc L lo S nO po i p w w':=by
 obtain⟨lo',lc',⟨z,S',nO',nC',po',pc',h1,h2,h3,h4,h5⟩ | ⟨z,S',h1,h2,h3,h4⟩ | ⟨en,h1,h2,h3,h4⟩⟩:=h
 ·exact⟨lo',lc',Or.inl ⟨z,S',nO',nC',po',pc',h1,h2,h3,h4,(au.aw hb).trans h5⟩⟩
 ·exact⟨lo',lc',Or.inr (Or.inl ⟨z,S',h1,h2,h3,(au.aw hb).trans h4⟩)⟩
 ·exact⟨lo',lc',Or.inr (Or.inr ⟨en,h1,h2,h3,(au.aw hb).trans h4⟩)⟩
theorem Oo (fr:Nat→Nat) (G:List Gl) (j:Nat):∀i∈cE fr G j,i<G.length:=fun i hi=>by
 have:=(List.mem_filter.1 hi).2
 cases q:G[i]? with
 | none=>rw[q]at this;cases this
 | some g=>exact(List.getElem?_eq_some_iff.1 q).1
section
variable {w:World} {cls:List Za.aL} {clo:Option Addr} {clc:Nat} {F:List Nat} {vo:Option Addr} {vc:Nat} {script:List (Int×Int)} {S0:cq} {j:Nat} {S:cq} {L:List Int} {lo:Option Addr} {lc:Nat} {nO:Option Addr} {nC:Nat} {po:Option Addr} {pc:Nat} {wr:World}
theorem QS.frame (h:QS w cls clo clc F vo vc script S0 j S L lo lc nO nC po pc wr) {w':World} {R':Nat→Prop} (hf:au (fun k=>k=w.heap.size+1∨rowOf nO k∨rowOf po k∨rowOf lo k) R' wr w'):Below w.heap.size w w'∧(∀k,R' k→w.heap.size≤k)∧w'.heap[w.heap.size]?=some (.cells #[.int .i64 0,.slice none 0 0,.slice none 0 0,.slice none 0 0,.slice none 0 0] 32 (0,0)):=by
 have hr:∀k,(k=w.heap.size+1∨rowOf nO k∨rowOf po k∨rowOf lo k)→w.heap.size≤k:=fun k q=>by
  rcases q with e | e
  ·omega
  ·exact h.rw_ k e
 refine⟨h.be.trans (hf.down h.be.size hr),fun k q=> ?_,?_⟩
 ·rcases hf.row k q with e | e
  ·exact hr k e
  ·exact Nat.le_trans h.be.size e
 ·refine(hf.block _ (ag h.zb) ?_).trans h.zb
  rintro(e | e | e | e)
  ·omega
  ·exact aR h.ma.mc.st.own h.zb (by decide) e
  ·exact aR h.ma.mc.pool h.zb (by decide) e
  ·exact aR h.ma.lg h.zb (by decide) e
theorem QS.next (h:QS w cls clo clc F vo vc script S0 j S L lo lc nO nC po pc wr) {pg pk z:Int} {i:Nat} (hs:script[j]?=some (pg,pk)) (hi:(cE S.fr S.G S.G.length)[dL pg (cE S.fr S.G S.G.length).length]?=some i) {S':cq} (hg:Cn cls S S' i pk z) (hl:mU F S'=false) {w':World} {lo':Option Addr} {lc':Nat} {nO':Option Addr} {nC':Nat} {po':Option Addr} {pc':Nat} (hm:dY w' (w.heap.size+1) cls clo clc F vo vc (L++[z]) lo' lc' S' nO' nC' po' pc') (hd:S'.D.length≤S.D.length+1100000) (hf:au (fun k=>k=w.heap.size+1∨rowOf nO k∨rowOf po k∨rowOf lo k) (fun k=>k=w.heap.size+1∨rowOf nO' k∨rowOf po' k∨rowOf lo' k) wr w'):QS w cls clo clc F vo vc script S0 (j+1) S' (L++[z]) lo' lc' nO' nC' po' pc' w':=by
 obtain⟨hb,hr,hz⟩:=h.frame hf
 obtain⟨hsm,dK⟩:=Gg hm hl
 exact⟨.step h.ru hs hi hg hl,hm,hsm,by omega,by rw[List.length_append,h.ll];rfl,by have:=h.dl;omega,hb,fun k q=>hr k (Or.inr q),hz⟩
end
theorem Jv (w:World) (cls:List Za.aL) (clo:Option Addr) (clc:Nat) (items:List Za.aH) (N:List (List UInt8)) (o:Option Addr) (n c:Nat) (script:List (Int×Int)) (so:Option Addr) (sc:Nat) (h:UG w cls clo items N o n script so):
 Calls Tryz.prog 28 #[.slice clo cls.length clc,.slice o n c,.slice so script.length sc] w fun e w'=>∃(F:List Nat) (S0:cq),CI N items F S0∧ui cls F script S0 w.heap.size e w'∧Below w.heap.size w w':=by
 have hb1:=((Below.refl w.heap.size w).alloc (Nat.le_refl _) (.cells #[.int .i64 0,.slice none 0 0,.slice none 0 0,.slice none 0 0,.slice none 0 0] 32)).alloc (by simp) (.cells #[.slice clo cls.length clc,.slice none 0 0,.slice none 0 0,.slice none 0 0,.slice none 0 0,.int .i64 0] 91)
 have hb2:=hb1.alloc hb1.size (.cells #[.slice none 0 0] 93)
 have RN:=aB (heap_alloc_new (w.alloc (.cells #[.int .i64 0,.slice none 0 0,.slice none 0 0,.slice none 0 0,.slice none 0 0] 32)) (.cells #[.slice clo cls.length clc,.slice none 0 0,.slice none 0 0,.slice none 0 0,.slice none 0 0,.int .i64 0] 91)) (.cells #[.slice none 0 0] 93)
 rw[World.size_alloc]at RN
 have hzb:=aB (aB (heap_alloc_new w (.cells #[.int .i64 0,.slice none 0 0,.slice none 0 0,.slice none 0 0,.slice none 0 0] 32)) (.cells #[.slice clo cls.length clc,.slice none 0 0,.slice none 0 0,.slice none 0 0,.slice none 0 0,.int .i64 0] 91)) (.cells #[.slice none 0 0] 93)
 have hcb:=heap_alloc_new ((w.alloc (.cells #[.int .i64 0,.slice none 0 0,.slice none 0 0,.slice none 0 0,.slice none 0 0] 32)).alloc (.cells #[.slice clo cls.length clc,.slice none 0 0,.slice none 0 0,.slice none 0 0,.slice none 0 0,.int .i64 0] 91)) (.cells #[.slice none 0 0] 93)
 simp only[World.size_alloc]at hcb
 have Yi:(((w.alloc (.cells #[.int .i64 0,.slice none 0 0,.slice none 0 0,.slice none 0 0,.slice none 0 0] 32)).alloc (.cells #[.slice clo cls.length clc,.slice none 0 0,.slice none 0 0,.slice none 0 0,.slice none 0 0,.int .i64 0] 91)).alloc (.cells #[.slice none 0 0] 93)).heap.size=w.heap.size+3:=by simp
 generalize hW:(((w.alloc (.cells #[.int .i64 0,.slice none 0 0,.slice none 0 0,.slice none 0 0,.slice none 0 0] 32)).alloc (.cells #[.slice clo cls.length clc,.slice none 0 0,.slice none 0 0,.slice none 0 0,.slice none 0 0,.int .i64 0] 91)).alloc (.cells #[.slice none 0 0] 93))=W2 at*
 have hst:bI W2 (w.heap.size+1) 1 (qj clo cls.length clc none 0 0 none 0 0 none 0 0 none 0 0 0) 91 [] none 0:=⟨RN,rfl,World.ownsRow_nil _ _ _ _,by decide⟩
 have xJ:gN (fun _=>True) W2 (w.heap.size+1) 1 (qj clo cls.length clc none 0 0 none 0 0 none 0 0 none 0 0 0) 91 (w.heap.size+1+1) [] [] none 0 none 0 id (fun n=> .v ([],n)):=⟨⟨hst,⟨hcb,World.ownsRow_nil _ _ _ _⟩,by decide,by decide,(fun d hd=>by cases hd)⟩,okD_empty,sto_empty,(fun v hv=>by cases hv)⟩
 have fE:cP W2 (w.heap.size+1) (qj clo cls.length clc none 0 0 none 0 0 none 0 0 none 0 0 0) [] none 0 id [] none 0:=⟨hst,okD_empty,rfl,World.ownsRow_nil _ _ _ _,(fun g hg=>by cases hg),(fun g hg=>by cases hg),(fun g hg=>by cases hg)⟩
 have IJ:=af (Cg W2 (w.heap.size+1) _ (w.heap.size+1+1) [] [] none 0 none 0 id _ (fun _=>True) [] none 0 N [] items o n c xJ fE (fun g hg=>by cases hg) (fun _ _=>trivial) (h.it.keep (aU.below hb2)) (fun x hx=>(h.gl x hx).ok) rfl h.nm (by have:=h.nl;omega) (by have:=h.il;omega) (by simp) (by simp))
 have HQ:=af h
 have bf:=af hb2
 have M6:=af hzb
 have YA:=af xJ
 have YB:=af fE
 have ly:=h.sl
 clear h hb1 hb2 RN hzb hcb hst xJ fE
 go_enter Tryz.func28,Tryz.ntmps28
 go_wp2_with fail
 refine(ae IJ).mono ?_
 rintro e w3 ⟨rfl,E,F,no',nc',vo',vc',T',Gn,po',pc',ej⟩
 have uJ:∀k,uP (w.heap.size+1) no' (w.heap.size+1+1) vo' po' k→w.heap.size≤k:=fun k q=>by
  rcases ej.fg.row k q with((e | ⟨_,e,_⟩ | e | ⟨_,e,_⟩) | ⟨_,e,_⟩) | e
  ·omega
  ·cases e
  ·omega
  ·cases e
  ·cases e
  ·omega
 have Gi:Below w.heap.size w w3:=(ae bf).trans (ej.fg.down (by omega) fun k q=>by
  rcases q with(e | ⟨_,e,_⟩ | e | ⟨_,e,_⟩) | ⟨_,e,_⟩
  ·omega
  ·cases e
  ·omega
  ·cases e
  ·cases e)
 have hz3:w3.heap[w.heap.size]?=some (.cells #[.int .i64 0,.slice none 0 0,.slice none 0 0,.slice none 0 0,.slice none 0 0] 32 (0,0)):=(ej.fg.block _ (ag (ae M6)) (fun q=>by
  rcases q with(e | ⟨_,e,_⟩ | e | ⟨_,e,_⟩) | ⟨_,e,_⟩
  ·omega
  ·cases e
  ·omega
  ·cases e
  ·cases e)).trans (ae M6)
 have RQ:dh w3 clo cls.length cls:=(eG.below Gi).cls (ae HQ).cl
 have UI:=dY.start ej RQ (ae HQ).gl
 have wO:=ej.ms
 have wP:=ej.mc
 have dC:=ej.nd
 have gP:=ej.nv
 have jm:=ej.ln
 have dK:=ej.gl
 have fC:=ej.el
 simp only[List.nil_append,List.length_nil]at wO wP dC gP jm dK
 have s0:=ah wO.ad.sc.blk 0
 have sz0:=ag wO.ad.sc.blk
 have m2:w3.cell? ⟨w.heap.size+1,2,none⟩=some (.slice none 0 0):=ah wP.st.blk 2
 have mx2:=ay wP.st.blk 2
 have mz3:=ag wP.st.blk
 simp only[List.getElem?_toArray,List.getElem?_cons_zero]at s0
 have qZ:∀f∈F,T' f= .v ([],f):=fun f hf=>by
  have:=pE (D:=[]) (E:=E) (F:=F) (fr:=id) (T':=T') (by simpa using wP.ok) (by simpa using wO.to) (by simpa using dC) (by simpa using gP) f hf
  exact this.2.2
 have hPS:CI N items F ⟨E,id,T',Gn⟩:=⟨rfl,dC,gP,jm,wO.lt,wO.to,wP.ok,dK⟩
 have hsm:Rx F ⟨E,id,T',Gn⟩:=by
  refine⟨fun v hv=> ?_,fun g hg x hx hne=> ?_⟩
  ·show Za.size (T' v)≤300
   rw[qZ v hv]
   simp[Za.size]
  ·change g∈Gn at hg
   show Za.size (T' x.toNat)≤300
   obtain⟨j,hj,rfl⟩:=List.getElem_of_mem hg
   have Ps:j<items.length:=by have:=dK.length;omega
   have hg1:=dK.at j Ps hj
   have Ea:items[j]∈items:=List.getElem_mem Ps
   obtain⟨M,hM⟩:=(ae HQ).nm
   have hs:=(ae HQ).sz _ Ea (cQ T' F N) (fun y hy=>by
    obtain⟨m,hm,he⟩:=Io (T:=T') hy hM jm
    rw[he,qZ m hm]
    simp[Za.size])
   have hgo:=(ae HQ).gl _ Ea
   rcases hx with rfl | rfl | rfl
   ·have e0:((Gn[j].l:Int)).toNat=Gn[j].l:=by simp
    rw[e0,hg1.tl]
    exact hs.1
   ·by_cases q:items[j].sign=[]
    ·exact absurd (hg1.r0 q) hne
    ·obtain⟨r,hr,_⟩:=hgo.ok.r1 q
     obtain⟨m,k1,k2,k3⟩:=hg1.r1 r hr
     rw[k1]
     have e0:((m:Int)).toNat=m:=by simp
     rw[e0,k3]
     exact hs.2.1 r hr
   ·by_cases q:items[j].op=[]
    ·exact absurd (hg1.z0 q) hne
    ·obtain⟨r,hr,_⟩:=hgo.ok.z1 q
     obtain⟨m,k1,k2,k3⟩:=hg1.z1 r hr
     rw[k1]
     have e0:((m:Int)).toNat=m:=by simp
     rw[e0,k3]
     exact hs.2.2 r hr
 have tT:Gn.length≤6:=by have:=dK.length;have:=(ae HQ).il;omega
 have hFl:F.length≤100:=by
  obtain⟨M,hM⟩:=(ae HQ).nm
  have h1:=(ae HQ).nl
  rw[hM,List.length_append]at h1
  omega
 have HST:=af (show UE w cls clo clc F vo' vc' script ⟨E,id,T',Gn⟩ script.length (.int .i64 0) (w3.setCell ⟨w.heap.size+1,2,none⟩ (.slice vo' F.length vc'))from by
  refine⟨0,⟨E,id,T',Gn⟩,[],none,0,no',nc',po',pc',by omega,rfl,⟨.start,UI,hsm,by show Gn.length≤100;omega,rfl,?_,Gi.setCell (Nat.le_succ _) _,fun k q=> ?_,(aJ _ _ _ _ (by simp)).trans hz3⟩⟩
  ·show E.length≤_
   have:=(ae HQ).il
   have:items.length*19683≤6*19683:=Nat.mul_le_mul_right _ this
   omega
  ·rcases q with q | q | ⟨_,q,_⟩
   ·exact uJ k (Or.inl (Or.inr (Or.inl q)))
   ·exact uJ k (Or.inr q)
   ·cases q)
 have vB:=af hPS
 clear ej uJ Gi hz3 RQ UI wO wP dC gP jm dK fC qZ hPS hsm tT IJ
 generalize (⟨E,id,T',Gn⟩:cq)=S0 at*
 go_wp2_with fail
 go_loopg [22] script.length (fun k iv wr=>UE w cls clo clc F vo' vc' script S0 k iv wr)
 case atStart=>exact ae HST
 case round=>
  clear HST s0 sz0 m2 mx2 mz3
  obtain⟨j,S,L,lo,lc,nO,nC,po,pc,hkj,rfl,uq⟩:=hrel
  by_cases hlt:j<script.length
  ·obtain⟨g,off,si,gz0,hcell⟩:=(ae HQ).sc (fun q=>by rw[q]at hlt;simp at hlt)
   subst si
   obtain⟨c0,c1⟩:=hcell j hlt
   have d0:=(uq.be.cell (p:=⟨g,off+j*2,none⟩) gz0).trans c0
   have d1:=(uq.be.cell (p:=⟨g,off+j*2+1,none⟩) gz0).trans c1
   have kP:=(ae HQ).sr _ (List.getElem_mem hlt)
   have hsj:script[j]?=some (script[j].1,script[j].2):=by rw[List.getElem?_eq_getElem hlt]
   have gz:g<wr.heap.size:=Nat.lt_of_lt_of_le gz0 uq.be.size
   have i0:(0:Int)≤(j:Int):=by omega
   have i1:(j:Int)<(script.length:Int):=by omega
   generalize script[j].1=pg at*
   generalize script[j].2=pk at*
   have Jn:=(Below.refl wr.heap.size wr).alloc (Nat.le_refl _) (.cells #[.int .i64 pg,.int .i64 pk] 62)
   have RR:=uq.below Jn
   have UJ:=heap_alloc_new wr (.cells #[.int .i64 pg,.int .i64 pk] 62)
   have fy:=B6 S.fr S.G S.G.length
   have dK:=uq.gl
   have IR:=af (zu _ _ _ S.D nO nC S.fr S.G po pc RR.ma.mc (by omega))
   have XS:=af RR
   have UK:=af UJ
   have aT:=af hkj
   have bh:=af hlt
   have RT:=af hsj
   have zh:=af kP
   have QB:j≤100:=by omega
   clear uq hkj hlt hsj kP hcell c0 c1 Jn RR UJ
   go_wp2_with fail
   refine(ae IR).mono ?_
   rintro e w5 ⟨oo,oc,rfl,how,bF⟩
   have nP:=(ae XS).below bF
   have CR:=(bF.block _ (ag (ae UK))).trans (ae UK)
   have k0:=ah CR 0
   have k1:=ah CR 1
   have kz:=ag CR
   simp only[List.getElem?_toArray,List.getElem?_cons_zero,List.getElem?_cons_succ]at k0 k1
   by_cases qc:cE S.fr S.G S.G.length=[]
   ·have t0:(((cE S.fr S.G S.G.length).length:Int) == 0)=true:=by rw[qc];rfl
    have t1:((cE S.fr S.G S.G.length).length == 0)=true:=by rw[qc];rfl
    have IFN:=af (zD w5 _ _ S.D nO nC S.fr S.G po pc nP.ma.mc (by omega) rfl)
    have CS:=af nP
    have km:=af qc
    clear nP CR how bF IR qc
    go_wp2_with fail
    refine(ae IFN).mono ?_
    rintro e w6 ⟨rfl,W,hbW,rfl⟩
    have IRS:=af (((ae CS).below hbW).res (ae HQ).pw hFl (Or.inr (ae km)))
    clear hbW IFN
    go_wp2_with fail
    refine(ae IRS).mono ?_
    rintro e w7 ⟨xo,xc,go,gc,yo,yc,rfl,CT,lq,gW,Jw⟩
    have z0:=ah gW
    have zx:=ay gW
    have zz:=ag gW
    have RU:=af (Jw [.int .i64 (gJ S.fr S.G),.slice lo L.length lc,.slice xo F.length xc,.slice go S.G.length gc,.slice yo S.G.length yc] rfl)
    have wQ:=af lq
    clear CT lq gW Jw IRS
    go_wp2_with fail
    refine bodyPost_ret (v:= .agg #[.int .i64 (gJ S.fr S.G),.slice lo L.length lc,.slice xo F.length xc,.slice go S.G.length gc,.slice yo S.G.length yc]) (by simp[results,Tryz.results28,go_sem,z0]) rfl ?_
    exact⟨F,S0,ae vB,ae RU,(((((ae wQ).setCell (Nat.le_refl _) _).setCell (Nat.le_refl _) _).setCell (Nat.le_refl _) _).setCell (Nat.le_refl _) _).setCell (Nat.le_refl _) _⟩
   ·have cu:0<(cE S.fr S.G S.G.length).length:=List.length_pos_iff.2 qc
    have hbg:=tX pg (cE S.fr S.G S.G.length).length cu
    obtain⟨rg,hrg⟩:∃rg,oo=some ⟨rg,0,none⟩:=by
     rcases how.2 with⟨q,q2⟩ | ⟨g,cp,cur,q,_⟩
     ·omega
     ·simp only[Value.slice.injEq]at q
      exact⟨g,q.1⟩
    subst hrg
    have rz:=(how.lt rg rfl).2
    have YC:w5.cell? ⟨rg,dL pg (cE S.fr S.G S.G.length).length,none⟩=some (.int .i64 ((cE S.fr S.G S.G.length)[dL pg (cE S.fr S.G S.G.length).length]:Int)):=by
     rw[how.cellAt _ (by omega),List.getElem?_map,List.getElem?_eq_getElem hbg]
     rfl
    have UL:(cE S.fr S.G S.G.length)[dL pg (cE S.fr S.G S.G.length).length]?=some (cE S.fr S.G S.G.length)[dL pg (cE S.fr S.G S.G.length).length]:=List.getElem?_eq_getElem hbg
    have sk:=Oo S.fr S.G S.G.length _ (List.getElem_mem hbg)
    have kP:=ae zh
    have IC:=af (fun W=>zI W pg (cE S.fr S.G S.G.length).length (by omega) kP.1.1 kP.1.2)
    generalize (cE S.fr S.G S.G.length)[dL pg (cE S.fr S.G S.G.length).length]=ii at*
    have RX:=af UL
    generalize UM:dL pg (cE S.fr S.G S.G.length).length=bq at*
    have RY:=af UM
    clear UM
    have t0:(((cE S.fr S.G S.G.length).length:Int) == 0)=false:=by simp;omega
    have t1:((cE S.fr S.G S.G.length).length == 0)=false:=by simp;omega
    have j0:(0:Int)≤(bq:Int):=by omega
    have j1:(bq:Int)<((cE S.fr S.G S.G.length).length:Int):=by omega
    have IST:=af (fun W (hu:Below w5.heap.size w5 W)=>(Lq W (w.heap.size+1) cls clo clc F vo' vc' L lo lc S nO nC po pc ii pk (nP.ma.below hu) (ae HQ).ok (ae HQ).cc sk (fun g hg=>by
     have:=nP.sm.2 g hg (g.l:Int) (Or.inl rfl) (by omega)
     simpa using this) kP.2.1 kP.2.2 (by have:=nP.dl;omega) (by omega) (by have:=nP.ll;omega) (by omega)).mono (fun e w' q=>And.intro q.1 (q.2.from hu)))
    have CS:=af nP
    clear nP CR how bF IR qc UL kP sk hbg cu
    generalize zt:(cE S.fr S.G S.G.length).length=rn at*
    have zK:=af zt
    clear zt
    go_wp2_with fail
    refine(ae IC _).mono ?_
    rintro e w5 ⟨rfl,rfl⟩
    go_wp2_with fail
    go_region_with (go_at_call 45;refine(ae IST _ (by first | exact Below.refl _ _ | exact(Below.refl _ _).drew | exact(Below.refl _ _).drew.drew | exact(Below.refl _ _).drew.drew.drew)).mono ?_;rintro y w6 ⟨rfl,hst⟩)
    all_goals
     obtain⟨lo',lc',hst⟩:=hst
     rcases hst with⟨z,S',nO',nC',po9,pc9,hgo,jl,hm,zf,hf⟩ | ⟨z,S',hgo,jl,hm,hf⟩ | ⟨en,hgo,hen,hm,hf⟩
     ·have Jb:=(ae CS).next (ae RT) (by rw[ae zK,ae RY];exact ae RX) hgo jl hm zf hf
      have f5:w6.cell? ⟨w.heap.size+1,5,none⟩=some (.int .i64 0):=ah hm.mc.st.blk 5
      have mz6:=ag hm.mc.st.blk
      have jx:=af Jb
      clear Jb hm hgo jl zf hf
      go_wp2_with fail
      go_roundg (gk - 1)
      case measure=>have:=ae aT;have:=ae bh;omega
      case rel=>exact⟨j+1,S',L++[z],lo',lc',nO',nC',po9,pc9,by have:=ae aT;have:=ae bh;omega,by go_num,ae jx⟩
     ·have nP:=ae CS
      obtain⟨CU,xB,yU⟩:=nP.frame hf
      have CV:∀k,rowOf lo' k→w.heap.size≤k:=fun k q=>xB k (Or.inr q)
      clear xB
      have DL:=hm
      obtain⟨cs6,gC,h66,h46,h56,RZ⟩:=hm
      have f5:=(ah gC 5).trans h56
      have mz6:=ag gC
      have t5:(6 == 0)=false:=rfl
      have IFE:=af (xI w6 _ cs6 _ 6 gC h56 (by decide))
      have IRE:=af (DL.res (Or.inr (Or.inr rfl)) CU yU CV)
      have R5:=af nP.ru
      clear nP CU yU CV DL gC h66 h46 h56 RZ hf
      have zN:=af hgo
      have Ei:=af jl
      clear hgo jl
      go_wp2_with fail
      refine(ae IFE).mono ?_
      rintro e w6 ⟨rfl,rfl⟩
      go_wp2_with fail
      refine(ae IRE).mono ?_
      rintro e w7 ⟨rfl,lq,gW,xT⟩
      have z0:=ah gW
      have zx:=ay gW
      have zz:=ag gW
      have wQ:=af lq
      have ld:=af xT
      clear lq gW xT IRE IFE
      go_wp2_with fail
      refine bodyPost_ret (v:= .agg #[.int .i64 6,.slice lo' (L++[z]).length lc',.slice none 0 0,.slice none 0 0,.slice none 0 0]) (by simp[results,Tryz.results28,go_sem,z0]) rfl ?_
      refine⟨F,S0,ae vB,⟨j,S,L,lo',lc',ae R5,Or.inr ⟨pg,pk,ii,6,z,ae RT,by rw[ae zK,ae RY];exact ae RX,Or.inr ⟨rfl,S',ae zN,ae Ei⟩,rfl,?_⟩⟩,(((((ae wQ).setCell (Nat.le_refl _) _).setCell (Nat.le_refl _) _).setCell (Nat.le_refl _) _).setCell (Nat.le_refl _) _).setCell (Nat.le_refl _) _⟩
      refine ct (ai (ae ld) fun k q=> ?_) (Nat.le_succ _)
      have hne:k≠w.heap.size:=by have:=((ae ld).lt k q).1;omega
      rw[aJ _ _ _ _ hne,aJ _ _ _ _ hne,aJ _ _ _ _ hne,aJ _ _ _ _ hne,aJ _ _ _ _ hne]
     ·have nP:=ae CS
      obtain⟨CU,xB,yU⟩:=nP.frame hf
      have CV:∀k,rowOf lo' k→w.heap.size≤k:=fun k q=>xB k (Or.inr q)
      clear xB
      have DL:=hm
      obtain⟨cs6,gC,h66,h46,h56,RZ⟩:=hm
      have f5:=(ah gC 5).trans h56
      have mz6:=ag gC
      have t5:(en == 0)=false:=by rcases hen with q | q<;>(rw[q];rfl)
      have IFE:=af (xI w6 _ cs6 _ en gC h56 (by rcases hen with q | q<;>(rw[q];decide)))
      have IRE:=af (DL.res (by rcases hen with q | q;exact Or.inl q;exact Or.inr (Or.inl q)) CU yU CV)
      have R5:=af nP.ru
      clear nP CU yU CV DL gC h66 h46 h56 RZ hf
      have zN:=af hgo
      have Q4:=af hen
      clear hgo hen
      go_wp2_with fail
      refine(ae IFE).mono ?_
      rintro e w6 ⟨rfl,rfl⟩
      go_wp2_with fail
      refine(ae IRE).mono ?_
      rintro e w7 ⟨rfl,lq,gW,xT⟩
      have z0:=ah gW
      have zx:=ay gW
      have zz:=ag gW
      have wQ:=af lq
      have ld:=af xT
      clear lq gW xT IRE IFE
      go_wp2_with fail
      refine bodyPost_ret (v:= .agg #[.int .i64 en,.slice lo' (L++[(-2)]).length lc',.slice none 0 0,.slice none 0 0,.slice none 0 0]) (by simp[results,Tryz.results28,go_sem,z0]) rfl ?_
      refine⟨F,S0,ae vB,⟨j,S,L,lo',lc',ae R5,Or.inr ⟨pg,pk,ii,en,(-2),ae RT,by rw[ae zK,ae RY];exact ae RX,Or.inl ⟨ae zN,ae Q4,rfl⟩,rfl,?_⟩⟩,(((((ae wQ).setCell (Nat.le_refl _) _).setCell (Nat.le_refl _) _).setCell (Nat.le_refl _) _).setCell (Nat.le_refl _) _).setCell (Nat.le_refl _) _⟩
      refine ct (ai (ae ld) fun k q=> ?_) (Nat.le_succ _)
      have hne:k≠w.heap.size:=by have:=((ae ld).lt k q).1;omega
      rw[aJ _ _ _ _ hne,aJ _ _ _ _ hne,aJ _ _ _ _ hne,aJ _ _ _ _ hne,aJ _ _ _ _ hne]
  ·obtain rfl:j=script.length:=by omega
   have dK:=uq.gl
   have IFN:=af (zD wr _ _ S.D nO nC S.fr S.G po pc uq.ma.mc (by omega) rfl)
   have CS:=af uq
   clear uq hkj hlt
   go_wp2_with fail
   refine(ae IFN).mono ?_
   rintro e w6 ⟨rfl,W,hbW,rfl⟩
   have IRS:=af (((ae CS).below hbW).res (ae HQ).pw hFl (Or.inl rfl))
   clear hbW IFN
   go_wp2_with fail
   refine(ae IRS).mono ?_
   rintro e w7 ⟨xo,xc,go,gc,yo,yc,rfl,CT,lq,gW,Jw⟩
   have z0:=ah gW
   have zx:=ay gW
   have zz:=ag gW
   have RU:=af (Jw [.int .i64 (gJ S.fr S.G),.slice lo L.length lc,.slice xo F.length xc,.slice go S.G.length gc,.slice yo S.G.length yc] rfl)
   have wQ:=af lq
   clear CT lq gW Jw IRS
   go_wp2_with fail
   refine bodyPost_ret (v:= .agg #[.int .i64 (gJ S.fr S.G),.slice lo L.length lc,.slice xo F.length xc,.slice go S.G.length gc,.slice yo S.G.length yc]) (by simp[results,Tryz.results28,go_sem,z0]) rfl ?_
   exact⟨F,S0,ae vB,ae RU,(((((ae wQ).setCell (Nat.le_refl _) _).setCell (Nat.le_refl _) _).setCell (Nat.le_refl _) _).setCell (Nat.le_refl _) _).setCell (Nat.le_refl _) _⟩
end Go.Proofs.YthfjnfcekeknlaaGreatDoor
namespace Za
def query (l:List aj):dQ (List aH):=match items 5 false true l with
 | .inl e=> .inl e
 | .inr ((ys,_,_),l1)=>if(hd l1).kind=0 then .inr (ys,l1)else bad 2 l1
theorem Oq {l:List aj} {e:Nat×Nat} (h:items 5 false true l= .inl e):query l= .inl e:=by unfold query;rw[h]
theorem Ez {l l1:List aj} {ys:List aH} {a b:Bool} (h:items 5 false true l= .inr ((ys,a,b),l1)) (hk:(hd l1).kind=0):query l= .inr (ys,l1):=by unfold query;rw[h];dsimp only;rw[if_pos hk]
theorem Ot {l l1:List aj} {ys:List aH} {a b:Bool} (h:items 5 false true l= .inr ((ys,a,b),l1)) (hk:(hd l1).kind≠0):query l=bad 2 l1:=by unfold query;rw[h];dsimp only;rw[if_neg hk]
end Za
namespace Go.Proofs.YthfjnfcekeknlaaGreatDoor
open Go.RowKit
def XT (r:Za.dQ (List Za.aH)) (w:World) (e:Ending) (w':World):Prop:=∃(o:Option Addr) (n cap er:Nat),e= .returned (.agg #[.slice o n cap,.int .i64 (er:Int)])∧(match r with
 | .inl (er',_)=>er=er'
 | .inr (ys,_)=>er=0∧cm (Za.aD [] ys) w' o n ys)∧Below w.heap.size w w'
theorem Ou (w:World) (s:ByteArray) (hs:96<s.size):
 Calls Tryz.prog 27 #[.string s] w fun e w'=>e= .returned (.agg #[.slice none 0 0,.int .i64 1])∧Below w.heap.size w w':=by
 have hsz:decide (96<(s.size:Int))=true:=by simp;omega
 go_enter Tryz.func27,Tryz.ntmps27
 go_wp2_with fail
 refine bodyPost_ret (v:= .agg #[.slice none 0 0,.int .i64 1]) (by simp[results,Tryz.results27,go_sem]) rfl ?_
 exact⟨rfl,(Below.refl _ _).alloc (Nat.le_refl _) _⟩
theorem Sa (w:World) (s:ByteArray) (L:List Za.aj) (hs:s.size≤96) (hL:Za.dT s L) (hh:Za.hd L=Za.next s 0) (hl:L.length≤1000) (aW:dM w) (h0:0<w.heap.size):
 Calls Tryz.prog 27 #[.string s] w fun e w'=>XT (Za.query L) w e w':=by
 have hsz:decide (96<(s.size:Int))=false:=by simp;omega
 have jJ:=af aW
 clear aW
 go_enter Tryz.func27,Tryz.ntmps27
 go_wp2_with fail
 refine(vT s 0 _ (by unfold maxLen;omega) (Nat.zero_le _) ((ae jJ).below ((Below.refl _ _).alloc (Nat.le_refl _) _) h0) (by simp)).mono ?_
 rintro e w1 ⟨rfl,hb1⟩
 have B0:=((ae jJ).below ((Below.refl _ _).alloc (Nat.le_refl _) (.cells #[.slice none 0 0,.int .i64 0] 56)) h0).below hb1 (by simp)
 have qQ:w.heap.size<w1.heap.size:=by have:=hb1.size;simp at this;omega
 have HS:=af (G2 B0 (by omega) hL hh hl (by omega))
 have aY:=af (aB ((hb1.block w.heap.size (by simp)).trans (heap_alloc_new w (.cells #[.slice none 0 0,.int .i64 0] 56))) (.cells #[.string s,.int .i64 ((Za.next s 0).kind:Int),.int .i64 ((Za.next s 0).pos:Int),.string (Za.next s 0).text,.slice none 0 0,.int .i64 0] 73))
 have dD:=af ((((Below.refl w.heap.size w).alloc (Nat.le_refl _) (.cells #[.slice none 0 0,.int .i64 0] 56)).trans (hb1.mono (by simp))).alloc (by omega) (.cells #[.string s,.int .i64 ((Za.next s 0).kind:Int),.int .i64 ((Za.next s 0).pos:Int),.string (Za.next s 0).text,.slice none 0 0,.int .i64 0] 73))
 clear hb1 B0 jJ hL hh hl
 generalize (Za.next s 0).kind=tk at*
 generalize (Za.next s 0).pos=tp at*
 generalize (Za.next s 0).text=tt at*
 have YD:(w1.alloc (.cells #[.string s,.int .i64 (tk:Int),.int .i64 (tp:Int),.string tt,.slice none 0 0,.int .i64 0] 73)).heap.size=w1.heap.size+1:=by simp
 have I:=af (p9 _ w1.heap.size s L [] (.slice none 0 0) 0 false true (ae HS))
 go_wp2_with fail
 refine(ae I).mono ?_
 generalize hW:w1.alloc (.cells #[.string s,.int .i64 (tk:Int),.int .i64 (tp:Int),.string tt,.slice none 0 0,.int .i64 0] 73)=W at*
 generalize mA:w1.heap.size=rb at*
 clear I hW mA
 generalize hr:Za.items 5 false true L=r
 have HR:=af hr
 clear hr
 rcases r with⟨er,pos⟩ | ⟨⟨ys,tb,gb⟩,l1⟩
 ·rintro e w2 ⟨l',ns',nv',rfl,hs2,-,hk2⟩
  have hz2:=hk2.size
  have b0:=aq hk2 (ae aY) (by simp;omega)
  have y0:=ah b0
  have x0:=ay b0
  have z0:=ag b0
  have c5:=hs2.rd.c5
  have zr:=hs2.lt
  have dy:=af (show Below w.heap.size w w2 from (ae dD).trans (hk2.below (by have:=(ae dD).size;omega) (by omega) (by simp;omega)))
  have zw:w.heap.size≤w2.heap.size:=(ae dy).size
  clear hs2 hk2 b0
  go_wp2_with fail
  refine bodyPost_ret (v:= .agg #[.slice none 0 0,.int .i64 er]) (by simp[results,Tryz.results27,go_sem,y0,z0,World.cell?_alloc_past]) rfl ?_
  rw[Za.Oq (ae HR)]
  exact⟨none,0,0,er,rfl,rfl,by first | exact(((ae dy).setCell (Nat.le_refl _) _).setCell (Nat.le_refl _) _).alloc (by simp only[cL];omega) _ | exact(((ae dy).alloc (by omega) _).setCell (Nat.le_refl _) _).setCell (Nat.le_refl _) _⟩
 ·rintro e w2 ⟨ao,n,cap,ns',nv',e',rfl,⟨hit,kJ⟩,hs2,hk2⟩
  have hz2:=hk2.size
  have b0:=aq hk2 (ae aY) (by simp;omega)
  have zr:=hs2.lt
  have dy:=af (show Below w.heap.size w w2 from (ae dD).trans (hk2.below (by have:=(ae dD).size;omega) (by omega) (by simp;omega)))
  have zw:w.heap.size≤w2.heap.size:=(ae dy).size
  have cg:=af hs2
  have kC:=af b0
  have MC:=af hit
  have gT:=af kJ
  have y0:=ah b0
  have x0:=ay b0
  have z0:=ag b0
  clear hs2 hk2 b0 hit kJ
  by_cases hk:(Za.hd l1).kind=0
  ·have HW:=af (Za.Ez (ae HR) hk)
   go_wp2_with fail
   refine(NJ _ rb s l1 ns' _ e' ((ae cg).below ((Below.refl _ _).alloc (Nat.le_refl _) _)) hk).mono ?_
   rintro e w3 ⟨rfl,rfl⟩
   clear hk
   go_wp2_with fail
   refine bodyPost_ret (v:= .agg #[.slice ao n cap,.int .i64 0]) (by simp[results,Tryz.results27,go_sem,y0,z0,World.cell?_alloc_past]) rfl ?_
   rw[ae HW]
   have hne:∀{g:Nat} {cs:Array Value} {Y:TypeId},w2.heap[g]?=some (.cells cs Y (0,0))→Y≠56→g≠w.heap.size:=fun {g cs Y} hg hY e=>by
    rw[e,ae kC]at hg
    simp only[Option.some.injEq,Obj.cells.injEq]at hg
    exact hY hg.2.1.symm
   refine⟨ao,n,cap,0,rfl,⟨rfl,?_⟩,(((ae dy).setCell (Nat.le_refl _) _).setCell (Nat.le_refl _) _).alloc (by simp only[cL];omega) _⟩
   have hn:aV ns'=Za.aD [] ys:=ae gT
   rw[←hn]
   refine(ae MC).keep ⟨fun g cs hg _=> ?_,fun g cs hg _=> ?_⟩
   ·have q:=hne hg (by decide)
    rw[Below.heap_alloc _ _ _ (by simp only[cL];exact ag hg),aJ _ _ _ _ q,aJ _ _ _ _ q]
    exact hg
   ·have q:=hne hg (by decide)
    rw[Below.heap_alloc _ _ _ (by simp only[cL];exact ag hg),aJ _ _ _ _ q,aJ _ _ _ _ q]
    exact hg
  ·have HW:=af (Za.Ot (ae HR) hk)
   go_wp2_with fail
   refine(NK _ rb s l1 ns' _ e' ((ae cg).below ((Below.refl _ _).alloc (Nat.le_refl _) _)) hk).mono ?_
   clear hk
   rintro e w3 ⟨rfl,hs3,hk3⟩
   have b3:=aq hk3 (aB (ae kC) _) (by simp;omega)
   have y3:=ah b3
   have x3:=ay b3
   have z3:=ag b3
   have c5:=hs3.rd.c5
   have zr3:=hs3.lt
   have nS:=af (show Below w.heap.size w w3 from ((ae dy).alloc (ae dy).size _).trans (hk3.below (by have:=(ae dy).size;simp;omega) (by omega) (by simp;omega)))
   clear hs3 hk3 b3 y0 x0 z0
   go_wp2_with fail
   refine bodyPost_ret (v:= .agg #[.slice none 0 0,.int .i64 2]) (by simp[results,Tryz.results27,go_sem,y3]) rfl ?_
   rw[ae HW]
   exact⟨none,0,0,2,rfl,rfl,((ae nS).setCell (Nat.le_refl _) _).setCell (Nat.le_refl _) _⟩
end Go.Proofs.YthfjnfcekeknlaaGreatDoor
namespace Za
def NZ {α:Type} (r:dQ α):Prop:=∀e,r= .inl e→e.1≠0
theorem fO {α:Type} {e:Nat} (he:e≠0) (l:List aj):NZ (bad (α:=α) e l):=fun x hx=>by
 unfold bad at hx
 cases hx
 exact he
theorem e9 {α:Type} (x:α×List aj):NZ (.inr x:dQ α):=fun e he=>by cases he
theorem Ov {p:List aj→dQ Tm} (hp:∀l,NZ (p l)):∀(k:Nat) (l:List aj),NZ (bM p k l):=by
 intro k
 induction k with
 | zero=>
  intro l
  unfold bM
  cases hr:p l with
  | inl e=>intro x hx;cases hx;exact hp l e hr
  | inr r=>
   dsimp only
   split
   ·exact fO (by omega) _
   ·split
    ·exact e9 _
    ·exact fO (by omega) _
 | succ k ih=>
  intro l
  unfold bM
  cases hr:p l with
  | inl e=>intro x hx;cases hx;exact hp l e hr
  | inr r=>
   dsimp only
   split
   ·have:=ih r.2.tail
    cases hq:bM p k r.2.tail with
    | inl e=>intro x hx;cases hx;exact this e hq
    | inr q=>exact e9 _
   ·split
    ·exact e9 _
    ·exact fO (by omega) _
theorem nz_term:∀(f:Nat) (l:List aj),NZ (term f l):=by
 intro f
 induction f with
 | zero=>
  intro l
  unfold term
  split
  ·exact fO (by omega) _
  ·exact fO (by omega) _
 | succ f ih=>
  intro l
  unfold term
  split
  ·split
   ·exact fO (by omega) _
   ·split
    ·split
     ·have:=Ov ih 2 l.tail.tail
      cases hq:bM (term f) 2 l.tail.tail with
      | inl e=>intro x hx;cases hx;exact this e hq
      | inr q=>exact e9 _
     ·exact e9 _
    ·exact e9 _
  ·exact fO (by omega) _
theorem xU (l:List aj):NZ (operand l):=by
 unfold operand
 split
 ·exact fO (by omega) _
 ·exact nz_term 8 l
theorem CW (t:Tm) (b:Bool) (l:List aj):NZ (sides t b l):=by
 unfold sides
 split
 ·cases hq:term 8 l.tail with
  | inl e=>intro x hx;cases hx;exact nz_term 8 _ e hq
  | inr q=>exact e9 _
 ·exact fO (by omega) _
theorem Jx (t:Tm) (b:Bool) (l:List aj):NZ (assignment t b l):=by
 unfold assignment
 split
 ·cases hq:operand l.tail with
  | inl e=>intro x hx;cases hx;exact xU _ e hq
  | inr q=>
   dsimp only
   split
   ·cases jy:operand q.2.tail with
    | inl e=>intro x hx;cases hx;exact xU _ e jy
    | inr q2=>exact e9 _
   ·exact e9 _
 ·exact fO (by omega) _
theorem EA (a b:Bool) (l:List aj):NZ (item a b l):=by
 unfold item
 cases hq:term 8 l with
 | inl e=>intro x hx;cases hx;exact nz_term 8 _ e hq
 | inr q=>
  dsimp only
  split
  ·cases h2:sides q.1 a q.2 with
   | inl e=>intro x hx;cases hx;exact CW _ _ _ e h2
   | inr q2=>exact e9 _
  ·split
   ·cases h2:sides q.1 b q.2 with
    | inl e=>intro x hx;cases hx;exact CW _ _ _ e h2
    | inr q2=>exact e9 _
   ·split
    ·cases h2:assignment q.1 b q.2 with
     | inl e=>intro x hx;cases hx;exact Jx _ _ _ e h2
     | inr q2=>exact e9 _
    ·split
     ·exact e9 _
     ·exact fO (by omega) _
theorem nz_items:∀(k:Nat) (a b:Bool) (l:List aj),NZ (items k a b l):=by
 intro k
 induction k with
 | zero=>
  intro a b l
  unfold items
  cases hq:item a b l with
  | inl e=>intro x hx;cases hx;exact EA _ _ _ e hq
  | inr q=>
   dsimp only
   split
   ·exact fO (by omega) _
   ·exact e9 _
 | succ k ih=>
  intro a b l
  unfold items
  cases hq:item a b l with
  | inl e=>intro x hx;cases hx;exact EA _ _ _ e hq
  | inr q=>
   dsimp only
   split
   ·cases h2:items k q.1.2.1 q.1.2.2 q.2.tail with
    | inl e=>intro x hx;cases hx;exact ih _ _ _ e h2
    | inr q2=>exact e9 _
   ·exact e9 _
theorem L3 (l:List aj):NZ (query l):=by
 unfold query
 cases hq:items 5 false true l with
 | inl e=>intro x hx;cases hx;exact nz_items _ _ _ _ e hq
 | inr q=>
  dsimp only
  split
  ·exact e9 _
  ·exact fO (by omega) _
theorem Ow (l:List aj):NZ (body l):=by
 unfold body
 cases hq:items 5 true true l with
 | inl e=>intro x hx;cases hx;exact nz_items _ _ _ _ e hq
 | inr q=>
  dsimp only
  split
  ·cases h2:items 5 false true q.2.tail with
   | inl e=>intro x hx;cases hx;exact nz_items _ _ _ _ e h2
   | inr q2=>
    dsimp only
    split
    ·exact e9 _
    ·exact fO (by omega) _
  ·split
   ·exact e9 _
   ·exact fO (by omega) _
theorem EB {α:Type} (x:α) (l:List aj):NZ (stop x l):=by
 unfold stop
 split
 ·exact e9 _
 ·exact fO (by omega) _
theorem zR (b:Bool) (l:List aj):NZ (clause b l):=by
 unfold clause
 split
 ·split
  ·cases hq:term 8 l with
   | inl e=>intro x hx;cases hx;exact nz_term 8 _ e hq
   | inr q=>
    dsimp only
    split
    ·cases h2:body q.2.tail with
     | inl e=>intro x hx;cases hx;exact Ow _ e h2
     | inr q2=>exact EB _ _
    ·exact EB _ _
  ·exact fO (by omega) _
 ·exact fO (by omega) _
theorem nz_prog:∀(k:Nat) (l:List aj),NZ (prog k l):=by
 intro k
 induction k with
 | zero=>
  intro l
  unfold prog
  split
  ·exact e9 _
  ·cases hq:clause false l with
   | inl e=>intro x hx;cases hx;exact zR _ _ e hq
   | inr q=>exact e9 _
 | succ k ih=>
  intro l
  unfold prog
  split
  ·exact e9 _
  ·cases hq:clause true l with
   | inl e=>intro x hx;cases hx;exact zR _ _ e hq
   | inr q=>
    dsimp only
    cases h2:prog k q.2 with
    | inl e=>intro x hx;cases hx;exact ih _ e h2
    | inr q2=>exact e9 _
def jz (t:Tm):Nat:=size (pQ 8 0 t)
theorem rP {l l1:List aj} {t:Tm} (h:term 8 l= .inr (t,l1)):jz t+l1.length≤l.length:=by
 obtain⟨c,h1,h2⟩:=GH 0 8 l t l1 h
 have:=h2.2
 rw[subs_len]at this
 unfold jz
 omega
def zS (x:aH):Nat:=jz x.left+x.right.elim 0 jz+x.last.elim 0 jz
theorem gL {l:List aj} {g:List UInt8} (h:sees l g=true):(hd l).text.toList=g:=by
 unfold sees at h
 simp only[Bool.and_eq_true,beq_iff_eq]at h
 exact h.2
theorem Ac {l:List aj} (h:bu l=true):((hd l).text.toList=[61,61]∨(hd l).text.toList=[92,61]∨(hd l).text.toList=[61,60]∨(hd l).text.toList=[60])∧l.length=l.tail.length+1:=by
 unfold bu at h
 simp only[Bool.or_eq_true]at h
 rcases h with((h | h) | h) | h
 ·exact⟨Or.inr (Or.inr (Or.inr (gL h))),dO h⟩
 ·exact⟨Or.inr (Or.inr (Or.inl (gL h))),dO h⟩
 ·exact⟨Or.inl (gL h),dO h⟩
 ·exact⟨Or.inr (Or.inl (gL h)),dO h⟩
theorem Ad {l:List aj} (h:gp l=true):(hd l).text.toList.length=1∧l.length=l.tail.length+1:=by
 unfold gp at h
 simp only[Bool.or_eq_true]at h
 rcases h with(h | h) | h
 ·exact⟨by rw[gL h];rfl,dO h⟩
 ·exact⟨by rw[gL h];rfl,dO h⟩
 ·exact⟨by rw[gL h];rfl,dO h⟩
theorem xV {l l1:List aj} {t:Tm} (h:operand l= .inr (t,l1)):wfK 8 t∧jz t+l1.length≤l.length:=by
 unfold operand at h
 split at h
 ·cases h
 ·exact⟨wfK_term 8 l t l1 h,rP h⟩
theorem CX {t:Tm} {b:Bool} {l l2:List aj} {x:aH} (h:sides t b l= .inr (x,l2)):b=true∧∃r,x=⟨t,(hd l).text.toList,some r,[],none⟩∧wfK 8 r∧jz r+l2.length≤l.tail.length:=by
 unfold sides at h
 split at h
 ·rename_i hb
  cases hq:term 8 l.tail with
  | inl e=>rw[hq]at h;cases h
  | inr q=>
   obtain⟨r,l3⟩:=q
   rw[hq]at h
   cases h
   exact⟨hb,r,rfl,wfK_term 8 _ r _ hq,rP hq⟩
 ·cases h
theorem Jy {t:Tm} {b:Bool} {l l2:List aj} {x:aH} (h:assignment t b l= .inr (x,l2)):b=true∧∃r,wfK 8 r∧((x=⟨t,(hd l).text.toList,some r,[],none⟩∧jz r+l2.length≤l.tail.length)∨∃o z,o.length=1∧wfK 8 z∧x=⟨t,(hd l).text.toList,some r,o,some z⟩∧jz r+jz z+l2.length≤l.tail.length):=by
 unfold assignment at h
 split at h
 ·rename_i hb
  cases hq:operand l.tail with
  | inl e=>rw[hq]at h;cases h
  | inr q=>
   obtain⟨r,l3⟩:=q
   rw[hq]at h
   dsimp only at h
   obtain⟨w1,s1⟩:=xV hq
   split at h
   ·rename_i ho
    obtain⟨o1,o2⟩:=Ad ho
    cases jy:operand l3.tail with
    | inl e=>rw[jy]at h;cases h
    | inr q2=>
     obtain⟨z,l4⟩:=q2
     rw[jy]at h
     cases h
     obtain⟨w2,s2⟩:=xV jy
     exact⟨hb,r,w1,Or.inr ⟨_,z,o1,w2,rfl,by omega⟩⟩
   ·cases h
    exact⟨hb,r,w1,Or.inl ⟨rfl,s1⟩⟩
 ·cases h
theorem EC {a b t1 g1:Bool} {l l1:List aj} {x:aH} (h:item a b l= .inr ((x,t1,g1),l1)):(t1=true→a=true∧iG x)∧(g1=true→b=true∧i7 x)∧(a=false→b=true→g1=true)∧zS x+l1.length≤l.length:=by
 unfold item at h
 cases hq:term 8 l with
 | inl e=>rw[hq]at h;cases h
 | inr q=>
  obtain⟨t,l2⟩:=q
  rw[hq]at h
  dsimp only at h
  have wt:=wfK_term 8 l t l2 hq
  have st:=rP hq
  split at h
  ·rename_i hs
   obtain⟨s1,s2⟩:=Ac hs
   cases h2:sides t a l2 with
   | inl e=>rw[h2]at h;cases h
   | inr q2=>
    obtain⟨y,l3⟩:=q2
    rw[h2]at h
    obtain⟨ha,r,rfl,wr,sr⟩:=CX h2
    cases h
    refine⟨fun _=>⟨ha,⟨wt,(fun r' q=>by cases q;exact wr),(fun q=>by cases q),(fun r' q=>by cases q;exact s1),rfl⟩⟩,(fun q=>by cases q),(fun q=>by rw[ha]at q;cases q),?_⟩
    show jz t+jz r+0+l1.length≤l.length
    omega
  ·split at h
   ·rename_i hs
    have s1:=gL hs
    have s2:=dO hs
    cases h2:sides t b l2 with
    | inl e=>rw[h2]at h;cases h
    | inr q2=>
     obtain⟨y,l3⟩:=q2
     rw[h2]at h
     obtain⟨hb,r,rfl,wr,sr⟩:=CX h2
     cases h
     refine⟨(fun q=>by cases q),fun _=>⟨hb,⟨⟨wt,fun q=> ?_,fun _=>⟨r,rfl,wr⟩,fun _=>rfl,fun q=>absurd rfl q,fun q=>absurd rfl q⟩,Or.inr (Or.inl s1),fun q=> ?_,fun q=>absurd rfl q,by simp⟩⟩,fun _ q=>q,?_⟩
     ·change (hd l2).text.toList=[]at q;rw[s1]at q;cases q
     ·change (hd l2).text.toList=[]at q;rw[s1]at q;cases q
     ·show jz t+jz r+0+l1.length≤l.length
      omega
   ·split at h
    ·rename_i hs
     have s1:=gL hs.2
     have s2:=dO hs.2
     cases h2:assignment t b l2 with
     | inl e=>rw[h2]at h;cases h
     | inr q2=>
      obtain⟨y,l3⟩:=q2
      rw[h2]at h
      obtain⟨hb,r,wr,hx⟩:=Jy h2
      cases h
      rcases hx with⟨rfl,sr⟩ | ⟨o,z,ho,wz,rfl,sr⟩
      ·refine⟨(fun q=>by cases q),fun _=>⟨hb,⟨⟨wt,fun q=> ?_,fun _=>⟨r,rfl,wr⟩,fun _=>rfl,fun q=>absurd rfl q,fun q=>absurd rfl q⟩,Or.inr (Or.inr s1),fun q=> ?_,fun q=>absurd rfl q,by simp⟩⟩,fun _ q=>q,?_⟩
       ·change (hd l2).text.toList=[]at q;rw[s1]at q;cases q
       ·change (hd l2).text.toList=[]at q;rw[s1]at q;cases q
       ·show jz t+jz r+0+l1.length≤l.length
        omega
      ·refine⟨(fun q=>by cases q),fun _=>⟨hb,⟨⟨wt,fun q=> ?_,fun _=>⟨r,rfl,wr⟩,fun q=> ?_,fun _=>⟨z,rfl,wz⟩,fun _ q=> ?_⟩,Or.inr (Or.inr s1),fun q=> ?_,fun _=>s1,by show o.length≤2;omega⟩⟩,fun _ q=>q,?_⟩
       ·change (hd l2).text.toList=[]at q;rw[s1]at q;cases q
       ·change o=[]at q;rw[q]at ho;cases ho
       ·change (hd l2).text.toList=[]at q;rw[s1]at q;cases q
       ·change (hd l2).text.toList=[]at q;rw[s1]at q;cases q
       ·show jz t+jz r+jz z+l1.length≤l.length
        omega
    ·split at h
     ·rename_i hk
      cases h
      refine⟨fun q=> ?_,fun q=>⟨q,⟨⟨wt,fun _=>rfl,fun q=>absurd rfl q,fun _=>rfl,fun q=>absurd rfl q,fun q=>absurd rfl q⟩,Or.inl rfl,fun _=>hk.1,fun q=>absurd rfl q,by simp⟩⟩,fun _ q=>q,?_⟩
      ·simp only[Bool.and_eq_true]at q
       refine⟨q.1,⟨wt,(fun r q=>by cases q),fun _=>⟨rfl,hk.1,?_⟩,(fun r q=>by cases q),rfl⟩⟩
       have:=q.2
       unfold isInt at this
       simp only[Bool.and_eq_true,beq_iff_eq]at this
       exact this.2
      ·show jz t+0+0+l1.length≤l.length
       omega
     ·cases h
def oF (xs:List aH):Nat:=(xs.map zS).sum
theorem items_is:∀(k:Nat) (a b t1 g1:Bool) (l l1:List aj) (xs:List aH),items k a b l= .inr ((xs,t1,g1),l1)→(t1=true→a=true∧∀x∈xs,iG x)∧(g1=true→b=true∧∀x∈xs,i7 x)∧(a=false→b=true→g1=true)∧oF xs+l1.length≤l.length∧xs.length≤k+1:=by
 intro k
 induction k with
 | zero=>
  intro a b t1 g1 l l1 xs h
  unfold items at h
  cases hq:item a b l with
  | inl e=>rw[hq]at h;cases h
  | inr q=>
   obtain⟨⟨x,t2,g2⟩,l2⟩:=q
   rw[hq]at h
   dsimp only at h
   obtain⟨h1,h2,h3,h4⟩:=EC hq
   split at h
   ·cases h
   ·cases h
    refine⟨fun q=>⟨(h1 q).1,fun y hy=> ?_⟩,fun q=>⟨(h2 q).1,fun y hy=> ?_⟩,h3,by simpa [oF] using h4,by simp⟩
    ·rw[List.mem_singleton.1 hy];exact(h1 q).2
    ·rw[List.mem_singleton.1 hy];exact(h2 q).2
 | succ k ih=>
  intro a b t1 g1 l l1 xs h
  unfold items at h
  cases hq:item a b l with
  | inl e=>rw[hq]at h;cases h
  | inr q=>
   obtain⟨⟨x,t2,g2⟩,l2⟩:=q
   rw[hq]at h
   dsimp only at h
   obtain⟨h1,h2,h3,h4⟩:=EC hq
   split at h
   ·rename_i hs
    have s2:=dO hs
    cases jy:items k t2 g2 l2.tail with
    | inl e=>rw[jy]at h;cases h
    | inr q2=>
     obtain⟨⟨ys,t3,g3⟩,l3⟩:=q2
     rw[jy]at h
     cases h
     obtain⟨k1,k2,k3,k4,k5⟩:=ih _ _ _ _ _ _ _ jy
     refine⟨fun q=>⟨(h1 (k1 q).1).1,fun y hy=> ?_⟩,fun q=>⟨(h2 (k2 q).1).1,fun y hy=> ?_⟩,fun qa qb=> ?_,?_,by simp;omega⟩
     ·rcases List.mem_cons.1 hy with rfl | hy
      ·exact(h1 (k1 q).1).2
      ·exact(k1 q).2 y hy
     ·rcases List.mem_cons.1 hy with rfl | hy
      ·exact(h2 (k2 q).1).2
      ·exact(k2 q).2 y hy
     ·refine k3 ?_ (h3 qa qb)
      cases ht:t2 with
      | false=>rfl
      | true=>have:=(h1 ht).1;rw[qa]at this;cases this
     ·have:oF (x :: ys)=zS x+oF ys:=by simp[oF]
      omega
   ·cases h
    refine⟨fun q=>⟨(h1 q).1,fun y hy=> ?_⟩,fun q=>⟨(h2 q).1,fun y hy=> ?_⟩,h3,by simpa [oF] using h4,by simp⟩
    ·rw[List.mem_singleton.1 hy];exact(h1 q).2
    ·rw[List.mem_singleton.1 hy];exact(h2 q).2
end Za
namespace Za
open Go
theorem M7 {x:List UInt8} {s:ByteArray} (h:s=⟨x.toArray⟩):At s 0 x:=by
 have:=At.start s
 rw[h]at this⊢
 simpa using this
theorem Ox {x:aH} {xs:List aH} {s:ByteArray} (hs:s=⟨(jf idS false (x :: xs)).toArray⟩) (hl:xs.length≤5) (hx:ju idS x) (hy:∀y∈xs,ju idS y) {L:List aj} (hL:dT s L) (hh:hd L=next s 0):∃l',query L= .inr ((x :: xs).map (sR idS),l'):=by
 obtain⟨l',e,k,a⟩:=rh (σ:=idS) (b:=false) (tl:=[]) (Or.inl rfl) xs x 5 false hl hx hy s 0 L ⟨hL,hh⟩ (by rw[List.append_nil];exact M7 hs)
 exact⟨l',Ez e (k.done a)⟩
end Za
namespace Za
open Go.Proofs.YthfjnfcekeknlaaGreatDoor (dL)
theorem tX (p:Int) {n:Nat} (h:0<n):dL p n<n:=by
 unfold dL
 rw[if_neg (by omega)]
 have h1:=Int.emod_nonneg p (b:=(n:Int)) (by omega)
 have h2:=Int.emod_lt_of_pos p (b:=(n:Int)) (by omega)
 omega
theorem xW {u:U} (h:size u≤40):big u=false:=by unfold big;exact decide_eq_false (by omega)
theorem size_z:size zU=1:=by unfold zU;simp[size,sizeL]
theorem pJ {α β:Type} (f:α→β):∀(l:List α) (p:Nat),(l.map f).eraseIdx p=(l.eraseIdx p).map f
 | [],p=>by simp
 | a :: l,0=>rfl
 | a :: l,p+1=>by
  rw[List.map_cons,List.eraseIdx_cons_succ,List.eraseIdx_cons_succ,List.map_cons,pJ f l p]
theorem nr {α:Type} {l:List α} {p:Nat} {x:α} (h:l.Nodup) (hp:l[p]?=some x):(l.eraseIdx p).Nodup∧∀y,y∈l.eraseIdx p↔y∈l∧y≠x:=by
 obtain⟨hl,rfl⟩:=List.getElem?_eq_some_iff.1 hp
 refine⟨h.sublist (List.eraseIdx_sublist _ _),fun y=>⟨fun q=>⟨List.mem_of_mem_eraseIdx q,?_⟩,fun⟨q1,q2⟩=> ?_⟩⟩
 ·rintro rfl
  obtain⟨j,hj,hne,e⟩:=List.mem_eraseIdx_iff_getElem.1 q
  exact hne ((List.getElem_inj h).1 e)
 ·obtain⟨j,hj,rfl⟩:=List.mem_iff_getElem.1 q1
  exact List.mem_eraseIdx_iff_getElem.2 ⟨j,hj,fun e=>q2 (by subst e;rfl),rfl⟩
end Za
