import Derived.Test.YthfjnfcekeknlaaGreatDoorAp35
import Derived.Deep.DeepCutAuto
import Derived.Deep.LoopGhost
set_option maxHeartbeats 8000000
set_option maxRecDepth 100000
namespace Go.Proofs.YthfjnfcekeknlaaGreatDoor
open Go.RowKit
structure VS (w:World) (T:Nat→Za.U) (V:List Nat) (en:Int) (lo:Option Addr) (ln lc:Nat) (N:List Nat) (mo:Option Addr) (mc:Nat) (xo:Option Addr) (xc:Nat) (wr:World):Prop where
 nm:eR wr (w.heap.size+2) N mo mc
 vr:Za.bu N=(eE T V).2
 nl:N.length≤V.length*1000
 rw_:∀k,rowOf mo k→w.heap.size+3≤k
 ow:wr.ownsRow (w.heap.size+3) 9 1 (.slice xo V.length xc) V.length ((eE T V).1.map iw)
 rb:wr.heap[w.heap.size+1]?=some (.cells #[.int .i64 en,.slice lo ln lc,.slice xo V.length xc,.slice none 0 0,.slice none 0 0] 32 (0,0))
 zb:wr.heap[w.heap.size]?=some (.cells #[.int .i64 0,.slice none 0 0,.slice none 0 0,.slice none 0 0,.slice none 0 0] 32 (0,0))
 be:Below w.heap.size w wr
theorem py {w4 w7:World} {n cell b rb:Nat} {xo:Option Addr} {xc:Nat} {Y:TypeId} {X:Obj} {xs:List Value} {C:Array Value} (ho:w4.ownsRow b Y 1 (.slice xo n xc) n xs) (hgr:(w4.alloc X).grownBy w7 (Value.slice xo n xc).ownBlock) (mr:w4.heap[rb]?=some (.cells C 32 (0,0))) (hY:Y≠32) (v:Value):
 (∀k,k≠rb→¬rowOf xo k→k<w4.heap.size→(w7.setCell ⟨rb,cell,none⟩ v).heap[k]?=w4.heap[k]?)∧(w7.setCell ⟨rb,cell,none⟩ v).heap[rb]?=some (.cells (C.setIfInBounds cell v) 32 (0,0)):=by
 have hz:=ag mr
 refine⟨fun k h1 h2 h3=> ?_,?_⟩
 ·rw[aJ _ _ _ _ h1,hgr.block k (by simp;omega) (bT h2),Below.heap_alloc _ _ _ h3]
 ·refine aA ?_ cell v
  rw[hgr.block rb (by simp;omega) (bT (aQ ho mr (Ne.symm hY))),Below.heap_alloc _ _ _ hz]
  exact mr
theorem ug {w w4 w7:World} {n cell b rb:Nat} {xo:Option Addr} {xc:Nat} {Y:TypeId} {X:Obj} {xs:List Value} (aS:Below w.heap.size w w4) (ho:w4.ownsRow b Y 1 (.slice xo n xc) n xs) (zu:w.heap.size≤b) (hgr:(w4.alloc X).grownBy w7 (Value.slice xo n xc).ownBlock) (mr:w.heap.size≤rb) (v:Value):Below w.heap.size w (w7.setCell ⟨rb,cell,none⟩ v):=
 ((aS.alloc aS.size X).grown hgr (by have:=aS.size;simp;omega) (fun k q=>by have:=(ho.lt k q).1;omega)).setCell mr v
theorem eR.res {w4 w7:World} {n cell b rb nb:Nat} {xo:Option Addr} {xc:Nat} {Y:TypeId} {X:Obj} {xs:List Value} {C:Array Value} {N:List Nat} {mo:Option Addr} {mc:Nat} (h:eR w4 nb N mo mc) (ho:w4.ownsRow b Y 1 (.slice xo n xc) n xs) (hgr:(w4.alloc X).grownBy w7 (Value.slice xo n xc).ownBlock) (mr:w4.heap[rb]?=some (.cells C 32 (0,0))) (hY:Y≠32) (h1:Y≠123) (h2:Y≠3) (v:Value):eR (w7.setCell ⟨rb,cell,none⟩ v) nb N mo mc:=by
 obtain⟨keep,_⟩:=py (cell:=cell) ho hgr mr hY v
 have key:∀{k:Nat} {ys:Array Value} {Z:TypeId},w4.heap[k]?=some (.cells ys Z (0,0))→Z≠Y→Z≠32→(w7.setCell ⟨rb,cell,none⟩ v).heap[k]?=w4.heap[k]?:=fun {k ys Z} hk q1 q2=>keep k (fun e=>by
  rw[e,mr]at hk
  simp only[Option.some.injEq,Obj.cells.injEq]at hk
  exact q2 hk.2.1.symm) (aQ ho hk q1) (ag hk)
 refine⟨(key h.blk (Ne.symm h1) (by decide)).trans h.blk,ai h.own fun g q=> ?_⟩
 obtain⟨cur,hc⟩:=aK h.own (aI q)
 exact key hc (Ne.symm h2) (by decide)
theorem VS.next {w:World} {T:Nat→Za.U} {V:List Nat} {en:Int} {lo:Option Addr} {ln lc:Nat} {N:List Nat} {mo:Option Addr} {mc:Nat} {xo:Option Addr} {xc:Nat} {w4:World} (h:VS w T V en lo ln lc N mo mc xo xc w4) {v:Nat} {N':List Nat} (hz:N'.length≤N.length+1000) (hv:Za.bu N'=Za.aV (eE T V).2 (T v)) {mo':Option Addr} {mc':Nat} {w5:World} (hn:eR w5 (w.heap.size+2) N' mo' mc') (nE:∀k,rowOf mo' k→w.heap.size+3≤k) (how:w5.ownsRow (w.heap.size+3) 9 1 (.slice xo V.length xc) V.length ((eE T V).1.map iw)) (mr:w5.heap[w.heap.size+1]?=some (.cells #[.int .i64 en,.slice lo ln lc,.slice xo V.length xc,.slice none 0 0,.slice none 0 0] 32 (0,0))) (hzb:w5.heap[w.heap.size]?=some (.cells #[.int .i64 0,.slice none 0 0,.slice none 0 0,.slice none 0 0,.slice none 0 0] 32 (0,0))) (aS:Below w.heap.size w w5) {X:Obj} {w7:World} {g' cap':Nat} (hown:w7.ownsRow (w.heap.size+3) 9 1 (.slice (some ⟨g',0,none⟩) (V.length+1) cap') (V.length+1) ((eE T V).1.map iw++[iw (Za.bP Lib.itoa (Za.bu N') (T v))])) (hgr:(w5.alloc X).grownBy w7 (Value.slice xo V.length xc).ownBlock):
 VS w T (V++[v]) en lo ln lc N' mo' mc' (some ⟨g',0,none⟩) cap' (w7.setCell ⟨w.heap.size+1,2,none⟩ (.slice (some ⟨g',0,none⟩) (V.length+1) cap')):=by
 obtain⟨keep,CL⟩:=py (cell:=2) how hgr mr (by decide) (.slice (some ⟨g',0,none⟩) (V.length+1) cap')
 have el:(V++[v]).length=V.length+1:=by simp
 refine⟨hn.res how hgr mr (by decide) (by decide) (by decide) _,by rw[zV];exact hv,?_,nE,?_,by rw[el];exact CL,?_,ug aS how (by omega) hgr (by omega) _⟩
 ·have:=h.nl
  rw[el,Nat.add_mul]
  omega
 ·rw[el,zV]
  have e:(uR T (eE T V) v).1.map iw=(eE T V).1.map iw++[iw (Za.bP Lib.itoa (Za.bu N') (T v))]:=by
   unfold uR
   rw[List.map_append,←hv]
   rfl
  rw[e]
  exact ai hown fun k q=>aJ _ _ _ _ (fun e=>by have:=(hown.lt k q).1;omega)
 ·refine(keep w.heap.size (by omega) (fun q=> ?_) (ag hzb)).trans hzb
  have:=(b9 how q).1
  omega
structure BN (w:World) (en:Int) (lo:Option Addr) (ln lc:Nat) (xo:Option Addr) (xn xc:Nat) (xs:List Value) (b2:Nat) (N:List Nat) (mo:Option Addr) (mc:Nat) (go:Option Addr) (gn gc:Nat) (gs:List Value) (yo:Option Addr) (yn yc:Nat) (ys:List Value) (wr:World):Prop where
 nm:eR wr (w.heap.size+2) N mo mc
 rw_:∀k,rowOf mo k→w.heap.size+3≤k
 ox:wr.ownsRow (w.heap.size+3) 9 1 (.slice xo xn xc) xn xs
 xb:∀k,rowOf xo k→k<b2
 og:wr.ownsRow b2 9 1 (.slice go gn gc) gn gs
 oy:wr.ownsRow b2 4 1 (.slice yo yn yc) yn ys
 rb:wr.heap[w.heap.size+1]?=some (.cells #[.int .i64 en,.slice lo ln lc,.slice xo xn xc,.slice go gn gc,.slice yo yn yc] 32 (0,0))
 zb:wr.heap[w.heap.size]?=some (.cells #[.int .i64 0,.slice none 0 0,.slice none 0 0,.slice none 0 0,.slice none 0 0] 32 (0,0))
 be:Below w.heap.size w wr
 bw:w.heap.size+3≤b2
 bz:b2≤wr.heap.size
section
variable {w:World} {en:Int} {lo:Option Addr} {ln lc:Nat} {xo:Option Addr} {xn xc:Nat} {xs:List Value} {b2:Nat} {N:List Nat} {mo:Option Addr} {mc:Nat} {go:Option Addr} {gn gc:Nat} {gs:List Value} {yo:Option Addr} {yn yc:Nat} {ys:List Value} {wr:World}
theorem BN.below (h:BN w en lo ln lc xo xn xc xs b2 N mo mc go gn gc gs yo yn yc ys wr) {w':World} (hb:Below wr.heap.size wr w'):BN w en lo ln lc xo xn xc xs b2 N mo mc go gn gc gs yo yn yc ys w':=
 ⟨h.nm.below hb,h.rw_,ai h.ox (fun k q=>hb.block k (h.ox.lt k q).2),h.xb,ai h.og (fun k q=>hb.block k (h.og.lt k q).2),ai h.oy (fun k q=>hb.block k (h.oy.lt k q).2),(hb.block _ (ag h.rb)).trans h.rb,(hb.block _ (ag h.zb)).trans h.zb,h.be.trans (hb.mono h.be.size),h.bw,Nat.le_trans h.bz hb.size⟩
theorem BN.names (h:BN w en lo ln lc xo xn xc xs b2 N mo mc go gn gc gs yo yn yc ys wr) {w':World} {N':List Nat} {mo':Option Addr} {mc':Nat} (hn:eR w' (w.heap.size+2) N' mo' mc') (hf:au (br (w.heap.size+2) mo) (br (w.heap.size+2) mo') wr w'):BN w en lo ln lc xo xn xc xs b2 N' mo' mc' go gn gc gs yo yn yc ys w':=by
 have yw:∀k,k<w.heap.size+2→¬br (w.heap.size+2) mo k:=fun k hk q=>by
  rcases q with e | e
  ·omega
  ·have:=h.rw_ k e;omega
 have row:∀{b n cap:Nat} {Y:TypeId} {o:Option Addr} {zs:List Value},wr.ownsRow b Y 1 (.slice o n cap) n zs→Y≠123→Y≠3→w'.ownsRow b Y 1 (.slice o n cap) n zs:=fun {b n cap Y o zs} ho h1 h2=>ai ho fun k q=>by
  obtain⟨cur,hc⟩:=aK ho (aI q)
  exact hf.block k (ag hc) (h.nm.apart hc h1 h2)
 refine⟨hn,fun k q=> ?_,row h.ox (by decide) (by decide),h.xb,row h.og (by decide) (by decide),row h.oy (by decide) (by decide),(hf.block _ (ag h.rb) (yw _ (by omega))).trans h.rb,(hf.block _ (ag h.zb) (yw _ (by omega))).trans h.zb,h.be.trans (hf.down h.be.size fun k q=> ?_),h.bw,Nat.le_trans h.bz hf.size⟩
 ·rcases hf.row k (Or.inr q)with(e | e) | e
  ·exact absurd (e ▸ q) hn.ne
  ·exact h.rw_ k e
  ·have:=ag h.nm.blk;omega
 ·rcases q with e | e
  ·omega
  ·have:=h.rw_ k e;omega
theorem BN.goal (h:BN w en lo ln lc xo xn xc xs b2 N mo mc go gn gc gs yo yn yc ys wr) {X:Obj} {w7:World} {g' cap':Nat} {s:Value} (hown:w7.ownsRow b2 9 1 (.slice (some ⟨g',0,none⟩) (gn+1) cap') (gn+1) (gs++[s])) (hgr:(wr.alloc X).grownBy w7 (Value.slice go gn gc).ownBlock):BN w en lo ln lc xo xn xc xs b2 N mo mc (some ⟨g',0,none⟩) (gn+1) cap' (gs++[s]) yo yn yc ys (w7.setCell ⟨w.heap.size+1,3,none⟩ (.slice (some ⟨g',0,none⟩) (gn+1) cap')):=by
 obtain⟨keep,CL⟩:=py (cell:=3) h.og hgr h.rb (by decide) (.slice (some ⟨g',0,none⟩) (gn+1) cap')
 have bw:=h.bw
 refine⟨h.nm.res h.og hgr h.rb (by decide) (by decide) (by decide) _,h.rw_,ai h.ox fun k q=> ?_,h.xb,ai hown fun k q=>aJ _ _ _ _ (fun e=>by have:=(hown.lt k q).1;omega),ai h.oy fun k q=> ?_,CL,?_,ug h.be h.og (by omega) hgr (by omega) _,h.bw,?_⟩
 ·have h1:=b9 h.ox (aI q)
  have h2:=h.xb k (aI q)
  exact keep k (by omega) (fun r=>by have:=(b9 h.og r).1;omega) h1.2
 ·obtain⟨cur,hc⟩:=aK h.oy (aI q)
  have h1:=(b9 h.oy (aI q)).1
  exact keep k (by omega) (aQ h.og hc (by decide)) (ag hc)
 ·exact(keep w.heap.size (by omega) (fun r=>by have:=(b9 h.og r).1;omega) (ag h.zb)).trans h.zb
 ·rw[cI];have:=hgr.size;simp at this;have:=h.bz;omega
theorem BN.wait (h:BN w en lo ln lc xo xn xc xs b2 N mo mc go gn gc gs yo yn yc ys wr) {X:Obj} {w7:World} {g' cap':Nat} {s:Value} (hown:w7.ownsRow b2 4 1 (.slice (some ⟨g',0,none⟩) (yn+1) cap') (yn+1) (ys++[s])) (hgr:(wr.alloc X).grownBy w7 (Value.slice yo yn yc).ownBlock):BN w en lo ln lc xo xn xc xs b2 N mo mc go gn gc gs (some ⟨g',0,none⟩) (yn+1) cap' (ys++[s]) (w7.setCell ⟨w.heap.size+1,4,none⟩ (.slice (some ⟨g',0,none⟩) (yn+1) cap')):=by
 obtain⟨keep,CL⟩:=py (cell:=4) h.oy hgr h.rb (by decide) (.slice (some ⟨g',0,none⟩) (yn+1) cap')
 have bw:=h.bw
 have kS:∀{b n cap:Nat} {o:Option Addr} {zs:List Value},wr.ownsRow b 9 1 (.slice o n cap) n zs→w.heap.size+3≤b→(w7.setCell ⟨w.heap.size+1,4,none⟩ (.slice (some ⟨g',0,none⟩) (yn+1) cap')).ownsRow b 9 1 (.slice o n cap) n zs:=fun {b n cap o zs} ho hb=>ai ho fun k q=>by
  obtain⟨cur,hc⟩:=aK ho (aI q)
  have h1:=(b9 ho (aI q)).1
  exact keep k (by omega) (aQ h.oy hc (by decide)) (ag hc)
 refine⟨h.nm.res h.oy hgr h.rb (by decide) (by decide) (by decide) _,h.rw_,kS h.ox (Nat.le_refl _),h.xb,kS h.og bw,ai hown fun k q=>aJ _ _ _ _ (fun e=>by have:=(hown.lt k q).1;omega),CL,?_,ug h.be h.oy (by omega) hgr (by omega) _,h.bw,?_⟩
 ·exact(keep w.heap.size (by omega) (fun r=>by have:=(b9 h.oy r).1;omega) (ag h.zb)).trans h.zb
 ·rw[cI];have:=hgr.size;simp at this;have:=h.bz;omega
end
def Ut (w:World) (fr:Nat→Nat) (T:Nat→Za.U) (N0:List Za.Vr) (G:List Gl) (en:Int) (lo:Option Addr) (ln lc:Nat) (xo:Option Addr) (xn xc:Nat) (xs:List Value) (b2:Nat) (k:Nat) (iv:Value) (wr:World):Prop:=
 ∃(j:Nat) (N:List Nat) (mo:Option Addr) (mc:Nat) (go:Option Addr) (gc:Nat) (yo:Option Addr) (yc:Nat),k+j=G.length∧iv= .int .i64 (j:Int)∧Za.bu N=(kA T N0 (G.take j)).2∧N.length≤100000+j*3000∧BN w en lo ln lc xo xn xc xs b2 N mo mc go j gc ((kA T N0 (G.take j)).1.map iw) yo j yc ((G.take j).map fun g=> .bool (!fK fr g)) wr
def Uu (w:World) (T:Nat→Za.U) (V:List Nat) (en:Int) (lo:Option Addr) (ln lc:Nat) (k:Nat) (iv:Value) (wr:World):Prop:=
 ∃(j:Nat) (N:List Nat) (mo:Option Addr) (mc:Nat) (xo:Option Addr) (xc:Nat),k+j=V.length∧iv= .int .i64 (j:Int)∧VS w T (V.take j) en lo ln lc N mo mc xo xc wr
theorem Jf (w:World) (mb:Nat) (cls:List Za.aL) (clo:Option Addr) (clc:Nat) (V:List Nat) (vo:Option Addr) (vc:Nat) (L:List Int) (lo:Option Addr) (lc:Nat) (S:b8) (nO:Option Addr) (nC:Nat) (po:Option Addr) (pc:Nat) (en:Int) (h:cN w mb (qg clo cls.length clc nO S.D.length nC vo V.length vc po S.G.length pc lo L.length lc en) S.D nO nC S.fr S.G po pc) (fz:Za.dD (aY S.D) S.fr S.T) (P:Nat→Prop) (bA:a8 w S.D P) (CM:w.ownsRow 0 3 1 (.slice vo V.length vc) V.length (V.map aM)) (jC:∀v∈V,v<S.D.length) (zR:∀d∈S.D,-1000000000≤d.val∧d.val≤1000000000) (Hm:∀d∈S.D,d.tx.size≤240) (zk:∀g∈S.G,mf S.T S.D.length g) (CN:Pow w) (hen:en=1∨en=2∨en=3) (hV:V.length≤100) (hG:S.G.length≤100) (hsV:∀v∈V,Za.size (S.T v)≤1000) (hsG:∀g∈S.G,∀x:Int,x=(g.l:Int)∨x=g.r∨x=g.z→x≠-1→Za.size (S.T x.toNat)≤1000):
 Calls Tryz.prog 47 #[.pointer (some ⟨mb,0,none⟩)] w fun e w'=>∃(xo:Option Addr) (xc:Nat) (go:Option Addr) (gc:Nat) (yo:Option Addr) (yc:Nat),e= .returned (.agg #[.int .i64 en,.slice lo L.length lc,.slice xo V.length xc,.slice go S.G.length gc,.slice yo S.G.length yc])∧w'.ownsRow w.heap.size 9 1 (.slice xo V.length xc) V.length ((eE S.T V).1.map iw)∧w'.ownsRow w.heap.size 9 1 (.slice go S.G.length gc) S.G.length ((kA S.T (eE S.T V).2 S.G).1.map iw)∧w'.ownsRow w.heap.size 4 1 (.slice yo S.G.length yc) S.G.length (S.G.map fun g=> .bool (!fK S.fr g))∧(∀k,rowOf xo k→¬rowOf go k)∧Below w.heap.size w w':=by
 have f2:w.cell? ⟨mb,2,none⟩=some (.slice vo V.length vc):=ah h.st.blk 2
 have f3:w.cell? ⟨mb,3,none⟩=some (.slice po S.G.length pc):=ah h.st.blk 3
 have f4:w.cell? ⟨mb,4,none⟩=some (.slice lo L.length lc):=ah h.st.blk 4
 have f5:w.cell? ⟨mb,5,none⟩=some (.int .i64 en):=ah h.st.blk 5
 have mz:=ag h.st.blk
 have t4:(en == 4)=false:=by rcases hen with q | q | q<;>(rw[q];rfl)
 have t5:(en == 5)=false:=by rcases hen with q | q | q<;>(rw[q];rfl)
 have t6:(en == 6)=false:=by rcases hen with q | q | q<;>(rw[q];rfl)
 have LC:a8 w S.D (fun g=>g<w.heap.size):=bA.keep fun g _ _ hg=>⟨hg,ag hg⟩
 have HT:=af (fun(x:Int) (N1:List Nat) (mo1:Option Addr) (mc1:Nat) (W:World) (hb:Below w.heap.size w W) (th:eR W (w.heap.size+2) N1 mo1 mc1) (nE:∀k,rowOf mo1 k→w.heap.size+3≤k) (hx:pj S.D.length x) (hq:x≠-1→Za.size (S.T x.toNat)≤1000) (jB:N1.length≤900000)=>MT W mb _ S.D nO nC S.fr S.T (w.heap.size+2) N1 mo1 mc1 x (h.st.below hb) h.ok fz th ((LC.below hb).keep fun g _ hp hg=>⟨hg,fun q=>by
  rcases q with e | e
  ·omega
  ·have:=nE g e;omega⟩) hx hq jB)
 have jc:=af (Oi h.ok fz zR Hm)
 have HST:=af (show Uu w S.T V en lo L.length lc V.length (.int .i64 0) (((((w.alloc (.cells #[.int .i64 0,.slice none 0 0,.slice none 0 0,.slice none 0 0,.slice none 0 0] 32)).alloc (.cells #[.int .i64 en,.slice lo L.length lc,.slice none 0 0,.slice none 0 0,.slice none 0 0] 32)).drew).alloc (.cells #[.slice none 0 0] 123)))from by
  have tZ:=(((Below.refl w.heap.size w).alloc (Nat.le_refl _) (.cells #[.int .i64 0,.slice none 0 0,.slice none 0 0,.slice none 0 0,.slice none 0 0] 32)).alloc (by simp) (.cells #[.int .i64 en,.slice lo L.length lc,.slice none 0 0,.slice none 0 0,.slice none 0 0] 32)).drew
  have hb1:=tZ.alloc tZ.size (.cells #[.slice none 0 0] 123)
  have q0:=aB (aB (heap_alloc_new w (.cells #[.int .i64 0,.slice none 0 0,.slice none 0 0,.slice none 0 0,.slice none 0 0] 32)) (.cells #[.int .i64 en,.slice lo L.length lc,.slice none 0 0,.slice none 0 0,.slice none 0 0] 32)) (.cells #[.slice none 0 0] 123)
  have q1:=aB (heap_alloc_new (w.alloc (.cells #[.int .i64 0,.slice none 0 0,.slice none 0 0,.slice none 0 0,.slice none 0 0] 32)) (.cells #[.int .i64 en,.slice lo L.length lc,.slice none 0 0,.slice none 0 0,.slice none 0 0] 32)) (.cells #[.slice none 0 0] 123)
  have q2:=heap_alloc_new ((w.alloc (.cells #[.int .i64 0,.slice none 0 0,.slice none 0 0,.slice none 0 0,.slice none 0 0] 32)).alloc (.cells #[.int .i64 en,.slice lo L.length lc,.slice none 0 0,.slice none 0 0,.slice none 0 0] 32)) (.cells #[.slice none 0 0] 123)
  simp only[World.size_alloc]at q1 q2
  exact⟨0,[],none,0,none,0,by omega,rfl,⟨⟨q2,World.ownsRow_nil _ _ _ _⟩,rfl,by simp,(fun k ⟨_,q,_⟩=>by cases q),World.ownsRow_nil _ _ _ _,q1,q0,hb1⟩⟩)
 have Q8:=af CM
 have BI:=af jC
 have Eo:=af CN
 have TU:=af hsV
 have jG:=af hsG
 have HH:=af h
 have XF:=af zk
 have nX:=af LC
 have QD:=af fz
 obtain⟨ti,hi,hz0,hz1,hz2⟩:=info_parts infoStrS
 obtain⟨tb,XG,hb0,hb1,hb2⟩:=info_parts infoBl
 clear h fz bA LC CM jC zR Hm zk CN hen hsV hsG
 go_enter Tryz.func47,Tryz.ntmps47
 go_upto_region 1 with fail
 go_cut [3] (fun tv wx=>tv= .pointer (some ⟨w.heap.size+1,0,none⟩)∧wx=((w.alloc (.cells #[.int .i64 0,.slice none 0 0,.slice none 0 0,.slice none 0 0,.slice none 0 0] 32)).alloc (.cells #[.int .i64 en,.slice lo L.length lc,.slice none 0 0,.slice none 0 0,.slice none 0 0] 32)).drew)
 case first=>
  go_region
  all_goals
   go_wp2_with fail
   go_meet
   exact⟨rfl,rfl⟩
 case rest=>
  obtain⟨rfl,rfl⟩:=hcut
  have xQ:=(((Below.refl w.heap.size w).alloc (Nat.le_refl _) (.cells #[.int .i64 0,.slice none 0 0,.slice none 0 0,.slice none 0 0,.slice none 0 0] 32)).alloc (by simp) (.cells #[.int .i64 en,.slice lo L.length lc,.slice none 0 0,.slice none 0 0,.slice none 0 0] 32)).drew
  have ot:=xQ.alloc xQ.size (.cells #[.slice none 0 0] 123)
  have g2:=(ot.cell (p:=⟨mb,2,none⟩) mz).trans f2
  have g5:=(xQ.cell (p:=⟨mb,5,none⟩) mz).trans f5
  have Uv:=((((Below.refl w.heap.size w).alloc (Nat.le_refl _) (.cells #[.int .i64 0,.slice none 0 0,.slice none 0 0,.slice none 0 0,.slice none 0 0] 32)).alloc (by simp) (.cells #[.int .i64 en,.slice lo L.length lc,.slice none 0 0,.slice none 0 0,.slice none 0 0] 32)).alloc (by simp;omega) (.cells #[.slice none 0 0] 123)).drew
  have g2':=(Uv.cell (p:=⟨mb,2,none⟩) mz).trans f2
  clear xQ ot Uv
  go_wp2_with fail
  go_loopg [48] V.length (fun k iv wr=>Uu w S.T V en lo L.length lc k iv wr)
  case atStart=>exact ae HST
  case round=>
   clear HST
   obtain⟨j,N,mo,mc,xo,xc,hkj,rfl,iM⟩:=hrel
   clear g2 g2' g5
   by_cases hlt:j<V.length
   ·obtain⟨g,hg⟩:∃g,vo=some ⟨g,0,none⟩:=by
     rcases(ae Q8).2 with⟨q,q2⟩ | ⟨g,cp,cur,q,_⟩
     ·omega
     ·simp only[Value.slice.injEq]at q
      exact⟨g,q.1⟩
    subst hg
    have gz0:=((ae Q8).lt g rfl).2
    have e0:wr.cell? ⟨g,j,none⟩=some (.int .i64 (V[j]:Int)):=by
     rw[iM.be.cell (p:=⟨g,j,none⟩) gz0,(ae Q8).cellAt j (by omega),List.getElem?_map,List.getElem?_eq_getElem hlt]
     rfl
    have AL:V[j]∈V:=List.getElem_mem hlt
    have hsz:=ae TU _ AL
    have jC:=ae BI _ AL
    have hsm:=ae jc _ jC
    have oC:V.take (j+1)=V.take j++[V[j]]:=by rw[List.take_add_one,List.getElem?_eq_getElem hlt];rfl
    have hlen:(V.take j).length=j:=by rw[List.length_take];omega
    have gz:g<wr.heap.size:=Nat.lt_of_lt_of_le gz0 iM.be.size
    have mzr:mb<wr.heap.size:=Nat.lt_of_lt_of_le mz iM.be.size
    have i0:(0:Int)≤(j:Int):=by omega
    have i1:(j:Int)<(V.length:Int):=by omega
    generalize V[j]=v at*
    have hNl:N.length≤100000:=by have:=iM.nl;rw[hlen]at this;omega
    have IT:=af (ae HT (v:Int) N mo mc wr iM.be iM.nm iM.rw_ (Or.inr ⟨v,rfl,jC⟩) (fun _=>by simpa using hsz) (by omega))
    have nJ:=af iM
    have bf:=af hkj
    have bp:=af hlt
    have sj:=af oC
    have jV:=af hsz
    have Q9:=af hsm
    have HLEN:=af hlen
    clear iM hkj hlt oC hsz jC hsm hlen AL
    go_wp2_with fail
    refine(ae IT).mono ?_
    rintro e w2 ⟨⟨ak,av,ax,ao,an,ac⟩,N',mo',mc',rfl,nm2,hv2,rv2,fg2⟩
    have hrow:∀k,br (w.heap.size+2) mo k→w.heap.size≤k:=fun k q=>by
     rcases q with e | e
     ·omega
     ·have:=(ae nJ).rw_ k e;omega
    have uh:Below w.heap.size w w2:=(ae nJ).be.trans (fg2.down (ae nJ).be.size hrow)
    have LD:=uh.alloc uh.size (.cells #[.int .i64 ak,.int .i64 av,.string ax,.slice ao an ac] 76)
    have yw:∀k,k<w.heap.size+2→¬br (w.heap.size+2) mo k:=fun k hk q=>by
     rcases q with e | e
     ·omega
     ·have:=(ae nJ).rw_ k e;omega
    have Ra:=(fg2.block _ (ag (ae nJ).rb) (yw _ (by omega))).trans (ae nJ).rb
    have Rb:=(fg2.block _ (ag (ae nJ).zb) (yw _ (by omega))).trans (ae nJ).zb
    have Rc:w2.ownsRow (w.heap.size+3) 9 1 (.slice xo (V.take j).length xc) (V.take j).length ((eE S.T (V.take j)).1.map iw):=ai (ae nJ).ow fun k q=>by
     obtain⟨cur,hc⟩:=aK (ae nJ).ow (aI q)
     exact fg2.block k (ag hc) ((ae nJ).nm.apart hc (by decide) (by decide))
    have yj:∀k,rowOf mo' k→w.heap.size+3≤k:=fun k q=>by
     rcases fg2.row k (Or.inr q)with(e | e) | e
     ·exfalso
      exact nm2.ne (e ▸ q)
     ·exact(ae nJ).rw_ k e
     ·have:=ag (ae nJ).nm.blk;omega
    have LF:Za.bu N'=Za.aV (eE S.T (V.take j)).2 (S.T v):=by
     rw[hv2]
     unfold iA
     rw[if_neg (by omega),(ae nJ).vr]
     simp
    have hN2:N'.length≤N.length+1000:=by
     have e1:(Za.bu N').length=N'.length:=by unfold Za.bu;simp
     have e2:(Za.bu N).length=N.length:=by unfold Za.bu;simp
     have:=iV (S.T v) (eE S.T (V.take j)).2
     rw[←LF,e1,←(ae nJ).vr,e2]at this
     have:=ae jV
     omega
    have rv3:RV 1000 (Za.bu N') anyA w2 ⟨ak,av,ax,ao,an,ac⟩ (S.T v):=by
     have:=rv2 (by omega)
     have e0:((v:Int)).toNat=v:=by simp
     rw[e0]at this
     exact this.keep fun g _ _ hg=>⟨hg,trivial⟩
    have rv4:=rv3.keep (Q:=anyA) (w':=w2.alloc (.cells #[.int .i64 ak,.int .i64 av,.string ax,.slice ao an ac] 76)) fun g _ _ hg=>⟨(Below.heap_alloc _ _ _ (ag hg)).trans hg,trivial⟩
    have eV:(Za.bu N').length=N'.length:=by unfold Za.bu;simp
    have IS:=af (stU_all 1000 _ (Za.bu N') anyA ⟨ak,av,ax,ao,an,ac⟩ (S.T v) rv4 ((ae Eo).below LD) (by rw[eV];omega) (ae Q9) (ae jV))
    have hSl:=Za.oU (N:=Za.bu N') (by rw[eV];omega) (S.T v) (ae Q9)
    have hSl':(Za.bP Lib.itoa (Za.bu N') (S.T v)).length≤300000:=by have:=ae jV;omega
    have gS:=af nm2
    have XH:=af LF
    have tA:=af hN2
    have XI:=af yj
    have yi:=af Rc
    have LG:=af Ra
    have LH:=af Rb
    have VQ:=af LD
    have LI:=af uh
    clear nm2 hv2 LF hN2 yj Rc Ra Rb LD uh rv2 rv3 rv4 fg2 eV hrow yw hSl IT e0
    generalize CO:Za.bP Lib.itoa (Za.bu N') (S.T v)=STR at*
    have LJ:=af CO
    clear CO
    go_wp2_with fail
    refine(ae IS).mono ?_
    rintro e w4 ⟨rfl,hb4⟩
    have vK:Below w2.heap.size w2 w4:=((Below.refl _ w2).alloc (Nat.le_refl _) _).trans (hb4.mono (by simp))
    have Gd:=ai (ae yi) fun k q=>vK.block k ((ae yi).lt k q).2
    have yy:=(vK.block _ (ag (ae LG))).trans (ae LG)
    have Re:=(vK.block _ (ag (ae LH))).trans (ae LH)
    have LM:=(ae gS).below vK
    have CP:=(ae LI).trans (vK.mono (ae LI).size)
    have r2:=ah yy 2
    have rx2:=ay yy 2
    have rz:=ag yy
    simp only[List.getElem?_toArray,List.getElem?_cons_zero,List.getElem?_cons_succ]at r2
    rw[ae HLEN]at r2
    have Jg:=af (show some (w.heap.size+1)≠(Value.slice xo (V.take j).length xc).ownBlock from bT (aQ Gd yy (by decide)))
    rw[ae HLEN]at Jg
    have jY:=af (fun(w7:World) (g' cap':Nat) (X:Obj) a1 a2=>(ae nJ).next (v:=v) (ae tA) (ae XH) LM (ae XI) Gd yy Re CP (X:=X) (w7:=w7) (g':=g') (cap':=cap') a1 a2)
    rw[ae HLEN]at jY
    have Ge:=Gd
    rw[ae HLEN]at Ge
    have VR:=af Ge
    have z4:w.heap.size+3≤w4.heap.size:=by have:=ag LM.blk;omega
    rw[ae LJ]at jY
    clear Gd Ge yy Re LM CP hb4 vK IS yi LG LH gS LI VQ
    generalize hzz:(eE S.T (V.take j)).1.map iw=ZZ at*
    clear hzz
    go_wp2_with (at_builtin;go_must (refine wpList_append_own_at _ rfl (.tmp 60) (.tmp 62) 29 rfl (w.heap.size+3) 9 ti (.string ⟨#[]⟩) 1 16 Tryz.underlying29 hi hz0 hz1 hz2 rfl (by decide) (.slice xo j xc) j ZZ rfl ((ae VR).alloc _) ⟨w4.heap.size,0,none⟩ 1 1 [.string ⟨STR.toArray⟩] rfl rfl (iU _ _ _ _ rfl) (by simp[Value.oneCell']) (by unfold maxLen;omega) (by omega) (by simp;omega) ?_);go_must (intro v' w7 hown' hgrow _ hat;obtain⟨g',cap',hv',-⟩:=fe hown';subst hv';have jA:=af (ae jY w7 g' cap' _ hown' hgrow);have m2:=(hgrow.cell_far ⟨w.heap.size+1,2,none⟩ (by simp;omega) (ae Jg)).trans ((World.cell?_alloc_past _ _ _ rz).trans r2);have k9:w7.frozen? ⟨w.heap.size+1,2,none⟩=false:=(by have:=ay (ae jA).rb 2;rwa [World.frozen?_setCell]at this);have zz7:w.heap.size+1<w7.heap.size:=(by have:=ag (ae jA).rb;rwa [cI]at this);clear hown' hgrow hat))
    go_roundg (gk - 1)
    case measure=>have:=ae bf;have:=ae bp;omega
    case rel=>exact⟨j+1,N',mo',mc',_,cap',by have:=ae bf;have:=ae bp;omega,by go_num,by rw[ae sj];exact ae jA⟩
   ·obtain rfl:j=V.length:=by omega
    rw[List.take_length]at iM
    have nJ:=af iM
    have g3:=(iM.be.cell (p:=⟨mb,3,none⟩) mz).trans f3
    have mzr:mb<wr.heap.size:=Nat.lt_of_lt_of_le mz iM.be.size
    have Rf:=af (show Ut w S.fr S.T (eE S.T V).2 S.G en lo L.length lc xo V.length xc ((eE S.T V).1.map iw) wr.heap.size S.G.length (.int .i64 0) wr from ⟨0,N,mo,mc,none,0,none,0,by omega,rfl,iM.vr,by have:=iM.nl;omega,⟨iM.nm,iM.rw_,iM.ow,fun k q=>(b9 iM.ow q).2,World.ownsRow_nil _ _ _ _,World.ownsRow_nil _ _ _ _,iM.rb,iM.zb,iM.be,by have:=ag iM.nm.blk;omega,Nat.le_refl _⟩⟩)
    generalize Yo:wr.heap.size=b2 at*
    clear iM hkj hlt
    go_wp2_with fail
    go_loopg [71] S.G.length (fun k iv wr=>Ut w S.fr S.T (eE S.T V).2 S.G en lo L.length lc xo V.length xc ((eE S.T V).1.map iw) b2 k iv wr)
    case atStart=>exact ae Rf
    case round=>
     clear Rf
     obtain⟨i,N3,mo3,mc3,go,gc,yo,yc,hkj,rfl,CM,pP,ot⟩:=hrel
     by_cases hlt:i<S.G.length
     ·obtain⟨pg,QR⟩:∃pg,po=some ⟨pg,0,none⟩:=by
       rcases(ae HH).pool.2 with⟨q,q2⟩ | ⟨g,cp,cur,q,_⟩
       ·omega
       ·simp only[Value.slice.injEq]at q
        exact⟨g,q.1⟩
      subst QR
      have pz0:=((ae HH).pool.lt pg rfl).2
      have fc:∀k,k<7→wr.cell? ⟨pg,i*7+k,none⟩=(fJ S.G[i])[k]?:=fun k hk=>by
       rw[ot.be.cell (p:=⟨pg,i*7+k,none⟩) pz0,(ae HH).pool.cellAt (i*7+k) (by omega)]
       exact qU hlt k hk
      have e0:=fc 0 (by omega)
      have e1:=fc 1 (by omega)
      have e2:=fc 2 (by omega)
      have e3:=fc 3 (by omega)
      have e4:=fc 4 (by omega)
      have e5:=fc 5 (by omega)
      have e6:=fc 6 (by omega)
      simp only[fJ,List.getElem?_cons_zero,List.getElem?_cons_succ,Nat.add_zero]at e0 e1 e2 e3 e4 e5 e6
      have jZ:S.G[i]∈S.G:=List.getElem_mem hlt
      have gw:=ae XF _ jZ
      have LO:=ae jG _ jZ
      have oC:S.G.take (i+1)=S.G.take i++[S.G[i]]:=by rw[List.take_add_one,List.getElem?_eq_getElem hlt];rfl
      have Rg:=(ae HH).nds _ jZ
      have Rh:=(ae HH).nlt _ jZ
      have Ri:=(ae HH).nl _ jZ
      generalize S.G[i]=gg at*
      have pz:pg<wr.heap.size:=Nat.lt_of_lt_of_le pz0 ot.be.size
      have mzr':mb<wr.heap.size:=Nat.lt_of_lt_of_le mz ot.be.size
      have i0:(0:Int)≤(i:Int):=by omega
      have i1:(i:Int)<(S.G.length:Int):=by omega
      have Jh:=(Below.refl wr.heap.size wr).alloc (Nat.le_refl _) (.cells #[.int .i64 (gg.l:Int),.string gg.sg,.int .i64 gg.r,.string gg.op,.int .i64 gg.z,.bool gg.wt,.slice gg.no gg.nd.length gg.nc] 158)
      have hbA:=ot.below Jh
      have hndR:pj S.D.length gg.r:=by
       by_cases q:gg.sg.toList=[]
       ·exact Or.inl (gw.r0 q)
       ·exact Or.inr (gw.rr q)
      have hndZ:pj S.D.length gg.z:=by
       by_cases q:gg.op.toList=[]
       ·exact Or.inl (gw.z0 q)
       ·exact Or.inr (gw.zz q)
      have hN3:N3.length≤500000:=by omega
      have IM:=af (Jc _ mb _ S.D nO nC S.fr S.T (w.heap.size+2) N3 mo3 mc3 gg ((ae HH).st.below hbA.be) (ae HH).ok (ae QD) hbA.nm (((ae nX).below hbA.be).keep fun k _ hp hk=>⟨hk,fun q=>by
       rcases q with e | e
       ·omega
       ·have:=hbA.rw_ k e;omega⟩) gw.ll hndR hndZ LO (by omega))
      have Rj:=af (heap_alloc_new wr (.cells #[.int .i64 (gg.l:Int),.string gg.sg,.int .i64 gg.r,.string gg.op,.int .i64 gg.z,.bool gg.wt,.slice gg.no gg.nd.length gg.nc] 158))
      have xR:=af hbA
      have yA:=af gw
      have yB:=af LO
      have bf:=af hkj
      have bp:=af hlt
      have sj:=af oC
      have VT:=af CM
      have K7:=af pP
      have Rk:=af Rg
      have VU:=af Rh
      have VW:=af Ri
      clear ot Jh hbA gw LO hkj hlt oC CM pP Rg Rh Ri fc jZ hndR hndZ
      go_wp2_with fail
      refine(ae IM).mono ?_
      rintro e w2 ⟨⟨ak,av,ax,ao,an,ac⟩,⟨bk,bv,bx,bo,bn,bc⟩,⟨ck,cv,cx,co,cn,cc⟩,N4,mo4,mc4,rfl,nm4,hv4,rvA,rvB,rvC,fg4⟩
      have hb2:=(ae xR).names nm4 fg4
      have Rl:=(fg4.block _ (ag (ae Rj)) ((ae xR).nm.apart (ae Rj) (by decide) (by decide))).trans (ae Rj)
      have eV:(Za.bu N4).length=N4.length:=by unfold Za.bu;simp
      have eV3:(Za.bu N3).length=N3.length:=by unfold Za.bu;simp
      have hN4:N4.length≤N3.length+3000:=by
       have hz:∀(M:List Za.Vr) (x:Int),(x=(gg.l:Int)∨x=gg.r∨x=gg.z)→(iA S.T M x).length≤M.length+1000:=fun M x hx=>by
        unfold iA
        split
        ·omega
        ·rename_i hne
         exact Nat.le_trans (iV _ _) (by have:=ae yB x hx hne;omega)
       rw[←eV,hv4]
       have h1:=hz (iA S.T (iA S.T (Za.bu N3) (gg.l:Int)) gg.r) gg.z (Or.inr (Or.inr rfl))
       have h2:=hz (iA S.T (Za.bu N3) (gg.l:Int)) gg.r (Or.inr (Or.inl rfl))
       have h3:=hz (Za.bu N3) (gg.l:Int) (Or.inl rfl)
       omega
      have Rm:Za.bu N4=Jd S.T (kA S.T (eE S.T V).2 (S.G.take i)).2 gg:=by
       rw[hv4,ae VT]
       rfl
      have pO:Za.size (S.T gg.l)≤1000:=by have:=ae yB (gg.l:Int) (Or.inl rfl) (by omega);simpa using this
      have hAl:=Za.oU (N:=Za.bu N4) (by rw[eV];omega) (S.T gg.l) (ae jc _ (ae yA).ll)
      have hR:gg.sg.toList≠[]→gg.r≠-1∧gg.r.toNat<S.D.length:=fun q=>by
       obtain⟨n,q1,q2⟩:=(ae yA).rr q
       rw[q1]
       exact⟨by omega,by simpa using q2⟩
      have hZ:gg.op.toList≠[]→gg.z≠-1∧gg.z.toNat<S.D.length:=fun q=>by
       obtain⟨n,q1,q2⟩:=(ae yA).zz q
       rw[q1]
       exact⟨by omega,by simpa using q2⟩
      have hbI:=(Below.refl w2.heap.size w2).alloc (Nat.le_refl _) (.cells #[.int .i64 ak,.int .i64 av,.string ax,.slice ao an ac,.string gg.sg,.int .i64 bk,.int .i64 bv,.string bx,.slice bo bn bc,.string gg.op,.int .i64 ck,.int .i64 cv,.string cx,.slice co cn cc] 151)
      have Rn:gg.sg.size≤2:=by
       rw[←Za.nu]
       rcases(ae yA).sg with q | q | q<;>(rw[q];decide)
      have IT:∀{a:AV} {u:Za.U},RV 1000 (Za.bu N4) anyA w2 a u→Za.oT u→Za.size u≤1000→∀W,Below w2.heap.size w2 W→Calls Tryz.prog 58 #[.agg #[.int .i64 a.k,.int .i64 a.val,.string a.tx,.slice a.ao a.n a.cap]] W fun e w'=>e= .returned (.string ⟨(Za.bP Lib.itoa (Za.bu N4) u).toArray⟩)∧Below W.heap.size W w':=fun {a u} rv hsm hsz W hu=>stU_all 1000 W (Za.bu N4) anyA a u (rv.keep fun g _ _ hg=>⟨(hu.block g (ag hg)).trans hg,trivial⟩) ((ae Eo).below (hb2.be.trans (hu.mono hb2.be.size))) (by rw[eV];omega) hsm hsz
      have IS:=af (Oh _ ⟨⟨ak,av,ax,ao,an,ac⟩,⟨bk,bv,bx,bo,bn,bc⟩,⟨ck,cv,cx,co,cn,cc⟩,gg.sg,gg.op⟩ (Za.bP Lib.itoa (Za.bu N4) (S.T gg.l)) (if gg.sg.toList=[]then []else Za.bP Lib.itoa (Za.bu N4) (S.T gg.r.toNat)) (if gg.op.toList=[]then []else Za.bP Lib.itoa (Za.bu N4) (S.T gg.z.toNat)) (by omega) (by
       split
       ·simp
       ·rename_i q
        have h1:=Za.oU (N:=Za.bu N4) (by rw[eV];omega) (S.T gg.r.toNat) (ae jc _ (hR q).2)
        have h2:=ae yB _ (Or.inr (Or.inl rfl)) (hR q).1
        omega) (by
       split
       ·simp
       ·rename_i q
        have h1:=Za.oU (N:=Za.bu N4) (by rw[eV];omega) (S.T gg.z.toNat) (ae jc _ (hZ q).2)
        have h2:=ae yB _ (Or.inr (Or.inr rfl)) (hZ q).1
        omega) Rn (ae yA).ol (fun W hu=>IT (a:=⟨ak,av,ax,ao,an,ac⟩) rvA (ae jc _ (ae yA).ll) pO W (hbI.trans (hu.mono (by simp)))) (fun q W hu=>by
        rw[if_neg q]
        exact IT (a:=⟨bk,bv,bx,bo,bn,bc⟩) (rvB (hR q).1) (ae jc _ (hR q).2) (ae yB _ (Or.inr (Or.inl rfl)) (hR q).1) W (hbI.trans (hu.mono (by simp)))) (fun _ q W hu=>by
        rw[if_neg q]
        exact IT (a:=⟨ck,cv,cx,co,cn,cc⟩) (rvC (hZ q).1) (ae jc _ (hZ q).2) (ae yB _ (Or.inr (Or.inr rfl)) (hZ q).1) W (hbI.trans (hu.mono (by simp)))))
      have CO:Za.mU (Za.bP Lib.itoa (Za.bu N4) (S.T gg.l)) gg.sg.toList (if gg.sg.toList=[]then []else Za.bP Lib.itoa (Za.bu N4) (S.T gg.r.toNat)) gg.op.toList (if gg.op.toList=[]then []else Za.bP Lib.itoa (Za.bu N4) (S.T gg.z.toNat))=Er S.T (Za.bu N4) gg:=by
       unfold Er Za.mU
       by_cases q1:gg.sg.toList=[]
       ·rw[if_pos q1,if_pos q1]
       ·rw[if_neg q1,if_neg q1,if_neg q1]
        by_cases q2:gg.op.toList=[]
        ·rw[if_pos q2,if_pos q2]
        ·rw[if_neg q2,if_neg q2,if_neg q2]
      dsimp only at IS
      rw[CO]at IS
      have aZ:=af hb2
      have LR:=af Rl
      have jd:=af hN4
      have Ro:=af Rm
      clear hb2 Rl hN4 Rm eV eV3 pO hAl hR hZ hbI Rn IT CO rvA rvB rvC fg4 nm4 hv4 IM e0 e1 e2 e3 e4 e5 e6
      generalize hSTR:Er S.T (Za.bu N4) gg=STR at*
      have LJ:=af hSTR
      clear hSTR
      go_wp2_with fail
      refine(ae IS).mono ?_
      rintro e w4 ⟨rfl,hb4⟩
      have vK:Below w2.heap.size w2 w4:=((Below.refl _ w2).alloc (Nat.le_refl _) _).trans (hb4.mono (by simp))
      have rN:=(ae aZ).below vK
      have Rp:=(vK.block _ (ag (ae LR))).trans (ae LR)
      have r3:=ah rN.rb 3
      have rx3:=ay rN.rb 3
      have rz:=ag rN.rb
      simp only[List.getElem?_toArray,List.getElem?_cons_zero,List.getElem?_cons_succ]at r3
      have Jg:=af (show some (w.heap.size+1)≠(Value.slice go i gc).ownBlock from bT (aQ rN.og rN.rb (by decide)))
      have Uw:=af rN.og
      have yC:=af rN
      have CQ:=af Rp
      have bz4:b2≤w4.heap.size:=rN.bz
      have sw:i≤100:=by have:=ae bp;omega
      clear rN Rp vK hb4 IS aZ LR
      generalize vq:(kA S.T (eE S.T V).2 (S.G.take i)).1.map iw=GS at*
      have Pw:=af vq
      clear vq
      generalize MK:((S.G.take i).map fun g=>Value.bool (!fK S.fr g))=YS at*
      have XJ:=af MK
      clear MK
      go_wp2_with (at_builtin;go_must (refine wpList_append_own_at _ rfl (.tmp 81) (.tmp 83) 29 rfl b2 9 ti (.string ⟨#[]⟩) 1 16 Tryz.underlying29 hi hz0 hz1 hz2 rfl (by decide) (.slice go i gc) i GS rfl ((ae Uw).alloc _) ⟨w4.heap.size,0,none⟩ 1 1 [.string ⟨STR.toArray⟩] rfl rfl (iU _ _ _ _ rfl) (by simp[Value.oneCell']) (by unfold maxLen;omega) (by omega) (by simp;omega) ?_);go_must (intro v' w7 hown' hgrow _ hat;obtain⟨g',cap',hv',-⟩:=fe hown';subst hv';have jA:=af ((ae yC).goal (s:= .string ⟨STR.toArray⟩) hown' hgrow);have m2:=(hgrow.cell_far ⟨w.heap.size+1,3,none⟩ (by simp;omega) (ae Jg)).trans ((World.cell?_alloc_past _ _ _ rz).trans r3);have k9:w7.frozen? ⟨w.heap.size+1,3,none⟩=false:=(by have:=ay (ae jA).rb 3;rwa [World.frozen?_setCell]at this);have zz7:w.heap.size+1<w7.heap.size:=(by have:=ag (ae jA).rb;rwa [cI]at this);have rO:=((py (cell:=3) (ae yC).og hgrow (ae yC).rb (by decide) (.slice (some ⟨g',0,none⟩) (i+1) cap')).1 _ (fun e=>by have:=(ae yC).rb;rw[←e,ae CQ]at this;simp only[Option.some.injEq,Obj.cells.injEq]at this;exact absurd this.2.1 (by decide)) (aQ (ae yC).og (ae CQ) (by decide)) (ag (ae CQ))).trans (ae CQ);have d0:=ah rO 0;have d1:=ah rO 1;have d2:=ah rO 2;have d3:=ah rO 3;have d4:=ah rO 4;have d5:=ah rO 5;have d6:=ah rO 6;have dz:=ag rO;simp only[List.getElem?_toArray,List.getElem?_cons_zero,List.getElem?_cons_succ]at d0 d1 d2 d3 d4 d5 d6;clear hown' hgrow hat rO))
      have lf:=(ae jA).be
      have IR:=af (vH _ mb _ _ S.D nO nC S.fr gg 0 ((ae HH).st.below lf) (ae HH).ok (ai (ae Rk) fun k q=>lf.block k ((ae Rk).lt k q).2) (ae VU) (ae VW))
      clear lf
      refine(ae IR).mono ?_
      rintro e w8 ⟨rfl,qW⟩
      have rP:=(ae jA).below qW
      have r4:=ah rP.rb 4
      have rx4:=ay rP.rb 4
      have rz8:=ag rP.rb
      simp only[List.getElem?_toArray,List.getElem?_cons_zero,List.getElem?_cons_succ]at r4
      have VX:=af (show some (w.heap.size+1)≠(Value.slice yo i yc).ownBlock from bT (aQ rP.oy rP.rb (by decide)))
      have XK:=af rP.oy
      have VY:=af rP
      have bz8:b2≤w8.heap.size:=rP.bz
      clear rP qW IR jA m2 k9 zz7 d0 d1 d2 d3 d4 d5 d6 dz Uw yC CQ Jg r3 rx3 rz
      generalize xE:fK S.fr gg=rd at*
      have Iu:=af xE
      clear xE
      go_wp2_with (at_builtin;go_must (refine wpList_append_own_at _ rfl (.tmp 90) (.tmp 93) 30 rfl b2 4 tb (.bool false) 1 1 Tryz.underlying30 XG hb0 hb1 hb2 rfl (by decide) (.slice yo i yc) i YS rfl ((ae XK).alloc _) ⟨w8.heap.size,0,none⟩ 1 1 [.bool (!rd)] rfl rfl (iU _ _ _ _ rfl) (by simp[Value.oneCell']) (by unfold maxLen;omega) (by omega) (by simp;omega) ?_);go_must (intro v' w9 hown' hgrow _ hat;obtain⟨g9,cap9,hv',-⟩:=fe hown';subst hv';have jA:=af ((ae VY).wait (s:= .bool (!rd)) hown' hgrow);have m2:=(hgrow.cell_far ⟨w.heap.size+1,4,none⟩ (by simp;omega) (ae VX)).trans ((World.cell?_alloc_past _ _ _ rz8).trans r4);have k9:w9.frozen? ⟨w.heap.size+1,4,none⟩=false:=(by have:=ay (ae jA).rb 4;rwa [World.frozen?_setCell]at this);have zz7:w.heap.size+1<w9.heap.size:=(by have:=ag (ae jA).rb;rwa [cI]at this);clear hown' hgrow hat))
      go_roundg (gk - 1)
      case measure=>have:=ae bf;have:=ae bp;omega
      case rel=>
       refine⟨i+1,N4,mo4,mc4,some ⟨g',0,none⟩,cap',some ⟨g9,0,none⟩,cap9,by have:=ae bf;have:=ae bp;omega,by go_num,?_,by have:=ae jd;have:=ae K7;omega,?_⟩
       ·rw[ae sj,zW]
        exact ae Ro
       ·have hb:=ae jA
        rw[←ae Pw,←ae XJ]at hb
        rw[ae sj,zW]
        have e1:(stepG S.T (kA S.T (eE S.T V).2 (S.G.take i)) gg).1.map iw=(kA S.T (eE S.T V).2 (S.G.take i)).1.map iw++[.string ⟨STR.toArray⟩]:=by
         unfold stepG
         rw[List.map_append,←ae Ro,ae LJ]
         rfl
        have e2:((S.G.take i++[gg]).map fun g=>Value.bool (!fK S.fr g))=((S.G.take i).map fun g=>Value.bool (!fK S.fr g))++[.bool (!rd)]:=by
         rw[List.map_append,List.map_cons,ae Iu]
         rfl
        rw[e1,e2]
        exact hb
     ·obtain rfl:i=S.G.length:=by omega
      rw[List.take_length]at CM ot
      have XL:=af ot
      have r0:=ah ot.rb
      have z0:=ah ot.zb
      have zx:=ay ot.zb
      have rz:=ag ot.rb
      have zz:=ag ot.zb
      clear ot hkj hlt CM pP
      go_wp2_with fail
      refine bodyPost_ret (v:= .agg #[.int .i64 en,.slice lo L.length lc,.slice xo V.length xc,.slice go S.G.length gc,.slice yo S.G.length yc]) (by simp[results,Tryz.results47,go_sem,z0]) rfl ?_
      have hb:=ae XL
      have hk:∀k,k≠w.heap.size→(((((wr.setCell ⟨w.heap.size,0,none⟩ (.int .i64 en)).setCell ⟨w.heap.size,1,none⟩ (.slice lo L.length lc)).setCell ⟨w.heap.size,2,none⟩ (.slice xo V.length xc)).setCell ⟨w.heap.size,3,none⟩ (.slice go S.G.length gc)).setCell ⟨w.heap.size,4,none⟩ (.slice yo S.G.length yc)).heap[k]?=wr.heap[k]?:=fun k q=>by
       rw[aJ _ _ _ _ q,aJ _ _ _ _ q,aJ _ _ _ _ q,aJ _ _ _ _ q,aJ _ _ _ _ q]
      have bw:=hb.bw
      refine⟨xo,xc,go,gc,yo,yc,rfl,cf (ai hb.ox fun k q=>hk k (by have:=(hb.ox.lt k q).1;omega)) (by omega),cf (ai hb.og fun k q=>hk k (by have:=(hb.og.lt k q).1;omega)) (by omega),cf (ai hb.oy fun k q=>hk k (by have:=(hb.oy.lt k q).1;omega)) (by omega),fun k q r=> ?_,((((hb.be.setCell (Nat.le_refl _) _).setCell (Nat.le_refl _) _).setCell (Nat.le_refl _) _).setCell (Nat.le_refl _) _).setCell (Nat.le_refl _) _⟩
      have:=hb.xb k q
      have:=(b9 hb.og r).1
      omega
end Go.Proofs.YthfjnfcekeknlaaGreatDoor
namespace Go.Proofs.YthfjnfcekeknlaaGreatDoor
open Go.RowKit
inductive yD (cls:List Za.aL) (V:List Nat) (script:List (Int×Int)) (S0:b8):Nat→b8→List Int→Prop
 | start:yD cls V script S0 0 S0 []
 | step {j:Nat} {S S':b8} {L:List Int} {pg pc z:Int} {i:Nat} (h:yD cls V script S0 j S L) (hs:script[j]?=some (pg,pc)) (hi:(cu S.fr S.G S.G.length)[dA pg (cu S.fr S.G S.G.length).length]?=some i) (hg:Cv cls S S' i pc z) (hl:mR V S'=false):yD cls V script S0 (j+1) S' (L++[z])
def Rq (V:List Nat) (S:b8):Prop:=(∀v∈V,Za.size (S.T v)≤300)∧∀g∈S.G,∀x:Int,x=(g.l:Int)∨x=g.r∨x=g.z→x≠-1→Za.size (S.T x.toNat)≤300
theorem rQ {T:Nat→Za.U} {x:Int} (h:fY T x=false) (hx:x≠-1):Za.size (T x.toNat)≤40:=by
 unfold fY at h
 have:=of_decide_eq_false h
 omega
theorem Gf {w:World} {mb:Nat} {cls:List Za.aL} {clo:Option Addr} {clc:Nat} {V:List Nat} {vo:Option Addr} {vc:Nat} {L:List Int} {lo:Option Addr} {lc:Nat} {S:b8} {nO:Option Addr} {nC:Nat} {po:Option Addr} {pc:Nat} (h:dR w mb cls clo clc V vo vc L lo lc S nO nC po pc) (hl:mR V S=false):Rq V S∧S.G.length≤24:=by
 unfold mR at hl
 simp only[Bool.or_eq_false_iff,decide_eq_false_iff_not]at hl
 obtain⟨h1,h2,h3⟩:=hl
 refine⟨⟨fun v hv=> ?_,fun g hg x hx hne=> ?_⟩,by omega⟩
 ·have:=List.any_eq_false.1 h2 (v:Int) (List.mem_map.2 ⟨v,hv,rfl⟩)
  have:=rQ (T:=S.T) (x:=(v:Int)) (by simpa using this) (by omega)
  simp at this
  omega
 ·have hb:∀y∈iK S.D S.fr g,fY S.T y=false:=fun y hy=>by
   have:=List.any_eq_false.1 h3 g hg
   unfold ji at this
   have:=List.any_eq_false.1 (by simpa using this) y hy
   simpa using this
  have gw:=h.gw g hg
  by_cases hs:g.sg.toList=[]
  ·have hr:=gw.r0 hs
   have hz:g.z= -1:=by
    by_cases ho:g.op.toList=[]
    ·exact gw.z0 ho
    ·have:=gw.oe ho;rw[hs]at this;cases this
   have nW:x=(g.l:Int):=by
    rcases hx with q | q | q
    ·exact q
    ·exact absurd (q.trans hr) hne
    ·exact absurd (q.trans hz) hne
   rw[nW]
   have e0:((g.l:Int)).toNat=g.l:=by simp
   rw[e0]
   have hf:=h.mc.ok.lt gw.ll
   obtain⟨d,hd,zS,Uj,MO,tJ⟩:=(⟨h.mc.st,h.mc.ok,h.to,h.ar,Nat.le_refl _⟩:gq w w.heap.size mb 1 _ 91 S.D nO nC S.fr S.T _).node gw.ll
   obtain⟨tx,us,bh⟩:=gw.nm hs
   have fh:d.k≠1:=fun q=>by rw[MO q]at bh;cases bh
   obtain⟨lk,ltx,lnum,dN,hT⟩:=tJ fh
   rw[hT,Za.size]
   have CR:iK S.D S.fr g=d.args.map fun n:Nat=>(n:Int):=by
    unfold iK
    rw[if_pos hs,hd]
    rfl
   have xt:d.args.length≤3:=by
    rcases zS.ks with q | q | q
    ·rw[(zS.v q).2.2.2];simp
    ·rw[(zS.m q).2.2];simp
    ·exact(zS.c q).2.2
   have key:∀(ns:List Nat),(∀n∈ns,Za.size (S.T n)≤40)→Za.sizeL (ns.map S.T)≤ns.length*40:=by
    intro ns
    induction ns with
    | nil=>intro _;simp[Za.sizeL]
    | cons n ns ih=>
     intro hn
     have h1:=hn n (by simp)
     have h2:=ih (fun m hm=>hn m (by simp[hm]))
     rw[List.map_cons,Za.sizeL,List.length_cons]
     omega
   have:=key d.args (fun n hn=>by
    have:=rQ (T:=S.T) (x:=(n:Int)) (hb _ (by rw[CR];exact List.mem_map.2 ⟨n,hn,rfl⟩)) (by omega)
    simpa using this)
   omega
  ·have CR:iK S.D S.fr g=[(g.l:Int),g.r,g.z]:=by unfold iK;rw[if_neg hs]
   have:=rQ (T:=S.T) (x:=x) (hb x (by rw[CR];rcases hx with q | q | q<;>simp[q])) hne
   omega
theorem dR.start {P:Nat→Prop} {w1 w3:World} {mb cb:Nat} {cls:List Za.aL} {clo:Option Addr} {clc:Nat} {TT:Nat→Za.U} {N:List (List UInt8)} {items:List Za.aH} {E:List Ng} {F:List Nat} {no':Option Addr} {nc':Nat} {vo':Option Addr} {vc':Nat} {T':Nat→Za.U} {Gn:List Gl} {po':Option Addr} {pc':Nat} (h:Ck P w1 mb (qg clo cls.length clc none 0 0 none 0 0 none 0 0 none 0 0 0) cb [] [] none none id TT [] none N [] items E F no' nc' vo' vc' T' Gn po' pc' w3) (gh:cX w3 clo cls.length cls) (dh:∀x∈items,Za.iW x):
 dR (w3.setCell ⟨mb,2,none⟩ (.slice vo' F.length vc')) mb cls clo clc F vo' vc' [] none 0 ⟨E,id,T',Gn⟩ no' nc' po' pc':=by
 have ms:=h.ms
 have mc:=h.mc
 simp only[List.nil_append]at ms mc
 have hblk:=aA mc.st.blk 2 (.slice vo' F.length vc')
 have kT:∀{k:Nat} {ys:Array Value} {Y:TypeId},w3.heap[k]?=some (.cells ys Y (0,0))→Y≠91→(w3.setCell ⟨mb,2,none⟩ (.slice vo' F.length vc')).heap[k]?=w3.heap[k]?:=fun {k ys Y} hk h1=>aJ _ _ _ _ (fun e=>by
  rw[e,mc.st.blk]at hk
  simp only[Option.some.injEq,Obj.cells.injEq]at hk
  exact h1 hk.2.1.symm)
 have kR:∀{b n cap sz:Nat} {Y:TypeId} {o:Option Addr} {zs:List Value},w3.ownsRow b Y sz (.slice o n cap) n zs→Y≠91→(w3.setCell ⟨mb,2,none⟩ (.slice vo' F.length vc')).ownsRow b Y sz (.slice o n cap) n zs:=fun {b n cap sz Y o zs} ho h1=>ai ho fun k q=>by
  obtain⟨cur,hc⟩:=aK ho (aI q)
  exact kT hc h1
 have tT:=h.gl.length
 refine⟨⟨⟨hblk,rfl,kR mc.st.own (by decide),mc.st.ty⟩,mc.ok,rfl,kR mc.pool (by decide),fun g hg=>kR (mc.nds g hg) (by decide),mc.nlt,mc.nl⟩,ms.to,ms.ad.args.keep fun g _ _ hg=>⟨(kT hg (by decide)).trans hg,fun⟨_,q,_⟩=>by cases q⟩,kR ms.ad.sc.own (by decide),ms.lt,World.ownsRow_nil _ _ _ _,(fun k ⟨_,q,_⟩=>by cases q),(fun g _ k _ ⟨_,q,_⟩=>by cases q),?_,?_,fun g hg=> ?_,?_⟩
 ·exact(show ed w3 _ from fun k ys Y hk hY=>(kT hk (by rcases hY with e | e | e<;>(rw[e];decide))).trans hk).cls gh
 ·have:=h.nd.val (D:=[]) (fun d hd=>by cases hd)
  simpa using this
 ·change g∈Gn at hg
  obtain⟨j,hj,rfl⟩:=List.getElem_of_mem hg
  have:=(h.gl.at j (by omega) hj).gw (dh _ (List.getElem_mem (by omega)))
  simpa using this
 ·have:=h.nd.Ek (D:=[]) (fun d hd=>by cases hd)
  simpa using this
def pC (w:World) (so:Option Addr) (script:List (Int×Int)):Prop:=script≠[]→∃g off,so=some ⟨g,off,none⟩∧g<w.heap.size∧∀(i:Nat) (h:i<script.length),w.cell? ⟨g,off+i*2,none⟩=some (.int .i64 script[i].1)∧w.cell? ⟨g,off+i*2+1,none⟩=some (.int .i64 script[i].2)
structure CS (N:List (List UInt8)) (items:List Za.aH) (F:List Nat) (S:b8):Prop where
 fr:S.fr=id
 nd:dG 0 S.D
 nv:fC 0 S.D F
 ln:F.length=(Za.aC [] items).length
 lt:∀v∈F,v<S.D.length
 sto:Za.dD (aY S.D) S.fr S.T
 ok:bW S.D S.fr
 gl:bO (mD S.T S.D.length (cP S.T F N)) items S.G
def ui (cls:List Za.aL) (F:List Nat) (script:List (Int×Int)) (S0:b8) (b:Nat) (e:Ending) (w':World):Prop:=
 ∃(j:Nat) (S:b8) (L:List Int) (lo:Option Addr) (lc:Nat),yD cls F script S0 j S L∧
  ((((j=script.length∨cu S.fr S.G S.G.length=[])∧∃(xo:Option Addr) (xc:Nat) (go:Option Addr) (gc:Nat) (yo:Option Addr) (yc:Nat),e= .returned (.agg #[.int .i64 (gG S.fr S.G),.slice lo L.length lc,.slice xo F.length xc,.slice go S.G.length gc,.slice yo S.G.length yc])∧w'.ownsRow b 3 1 (.slice lo L.length lc) L.length (L.map fV)∧w'.ownsRow b 9 1 (.slice xo F.length xc) F.length ((eE S.T F).1.map iw)∧w'.ownsRow b 9 1 (.slice go S.G.length gc) S.G.length ((kA S.T (eE S.T F).2 S.G).1.map iw)∧w'.ownsRow b 4 1 (.slice yo S.G.length yc) S.G.length (S.G.map fun g=> .bool (!fK S.fr g))∧(∀k,rowOf xo k→¬rowOf go k)))∨
   (∃(pg pc:Int) (i:Nat) (en z:Int),script[j]?=some (pg,pc)∧(cu S.fr S.G S.G.length)[dA pg (cu S.fr S.G S.G.length).length]?=some i∧((I7 cls S i pc en∧(en=4∨en=5)∧z= -2)∨(en=6∧∃S',Cv cls S S' i pc z∧mR F S'=true))∧e= .returned (.agg #[.int .i64 en,.slice lo (L++[z]).length lc,.slice none 0 0,.slice none 0 0,.slice none 0 0])∧w'.ownsRow b 3 1 (.slice lo (L++[z]).length lc) (L++[z]).length ((L++[z]).map fV)))
structure QS (w:World) (cls:List Za.aL) (clo:Option Addr) (clc:Nat) (F:List Nat) (vo:Option Addr) (vc:Nat) (script:List (Int×Int)) (S0:b8) (j:Nat) (S:b8) (L:List Int) (lo:Option Addr) (lc:Nat) (nO:Option Addr) (nC:Nat) (po:Option Addr) (pc:Nat) (wr:World):Prop where
 ru:yD cls F script S0 j S L
 ma:dR wr (w.heap.size+1) cls clo clc F vo vc L lo lc S nO nC po pc
 sm:Rq F S
 gl:S.G.length≤100
 ll:L.length=j
 dl:S.D.length≤200000+j*1100000
 be:Below w.heap.size w wr
 rw_:∀k,(rowOf nO k∨rowOf po k∨rowOf lo k)→w.heap.size≤k
 zb:wr.heap[w.heap.size]?=some (.cells #[.int .i64 0,.slice none 0 0,.slice none 0 0,.slice none 0 0,.slice none 0 0] 32 (0,0))
def Ux (w:World) (cls:List Za.aL) (clo:Option Addr) (clc:Nat) (F:List Nat) (vo:Option Addr) (vc:Nat) (script:List (Int×Int)) (S0:b8) (k:Nat) (iv:Value) (wr:World):Prop:=
 ∃(j:Nat) (S:b8) (L:List Int) (lo:Option Addr) (lc:Nat) (nO:Option Addr) (nC:Nat) (po:Option Addr) (pc:Nat),k+j=script.length∧iv= .int .i64 (j:Int)∧QS w cls clo clc F vo vc script S0 j S L lo lc nO nC po pc wr
theorem QS.below {w:World} {cls:List Za.aL} {clo:Option Addr} {clc:Nat} {F:List Nat} {vo:Option Addr} {vc:Nat} {script:List (Int×Int)} {S0:b8} {j:Nat} {S:b8} {L:List Int} {lo:Option Addr} {lc:Nat} {nO:Option Addr} {nC:Nat} {po:Option Addr} {pc:Nat} {wr w':World} (h:QS w cls clo clc F vo vc script S0 j S L lo lc nO nC po pc wr) (hb:Below wr.heap.size wr w'):QS w cls clo clc F vo vc script S0 j S L lo lc nO nC po pc w':=
 ⟨h.ru,h.ma.below hb,h.sm,h.gl,h.ll,h.dl,h.be.trans (hb.mono h.be.size),h.rw_,(hb.block _ (ag h.zb)).trans h.zb⟩
theorem sto_empty:Za.dD (aY []) id (fun n=> .v ([],n)):=by
 have hg:∀n,Za.gl (aY []) n=none:=fun n=>rfl
 have ha:∀n,Za.ga (aY []) n=[]:=fun n=>rfl
 exact⟨⟨fun _=>rfl,fun n hn=>absurd (hg n) hn⟩,⟨fun n hn=>absurd (hg n) hn,fun n hn=>absurd (hg n) hn⟩,fun n=> .var (hg n) (ha n),fun n _=>ha n,fun n _=>Nat.le_refl _⟩
theorem okD_empty:bW [] id:=⟨fun _ hn=>absurd hn (Nat.not_lt_zero _),fun _ hn=>absurd hn (Nat.not_lt_zero _),fun _ _=>rfl⟩
end Go.Proofs.YthfjnfcekeknlaaGreatDoor
namespace Za
theorem txL_len2:∀l:List Nat,(∀d∈l,d<1000000000)→(txL l).length≤104*l.length+1
 | [],_=>by simp[txL]
 | d :: l,h=>by
  have:=wB (h d (by simp))
  have:=txL_len2 l (fun e he=>h e (by simp[he]))
  rw[txL]
  simp only[List.length_append,List.length_cons,List.length_nil]
  omega
end Za
namespace Go.Proofs.YthfjnfcekeknlaaGreatDoor
open Go.RowKit
theorem wI (w:World) (l:List Nat) (o:Option Addr) (c:Nat) (hr:l7 w o (l.map fun(n:Nat)=>(n:Int))) (hd:∀d∈l,d<1000000000) (hl:l.length≤1000):
 Calls Tryz.prog 16 #[.slice o l.length c] w fun e w'=>e= .returned (.string ⟨(Za.txL l).toArray⟩)∧Below w.heap.size w w':=by
 have HR:=af hr
 have HD:=af hd
 clear hr hd
 have HST:=af (show∃j:Nat,l.length=j∧(Value.int .i64 ((l.length:Int) - 1))= .int .i64 ((j:Int) - 1)∧(Value.string ⟨#[110]⟩)= .string ⟨(Za.txL (l.drop j)).toArray⟩∧j≤l.length∧Below w.heap.size w w from ⟨l.length,rfl,rfl,by rw[List.drop_length];rfl,Nat.le_refl _,Below.refl _ _⟩)
 go_enter Tryz.func16,Tryz.ntmps16
 go_wp2_with fail
 go_loopg [3,4] l.length (fun k sv iv wr=>∃j:Nat,k=j∧iv= .int .i64 ((j:Int) - 1)∧sv= .string ⟨(Za.txL (l.drop j)).toArray⟩∧j≤l.length∧Below w.heap.size w wr)
 case atStart=>exact ae HST
 case round=>
  clear HST
  obtain⟨j,hkj,rfl,rfl,Qw,aS⟩:=hrel
  have bf:=af hkj
  clear hkj
  have cm:=af aS
  have zb:=aS.size
  by_cases h0:j=0
  ·subst h0
   rw[List.drop_zero]
   generalize hX:Za.txL l=X at*
   have HX:=af hX
   clear aS hX
   have t1:decide ((0:Int)≤((0:Nat):Int) - 1)=false:=by decide
   go_wp2_with fail
   go_ret
   exact⟨by rw[ae HX];rfl,ae cm⟩
  ·obtain⟨i,rfl⟩:∃i,j=i+1:=⟨j - 1,by omega⟩
   have sw:i<l.length:=by omega
   obtain⟨g,rfl,gz,gc⟩:=ae HR (fun q=>by rw[List.map_eq_nil_iff]at q;rw[q]at sw;simp at sw)
   have f0:wr.cell? ⟨g,i,none⟩=some (.int .i64 (l[i]:Int)):=by
    rw[aS.cell (p:=⟨g,i,none⟩) gz,gc i (by simpa using sw)]
    simp
   have gy:g<wr.heap.size:=by omega
   have e1:((i+1:Nat):Int) - 1=(i:Int):=by omega
   have t1:decide ((0:Int)≤(i:Int))=true:=by simp
   have i0:(0:Int)≤(i:Int):=by omega
   have i1:(i:Int)<(l.length:Int):=by omega
   have ID:=af (decimalK l[i] (ae HD _ (List.getElem_mem sw)) wr)
   have x1:=Za.wB (ae HD _ (List.getElem_mem sw))
   have x2:=Za.txL_len2 (l.drop (i+1)) (fun d hd=>ae HD d (List.mem_of_mem_drop hd))
   rw[List.length_drop]at x2
   have x3:(Za.txL (l.drop (i+1))).length≤1000000:=by omega
   have HT:=af (show Za.txL (l.drop i)=[99,40]++Za.iP l[i]++[44]++Za.txL (l.drop (i+1))++[41]by rw[List.drop_eq_getElem_cons sw,Za.txL])
   rw[e1]
   generalize Za.txL (l.drop (i+1))=X at*
   generalize Za.iP l[i]=Y at*
   generalize (l[i]:Int)=y at*
   clear aS gc x2 e1
   go_wp2_with fail
   refine(ae ID).mono ?_
   rintro e w5 ⟨rfl,bt⟩
   have bH:=af ((ae cm).trans (bt.mono zb))
   clear bt
   go_wp2_with fail
   go_roundg (gk - 1)
   case measure=>have:=ae bf;omega
   case rel=>exact⟨i,by have:=ae bf;omega,by go_num,by rw[ae HT,←eM,←eM,←eM,←eM],by omega,ae bH⟩
theorem Rs (w:World) (xs:List Int) (z:Int) (o:Option Addr) (c:Nat) (hr:l7 w o xs) (hl:xs.length≤1000000):
 Calls Tryz.prog 20 #[.slice o xs.length c,.int .i64 z] w fun e w'=>e= .returned (.int .i64 (xs.count z:Int))∧Below w.heap.size w w':=by
 have HR:=af hr
 clear hr
 go_enter Tryz.func20,Tryz.ntmps20
 go_wp2_with fail
 go_loopg [5,6] xs.length (fun k cv iv wr=>∃j:Nat,k+j=xs.length∧iv= .int .i64 (j:Int)∧cv= .int .i64 ((xs.take j).count z:Int)∧Below w.heap.size w wr)
 case atStart=>exact⟨0,by omega,rfl,by simp,Below.refl _ _⟩
 case round=>
  obtain⟨j,hkj,rfl,rfl,aS⟩:=hrel
  have cm:=af aS
  have zb:=aS.size
  have gh:(xs.take j).count z≤j:=Nat.le_trans List.count_le_length (by rw[List.length_take];omega)
  by_cases hlt:j<xs.length
  ·obtain⟨g,rfl,gz,gc⟩:=ae HR (fun q=>by rw[q]at hlt;simp at hlt)
   have f0:wr.cell? ⟨g,j,none⟩=some (.int .i64 xs[j]):=(aS.cell (p:=⟨g,j,none⟩) gz).trans (gc j hlt)
   have gy:g<wr.heap.size:=by omega
   have i0:(0:Int)≤(j:Int):=by omega
   have i1:(j:Int)<(xs.length:Int):=by omega
   have i2:j≤1000000:=by omega
   have HT:=af (show (xs.take (j+1)).count z=(xs.take j).count z+(if xs[j]=z then 1 else 0)by
    rw[List.take_succ_eq_append_getElem hlt,List.count_append,List.count_singleton]
    by_cases q:xs[j]=z<;>simp[q])
   have bf:=af hkj
   generalize (xs.take j).count z=C at*
   by_cases q:xs[j]=z
   ·rw[if_pos q]at HT
    have t1:(xs[j] == z)=true:=by simpa using q
    generalize xs[j]=x at*
    clear aS gc q hkj
    go_wp2_with fail
    go_roundg (gk - 1)
    case measure=>have:=ae bf;omega
    case rel=>exact⟨j+1,by have:=ae bf;omega,by go_num,by rw[ae HT];go_num,ae cm⟩
   ·rw[if_neg q]at HT
    have t1:(xs[j] == z)=false:=by simpa using q
    generalize xs[j]=x at*
    clear aS gc q hkj
    go_wp2_with fail
    go_roundg (gk - 1)
    case measure=>have:=ae bf;omega
    case rel=>exact⟨j+1,by have:=ae bf;omega,by go_num,by rw[ae HT];rfl,ae cm⟩
  ·obtain rfl:j=xs.length:=by omega
   rw[List.take_length]at gh⊢
   clear aS hkj
   go_wp2_with fail
   go_ret
   exact⟨rfl,ae cm⟩
theorem Rt (w:World) (xs:List ByteArray) (oa ob:Option Addr) (ca cb:Nat) (ha:nQ w oa xs) (hb:nQ w ob xs) (hl:xs.length≤1000000):
 Calls Tryz.prog 29 #[.slice oa xs.length ca,.slice ob xs.length cb] w fun e w'=>e= .returned (.bool true)∧Below w.heap.size w w':=by
 have HA:=af ha
 have HB:=af hb
 clear ha hb
 go_enter Tryz.func29,Tryz.ntmps29
 go_wp2_with fail
 go_loopg [5] xs.length (fun k iv wr=>∃j:Nat,k+j=xs.length∧iv= .int .i64 (j:Int)∧Below w.heap.size w wr)
 case atStart=>exact⟨0,by omega,rfl,Below.refl _ _⟩
 case round=>
  obtain⟨j,hkj,rfl,aS⟩:=hrel
  have cm:=af aS
  have zz:=aS.size
  by_cases hlt:j<xs.length
  ·obtain⟨g,rfl,gz,ga⟩:=ae HA (fun q=>by rw[q]at hlt;simp at hlt)
   obtain⟨g2,rfl,gz2,gb⟩:=ae HB (fun q=>by rw[q]at hlt;simp at hlt)
   have f0:wr.cell? ⟨g,j,none⟩=some (.string xs[j]):=(aS.cell (p:=⟨g,j,none⟩) gz).trans (ga j hlt)
   have f1:wr.cell? ⟨g2,j,none⟩=some (.string xs[j]):=(aS.cell (p:=⟨g2,j,none⟩) gz2).trans (gb j hlt)
   have i0:(0:Int)≤(j:Int):=by omega
   have i1:(j:Int)<(xs.length:Int):=by omega
   have gy:g<wr.heap.size:=by omega
   have gy2:g2<wr.heap.size:=by omega
   generalize xs[j]=x at*
   clear aS ga gb
   go_wp2_with fail
   go_big_region
   go_wp2_with fail
   go_roundg (gk - 1)
   case measure=>omega
   case rel=>exact⟨j+1,by omega,by go_num,(ae cm).drew⟩
  ·obtain rfl:j=xs.length:=by omega
   clear aS
   go_wp2_with fail
   go_ret
   exact⟨rfl,ae cm⟩
theorem SV (w:World) (xs:List ByteArray) (lo:Option Addr) (ln lc:Nat) (xo:Option Addr) (xc:Nat) (go:Option Addr) (gc:Nat) (yo:Option Addr) (yc:Nat) (vo:Option Addr) (vc:Nat) (ha:nQ w xo xs) (hb:nQ w vo xs) (hl:xs.length≤1000000):
 Calls Tryz.prog 18 #[.agg #[.int .i64 1,.slice lo ln lc,.slice xo xs.length xc,.slice go 0 gc,.slice yo 0 yc],.int .i64 0,.slice vo xs.length vc] w fun e w'=>e= .returned (.bool true)∧Below w.heap.size w w':=by
 have hb0:=(Below.refl w.heap.size w).alloc (Nat.le_refl _) (.cells #[.int .i64 1,.slice lo ln lc,.slice xo xs.length xc,.slice go 0 gc,.slice yo 0 yc] 32)
 have IS:=af (Rt _ xs xo vo xc vc (ha.below hb0) (hb.below hb0) hl)
 have aX:=af hb0
 have Ji:=af (heap_alloc_new w (.cells #[.int .i64 1,.slice lo ln lc,.slice xo xs.length xc,.slice go 0 gc,.slice yo 0 yc] 32))
 generalize xs.length=nx at*
 clear hb0 ha hb
 go_enter Tryz.func18,Tryz.ntmps18
 go_wp2_with fail
 refine(ae IS).mono ?_
 rintro e w2 ⟨rfl,hb2⟩
 have hz2:=(hb2.block w.heap.size (by simp)).trans (ae Ji)
 have f0:=ah hz2 0
 have f3:=ah hz2 3
 have f4:=ah hz2 4
 simp only[List.getElem?_toArray,List.getElem?_cons_zero,List.getElem?_cons_succ]at f0 f3 f4
 have wz:w.heap.size<w2.heap.size:=ag hz2
 have aZ:=af ((ae aX).trans (hb2.mono (ae aX).size))
 clear hb2 hz2 IS Ji
 go_wp2_with fail
 go_ret
 exact⟨rfl,ae aZ⟩
theorem Ru (w:World) (lo:Option Addr) (ln lc:Nat) (xo:Option Addr) (xn xc:Nat) (go:Option Addr) (gn gc:Nat) (yo:Option Addr) (yc:Nat) (hg:0<gn):
 Calls Tryz.prog 17 #[.agg #[.int .i64 3,.slice lo ln lc,.slice xo xn xc,.slice go gn gc,.slice yo gn yc],.int .i64 0,.int .i64 (ln:Int)] w fun e w'=>e= .returned (.bool true)∧Below w.heap.size w w':=by
 have hb0:=(Below.refl w.heap.size w).alloc (Nat.le_refl _) (.cells #[.int .i64 3,.slice lo ln lc,.slice xo xn xc,.slice go gn gc,.slice yo gn yc] 32)
 have aX:=af hb0
 have t1:decide (0<gn)=true:=by simpa using hg
 have t2:decide ((0:Int)<(gn:Int))=true:=by simp;omega
 clear hb0
 go_enter Tryz.func17,Tryz.ntmps17
 go_wp2_with fail
 go_ret
 exact⟨rfl,ae aX⟩
def ql (W:World) (a0:Option Addr) (len cap:Nat):Prop:=∃script:List (Int×Int),script.length=len∧len≤cap∧cap≤maxLen∧pC W a0 script∧∀p∈script,(-9223372036854775808≤p.1∧p.1≤9223372036854775807)∧(-9223372036854775808≤p.2∧p.2≤9223372036854775807)
theorem pC.below {w w':World} {so:Option Addr} {script:List (Int×Int)} (h:pC w so script) (hb:Below w.heap.size w w'):pC w' so script:=fun q=>by
 obtain⟨g,off,h1,h2,h3⟩:=h q
 refine⟨g,off,h1,Nat.lt_of_lt_of_le h2 hb.size,fun i hi=> ?_⟩
 obtain⟨e1,e2⟩:=h3 i hi
 exact⟨(hb.cell (p:=⟨g,off+i*2,none⟩) h2).trans e1,(hb.cell (p:=⟨g,off+i*2+1,none⟩) h2).trans e2⟩
theorem ql.below {w w':World} {so:Option Addr} {len cap:Nat} (h:ql w so len cap) (hb:Below w.heap.size w w'):ql w' so len cap:=by
 obtain⟨script,h1,h2,h3,h4,h5⟩:=h
 exact⟨script,h1,h2,h3,h4.below hb,h5⟩
theorem pC.take {w:World} {so:Option Addr} {script:List (Int×Int)} (h:pC w so script) (n:Nat):pC w so (script.take n):=fun q=>by
 obtain⟨g,off,h1,h2,h3⟩:=h (fun r=>q (by rw[r];simp))
 refine⟨g,off,h1,h2,fun i hi=> ?_⟩
 rw[List.length_take]at hi
 have:=h3 i (by omega)
 rw[List.getElem_take]
 exact this
theorem SX (w:World) (o:Option Addr) (n c:Nat) (h:ql w o n c):
 Calls Tryz.prog 14 #[.slice o n c,.int .i64 100] w fun e w'=>(∃(m c':Nat),e= .returned (.slice o m c')∧m≤100∧ql w o m c')∧w'=w:=by
 have oX:n≤9223372036854775807:=by obtain⟨_,_,h1,h2,_⟩:=h;unfold maxLen at h2;omega
 by_cases q:100<n
 ·have t1:decide ((100:Int)<(n:Int))=true:=by simp;omega
  have t2:decide (100<n)=true:=by simpa using q
  obtain⟨script,h1,h2,h3,h4,h5⟩:=h
  obtain⟨g,off,rfl,gz,_⟩:=h4 (fun r=>by rw[r]at h1;simp at h1;omega)
  have HS:=af (show ql w (some ⟨g,off,none⟩) 100 c from ⟨script.take 100,by rw[List.length_take];omega,by omega,h3,h4.take 100,fun p hp=>h5 p (List.mem_of_mem_take hp)⟩)
  have hc:100≤c:=by omega
  have hcm:c≤9223372036854775807:=by unfold maxLen at h3;exact h3
  clear h1 h3 h4 h5
  go_enter Tryz.func14,Tryz.ntmps14
  go_wp2_with fail
  go_ret
  exact⟨⟨100,_,rfl,Nat.le_refl _,ae HS⟩,rfl⟩
 ·have t1:decide ((100:Int)<(n:Int))=false:=by simp;omega
  have t2:decide (100<n)=false:=by simpa using q
  have HS:=af h
  clear h
  go_enter Tryz.func14,Tryz.ntmps14
  go_wp2_with fail
  go_ret
  exact⟨⟨n,c,rfl,by omega,ae HS⟩,rfl⟩
end Go.Proofs.YthfjnfcekeknlaaGreatDoor
namespace Za
open Go.Proofs.YthfjnfcekeknlaaGreatDoor (eP dA ir)
def MG.ren (r:Nat→Nat) (g:MG):MG:=⟨bl r g.a,g.sg,bl r g.b,g.op,bl r g.c,g.wt,fun w=>∃v,g.on v∧r v=w⟩
structure qY (P:Nat→Prop) (g:MG):Prop where
 a:bB (PQ P) g.a
 b:bB (PQ P) g.b
 c:bB (PQ P) g.c
 on:∀v,g.on v→P v
structure eG (r:Nat→Nat) (P:Nat→Prop) (S S':MS):Prop where
 mono:∀i j,P i→P j→i<j→r i<r j
 l1:∀k,P k→k<S.lim
 l2:∀k,P k→r k<S'.lim
 wv:∀u∈S.vs,bB (PQ P) u
 wg:∀g∈S.gs,qY P g
 vs:S'.vs=S.vs.map (bl r)
 gs:S'.gs=S.gs.map (MG.ren r)
def pD (r:Nat→Nat) (P:Nat→Prop):Prop:=∀i j,P i→P j→i<j→r i<r j
theorem pD.inj {r:Nat→Nat} {P:Nat→Prop} (h:pD r P):gY r P:=fun i j hi hj e=>by
 rcases Nat.lt_trichotomy i j with q | q | q
 ·have:=h i j hi hj q;omega
 ·exact q
 ·have:=h j i hj hi q;omega
theorem fB.rn {r:Nat→Nat} {P:Nat→Prop} (hm:pD r P) {a b:U} {σ τ:Vr→U} (h:fB a b σ) (k:fB (bl r a) (bl r b) τ) (ha:bB (PQ P) a) (hb:bB (PQ P) b) {u:U} (hu:bB (PQ P) u):sub τ (bl r u)=bl r (sub σ u):=
 h.ren (ρ:=Za.rn r) (Q:=PQ P) (fun x y hx hy e=>hm.inj.on x y hx hy e) (fun x y hx hy _ hl=>⟨rfl,by
  show r y.2≤r x.2
  rcases Nat.lt_or_eq_of_le hl with q | q
  ·exact Nat.le_of_lt (hm _ _ hy.2 hx.2 q)
  ·rw[q];exact Nat.le_refl _⟩) ((eN a).1 ha) ((eN b).1 hb) k u ((eN u).1 hu)
theorem fB.uk {Q:Vr→Prop} {a b:U} {σ:Vr→U} (h:fB a b σ) (ha:bB Q a) (hb:bB Q b) {u:U} (hu:bB Q u):bB Q (sub σ u):=by
 induction hu with
 | @v x hx=>
  refine(eN _).2 fun z hz=> ?_
  rcases h.vars hz with q | q | q
  ·rw[q];exact hx
  ·exact(eN a).1 ha z q
  ·exact(eN b).1 hb z q
 | @n k tx num ss hs ih=>
  rw[dX]
  refine .n fun u hu=> ?_
  obtain⟨s,hs',rfl⟩:=List.mem_map.1 hu
  exact ih s hs'
theorem Et {r:Nat→Nat} {P:Nat→Prop} (hm:pD r P) {a b:U} {σ τ:Vr→U} (h:fB a b σ) (k:fB (bl r a) (bl r b) τ) (ha:bB (PQ P) a) (hb:bB (PQ P) b) {g:MG} (hg:qY P g):MG.put τ (MG.ren r g)=MG.ren r (MG.put σ g)∧qY P (MG.put σ g):=by
 have hs:(MG.ren r g).stays τ↔g.stays σ:=by
  refine⟨fun q=>⟨q.1,fun v hv=> ?_⟩,fun q=>⟨q.1,fun w hw=> ?_⟩⟩
  ·have e:τ ([],r v)= .v ([],r v):=q.2 (r v) ⟨v,hv,rfl⟩
   have e2:τ ([],r v)=bl r (σ ([],v)):=h.rn hm k ha hb (u:= .v ([],v)) (.v ⟨rfl,hg.on v hv⟩)
   rw[e]at e2
   have uf:bB (PQ P) (σ ([],v)):=h.uk ha hb (u:= .v ([],v)) (.v ⟨rfl,hg.on v hv⟩)
   generalize σ ([],v)=s at e2 uf
   cases s with
   | n kk tx num ss=>rw[fS]at e2;cases e2
   | v z=>
    rw[qh]at e2
    injection e2 with e2
    injection e2 with _ e2
    have:=hm.inj _ _ (hg.on v hv) uf.var.2 e2
    congr 1
    exact Prod.ext uf.var.1 this.symm
  ·obtain⟨v,hv,rfl⟩:=hw
   have e2:τ ([],r v)=bl r (σ ([],v)):=h.rn hm k ha hb (u:= .v ([],v)) (.v ⟨rfl,hg.on v hv⟩)
   rw[e2,q.2 v hv]
   rfl
 refine⟨?_,⟨h.uk ha hb hg.a,h.uk ha hb hg.b,h.uk ha hb hg.c,fun v hv=>hg.on v hv.2⟩⟩
 unfold MG.put
 have e1:(MG.ren r g).a=bl r g.a:=rfl
 have e2:(MG.ren r g).b=bl r g.b:=rfl
 have e3:(MG.ren r g).c=bl r g.c:=rfl
 rw[e1,e2,e3,h.rn hm k ha hb hg.a,h.rn hm k ha hb hg.b,h.rn hm k ha hb hg.c]
 unfold MG.ren at hs⊢
 dsimp only at hs⊢
 congr 1
 ·exact decide_eq_decide.2 hs
 ·funext w
  apply propext
  constructor
  ·rintro⟨q1,v,q2,q3⟩
   exact⟨v,⟨hs.1 q1,q2⟩,q3⟩
  ·rintro⟨v,⟨q1,q2⟩,q3⟩
   exact⟨hs.2 q1,v,q2,q3⟩
theorem Eu {r:Nat→Nat} {P:Nat→Prop} (hi:gY r P) {a b:U} (ha:bB (PQ P) a) (hb:bB (PQ P) b) (h:∀θ,sub θ (bl r a)≠sub θ (bl r b)):∀θ,sub θ a≠sub θ b:=by
 classical
 refine OP (ρ:=Za.rn r) (ρ':=fun w=>if q:∃v,PQ P v∧Za.rn r v=w then Classical.choose q else w) (fun v hv=> ?_) h
 have hp:PQ P v:=by
  rcases hv with q | q
  ·exact(eN a).1 ha v q
  ·exact(eN b).1 hb v q
 have q:∃z,PQ P z∧Za.rn r z=Za.rn r v:=⟨v,hp,rfl⟩
 rw[dif_pos q]
 exact hi.on _ _ (Classical.choose_spec q).1 hp (Classical.choose_spec q).2
theorem LU {r:Nat→Nat} {a b:U} (h:∀θ,sub θ a≠sub θ b):∀θ,sub θ (bl r a)≠sub θ (bl r b):=fun θ e=>by
 unfold bl at e
 rw[sub_sub,sub_sub]at e
 exact h _ e
theorem tW.parts {x:aH} (h:tW x) (ns:List (List UInt8)):∀t,(t=x.left∨x.right=some t∨x.last=some t)→wfK 8 t∧∃ns',∀y∈namesF 8 ns' t,y∈aP ns x:=fun t ht=>by
 have hO:∀(t:Option Tm) (ns:List (List UInt8)),∀y∈ns,y∈cD ns t:=fun t ns y hy=>by
  cases t with
  | none=>exact hy
  | some r=>
   obtain⟨K,hK⟩:=namesV_ext 8 r ns
   show y∈namesF 8 ns r
   rw[hK];exact List.mem_append_left _ hy
 rcases ht with q | q | q
 ·subst q;exact⟨h.wl,ns,fun y hy=>hO _ _ y (hO _ _ y hy)⟩
 ·refine⟨?_,namesF 8 ns x.left,fun y hy=>hO _ _ y (by rw[q];exact hy)⟩
  by_cases e:x.sign=[]
  ·rw[h.r0 e]at q;cases q
  ·obtain⟨r,h1,h2⟩:=h.r1 e
   rw[h1]at q;cases q;exact h2
 ·refine⟨?_,cD (namesF 8 ns x.left) x.right,fun y hy=>by unfold aP;rw[q];exact hy⟩
  by_cases e:x.op=[]
  ·rw[h.z0 e]at q;cases q
  ·obtain⟨r,h1,h2⟩:=h.z1 e
   rw[h1]at q;cases q;exact h2
theorem Jj {r:Nat→Nat} {η θ:List UInt8→U} {x:aH} (h:tW x) (ns:List (List UInt8)) (hy:∀y∈aP ns x,θ y=bl r (η y)):MG.of θ x=MG.ren r (MG.of η x):=by
 have hp:∀t,(t=x.left∨x.right=some t∨x.last=some t)→bJ θ 8 t=bl r (bJ η 8 t):=fun t ht=>by
  obtain⟨h1,ns',h2⟩:=h.parts ns t ht
  rw[ig (θ:=fun y=>bl r (η y)) 8 t ns' h1 (fun y q=>hy y (h2 y q)),uQ r η 8 t h1]
 unfold MG.of MG.ren
 dsimp only
 rw[hp x.left (Or.inl rfl)]
 congr 1
 ·cases e:x.right with
  | none=>exact(Gb r).symm
  | some t=>exact hp t (Or.inr (Or.inl e))
 ·cases e:x.last with
  | none=>exact(Gb r).symm
  | some t=>exact hp t (Or.inr (Or.inr e))
 ·funext w
  apply propext
  constructor
  ·intro q;exact q.elim
  ·rintro⟨_,q,_⟩;exact q.elim
theorem MV {P:Nat→Prop} {η:List UInt8→U} {x:aH} (h:tW x) (ns:List (List UInt8)) (hy:∀y∈aP ns x,bB (PQ P) (η y)):qY P (MG.of η x):=by
 have hp:∀t,(t=x.left∨x.right=some t∨x.last=some t)→bB (PQ P) (bJ η 8 t):=fun t ht=>by
  obtain⟨h1,ns',h2⟩:=h.parts ns t ht
  exact o9 8 t ns' h1 fun y q=>hy y (h2 y q)
 refine⟨hp x.left (Or.inl rfl),?_,?_,fun v q=>q.elim⟩
 ·show bB (PQ P) (x.right.elim zU (bJ η 8))
  cases e:x.right with
  | none=>exact Gc _
  | some t=>exact hp t (Or.inr (Or.inl e))
 ·show bB (PQ P) (x.last.elim zU (bJ η 8))
  cases e:x.last with
  | none=>exact Gc _
  | some t=>exact hp t (Or.inr (Or.inr e))
theorem LV {r:Nat→Nat} {P:Nat→Prop} (hm:pD r P) {l1 l2:Nat} (h1:∀k,P k→k<l1) (h2:∀k,P k→r k<l2) {F F':List Nat} (hl:F.length=F'.length) (hF:F.Pairwise (·<·)) (hF':F'.Pairwise (·<·)) (hf:∀f∈F,l1≤f) (hf':∀f∈F',l2≤f):∃r':Nat→Nat,pD r' (fun k=>P k∨k∈F)∧(∀k,P k→r' k=r k)∧(∀k,k<F.length→r' ((F[k]?).getD 0)=(F'[k]?).getD 0)∧(∀f∈F,r' f∈F'):=by
 have dx:∀i (hi:i<F.length),F.idxOf F[i]=i:=fun i hi=>by
  have hk:F.idxOf F[i]<F.length:=List.idxOf_lt_length_of_mem (List.getElem_mem hi)
  have he:F[F.idxOf F[i]]=F[i]:=List.getElem_idxOf hk
  rcases Nat.lt_trichotomy (F.idxOf F[i]) i with q | q | q
  ·have:=List.pairwise_iff_getElem.1 hF _ _ hk hi q;omega
  ·exact q
  ·have:=List.pairwise_iff_getElem.1 hF _ _ hi hk q;omega
 refine⟨fun k=>if k<l1 then r k else(F'[F.idxOf k]?).getD 0,?_,fun k hk=>if_pos (h1 k hk),fun k hk=> ?_,fun f XM=> ?_⟩
 ·have hat:∀i (hi:i<F.length),(if F[i]<l1 then r F[i]else(F'[F.idxOf F[i]]?).getD 0)=F'[i]'(by omega):=fun i hi=>by
   have:=hf _ (List.getElem_mem hi)
   rw[if_neg (by omega),dx i hi,List.getElem?_eq_getElem (by omega)]
   rfl
  intro i j hi hj Rv
  dsimp only
  rcases hi with hi | hi<;>rcases hj with hj | hj
  ·rw[if_pos (h1 i hi),if_pos (h1 j hj)];exact hm i j hi hj Rv
  ·obtain⟨b,hb,rfl⟩:=List.getElem_of_mem hj
   rw[hat b hb,if_pos (h1 i hi)]
   have:=h2 i hi
   have:=hf' _ (List.getElem_mem (show b<F'.length by omega))
   omega
  ·have:=hf i hi
   have:=h1 j hj
   omega
  ·obtain⟨a,ha,rfl⟩:=List.getElem_of_mem hi
   obtain⟨b,hb,rfl⟩:=List.getElem_of_mem hj
   rw[hat a ha,hat b hb]
   have:a<b:=by
    rcases Nat.lt_trichotomy a b with q | q | q
    ·exact q
    ·subst q;omega
    ·have:=List.pairwise_iff_getElem.1 hF _ _ hb ha q;omega
   exact List.pairwise_iff_getElem.1 hF' _ _ _ _ this
 ·have p9:=hf _ (List.getElem_mem hk)
  rw[List.getElem?_eq_getElem hk]
  dsimp only[Option.getD_some]
  rw[if_neg (by omega),dx k hk]
 ·obtain⟨a,ha,rfl⟩:=List.getElem_of_mem XM
  have:=hf _ (List.getElem_mem ha)
  dsimp only
  rw[if_neg (by omega),dx a ha,List.getElem?_eq_getElem (by omega)]
  exact List.getElem_mem _
theorem MG.Jk {r r':Nat→Nat} {P:Nat→Prop} (h:∀k,P k→r' k=r k) {g:MG} (hg:qY P g):MG.ren r' g=MG.ren r g:=by
 unfold MG.ren
 rw[lF h hg.a,lF h hg.b,lF h hg.c]
 congr 1
 funext w
 apply propext
 constructor
 ·rintro⟨v,q1,q2⟩;exact⟨v,q1,by rw[←h v (hg.on v q1)];exact q2⟩
 ·rintro⟨v,q1,q2⟩;exact⟨v,q1,by rw[h v (hg.on v q1)];exact q2⟩
theorem qY.mono {P P':Nat→Prop} (h:∀k,P k→P' k) {g:MG} (hg:qY P g):qY P' g:=⟨hg.a.mono fun _ hx=>⟨hx.1,h _ hx.2⟩,hg.b.mono fun _ hx=>⟨hx.1,h _ hx.2⟩,hg.c.mono fun _ hx=>⟨hx.1,h _ hx.2⟩,fun v hv=>h v (hg.on v hv)⟩
theorem iQ {α β:Type} (f:α→β):∀(l:List α) (i:Nat),(l.map f).eraseIdx i=(l.eraseIdx i).map f
 | [],_=>by simp
 | a :: l,0=>by simp
 | a :: l,i+1=>by simp[iQ f l i]
section
variable {cls:List aL} {r:Nat→Nat} {P:Nat→Prop} {S S':MS}
theorem eG.at {i:Nat} {g g':MG} (h:eG r P S S') (hg:S.gs[i]?=some g) (oQ:S'.gs[i]?=some g'):g'=MG.ren r g∧qY P g:=by
 rw[h.gs,List.getElem?_map,hg]at oQ
 exact⟨(Option.some.inj oQ).symm,h.wg g (List.mem_of_getElem? hg)⟩
theorem oD.same {g:MG} {p:Int} {n n':Nat} {a a':Nat→Nat} (h:oD cls g p n a) (k:oD cls (MG.ren r g) p n' a'):n'=n∧a'=a:=by
 obtain⟨_,tx,us,h1,_,h2,h3⟩:=h
 obtain⟨_,tx',us',k1,_,k2,k3⟩:=k
 have:bl r g.a= .n 1 tx' 0 us':=k1
 rw[h1,fS]at this
 injection this with _ e1 _ e2
 subst e1 e2
 rw[List.length_map]at k2 k3
 have en:n'=n:=k2.trans h2.symm
 subst en
 exact⟨rfl,k3.trans h3.symm⟩
theorem oD.back {g:MG} {p:Int} {n':Nat} {a':Nat→Nat} (k:oD cls (MG.ren r g) p n' a'):oD cls g p n' a':=by
 obtain⟨k0,tx,us,k1,k2,k3,k4⟩:=k
 have k1':bl r g.a= .n 1 tx 0 us:=k1
 refine⟨k0,?_⟩
 cases hg:g.a with
 | v x=>rw[hg,qh]at k1';cases k1'
 | n kk tx' num ss=>
  rw[hg,fS]at k1'
  injection k1' with e1 e2 e3 e4
  subst e1 e2 e3 e4
  rw[List.length_map]at k3 k4
  exact⟨tx',ss,rfl,fun q=>k2 ⟨q.1,by rw[q.2];rfl⟩,k3,k4⟩
theorem eG.um (h:eG r P S S') (aF:∀c∈cls,jH c) {g:MG} (hg:qY P g) {i:Nat} {c:aL} (hc:cls[i]?=some c):(bU S'.lim (bl r g.a) c).1=(bU S.lim g.a c).1∧(bU S'.lim (bl r g.a) c).2=(bU S.lim g.a c).2.map r∧∀v∈(bU S.lim g.a c).2,P v:=CK (pD.inj h.mono) h.l1 h.l2 hg.a (aF c (List.mem_of_getElem? hc)).ts
theorem eG.Rw {S1 S1':MS} (h:eG r P S S') (hl:S.lim≤S1.lim) (hl':S'.lim≤S1'.lim) {a b:U} {σ τ:Vr→U} (hs:fB a b σ) (ht:fB (bl r a) (bl r b) τ) (ha:bB (PQ P) a) (hb:bB (PQ P) b) {i:Nat} (v1:S1.vs=S.vs.map (sub σ)) (g1:S1.gs=(S.gs.eraseIdx i).map (MG.put σ)) (v2:S1'.vs=S'.vs.map (sub τ)) (g2:S1'.gs=(S'.gs.eraseIdx i).map (MG.put τ)):eG r P S1 S1':=by
 refine⟨h.mono,fun k hk=>Nat.lt_of_lt_of_le (h.l1 k hk) hl,fun k hk=>Nat.lt_of_lt_of_le (h.l2 k hk) hl',fun u hu=> ?_,fun g hg=> ?_,?_,?_⟩
 ·rw[v1]at hu
  obtain⟨w,hw,rfl⟩:=List.mem_map.1 hu
  exact hs.uk ha hb (h.wv w hw)
 ·rw[g1]at hg
  obtain⟨w,hw,rfl⟩:=List.mem_map.1 hg
  exact(Et h.mono hs ht ha hb (h.wg w (List.mem_of_mem_eraseIdx hw))).2
 ·rw[v2,v1,h.vs,List.map_map,List.map_map]
  exact List.map_congr_left fun u hu=>hs.rn h.mono ht ha hb (h.wv u hu)
 ·rw[g2,g1,h.gs,iQ,List.map_map,List.map_map]
  exact List.map_congr_left fun u hu=>(Et h.mono hs ht ha hb (h.wg u (List.mem_of_mem_eraseIdx hu))).1
theorem eG.Rx {S1 S1':MS} (h:eG r P S S') (hl:S.lim≤S1.lim) (hl':S'.lim≤S1'.lim) {i:Nat} {g g':MG} (hw:qY P g) (he:g'=MG.ren r g) (v1:S1.vs=S.vs) (g1:S1.gs=S.gs.set i g) (v2:S1'.vs=S'.vs) (g2:S1'.gs=S'.gs.set i g'):eG r P S1 S1':=by
 refine⟨h.mono,fun k hk=>Nat.lt_of_lt_of_le (h.l1 k hk) hl,fun k hk=>Nat.lt_of_lt_of_le (h.l2 k hk) hl',by rw[v1];exact h.wv,fun x hx=> ?_,by rw[v2,v1];exact h.vs,by rw[g2,g1,h.gs,he,List.map_set]⟩
 rw[g1]at hx
 rcases List.mem_or_eq_of_mem_set hx with q | q
 ·exact h.wg x q
 ·rw[q];exact hw
theorem oJ {g:MG} (hm:gY r P) (hg:qY P g):(e7 (MG.ren r g).op (MG.ren r g).b (MG.ren r g).c).wt=(e7 g.op g.b g.c).wt.map r∧∀v∈(e7 g.op g.b g.c).wt,P v:=by
 have:=Od hm g.op hg.b (fun _=>hg.c)
 refine⟨by show (e7 g.op (bl r g.b) (bl r g.c)).wt=_;rw[this];rfl,?_⟩
 have uf:(e7 g.op g.b g.c).eU (PQ P):=by
  unfold e7
  split
  ·exact(dC _).bN hg.b
  ·exact((dC _).bN hg.b).bN hg.c
 exact uf.at
theorem eG.step (h:eG r P S S') (aF:∀c∈cls,jH c) {S1 S1':MS} {i:Nat} {p z z':Int} (hs:nj cls S S1 i p z) (ht:nj cls S' S1' i p z'):z'=z∧∃r' P',eG r' P' S1 S1':=by
 obtain⟨hl,g,hg,hs⟩:=hs
 obtain⟨hl',g',oQ,ht⟩:=ht
 obtain⟨rfl,hw⟩:=h.at hg oQ
 have e0:(MG.ren r g).sg=g.sg:=rfl
 have hi:=pD.inj h.mono
 rcases hs with⟨s1,rfl,σ,s2,s3,s4⟩ | ⟨s1,rfl,s2,s3,s4⟩ | ⟨s1,rfl,s2,x,σ,s3,s4,s5,s6⟩ | ⟨s1,rfl,s2,s3,s4⟩ | ⟨n,a,s1,t,c,F,s2,s3,s4,s5,rfl,s6,s7,s8,s9,s10⟩ | ⟨n,a,s1,rfl,s2,s3,s4,s5⟩
 ·rcases ht with⟨t1,rfl,τ,t2,t3,t4⟩ | ⟨t1,_⟩ | ⟨t1,_⟩ | ⟨t1,_⟩ | ⟨n',a',⟨t1,_⟩,_⟩ | ⟨n',a',⟨t1,_⟩,_⟩
  ·exact⟨rfl,r,P,h.Rw hl hl' s2 t2 hw.a hw.b s3 s4 t3 t4⟩
  all_goals (rw[e0,s1]at t1;cases t1)
 ·rcases ht with⟨t1,_⟩ | ⟨t1,rfl,t2,t3,t4⟩ | ⟨t1,_,t2,_⟩ | ⟨t1,_⟩ | ⟨n',a',⟨t1,_⟩,_⟩ | ⟨n',a',⟨t1,_⟩,_⟩
  ·rw[e0,s1]at t1;cases t1
  ·refine⟨rfl,r,P,h.Rx hl hl' ?_ ?_ s3 s4 t3 t4⟩
   ·exact⟨hw.a,hw.b,hw.c,(oJ hi hw).2⟩
   ·unfold MG.ren
    dsimp only
    congr 1
    funext w
    apply propext
    have:=(oJ hi hw).1
    unfold MG.ren at this
    dsimp only at this
    rw[this,List.mem_map]
  ·exfalso
   rw[(oJ hi hw).1]at t2
   exact s2 (List.map_eq_nil_iff.1 t2)
  all_goals (rw[e0,s1]at t1;cases t1)
 ·rcases ht with⟨t1,_⟩ | ⟨t1,rfl,t2,_⟩ | ⟨t1,rfl,t2,x',τ,t3,t4,t5,t6⟩ | ⟨t1,_⟩ | ⟨n',a',⟨t1,_⟩,_⟩ | ⟨n',a',⟨t1,_⟩,_⟩
  ·rw[e0,s1]at t1;cases t1
  ·exfalso
   rw[(oJ hi hw).1,s2]at t2
   exact t2 rfl
  ·have ev:eP g.op (bl r g.b) (bl r g.c)=some x':=t3
   rw[rK,s3]at ev
   cases ev
   exact⟨rfl,r,P,h.Rw hl hl' s4 (by rw[fS];exact t4) hw.a (.n fun a ha=>by cases ha) s5 s6 t5 t6⟩
  all_goals (rw[e0,s1]at t1;cases t1)
 ·rcases ht with⟨t1,_⟩ | ⟨t1,_⟩ | ⟨t1,_⟩ | ⟨t1,rfl,t2,t3,t4⟩ | ⟨n',a',t1,_⟩ | ⟨n',a',t1,_⟩
  ·rw[e0,s1]at t1;cases t1
  ·rw[e0,s1]at t1;cases t1
  ·rw[e0,s1]at t1;cases t1
  ·refine⟨rfl,r,P,⟨h.mono,fun k hk=>Nat.lt_of_lt_of_le (h.l1 k hk) hl,fun k hk=>Nat.lt_of_lt_of_le (h.l2 k hk) hl',by rw[s3];exact h.wv,fun x hx=> ?_,by rw[t3,s3];exact h.vs,by rw[t4,s4,h.gs,iQ]⟩⟩
   rw[s4]at hx
   exact h.wg x (List.mem_of_mem_eraseIdx hx)
  all_goals
   obtain⟨_,tx,us,t2,t3,_⟩:=t1.back
   rw[s2]at t2
   injection t2 with _ e1 _ e2
   exact absurd ⟨e1.symm,e2.symm⟩ t3
 ·rcases ht with⟨t1,_⟩ | ⟨t1,_⟩ | ⟨t1,_⟩ | ⟨t1,_,t2,_⟩ | ⟨n',a',t1,t',c',F',t2,t3,t4,t5,rfl,t6,t7,t8,t9,t10⟩ | ⟨n',a',t1,_,t2,_⟩
  ·rw[e0,s1.1]at t1;cases t1
  ·rw[e0,s1.1]at t1;cases t1
  ·rw[e0,s1.1]at t1;cases t1
  ·exfalso
   obtain⟨_,tx,us,q2,q3,_⟩:=s1
   have t2':bl r g.a= .n 1 [116,114,117,101] 0 []:=t2
   rw[q2,fS]at t2'
   injection t2' with _ e1 _ e2
   exact q3 ⟨e1,List.map_eq_nil_iff.1 e2⟩
  ·obtain⟨rfl,rfl⟩:=s1.same t1
   have et:t'=t:=by
    rcases Nat.lt_trichotomy t' t with q | q | q
    ·have:=s3 t' c' q t4
     rw[←(h.um aF hw t4).1]at this
     exact absurd t5 this
    ·exact q
    ·have:=t3 t c q s4
     have e1:(bU S'.lim (MG.ren r g).a c).1=_:=(h.um aF hw s4).1
     rw[e1]at this
     exact absurd s5 this
   subst et
   rw[s4]at t4
   cases t4
   have hcm:=aF c (List.mem_of_getElem? s4)
   obtain⟨r',m',o1,o2,o3⟩:=LV h.mono h.l1 h.l2 (F:=F) (F':=F') (by omega) s7 t7 (fun f hf=>(s8 f hf).1) (fun f hf=>(t8 f hf).1)
   have qu:∀y∈NG c,y∉NH c→(NG c).idxOf y - (NH c).length<F.length:=fun y hy hn=>by
    have:=Ga hy hn
    omega
   have FO:∀y∈NG c,cJ (bl r g.a) c (fun k=>(F'[k]?).getD 0) y=bl r' (cJ g.a c (fun k=>(F[k]?).getD 0) y):=fun y hy=>wH hi o1 hw.a fun hn=>o2 _ (qu y hy hn)
   have uf:∀y∈NG c,bB (PQ fun k=>P k∨k∈F) (cJ g.a c (fun k=>(F[k]?).getD 0) y):=fun y hy=>yu (fun k hk=>Or.inl hk) hw.a fun hn=>Or.inr (by
    have:=qu y hy hn
    rw[List.getElem?_eq_getElem this]
    exact List.getElem_mem _)
   refine⟨rfl,r',fun k=>P k∨k∈F,⟨m',fun k hk=> ?_,fun k hk=> ?_,fun u hu=> ?_,fun x hx=> ?_,?_,?_⟩⟩
   ·rcases hk with q | q
    ·exact Nat.lt_of_lt_of_le (h.l1 k q) hl
    ·exact(s8 k q).2
   ·rcases hk with q | q
    ·rw[o1 k q];exact Nat.lt_of_lt_of_le (h.l2 k q) hl'
    ·exact(t8 _ (o3 k q)).2
   ·rw[s9]at hu
    exact(h.wv u hu).mono fun x hx=>⟨hx.1,Or.inl hx.2⟩
   ·rw[s10]at hx
    rcases List.mem_append.1 hx with q | q
    ·exact(h.wg x (List.mem_of_mem_eraseIdx q)).mono fun k hk=>Or.inl hk
    ·obtain⟨y,hy,rfl⟩:=List.mem_map.1 q
     obtain⟨ns,hn⟩:=ft c.goals (NT c) y hy
     exact MV (hcm.gs y hy) ns fun z hz=>uf z (hn z hz)
   ·rw[t9,s9,h.vs]
    exact List.map_congr_left fun u hu=>(lF o1 (h.wv u hu)).symm
   ·rw[t10,s10,h.gs,iQ,List.map_append,List.map_map]
    congr 1
    ·exact List.map_congr_left fun u hu=>(MG.Jk o1 (h.wg u (List.mem_of_mem_eraseIdx hu))).symm
    ·refine List.map_congr_left fun y hy=> ?_
     obtain⟨ns,hn⟩:=ft c.goals (NT c) y hy
     exact Jj (hcm.gs y hy) ns fun z hz=>FO z (hn z hz)
  ·exfalso
   obtain⟨rfl,rfl⟩:=s1.same t1
   have:=t2 t c s2 s4
   have e1:(bU S'.lim (MG.ren r g).a c).1=_:=(h.um aF hw s4).1
   rw[e1]at this
   exact this s5
 ·rcases ht with⟨t1,_⟩ | ⟨t1,_⟩ | ⟨t1,_⟩ | ⟨t1,_,t2,_⟩ | ⟨n',a',t1,t',c',F',t2,t3,t4,t5,_⟩ | ⟨n',a',t1,rfl,t2,t3,t4,t5⟩
  ·rw[e0,s1.1]at t1;cases t1
  ·rw[e0,s1.1]at t1;cases t1
  ·rw[e0,s1.1]at t1;cases t1
  ·exfalso
   obtain⟨_,tx,us,q2,q3,_⟩:=s1
   have t2':bl r g.a= .n 1 [116,114,117,101] 0 []:=t2
   rw[q2,fS]at t2'
   injection t2' with _ e1 _ e2
   exact q3 ⟨e1,List.map_eq_nil_iff.1 e2⟩
  ·exfalso
   obtain⟨rfl,rfl⟩:=s1.same t1
   have:=s2 t' c' t2 t4
   rw[←(h.um aF hw t4).1]at this
   exact this t5
  ·obtain⟨rfl,rfl⟩:=s1.same t1
   refine⟨rfl,r,P,h.Rx hl hl' ?_ ?_ s4 s5 t4 t5⟩
   ·refine⟨hw.a,hw.b,hw.c,fun v hv=> ?_⟩
    obtain⟨t,c,_,q2,_,q4⟩:=hv
    exact(h.um aF hw q2).2.2 v q4
   ·unfold MG.ren
    dsimp only
    congr 1
    funext w
    apply propext
    constructor
    ·rintro⟨t,c,q1,q2,q3,q4⟩
     have ha:=h.um aF hw q2
     rw[ha.1]at q3
     rw[ha.2.1]at q4
     obtain⟨v,hv,e⟩:=List.mem_map.1 q4
     exact⟨v,⟨t,c,q1,q2,q3,hv⟩,e⟩
    ·rintro⟨v,⟨t,c,q1,q2,q3,q4⟩,rfl⟩
     have ha:=h.um aF hw q2
     exact⟨t,c,q1,q2,ha.1.trans q3,by rw[ha.2.1];exact List.mem_map_of_mem q4⟩
end
end Za
namespace Za
open Go.Proofs.YthfjnfcekeknlaaGreatDoor (eP dA ir)
section
variable {cls:List aL} {r:Nat→Nat} {P:Nat→Prop} {S S':MS}
theorem eG.MW (h:eG r P S S') (aF:∀c∈cls,jH c) {S1:MS} {i:Nat} {p z en:Int} (hs:nj cls S S1 i p z) (ht:Es cls S' i p en):False:=by
 obtain⟨_,g,hg,hs⟩:=hs
 obtain⟨g',oQ,ht⟩:=ht
 obtain⟨rfl,hw⟩:=h.at hg oQ
 have e0:(MG.ren r g).sg=g.sg:=rfl
 have hi:=pD.inj h.mono
 rcases ht with⟨t1,_,t2⟩ | ⟨t1,t2,t3⟩ | ⟨_,n',a',t1,t2⟩
 ·rcases hs with⟨s1,_,σ,s2,_⟩ | ⟨s1,_⟩ | ⟨s1,_⟩ | ⟨s1,_⟩ | ⟨_,_,⟨s1,_⟩,_⟩ | ⟨_,_,⟨s1,_⟩,_⟩
  ·exact Eu hi hw.a hw.b t2 σ s2.one
  all_goals (rw[e0,s1]at t1;cases t1)
 ·rw[(oJ hi hw).1]at t2
  have t2':=List.map_eq_nil_iff.1 t2
  have ev:eP (MG.ren r g).op (MG.ren r g).b (MG.ren r g).c=eP g.op g.b g.c:=rK r g.op g.b g.c
  rw[ev]at t3
  rcases hs with⟨s1,_⟩ | ⟨s1,_,s2,_⟩ | ⟨s1,_,s2,x,σ,s3,s4,_⟩ | ⟨s1,_⟩ | ⟨_,_,⟨s1,_⟩,_⟩ | ⟨_,_,⟨s1,_⟩,_⟩
  ·rw[e0,s1]at t1;cases t1
  ·exact s2 t2'
  ·rcases t3 with⟨_,q⟩ | ⟨_,x',q1,q2⟩
   ·rw[s3]at q;cases q
   ·rw[s3]at q1
    cases q1
    refine Eu hi hw.a (b:= .n 3 [] x []) (.n fun a ha=>by cases ha) (fun θ q=> ?_) σ s4.one
    rw[fS,List.map_nil,dX,List.map_nil]at q
    exact q2 θ q
  all_goals (rw[e0,s1]at t1;cases t1)
 ·rcases hs with⟨s1,_⟩ | ⟨s1,_⟩ | ⟨s1,_⟩ | ⟨s1,_,s2,_⟩ | ⟨n,a,s1,t,c,F,s2,s3,s4,s5,_⟩ | ⟨n,a,s1,_,s2,⟨t,c,s3,s4,s5⟩,_⟩
  ·have:=t1.1;rw[e0,s1]at this;cases this
  ·have:=t1.1;rw[e0,s1]at this;cases this
  ·have:=t1.1;rw[e0,s1]at this;cases this
  ·obtain⟨_,tx,us,q2,q3,_⟩:=t1.back
   rw[s2]at q2
   injection q2 with _ e1 _ e2
   exact q3 ⟨e1.symm,e2.symm⟩
  ·obtain⟨rfl,rfl⟩:=s1.same t1
   have:=t2 t c s2 s4
   have e1:(bU S'.lim (MG.ren r g).a c).1=_:=(h.um aF hw s4).1
   rw[e1,s5]at this
   cases this
  ·obtain⟨rfl,rfl⟩:=s1.same t1
   have:=t2 t c s3 s4
   have e1:(bU S'.lim (MG.ren r g).a c).1=_:=(h.um aF hw s4).1
   rw[e1,s5]at this
   cases this
theorem eG.MX (h:eG r P S S') (aF:∀c∈cls,jH c) {S1:MS} {i:Nat} {p z en:Int} (ht:Es cls S i p en) (hs:nj cls S' S1 i p z):False:=by
 obtain⟨_,g',oQ,hs⟩:=hs
 obtain⟨g,hg,ht⟩:=ht
 obtain⟨rfl,hw⟩:=h.at hg oQ
 have e0:(MG.ren r g).sg=g.sg:=rfl
 have hi:=pD.inj h.mono
 rcases ht with⟨t1,_,t2⟩ | ⟨t1,t2,t3⟩ | ⟨_,n',a',t1,t2⟩
 ·rcases hs with⟨s1,_,σ,s2,_⟩ | ⟨s1,_⟩ | ⟨s1,_⟩ | ⟨s1,_⟩ | ⟨_,_,⟨s1,_⟩,_⟩ | ⟨_,_,⟨s1,_⟩,_⟩
  ·exact LU t2 σ s2.one
  all_goals (rw[e0,t1]at s1;cases s1)
 ·have ew:=(oJ hi hw).1
  rw[t2]at ew
  have ev:eP (MG.ren r g).op (MG.ren r g).b (MG.ren r g).c=eP g.op g.b g.c:=rK r g.op g.b g.c
  rcases hs with⟨s1,_⟩ | ⟨s1,_,s2,_⟩ | ⟨s1,_,s2,x,σ,s3,s4,_⟩ | ⟨s1,_⟩ | ⟨_,_,⟨s1,_⟩,_⟩ | ⟨_,_,⟨s1,_⟩,_⟩
  ·rw[e0,t1]at s1;cases s1
  ·exact s2 ew
  ·rw[ev]at s3
   rcases t3 with⟨_,q⟩ | ⟨_,x',q1,q2⟩
   ·rw[s3]at q;cases q
   ·rw[s3]at q1
    cases q1
    have:=s4.one
    rw[dX,List.map_nil]at this
    have e2:sub σ (bl r g.a)=sub (fun y=>sub σ (Za.ren (Za.rn r) y)) g.a:=sub_sub _ _ _
    exact q2 _ (e2.symm.trans this)
  all_goals (rw[e0,t1]at s1;cases s1)
 ·rcases hs with⟨s1,_⟩ | ⟨s1,_⟩ | ⟨s1,_⟩ | ⟨s1,_,s2,_⟩ | ⟨n,a,s1,t,c,F,s2,s3,s4,s5,_⟩ | ⟨n,a,s1,_,s2,⟨t,c,s3,s4,s5⟩,_⟩
  ·have:=t1.1;rw[e0,this]at s1;cases s1
  ·have:=t1.1;rw[e0,this]at s1;cases s1
  ·have:=t1.1;rw[e0,this]at s1;cases s1
  ·obtain⟨_,tx,us,q2,q3,_⟩:=t1
   have s2':bl r g.a= .n 1 [116,114,117,101] 0 []:=s2
   rw[q2,fS]at s2'
   injection s2' with _ e1 _ e2
   exact q3 ⟨e1,List.map_eq_nil_iff.1 e2⟩
  ·obtain⟨rfl,rfl⟩:=t1.same s1
   have:=t2 t c s2 s4
   have e1:(bU S'.lim (MG.ren r g).a c).1=_:=(h.um aF hw s4).1
   rw[e1,this]at s5
   cases s5
  ·obtain⟨rfl,rfl⟩:=t1.same s1
   have:=t2 t c s3 s4
   have e1:(bU S'.lim (MG.ren r g).a c).1=_:=(h.um aF hw s4).1
   rw[e1,this]at s5
   cases s5
theorem eG.fl (h:eG r P S S') {i:Nat} {p en en':Int} (hs:Es cls S i p en) (ht:Es cls S' i p en'):en'=en:=by
 obtain⟨g,hg,hs⟩:=hs
 obtain⟨g',oQ,ht⟩:=ht
 obtain⟨rfl,hw⟩:=h.at hg oQ
 have e0:(MG.ren r g).sg=g.sg:=rfl
 have ev:eP (MG.ren r g).op (MG.ren r g).b (MG.ren r g).c=eP g.op g.b g.c:=rK r g.op g.b g.c
 rcases hs with⟨s1,rfl,s2⟩ | ⟨s1,s2,s3⟩ | ⟨rfl,n,a,s1,s2⟩
 ·rcases ht with⟨_,rfl,_⟩ | ⟨t1,_⟩ | ⟨rfl,_⟩
  ·rfl
  ·rw[e0,s1]at t1;cases t1
  ·rfl
 ·rcases ht with⟨t1,_⟩ | ⟨t1,t2,t3⟩ | ⟨_,_,_,⟨t1,_⟩,_⟩
  ·rw[e0,s1]at t1;cases t1
  ·rw[ev]at t3
   rcases s3 with⟨rfl,q⟩ | ⟨rfl,x,q,_⟩<;>rcases t3 with⟨rfl,q'⟩ | ⟨rfl,x',q',_⟩
   ·rfl
   ·rw[q]at q';cases q'
   ·rw[q]at q';cases q'
   ·rfl
  ·rw[e0,s1]at t1;cases t1
 ·rcases ht with⟨t1,rfl,_⟩ | ⟨t1,_⟩ | ⟨rfl,_⟩
  ·rfl
  ·have:=s1.1;rw[e0,this]at t1;cases t1
  ·rfl
theorem uT (r:Nat→Nat) (u:U):big (bl r u)=big u:=by unfold big bl;rw[J2]
theorem Ev (r:Nat→Nat) (us:List U):(us.map (bl r)).any big=us.any big:=by
 rw[List.any_map]
 congr 1
 funext u
 exact uT r u
theorem eG.big (h:eG r P S S'):qE S'=qE S:=by
 unfold qE
 rw[h.gs,h.vs,List.length_map,Ev,List.any_map]
 congr 3
 funext g
 show mh (MG.ren r g)=mh g
 unfold mh MG.ren
 dsimp only
 rw[uT,uT,uT]
 cases g.a with
 | v x=>rfl
 | n k tx num us=>rw[fS];dsimp only;rw[Ev]
theorem eG.fK (h:eG r P S S'):jk S'.gs=jk S.gs:=by
 unfold jk
 rw[h.gs,List.length_map]
 refine List.filter_congr fun i _=> ?_
 rw[List.getElem?_map]
 cases S.gs[i]?<;>rfl
theorem eG.fin (h:eG r P S S'):wG S'.gs=wG S.gs:=by
 unfold wG
 rw[h.fK]
 have:S'.gs=[]↔S.gs=[]:=by rw[h.gs,List.map_eq_nil_iff]
 by_cases q:S.gs=[]
 ·rw[if_pos q,if_pos (this.2 q)]
 ·rw[if_neg q,if_neg (fun e=>q (this.1 e))]
theorem CT (hi:gY r P):∀(vs:List U) (ts:List (List UInt8)) (N:List Vr),(∀u∈vs,bB (PQ P) u)→(∀x∈N,PQ P x)→(vs.map (bl r)).foldl qj (ts,N.map (rn r))=((vs.foldl qj (ts,N)).1,(vs.foldl qj (ts,N)).2.map (rn r))∧∀x∈(vs.foldl qj (ts,N)).2,PQ P x
 | [],ts,N,_,hN=>⟨rfl,hN⟩
 | u :: vs,ts,N,hu,hN=>by
  have h1:=(eN u).1 (hu u (by simp))
  have hn:=yU hi.on u N h1 hN
  have hN':∀x∈aV N u,PQ P x:=fun x hx=>by
   rcases(rq u N).1 hx with q | q
   ·exact hN x q
   ·exact h1 x q
  have hs:=uB (D:=Go.Lib.itoa) hi.on hN' u h1
  rw[List.map_cons,List.foldl_cons,List.foldl_cons]
  have e:qj (ts,N.map (rn r)) (bl r u)=((qj (ts,N) u).1,(aV N u).map (rn r)):=by
   unfold qj
   dsimp only
   unfold bl
   rw[hn,hs]
  rw[e]
  exact CT hi vs _ _ (fun w hw=>hu w (by simp[hw])) hN'
theorem CU (hi:gY r P):∀(gs:List MG) (ts:List (List UInt8)) (N:List Vr),(∀g∈gs,qY P g)→(∀x∈N,PQ P x)→(gs.map (MG.ren r)).foldl mi (ts,N.map (rn r))=((gs.foldl mi (ts,N)).1,(gs.foldl mi (ts,N)).2.map (rn r))
 | [],ts,N,_,_=>rfl
 | g :: gs,ts,N,hg,hN=>by
  have hw:=hg g (by simp)
  have step:∀(u:U) (N:List Vr),bB (PQ P) u→(∀x∈N,PQ P x)→aV (N.map (rn r)) (bl r u)=(aV N u).map (rn r)∧∀x∈aV N u,PQ P x:=fun u N hu hN=>by
   have h1:=(eN u).1 hu
   refine⟨yU hi.on u N h1 hN,fun x hx=> ?_⟩
   rcases(rq u N).1 hx with q | q
   ·exact hN x q
   ·exact h1 x q
  obtain⟨a1,a2⟩:=step g.a N hw.a hN
  obtain⟨b1,b2⟩:=step g.b _ hw.b a2
  obtain⟨c1,c2⟩:=step g.c _ hw.c b2
  have en:jI (N.map (rn r)) (MG.ren r g)=(jI N g).map (rn r):=by
   unfold jI MG.ren
   dsimp only
   rw[a1,b1,c1]
  have ht:uS ((jI N g).map (rn r)) (MG.ren r g)=uS (jI N g) g:=by
   unfold uS MG.ren
   dsimp only
   unfold bl
   have c3:∀x∈jI N g,PQ P x:=c2
   rw[uB hi.on c3 g.a ((eN _).1 hw.a),uB hi.on c3 g.b ((eN _).1 hw.b),uB hi.on c3 g.c ((eN _).1 hw.c)]
  rw[List.map_cons,List.foldl_cons,List.foldl_cons]
  have e:mi (ts,N.map (rn r)) (MG.ren r g)=((mi (ts,N) g).1,(jI N g).map (rn r)):=by
   unfold mi
   dsimp only
   rw[en,ht]
  rw[e]
  exact CU hi gs _ _ (fun w hw=>hg w (by simp[hw])) c2
theorem eG.told (h:eG r P S S'):(kB S'.vs).1=(kB S.vs).1∧(rM (kB S'.vs).2 S'.gs).1=(rM (kB S.vs).2 S.gs).1∧S'.gs.map (·.wt)=S.gs.map (·.wt):=by
 have hi:=pD.inj h.mono
 obtain⟨v1,v2⟩:=CT hi S.vs [] [] h.wv (fun x hx=>by cases hx)
 have ev:kB S'.vs=((kB S.vs).1,(kB S.vs).2.map (rn r)):=by
  unfold kB
  rw[h.vs]
  exact v1
 refine⟨by rw[ev],?_,?_⟩
 ·rw[ev,h.gs]
  unfold rM
  dsimp only
  rw[CU hi S.gs [] (kB S.vs).2 h.wg v2]
 ·rw[h.gs,List.map_map]
  rfl
end
section
variable {cls:List aL} {script:List (Int×Int)} {S0 S0':MS}
theorem mW.rel (aF:∀c∈cls,jH c) {r:Nat→Nat} {P:Nat→Prop} (h0:eG r P S0 S0') {j:Nat} {S:MS} {L:List Int} (h:mW cls script S0 j S L):∀{S':MS} {L':List Int},mW cls script S0' j S' L'→L'=L∧∃r P,eG r P S S':=by
 induction h with
 | start=>
  intro S' L' k
  cases k with
  | start=>exact⟨rfl,r,P,h0⟩
 | @step j S S1 L pg pc z i h hs hi hg hl ih=>
  intro S' L' k
  cases k with
  | @step _ T S1' L1 pg' pc' z' i' k ks ki kg kl=>
   obtain⟨rfl,r1,P1,hr⟩:=ih k
   rw[hs]at ks
   cases ks
   rw[hr.fK,hi]at ki
   cases ki
   obtain⟨rfl,r2,P2,hr2⟩:=hr.step aF hg kg
   exact⟨rfl,r2,P2,hr2⟩
theorem mW.before {j:Nat} {S:MS} {L:List Int} (h:mW cls script S0 j S L):∀{i:Nat},i<j→∃(T T':MS) (K:List Int) (pg pc z:Int) (k:Nat),mW cls script S0 i T K∧script[i]?=some (pg,pc)∧(jk T.gs)[dA pg (jk T.gs).length]?=some k∧nj cls T T' k pc z∧qE T'=false:=by
 induction h with
 | start=>intro i hi;omega
 | @step j S S1 L pg pc z k h hs hi hg hl ih=>
  intro i Rv
  by_cases e:i=j
  ·subst e;exact⟨S,S1,L,pg,pc,z,k,h,hs,hi,hg,hl⟩
  ·exact ih (by omega)
theorem nU.same (aF:∀c∈cls,jH c) {r:Nat→Nat} {P:Nat→Prop} (h0:eG r P S0 S0') {en en':Int} {log log':List Int} {v v' g g':List (List UInt8)} {w w':List Bool} (h:nU cls script S0 en log v g w) (k:nU cls script S0' en' log' v' g' w'):en'=en∧log'=log∧v'=v∧g'=g∧w'=w:=by
 obtain⟨j,S,L,hr,he⟩:=h
 obtain⟨j',S',L',kr,ke⟩:=k
 rcases Nat.lt_trichotomy j j' with q | q | q
 ·exfalso
  obtain⟨T,T',K,pg,pc,z,i,b1,b2,b3,b4,b5⟩:=kr.before q
  obtain⟨_,r1,P1,hR⟩:=hr.rel aF h0 b1
  rw[hR.fK]at b3
  rcases he with⟨e1,_⟩ | ⟨pg',pc',i',z',e1,e2,e3,_⟩
  ·rcases e1 with e1 | e1
   ·rw[e1]at b2
    rw[List.getElem?_eq_none (Nat.le_refl _)]at b2
    cases b2
   ·rw[e1]at b3;cases b3
  ·rw[b2]at e1
   cases e1
   rw[b3]at e2
   cases e2
   rcases e3 with⟨e3,_⟩ | ⟨_,S1,e3,e4⟩
   ·exact hR.MX aF e3 b4
   ·obtain⟨_,r2,P2,hR2⟩:=hR.step aF e3 b4
    rw[hR2.big,e4]at b5
    cases b5
 ·subst q
  obtain⟨rfl,r1,P1,hR⟩:=hr.rel aF h0 kr
  obtain⟨t1,t2,t3⟩:=hR.told
  rw[hR.fK]at ke
  rcases he with⟨e1,rfl,rfl,rfl,rfl,rfl⟩ | ⟨pg,pc,i,z,e1,e2,e3,rfl,rfl,rfl,rfl⟩<;>rcases ke with⟨k1,rfl,rfl,rfl,rfl,rfl⟩ | ⟨pg',pc',i',z',k1,k2,k3,rfl,rfl,rfl,rfl⟩
  ·exact⟨hR.fin,rfl,t1,t2,t3⟩
  ·exfalso
   rcases e1 with e1 | e1
   ·rw[e1]at k1
    rw[List.getElem?_eq_none (Nat.le_refl _)]at k1
    cases k1
   ·rw[e1]at k2;cases k2
  ·exfalso
   rcases k1 with k1 | k1
   ·rw[k1]at e1
    rw[List.getElem?_eq_none (Nat.le_refl _)]at e1
    cases e1
   ·rw[k1]at e2;cases e2
  ·rw[e1]at k1
   cases k1
   rw[e2]at k2
   cases k2
   rcases e3 with⟨e3,rfl⟩ | ⟨rfl,S1,e3,e4⟩<;>rcases k3 with⟨k3,rfl⟩ | ⟨rfl,S1',k3,k4⟩
   ·exact⟨hR.fl e3 k3,rfl,rfl,rfl,rfl⟩
   ·exact(hR.MX aF e3 k3).elim
   ·exact(hR.MW aF e3 k3).elim
   ·obtain⟨rfl,_⟩:=hR.step aF e3 k3
    exact⟨rfl,rfl,rfl,rfl,rfl⟩
 ·exfalso
  obtain⟨T,T',K,pg,pc,z,i,b1,b2,b3,b4,b5⟩:=hr.before q
  obtain⟨_,r1,P1,hR⟩:=b1.rel aF h0 kr
  rw[hR.fK]at ke
  rcases ke with⟨e1,_⟩ | ⟨pg',pc',i',z',e1,e2,e3,_⟩
  ·rcases e1 with e1 | e1
   ·rw[e1]at b2
    rw[List.getElem?_eq_none (Nat.le_refl _)]at b2
    cases b2
   ·rw[e1]at b3;cases b3
  ·rw[b2]at e1
   cases e1
   rw[b3]at e2
   cases e2
   rcases e3 with⟨e3,_⟩ | ⟨_,S1,e3,e4⟩
   ·exact hR.MW aF b4 e3
   ·obtain⟨_,r2,P2,hR2⟩:=hR.step aF b4 e3
    rw[hR2.big,b5]at e4
    cases e4
end
end Za
namespace Go.Proofs.YthfjnfcekeknlaaGreatDoor
open Go.RowKit
open Za (U Vr aL)
theorem Jl {T:Nat→U} {u:U} {c:aL} {V F:List Nat} (hV:Za.uP T u c V) (hF:∀f∈F,T f= .v ([],f)) {y:List UInt8} (hy:y∈Za.NG c) (hl:(Za.NG c).idxOf y<(V++F).length):cP T (V++F) (Za.NG c) y=Za.cJ u c (fun k=>(F[k]?).getD 0) y:=by
 have jC:V.length=(Za.NH c).length:=hV.1
 unfold cP Za.cJ
 by_cases hn:y∈Za.NH c
 ·rw[if_pos hn]
  obtain⟨K,hK⟩:=Za.Je c
  have ei:(Za.NG c).idxOf y=(Za.NH c).idxOf y:=by rw[hK,List.idxOf_append,if_pos hn]
  have hi:(Za.NH c).idxOf y<(Za.NH c).length:=List.idxOf_lt_length_of_mem hn
  have h1:(Za.namesF 8 [] c.head)[(Za.NH c).idxOf y]?=some y:=by
   show (Za.NH c)[(Za.NH c).idxOf y]?=some y
   rw[List.getElem?_eq_getElem hi,List.getElem_idxOf]
  have h2:V[(Za.NH c).idxOf y]?=some (V[(Za.NH c).idxOf y]'(by omega)):=List.getElem?_eq_getElem (by omega)
  obtain⟨q,q1,q2⟩:=hV.2 _ y _ h1 h2
  rw[ei,List.getElem?_append_left (by omega),h2,q1]
  exact q2
 ·rw[if_neg hn]
  have:=(Za.Ga hy hn).1
  rw[List.getElem?_append_right (by omega),jC]
  rw[List.length_append]at hl
  have hk:(Za.NG c).idxOf y - (Za.NH c).length<F.length:=by omega
  dsimp only
  rw[List.getElem?_eq_getElem hk]
  exact hF _ (List.getElem_mem hk)
theorem CV {u:U} {b:Nat} {c:aL} {V F:List Nat} {T:Nat→U} {says:Nat} {ws:List Nat} (h:qA u b c V F T says ws) (hu:Za.bB (Za.PQ (·<b)) u) (aF:Za.jH c):(Za.bU b u c).1=says∧∀v,v∈ws↔v∈(Za.bU b u c).2:=by
 rcases h with⟨h1,rfl,rfl⟩ | ⟨h1,hV,hl,hF,hp,rfl,rfl⟩
 ·unfold Za.bU
  rw[if_pos h1]
  exact⟨rfl,fun v=>Iff.rfl⟩
 ·unfold Za.bU
  rw[if_neg (by rw[h1];simp)]
  have jC:V.length=(Za.NH c).length:=hV.1
  have hNT:∀y∈Za.NT c,(Za.NG c).idxOf y<(V++F).length:=fun y hy=>by
   have VZ:∃K,Za.NG c=Za.NT c++K:=by
    have hO:∀(t:Option Za.Tm) (ns:List (List UInt8)),∃M,Za.cD ns t=ns++M:=fun t ns=>by
     cases t with
     | none=>exact⟨[],by simp[Za.cD]⟩
     | some r=>exact Za.namesV_ext 8 r ns
    have hI:∀(x:Za.aH) (ns:List (List UInt8)),∃M,Za.aP ns x=ns++M:=fun x ns=>by
     obtain⟨M1,h1⟩:=Za.namesV_ext 8 x.left ns
     obtain⟨M2,h2⟩:=hO x.right (Za.namesF 8 ns x.left)
     obtain⟨M3,h3⟩:=hO x.last (Za.cD (Za.namesF 8 ns x.left) x.right)
     exact⟨M1++(M2++M3),by unfold Za.aP;rw[h3,h2,h1];simp⟩
    have hL:∀(xs:List Za.aH) (ns:List (List UInt8)),∃M,Za.aC ns xs=ns++M:=fun xs=>by
     induction xs with
     | nil=>exact fun ns=>⟨[],by simp[Za.aC]⟩
     | cons x xs ih=>
      intro ns
      obtain⟨M1,h1⟩:=hI x ns
      obtain⟨M2,h2⟩:=ih (Za.aP ns x)
      exact⟨M1++M2,by show Za.aC (Za.aP ns x) xs=_;rw[h2,h1];simp⟩
    exact hL c.goals (Za.NT c)
   obtain⟨K,hK⟩:=VZ
   rw[hK,List.idxOf_append,if_pos hy,hl]
   exact List.idxOf_lt_length_of_mem hy
  have he:Za.iJ (cP T (V++F) (Za.NG c)) c.tests=Za.iJ (Za.cJ u c fun k=>(F[k]?).getD 0) c.tests:=Za.zD c.tests (Za.NH c) aF.ts fun y hy=>Jl hV (fun f hf=>(hF f hf).2) (Za.MU c y hy) (hNT y hy)
  let r:Nat→Nat:=fun k=>if k<b then k else(F[k - b]?).getD 0
  let P:Nat→Prop:=fun k=>k<b∨(b≤k∧k - b<F.length)
  have r1:∀k,k<b→r k=k:=fun k hk=>if_pos hk
  have r2:∀k,b≤k→∀hk:k - b<F.length,r k=F[k - b]:=fun k hk fZ=>by
   show (if k<b then k else(F[k - b]?).getD 0)=_
   rw[if_neg (by omega),List.getElem?_eq_getElem fZ]
   rfl
  have hi:Za.gY r P:=fun i j hPi hPj q=>by
   rcases hPi with a | ⟨a1,a2⟩<;>rcases hPj with d | ⟨d1,d2⟩
   ·rw[r1 i a,r1 j d]at q;exact q
   ·rw[r1 i a,r2 j d1 d2]at q;have:=(hF _ (List.getElem_mem d2)).1;omega
   ·rw[r2 i a1 a2,r1 j d]at q;have:=(hF _ (List.getElem_mem a2)).1;omega
   ·rw[r2 i a1 a2,r2 j d1 d2]at q
    rcases Nat.lt_trichotomy (i - b) (j - b)with s | s | s
    ·have:=List.pairwise_iff_getElem.1 hp _ _ a2 d2 s;omega
    ·omega
    ·have:=List.pairwise_iff_getElem.1 hp _ _ d2 a2 s;omega
  have Mt:∀y∈Za.NT c,y∉Za.NH c→(Za.NG c).idxOf y - (Za.NH c).length<F.length:=fun y hy hn=>by
   have h2:=(Za.Ga (Za.MU c y hy) hn).1
   have h3:=hNT y hy
   rw[List.length_append]at h3
   omega
  have hY:∀y∈Za.NT c,Za.bB (Za.PQ P) (Za.cJ u c (b+·) y):=fun y hy=>Za.yu (fun k hk=>Or.inl hk) hu fun hn=>Or.inr ⟨Nat.le_add_right _ _,by have:=Mt y hy hn;omega⟩
  have hid:Za.bl (fun k=>k) u=u:=by
   have:=Za.lF (r:=fun k=>k) (r':=fun k=>k) (P:=(·<b)) (fun _ _=>rfl) hu
   unfold Za.bl
   rw[Za.sub_congr (τ:= .v) u (fun x hx=> ?_),Za.sub_self]
   have hx1:=((Za.eN u).1 hu x hx).1
   show U.v ([],x.2)= .v x
   congr 1
   exact Prod.ext hx1.symm rfl
  have hE:∀y∈Za.NT c,Za.cJ u c (fun k=>(F[k]?).getD 0) y=Za.bl r (Za.cJ u c (b+·) y):=fun y hy=>by
   have:=Za.wH (r:=fun k=>k) (r':=r) (P:=(·<b)) (fun i j _ _ q=>q) (fun k hk=>r1 k hk) hu (c:=c) (o1:=(b+·)) (o2:=fun k=>(F[k]?).getD 0) (y:=y) (fun hn=>by
    have:=Mt y hy hn
    rw[r2 _ (Nat.le_add_right _ _) (by omega),List.getElem?_eq_getElem this]
    simp)
   rw[hid]at this
   exact this
  rw[he,Za.zD (θ:=fun y=>Za.bl r (Za.cJ u c (b+·) y)) c.tests (Za.NH c) aF.ts hE,Za.Em hi c.tests (Za.NH c) aF.ts hY]
  have hwt:=Za.yl (η:=Za.cJ u c (b+·)) c.tests (Za.NH c) aF.ts hY
  refine⟨(Za.Wn.rJ _ _).symm,fun v=> ?_⟩
  unfold Za.jW
  rw[List.mem_filter,List.mem_filter,List.drop_left]
  show (v∈(Za.iJ (Za.cJ u c (b+·)) c.tests).wt.map r∧_)↔_
  rw[List.mem_map]
  constructor
  ·rintro⟨⟨w,hw,rfl⟩,h2⟩
   rcases hwt.at w hw with q | ⟨q1,q2⟩
   ·rw[r1 w q];exact⟨hw,decide_eq_true q⟩
   ·exfalso
    rw[r2 w q1 q2]at h2
    simp at h2
  ·rintro⟨h1,h2⟩
   have hv:=of_decide_eq_true h2
   refine⟨⟨v,h1,r1 v hv⟩,?_⟩
   simp only[Bool.not_eq_true',decide_eq_false_iff_not]
   intro q
   have:=(hF v q).1
   omega
def ct (T:Nat→U) (x:Int):U:=if x= -1 then Za.zU else T x.toNat
def eI (fr:Nat→Nat) (T:Nat→U) (g:Gl):Za.MG:=⟨T g.l,g.sg.toList,ct T g.r,g.op.toList,ct T g.z,!fK fr g,fun v=>fK fr g=false∧v∈g.nd⟩
def jl (V:List Nat) (S:b8):Za.MS:=⟨V.map S.T,S.G.map (eI S.fr S.T),S.D.length⟩
structure xS (V:List Nat) (S:b8):Prop where
 wf:MP S
 nd:∀g∈S.G,∀v∈g.nd,Za.gl (aY S.D) v=none
 vl:∀v∈V,v<S.D.length
theorem uU (fr:Nat→Nat) (g:Gl):fK fr g=false↔g.wt=true∧∀v∈g.nd,fr v=v:=by
 unfold fK
 simp
theorem gj (T:Nat→U) (n:Nat):ct T (n:Int)=T n:=by
 unfold ct
 rw[if_neg (by omega)]
 rfl
theorem mf.rc {T:Nat→U} {len:Nat} {g:Gl} (h:mf T len g):g.r= -1∨∃n:Nat,g.r=(n:Int)∧n<len:=by
 by_cases q:g.sg.toList=[]
 ·exact Or.inl (h.r0 q)
 ·exact Or.inr (h.rr q)
theorem mf.zc {T:Nat→U} {len:Nat} {g:Gl} (h:mf T len g):g.z= -1∨∃n:Nat,g.z=(n:Int)∧n<len:=by
 by_cases q:g.op.toList=[]
 ·exact Or.inl (h.z0 q)
 ·exact Or.inr (h.zz q)
theorem mX {T T':Nat→U} {len:Nat} {f:U→U} (hf:f Za.zU=Za.zU) (h:∀m,m<len→T' m=f (T m)) {x:Int} (hx:x= -1∨∃n:Nat,x=(n:Int)∧n<len):ct T' x=f (ct T x):=by
 rcases hx with q | ⟨n,q,hn⟩
 ·unfold ct;rw[if_pos q,if_pos q,hf]
 ·rw[q,gj,gj,h n hn]
theorem Ew {fr:Nat→Nat} {T T':Nat→U} {len:Nat} (h:∀m,m<len→T' m=T m) {g:Gl} (hg:mf T len g):eI fr T' g=eI fr T g:=by
 unfold eI
 rw[h g.l hg.ll,mX (f:=id) rfl h hg.rc,mX (f:=id) rfl h hg.zc]
 rfl
section
variable {G:List Za.Gn} {fr fr':Nat→Nat} {T T':Nat→U} {a b:U} {σ:Vr→U}
theorem CW (hm:Za.Made G fr fr' T T' a b σ) (hs:Za.dD G fr T) {g:Gl} (dx:∀v∈g.nd,Za.gl G v=none):fK fr' g=false↔fK fr g=false∧∀v∈g.nd,σ ([],v)= .v ([],v):=by
 rw[uU,uU]
 constructor
 ·rintro⟨h1,h2⟩
  have key:∀v∈g.nd,fr v=v∧σ ([],v)= .v ([],v):=fun v hv=>by
   have e1:=h2 v hv
   have g0:=dx v hv
   have t1:T' v= .v ([],v):=by
    have:=hm.sto.var (n:=v) (by rw[e1];exact g0)
    rwa [e1]at this
   have hu:fr v=v:=by
    by_cases q:Za.gl G (fr v)=none
    ·have v1:=hs.sF v q
     have v2:fr' (fr v)=v:=(hm.left.mono _ _ (hs.fronts.idem v)).trans e1
     have v3:=hm.sto.sF (fr v) (by rw[v2];exact g0)
     omega
    ·exfalso
     have ht:=hs.tr v
     have e2:=hm.is v
     rw[t1]at e2
     generalize T v=x at ht e2
     cases ht with
     | var h _=>exact q h
     | node _ _ _=>rw[Za.dX]at e2;cases e2
   exact⟨hu,(hm.jm v hu g0).trans t1⟩
  exact⟨⟨h1,fun v hv=>(key v hv).1⟩,fun v hv=>(key v hv).2⟩
 ·rintro⟨⟨h1,h2⟩,h3⟩
  refine⟨h1,fun v hv=> ?_⟩
  have e1:T' v= .v ([],v):=(hm.jm v (h2 v hv) (dx v hv)).symm.trans (h3 v hv)
  have ht:=hm.sto.tr v
  generalize T' v=x at ht e1
  cases ht with
  | var h _=>
   injection e1 with e1
   injection e1
  | node _ _ _=>cases e1
theorem Ex {T0:Nat→U} {len:Nat} (hm:Za.Made G fr fr' T T' a b σ) (hs:Za.dD G fr T) (h0:∀m,m<len→T m=T0 m) {g:Gl} (hg:mf T0 len g) (dx:∀v∈g.nd,Za.gl G v=none):eI fr' T' g=Za.MG.put σ (eI fr T0 g):=by
 have hT:∀m,m<len→T' m=Za.sub σ (T0 m):=fun m q=>by rw[hm.is,h0 m q]
 have hz:Za.sub σ Za.zU=Za.zU:=by unfold Za.zU;rw[Za.dX];rfl
 have hst:(eI fr T0 g).stays σ↔fK fr' g=false:=by
  rw[CW hm hs dx]
  unfold Za.MG.stays eI
  dsimp only
  constructor
  ·rintro⟨h1,h2⟩
   have h1':fK fr g=false:=by simpa using h1
   exact⟨h1',fun v hv=>h2 v ⟨h1',hv⟩⟩
  ·rintro⟨h1,h2⟩
   exact⟨by rw[h1];rfl,fun v hv=>h2 v hv.2⟩
 unfold Za.MG.put
 have e1:(eI fr T0 g).a=T0 g.l:=rfl
 have e2:(eI fr T0 g).b=ct T0 g.r:=rfl
 have e3:(eI fr T0 g).c=ct T0 g.z:=rfl
 rw[e1,e2,e3,←hT g.l hg.ll,←mX hz hT hg.rc,←mX hz hT hg.zc]
 unfold eI at hst⊢
 dsimp only at hst⊢
 congr 1
 ·cases hq:fK fr' g with
  | false=>exact(@decide_eq_true _ (_) (hst.2 hq)).symm
  | true=>exact(@decide_eq_false _ (_) (fun e=>by rw[hst.1 e]at hq;cases hq)).symm
 ·funext v
  apply propext
  constructor
  ·rintro⟨q1,q2⟩
   exact⟨hst.2 q1,((CW hm hs dx).1 q1).1,q2⟩
  ·rintro⟨q1,q2⟩
   exact⟨hst.1 q1,q2.2⟩
end
def isVar (S:b8) (k:Nat):Prop:=k<S.D.length∧S.fr k=k∧Za.gl (aY S.D) k=none
theorem MP.uk {S:b8} (h:MP S) {n:Nat} (hn:n<S.D.length):Za.bB (Za.PQ (isVar S)) (S.T n):=(Za.eN _).2 fun x hx=>by
 have h1:=(Za.eN _).1 (h.ok.kJ h.sto n hn) x hx
 have h2:=(h.sto.tr n).vars x hx
 exact⟨h1.1,h1.2.1,h1.2.2,h2.2.1⟩
theorem CX {T:Nat→U} {op:List UInt8} {r z:Int} {rn zn:Nat} (hr:r=(rn:Int)) (hz:op≠[]→z=(zn:Int)):Za.e7 op (ct T r) (ct T z)=Za.e7 op (T rn) (T zn)∧eP op (ct T r) (ct T z)=eP op (T rn) (T zn):=by
 rw[hr,gj]
 by_cases q:op=[]
 ·subst q
  unfold Za.e7 eP
  simp
 ·rw[hz q,gj]
  exact⟨rfl,rfl⟩
end Go.Proofs.YthfjnfcekeknlaaGreatDoor
namespace Za
open Go.Proofs.YthfjnfcekeknlaaGreatDoor (dA)
def vn (k:Nat):U:= .v ([],k)
def lG (d:Nat):U:= .n 3 [] (d:Int) []
def nlU:U:= .n 1 [110] 0 []
def mj (h t:U):U:= .n 1 [99] 0 [h,t]
def lsU:List Nat→U
 | []=>nlU
 | d :: l=>mj (lG d) (lsU l)
def vL (u:U):Prop:=∀x,¬has x u
theorem vL.sub {u:U} (h:vL u) (σ:Vr→U):sub σ u=u:=by
 rw[sub_congr (τ:= .v) u (fun x hx=>absurd hx (h x)),sub_self]
theorem CY {x:Vr} {d:Nat} {t:U}:has x (mj (lG d) t)↔has x t:=by
 unfold mj lG
 simp[has,sD]
theorem gnd_ls:∀l,vL (lsU l)
 | []=>fun x h=>by unfold lsU nlU at h;simp[has,sD]at h
 | d :: l=>fun x h=>gnd_ls l x (CY.1 h)
theorem Jm (σ:Vr→U) (d:Nat) (t:U):sub σ (mj (lG d) t)=mj (lG d) (sub σ t):=by
 unfold mj lG
 simp[sub,AD]
theorem yE (d:Nat) (t:U):size (mj (lG d) t)=size t+2:=by
 unfold mj lG
 simp[size,sizeL]
 omega
theorem size_ls:∀l,size (lsU l)=2*l.length+1
 | []=>by unfold lsU nlU;simp[size,sizeL]
 | d :: l=>by rw[lsU,yE,size_ls l,List.length_cons];omega
theorem pE (σ:Vr→U) (k:Nat):sub σ (vn k)=σ ([],k):=rfl
theorem uo (x:Vr) (b:U):one x b x=b:=by unfold one;rw[if_pos rfl]
theorem qZ {x y:Vr} (b:U) (h:y≠x):one x b y= .v y:=by unfold one;rw[if_neg h]
theorem Ay {i j:Nat} (h:i≠j):(([],i):Vr)≠([],j):=fun q=>h (congrArg Prod.snd q)
theorem LW {k:Nat} {t:U} (hn:¬has ([],k) t) (ht:∀y,t≠ .v y):fB (vn k) t (one ([],k) t):=by
 refine⟨?_,fun θ h x=> ?_,fun x y h=> ?_⟩
 ·rw[pE,uo];exact(Gq hn).symm
 ·by_cases q:x=([],k)
  ·rw[q,uo];exact h.symm
  ·rw[qZ _ q];rfl
 ·by_cases q:x=([],k)
  ·rw[q,uo]at h;exact absurd h (ht y)
  ·rw[qZ _ q]at h
   injection h with h
   rw[h];exact⟨rfl,Nat.le_refl _⟩
def MG.rd (a:U) (sg:List UInt8) (b:U) (op:List UInt8) (c:U):MG:=⟨a,sg,b,op,c,false,fun _=>False⟩
theorem Jn (σ:Vr→U) (a:U) (sg:List UInt8) (b:U) (op:List UInt8) (c:U):(MG.rd a sg b op c).put σ=MG.rd (sub σ a) sg (sub σ b) op (sub σ c):=by
 have h:¬(MG.rd a sg b op c).stays σ:=fun q=>by cases q.1
 unfold MG.put
 have e1:@decide ((MG.rd a sg b op c).stays σ) (Classical.propDecidable _)=false:=@decide_eq_false _ (_) h
 have e2:(fun v=>(MG.rd a sg b op c).stays σ∧(MG.rd a sg b op c).on v)=fun _=>False:=funext fun v=>propext ⟨fun q=>h q.1,fun q=>q.elim⟩
 rw[e1,e2]
 rfl
theorem Jo (σ:Vr→U):sub σ zU=zU:=rfl
def dU (D:Nat→Bool) (fin:Option U):List Nat→Nat→U
 | [],i=>match fin with
  | some u=>if D i=true then u else vn (1+i)
  | none=>vn (1+i)
 | h :: t,i=>if D i=true then mj (lG h) (dU D fin t (i+1))else vn (1+i)
theorem pF {D:Nat→Bool} {fin:Option U} {i:Nat} (h:D i=false):∀l,dU D fin l i=vn (1+i)
 | []=>by unfold dU;cases fin with
  | none=>rfl
  | some u=>show (if D i=true then u else vn (1+i))=_;rw[h];rfl
 | d :: t=>by unfold dU;rw[h];rfl
theorem wJ {D:Nat→Bool} (d:Nat):∀(l:List Nat) (i:Nat),D (i+l.length)=false→dU D none (l++[d]) i=dU D none l i
 | [],i,h=>by
  rw[List.nil_append,pF (by simpa using h),pF (by simpa using h)]
 | c :: t,i,h=>by
  rw[List.cons_append,dU,dU,wJ d t (i+1) (by rw[←h];congr 1;simp;omega)]
theorem yF {D:Nat→Bool} (u:U):∀(l:List Nat) (i:Nat),D (i+l.length)=false→dU D (some u) l i=dU D none l i
 | [],i,h=>by
  rw[pF (by simpa using h),pF (by simpa using h)]
 | c :: t,i,h=>by
  rw[dU,dU,yF u t (i+1) (by rw[←h];congr 1;simp;omega)]
theorem wK {D:Nat→Bool} {fin:Option U} {B:Nat} (hB:1≤B) (hf:∀u,fin=some u→size u≤B):∀(l:List Nat) (i:Nat),size (dU D fin l i)≤2*l.length+B
 | [],i=>by
  unfold dU
  cases fin with
  | none=>show size (vn _)≤_;unfold vn;rw[size];omega
  | some u=>
   have:=hf u rfl
   show size (if D i=true then u else vn (1+i))≤_
   split
   ·omega
   ·unfold vn;rw[size];omega
 | d :: t,i=>by
  have:=wK (D:=D) hB hf t (i+1)
  rw[dU,List.length_cons]
  split
  ·rw[yE];omega
  ·unfold vn;rw[size];omega
theorem Ey {D:Nat→Bool} {fin:Option U} (hf:∀u,fin=some u→vL u) {x:Vr}:∀(l:List Nat) (i:Nat),has x (dU D fin l i)→∃k,i≤k∧k≤i+l.length∧x=([],1+k)∧D k=false∨(k=i+l.length∧fin=none∧x=([],1+k)∧i≤k)
 | [],i,h=>by
  unfold dU at h
  cases fin with
  | none=>
   have h':has x (vn (1+i)):=h
   exact⟨i,Or.inr ⟨rfl,rfl,(show ([],1+i)=x from h').symm,Nat.le_refl _⟩⟩
  | some u=>
   have h':has x (if D i=true then u else vn (1+i)):=h
   by_cases q:D i=true
   ·rw[if_pos q]at h';exact absurd h' (hf u rfl x)
   ·rw[if_neg q]at h'
    exact⟨i,Or.inl ⟨Nat.le_refl _,Nat.le_refl _,(show ([],1+i)=x from h').symm,by simpa using q⟩⟩
 | d :: t,i,h=>by
  rw[dU]at h
  by_cases q:D i=true
  ·rw[if_pos q]at h
   obtain⟨k,h1 | h1⟩:=Ey hf t (i+1) (CY.1 h)
   ·exact⟨k,Or.inl ⟨by omega,by rw[List.length_cons];omega,h1.2.2⟩⟩
   ·exact⟨k,Or.inr ⟨by rw[List.length_cons];omega,h1.2.1,h1.2.2.1,by omega⟩⟩
  ·rw[if_neg q]at h
   exact⟨i,Or.inl ⟨Nat.le_refl _,by omega,(show ([],1+i)=x from h).symm,by simpa using q⟩⟩
def kO (D:Nat→Bool) (k:Nat):Nat→Bool:=fun i=>D i||i == k
theorem wL (D:Nat→Bool) (k:Nat):kO D k k=true:=by simp[kO]
theorem mY {D:Nat→Bool} {k i:Nat} (h:i≠k):kO D k i=D i:=by simp[kO,h]
theorem Jp {D:Nat→Bool} {fin:Option U} {k:Nat}:∀(l:List Nat) (i:Nat),k<i→dU (kO D k) fin l i=dU D fin l i
 | [],i,h=>by
  unfold dU
  rw[mY (by omega)]
 | d :: t,i,h=>by
  rw[dU,dU,mY (by omega),Jp t (i+1) (by omega)]
def rhs (D:Nat→Bool) (fin:Option U) (hs:List Nat) (k:Nat):U:=match hs[k]? with
 | some h=>mj (lG h) (dU D fin (hs.drop (k+1)) (k+1))
 | none=>fin.getD zU
theorem fP {D:Nat→Bool} {fin:Option U} {hs:List Nat} {k:Nat} (h:k<hs.length):rhs D fin hs k=mj (lG hs[k]) (dU D fin (hs.drop (k+1)) (k+1)):=by unfold rhs;rw[List.getElem?_eq_getElem h]
theorem jR {D:Nat→Bool} {u:U} {hs:List Nat} {k:Nat} (h:hs.length≤k):rhs D (some u) hs k=u:=by unfold rhs;rw[List.getElem?_eq_none h];rfl
def isEq (fin:Option U) (hs:List Nat) (k:Nat):Prop:=k<hs.length∨(k=hs.length∧fin≠none)
theorem Jq {D:Nat→Bool} {fin:Option U} {hs:List Nat} {k:Nat} (h:isEq fin hs k) (hd:D k=true):dU D fin (hs.drop k) k=rhs D fin hs k:=by
 rcases h with h | ⟨h,hf⟩
 ·rw[fP h,List.drop_eq_getElem_cons h,dU,if_pos hd]
 ·cases fin with
  | none=>exact absurd rfl hf
  | some u=>
   rw[jR (by omega),List.drop_eq_nil_of_le (by omega),dU]
   show (if D k=true then u else vn (1+k))=u
   rw[if_pos hd]
theorem Oj {D:Nat→Bool} {fin:Option U} {hs:List Nat} {k:Nat} (hf:∀u,fin=some u→vL u) (h:isEq fin hs k):¬has ([],1+k) (rhs D fin hs k):=fun q=>by
 rcases h with h | ⟨h,hf'⟩
 ·rw[fP h]at q
  obtain⟨j,h1 | h1⟩:=Ey hf _ _ (CY.1 q)
  ·have:=congrArg Prod.snd h1.2.2.1
   have:1+k=1+j:=this
   omega
  ·have:=congrArg Prod.snd h1.2.2.1
   have:1+k=1+j:=this
   omega
 ·cases fin with
  | none=>exact absurd rfl hf'
  | some u=>
   rw[jR (by omega)]at q
   exact hf u rfl _ q
theorem Ry {D:Nat→Bool} {fin:Option U} {hs:List Nat} {k:Nat} (hf:∀u,fin=some u→∀y,u≠ .v y) (h:isEq fin hs k):∀y,rhs D fin hs k≠ .v y:=fun y q=>by
 rcases h with h | ⟨h,hf'⟩
 ·rw[fP h]at q;cases q
 ·cases fin with
  | none=>exact absurd rfl hf'
  | some u=>
   rw[jR (by omega)]at q
   exact hf u rfl _ q
theorem Ez {D:Nat→Bool} {fin:Option U} {hs:List Nat} {k:Nat} (hf:∀u,fin=some u→vL u) (hk:isEq fin hs k) (hd:D k=false):∀(n i:Nat),hs.length - i=n→i≤hs.length→sub (one ([],1+k) (rhs D fin hs k)) (dU D fin (hs.drop i) i)=dU (kO D k) fin (hs.drop i) i:=by
 intro n
 induction n with
 | zero=>
  intro i hn hi
  obtain rfl:i=hs.length:=by omega
  rw[List.drop_length]
  by_cases q:hs.length=k
  ·subst q
   rw[pF hd,pE,uo]
   have:=Jq (D:=kO D hs.length) hk (wL _ _)
   rw[List.drop_length]at this
   rw[this]
   rcases hk with hk | ⟨_,hf'⟩
   ·omega
   ·cases fin with
    | none=>exact absurd rfl hf'
    | some u=>rw[jR (Nat.le_refl _),jR (Nat.le_refl _)]
  ·unfold dU
   rw[mY q]
   cases fin with
   | none=>show sub _ (vn _)=vn _;rw[pE,qZ _ (Ay (by omega))];rfl
   | some u=>
    show sub _ (if D _=true then u else vn _)=if D _=true then u else vn _
    split
    ·exact(hf u rfl).sub _
    ·rw[pE,qZ _ (Ay (by omega))];rfl
 | succ n ih=>
  intro i hn hi
  have hl:i<hs.length:=by omega
  have ih':=ih (i+1) (by omega) (by omega)
  by_cases q:i=k
  ·subst q
   rw[pF hd,pE,uo,Jq hk (wL _ _),fP hl,fP hl,Jp _ _ (by omega)]
  ·rw[List.drop_eq_getElem_cons hl,dU,dU,mY q]
   split
   ·rw[Jm,ih']
   ·rw[pE,qZ _ (Ay (by omega))];rfl
theorem Ok {D:Nat→Bool} {fin:Option U} {hs:List Nat} {k i:Nat} (hf:∀u,fin=some u→vL u) (hk:isEq fin hs k) (hd:D k=false) (hi:isEq fin hs i):sub (one ([],1+k) (rhs D fin hs k)) (rhs D fin hs i)=rhs (kO D k) fin hs i:=by
 rcases hi with hi | ⟨hi,hf'⟩
 ·rw[fP (k:=i) hi,fP (k:=i) hi,Jm,Ez hf hk hd _ (i+1) rfl (by omega)]
 ·cases fin with
  | none=>exact absurd rfl hf'
  | some u=>rw[jR (k:=i) (by omega),jR (k:=i) (by omega)];exact(hf u rfl).sub _
end Za
