import Derived.Test.YthfjnfcekeknlaaGreatDoorSu37
import Derived.Deep.DeepCutAuto
import Derived.Deep.LoopGhost
set_option maxHeartbeats 8000000
set_option maxRecDepth 100000
namespace Go.Proofs.YthfjnfcekeknlaaGreatDoor
open Go.RowKit
structure VS (w:World) (T:Nat→Za.U) (V:List Nat) (en:Int) (lo:Option Addr) (ln lc:Nat) (N:List Nat) (mo:Option Addr) (mc:Nat) (xo:Option Addr) (xc:Nat) (wr:World):Prop where
 nm:fe wr (w.heap.size+2) N mo mc
 vr:Za.bt N=(eP T V).2
 nl:N.length≤V.length*1000
 rw_:∀k,rowOf mo k→w.heap.size+3≤k
 ow:wr.ownsRow (w.heap.size+3) 9 1 (.slice xo V.length xc) V.length ((eP T V).1.map iB)
 rb:wr.heap[w.heap.size+1]?=some (.cells #[.int .i64 en,.slice lo ln lc,.slice xo V.length xc,.slice none 0 0,.slice none 0 0] 32 (0,0))
 zb:wr.heap[w.heap.size]?=some (.cells #[.int .i64 0,.slice none 0 0,.slice none 0 0,.slice none 0 0,.slice none 0 0] 32 (0,0))
 be:Below w.heap.size w wr
theorem pH {w4 w7:World} {n cell b rb:Nat} {xo:Option Addr} {xc:Nat} {Y:TypeId} {X:Obj} {xs:List Value} {C:Array Value} (ho:w4.ownsRow b Y 1 (.slice xo n xc) n xs) (hgr:(w4.alloc X).grownBy w7 (Value.slice xo n xc).ownBlock) (mA:w4.heap[rb]?=some (.cells C 32 (0,0))) (hY:Y≠32) (v:Value):
 (∀k,k≠rb→¬rowOf xo k→k<w4.heap.size→(w7.setCell ⟨rb,cell,none⟩ v).heap[k]?=w4.heap[k]?)∧(w7.setCell ⟨rb,cell,none⟩ v).heap[rb]?=some (.cells (C.setIfInBounds cell v) 32 (0,0)):=by
 have hz:=ag mA
 refine⟨fun k h1 h2 h3=> ?_,?_⟩
 ·rw[aJ _ _ _ _ h1,hgr.block k (by simp;omega) (bX h2),Below.heap_alloc _ _ _ h3]
 ·refine aA ?_ cell v
  rw[hgr.block rb (by simp;omega) (bX (aR ho mA (Ne.symm hY))),Below.heap_alloc _ _ _ hz]
  exact mA
theorem ug {w w4 w7:World} {n cell b rb:Nat} {xo:Option Addr} {xc:Nat} {Y:TypeId} {X:Obj} {xs:List Value} (aO:Below w.heap.size w w4) (ho:w4.ownsRow b Y 1 (.slice xo n xc) n xs) (zi:w.heap.size≤b) (hgr:(w4.alloc X).grownBy w7 (Value.slice xo n xc).ownBlock) (mA:w.heap.size≤rb) (v:Value):Below w.heap.size w (w7.setCell ⟨rb,cell,none⟩ v):=
 ((aO.alloc aO.size X).grown hgr (by have:=aO.size;simp;omega) (fun k q=>by have:=(ho.lt k q).1;omega)).setCell mA v
theorem fe.res {w4 w7:World} {n cell b rb nb:Nat} {xo:Option Addr} {xc:Nat} {Y:TypeId} {X:Obj} {xs:List Value} {C:Array Value} {N:List Nat} {mo:Option Addr} {mc:Nat} (h:fe w4 nb N mo mc) (ho:w4.ownsRow b Y 1 (.slice xo n xc) n xs) (hgr:(w4.alloc X).grownBy w7 (Value.slice xo n xc).ownBlock) (mA:w4.heap[rb]?=some (.cells C 32 (0,0))) (hY:Y≠32) (h1:Y≠123) (h2:Y≠3) (v:Value):fe (w7.setCell ⟨rb,cell,none⟩ v) nb N mo mc:=by
 obtain⟨keep,_⟩:=pH (cell:=cell) ho hgr mA hY v
 have key:∀{k:Nat} {ys:Array Value} {Z:TypeId},w4.heap[k]?=some (.cells ys Z (0,0))→Z≠Y→Z≠32→(w7.setCell ⟨rb,cell,none⟩ v).heap[k]?=w4.heap[k]?:=fun {k ys Z} hk q1 q2=>keep k (fun e=>by
  rw[e,mA]at hk
  simp only[Option.some.injEq,Obj.cells.injEq]at hk
  exact q2 hk.2.1.symm) (aR ho hk q1) (ag hk)
 refine⟨(key h.blk (Ne.symm h1) (by decide)).trans h.blk,ai h.own fun g q=> ?_⟩
 obtain⟨cur,hc⟩:=aK h.own (aI q)
 exact key hc (Ne.symm h2) (by decide)
theorem VS.next {w:World} {T:Nat→Za.U} {V:List Nat} {en:Int} {lo:Option Addr} {ln lc:Nat} {N:List Nat} {mo:Option Addr} {mc:Nat} {xo:Option Addr} {xc:Nat} {w4:World} (h:VS w T V en lo ln lc N mo mc xo xc w4) {v:Nat} {N':List Nat} (hz:N'.length≤N.length+1000) (hv:Za.bt N'=Za.ba (eP T V).2 (T v)) {mo':Option Addr} {mc':Nat} {w5:World} (hn:fe w5 (w.heap.size+2) N' mo' mc') (nI:∀k,rowOf mo' k→w.heap.size+3≤k) (how:w5.ownsRow (w.heap.size+3) 9 1 (.slice xo V.length xc) V.length ((eP T V).1.map iB)) (mA:w5.heap[w.heap.size+1]?=some (.cells #[.int .i64 en,.slice lo ln lc,.slice xo V.length xc,.slice none 0 0,.slice none 0 0] 32 (0,0))) (hzb:w5.heap[w.heap.size]?=some (.cells #[.int .i64 0,.slice none 0 0,.slice none 0 0,.slice none 0 0,.slice none 0 0] 32 (0,0))) (aO:Below w.heap.size w w5) {X:Obj} {w7:World} {g' cap':Nat} (hown:w7.ownsRow (w.heap.size+3) 9 1 (.slice (some ⟨g',0,none⟩) (V.length+1) cap') (V.length+1) ((eP T V).1.map iB++[iB (Za.bU Lib.itoa (Za.bt N') (T v))])) (hgr:(w5.alloc X).grownBy w7 (Value.slice xo V.length xc).ownBlock):
 VS w T (V++[v]) en lo ln lc N' mo' mc' (some ⟨g',0,none⟩) cap' (w7.setCell ⟨w.heap.size+1,2,none⟩ (.slice (some ⟨g',0,none⟩) (V.length+1) cap')):=by
 obtain⟨keep,Cz⟩:=pH (cell:=2) how hgr mA (by decide) (.slice (some ⟨g',0,none⟩) (V.length+1) cap')
 have el:(V++[v]).length=V.length+1:=by simp
 refine⟨hn.res how hgr mA (by decide) (by decide) (by decide) _,by rw[zO];exact hv,?_,nI,?_,by rw[el];exact Cz,?_,ug aO how (by omega) hgr (by omega) _⟩
 ·have:=h.nl
  rw[el,Nat.add_mul]
  omega
 ·rw[el,zO]
  have e:(uS T (eP T V) v).1.map iB=(eP T V).1.map iB++[iB (Za.bU Lib.itoa (Za.bt N') (T v))]:=by
   unfold uS
   rw[List.map_append,←hv]
   rfl
  rw[e]
  exact ai hown fun k q=>aJ _ _ _ _ (fun e=>by have:=(hown.lt k q).1;omega)
 ·refine(keep w.heap.size (by omega) (fun q=> ?_) (ag hzb)).trans hzb
  have:=(cr how q).1
  omega
structure BN (w:World) (en:Int) (lo:Option Addr) (ln lc:Nat) (xo:Option Addr) (xn xc:Nat) (xs:List Value) (b2:Nat) (N:List Nat) (mo:Option Addr) (mc:Nat) (go:Option Addr) (gn gc:Nat) (gs:List Value) (yo:Option Addr) (yn yc:Nat) (ys:List Value) (wr:World):Prop where
 nm:fe wr (w.heap.size+2) N mo mc
 rw_:∀k,rowOf mo k→w.heap.size+3≤k
 ox:wr.ownsRow (w.heap.size+3) 9 1 (.slice xo xn xc) xn xs
 xb:∀k,rowOf xo k→k<b2
 og:wr.ownsRow b2 9 1 (.slice go gn gc) gn gs
 oy:wr.ownsRow b2 4 1 (.slice yo yn yc) yn ys
 rb:wr.heap[w.heap.size+1]?=some (.cells #[.int .i64 en,.slice lo ln lc,.slice xo xn xc,.slice go gn gc,.slice yo yn yc] 32 (0,0))
 zb:wr.heap[w.heap.size]?=some (.cells #[.int .i64 0,.slice none 0 0,.slice none 0 0,.slice none 0 0,.slice none 0 0] 32 (0,0))
 be:Below w.heap.size w wr
 bw:w.heap.size+3≤b2
 bz:b2≤wr.heap.size
section
variable {w:World} {en:Int} {lo:Option Addr} {ln lc:Nat} {xo:Option Addr} {xn xc:Nat} {xs:List Value} {b2:Nat} {N:List Nat} {mo:Option Addr} {mc:Nat} {go:Option Addr} {gn gc:Nat} {gs:List Value} {yo:Option Addr} {yn yc:Nat} {ys:List Value} {wr:World}
theorem BN.below (h:BN w en lo ln lc xo xn xc xs b2 N mo mc go gn gc gs yo yn yc ys wr) {w':World} (hb:Below wr.heap.size wr w'):BN w en lo ln lc xo xn xc xs b2 N mo mc go gn gc gs yo yn yc ys w':=
 ⟨h.nm.below hb,h.rw_,ai h.ox (fun k q=>hb.block k (h.ox.lt k q).2),h.xb,ai h.og (fun k q=>hb.block k (h.og.lt k q).2),ai h.oy (fun k q=>hb.block k (h.oy.lt k q).2),(hb.block _ (ag h.rb)).trans h.rb,(hb.block _ (ag h.zb)).trans h.zb,h.be.trans (hb.mono h.be.size),h.bw,Nat.le_trans h.bz hb.size⟩
theorem BN.names (h:BN w en lo ln lc xo xn xc xs b2 N mo mc go gn gc gs yo yn yc ys wr) {w':World} {N':List Nat} {mo':Option Addr} {mc':Nat} (hn:fe w' (w.heap.size+2) N' mo' mc') (hf:au (br (w.heap.size+2) mo) (br (w.heap.size+2) mo') wr w'):BN w en lo ln lc xo xn xc xs b2 N' mo' mc' go gn gc gs yo yn yc ys w':=by
 have yy:∀k,k<w.heap.size+2→¬br (w.heap.size+2) mo k:=fun k hk q=>by
  rcases q with e | e
  ·omega
  ·have:=h.rw_ k e;omega
 have row:∀{b n cap:Nat} {Y:TypeId} {o:Option Addr} {zs:List Value},wr.ownsRow b Y 1 (.slice o n cap) n zs→Y≠123→Y≠3→w'.ownsRow b Y 1 (.slice o n cap) n zs:=fun {b n cap Y o zs} ho h1 h2=>ai ho fun k q=>by
  obtain⟨cur,hc⟩:=aK ho (aI q)
  exact hf.block k (ag hc) (h.nm.apart hc h1 h2)
 refine⟨hn,fun k q=> ?_,row h.ox (by decide) (by decide),h.xb,row h.og (by decide) (by decide),row h.oy (by decide) (by decide),(hf.block _ (ag h.rb) (yy _ (by omega))).trans h.rb,(hf.block _ (ag h.zb) (yy _ (by omega))).trans h.zb,h.be.trans (hf.down h.be.size fun k q=> ?_),h.bw,Nat.le_trans h.bz hf.size⟩
 ·rcases hf.row k (Or.inr q)with(e | e) | e
  ·exact absurd (e ▸ q) hn.ne
  ·exact h.rw_ k e
  ·have:=ag h.nm.blk;omega
 ·rcases q with e | e
  ·omega
  ·have:=h.rw_ k e;omega
theorem BN.goal (h:BN w en lo ln lc xo xn xc xs b2 N mo mc go gn gc gs yo yn yc ys wr) {X:Obj} {w7:World} {g' cap':Nat} {s:Value} (hown:w7.ownsRow b2 9 1 (.slice (some ⟨g',0,none⟩) (gn+1) cap') (gn+1) (gs++[s])) (hgr:(wr.alloc X).grownBy w7 (Value.slice go gn gc).ownBlock):BN w en lo ln lc xo xn xc xs b2 N mo mc (some ⟨g',0,none⟩) (gn+1) cap' (gs++[s]) yo yn yc ys (w7.setCell ⟨w.heap.size+1,3,none⟩ (.slice (some ⟨g',0,none⟩) (gn+1) cap')):=by
 obtain⟨keep,Cz⟩:=pH (cell:=3) h.og hgr h.rb (by decide) (.slice (some ⟨g',0,none⟩) (gn+1) cap')
 have bw:=h.bw
 refine⟨h.nm.res h.og hgr h.rb (by decide) (by decide) (by decide) _,h.rw_,ai h.ox fun k q=> ?_,h.xb,ai hown fun k q=>aJ _ _ _ _ (fun e=>by have:=(hown.lt k q).1;omega),ai h.oy fun k q=> ?_,Cz,?_,ug h.be h.og (by omega) hgr (by omega) _,h.bw,?_⟩
 ·have h1:=cr h.ox (aI q)
  have h2:=h.xb k (aI q)
  exact keep k (by omega) (fun r=>by have:=(cr h.og r).1;omega) h1.2
 ·obtain⟨cur,hc⟩:=aK h.oy (aI q)
  have h1:=(cr h.oy (aI q)).1
  exact keep k (by omega) (aR h.og hc (by decide)) (ag hc)
 ·exact(keep w.heap.size (by omega) (fun r=>by have:=(cr h.og r).1;omega) (ag h.zb)).trans h.zb
 ·rw[cL];have:=hgr.size;simp at this;have:=h.bz;omega
theorem BN.wait (h:BN w en lo ln lc xo xn xc xs b2 N mo mc go gn gc gs yo yn yc ys wr) {X:Obj} {w7:World} {g' cap':Nat} {s:Value} (hown:w7.ownsRow b2 4 1 (.slice (some ⟨g',0,none⟩) (yn+1) cap') (yn+1) (ys++[s])) (hgr:(wr.alloc X).grownBy w7 (Value.slice yo yn yc).ownBlock):BN w en lo ln lc xo xn xc xs b2 N mo mc go gn gc gs (some ⟨g',0,none⟩) (yn+1) cap' (ys++[s]) (w7.setCell ⟨w.heap.size+1,4,none⟩ (.slice (some ⟨g',0,none⟩) (yn+1) cap')):=by
 obtain⟨keep,Cz⟩:=pH (cell:=4) h.oy hgr h.rb (by decide) (.slice (some ⟨g',0,none⟩) (yn+1) cap')
 have bw:=h.bw
 have kS:∀{b n cap:Nat} {o:Option Addr} {zs:List Value},wr.ownsRow b 9 1 (.slice o n cap) n zs→w.heap.size+3≤b→(w7.setCell ⟨w.heap.size+1,4,none⟩ (.slice (some ⟨g',0,none⟩) (yn+1) cap')).ownsRow b 9 1 (.slice o n cap) n zs:=fun {b n cap o zs} ho hb=>ai ho fun k q=>by
  obtain⟨cur,hc⟩:=aK ho (aI q)
  have h1:=(cr ho (aI q)).1
  exact keep k (by omega) (aR h.oy hc (by decide)) (ag hc)
 refine⟨h.nm.res h.oy hgr h.rb (by decide) (by decide) (by decide) _,h.rw_,kS h.ox (Nat.le_refl _),h.xb,kS h.og bw,ai hown fun k q=>aJ _ _ _ _ (fun e=>by have:=(hown.lt k q).1;omega),Cz,?_,ug h.be h.oy (by omega) hgr (by omega) _,h.bw,?_⟩
 ·exact(keep w.heap.size (by omega) (fun r=>by have:=(cr h.oy r).1;omega) (ag h.zb)).trans h.zb
 ·rw[cL];have:=hgr.size;simp at this;have:=h.bz;omega
end
def UA (w:World) (fr:Nat→Nat) (T:Nat→Za.U) (N0:List Za.Vr) (G:List Gl) (en:Int) (lo:Option Addr) (ln lc:Nat) (xo:Option Addr) (xn xc:Nat) (xs:List Value) (b2:Nat) (k:Nat) (iv:Value) (wr:World):Prop:=
 ∃(j:Nat) (N:List Nat) (mo:Option Addr) (mc:Nat) (go:Option Addr) (gc:Nat) (yo:Option Addr) (yc:Nat),k+j=G.length∧iv= .int .i64 (j:Int)∧Za.bt N=(kE T N0 (G.take j)).2∧N.length≤100000+j*3000∧BN w en lo ln lc xo xn xc xs b2 N mo mc go j gc ((kE T N0 (G.take j)).1.map iB) yo j yc ((G.take j).map fun g=> .bool (!gh fr g)) wr
def UB (w:World) (T:Nat→Za.U) (V:List Nat) (en:Int) (lo:Option Addr) (ln lc:Nat) (k:Nat) (iv:Value) (wr:World):Prop:=
 ∃(j:Nat) (N:List Nat) (mo:Option Addr) (mc:Nat) (xo:Option Addr) (xc:Nat),k+j=V.length∧iv= .int .i64 (j:Int)∧VS w T (V.take j) en lo ln lc N mo mc xo xc wr
theorem Jl (w:World) (mb:Nat) (cls:List Za.aL) (clo:Option Addr) (clc:Nat) (V:List Nat) (vo:Option Addr) (vc:Nat) (L:List Int) (lo:Option Addr) (lc:Nat) (S:cq) (nO:Option Addr) (nC:Nat) (po:Option Addr) (pc:Nat) (en:Int) (h:cP w mb (qj clo cls.length clc nO S.D.length nC vo V.length vc po S.G.length pc lo L.length lc en) S.D nO nC S.fr S.G po pc) (fD:Za.dG (aX S.D) S.fr S.T) (P:Nat→Prop) (bC:aZ w S.D P) (CD:w.ownsRow 0 3 1 (.slice vo V.length vc) V.length (V.map aM)) (jF:∀v∈V,v<S.D.length) (zL:∀d∈S.D,-1000000000≤d.val∧d.val≤1000000000) (Hs:∀d∈S.D,d.tx.size≤240) (vH:∀g∈S.G,ml S.T S.D.length g) (CE:Pow w) (hen:en=1∨en=2∨en=3) (hV:V.length≤100) (hG:S.G.length≤100) (hsV:∀v∈V,Za.size (S.T v)≤1000) (hsG:∀g∈S.G,∀x:Int,x=(g.l:Int)∨x=g.r∨x=g.z→x≠-1→Za.size (S.T x.toNat)≤1000):
 Calls Tryz.prog 47 #[.pointer (some ⟨mb,0,none⟩)] w fun e w'=>∃(xo:Option Addr) (xc:Nat) (go:Option Addr) (gc:Nat) (yo:Option Addr) (yc:Nat),e= .returned (.agg #[.int .i64 en,.slice lo L.length lc,.slice xo V.length xc,.slice go S.G.length gc,.slice yo S.G.length yc])∧w'.ownsRow w.heap.size 9 1 (.slice xo V.length xc) V.length ((eP S.T V).1.map iB)∧w'.ownsRow w.heap.size 9 1 (.slice go S.G.length gc) S.G.length ((kE S.T (eP S.T V).2 S.G).1.map iB)∧w'.ownsRow w.heap.size 4 1 (.slice yo S.G.length yc) S.G.length (S.G.map fun g=> .bool (!gh S.fr g))∧(∀k,rowOf xo k→¬rowOf go k)∧Below w.heap.size w w':=by
 have f2:w.cell? ⟨mb,2,none⟩=some (.slice vo V.length vc):=ah h.st.blk 2
 have f3:w.cell? ⟨mb,3,none⟩=some (.slice po S.G.length pc):=ah h.st.blk 3
 have f4:w.cell? ⟨mb,4,none⟩=some (.slice lo L.length lc):=ah h.st.blk 4
 have f5:w.cell? ⟨mb,5,none⟩=some (.int .i64 en):=ah h.st.blk 5
 have mz:=ag h.st.blk
 have t4:(en == 4)=false:=by rcases hen with q | q | q<;>(rw[q];rfl)
 have t5:(en == 5)=false:=by rcases hen with q | q | q<;>(rw[q];rfl)
 have t6:(en == 6)=false:=by rcases hen with q | q | q<;>(rw[q];rfl)
 have LG:aZ w S.D (fun g=>g<w.heap.size):=bC.keep fun g _ _ hg=>⟨hg,ag hg⟩
 have HT:=af (fun(x:Int) (N1:List Nat) (mo1:Option Addr) (mc1:Nat) (W:World) (hb:Below w.heap.size w W) (lG:fe W (w.heap.size+2) N1 mo1 mc1) (nI:∀k,rowOf mo1 k→w.heap.size+3≤k) (hx:pD S.D.length x) (hq:x≠-1→Za.size (S.T x.toNat)≤1000) (jE:N1.length≤900000)=>MV W mb _ S.D nO nC S.fr S.T (w.heap.size+2) N1 mo1 mc1 x (h.st.below hb) h.ok fD lG ((LG.below hb).keep fun g _ hp hg=>⟨hg,fun q=>by
  rcases q with e | e
  ·omega
  ·have:=nI g e;omega⟩) hx hq jE)
 have ji:=af (Oh h.ok fD zL Hs)
 have HST:=af (show UB w S.T V en lo L.length lc V.length (.int .i64 0) (((((w.alloc (.cells #[.int .i64 0,.slice none 0 0,.slice none 0 0,.slice none 0 0,.slice none 0 0] 32)).alloc (.cells #[.int .i64 en,.slice lo L.length lc,.slice none 0 0,.slice none 0 0,.slice none 0 0] 32)).drew).alloc (.cells #[.slice none 0 0] 123)))from by
  have tZ:=(((Below.refl w.heap.size w).alloc (Nat.le_refl _) (.cells #[.int .i64 0,.slice none 0 0,.slice none 0 0,.slice none 0 0,.slice none 0 0] 32)).alloc (by simp) (.cells #[.int .i64 en,.slice lo L.length lc,.slice none 0 0,.slice none 0 0,.slice none 0 0] 32)).drew
  have hb1:=tZ.alloc tZ.size (.cells #[.slice none 0 0] 123)
  have q0:=aB (aB (heap_alloc_new w (.cells #[.int .i64 0,.slice none 0 0,.slice none 0 0,.slice none 0 0,.slice none 0 0] 32)) (.cells #[.int .i64 en,.slice lo L.length lc,.slice none 0 0,.slice none 0 0,.slice none 0 0] 32)) (.cells #[.slice none 0 0] 123)
  have q1:=aB (heap_alloc_new (w.alloc (.cells #[.int .i64 0,.slice none 0 0,.slice none 0 0,.slice none 0 0,.slice none 0 0] 32)) (.cells #[.int .i64 en,.slice lo L.length lc,.slice none 0 0,.slice none 0 0,.slice none 0 0] 32)) (.cells #[.slice none 0 0] 123)
  have q2:=heap_alloc_new ((w.alloc (.cells #[.int .i64 0,.slice none 0 0,.slice none 0 0,.slice none 0 0,.slice none 0 0] 32)).alloc (.cells #[.int .i64 en,.slice lo L.length lc,.slice none 0 0,.slice none 0 0,.slice none 0 0] 32)) (.cells #[.slice none 0 0] 123)
  simp only[World.size_alloc]at q1 q2
  exact⟨0,[],none,0,none,0,by omega,rfl,⟨⟨q2,World.ownsRow_nil _ _ _ _⟩,rfl,by simp,(fun k ⟨_,q,_⟩=>by cases q),World.ownsRow_nil _ _ _ _,q1,q0,hb1⟩⟩)
 have Rf:=af CD
 have BA:=af jF
 have Em:=af CE
 have T7:=af hsV
 have jJ:=af hsG
 have HH:=af h
 have XI:=af vH
 have n9:=af LG
 have QJ:=af fD
 obtain⟨ti,hi,hz0,hz1,hz2⟩:=info_parts infoStrS
 obtain⟨tb,XJ,hb0,hb1,hb2⟩:=info_parts infoBl
 clear h fD bC LG CD jF zL Hs vH CE hen hsV hsG
 go_enter Tryz.func47,Tryz.ntmps47
 go_upto_region 1 with fail
 go_cut [3] (fun tv wx=>tv= .pointer (some ⟨w.heap.size+1,0,none⟩)∧wx=((w.alloc (.cells #[.int .i64 0,.slice none 0 0,.slice none 0 0,.slice none 0 0,.slice none 0 0] 32)).alloc (.cells #[.int .i64 en,.slice lo L.length lc,.slice none 0 0,.slice none 0 0,.slice none 0 0] 32)).drew)
 case first=>
  go_region
  all_goals
   go_wp2_with fail
   go_meet
   exact⟨rfl,rfl⟩
 case rest=>
  obtain⟨rfl,rfl⟩:=hcut
  have xP:=(((Below.refl w.heap.size w).alloc (Nat.le_refl _) (.cells #[.int .i64 0,.slice none 0 0,.slice none 0 0,.slice none 0 0,.slice none 0 0] 32)).alloc (by simp) (.cells #[.int .i64 en,.slice lo L.length lc,.slice none 0 0,.slice none 0 0,.slice none 0 0] 32)).drew
  have oD:=xP.alloc xP.size (.cells #[.slice none 0 0] 123)
  have g2:=(oD.cell (p:=⟨mb,2,none⟩) mz).trans f2
  have g5:=(xP.cell (p:=⟨mb,5,none⟩) mz).trans f5
  have UC:=((((Below.refl w.heap.size w).alloc (Nat.le_refl _) (.cells #[.int .i64 0,.slice none 0 0,.slice none 0 0,.slice none 0 0,.slice none 0 0] 32)).alloc (by simp) (.cells #[.int .i64 en,.slice lo L.length lc,.slice none 0 0,.slice none 0 0,.slice none 0 0] 32)).alloc (by simp;omega) (.cells #[.slice none 0 0] 123)).drew
  have g2':=(UC.cell (p:=⟨mb,2,none⟩) mz).trans f2
  clear xP oD UC
  go_wp2_with fail
  go_loopg [48] V.length (fun k iv wr=>UB w S.T V en lo L.length lc k iv wr)
  case atStart=>exact ae HST
  case round=>
   clear HST
   obtain⟨j,N,mo,mc,xo,xc,hkj,rfl,iV⟩:=hrel
   clear g2 g2' g5
   by_cases hlt:j<V.length
   ·obtain⟨g,hg⟩:∃g,vo=some ⟨g,0,none⟩:=by
     rcases(ae Rf).2 with⟨q,q2⟩ | ⟨g,cp,cur,q,_⟩
     ·omega
     ·simp only[Value.slice.injEq]at q
      exact⟨g,q.1⟩
    subst hg
    have gz0:=((ae Rf).lt g rfl).2
    have e0:wr.cell? ⟨g,j,none⟩=some (.int .i64 (V[j]:Int)):=by
     rw[iV.be.cell (p:=⟨g,j,none⟩) gz0,(ae Rf).cellAt j (by omega),List.getElem?_map,List.getElem?_eq_getElem hlt]
     rfl
    have Az:V[j]∈V:=List.getElem_mem hlt
    have hsz:=ae T7 _ Az
    have jF:=ae BA _ Az
    have hsm:=ae ji _ jF
    have oI:V.take (j+1)=V.take j++[V[j]]:=by rw[List.take_add_one,List.getElem?_eq_getElem hlt];rfl
    have hlen:(V.take j).length=j:=by rw[List.length_take];omega
    have gz:g<wr.heap.size:=Nat.lt_of_lt_of_le gz0 iV.be.size
    have mzr:mb<wr.heap.size:=Nat.lt_of_lt_of_le mz iV.be.size
    have i0:(0:Int)≤(j:Int):=by omega
    have i1:(j:Int)<(V.length:Int):=by omega
    generalize V[j]=v at*
    have hNl:N.length≤100000:=by have:=iV.nl;rw[hlen]at this;omega
    have IT:=af (ae HT (v:Int) N mo mc wr iV.be iV.nm iV.rw_ (Or.inr ⟨v,rfl,jF⟩) (fun _=>by simpa using hsz) (by omega))
    have nN:=af iV
    have aT:=af hkj
    have bh:=af hlt
    have rZ:=af oI
    have j9:=af hsz
    have Rg:=af hsm
    have HLEN:=af hlen
    clear iV hkj hlt oI hsz jF hsm hlen Az
    go_wp2_with fail
    refine(ae IT).mono ?_
    rintro e w2 ⟨⟨ak,av,ax,ao,an,ac⟩,N',mo',mc',rfl,nm2,hv2,rv2,fg2⟩
    have hrow:∀k,br (w.heap.size+2) mo k→w.heap.size≤k:=fun k q=>by
     rcases q with e | e
     ·omega
     ·have:=(ae nN).rw_ k e;omega
    have uh:Below w.heap.size w w2:=(ae nN).be.trans (fg2.down (ae nN).be.size hrow)
    have LH:=uh.alloc uh.size (.cells #[.int .i64 ak,.int .i64 av,.string ax,.slice ao an ac] 76)
    have yy:∀k,k<w.heap.size+2→¬br (w.heap.size+2) mo k:=fun k hk q=>by
     rcases q with e | e
     ·omega
     ·have:=(ae nN).rw_ k e;omega
    have Rh:=(fg2.block _ (ag (ae nN).rb) (yy _ (by omega))).trans (ae nN).rb
    have Ri:=(fg2.block _ (ag (ae nN).zb) (yy _ (by omega))).trans (ae nN).zb
    have Rj:w2.ownsRow (w.heap.size+3) 9 1 (.slice xo (V.take j).length xc) (V.take j).length ((eP S.T (V.take j)).1.map iB):=ai (ae nN).ow fun k q=>by
     obtain⟨cur,hc⟩:=aK (ae nN).ow (aI q)
     exact fg2.block k (ag hc) ((ae nN).nm.apart hc (by decide) (by decide))
    have yj:∀k,rowOf mo' k→w.heap.size+3≤k:=fun k q=>by
     rcases fg2.row k (Or.inr q)with(e | e) | e
     ·exfalso
      exact nm2.ne (e ▸ q)
     ·exact(ae nN).rw_ k e
     ·have:=ag (ae nN).nm.blk;omega
    have LI:Za.bt N'=Za.ba (eP S.T (V.take j)).2 (S.T v):=by
     rw[hv2]
     unfold iD
     rw[if_neg (by omega),(ae nN).vr]
     simp
    have hN2:N'.length≤N.length+1000:=by
     have e1:(Za.bt N').length=N'.length:=by unfold Za.bt;simp
     have e2:(Za.bt N).length=N.length:=by unfold Za.bt;simp
     have:=i6 (S.T v) (eP S.T (V.take j)).2
     rw[←LI,e1,←(ae nN).vr,e2]at this
     have:=ae j9
     omega
    have rv3:RV 1000 (Za.bt N') anyA w2 ⟨ak,av,ax,ao,an,ac⟩ (S.T v):=by
     have:=rv2 (by omega)
     have e0:((v:Int)).toNat=v:=by simp
     rw[e0]at this
     exact this.keep fun g _ _ hg=>⟨hg,trivial⟩
    have rv4:=rv3.keep (Q:=anyA) (w':=w2.alloc (.cells #[.int .i64 ak,.int .i64 av,.string ax,.slice ao an ac] 76)) fun g _ _ hg=>⟨(Below.heap_alloc _ _ _ (ag hg)).trans hg,trivial⟩
    have eV:(Za.bt N').length=N'.length:=by unfold Za.bt;simp
    have IS:=af (stU_all 1000 _ (Za.bt N') anyA ⟨ak,av,ax,ao,an,ac⟩ (S.T v) rv4 ((ae Em).below LH) (by rw[eV];omega) (ae Rg) (ae j9))
    have hSl:=Za.o0 (N:=Za.bt N') (by rw[eV];omega) (S.T v) (ae Rg)
    have hSl':(Za.bU Lib.itoa (Za.bt N') (S.T v)).length≤300000:=by have:=ae j9;omega
    have gT:=af nm2
    have XK:=af LI
    have tB:=af hN2
    have XL:=af yj
    have yi:=af Rj
    have LJ:=af Rh
    have LM:=af Ri
    have V0:=af LH
    have LO:=af uh
    clear nm2 hv2 LI hN2 yj Rj Rh Ri LH uh rv2 rv3 rv4 fg2 eV hrow yy hSl IT e0
    generalize CF:Za.bU Lib.itoa (Za.bt N') (S.T v)=STR at*
    have LR:=af CF
    clear CF
    go_wp2_with fail
    refine(ae IS).mono ?_
    rintro e w4 ⟨rfl,hb4⟩
    have vP:Below w2.heap.size w2 w4:=((Below.refl _ w2).alloc (Nat.le_refl _) _).trans (hb4.mono (by simp))
    have Ge:=ai (ae yi) fun k q=>vP.block k ((ae yi).lt k q).2
    have yA:=(vP.block _ (ag (ae LJ))).trans (ae LJ)
    have Rk:=(vP.block _ (ag (ae LM))).trans (ae LM)
    have LU:=(ae gT).below vP
    have CG:=(ae LO).trans (vP.mono (ae LO).size)
    have r2:=ah yA 2
    have rx2:=ay yA 2
    have rz:=ag yA
    simp only[List.getElem?_toArray,List.getElem?_cons_zero,List.getElem?_cons_succ]at r2
    rw[ae HLEN]at r2
    have Jm:=af (show some (w.heap.size+1)≠(Value.slice xo (V.take j).length xc).ownBlock from bX (aR Ge yA (by decide)))
    rw[ae HLEN]at Jm
    have jx:=af (fun(w7:World) (g' cap':Nat) (X:Obj) a1 a2=>(ae nN).next (v:=v) (ae tB) (ae XK) LU (ae XL) Ge yA Rk CG (X:=X) (w7:=w7) (g':=g') (cap':=cap') a1 a2)
    rw[ae HLEN]at jx
    have Gf:=Ge
    rw[ae HLEN]at Gf
    have V1:=af Gf
    have z4:w.heap.size+3≤w4.heap.size:=by have:=ag LU.blk;omega
    rw[ae LR]at jx
    clear Ge Gf yA Rk LU CG hb4 vP IS yi LJ LM gT LO V0
    generalize hzz:(eP S.T (V.take j)).1.map iB=ZZ at*
    clear hzz
    go_wp2_with (at_builtin;go_must (refine wpList_append_own_at _ rfl (.tmp 60) (.tmp 62) 29 rfl (w.heap.size+3) 9 ti (.string ⟨#[]⟩) 1 16 Tryz.underlying29 hi hz0 hz1 hz2 rfl (by decide) (.slice xo j xc) j ZZ rfl ((ae V1).alloc _) ⟨w4.heap.size,0,none⟩ 1 1 [.string ⟨STR.toArray⟩] rfl rfl (iZ _ _ _ _ rfl) (by simp[Value.oneCell']) (by unfold maxLen;omega) (by omega) (by simp;omega) ?_);go_must (intro v' w7 hown' hgrow _ hat;obtain⟨g',cap',hv',-⟩:=fk hown';subst hv';have jD:=af (ae jx w7 g' cap' _ hown' hgrow);have m2:=(hgrow.cell_far ⟨w.heap.size+1,2,none⟩ (by simp;omega) (ae Jm)).trans ((World.cell?_alloc_past _ _ _ rz).trans r2);have k9:w7.frozen? ⟨w.heap.size+1,2,none⟩=false:=(by have:=ay (ae jD).rb 2;rwa [World.frozen?_setCell]at this);have zz7:w.heap.size+1<w7.heap.size:=(by have:=ag (ae jD).rb;rwa [cL]at this);clear hown' hgrow hat))
    go_roundg (gk - 1)
    case measure=>have:=ae aT;have:=ae bh;omega
    case rel=>exact⟨j+1,N',mo',mc',_,cap',by have:=ae aT;have:=ae bh;omega,by go_num,by rw[ae rZ];exact ae jD⟩
   ·obtain rfl:j=V.length:=by omega
    rw[List.take_length]at iV
    have nN:=af iV
    have g3:=(iV.be.cell (p:=⟨mb,3,none⟩) mz).trans f3
    have mzr:mb<wr.heap.size:=Nat.lt_of_lt_of_le mz iV.be.size
    have Rl:=af (show UA w S.fr S.T (eP S.T V).2 S.G en lo L.length lc xo V.length xc ((eP S.T V).1.map iB) wr.heap.size S.G.length (.int .i64 0) wr from ⟨0,N,mo,mc,none,0,none,0,by omega,rfl,iV.vr,by have:=iV.nl;omega,⟨iV.nm,iV.rw_,iV.ow,fun k q=>(cr iV.ow q).2,World.ownsRow_nil _ _ _ _,World.ownsRow_nil _ _ _ _,iV.rb,iV.zb,iV.be,by have:=ag iV.nm.blk;omega,Nat.le_refl _⟩⟩)
    generalize Yz:wr.heap.size=b2 at*
    clear iV hkj hlt
    go_wp2_with fail
    go_loopg [71] S.G.length (fun k iv wr=>UA w S.fr S.T (eP S.T V).2 S.G en lo L.length lc xo V.length xc ((eP S.T V).1.map iB) b2 k iv wr)
    case atStart=>exact ae Rl
    case round=>
     clear Rl
     obtain⟨i,N3,mo3,mc3,go,gc,yo,yc,hkj,rfl,CD,pS,oD⟩:=hrel
     by_cases hlt:i<S.G.length
     ·obtain⟨pg,QZ⟩:∃pg,po=some ⟨pg,0,none⟩:=by
       rcases(ae HH).pool.2 with⟨q,q2⟩ | ⟨g,cp,cur,q,_⟩
       ·omega
       ·simp only[Value.slice.injEq]at q
        exact⟨g,q.1⟩
      subst QZ
      have pz0:=((ae HH).pool.lt pg rfl).2
      have fc:∀k,k<7→wr.cell? ⟨pg,i*7+k,none⟩=(fN S.G[i])[k]?:=fun k hk=>by
       rw[oD.be.cell (p:=⟨pg,i*7+k,none⟩) pz0,(ae HH).pool.cellAt (i*7+k) (by omega)]
       exact qR hlt k hk
      have e0:=fc 0 (by omega)
      have e1:=fc 1 (by omega)
      have e2:=fc 2 (by omega)
      have e3:=fc 3 (by omega)
      have e4:=fc 4 (by omega)
      have e5:=fc 5 (by omega)
      have e6:=fc 6 (by omega)
      simp only[fN,List.getElem?_cons_zero,List.getElem?_cons_succ,Nat.add_zero]at e0 e1 e2 e3 e4 e5 e6
      have ko:S.G[i]∈S.G:=List.getElem_mem hlt
      have gw:=ae XI _ ko
      have LV:=ae jJ _ ko
      have oI:S.G.take (i+1)=S.G.take i++[S.G[i]]:=by rw[List.take_add_one,List.getElem?_eq_getElem hlt];rfl
      have Rm:=(ae HH).nds _ ko
      have Rn:=(ae HH).nlt _ ko
      have Ro:=(ae HH).nl _ ko
      generalize S.G[i]=gg at*
      have pz:pg<wr.heap.size:=Nat.lt_of_lt_of_le pz0 oD.be.size
      have mzr':mb<wr.heap.size:=Nat.lt_of_lt_of_le mz oD.be.size
      have i0:(0:Int)≤(i:Int):=by omega
      have i1:(i:Int)<(S.G.length:Int):=by omega
      have Jn:=(Below.refl wr.heap.size wr).alloc (Nat.le_refl _) (.cells #[.int .i64 (gg.l:Int),.string gg.sg,.int .i64 gg.r,.string gg.op,.int .i64 gg.z,.bool gg.wt,.slice gg.no gg.nd.length gg.nc] 158)
      have hbA:=oD.below Jn
      have hndR:pD S.D.length gg.r:=by
       by_cases q:gg.sg.toList=[]
       ·exact Or.inl (gw.r0 q)
       ·exact Or.inr (gw.rr q)
      have hndZ:pD S.D.length gg.z:=by
       by_cases q:gg.op.toList=[]
       ·exact Or.inl (gw.z0 q)
       ·exact Or.inr (gw.zz q)
      have hN3:N3.length≤500000:=by omega
      have IM:=af (Ji _ mb _ S.D nO nC S.fr S.T (w.heap.size+2) N3 mo3 mc3 gg ((ae HH).st.below hbA.be) (ae HH).ok (ae QJ) hbA.nm (((ae n9).below hbA.be).keep fun k _ hp hk=>⟨hk,fun q=>by
       rcases q with e | e
       ·omega
       ·have:=hbA.rw_ k e;omega⟩) gw.ll hndR hndZ LV (by omega))
      have Rp:=af (heap_alloc_new wr (.cells #[.int .i64 (gg.l:Int),.string gg.sg,.int .i64 gg.r,.string gg.op,.int .i64 gg.z,.bool gg.wt,.slice gg.no gg.nd.length gg.nc] 158))
      have xQ:=af hbA
      have yB:=af gw
      have yC:=af LV
      have aT:=af hkj
      have bh:=af hlt
      have rZ:=af oI
      have V2:=af CD
      have La:=af pS
      have Rq:=af Rm
      have V3:=af Rn
      have V4:=af Ro
      clear oD Jn hbA gw LV hkj hlt oI CD pS Rm Rn Ro fc ko hndR hndZ
      go_wp2_with fail
      refine(ae IM).mono ?_
      rintro e w2 ⟨⟨ak,av,ax,ao,an,ac⟩,⟨bk,bv,bx,bo,bn,bc⟩,⟨ck,cv,cx,co,cn,cc⟩,N4,mo4,mc4,rfl,nm4,hv4,rvA,rvB,rvC,fg4⟩
      have hb2:=(ae xQ).names nm4 fg4
      have Rs:=(fg4.block _ (ag (ae Rp)) ((ae xQ).nm.apart (ae Rp) (by decide) (by decide))).trans (ae Rp)
      have eV:(Za.bt N4).length=N4.length:=by unfold Za.bt;simp
      have eV3:(Za.bt N3).length=N3.length:=by unfold Za.bt;simp
      have hN4:N4.length≤N3.length+3000:=by
       have hz:∀(M:List Za.Vr) (x:Int),(x=(gg.l:Int)∨x=gg.r∨x=gg.z)→(iD S.T M x).length≤M.length+1000:=fun M x hx=>by
        unfold iD
        split
        ·omega
        ·rename_i hne
         exact Nat.le_trans (i6 _ _) (by have:=ae yC x hx hne;omega)
       rw[←eV,hv4]
       have h1:=hz (iD S.T (iD S.T (Za.bt N3) (gg.l:Int)) gg.r) gg.z (Or.inr (Or.inr rfl))
       have h2:=hz (iD S.T (Za.bt N3) (gg.l:Int)) gg.r (Or.inr (Or.inl rfl))
       have h3:=hz (Za.bt N3) (gg.l:Int) (Or.inl rfl)
       omega
      have Rt:Za.bt N4=Jj S.T (kE S.T (eP S.T V).2 (S.G.take i)).2 gg:=by
       rw[hv4,ae V2]
       rfl
      have ly:Za.size (S.T gg.l)≤1000:=by have:=ae yC (gg.l:Int) (Or.inl rfl) (by omega);simpa using this
      have hAl:=Za.o0 (N:=Za.bt N4) (by rw[eV];omega) (S.T gg.l) (ae ji _ (ae yB).ll)
      have hR:gg.sg.toList≠[]→gg.r≠-1∧gg.r.toNat<S.D.length:=fun q=>by
       obtain⟨n,q1,q2⟩:=(ae yB).rr q
       rw[q1]
       exact⟨by omega,by simpa using q2⟩
      have hZ:gg.op.toList≠[]→gg.z≠-1∧gg.z.toNat<S.D.length:=fun q=>by
       obtain⟨n,q1,q2⟩:=(ae yB).zz q
       rw[q1]
       exact⟨by omega,by simpa using q2⟩
      have hbI:=(Below.refl w2.heap.size w2).alloc (Nat.le_refl _) (.cells #[.int .i64 ak,.int .i64 av,.string ax,.slice ao an ac,.string gg.sg,.int .i64 bk,.int .i64 bv,.string bx,.slice bo bn bc,.string gg.op,.int .i64 ck,.int .i64 cv,.string cx,.slice co cn cc] 151)
      have Ru:gg.sg.size≤2:=by
       rw[←Za.nB]
       rcases(ae yB).sg with q | q | q<;>(rw[q];decide)
      have IT:∀{a:AV} {u:Za.U},RV 1000 (Za.bt N4) anyA w2 a u→Za.oZ u→Za.size u≤1000→∀W,Below w2.heap.size w2 W→Calls Tryz.prog 58 #[.agg #[.int .i64 a.k,.int .i64 a.val,.string a.tx,.slice a.ao a.n a.cap]] W fun e w'=>e= .returned (.string ⟨(Za.bU Lib.itoa (Za.bt N4) u).toArray⟩)∧Below W.heap.size W w':=fun {a u} rv hsm hsz W hu=>stU_all 1000 W (Za.bt N4) anyA a u (rv.keep fun g _ _ hg=>⟨(hu.block g (ag hg)).trans hg,trivial⟩) ((ae Em).below (hb2.be.trans (hu.mono hb2.be.size))) (by rw[eV];omega) hsm hsz
      have IS:=af (Og _ ⟨⟨ak,av,ax,ao,an,ac⟩,⟨bk,bv,bx,bo,bn,bc⟩,⟨ck,cv,cx,co,cn,cc⟩,gg.sg,gg.op⟩ (Za.bU Lib.itoa (Za.bt N4) (S.T gg.l)) (if gg.sg.toList=[]then []else Za.bU Lib.itoa (Za.bt N4) (S.T gg.r.toNat)) (if gg.op.toList=[]then []else Za.bU Lib.itoa (Za.bt N4) (S.T gg.z.toNat)) (by omega) (by
       split
       ·simp
       ·rename_i q
        have h1:=Za.o0 (N:=Za.bt N4) (by rw[eV];omega) (S.T gg.r.toNat) (ae ji _ (hR q).2)
        have h2:=ae yC _ (Or.inr (Or.inl rfl)) (hR q).1
        omega) (by
       split
       ·simp
       ·rename_i q
        have h1:=Za.o0 (N:=Za.bt N4) (by rw[eV];omega) (S.T gg.z.toNat) (ae ji _ (hZ q).2)
        have h2:=ae yC _ (Or.inr (Or.inr rfl)) (hZ q).1
        omega) Ru (ae yB).ol (fun W hu=>IT (a:=⟨ak,av,ax,ao,an,ac⟩) rvA (ae ji _ (ae yB).ll) ly W (hbI.trans (hu.mono (by simp)))) (fun q W hu=>by
        rw[if_neg q]
        exact IT (a:=⟨bk,bv,bx,bo,bn,bc⟩) (rvB (hR q).1) (ae ji _ (hR q).2) (ae yC _ (Or.inr (Or.inl rfl)) (hR q).1) W (hbI.trans (hu.mono (by simp)))) (fun _ q W hu=>by
        rw[if_neg q]
        exact IT (a:=⟨ck,cv,cx,co,cn,cc⟩) (rvC (hZ q).1) (ae ji _ (hZ q).2) (ae yC _ (Or.inr (Or.inr rfl)) (hZ q).1) W (hbI.trans (hu.mono (by simp)))))
      have CF:Za.mW (Za.bU Lib.itoa (Za.bt N4) (S.T gg.l)) gg.sg.toList (if gg.sg.toList=[]then []else Za.bU Lib.itoa (Za.bt N4) (S.T gg.r.toNat)) gg.op.toList (if gg.op.toList=[]then []else Za.bU Lib.itoa (Za.bt N4) (S.T gg.z.toNat))=Eo S.T (Za.bt N4) gg:=by
       unfold Eo Za.mW
       by_cases q1:gg.sg.toList=[]
       ·rw[if_pos q1,if_pos q1]
       ·rw[if_neg q1,if_neg q1,if_neg q1]
        by_cases q2:gg.op.toList=[]
        ·rw[if_pos q2,if_pos q2]
        ·rw[if_neg q2,if_neg q2,if_neg q2]
      dsimp only at IS
      rw[CF]at IS
      have bf:=af hb2
      have LW:=af Rs
      have jk:=af hN4
      have Rv:=af Rt
      clear hb2 Rs hN4 Rt eV eV3 ly hAl hR hZ hbI Ru IT CF rvA rvB rvC fg4 nm4 hv4 IM e0 e1 e2 e3 e4 e5 e6
      generalize hSTR:Eo S.T (Za.bt N4) gg=STR at*
      have LR:=af hSTR
      clear hSTR
      go_wp2_with fail
      refine(ae IS).mono ?_
      rintro e w4 ⟨rfl,hb4⟩
      have vP:Below w2.heap.size w2 w4:=((Below.refl _ w2).alloc (Nat.le_refl _) _).trans (hb4.mono (by simp))
      have rK:=(ae bf).below vP
      have Rw:=(vP.block _ (ag (ae LW))).trans (ae LW)
      have r3:=ah rK.rb 3
      have rx3:=ay rK.rb 3
      have rz:=ag rK.rb
      simp only[List.getElem?_toArray,List.getElem?_cons_zero,List.getElem?_cons_succ]at r3
      have Jm:=af (show some (w.heap.size+1)≠(Value.slice go i gc).ownBlock from bX (aR rK.og rK.rb (by decide)))
      have UD:=af rK.og
      have yD:=af rK
      have CH:=af Rw
      have bz4:b2≤w4.heap.size:=rK.bz
      have sk:i≤100:=by have:=ae bh;omega
      clear rK Rw vP hb4 IS bf LW
      generalize vw:(kE S.T (eP S.T V).2 (S.G.take i)).1.map iB=GS at*
      have PB:=af vw
      clear vw
      generalize ML:((S.G.take i).map fun g=>Value.bool (!gh S.fr g))=YS at*
      have XM:=af ML
      clear ML
      go_wp2_with (at_builtin;go_must (refine wpList_append_own_at _ rfl (.tmp 81) (.tmp 83) 29 rfl b2 9 ti (.string ⟨#[]⟩) 1 16 Tryz.underlying29 hi hz0 hz1 hz2 rfl (by decide) (.slice go i gc) i GS rfl ((ae UD).alloc _) ⟨w4.heap.size,0,none⟩ 1 1 [.string ⟨STR.toArray⟩] rfl rfl (iZ _ _ _ _ rfl) (by simp[Value.oneCell']) (by unfold maxLen;omega) (by omega) (by simp;omega) ?_);go_must (intro v' w7 hown' hgrow _ hat;obtain⟨g',cap',hv',-⟩:=fk hown';subst hv';have jD:=af ((ae yD).goal (s:= .string ⟨STR.toArray⟩) hown' hgrow);have m2:=(hgrow.cell_far ⟨w.heap.size+1,3,none⟩ (by simp;omega) (ae Jm)).trans ((World.cell?_alloc_past _ _ _ rz).trans r3);have k9:w7.frozen? ⟨w.heap.size+1,3,none⟩=false:=(by have:=ay (ae jD).rb 3;rwa [World.frozen?_setCell]at this);have zz7:w.heap.size+1<w7.heap.size:=(by have:=ag (ae jD).rb;rwa [cL]at this);have rL:=((pH (cell:=3) (ae yD).og hgrow (ae yD).rb (by decide) (.slice (some ⟨g',0,none⟩) (i+1) cap')).1 _ (fun e=>by have:=(ae yD).rb;rw[←e,ae CH]at this;simp only[Option.some.injEq,Obj.cells.injEq]at this;exact absurd this.2.1 (by decide)) (aR (ae yD).og (ae CH) (by decide)) (ag (ae CH))).trans (ae CH);have d0:=ah rL 0;have d1:=ah rL 1;have d2:=ah rL 2;have d3:=ah rL 3;have d4:=ah rL 4;have d5:=ah rL 5;have d6:=ah rL 6;have dz:=ag rL;simp only[List.getElem?_toArray,List.getElem?_cons_zero,List.getElem?_cons_succ]at d0 d1 d2 d3 d4 d5 d6;clear hown' hgrow hat rL))
      have lq:=(ae jD).be
      have IR:=af (vM _ mb _ _ S.D nO nC S.fr gg 0 ((ae HH).st.below lq) (ae HH).ok (ai (ae Rq) fun k q=>lq.block k ((ae Rq).lt k q).2) (ae V3) (ae V4))
      clear lq
      refine(ae IR).mono ?_
      rintro e w8 ⟨rfl,Ej⟩
      have rM:=(ae jD).below Ej
      have r4:=ah rM.rb 4
      have rx4:=ay rM.rb 4
      have rz8:=ag rM.rb
      simp only[List.getElem?_toArray,List.getElem?_cons_zero,List.getElem?_cons_succ]at r4
      have V5:=af (show some (w.heap.size+1)≠(Value.slice yo i yc).ownBlock from bX (aR rM.oy rM.rb (by decide)))
      have XN:=af rM.oy
      have V6:=af rM
      have bz8:b2≤w8.heap.size:=rM.bz
      clear rM Ej IR jD m2 k9 zz7 d0 d1 d2 d3 d4 d5 d6 dz UD yD CH Jm r3 rx3 rz
      generalize xD:gh S.fr gg=rd at*
      have IK:=af xD
      clear xD
      go_wp2_with (at_builtin;go_must (refine wpList_append_own_at _ rfl (.tmp 90) (.tmp 93) 30 rfl b2 4 tb (.bool false) 1 1 Tryz.underlying30 XJ hb0 hb1 hb2 rfl (by decide) (.slice yo i yc) i YS rfl ((ae XN).alloc _) ⟨w8.heap.size,0,none⟩ 1 1 [.bool (!rd)] rfl rfl (iZ _ _ _ _ rfl) (by simp[Value.oneCell']) (by unfold maxLen;omega) (by omega) (by simp;omega) ?_);go_must (intro v' w9 hown' hgrow _ hat;obtain⟨g9,cap9,hv',-⟩:=fk hown';subst hv';have jD:=af ((ae V6).wait (s:= .bool (!rd)) hown' hgrow);have m2:=(hgrow.cell_far ⟨w.heap.size+1,4,none⟩ (by simp;omega) (ae V5)).trans ((World.cell?_alloc_past _ _ _ rz8).trans r4);have k9:w9.frozen? ⟨w.heap.size+1,4,none⟩=false:=(by have:=ay (ae jD).rb 4;rwa [World.frozen?_setCell]at this);have zz7:w.heap.size+1<w9.heap.size:=(by have:=ag (ae jD).rb;rwa [cL]at this);clear hown' hgrow hat))
      go_roundg (gk - 1)
      case measure=>have:=ae aT;have:=ae bh;omega
      case rel=>
       refine⟨i+1,N4,mo4,mc4,some ⟨g',0,none⟩,cap',some ⟨g9,0,none⟩,cap9,by have:=ae aT;have:=ae bh;omega,by go_num,?_,by have:=ae jk;have:=ae La;omega,?_⟩
       ·rw[ae rZ,zP]
        exact ae Rv
       ·have hb:=ae jD
        rw[←ae PB,←ae XM]at hb
        rw[ae rZ,zP]
        have e1:(stepG S.T (kE S.T (eP S.T V).2 (S.G.take i)) gg).1.map iB=(kE S.T (eP S.T V).2 (S.G.take i)).1.map iB++[.string ⟨STR.toArray⟩]:=by
         unfold stepG
         rw[List.map_append,←ae Rv,ae LR]
         rfl
        have e2:((S.G.take i++[gg]).map fun g=>Value.bool (!gh S.fr g))=((S.G.take i).map fun g=>Value.bool (!gh S.fr g))++[.bool (!rd)]:=by
         rw[List.map_append,List.map_cons,ae IK]
         rfl
        rw[e1,e2]
        exact hb
     ·obtain rfl:i=S.G.length:=by omega
      rw[List.take_length]at CD oD
      have XO:=af oD
      have r0:=ah oD.rb
      have z0:=ah oD.zb
      have zx:=ay oD.zb
      have rz:=ag oD.rb
      have zz:=ag oD.zb
      clear oD hkj hlt CD pS
      go_wp2_with fail
      refine bodyPost_ret (v:= .agg #[.int .i64 en,.slice lo L.length lc,.slice xo V.length xc,.slice go S.G.length gc,.slice yo S.G.length yc]) (by simp[results,Tryz.results47,go_sem,z0]) rfl ?_
      have hb:=ae XO
      have hk:∀k,k≠w.heap.size→(((((wr.setCell ⟨w.heap.size,0,none⟩ (.int .i64 en)).setCell ⟨w.heap.size,1,none⟩ (.slice lo L.length lc)).setCell ⟨w.heap.size,2,none⟩ (.slice xo V.length xc)).setCell ⟨w.heap.size,3,none⟩ (.slice go S.G.length gc)).setCell ⟨w.heap.size,4,none⟩ (.slice yo S.G.length yc)).heap[k]?=wr.heap[k]?:=fun k q=>by
       rw[aJ _ _ _ _ q,aJ _ _ _ _ q,aJ _ _ _ _ q,aJ _ _ _ _ q,aJ _ _ _ _ q]
      have bw:=hb.bw
      refine⟨xo,xc,go,gc,yo,yc,rfl,ct (ai hb.ox fun k q=>hk k (by have:=(hb.ox.lt k q).1;omega)) (by omega),ct (ai hb.og fun k q=>hk k (by have:=(hb.og.lt k q).1;omega)) (by omega),ct (ai hb.oy fun k q=>hk k (by have:=(hb.oy.lt k q).1;omega)) (by omega),fun k q r=> ?_,((((hb.be.setCell (Nat.le_refl _) _).setCell (Nat.le_refl _) _).setCell (Nat.le_refl _) _).setCell (Nat.le_refl _) _).setCell (Nat.le_refl _) _⟩
      have:=hb.xb k q
      have:=(cr hb.og r).1
      omega
end Go.Proofs.YthfjnfcekeknlaaGreatDoor
namespace Go.Proofs.YthfjnfcekeknlaaGreatDoor
open Go.RowKit
inductive yE (cls:List Za.aL) (V:List Nat) (script:List (Int×Int)) (S0:cq):Nat→cq→List Int→Prop
 | start:yE cls V script S0 0 S0 []
 | step {j:Nat} {S S':cq} {L:List Int} {pg pc z:Int} {i:Nat} (h:yE cls V script S0 j S L) (hs:script[j]?=some (pg,pc)) (hi:(cE S.fr S.G S.G.length)[dL pg (cE S.fr S.G S.G.length).length]?=some i) (hg:Cn cls S S' i pc z) (hl:mU V S'=false):yE cls V script S0 (j+1) S' (L++[z])
def Rx (V:List Nat) (S:cq):Prop:=(∀v∈V,Za.size (S.T v)≤300)∧∀g∈S.G,∀x:Int,x=(g.l:Int)∨x=g.r∨x=g.z→x≠-1→Za.size (S.T x.toNat)≤300
theorem rN {T:Nat→Za.U} {x:Int} (h:fX T x=false) (hx:x≠-1):Za.size (T x.toNat)≤40:=by
 unfold fX at h
 have:=of_decide_eq_false h
 omega
theorem Gg {w:World} {mb:Nat} {cls:List Za.aL} {clo:Option Addr} {clc:Nat} {V:List Nat} {vo:Option Addr} {vc:Nat} {L:List Int} {lo:Option Addr} {lc:Nat} {S:cq} {nO:Option Addr} {nC:Nat} {po:Option Addr} {pc:Nat} (h:dY w mb cls clo clc V vo vc L lo lc S nO nC po pc) (hl:mU V S=false):Rx V S∧S.G.length≤24:=by
 unfold mU at hl
 simp only[Bool.or_eq_false_iff,decide_eq_false_iff_not]at hl
 obtain⟨h1,h2,h3⟩:=hl
 refine⟨⟨fun v hv=> ?_,fun g hg x hx hne=> ?_⟩,by omega⟩
 ·have:=List.any_eq_false.1 h2 (v:Int) (List.mem_map.2 ⟨v,hv,rfl⟩)
  have:=rN (T:=S.T) (x:=(v:Int)) (by simpa using this) (by omega)
  simp at this
  omega
 ·have hb:∀y∈iT S.D S.fr g,fX S.T y=false:=fun y hy=>by
   have:=List.any_eq_false.1 h3 g hg
   unfold jr at this
   have:=List.any_eq_false.1 (by simpa using this) y hy
   simpa using this
  have gw:=h.gw g hg
  by_cases hs:g.sg.toList=[]
  ·have hr:=gw.r0 hs
   have hz:g.z= -1:=by
    by_cases ho:g.op.toList=[]
    ·exact gw.z0 ho
    ·have:=gw.oe ho;rw[hs]at this;cases this
   have n7:x=(g.l:Int):=by
    rcases hx with q | q | q
    ·exact q
    ·exact absurd (q.trans hr) hne
    ·exact absurd (q.trans hz) hne
   rw[n7]
   have e0:((g.l:Int)).toNat=g.l:=by simp
   rw[e0]
   have hf:=h.mc.ok.lt gw.ll
   obtain⟨d,hd,zM,Eg,MP,p6⟩:=(⟨h.mc.st,h.mc.ok,h.to,h.ar,Nat.le_refl _⟩:gA w w.heap.size mb 1 _ 91 S.D nO nC S.fr S.T _).node gw.ll
   obtain⟨tx,us,bj⟩:=gw.nm hs
   have fo:d.k≠1:=fun q=>by rw[MP q]at bj;cases bj
   obtain⟨lk,ltx,lnum,dS,hT⟩:=p6 fo
   rw[hT,Za.size]
   have xR:iT S.D S.fr g=d.args.map fun n:Nat=>(n:Int):=by
    unfold iT
    rw[if_pos hs,hd]
    rfl
   have Ho:d.args.length≤3:=by
    rcases zM.ks with q | q | q
    ·rw[(zM.v q).2.2.2];simp
    ·rw[(zM.m q).2.2];simp
    ·exact(zM.c q).2.2
   have key:∀(ns:List Nat),(∀n∈ns,Za.size (S.T n)≤40)→Za.sizeL (ns.map S.T)≤ns.length*40:=by
    intro ns
    induction ns with
    | nil=>intro _;simp[Za.sizeL]
    | cons n ns ih=>
     intro hn
     have h1:=hn n (by simp)
     have h2:=ih (fun m hm=>hn m (by simp[hm]))
     rw[List.map_cons,Za.sizeL,List.length_cons]
     omega
   have:=key d.args (fun n hn=>by
    have:=rN (T:=S.T) (x:=(n:Int)) (hb _ (by rw[xR];exact List.mem_map.2 ⟨n,hn,rfl⟩)) (by omega)
    simpa using this)
   omega
  ·have xR:iT S.D S.fr g=[(g.l:Int),g.r,g.z]:=by unfold iT;rw[if_neg hs]
   have:=rN (T:=S.T) (x:=x) (hb x (by rw[xR];rcases hx with q | q | q<;>simp[q])) hne
   omega
theorem dY.start {P:Nat→Prop} {w1 w3:World} {mb cb:Nat} {cls:List Za.aL} {clo:Option Addr} {clc:Nat} {TT:Nat→Za.U} {N:List (List UInt8)} {items:List Za.aH} {E:List Ng} {F:List Nat} {no':Option Addr} {nc':Nat} {vo':Option Addr} {vc':Nat} {T':Nat→Za.U} {Gn:List Gl} {po':Option Addr} {pc':Nat} (h:Ce P w1 mb (qj clo cls.length clc none 0 0 none 0 0 none 0 0 none 0 0 0) cb [] [] none none id TT [] none N [] items E F no' nc' vo' vc' T' Gn po' pc' w3) (gf:dh w3 clo cls.length cls) (dK:∀x∈items,Za.i7 x):
 dY (w3.setCell ⟨mb,2,none⟩ (.slice vo' F.length vc')) mb cls clo clc F vo' vc' [] none 0 ⟨E,id,T',Gn⟩ no' nc' po' pc':=by
 have ms:=h.ms
 have mc:=h.mc
 simp only[List.nil_append]at ms mc
 have hblk:=aA mc.st.blk 2 (.slice vo' F.length vc')
 have kT:∀{k:Nat} {ys:Array Value} {Y:TypeId},w3.heap[k]?=some (.cells ys Y (0,0))→Y≠91→(w3.setCell ⟨mb,2,none⟩ (.slice vo' F.length vc')).heap[k]?=w3.heap[k]?:=fun {k ys Y} hk h1=>aJ _ _ _ _ (fun e=>by
  rw[e,mc.st.blk]at hk
  simp only[Option.some.injEq,Obj.cells.injEq]at hk
  exact h1 hk.2.1.symm)
 have kR:∀{b n cap sz:Nat} {Y:TypeId} {o:Option Addr} {zs:List Value},w3.ownsRow b Y sz (.slice o n cap) n zs→Y≠91→(w3.setCell ⟨mb,2,none⟩ (.slice vo' F.length vc')).ownsRow b Y sz (.slice o n cap) n zs:=fun {b n cap sz Y o zs} ho h1=>ai ho fun k q=>by
  obtain⟨cur,hc⟩:=aK ho (aI q)
  exact kT hc h1
 have tT:=h.gl.length
 refine⟨⟨⟨hblk,rfl,kR mc.st.own (by decide),mc.st.ty⟩,mc.ok,rfl,kR mc.pool (by decide),fun g hg=>kR (mc.nds g hg) (by decide),mc.nlt,mc.nl⟩,ms.to,ms.ad.args.keep fun g _ _ hg=>⟨(kT hg (by decide)).trans hg,fun⟨_,q,_⟩=>by cases q⟩,kR ms.ad.sc.own (by decide),ms.lt,World.ownsRow_nil _ _ _ _,(fun k ⟨_,q,_⟩=>by cases q),(fun g _ k _ ⟨_,q,_⟩=>by cases q),?_,?_,fun g hg=> ?_,?_⟩
 ·exact(show eG w3 _ from fun k ys Y hk hY=>(kT hk (by rcases hY with e | e | e<;>(rw[e];decide))).trans hk).cls gf
 ·have:=h.nd.val (D:=[]) (fun d hd=>by cases hd)
  simpa using this
 ·change g∈Gn at hg
  obtain⟨j,hj,rfl⟩:=List.getElem_of_mem hg
  have:=(h.gl.at j (by omega) hj).gw (dK _ (List.getElem_mem (by omega)))
  simpa using this
 ·have:=h.nd.Eh (D:=[]) (fun d hd=>by cases hd)
  simpa using this
def qE (w:World) (so:Option Addr) (script:List (Int×Int)):Prop:=script≠[]→∃g off,so=some ⟨g,off,none⟩∧g<w.heap.size∧∀(i:Nat) (h:i<script.length),w.cell? ⟨g,off+i*2,none⟩=some (.int .i64 script[i].1)∧w.cell? ⟨g,off+i*2+1,none⟩=some (.int .i64 script[i].2)
structure CI (N:List (List UInt8)) (items:List Za.aH) (F:List Nat) (S:cq):Prop where
 fr:S.fr=id
 nd:dJ 0 S.D
 nv:fF 0 S.D F
 ln:F.length=(Za.aD [] items).length
 lt:∀v∈F,v<S.D.length
 sto:Za.dG (aX S.D) S.fr S.T
 ok:b6 S.D S.fr
 gl:bR (mH S.T S.D.length (cQ S.T F N)) items S.G
def ui (cls:List Za.aL) (F:List Nat) (script:List (Int×Int)) (S0:cq) (b:Nat) (e:Ending) (w':World):Prop:=
 ∃(j:Nat) (S:cq) (L:List Int) (lo:Option Addr) (lc:Nat),yE cls F script S0 j S L∧
  ((((j=script.length∨cE S.fr S.G S.G.length=[])∧∃(xo:Option Addr) (xc:Nat) (go:Option Addr) (gc:Nat) (yo:Option Addr) (yc:Nat),e= .returned (.agg #[.int .i64 (gJ S.fr S.G),.slice lo L.length lc,.slice xo F.length xc,.slice go S.G.length gc,.slice yo S.G.length yc])∧w'.ownsRow b 3 1 (.slice lo L.length lc) L.length (L.map fU)∧w'.ownsRow b 9 1 (.slice xo F.length xc) F.length ((eP S.T F).1.map iB)∧w'.ownsRow b 9 1 (.slice go S.G.length gc) S.G.length ((kE S.T (eP S.T F).2 S.G).1.map iB)∧w'.ownsRow b 4 1 (.slice yo S.G.length yc) S.G.length (S.G.map fun g=> .bool (!gh S.fr g))∧(∀k,rowOf xo k→¬rowOf go k)))∨
   (∃(pg pc:Int) (i:Nat) (en z:Int),script[j]?=some (pg,pc)∧(cE S.fr S.G S.G.length)[dL pg (cE S.fr S.G S.G.length).length]?=some i∧((Jd cls S i pc en∧(en=4∨en=5)∧z= -2)∨(en=6∧∃S',Cn cls S S' i pc z∧mU F S'=true))∧e= .returned (.agg #[.int .i64 en,.slice lo (L++[z]).length lc,.slice none 0 0,.slice none 0 0,.slice none 0 0])∧w'.ownsRow b 3 1 (.slice lo (L++[z]).length lc) (L++[z]).length ((L++[z]).map fU)))
structure QS (w:World) (cls:List Za.aL) (clo:Option Addr) (clc:Nat) (F:List Nat) (vo:Option Addr) (vc:Nat) (script:List (Int×Int)) (S0:cq) (j:Nat) (S:cq) (L:List Int) (lo:Option Addr) (lc:Nat) (nO:Option Addr) (nC:Nat) (po:Option Addr) (pc:Nat) (wr:World):Prop where
 ru:yE cls F script S0 j S L
 ma:dY wr (w.heap.size+1) cls clo clc F vo vc L lo lc S nO nC po pc
 sm:Rx F S
 gl:S.G.length≤100
 ll:L.length=j
 dl:S.D.length≤200000+j*1100000
 be:Below w.heap.size w wr
 rw_:∀k,(rowOf nO k∨rowOf po k∨rowOf lo k)→w.heap.size≤k
 zb:wr.heap[w.heap.size]?=some (.cells #[.int .i64 0,.slice none 0 0,.slice none 0 0,.slice none 0 0,.slice none 0 0] 32 (0,0))
def UE (w:World) (cls:List Za.aL) (clo:Option Addr) (clc:Nat) (F:List Nat) (vo:Option Addr) (vc:Nat) (script:List (Int×Int)) (S0:cq) (k:Nat) (iv:Value) (wr:World):Prop:=
 ∃(j:Nat) (S:cq) (L:List Int) (lo:Option Addr) (lc:Nat) (nO:Option Addr) (nC:Nat) (po:Option Addr) (pc:Nat),k+j=script.length∧iv= .int .i64 (j:Int)∧QS w cls clo clc F vo vc script S0 j S L lo lc nO nC po pc wr
theorem QS.below {w:World} {cls:List Za.aL} {clo:Option Addr} {clc:Nat} {F:List Nat} {vo:Option Addr} {vc:Nat} {script:List (Int×Int)} {S0:cq} {j:Nat} {S:cq} {L:List Int} {lo:Option Addr} {lc:Nat} {nO:Option Addr} {nC:Nat} {po:Option Addr} {pc:Nat} {wr w':World} (h:QS w cls clo clc F vo vc script S0 j S L lo lc nO nC po pc wr) (hb:Below wr.heap.size wr w'):QS w cls clo clc F vo vc script S0 j S L lo lc nO nC po pc w':=
 ⟨h.ru,h.ma.below hb,h.sm,h.gl,h.ll,h.dl,h.be.trans (hb.mono h.be.size),h.rw_,(hb.block _ (ag h.zb)).trans h.zb⟩
theorem sto_empty:Za.dG (aX []) id (fun n=> .v ([],n)):=by
 have hg:∀n,Za.gl (aX []) n=none:=fun n=>rfl
 have ha:∀n,Za.ga (aX []) n=[]:=fun n=>rfl
 exact⟨⟨fun _=>rfl,fun n hn=>absurd (hg n) hn⟩,⟨fun n hn=>absurd (hg n) hn,fun n hn=>absurd (hg n) hn⟩,fun n=> .var (hg n) (ha n),fun n _=>ha n,fun n _=>Nat.le_refl _⟩
theorem okD_empty:b6 [] id:=⟨fun _ hn=>absurd hn (Nat.not_lt_zero _),fun _ hn=>absurd hn (Nat.not_lt_zero _),fun _ _=>rfl⟩
end Go.Proofs.YthfjnfcekeknlaaGreatDoor
namespace Za
open Go.Proofs.YthfjnfcekeknlaaGreatDoor (dX dL gY)
def MG.ren (r:Nat→Nat) (g:MG):MG:=⟨bl r g.a,g.sg,bl r g.b,g.op,bl r g.c,g.wt,fun w=>∃v,g.on v∧r v=w⟩
structure qW (P:Nat→Prop) (g:MG):Prop where
 a:bE (PQ P) g.a
 b:bE (PQ P) g.b
 c:bE (PQ P) g.c
 on:∀v,g.on v→P v
structure eQ (r:Nat→Nat) (P:Nat→Prop) (S S':MS):Prop where
 mono:∀i j,P i→P j→i<j→r i<r j
 l1:∀k,P k→k<S.lim
 l2:∀k,P k→r k<S'.lim
 wv:∀u∈S.vs,bE (PQ P) u
 wg:∀g∈S.gs,qW P g
 vs:S'.vs=S.vs.map (bl r)
 gs:S'.gs=S.gs.map (MG.ren r)
def pI (r:Nat→Nat) (P:Nat→Prop):Prop:=∀i j,P i→P j→i<j→r i<r j
theorem pI.inj {r:Nat→Nat} {P:Nat→Prop} (h:pI r P):gZ r P:=fun i j hi hj e=>by
 rcases Nat.lt_trichotomy i j with q | q | q
 ·have:=h i j hi hj q;omega
 ·exact q
 ·have:=h j i hj hi q;omega
theorem ek.rn {r:Nat→Nat} {P:Nat→Prop} (hm:pI r P) {a b:U} {σ τ:Vr→U} (h:ek a b σ) (k:ek (bl r a) (bl r b) τ) (ha:bE (PQ P) a) (hb:bE (PQ P) b) {u:U} (hu:bE (PQ P) u):sub τ (bl r u)=bl r (sub σ u):=
 h.ren (ρ:=Za.rn r) (Q:=PQ P) (fun x y hx hy e=>hm.inj.on x y hx hy e) (fun x y hx hy _ hl=>⟨rfl,by
  show r y.2≤r x.2
  rcases Nat.lt_or_eq_of_le hl with q | q
  ·exact Nat.le_of_lt (hm _ _ hy.2 hx.2 q)
  ·rw[q];exact Nat.le_refl _⟩) ((eZ a).1 ha) ((eZ b).1 hb) k u ((eZ u).1 hu)
theorem ek.uk {Q:Vr→Prop} {a b:U} {σ:Vr→U} (h:ek a b σ) (ha:bE Q a) (hb:bE Q b) {u:U} (hu:bE Q u):bE Q (sub σ u):=by
 induction hu with
 | @v x hx=>
  refine(eZ _).2 fun z hz=> ?_
  rcases h.vars hz with q | q | q
  ·rw[q];exact hx
  ·exact(eZ a).1 ha z q
  ·exact(eZ b).1 hb z q
 | @n k tx num ss hs ih=>
  rw[dR]
  refine .n fun u hu=> ?_
  obtain⟨s,hs',rfl⟩:=List.mem_map.1 hu
  exact ih s hs'
theorem Er {r:Nat→Nat} {P:Nat→Prop} (hm:pI r P) {a b:U} {σ τ:Vr→U} (h:ek a b σ) (k:ek (bl r a) (bl r b) τ) (ha:bE (PQ P) a) (hb:bE (PQ P) b) {g:MG} (hg:qW P g):MG.put τ (MG.ren r g)=MG.ren r (MG.put σ g)∧qW P (MG.put σ g):=by
 have hs:(MG.ren r g).stays τ↔g.stays σ:=by
  refine⟨fun q=>⟨q.1,fun v hv=> ?_⟩,fun q=>⟨q.1,fun w hw=> ?_⟩⟩
  ·have e:τ ([],r v)= .v ([],r v):=q.2 (r v) ⟨v,hv,rfl⟩
   have e2:τ ([],r v)=bl r (σ ([],v)):=h.rn hm k ha hb (u:= .v ([],v)) (.v ⟨rfl,hg.on v hv⟩)
   rw[e]at e2
   have uf:bE (PQ P) (σ ([],v)):=h.uk ha hb (u:= .v ([],v)) (.v ⟨rfl,hg.on v hv⟩)
   generalize σ ([],v)=s at e2 uf
   cases s with
   | n kk tx num ss=>rw[fS]at e2;cases e2
   | v z=>
    rw[ql]at e2
    injection e2 with e2
    injection e2 with _ e2
    have:=hm.inj _ _ (hg.on v hv) uf.var.2 e2
    congr 1
    exact Prod.ext uf.var.1 this.symm
  ·obtain⟨v,hv,rfl⟩:=hw
   have e2:τ ([],r v)=bl r (σ ([],v)):=h.rn hm k ha hb (u:= .v ([],v)) (.v ⟨rfl,hg.on v hv⟩)
   rw[e2,q.2 v hv]
   rfl
 refine⟨?_,⟨h.uk ha hb hg.a,h.uk ha hb hg.b,h.uk ha hb hg.c,fun v hv=>hg.on v hv.2⟩⟩
 unfold MG.put
 have e1:(MG.ren r g).a=bl r g.a:=rfl
 have e2:(MG.ren r g).b=bl r g.b:=rfl
 have e3:(MG.ren r g).c=bl r g.c:=rfl
 rw[e1,e2,e3,h.rn hm k ha hb hg.a,h.rn hm k ha hb hg.b,h.rn hm k ha hb hg.c]
 unfold MG.ren at hs⊢
 dsimp only at hs⊢
 congr 1
 ·exact decide_eq_decide.2 hs
 ·funext w
  apply propext
  constructor
  ·rintro⟨q1,v,q2,q3⟩
   exact⟨v,⟨hs.1 q1,q2⟩,q3⟩
  ·rintro⟨v,⟨q1,q2⟩,q3⟩
   exact⟨hs.2 q1,v,q2,q3⟩
theorem Es {r:Nat→Nat} {P:Nat→Prop} (hi:gZ r P) {a b:U} (ha:bE (PQ P) a) (hb:bE (PQ P) b) (h:∀θ,sub θ (bl r a)≠sub θ (bl r b)):∀θ,sub θ a≠sub θ b:=by
 classical
 refine OU (ρ:=Za.rn r) (ρ':=fun w=>if q:∃v,PQ P v∧Za.rn r v=w then Classical.choose q else w) (fun v hv=> ?_) h
 have hp:PQ P v:=by
  rcases hv with q | q
  ·exact(eZ a).1 ha v q
  ·exact(eZ b).1 hb v q
 have q:∃z,PQ P z∧Za.rn r z=Za.rn r v:=⟨v,hp,rfl⟩
 rw[dif_pos q]
 exact hi.on _ _ (Classical.choose_spec q).1 hp (Classical.choose_spec q).2
theorem LX {r:Nat→Nat} {a b:U} (h:∀θ,sub θ a≠sub θ b):∀θ,sub θ (bl r a)≠sub θ (bl r b):=fun θ e=>by
 unfold bl at e
 rw[sub_sub,sub_sub]at e
 exact h _ e
theorem tW.parts {x:aH} (h:tW x) (ns:List (List UInt8)):∀t,(t=x.left∨x.right=some t∨x.last=some t)→wfK 8 t∧∃ns',∀y∈namesF 8 ns' t,y∈aQ ns x:=fun t ht=>by
 have hO:∀(t:Option Tm) (ns:List (List UInt8)),∀y∈ns,y∈cG ns t:=fun t ns y hy=>by
  cases t with
  | none=>exact hy
  | some r=>
   obtain⟨K,hK⟩:=namesV_ext 8 r ns
   show y∈namesF 8 ns r
   rw[hK];exact List.mem_append_left _ hy
 rcases ht with q | q | q
 ·subst q;exact⟨h.wl,ns,fun y hy=>hO _ _ y (hO _ _ y hy)⟩
 ·refine⟨?_,namesF 8 ns x.left,fun y hy=>hO _ _ y (by rw[q];exact hy)⟩
  by_cases e:x.sign=[]
  ·rw[h.r0 e]at q;cases q
  ·obtain⟨r,h1,h2⟩:=h.r1 e
   rw[h1]at q;cases q;exact h2
 ·refine⟨?_,cG (namesF 8 ns x.left) x.right,fun y hy=>by unfold aQ;rw[q];exact hy⟩
  by_cases e:x.op=[]
  ·rw[h.z0 e]at q;cases q
  ·obtain⟨r,h1,h2⟩:=h.z1 e
   rw[h1]at q;cases q;exact h2
theorem Jo {r:Nat→Nat} {η θ:List UInt8→U} {x:aH} (h:tW x) (ns:List (List UInt8)) (hy:∀y∈aQ ns x,θ y=bl r (η y)):MG.of θ x=MG.ren r (MG.of η x):=by
 have hp:∀t,(t=x.left∨x.right=some t∨x.last=some t)→bJ θ 8 t=bl r (bJ η 8 t):=fun t ht=>by
  obtain⟨h1,ns',h2⟩:=h.parts ns t ht
  rw[ik (θ:=fun y=>bl r (η y)) 8 t ns' h1 (fun y q=>hy y (h2 y q)),uR r η 8 t h1]
 unfold MG.of MG.ren
 dsimp only
 rw[hp x.left (Or.inl rfl)]
 congr 1
 ·cases e:x.right with
  | none=>exact(Gc r).symm
  | some t=>exact hp t (Or.inr (Or.inl e))
 ·cases e:x.last with
  | none=>exact(Gc r).symm
  | some t=>exact hp t (Or.inr (Or.inr e))
 ·funext w
  apply propext
  constructor
  ·intro q;exact q.elim
  ·rintro⟨_,q,_⟩;exact q.elim
theorem MX {P:Nat→Prop} {η:List UInt8→U} {x:aH} (h:tW x) (ns:List (List UInt8)) (hy:∀y∈aQ ns x,bE (PQ P) (η y)):qW P (MG.of η x):=by
 have hp:∀t,(t=x.left∨x.right=some t∨x.last=some t)→bE (PQ P) (bJ η 8 t):=fun t ht=>by
  obtain⟨h1,ns',h2⟩:=h.parts ns t ht
  exact pC 8 t ns' h1 fun y q=>hy y (h2 y q)
 refine⟨hp x.left (Or.inl rfl),?_,?_,fun v q=>q.elim⟩
 ·show bE (PQ P) (x.right.elim zU (bJ η 8))
  cases e:x.right with
  | none=>exact Gd _
  | some t=>exact hp t (Or.inr (Or.inl e))
 ·show bE (PQ P) (x.last.elim zU (bJ η 8))
  cases e:x.last with
  | none=>exact Gd _
  | some t=>exact hp t (Or.inr (Or.inr e))
theorem LY {r:Nat→Nat} {P:Nat→Prop} (hm:pI r P) {l1 l2:Nat} (h1:∀k,P k→k<l1) (h2:∀k,P k→r k<l2) {F F':List Nat} (hl:F.length=F'.length) (hF:F.Pairwise (·<·)) (hF':F'.Pairwise (·<·)) (hf:∀f∈F,l1≤f) (hf':∀f∈F',l2≤f):∃r':Nat→Nat,pI r' (fun k=>P k∨k∈F)∧(∀k,P k→r' k=r k)∧(∀k,k<F.length→r' ((F[k]?).getD 0)=(F'[k]?).getD 0)∧(∀f∈F,r' f∈F'):=by
 have dC:∀i (hi:i<F.length),F.idxOf F[i]=i:=fun i hi=>by
  have hk:F.idxOf F[i]<F.length:=List.idxOf_lt_length_of_mem (List.getElem_mem hi)
  have he:F[F.idxOf F[i]]=F[i]:=List.getElem_idxOf hk
  rcases Nat.lt_trichotomy (F.idxOf F[i]) i with q | q | q
  ·have:=List.pairwise_iff_getElem.1 hF _ _ hk hi q;omega
  ·exact q
  ·have:=List.pairwise_iff_getElem.1 hF _ _ hi hk q;omega
 refine⟨fun k=>if k<l1 then r k else(F'[F.idxOf k]?).getD 0,?_,fun k hk=>if_pos (h1 k hk),fun k hk=> ?_,fun f XP=> ?_⟩
 ·have hat:∀i (hi:i<F.length),(if F[i]<l1 then r F[i]else(F'[F.idxOf F[i]]?).getD 0)=F'[i]'(by omega):=fun i hi=>by
   have:=hf _ (List.getElem_mem hi)
   rw[if_neg (by omega),dC i hi,List.getElem?_eq_getElem (by omega)]
   rfl
  intro i j hi hj Jp
  dsimp only
  rcases hi with hi | hi<;>rcases hj with hj | hj
  ·rw[if_pos (h1 i hi),if_pos (h1 j hj)];exact hm i j hi hj Jp
  ·obtain⟨b,hb,rfl⟩:=List.getElem_of_mem hj
   rw[hat b hb,if_pos (h1 i hi)]
   have:=h2 i hi
   have:=hf' _ (List.getElem_mem (show b<F'.length by omega))
   omega
  ·have:=hf i hi
   have:=h1 j hj
   omega
  ·obtain⟨a,ha,rfl⟩:=List.getElem_of_mem hi
   obtain⟨b,hb,rfl⟩:=List.getElem_of_mem hj
   rw[hat a ha,hat b hb]
   have:a<b:=by
    rcases Nat.lt_trichotomy a b with q | q | q
    ·exact q
    ·subst q;omega
    ·have:=List.pairwise_iff_getElem.1 hF _ _ hb ha q;omega
   exact List.pairwise_iff_getElem.1 hF' _ _ _ _ this
 ·have nJ:=hf _ (List.getElem_mem hk)
  rw[List.getElem?_eq_getElem hk]
  dsimp only[Option.getD_some]
  rw[if_neg (by omega),dC k hk]
 ·obtain⟨a,ha,rfl⟩:=List.getElem_of_mem XP
  have:=hf _ (List.getElem_mem ha)
  dsimp only
  rw[if_neg (by omega),dC a ha,List.getElem?_eq_getElem (by omega)]
  exact List.getElem_mem _
theorem MG.Jq {r r':Nat→Nat} {P:Nat→Prop} (h:∀k,P k→r' k=r k) {g:MG} (hg:qW P g):MG.ren r' g=MG.ren r g:=by
 unfold MG.ren
 rw[lN h hg.a,lN h hg.b,lN h hg.c]
 congr 1
 funext w
 apply propext
 constructor
 ·rintro⟨v,q1,q2⟩;exact⟨v,q1,by rw[←h v (hg.on v q1)];exact q2⟩
 ·rintro⟨v,q1,q2⟩;exact⟨v,q1,by rw[h v (hg.on v q1)];exact q2⟩
theorem qW.mono {P P':Nat→Prop} (h:∀k,P k→P' k) {g:MG} (hg:qW P g):qW P' g:=⟨hg.a.mono fun _ hx=>⟨hx.1,h _ hx.2⟩,hg.b.mono fun _ hx=>⟨hx.1,h _ hx.2⟩,hg.c.mono fun _ hx=>⟨hx.1,h _ hx.2⟩,fun v hv=>h v (hg.on v hv)⟩
theorem iX {α β:Type} (f:α→β):∀(l:List α) (i:Nat),(l.map f).eraseIdx i=(l.eraseIdx i).map f
 | [],_=>by simp
 | a :: l,0=>by simp
 | a :: l,i+1=>by simp[iX f l i]
section
variable {cls:List aL} {r:Nat→Nat} {P:Nat→Prop} {S S':MS}
theorem eQ.at {i:Nat} {g g':MG} (h:eQ r P S S') (hg:S.gs[i]?=some g) (oX:S'.gs[i]?=some g'):g'=MG.ren r g∧qW P g:=by
 rw[h.gs,List.getElem?_map,hg]at oX
 exact⟨(Option.some.inj oX).symm,h.wg g (List.mem_of_getElem? hg)⟩
theorem oJ.same {g:MG} {p:Int} {n n':Nat} {a a':Nat→Nat} (h:oJ cls g p n a) (k:oJ cls (MG.ren r g) p n' a'):n'=n∧a'=a:=by
 obtain⟨_,tx,us,h1,_,h2,h3⟩:=h
 obtain⟨_,tx',us',k1,_,k2,k3⟩:=k
 have:bl r g.a= .n 1 tx' 0 us':=k1
 rw[h1,fS]at this
 injection this with _ e1 _ e2
 subst e1 e2
 rw[List.length_map]at k2 k3
 have en:n'=n:=k2.trans h2.symm
 subst en
 exact⟨rfl,k3.trans h3.symm⟩
theorem oJ.back {g:MG} {p:Int} {n':Nat} {a':Nat→Nat} (k:oJ cls (MG.ren r g) p n' a'):oJ cls g p n' a':=by
 obtain⟨k0,tx,us,k1,k2,k3,k4⟩:=k
 have k1':bl r g.a= .n 1 tx 0 us:=k1
 refine⟨k0,?_⟩
 cases hg:g.a with
 | v x=>rw[hg,ql]at k1';cases k1'
 | n kk tx' num ss=>
  rw[hg,fS]at k1'
  injection k1' with e1 e2 e3 e4
  subst e1 e2 e3 e4
  rw[List.length_map]at k3 k4
  exact⟨tx',ss,rfl,fun q=>k2 ⟨q.1,by rw[q.2];rfl⟩,k3,k4⟩
theorem eQ.um (h:eQ r P S S') (aF:∀c∈cls,jK c) {g:MG} (hg:qW P g) {i:Nat} {c:aL} (hc:cls[i]?=some c):(bY S'.lim (bl r g.a) c).1=(bY S.lim g.a c).1∧(bY S'.lim (bl r g.a) c).2=(bY S.lim g.a c).2.map r∧∀v∈(bY S.lim g.a c).2,P v:=Cy (pI.inj h.mono) h.l1 h.l2 hg.a (aF c (List.mem_of_getElem? hc)).ts
theorem eQ.Ry {S1 S1':MS} (h:eQ r P S S') (hl:S.lim≤S1.lim) (hl':S'.lim≤S1'.lim) {a b:U} {σ τ:Vr→U} (hs:ek a b σ) (ht:ek (bl r a) (bl r b) τ) (ha:bE (PQ P) a) (hb:bE (PQ P) b) {i:Nat} (v1:S1.vs=S.vs.map (sub σ)) (g1:S1.gs=(S.gs.eraseIdx i).map (MG.put σ)) (v2:S1'.vs=S'.vs.map (sub τ)) (g2:S1'.gs=(S'.gs.eraseIdx i).map (MG.put τ)):eQ r P S1 S1':=by
 refine⟨h.mono,fun k hk=>Nat.lt_of_lt_of_le (h.l1 k hk) hl,fun k hk=>Nat.lt_of_lt_of_le (h.l2 k hk) hl',fun u hu=> ?_,fun g hg=> ?_,?_,?_⟩
 ·rw[v1]at hu
  obtain⟨w,hw,rfl⟩:=List.mem_map.1 hu
  exact hs.uk ha hb (h.wv w hw)
 ·rw[g1]at hg
  obtain⟨w,hw,rfl⟩:=List.mem_map.1 hg
  exact(Er h.mono hs ht ha hb (h.wg w (List.mem_of_mem_eraseIdx hw))).2
 ·rw[v2,v1,h.vs,List.map_map,List.map_map]
  exact List.map_congr_left fun u hu=>hs.rn h.mono ht ha hb (h.wv u hu)
 ·rw[g2,g1,h.gs,iX,List.map_map,List.map_map]
  exact List.map_congr_left fun u hu=>(Er h.mono hs ht ha hb (h.wg u (List.mem_of_mem_eraseIdx hu))).1
theorem eQ.Rz {S1 S1':MS} (h:eQ r P S S') (hl:S.lim≤S1.lim) (hl':S'.lim≤S1'.lim) {i:Nat} {g g':MG} (hw:qW P g) (he:g'=MG.ren r g) (v1:S1.vs=S.vs) (g1:S1.gs=S.gs.set i g) (v2:S1'.vs=S'.vs) (g2:S1'.gs=S'.gs.set i g'):eQ r P S1 S1':=by
 refine⟨h.mono,fun k hk=>Nat.lt_of_lt_of_le (h.l1 k hk) hl,fun k hk=>Nat.lt_of_lt_of_le (h.l2 k hk) hl',by rw[v1];exact h.wv,fun x hx=> ?_,by rw[v2,v1];exact h.vs,by rw[g2,g1,h.gs,he,List.map_set]⟩
 rw[g1]at hx
 rcases List.mem_or_eq_of_mem_set hx with q | q
 ·exact h.wg x q
 ·rw[q];exact hw
theorem oO {g:MG} (hm:gZ r P) (hg:qW P g):(dZ (MG.ren r g).op (MG.ren r g).b (MG.ren r g).c).wt=(dZ g.op g.b g.c).wt.map r∧∀v∈(dZ g.op g.b g.c).wt,P v:=by
 have:=Oc hm g.op hg.b (fun _=>hg.c)
 refine⟨by show (dZ g.op (bl r g.b) (bl r g.c)).wt=_;rw[this];rfl,?_⟩
 have uf:(dZ g.op g.b g.c).fh (PQ P):=by
  unfold dZ
  split
  ·exact(dF _).bP hg.b
  ·exact((dF _).bP hg.b).bP hg.c
 exact uf.at
theorem eQ.step (h:eQ r P S S') (aF:∀c∈cls,jK c) {S1 S1':MS} {i:Nat} {p z z':Int} (hs:kV cls S S1 i p z) (ht:kV cls S' S1' i p z'):z'=z∧∃r' P',eQ r' P' S1 S1':=by
 obtain⟨hl,g,hg,hs⟩:=hs
 obtain⟨hl',g',oX,ht⟩:=ht
 obtain⟨rfl,hw⟩:=h.at hg oX
 have e0:(MG.ren r g).sg=g.sg:=rfl
 have hi:=pI.inj h.mono
 rcases hs with⟨s1,rfl,σ,s2,s3,s4⟩ | ⟨s1,rfl,s2,s3,s4⟩ | ⟨s1,rfl,s2,x,σ,s3,s4,s5,s6⟩ | ⟨s1,rfl,s2,s3,s4⟩ | ⟨n,a,s1,t,c,F,s2,s3,s4,s5,rfl,s6,s7,s8,s9,s10⟩ | ⟨n,a,s1,rfl,s2,s3,s4,s5⟩
 ·rcases ht with⟨t1,rfl,τ,t2,t3,t4⟩ | ⟨t1,_⟩ | ⟨t1,_⟩ | ⟨t1,_⟩ | ⟨n',a',⟨t1,_⟩,_⟩ | ⟨n',a',⟨t1,_⟩,_⟩
  ·exact⟨rfl,r,P,h.Ry hl hl' s2 t2 hw.a hw.b s3 s4 t3 t4⟩
  all_goals (rw[e0,s1]at t1;cases t1)
 ·rcases ht with⟨t1,_⟩ | ⟨t1,rfl,t2,t3,t4⟩ | ⟨t1,_,t2,_⟩ | ⟨t1,_⟩ | ⟨n',a',⟨t1,_⟩,_⟩ | ⟨n',a',⟨t1,_⟩,_⟩
  ·rw[e0,s1]at t1;cases t1
  ·refine⟨rfl,r,P,h.Rz hl hl' ?_ ?_ s3 s4 t3 t4⟩
   ·exact⟨hw.a,hw.b,hw.c,(oO hi hw).2⟩
   ·unfold MG.ren
    dsimp only
    congr 1
    funext w
    apply propext
    have:=(oO hi hw).1
    unfold MG.ren at this
    dsimp only at this
    rw[this,List.mem_map]
  ·exfalso
   rw[(oO hi hw).1]at t2
   exact s2 (List.map_eq_nil_iff.1 t2)
  all_goals (rw[e0,s1]at t1;cases t1)
 ·rcases ht with⟨t1,_⟩ | ⟨t1,rfl,t2,_⟩ | ⟨t1,rfl,t2,x',τ,t3,t4,t5,t6⟩ | ⟨t1,_⟩ | ⟨n',a',⟨t1,_⟩,_⟩ | ⟨n',a',⟨t1,_⟩,_⟩
  ·rw[e0,s1]at t1;cases t1
  ·exfalso
   rw[(oO hi hw).1,s2]at t2
   exact t2 rfl
  ·have ev:dX g.op (bl r g.b) (bl r g.c)=some x':=t3
   rw[rH,s3]at ev
   cases ev
   exact⟨rfl,r,P,h.Ry hl hl' s4 (by rw[fS];exact t4) hw.a (.n fun a ha=>by cases ha) s5 s6 t5 t6⟩
  all_goals (rw[e0,s1]at t1;cases t1)
 ·rcases ht with⟨t1,_⟩ | ⟨t1,_⟩ | ⟨t1,_⟩ | ⟨t1,rfl,t2,t3,t4⟩ | ⟨n',a',t1,_⟩ | ⟨n',a',t1,_⟩
  ·rw[e0,s1]at t1;cases t1
  ·rw[e0,s1]at t1;cases t1
  ·rw[e0,s1]at t1;cases t1
  ·refine⟨rfl,r,P,⟨h.mono,fun k hk=>Nat.lt_of_lt_of_le (h.l1 k hk) hl,fun k hk=>Nat.lt_of_lt_of_le (h.l2 k hk) hl',by rw[s3];exact h.wv,fun x hx=> ?_,by rw[t3,s3];exact h.vs,by rw[t4,s4,h.gs,iX]⟩⟩
   rw[s4]at hx
   exact h.wg x (List.mem_of_mem_eraseIdx hx)
  all_goals
   obtain⟨_,tx,us,t2,t3,_⟩:=t1.back
   rw[s2]at t2
   injection t2 with _ e1 _ e2
   exact absurd ⟨e1.symm,e2.symm⟩ t3
 ·rcases ht with⟨t1,_⟩ | ⟨t1,_⟩ | ⟨t1,_⟩ | ⟨t1,_,t2,_⟩ | ⟨n',a',t1,t',c',F',t2,t3,t4,t5,rfl,t6,t7,t8,t9,t10⟩ | ⟨n',a',t1,_,t2,_⟩
  ·rw[e0,s1.1]at t1;cases t1
  ·rw[e0,s1.1]at t1;cases t1
  ·rw[e0,s1.1]at t1;cases t1
  ·exfalso
   obtain⟨_,tx,us,q2,q3,_⟩:=s1
   have t2':bl r g.a= .n 1 [116,114,117,101] 0 []:=t2
   rw[q2,fS]at t2'
   injection t2' with _ e1 _ e2
   exact q3 ⟨e1,List.map_eq_nil_iff.1 e2⟩
  ·obtain⟨rfl,rfl⟩:=s1.same t1
   have et:t'=t:=by
    rcases Nat.lt_trichotomy t' t with q | q | q
    ·have:=s3 t' c' q t4
     rw[←(h.um aF hw t4).1]at this
     exact absurd t5 this
    ·exact q
    ·have:=t3 t c q s4
     have e1:(bY S'.lim (MG.ren r g).a c).1=_:=(h.um aF hw s4).1
     rw[e1]at this
     exact absurd s5 this
   subst et
   rw[s4]at t4
   cases t4
   have hcm:=aF c (List.mem_of_getElem? s4)
   obtain⟨r',m',o1,o2,o3⟩:=LY h.mono h.l1 h.l2 (F:=F) (F':=F') (by omega) s7 t7 (fun f hf=>(s8 f hf).1) (fun f hf=>(t8 f hf).1)
   have qx:∀y∈NG c,y∉NH c→(NG c).idxOf y - (NH c).length<F.length:=fun y hy hn=>by
    have:=Gb hy hn
    omega
   have FP:∀y∈NG c,cM (bl r g.a) c (fun k=>(F'[k]?).getD 0) y=bl r' (cM g.a c (fun k=>(F[k]?).getD 0) y):=fun y hy=>wK hi o1 hw.a fun hn=>o2 _ (qx y hy hn)
   have uf:∀y∈NG c,bE (PQ fun k=>P k∨k∈F) (cM g.a c (fun k=>(F[k]?).getD 0) y):=fun y hy=>yw (fun k hk=>Or.inl hk) hw.a fun hn=>Or.inr (by
    have:=qx y hy hn
    rw[List.getElem?_eq_getElem this]
    exact List.getElem_mem _)
   refine⟨rfl,r',fun k=>P k∨k∈F,⟨m',fun k hk=> ?_,fun k hk=> ?_,fun u hu=> ?_,fun x hx=> ?_,?_,?_⟩⟩
   ·rcases hk with q | q
    ·exact Nat.lt_of_lt_of_le (h.l1 k q) hl
    ·exact(s8 k q).2
   ·rcases hk with q | q
    ·rw[o1 k q];exact Nat.lt_of_lt_of_le (h.l2 k q) hl'
    ·exact(t8 _ (o3 k q)).2
   ·rw[s9]at hu
    exact(h.wv u hu).mono fun x hx=>⟨hx.1,Or.inl hx.2⟩
   ·rw[s10]at hx
    rcases List.mem_append.1 hx with q | q
    ·exact(h.wg x (List.mem_of_mem_eraseIdx q)).mono fun k hk=>Or.inl hk
    ·obtain⟨y,hy,rfl⟩:=List.mem_map.1 q
     obtain⟨ns,hn⟩:=fx c.goals (NT c) y hy
     exact MX (hcm.gs y hy) ns fun z hz=>uf z (hn z hz)
   ·rw[t9,s9,h.vs]
    exact List.map_congr_left fun u hu=>(lN o1 (h.wv u hu)).symm
   ·rw[t10,s10,h.gs,iX,List.map_append,List.map_map]
    congr 1
    ·exact List.map_congr_left fun u hu=>(MG.Jq o1 (h.wg u (List.mem_of_mem_eraseIdx hu))).symm
    ·refine List.map_congr_left fun y hy=> ?_
     obtain⟨ns,hn⟩:=fx c.goals (NT c) y hy
     exact Jo (hcm.gs y hy) ns fun z hz=>FP z (hn z hz)
  ·exfalso
   obtain⟨rfl,rfl⟩:=s1.same t1
   have:=t2 t c s2 s4
   have e1:(bY S'.lim (MG.ren r g).a c).1=_:=(h.um aF hw s4).1
   rw[e1]at this
   exact this s5
 ·rcases ht with⟨t1,_⟩ | ⟨t1,_⟩ | ⟨t1,_⟩ | ⟨t1,_,t2,_⟩ | ⟨n',a',t1,t',c',F',t2,t3,t4,t5,_⟩ | ⟨n',a',t1,rfl,t2,t3,t4,t5⟩
  ·rw[e0,s1.1]at t1;cases t1
  ·rw[e0,s1.1]at t1;cases t1
  ·rw[e0,s1.1]at t1;cases t1
  ·exfalso
   obtain⟨_,tx,us,q2,q3,_⟩:=s1
   have t2':bl r g.a= .n 1 [116,114,117,101] 0 []:=t2
   rw[q2,fS]at t2'
   injection t2' with _ e1 _ e2
   exact q3 ⟨e1,List.map_eq_nil_iff.1 e2⟩
  ·exfalso
   obtain⟨rfl,rfl⟩:=s1.same t1
   have:=s2 t' c' t2 t4
   rw[←(h.um aF hw t4).1]at this
   exact this t5
  ·obtain⟨rfl,rfl⟩:=s1.same t1
   refine⟨rfl,r,P,h.Rz hl hl' ?_ ?_ s4 s5 t4 t5⟩
   ·refine⟨hw.a,hw.b,hw.c,fun v hv=> ?_⟩
    obtain⟨t,c,_,q2,_,q4⟩:=hv
    exact(h.um aF hw q2).2.2 v q4
   ·unfold MG.ren
    dsimp only
    congr 1
    funext w
    apply propext
    constructor
    ·rintro⟨t,c,q1,q2,q3,q4⟩
     have ha:=h.um aF hw q2
     rw[ha.1]at q3
     rw[ha.2.1]at q4
     obtain⟨v,hv,e⟩:=List.mem_map.1 q4
     exact⟨v,⟨t,c,q1,q2,q3,hv⟩,e⟩
    ·rintro⟨v,⟨t,c,q1,q2,q3,q4⟩,rfl⟩
     have ha:=h.um aF hw q2
     exact⟨t,c,q1,q2,ha.1.trans q3,by rw[ha.2.1];exact List.mem_map_of_mem q4⟩
end
end Za
namespace Za
open Go.Proofs.YthfjnfcekeknlaaGreatDoor (dX dL gY)
section
variable {cls:List aL} {r:Nat→Nat} {P:Nat→Prop} {S S':MS}
theorem eQ.MZ (h:eQ r P S S') (aF:∀c∈cls,jK c) {S1:MS} {i:Nat} {p z en:Int} (hs:kV cls S S1 i p z) (ht:Ep cls S' i p en):False:=by
 obtain⟨_,g,hg,hs⟩:=hs
 obtain⟨g',oX,ht⟩:=ht
 obtain⟨rfl,hw⟩:=h.at hg oX
 have e0:(MG.ren r g).sg=g.sg:=rfl
 have hi:=pI.inj h.mono
 rcases ht with⟨t1,_,t2⟩ | ⟨t1,t2,t3⟩ | ⟨_,n',a',t1,t2⟩
 ·rcases hs with⟨s1,_,σ,s2,_⟩ | ⟨s1,_⟩ | ⟨s1,_⟩ | ⟨s1,_⟩ | ⟨_,_,⟨s1,_⟩,_⟩ | ⟨_,_,⟨s1,_⟩,_⟩
  ·exact Es hi hw.a hw.b t2 σ s2.one
  all_goals (rw[e0,s1]at t1;cases t1)
 ·rw[(oO hi hw).1]at t2
  have t2':=List.map_eq_nil_iff.1 t2
  have ev:dX (MG.ren r g).op (MG.ren r g).b (MG.ren r g).c=dX g.op g.b g.c:=rH r g.op g.b g.c
  rw[ev]at t3
  rcases hs with⟨s1,_⟩ | ⟨s1,_,s2,_⟩ | ⟨s1,_,s2,x,σ,s3,s4,_⟩ | ⟨s1,_⟩ | ⟨_,_,⟨s1,_⟩,_⟩ | ⟨_,_,⟨s1,_⟩,_⟩
  ·rw[e0,s1]at t1;cases t1
  ·exact s2 t2'
  ·rcases t3 with⟨_,q⟩ | ⟨_,x',q1,q2⟩
   ·rw[s3]at q;cases q
   ·rw[s3]at q1
    cases q1
    refine Es hi hw.a (b:= .n 3 [] x []) (.n fun a ha=>by cases ha) (fun θ q=> ?_) σ s4.one
    rw[fS,List.map_nil,dR,List.map_nil]at q
    exact q2 θ q
  all_goals (rw[e0,s1]at t1;cases t1)
 ·rcases hs with⟨s1,_⟩ | ⟨s1,_⟩ | ⟨s1,_⟩ | ⟨s1,_,s2,_⟩ | ⟨n,a,s1,t,c,F,s2,s3,s4,s5,_⟩ | ⟨n,a,s1,_,s2,⟨t,c,s3,s4,s5⟩,_⟩
  ·have:=t1.1;rw[e0,s1]at this;cases this
  ·have:=t1.1;rw[e0,s1]at this;cases this
  ·have:=t1.1;rw[e0,s1]at this;cases this
  ·obtain⟨_,tx,us,q2,q3,_⟩:=t1.back
   rw[s2]at q2
   injection q2 with _ e1 _ e2
   exact q3 ⟨e1.symm,e2.symm⟩
  ·obtain⟨rfl,rfl⟩:=s1.same t1
   have:=t2 t c s2 s4
   have e1:(bY S'.lim (MG.ren r g).a c).1=_:=(h.um aF hw s4).1
   rw[e1,s5]at this
   cases this
  ·obtain⟨rfl,rfl⟩:=s1.same t1
   have:=t2 t c s3 s4
   have e1:(bY S'.lim (MG.ren r g).a c).1=_:=(h.um aF hw s4).1
   rw[e1,s5]at this
   cases this
theorem eQ.M0 (h:eQ r P S S') (aF:∀c∈cls,jK c) {S1:MS} {i:Nat} {p z en:Int} (ht:Ep cls S i p en) (hs:kV cls S' S1 i p z):False:=by
 obtain⟨_,g',oX,hs⟩:=hs
 obtain⟨g,hg,ht⟩:=ht
 obtain⟨rfl,hw⟩:=h.at hg oX
 have e0:(MG.ren r g).sg=g.sg:=rfl
 have hi:=pI.inj h.mono
 rcases ht with⟨t1,_,t2⟩ | ⟨t1,t2,t3⟩ | ⟨_,n',a',t1,t2⟩
 ·rcases hs with⟨s1,_,σ,s2,_⟩ | ⟨s1,_⟩ | ⟨s1,_⟩ | ⟨s1,_⟩ | ⟨_,_,⟨s1,_⟩,_⟩ | ⟨_,_,⟨s1,_⟩,_⟩
  ·exact LX t2 σ s2.one
  all_goals (rw[e0,t1]at s1;cases s1)
 ·have ew:=(oO hi hw).1
  rw[t2]at ew
  have ev:dX (MG.ren r g).op (MG.ren r g).b (MG.ren r g).c=dX g.op g.b g.c:=rH r g.op g.b g.c
  rcases hs with⟨s1,_⟩ | ⟨s1,_,s2,_⟩ | ⟨s1,_,s2,x,σ,s3,s4,_⟩ | ⟨s1,_⟩ | ⟨_,_,⟨s1,_⟩,_⟩ | ⟨_,_,⟨s1,_⟩,_⟩
  ·rw[e0,t1]at s1;cases s1
  ·exact s2 ew
  ·rw[ev]at s3
   rcases t3 with⟨_,q⟩ | ⟨_,x',q1,q2⟩
   ·rw[s3]at q;cases q
   ·rw[s3]at q1
    cases q1
    have:=s4.one
    rw[dR,List.map_nil]at this
    have e2:sub σ (bl r g.a)=sub (fun y=>sub σ (Za.ren (Za.rn r) y)) g.a:=sub_sub _ _ _
    exact q2 _ (e2.symm.trans this)
  all_goals (rw[e0,t1]at s1;cases s1)
 ·rcases hs with⟨s1,_⟩ | ⟨s1,_⟩ | ⟨s1,_⟩ | ⟨s1,_,s2,_⟩ | ⟨n,a,s1,t,c,F,s2,s3,s4,s5,_⟩ | ⟨n,a,s1,_,s2,⟨t,c,s3,s4,s5⟩,_⟩
  ·have:=t1.1;rw[e0,this]at s1;cases s1
  ·have:=t1.1;rw[e0,this]at s1;cases s1
  ·have:=t1.1;rw[e0,this]at s1;cases s1
  ·obtain⟨_,tx,us,q2,q3,_⟩:=t1
   have s2':bl r g.a= .n 1 [116,114,117,101] 0 []:=s2
   rw[q2,fS]at s2'
   injection s2' with _ e1 _ e2
   exact q3 ⟨e1,List.map_eq_nil_iff.1 e2⟩
  ·obtain⟨rfl,rfl⟩:=t1.same s1
   have:=t2 t c s2 s4
   have e1:(bY S'.lim (MG.ren r g).a c).1=_:=(h.um aF hw s4).1
   rw[e1,this]at s5
   cases s5
  ·obtain⟨rfl,rfl⟩:=t1.same s1
   have:=t2 t c s3 s4
   have e1:(bY S'.lim (MG.ren r g).a c).1=_:=(h.um aF hw s4).1
   rw[e1,this]at s5
   cases s5
theorem eQ.fl (h:eQ r P S S') {i:Nat} {p en en':Int} (hs:Ep cls S i p en) (ht:Ep cls S' i p en'):en'=en:=by
 obtain⟨g,hg,hs⟩:=hs
 obtain⟨g',oX,ht⟩:=ht
 obtain⟨rfl,hw⟩:=h.at hg oX
 have e0:(MG.ren r g).sg=g.sg:=rfl
 have ev:dX (MG.ren r g).op (MG.ren r g).b (MG.ren r g).c=dX g.op g.b g.c:=rH r g.op g.b g.c
 rcases hs with⟨s1,rfl,s2⟩ | ⟨s1,s2,s3⟩ | ⟨rfl,n,a,s1,s2⟩
 ·rcases ht with⟨_,rfl,_⟩ | ⟨t1,_⟩ | ⟨rfl,_⟩
  ·rfl
  ·rw[e0,s1]at t1;cases t1
  ·rfl
 ·rcases ht with⟨t1,_⟩ | ⟨t1,t2,t3⟩ | ⟨_,_,_,⟨t1,_⟩,_⟩
  ·rw[e0,s1]at t1;cases t1
  ·rw[ev]at t3
   rcases s3 with⟨rfl,q⟩ | ⟨rfl,x,q,_⟩<;>rcases t3 with⟨rfl,q'⟩ | ⟨rfl,x',q',_⟩
   ·rfl
   ·rw[q]at q';cases q'
   ·rw[q]at q';cases q'
   ·rfl
  ·rw[e0,s1]at t1;cases t1
 ·rcases ht with⟨t1,rfl,_⟩ | ⟨t1,_⟩ | ⟨rfl,_⟩
  ·rfl
  ·have:=s1.1;rw[e0,this]at t1;cases t1
  ·rfl
theorem uU (r:Nat→Nat) (u:U):big (bl r u)=big u:=by unfold big bl;rw[J4]
theorem Et (r:Nat→Nat) (us:List U):(us.map (bl r)).any big=us.any big:=by
 rw[List.any_map]
 congr 1
 funext u
 exact uU r u
theorem eQ.big (h:eQ r P S S'):qD S'=qD S:=by
 unfold qD
 rw[h.gs,h.vs,List.length_map,Et,List.any_map]
 congr 3
 funext g
 show lp (MG.ren r g)=lp g
 unfold lp MG.ren
 dsimp only
 rw[uU,uU,uU]
 cases g.a with
 | v x=>rfl
 | n k tx num us=>rw[fS];dsimp only;rw[Et]
theorem eQ.gh (h:eQ r P S S'):js S'.gs=js S.gs:=by
 unfold js
 rw[h.gs,List.length_map]
 refine List.filter_congr fun i _=> ?_
 rw[List.getElem?_map]
 cases S.gs[i]?<;>rfl
theorem eQ.fin (h:eQ r P S S'):yu S'.gs=yu S.gs:=by
 unfold yu
 rw[h.gh]
 have:S'.gs=[]↔S.gs=[]:=by rw[h.gs,List.map_eq_nil_iff]
 by_cases q:S.gs=[]
 ·rw[if_pos q,if_pos (this.2 q)]
 ·rw[if_neg q,if_neg (fun e=>q (this.1 e))]
theorem CJ (hi:gZ r P):∀(vs:List U) (ts:List (List UInt8)) (N:List Vr),(∀u∈vs,bE (PQ P) u)→(∀x∈N,PQ P x)→(vs.map (bl r)).foldl qo (ts,N.map (rn r))=((vs.foldl qo (ts,N)).1,(vs.foldl qo (ts,N)).2.map (rn r))∧∀x∈(vs.foldl qo (ts,N)).2,PQ P x
 | [],ts,N,_,hN=>⟨rfl,hN⟩
 | u :: vs,ts,N,hu,hN=>by
  have h1:=(eZ u).1 (hu u (by simp))
  have hn:=yP hi.on u N h1 hN
  have hN':∀x∈ba N u,PQ P x:=fun x hx=>by
   rcases(ri u N).1 hx with q | q
   ·exact hN x q
   ·exact h1 x q
  have hs:=uC (D:=Go.Lib.itoa) hi.on hN' u h1
  rw[List.map_cons,List.foldl_cons,List.foldl_cons]
  have e:qo (ts,N.map (rn r)) (bl r u)=((qo (ts,N) u).1,(ba N u).map (rn r)):=by
   unfold qo
   dsimp only
   unfold bl
   rw[hn,hs]
  rw[e]
  exact CJ hi vs _ _ (fun w hw=>hu w (by simp[hw])) hN'
theorem CK (hi:gZ r P):∀(gs:List MG) (ts:List (List UInt8)) (N:List Vr),(∀g∈gs,qW P g)→(∀x∈N,PQ P x)→(gs.map (MG.ren r)).foldl nk (ts,N.map (rn r))=((gs.foldl nk (ts,N)).1,(gs.foldl nk (ts,N)).2.map (rn r))
 | [],ts,N,_,_=>rfl
 | g :: gs,ts,N,hg,hN=>by
  have hw:=hg g (by simp)
  have step:∀(u:U) (N:List Vr),bE (PQ P) u→(∀x∈N,PQ P x)→ba (N.map (rn r)) (bl r u)=(ba N u).map (rn r)∧∀x∈ba N u,PQ P x:=fun u N hu hN=>by
   have h1:=(eZ u).1 hu
   refine⟨yP hi.on u N h1 hN,fun x hx=> ?_⟩
   rcases(ri u N).1 hx with q | q
   ·exact hN x q
   ·exact h1 x q
  obtain⟨a1,a2⟩:=step g.a N hw.a hN
  obtain⟨b1,b2⟩:=step g.b _ hw.b a2
  obtain⟨c1,c2⟩:=step g.c _ hw.c b2
  have en:jM (N.map (rn r)) (MG.ren r g)=(jM N g).map (rn r):=by
   unfold jM MG.ren
   dsimp only
   rw[a1,b1,c1]
  have ht:uT ((jM N g).map (rn r)) (MG.ren r g)=uT (jM N g) g:=by
   unfold uT MG.ren
   dsimp only
   unfold bl
   have c3:∀x∈jM N g,PQ P x:=c2
   rw[uC hi.on c3 g.a ((eZ _).1 hw.a),uC hi.on c3 g.b ((eZ _).1 hw.b),uC hi.on c3 g.c ((eZ _).1 hw.c)]
  rw[List.map_cons,List.foldl_cons,List.foldl_cons]
  have e:nk (ts,N.map (rn r)) (MG.ren r g)=((nk (ts,N) g).1,(jM N g).map (rn r)):=by
   unfold nk
   dsimp only
   rw[en,ht]
  rw[e]
  exact CK hi gs _ _ (fun w hw=>hg w (by simp[hw])) c2
theorem eQ.told (h:eQ r P S S'):(kF S'.vs).1=(kF S.vs).1∧(wJ (kF S'.vs).2 S'.gs).1=(wJ (kF S.vs).2 S.gs).1∧S'.gs.map (·.wt)=S.gs.map (·.wt):=by
 have hi:=pI.inj h.mono
 obtain⟨v1,v2⟩:=CJ hi S.vs [] [] h.wv (fun x hx=>by cases hx)
 have ev:kF S'.vs=((kF S.vs).1,(kF S.vs).2.map (rn r)):=by
  unfold kF
  rw[h.vs]
  exact v1
 refine⟨by rw[ev],?_,?_⟩
 ·rw[ev,h.gs]
  unfold wJ
  dsimp only
  rw[CK hi S.gs [] (kF S.vs).2 h.wg v2]
 ·rw[h.gs,List.map_map]
  rfl
end
section
variable {cls:List aL} {script:List (Int×Int)} {S0 S0':MS}
theorem nY.rel (aF:∀c∈cls,jK c) {r:Nat→Nat} {P:Nat→Prop} (h0:eQ r P S0 S0') {j:Nat} {S:MS} {L:List Int} (h:nY cls script S0 j S L):∀{S':MS} {L':List Int},nY cls script S0' j S' L'→L'=L∧∃r P,eQ r P S S':=by
 induction h with
 | start=>
  intro S' L' k
  cases k with
  | start=>exact⟨rfl,r,P,h0⟩
 | @step j S S1 L pg pc z i h hs hi hg hl ih=>
  intro S' L' k
  cases k with
  | @step _ T S1' L1 pg' pc' z' i' k ks ki kg kl=>
   obtain⟨rfl,r1,P1,hr⟩:=ih k
   rw[hs]at ks
   cases ks
   rw[hr.gh,hi]at ki
   cases ki
   obtain⟨rfl,r2,P2,hr2⟩:=hr.step aF hg kg
   exact⟨rfl,r2,P2,hr2⟩
theorem nY.before {j:Nat} {S:MS} {L:List Int} (h:nY cls script S0 j S L):∀{i:Nat},i<j→∃(T T':MS) (K:List Int) (pg pc z:Int) (k:Nat),nY cls script S0 i T K∧script[i]?=some (pg,pc)∧(js T.gs)[dL pg (js T.gs).length]?=some k∧kV cls T T' k pc z∧qD T'=false:=by
 induction h with
 | start=>intro i hi;omega
 | @step j S S1 L pg pc z k h hs hi hg hl ih=>
  intro i Jp
  by_cases e:i=j
  ·subst e;exact⟨S,S1,L,pg,pc,z,k,h,hs,hi,hg,hl⟩
  ·exact ih (by omega)
theorem rJ.same (aF:∀c∈cls,jK c) {r:Nat→Nat} {P:Nat→Prop} (h0:eQ r P S0 S0') {en en':Int} {log log':List Int} {v v' g g':List (List UInt8)} {w w':List Bool} (h:rJ cls script S0 en log v g w) (k:rJ cls script S0' en' log' v' g' w'):en'=en∧log'=log∧v'=v∧g'=g∧w'=w:=by
 obtain⟨j,S,L,hr,he⟩:=h
 obtain⟨j',S',L',kr,ke⟩:=k
 rcases Nat.lt_trichotomy j j' with q | q | q
 ·exfalso
  obtain⟨T,T',K,pg,pc,z,i,b1,b2,b3,b4,b5⟩:=kr.before q
  obtain⟨_,r1,P1,hR⟩:=hr.rel aF h0 b1
  rw[hR.gh]at b3
  rcases he with⟨e1,_⟩ | ⟨pg',pc',i',z',e1,e2,e3,_⟩
  ·rcases e1 with e1 | e1
   ·rw[e1]at b2
    rw[List.getElem?_eq_none (Nat.le_refl _)]at b2
    cases b2
   ·rw[e1]at b3;cases b3
  ·rw[b2]at e1
   cases e1
   rw[b3]at e2
   cases e2
   rcases e3 with⟨e3,_⟩ | ⟨_,S1,e3,e4⟩
   ·exact hR.M0 aF e3 b4
   ·obtain⟨_,r2,P2,hR2⟩:=hR.step aF e3 b4
    rw[hR2.big,e4]at b5
    cases b5
 ·subst q
  obtain⟨rfl,r1,P1,hR⟩:=hr.rel aF h0 kr
  obtain⟨t1,t2,t3⟩:=hR.told
  rw[hR.gh]at ke
  rcases he with⟨e1,rfl,rfl,rfl,rfl,rfl⟩ | ⟨pg,pc,i,z,e1,e2,e3,rfl,rfl,rfl,rfl⟩<;>rcases ke with⟨k1,rfl,rfl,rfl,rfl,rfl⟩ | ⟨pg',pc',i',z',k1,k2,k3,rfl,rfl,rfl,rfl⟩
  ·exact⟨hR.fin,rfl,t1,t2,t3⟩
  ·exfalso
   rcases e1 with e1 | e1
   ·rw[e1]at k1
    rw[List.getElem?_eq_none (Nat.le_refl _)]at k1
    cases k1
   ·rw[e1]at k2;cases k2
  ·exfalso
   rcases k1 with k1 | k1
   ·rw[k1]at e1
    rw[List.getElem?_eq_none (Nat.le_refl _)]at e1
    cases e1
   ·rw[k1]at e2;cases e2
  ·rw[e1]at k1
   cases k1
   rw[e2]at k2
   cases k2
   rcases e3 with⟨e3,rfl⟩ | ⟨rfl,S1,e3,e4⟩<;>rcases k3 with⟨k3,rfl⟩ | ⟨rfl,S1',k3,k4⟩
   ·exact⟨hR.fl e3 k3,rfl,rfl,rfl,rfl⟩
   ·exact(hR.M0 aF e3 k3).elim
   ·exact(hR.MZ aF e3 k3).elim
   ·obtain⟨rfl,_⟩:=hR.step aF e3 k3
    exact⟨rfl,rfl,rfl,rfl,rfl⟩
 ·exfalso
  obtain⟨T,T',K,pg,pc,z,i,b1,b2,b3,b4,b5⟩:=hr.before q
  obtain⟨_,r1,P1,hR⟩:=b1.rel aF h0 kr
  rw[hR.gh]at ke
  rcases ke with⟨e1,_⟩ | ⟨pg',pc',i',z',e1,e2,e3,_⟩
  ·rcases e1 with e1 | e1
   ·rw[e1]at b2
    rw[List.getElem?_eq_none (Nat.le_refl _)]at b2
    cases b2
   ·rw[e1]at b3;cases b3
  ·rw[b2]at e1
   cases e1
   rw[b3]at e2
   cases e2
   rcases e3 with⟨e3,_⟩ | ⟨_,S1,e3,e4⟩
   ·exact hR.MZ aF b4 e3
   ·obtain⟨_,r2,P2,hR2⟩:=hR.step aF b4 e3
    rw[hR2.big,b5]at e4
    cases e4
end
end Za
namespace Go.Proofs.YthfjnfcekeknlaaGreatDoor
open Go.RowKit
open Za (U Vr aL)
theorem Jr {T:Nat→U} {u:U} {c:aL} {V F:List Nat} (hV:Za.uQ T u c V) (hF:∀f∈F,T f= .v ([],f)) {y:List UInt8} (hy:y∈Za.NG c) (hl:(Za.NG c).idxOf y<(V++F).length):cQ T (V++F) (Za.NG c) y=Za.cM u c (fun k=>(F[k]?).getD 0) y:=by
 have jF:V.length=(Za.NH c).length:=hV.1
 unfold cQ Za.cM
 by_cases hn:y∈Za.NH c
 ·rw[if_pos hn]
  obtain⟨K,hK⟩:=Za.Jk c
  have ei:(Za.NG c).idxOf y=(Za.NH c).idxOf y:=by rw[hK,List.idxOf_append,if_pos hn]
  have hi:(Za.NH c).idxOf y<(Za.NH c).length:=List.idxOf_lt_length_of_mem hn
  have h1:(Za.namesF 8 [] c.head)[(Za.NH c).idxOf y]?=some y:=by
   show (Za.NH c)[(Za.NH c).idxOf y]?=some y
   rw[List.getElem?_eq_getElem hi,List.getElem_idxOf]
  have h2:V[(Za.NH c).idxOf y]?=some (V[(Za.NH c).idxOf y]'(by omega)):=List.getElem?_eq_getElem (by omega)
  obtain⟨q,q1,q2⟩:=hV.2 _ y _ h1 h2
  rw[ei,List.getElem?_append_left (by omega),h2,q1]
  exact q2
 ·rw[if_neg hn]
  have:=(Za.Gb hy hn).1
  rw[List.getElem?_append_right (by omega),jF]
  rw[List.length_append]at hl
  have hk:(Za.NG c).idxOf y - (Za.NH c).length<F.length:=by omega
  dsimp only
  rw[List.getElem?_eq_getElem hk]
  exact hF _ (List.getElem_mem hk)
theorem CL {u:U} {b:Nat} {c:aL} {V F:List Nat} {T:Nat→U} {says:Nat} {ws:List Nat} (h:qB u b c V F T says ws) (hu:Za.bE (Za.PQ (·<b)) u) (aF:Za.jK c):(Za.bY b u c).1=says∧∀v,v∈ws↔v∈(Za.bY b u c).2:=by
 rcases h with⟨h1,rfl,rfl⟩ | ⟨h1,hV,hl,hF,hp,rfl,rfl⟩
 ·unfold Za.bY
  rw[if_pos h1]
  exact⟨rfl,fun v=>Iff.rfl⟩
 ·unfold Za.bY
  rw[if_neg (by rw[h1];simp)]
  have jF:V.length=(Za.NH c).length:=hV.1
  have hNT:∀y∈Za.NT c,(Za.NG c).idxOf y<(V++F).length:=fun y hy=>by
   have V7:∃K,Za.NG c=Za.NT c++K:=by
    have hO:∀(t:Option Za.Tm) (ns:List (List UInt8)),∃M,Za.cG ns t=ns++M:=fun t ns=>by
     cases t with
     | none=>exact⟨[],by simp[Za.cG]⟩
     | some r=>exact Za.namesV_ext 8 r ns
    have hI:∀(x:Za.aH) (ns:List (List UInt8)),∃M,Za.aQ ns x=ns++M:=fun x ns=>by
     obtain⟨M1,h1⟩:=Za.namesV_ext 8 x.left ns
     obtain⟨M2,h2⟩:=hO x.right (Za.namesF 8 ns x.left)
     obtain⟨M3,h3⟩:=hO x.last (Za.cG (Za.namesF 8 ns x.left) x.right)
     exact⟨M1++(M2++M3),by unfold Za.aQ;rw[h3,h2,h1];simp⟩
    have hL:∀(xs:List Za.aH) (ns:List (List UInt8)),∃M,Za.aD ns xs=ns++M:=fun xs=>by
     induction xs with
     | nil=>exact fun ns=>⟨[],by simp[Za.aD]⟩
     | cons x xs ih=>
      intro ns
      obtain⟨M1,h1⟩:=hI x ns
      obtain⟨M2,h2⟩:=ih (Za.aQ ns x)
      exact⟨M1++M2,by show Za.aD (Za.aQ ns x) xs=_;rw[h2,h1];simp⟩
    exact hL c.goals (Za.NT c)
   obtain⟨K,hK⟩:=V7
   rw[hK,List.idxOf_append,if_pos hy,hl]
   exact List.idxOf_lt_length_of_mem hy
  have he:Za.iR (cQ T (V++F) (Za.NG c)) c.tests=Za.iR (Za.cM u c fun k=>(F[k]?).getD 0) c.tests:=Za.zo c.tests (Za.NH c) aF.ts fun y hy=>Jr hV (fun f hf=>(hF f hf).2) (Za.MW c y hy) (hNT y hy)
  let r:Nat→Nat:=fun k=>if k<b then k else(F[k - b]?).getD 0
  let P:Nat→Prop:=fun k=>k<b∨(b≤k∧k - b<F.length)
  have r1:∀k,k<b→r k=k:=fun k hk=>if_pos hk
  have r2:∀k,b≤k→∀hk:k - b<F.length,r k=F[k - b]:=fun k hk fI=>by
   show (if k<b then k else(F[k - b]?).getD 0)=_
   rw[if_neg (by omega),List.getElem?_eq_getElem fI]
   rfl
  have hi:Za.gZ r P:=fun i j hPi hPj q=>by
   rcases hPi with a | ⟨a1,a2⟩<;>rcases hPj with d | ⟨d1,d2⟩
   ·rw[r1 i a,r1 j d]at q;exact q
   ·rw[r1 i a,r2 j d1 d2]at q;have:=(hF _ (List.getElem_mem d2)).1;omega
   ·rw[r2 i a1 a2,r1 j d]at q;have:=(hF _ (List.getElem_mem a2)).1;omega
   ·rw[r2 i a1 a2,r2 j d1 d2]at q
    rcases Nat.lt_trichotomy (i - b) (j - b)with s | s | s
    ·have:=List.pairwise_iff_getElem.1 hp _ _ a2 d2 s;omega
    ·omega
    ·have:=List.pairwise_iff_getElem.1 hp _ _ d2 a2 s;omega
  have Mu:∀y∈Za.NT c,y∉Za.NH c→(Za.NG c).idxOf y - (Za.NH c).length<F.length:=fun y hy hn=>by
   have h2:=(Za.Gb (Za.MW c y hy) hn).1
   have h3:=hNT y hy
   rw[List.length_append]at h3
   omega
  have hY:∀y∈Za.NT c,Za.bE (Za.PQ P) (Za.cM u c (b+·) y):=fun y hy=>Za.yw (fun k hk=>Or.inl hk) hu fun hn=>Or.inr ⟨Nat.le_add_right _ _,by have:=Mu y hy hn;omega⟩
  have hid:Za.bl (fun k=>k) u=u:=by
   have:=Za.lN (r:=fun k=>k) (r':=fun k=>k) (P:=(·<b)) (fun _ _=>rfl) hu
   unfold Za.bl
   rw[Za.sub_congr (τ:= .v) u (fun x hx=> ?_),Za.sub_self]
   have hx1:=((Za.eZ u).1 hu x hx).1
   show U.v ([],x.2)= .v x
   congr 1
   exact Prod.ext hx1.symm rfl
  have hE:∀y∈Za.NT c,Za.cM u c (fun k=>(F[k]?).getD 0) y=Za.bl r (Za.cM u c (b+·) y):=fun y hy=>by
   have:=Za.wK (r:=fun k=>k) (r':=r) (P:=(·<b)) (fun i j _ _ q=>q) (fun k hk=>r1 k hk) hu (c:=c) (o1:=(b+·)) (o2:=fun k=>(F[k]?).getD 0) (y:=y) (fun hn=>by
    have:=Mu y hy hn
    rw[r2 _ (Nat.le_add_right _ _) (by omega),List.getElem?_eq_getElem this]
    simp)
   rw[hid]at this
   exact this
  rw[he,Za.zo (θ:=fun y=>Za.bl r (Za.cM u c (b+·) y)) c.tests (Za.NH c) aF.ts hE,Za.Ek hi c.tests (Za.NH c) aF.ts hY]
  have hwt:=Za.yl (η:=Za.cM u c (b+·)) c.tests (Za.NH c) aF.ts hY
  refine⟨(Za.Wn.rG _ _).symm,fun v=> ?_⟩
  unfold Za.kj
  rw[List.mem_filter,List.mem_filter,List.drop_left]
  show (v∈(Za.iR (Za.cM u c (b+·)) c.tests).wt.map r∧_)↔_
  rw[List.mem_map]
  constructor
  ·rintro⟨⟨w,hw,rfl⟩,h2⟩
   rcases hwt.at w hw with q | ⟨q1,q2⟩
   ·rw[r1 w q];exact⟨hw,decide_eq_true q⟩
   ·exfalso
    rw[r2 w q1 q2]at h2
    simp at h2
  ·rintro⟨h1,h2⟩
   have hv:=of_decide_eq_true h2
   refine⟨⟨v,h1,r1 v hv⟩,?_⟩
   simp only[Bool.not_eq_true',decide_eq_false_iff_not]
   intro q
   have:=(hF v q).1
   omega
def cD (T:Nat→U) (x:Int):U:=if x= -1 then Za.zU else T x.toNat
def eU (fr:Nat→Nat) (T:Nat→U) (g:Gl):Za.MG:=⟨T g.l,g.sg.toList,cD T g.r,g.op.toList,cD T g.z,!gh fr g,fun v=>gh fr g=false∧v∈g.nd⟩
def jt (V:List Nat) (S:cq):Za.MS:=⟨V.map S.T,S.G.map (eU S.fr S.T),S.D.length⟩
structure xS (V:List Nat) (S:cq):Prop where
 wf:MQ S
 nd:∀g∈S.G,∀v∈g.nd,Za.gl (aX S.D) v=none
 vl:∀v∈V,v<S.D.length
theorem uV (fr:Nat→Nat) (g:Gl):gh fr g=false↔g.wt=true∧∀v∈g.nd,fr v=v:=by
 unfold gh
 simp
theorem gj (T:Nat→U) (n:Nat):cD T (n:Int)=T n:=by
 unfold cD
 rw[if_neg (by omega)]
 rfl
theorem ml.rc {T:Nat→U} {len:Nat} {g:Gl} (h:ml T len g):g.r= -1∨∃n:Nat,g.r=(n:Int)∧n<len:=by
 by_cases q:g.sg.toList=[]
 ·exact Or.inl (h.r0 q)
 ·exact Or.inr (h.rr q)
theorem ml.zc {T:Nat→U} {len:Nat} {g:Gl} (h:ml T len g):g.z= -1∨∃n:Nat,g.z=(n:Int)∧n<len:=by
 by_cases q:g.op.toList=[]
 ·exact Or.inl (h.z0 q)
 ·exact Or.inr (h.zz q)
theorem mY {T T':Nat→U} {len:Nat} {f:U→U} (hf:f Za.zU=Za.zU) (h:∀m,m<len→T' m=f (T m)) {x:Int} (hx:x= -1∨∃n:Nat,x=(n:Int)∧n<len):cD T' x=f (cD T x):=by
 rcases hx with q | ⟨n,q,hn⟩
 ·unfold cD;rw[if_pos q,if_pos q,hf]
 ·rw[q,gj,gj,h n hn]
theorem Eu {fr:Nat→Nat} {T T':Nat→U} {len:Nat} (h:∀m,m<len→T' m=T m) {g:Gl} (hg:ml T len g):eU fr T' g=eU fr T g:=by
 unfold eU
 rw[h g.l hg.ll,mY (f:=id) rfl h hg.rc,mY (f:=id) rfl h hg.zc]
 rfl
section
variable {G:List Za.Gn} {fr fr':Nat→Nat} {T T':Nat→U} {a b:U} {σ:Vr→U}
theorem CM (hm:Za.Made G fr fr' T T' a b σ) (hs:Za.dG G fr T) {g:Gl} (dC:∀v∈g.nd,Za.gl G v=none):gh fr' g=false↔gh fr g=false∧∀v∈g.nd,σ ([],v)= .v ([],v):=by
 rw[uV,uV]
 constructor
 ·rintro⟨h1,h2⟩
  have key:∀v∈g.nd,fr v=v∧σ ([],v)= .v ([],v):=fun v hv=>by
   have e1:=h2 v hv
   have g0:=dC v hv
   have t1:T' v= .v ([],v):=by
    have:=hm.sto.var (n:=v) (by rw[e1];exact g0)
    rwa [e1]at this
   have hu:fr v=v:=by
    by_cases q:Za.gl G (fr v)=none
    ·have v1:=hs.sD v q
     have v2:fr' (fr v)=v:=(hm.left.mono _ _ (hs.fronts.idem v)).trans e1
     have v3:=hm.sto.sD (fr v) (by rw[v2];exact g0)
     omega
    ·exfalso
     have ht:=hs.tr v
     have e2:=hm.is v
     rw[t1]at e2
     generalize T v=x at ht e2
     cases ht with
     | var h _=>exact q h
     | node _ _ _=>rw[Za.dR]at e2;cases e2
   exact⟨hu,(hm.lr v hu g0).trans t1⟩
  exact⟨⟨h1,fun v hv=>(key v hv).1⟩,fun v hv=>(key v hv).2⟩
 ·rintro⟨⟨h1,h2⟩,h3⟩
  refine⟨h1,fun v hv=> ?_⟩
  have e1:T' v= .v ([],v):=(hm.lr v (h2 v hv) (dC v hv)).symm.trans (h3 v hv)
  have ht:=hm.sto.tr v
  generalize T' v=x at ht e1
  cases ht with
  | var h _=>
   injection e1 with e1
   injection e1
  | node _ _ _=>cases e1
theorem Ev {T0:Nat→U} {len:Nat} (hm:Za.Made G fr fr' T T' a b σ) (hs:Za.dG G fr T) (h0:∀m,m<len→T m=T0 m) {g:Gl} (hg:ml T0 len g) (dC:∀v∈g.nd,Za.gl G v=none):eU fr' T' g=Za.MG.put σ (eU fr T0 g):=by
 have hT:∀m,m<len→T' m=Za.sub σ (T0 m):=fun m q=>by rw[hm.is,h0 m q]
 have hz:Za.sub σ Za.zU=Za.zU:=by unfold Za.zU;rw[Za.dR];rfl
 have hst:(eU fr T0 g).stays σ↔gh fr' g=false:=by
  rw[CM hm hs dC]
  unfold Za.MG.stays eU
  dsimp only
  constructor
  ·rintro⟨h1,h2⟩
   have h1':gh fr g=false:=by simpa using h1
   exact⟨h1',fun v hv=>h2 v ⟨h1',hv⟩⟩
  ·rintro⟨h1,h2⟩
   exact⟨by rw[h1];rfl,fun v hv=>h2 v hv.2⟩
 unfold Za.MG.put
 have e1:(eU fr T0 g).a=T0 g.l:=rfl
 have e2:(eU fr T0 g).b=cD T0 g.r:=rfl
 have e3:(eU fr T0 g).c=cD T0 g.z:=rfl
 rw[e1,e2,e3,←hT g.l hg.ll,←mY hz hT hg.rc,←mY hz hT hg.zc]
 unfold eU at hst⊢
 dsimp only at hst⊢
 congr 1
 ·cases hq:gh fr' g with
  | false=>exact(@decide_eq_true _ (_) (hst.2 hq)).symm
  | true=>exact(@decide_eq_false _ (_) (fun e=>by rw[hst.1 e]at hq;cases hq)).symm
 ·funext v
  apply propext
  constructor
  ·rintro⟨q1,q2⟩
   exact⟨hst.2 q1,((CM hm hs dC).1 q1).1,q2⟩
  ·rintro⟨q1,q2⟩
   exact⟨hst.1 q1,q2.2⟩
end
def isVar (S:cq) (k:Nat):Prop:=k<S.D.length∧S.fr k=k∧Za.gl (aX S.D) k=none
theorem MQ.uk {S:cq} (h:MQ S) {n:Nat} (hn:n<S.D.length):Za.bE (Za.PQ (isVar S)) (S.T n):=(Za.eZ _).2 fun x hx=>by
 have h1:=(Za.eZ _).1 (h.ok.kN h.sto n hn) x hx
 have h2:=(h.sto.tr n).vars x hx
 exact⟨h1.1,h1.2.1,h1.2.2,h2.2.1⟩
theorem CN {T:Nat→U} {op:List UInt8} {r z:Int} {rn zn:Nat} (hr:r=(rn:Int)) (hz:op≠[]→z=(zn:Int)):Za.dZ op (cD T r) (cD T z)=Za.dZ op (T rn) (T zn)∧dX op (cD T r) (cD T z)=dX op (T rn) (T zn):=by
 rw[hr,gj]
 by_cases q:op=[]
 ·subst q
  unfold Za.dZ dX
  simp
 ·rw[hz q,gj]
  exact⟨rfl,rfl⟩
end Go.Proofs.YthfjnfcekeknlaaGreatDoor
namespace Go.Proofs.YthfjnfcekeknlaaGreatDoor
open Go.RowKit
open Za (U Vr aL)
theorem qX {D E:List Ng} {v:Nat} (h:v<D.length):Za.gl (aX (D++E)) v=Za.gl (aX D) v:=by
 rw[lU (show v<(D++E).length by rw[List.length_append];omega),lU h,List.getElem_append_left h]
theorem LZ {η θ:List UInt8→U} {x:Za.aH} (h:Za.tW x) (ns:List (List UInt8)) (hy:∀y∈Za.aQ ns x,η y=θ y):Za.MG.of η x=Za.MG.of θ x:=by
 have hp:∀t,(t=x.left∨x.right=some t∨x.last=some t)→Za.bJ η 8 t=Za.bJ θ 8 t:=fun t ht=>by
  obtain⟨h1,ns',h2⟩:=h.parts ns t ht
  exact Za.ik 8 t ns' h1 fun y q=>hy y (h2 y q)
 unfold Za.MG.of
 rw[hp x.left (Or.inl rfl)]
 congr 1
 ·cases e:x.right with
  | none=>rfl
  | some t=>exact hp t (Or.inr (Or.inl e))
 ·cases e:x.last with
  | none=>rfl
  | some t=>exact hp t (Or.inr (Or.inr e))
theorem Ew {fr:Nat→Nat} {T:Nat→U} {len:Nat} {η:List UInt8→U} {x:Za.aH} {g:Gl} (h:mH T len η x g) (hx:Za.tW x):eU fr T g=Za.MG.of η x:=by
 have hr:gh fr g=true:=by unfold gh;rw[h.nw];rfl
 unfold eU Za.MG.of
 rw[h.tl,h.sg,h.op,hr]
 congr 1
 ·by_cases q:x.sign=[]
  ·rw[hx.r0 q,h.r0 q];rfl
  ·obtain⟨r,h1,_⟩:=hx.r1 q
   obtain⟨n,h2,_,h3⟩:=h.r1 r h1
   rw[h1,h2,gj,h3];rfl
 ·by_cases q:x.op=[]
  ·rw[hx.z0 q,h.z0 q];rfl
  ·obtain⟨r,h1,_⟩:=hx.z1 q
   obtain⟨n,h2,_,h3⟩:=h.z1 r h1
   rw[h1,h2,gj,h3];rfl
 ·funext v
  simp
theorem wL {α β γ:Type} {R:α→β→Prop} {f:β→γ} {g:α→γ}:∀{xs:List α} {ys:List β},bR R xs ys→(∀x∈xs,∀y,R x y→f y=g x)→ys.map f=xs.map g
 | [],[],_,_=>rfl
 | x :: xs,y :: ys,h,hf=>by
  rw[List.map_cons,List.map_cons,hf x (by simp) y h.1,wL h.2 fun a ha b hb=>hf a (by simp[ha]) b hb]
theorem Ex {T:Nat→U} {len:Nat} {η:List UInt8→U}:∀{xs:List Za.aH} {gs:List Gl},bR (mH T len η) xs gs→∀g∈gs,g.nd=[]
 | [],[],_,g,hg=>by cases hg
 | x :: xs,y :: ys,h,g,hg=>by
  rcases List.mem_cons.1 hg with q | q
  ·rw[q];exact h.1.nd
  ·exact Ex h.2 g q
theorem Ds {T T':Nat→U} {u:U} {c:aL} {V:List Nat} (h:Za.uQ T u c V) (he:∀m∈V,T' m=T m):Za.uQ T' u c V:=⟨h.1,fun i x m h1 h2=>by
 obtain⟨q,q1,q2⟩:=h.2 i x m h1 h2
 exact⟨q,q1,(he m (List.mem_of_getElem? h2)).trans q2⟩⟩
theorem RD {Q:Vr→Prop} {op:List UInt8} {u v:U} (hu:Za.bE Q u) (hv:op≠[]→Za.bE Q v):(Za.dZ op u v).fh Q:=by
 unfold Za.dZ
 split
 ·exact(Za.dF Q).bP hu
 ·rename_i q;exact((Za.dF Q).bP hu).bP (hv q)
theorem uo {cls:List aL} {own:List Nat} {bg:Nat} {u:U} {b:Nat} {rs:List (Nat×List Nat)} (h:nL cls own bg u b rs) (hu:Za.bE (Za.PQ (·<b)) u) (aF:∀c∈cls,Za.jK c) {t:Nat} (ht:t<rs.length) {c:aL} (hc:cls[gY own bg t]?=some c):(Za.bY b u c).1=rs[t].1∧rs[t].1≠1∧∀v,v∈rs[t].2↔v∈(Za.bY b u c).2:=by
 obtain⟨h1,c',V,F,T',h2,h3⟩:=h t rs[t] (List.getElem?_eq_getElem ht)
 rw[hc]at h2
 cases h2
 obtain⟨k1,k2⟩:=CL h3 hu (aF c (List.mem_of_getElem? hc))
 exact⟨k1,h1,k2⟩
theorem wM {rs:List (Nat×List Nat)} {v:Nat}:v∈Za.cF rs↔∃t,∃h:t<rs.length,rs[t].1=3∧v∈rs[t].2:=by
 unfold Za.cF
 rw[List.mem_flatMap]
 constructor
 ·rintro⟨r,h1,h2⟩
  obtain⟨t,ht,rfl⟩:=List.getElem_of_mem h1
  split at h2
  ·rename_i q;exact⟨t,ht,q,h2⟩
  ·cases h2
 ·rintro⟨t,ht,q,hv⟩
  exact⟨rs[t],List.getElem_mem ht,by rw[if_pos q];exact hv⟩
theorem yF {cls:List aL} {tx:List UInt8} {m bg t:Nat} (h:t<(Za.cC cls tx m cls.length).length):∃c,cls[gY (Za.cC cls tx m cls.length) bg t]?=some c:=by
 unfold gY
 have hk:(bg+t) % (Za.cC cls tx m cls.length).length<(Za.cC cls tx m cls.length).length:=Nat.mod_lt _ (by omega)
 rw[List.getElem?_eq_getElem hk]
 have:=List.getElem_mem hk
 unfold Za.cC at this
 rw[List.mem_filter,List.mem_range]at this
 exact⟨_,List.getElem?_eq_getElem this.1⟩
theorem CO {cls:List aL} {V:List Nat} {S S':cq} {i:Nat} {p z:Int} (aF:∀c∈cls,Za.jK c) (h:xS V S) (hg:Cn cls S S' i p z):Za.kV cls (jt V S) (jt V S') i p z∧xS V S':=by
 obtain⟨⟨g,fj,hc⟩,yG⟩:=hg
 have ko:g∈S.G:=List.mem_of_getElem? fj
 have gw:=h.wf.gw g ko
 have hai:(jt V S).gs[i]?=some (eU S.fr S.T g):=by show (S.G.map _)[i]?=_;rw[List.getElem?_map,fj];rfl
 have l7:Za.bE (Za.PQ (·<S.D.length)) (S.T g.l):=(h.wf.uk gw.ll).mono fun x hx=>⟨hx.1,hx.2.1⟩
 rcases hc with⟨hs,rfl,rn,σ,hr,fy,hsm,pF,hG⟩ | ⟨hs,rfl,rn,zn,wo,wc,hr,fy,hz,hw,eD,eF,eT,hG⟩ | ⟨hs,rfl,rn,zn,x,T2,σ,hr,fy,hz,hw,hv,st2,old2,tn2,hsm,pF,hG⟩ | ⟨hs,rfl,ht,eD,eF,eT,hG⟩ | ⟨hs,tx,us,bj,tY,rs,c,VV,F,T2,ws,E,F',Gn,r1,r2,r3,r4,rfl,eD,eF,r6,r7,r8,r9,r10,r11,r12,r13,hG⟩ | ⟨hs,rfl,tx,us,bj,tY,rs,E,oo,oc,r1,r2,r3,eD,eF,r6,r7,hG⟩
 ·have hl:=hsm.len
  refine⟨⟨Nat.le_of_eq hl.symm,_,hai,Or.inl ⟨hs,rfl,σ,?_,?_,?_⟩⟩,yG,fun x hx v hv=> ?_,fun v hv=>by rw[hl];exact h.vl v hv⟩
  ·show Za.ek (S.T g.l) (cD S.T g.r) σ
   rw[hr,gj]
   exact pF.OW
  ·show V.map S'.T=(V.map S.T).map _
   rw[List.map_map]
   exact List.map_congr_left fun v _=>pF.is v
  ·show S'.G.map _=((S.G.map _).eraseIdx i).map _
   rw[hG,Za.iX,List.map_map]
   exact List.map_congr_left fun x hx=>Ev pF h.wf.sto (fun _ _=>rfl) (h.wf.gw x (mem_erase hx)) (h.nd x (mem_erase hx))
  ·rw[hsm.g]
   rw[hG]at hx
   exact h.nd x (mem_erase hx) v hv
 ·have uf:=RD (Q:=Za.PQ (isVar S)) (op:=g.op.toList) (h.wf.uk fy) (fun q=>h.wf.uk (hz q).2)
  obtain⟨ew,_⟩:=CN (T:=S.T) (op:=g.op.toList) hr (fun q=>(hz q).1)
  have hwt:∀v∈(Za.dZ g.op.toList (S.T rn) (S.T zn)).wt,isVar S v:=uf.at
  refine⟨⟨by show S.D.length≤S'.D.length;rw[eD];exact Nat.le_refl _,_,hai,Or.inr (Or.inl ⟨hs,rfl,?_,?_,?_⟩)⟩,yG,fun x hx v hv=> ?_,fun v hv=>by rw[eD];exact h.vl v hv⟩
  ·show (Za.dZ g.op.toList (cD S.T g.r) (cD S.T g.z)).wt≠[]
   rw[ew];exact hw
  ·show V.map S'.T=V.map S.T
   rw[eT]
  ·show S'.G.map _=(S.G.map _).set i _
   rw[hG,List.map_set,eF,eT]
   congr 1
   unfold eU
   dsimp only
   have xD:=(uV S.fr {g with wt:=true,no:=wo,nc:=wc,nd:=(Za.dZ g.op.toList (S.T rn) (S.T zn)).wt}).2 ⟨rfl,fun v hv=>(hwt v hv).2.1⟩
   rw[xD,ew]
   congr 1
   funext v
   simp
  ·rw[eD]
   rw[hG]at hx
   rcases List.mem_or_eq_of_mem_set hx with q | q
   ·exact h.nd x q v hv
   ·rw[q]at hv
    exact(hwt v hv).2.2
 ·have hl:=hsm.len
  rw[List.length_append]at hl
  have hl2:S'.D.length=S.D.length+1:=hl
  obtain⟨ew,ev⟩:=CN (T:=S.T) (op:=g.op.toList) hr (fun q=>(hz q).1)
  refine⟨⟨by show S.D.length≤S'.D.length;omega,_,hai,Or.inr (Or.inr (Or.inl ⟨hs,rfl,?_,x,σ,?_,?_,?_,?_⟩))⟩,yG,fun y hy v hv=> ?_,fun v hv=>by have:=h.vl v hv;omega⟩
  ·show (Za.dZ g.op.toList (cD S.T g.r) (cD S.T g.z)).wt=[]
   rw[ew];exact hw
  ·show dX g.op.toList (cD S.T g.r) (cD S.T g.z)=some x
   rw[ev];exact hv
  ·show Za.ek (S.T g.l) (.n 3 [] x []) σ
   have:=pF.OW
   rw[old2 g.l gw.ll,tn2]at this
   exact this
  ·show V.map S'.T=(V.map S.T).map _
   rw[List.map_map]
   refine List.map_congr_left fun v hv=> ?_
   rw[pF.is v,old2 v (h.vl v hv)]
   rfl
  ·show S'.G.map _=((S.G.map _).eraseIdx i).map _
   rw[hG,Za.iX,List.map_map]
   exact List.map_congr_left fun y hy=>Ev pF st2 old2 (h.wf.gw y (mem_erase hy)) fun v hv=>by
    rw[qX (h.wf.nl y (mem_erase hy) v hv)]
    exact h.nd y (mem_erase hy) v hv
  ·rw[hsm.g]
   rw[hG]at hy
   rw[qX (h.wf.nl y (mem_erase hy) v hv)]
   exact h.nd y (mem_erase hy) v hv
 ·refine⟨⟨by show S.D.length≤S'.D.length;rw[eD];exact Nat.le_refl _,_,hai,Or.inr (Or.inr (Or.inr (Or.inl ⟨hs,rfl,ht,?_,?_⟩)))⟩,yG,fun x hx v hv=> ?_,fun v hv=>by rw[eD];exact h.vl v hv⟩
  ·show V.map S'.T=V.map S.T
   rw[eT]
  ·show S'.G.map _=(S.G.map _).eraseIdx i
   rw[hG,Za.iX,eF,eT]
  ·rw[eD]
   rw[hG]at hx
   exact h.nd x (mem_erase hx) v hv
 ·have hlen:S'.D.length=S.D.length+E.length:=by rw[eD,List.length_append]
  rw[bj]at r2 r4 l7
  have hcm:c∈cls:=List.mem_of_getElem? r3
  have Ec:=aF c hcm
  have hHV:Za.uQ T2 (.n 1 tx 0 us) c VV:=by
   rcases r4 with⟨q1,q2,_⟩ | ⟨_,q,_⟩
   ·exact absurd q2.symm q1
   ·exact q
  have hHV':Za.uQ S'.T (.n 1 tx 0 us) c VV:=Ds hHV fun m hm=>r7 m (List.mem_append_left _ hm)
  have jF:VV.length=(Za.NH c).length:=hHV.1
  have hlF:(F++F').length+(Za.NH c).length=(Za.NG c).length:=by
   rw[←r9,←jF]
   simp only[List.length_append]
   omega
  refine⟨⟨by show S.D.length≤S'.D.length;omega,_,hai,Or.inr (Or.inr (Or.inr (Or.inr (Or.inl ⟨_,_,⟨hs,tx,us,bj,tY,rfl,rfl⟩,rs.length,c,F++F',r1,fun t' c' nu hc'=> ?_,r3,?_,rfl,hlF,r11,fun f hf=>⟨(r10 f hf).1,r12 f ?_⟩,?_,?_⟩))))⟩,yG,fun x hx v hv=> ?_,fun v hv=>by have:=h.vl v hv;omega⟩
  ·show (Za.bY S.D.length (S.T g.l) c').1≠1
   rw[bj]
   obtain⟨q1,q2,_⟩:=uo r2 l7 aF nu hc'
   rw[q1];exact q2
  ·show (Za.bY S.D.length (S.T g.l) c).1=1
   rw[bj]
   exact(CL r4 l7 Ec).1
  ·rw[List.append_assoc]
   exact List.mem_append_right _ hf
  ·show V.map S'.T=V.map S.T
   exact List.map_congr_left fun v hv=>r6 v (h.vl v hv)
  ·show S'.G.map _=(S.G.map _).eraseIdx i++_
   rw[hG,List.map_append,Za.iX]
   congr 1
   ·rw[eF]
    exact List.map_congr_left fun x hx=>Eu r6 (h.wf.gw x (mem_erase hx))
   ·refine wL r13 fun x hx y hy=> ?_
    rw[Ew hy (Ec.gs x hx)]
    obtain⟨ns,hn⟩:=Za.fx c.goals (Za.NT c) x hx
    refine LZ (Ec.gs x hx) ns fun w hw=> ?_
    have UF:w∈Za.NG c:=hn w hw
    show cQ S'.T (VV++F++F') (Za.NG c) w=Za.cM (S.T g.l) c _ w
    rw[bj,List.append_assoc]
    refine Jr hHV' (fun f hf=>(r10 f hf).2) UF ?_
    have:=List.idxOf_lt_length_of_mem UF
    rw[←r9,List.append_assoc]at this
    exact this
  ·rw[hG]at hx
   rcases List.mem_append.1 hx with q | q
   ·rw[eD,qX (h.wf.nl x (mem_erase q) v hv)]
    exact h.nd x (mem_erase q) v hv
   ·rw[Ex r13 x q]at hv
    cases hv
 ·have hlen:S'.D.length=S.D.length+E.length:=by rw[eD,List.length_append]
  have iV:Za.bE (Za.PQ (isVar S)) (S.T g.l):=h.wf.uk gw.ll
  rw[bj]at r2 l7 iV
  have qC:∀{t:Nat} (ht:t<rs.length) {c:aL},cls[gY (Za.cC cls tx us.length cls.length) (dL p (Za.cC cls tx us.length cls.length).length) t]?=some c→((Za.bY S.D.length (.n 1 tx 0 us) c).1=rs[t].1∧rs[t].1≠1∧∀v,v∈rs[t].2↔v∈(Za.bY S.D.length (.n 1 tx 0 us) c).2)∧∀v∈rs[t].2,isVar S v:=fun {t} ht {c} hc=>by
   have q:=uo r2 l7 aF ht hc
   refine⟨q,fun v hv=> ?_⟩
   exact(Za.Cy (r:=fun k=>k) (P:=isVar S) (l1:=S.D.length) (l2:=S.D.length) (fun i j _ _ e=>e) (fun k hk=>hk.1) (fun k hk=>hk.1) iV (aF c (List.mem_of_getElem? hc)).ts).2.2 v ((q.2.2 v).1 hv)
  have dC:∀v∈Za.cF rs,isVar S v:=fun v hv=>by
   obtain⟨t,ht,_,h2⟩:=wM.1 hv
   obtain⟨c,hc⟩:=yF (cls:=cls) (tx:=tx) (m:=us.length) (bg:=dL p (Za.cC cls tx us.length cls.length).length) (t:=t) (by omega)
   exact(qC ht hc).2 v h2
  refine⟨⟨by show S.D.length≤S'.D.length;omega,_,hai,Or.inr (Or.inr (Or.inr (Or.inr (Or.inr ⟨_,_,⟨hs,tx,us,bj,tY,rfl,rfl⟩,rfl,fun t c ht hc=> ?_,?_,?_,?_⟩))))⟩,yG,fun x hx v hv=> ?_,fun v hv=>by have:=h.vl v hv;omega⟩
  ·show (Za.bY S.D.length (S.T g.l) c).1≠1
   rw[bj]
   obtain⟨⟨q1,q2,_⟩,_⟩:=qC (by omega) hc
   rw[q1];exact q2
  ·have r3':=r3
   unfold Za.mj at r3'
   rw[List.any_eq_true]at r3'
   obtain⟨r,q1,q2⟩:=r3'
   obtain⟨t,ht,rfl⟩:=List.getElem_of_mem q1
   obtain⟨c,hc⟩:=yF (cls:=cls) (tx:=tx) (m:=us.length) (bg:=dL p (Za.cC cls tx us.length cls.length).length) (t:=t) (by omega)
   refine⟨t,c,by omega,hc,?_⟩
   show (Za.bY S.D.length (S.T g.l) c).1=3
   rw[bj,(qC ht hc).1.1]
   simpa using q2
  ·show V.map S'.T=V.map S.T
   exact List.map_congr_left fun v hv=>r6 v (h.vl v hv)
  ·show S'.G.map _=(S.G.map _).set i _
   rw[hG,List.map_set,eF]
   have e1:S.G.map (eU S.fr S'.T)=S.G.map (eU S.fr S.T):=List.map_congr_left fun x hx=>Eu r6 (h.wf.gw x hx)
   rw[e1]
   congr 1
   have xD:=(uV S.fr {g with wt:=true,no:=oo,nc:=oc,nd:=Za.cF rs}).2 ⟨rfl,fun v hv=>(dC v hv).2.1⟩
   unfold eU
   dsimp only
   rw[xD,r6 g.l gw.ll,mY (f:=id) rfl r6 gw.rc,mY (f:=id) rfl r6 gw.zc]
   dsimp only[id]
   congr 1
   funext v
   apply propext
   constructor
   ·rintro⟨_,q⟩
    obtain⟨t,ht,q1,q2⟩:=wM.1 q
    obtain⟨c,hc⟩:=yF (cls:=cls) (tx:=tx) (m:=us.length) (bg:=dL p (Za.cC cls tx us.length cls.length).length) (t:=t) (by omega)
    have k:=(qC ht hc).1
    refine⟨t,c,by omega,hc,?_,?_⟩
    ·show (Za.bY S.D.length (S.T g.l) c).1=3
     rw[bj,k.1];exact q1
    ·show v∈(Za.bY S.D.length (S.T g.l) c).2
     rw[bj];exact(k.2.2 v).1 q2
   ·rintro⟨t,c,ht,hc,q1,q2⟩
    have nu:t<rs.length:=by omega
    have k:=(qC nu hc).1
    have q1':(Za.bY S.D.length (S.T g.l) c).1=3:=q1
    have q2':v∈(Za.bY S.D.length (S.T g.l) c).2:=q2
    rw[bj]at q1' q2'
    rw[k.1]at q1'
    exact⟨rfl,wM.2 ⟨t,nu,q1',(k.2.2 v).2 q2'⟩⟩
  ·rw[hG]at hx
   rcases List.mem_or_eq_of_mem_set hx with q | q
   ·rw[eD,qX (h.wf.nl x q v hv)]
    exact h.nd x q v hv
   ·rw[q]at hv
    have:=dC v hv
    rw[eD,qX this.1]
    exact this.2.2
end Go.Proofs.YthfjnfcekeknlaaGreatDoor
namespace Go.Proofs.YthfjnfcekeknlaaGreatDoor
open Go.RowKit
structure UG (w:World) (cls:List Za.aL) (clo:Option Addr) (items:List Za.aH) (N:List (List UInt8)) (o:Option Addr) (n:Nat) (script:List (Int×Int)) (so:Option Addr):Prop where
 cl:dh w clo cls.length cls
 ok:∀c∈cls,Za.jK c∧∀x∈c.goals,Za.i7 x
 cc:cls.length≤12
 it:cm N w o n items
 gl:∀x∈items,Za.i7 x
 il:items.length≤6
 nm:∃M,N=Za.aD [] items++M
 nl:N.length≤100
 sz:∀x∈items,∀η:List UInt8→Za.U,(∀y∈Za.aD [] items,Za.size (η y)=1)→Za.size (Za.bJ η 8 x.left)≤300∧(∀r,x.right=some r→Za.size (Za.bJ η 8 r)≤300)∧(∀z,x.last=some z→Za.size (Za.bJ η 8 z)≤300)
 sc:qE w so script
 sl:script.length≤100
 sr:∀p∈script,(-9223372036854775808≤p.1∧p.1≤9223372036854775807)∧(-9223372036854775808≤p.2∧p.2≤9223372036854775807)
 pw:Pow w
theorem Oi (fr:Nat→Nat) (G:List Gl):gJ fr G=1∨gJ fr G=2∨gJ fr G=3:=by
 unfold gJ
 split
 ·exact Or.inl rfl
 ·split
  ·exact Or.inr (Or.inl rfl)
  ·exact Or.inr (Or.inr rfl)
theorem QS.res {w:World} {cls:List Za.aL} {clo:Option Addr} {clc:Nat} {F:List Nat} {vo:Option Addr} {vc:Nat} {script:List (Int×Int)} {S0:cq} {j:Nat} {S:cq} {L:List Int} {lo:Option Addr} {lc:Nat} {nO:Option Addr} {nC:Nat} {po:Option Addr} {pc:Nat} {wr:World} (h:QS w cls clo clc F vo vc script S0 j S L lo lc nO nC po pc wr) (CE:Pow w) (hF:F.length≤100) (hj:j=script.length∨cE S.fr S.G S.G.length=[]):
 Calls Tryz.prog 47 #[.pointer (some ⟨w.heap.size+1,0,none⟩)] (wr.setCell ⟨w.heap.size+1,5,none⟩ (.int .i64 (gJ S.fr S.G))) fun e w'=>∃(xo:Option Addr) (xc:Nat) (go:Option Addr) (gc:Nat) (yo:Option Addr) (yc:Nat),e= .returned (.agg #[.int .i64 (gJ S.fr S.G),.slice lo L.length lc,.slice xo F.length xc,.slice go S.G.length gc,.slice yo S.G.length yc])∧ui cls F script S0 w.heap.size e w'∧Below w.heap.size w w'∧w'.heap[w.heap.size]?=some (.cells #[.int .i64 0,.slice none 0 0,.slice none 0 0,.slice none 0 0,.slice none 0 0] 32 (0,0))∧∀vs:List Value,vs.length=5→ui cls F script S0 w.heap.size e (((((w'.setCell ⟨w.heap.size,0,none⟩ (vs[0]?.getD (.int .i64 0))).setCell ⟨w.heap.size,1,none⟩ (vs[1]?.getD (.int .i64 0))).setCell ⟨w.heap.size,2,none⟩ (vs[2]?.getD (.int .i64 0))).setCell ⟨w.heap.size,3,none⟩ (vs[3]?.getD (.int .i64 0))).setCell ⟨w.heap.size,4,none⟩ (vs[4]?.getD (.int .i64 0))):=by
 have hm:=h.ma
 have aO:=h.be.setCell (p:=⟨w.heap.size+1,5,none⟩) (Nat.le_succ _) (.int .i64 (gJ S.fr S.G))
 have kT:∀{k:Nat} {ys:Array Value} {Y:TypeId},wr.heap[k]?=some (.cells ys Y (0,0))→Y≠91→(wr.setCell ⟨w.heap.size+1,5,none⟩ (.int .i64 (gJ S.fr S.G))).heap[k]?=wr.heap[k]?:=fun {k ys Y} hk h1=>aJ _ _ _ _ (fun e=>by
  rw[e,hm.mc.st.blk]at hk
  simp only[Option.some.injEq,Obj.cells.injEq]at hk
  exact h1 hk.2.1.symm)
 have kR:∀{b n cap sz:Nat} {Y:TypeId} {o:Option Addr} {zs:List Value},wr.ownsRow b Y sz (.slice o n cap) n zs→Y≠91→(wr.setCell ⟨w.heap.size+1,5,none⟩ (.int .i64 (gJ S.fr S.G))).ownsRow b Y sz (.slice o n cap) n zs:=fun {b n cap sz Y o zs} ho h1=>ai ho fun k q=>by
  obtain⟨cur,hc⟩:=aK ho (aI q)
  exact kT hc h1
 have fE:cP (wr.setCell ⟨w.heap.size+1,5,none⟩ (.int .i64 (gJ S.fr S.G))) (w.heap.size+1) (qj clo cls.length clc nO S.D.length nC vo F.length vc po S.G.length pc lo L.length lc (gJ S.fr S.G)) S.D nO nC S.fr S.G po pc:=⟨⟨aA hm.mc.st.blk 5 (.int .i64 (gJ S.fr S.G)),rfl,kR hm.mc.st.own (by decide),hm.mc.st.ty⟩,hm.mc.ok,rfl,kR hm.mc.pool (by decide),fun g hg=>kR (hm.mc.nds g hg) (by decide),hm.mc.nlt,hm.mc.nl⟩
 have jl:=kR hm.lg (by decide)
 have hzb:=(kT h.zb (by decide)).trans h.zb
 refine(Jl _ _ cls clo clc F vo vc L lo lc S nO nC po pc (gJ S.fr S.G) fE hm.to (fun _=>True) (hm.ar.keep fun g _ _ hg=>⟨(kT hg (by decide)).trans hg,trivial⟩) (kR hm.vr (by decide)) hm.vl hm.vb hm.tb hm.gw (CE.below aO) (Oi _ _) hF h.gl (fun v hv=>by have:=h.sm.1 v hv;omega) (fun g hg x hx hne=>by have:=h.sm.2 g hg x hx hne;omega)).mono ?_
 rintro e w' ⟨xo,xc,go,gc,yo,yc,rfl,h1,h2,h3,h4,h5⟩
 have hsz:w.heap.size≤(wr.setCell ⟨w.heap.size+1,5,none⟩ (.int .i64 (gJ S.fr S.G))).heap.size:=aO.size
 have V8:w.heap.size<(wr.setCell ⟨w.heap.size+1,5,none⟩ (.int .i64 (gJ S.fr S.G))).heap.size:=ag hzb
 have EZ:∀k,rowOf lo k→w.heap.size<k:=fun k q=>by
  have q1:=h.rw_ k (Or.inr (Or.inr q))
  have q2:k≠w.heap.size:=fun e=>aR hm.lg h.zb (by decide) (e ▸ q)
  omega
 have RF:w'.ownsRow w.heap.size 3 1 (.slice lo L.length lc) L.length (L.map fU):=by
  have q:=ai jl fun k q=>h5.block k (jl.lt k q).2
  refine⟨q.1,?_⟩
  rcases q.2 with r | ⟨g,cap,cur,r1,r2,r3⟩
  ·exact Or.inl r
  ·refine Or.inr ⟨g,cap,cur,r1,?_,r3⟩
   simp only[Value.slice.injEq]at r1
   exact Nat.le_of_lt (EZ g ⟨_,r1.1,rfl⟩)
 refine⟨xo,xc,go,gc,yo,yc,rfl,?_,aO.trans (h5.mono hsz),(h5.block _ V8).trans hzb,fun vs _=> ?_⟩
 ·exact⟨j,S,L,lo,lc,h.ru,Or.inl ⟨hj,xo,xc,go,gc,yo,yc,rfl,RF,ct h1 hsz,ct h2 hsz,ct h3 hsz,h4⟩⟩
 ·have kk:∀k,k≠w.heap.size→(((((w'.setCell ⟨w.heap.size,0,none⟩ (vs[0]?.getD (.int .i64 0))).setCell ⟨w.heap.size,1,none⟩ (vs[1]?.getD (.int .i64 0))).setCell ⟨w.heap.size,2,none⟩ (vs[2]?.getD (.int .i64 0))).setCell ⟨w.heap.size,3,none⟩ (vs[3]?.getD (.int .i64 0))).setCell ⟨w.heap.size,4,none⟩ (vs[4]?.getD (.int .i64 0))).heap[k]?=w'.heap[k]?:=fun k q=>by
   rw[aJ _ _ _ _ q,aJ _ _ _ _ q,aJ _ _ _ _ q,aJ _ _ _ _ q,aJ _ _ _ _ q]
  exact⟨j,S,L,lo,lc,h.ru,Or.inl ⟨hj,xo,xc,go,gc,yo,yc,rfl,ai RF fun k q=>kk k (by have:=EZ k (aI q);omega),ai (ct h1 hsz) fun k q=>kk k (by have:=(h1.lt k q).1;omega),ai (ct h2 hsz) fun k q=>kk k (by have:=(h2.lt k q).1;omega),ai (ct h3 hsz) fun k q=>kk k (by have:=(h3.lt k q).1;omega),h4⟩⟩
theorem kU.res {w:World} {LL:List Int} {lo:Option Addr} {lc:Nat} {en:Int} {wr:World} (h:kU wr (w.heap.size+1) LL lo lc en) (hen:en=4∨en=5∨en=6) (aO:Below w.heap.size w wr) (hzb:wr.heap[w.heap.size]?=some (.cells #[.int .i64 0,.slice none 0 0,.slice none 0 0,.slice none 0 0,.slice none 0 0] 32 (0,0))) (fQ:∀k,rowOf lo k→w.heap.size≤k):
 Calls Tryz.prog 47 #[.pointer (some ⟨w.heap.size+1,0,none⟩)] wr fun e w'=>e= .returned (.agg #[.int .i64 en,.slice lo LL.length lc,.slice none 0 0,.slice none 0 0,.slice none 0 0])∧Below w.heap.size w w'∧w'.heap[w.heap.size]?=some (.cells #[.int .i64 0,.slice none 0 0,.slice none 0 0,.slice none 0 0,.slice none 0 0] 32 (0,0))∧w'.ownsRow (w.heap.size+1) 3 1 (.slice lo LL.length lc) LL.length (LL.map fU):=by
 refine(Ga wr _ LL lo lc en h hen).mono ?_
 rintro e w' ⟨rfl,hb⟩
 obtain⟨cs,_,_,_,_,ho⟩:=h
 refine⟨rfl,aO.trans (hb.mono aO.size),(hb.block _ (ag hzb)).trans hzb,?_⟩
 have q:=ai ho fun k q=>hb.block k (ho.lt k q).2
 refine⟨q.1,?_⟩
 rcases q.2 with r | ⟨g,cap,cur,r1,r2,r3⟩
 ·exact Or.inl r
 ·refine Or.inr ⟨g,cap,cur,r1,?_,r3⟩
  simp only[Value.slice.injEq]at r1
  have h1:=fQ g ⟨_,r1.1,rfl⟩
  have h2:g≠w.heap.size:=fun e=>aR ho hzb (by decide) ⟨_,r1.1,e.symm⟩
  omega
end Go.Proofs.YthfjnfcekeknlaaGreatDoor
namespace Za
open Go.Proofs.YthfjnfcekeknlaaGreatDoor (dL)
def vn (k:Nat):U:= .v ([],k)
def cJ (d:Nat):U:= .n 3 [] (d:Int) []
def nlU:U:= .n 1 [110] 0 []
def CP (h t:U):U:= .n 1 [99] 0 [h,t]
def lsU:List Nat→U
 | []=>nlU
 | d :: l=>CP (cJ d) (lsU l)
def M4 (u:U):Prop:=∀x,¬has x u
theorem M4.sub {u:U} (h:M4 u) (σ:Vr→U):sub σ u=u:=by
 rw[sub_congr (τ:= .v) u (fun x hx=>absurd hx (h x)),sub_self]
theorem RG {x:Vr} {d:Nat} {t:U}:has x (CP (cJ d) t)↔has x t:=by
 unfold CP cJ
 simp[has,sy]
theorem gnd_ls:∀l,M4 (lsU l)
 | []=>fun x h=>by unfold lsU nlU at h;simp[has,sy]at h
 | d :: l=>fun x h=>gnd_ls l x (RG.1 h)
theorem Oj (d:Nat) (t:U):size (CP (cJ d) t)=size t+2:=by
 unfold CP cJ
 simp[size,sizeL]
 omega
theorem size_ls:∀l,size (lsU l)=2*l.length+1
 | []=>by unfold lsU nlU;simp[size,sizeL]
 | d :: l=>by rw[lsU,Oj,size_ls l,List.length_cons];omega
theorem iw (σ:Vr→U) (k:Nat):sub σ (vn k)=σ ([],k):=rfl
theorem jN (x:Vr) (b:U):one x b x=b:=by unfold one;rw[if_pos rfl]
theorem iy {x y:Vr} (b:U) (h:y≠x):one x b y= .v y:=by unfold one;rw[if_neg h]
theorem np {i j:Nat} (h:i≠j):(([],i):Vr)≠([],j):=fun q=>h (congrArg Prod.snd q)
theorem wN {k:Nat} {t:U} (hn:¬has ([],k) t) (ht:∀y,t≠ .v y):ek (vn k) t (one ([],k) t):=by
 refine⟨?_,fun θ h x=> ?_,fun x y h=> ?_⟩
 ·rw[iw,jN];exact(OP hn).symm
 ·by_cases q:x=([],k)
  ·rw[q,jN];exact h.symm
  ·rw[iy _ q];rfl
 ·by_cases q:x=([],k)
  ·rw[q,jN]at h;exact absurd h (ht y)
  ·rw[iy _ q]at h
   injection h with h
   rw[h];exact⟨rfl,Nat.le_refl _⟩
def MG.rd (a:U) (sg:List UInt8) (b:U) (op:List UInt8) (c:U):MG:=⟨a,sg,b,op,c,false,fun _=>False⟩
theorem Js (σ:Vr→U) (a:U) (sg:List UInt8) (b:U) (op:List UInt8) (c:U):(MG.rd a sg b op c).put σ=MG.rd (sub σ a) sg (sub σ b) op (sub σ c):=by
 have h:¬(MG.rd a sg b op c).stays σ:=fun q=>by cases q.1
 unfold MG.put
 have e1:@decide ((MG.rd a sg b op c).stays σ) (Classical.propDecidable _)=false:=@decide_eq_false _ (_) h
 have e2:(fun v=>(MG.rd a sg b op c).stays σ∧(MG.rd a sg b op c).on v)=fun _=>False:=funext fun v=>propext ⟨fun q=>h q.1,fun q=>q.elim⟩
 rw[e1,e2]
 rfl
theorem Jt (σ:Vr→U):sub σ zU=zU:=rfl
def jW (D:Nat→Bool) (k:Nat):Nat→Bool:=fun i=>D i||i == k
theorem CQ (D:Nat→Bool) (k:Nat):jW D k k=true:=by simp[jW]
theorem rO {D:Nat→Bool} {k i:Nat} (h:i≠k):jW D k i=D i:=by simp[jW,h]
end Za
