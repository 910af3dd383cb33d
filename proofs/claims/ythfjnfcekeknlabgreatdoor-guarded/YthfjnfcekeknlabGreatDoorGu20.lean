import Derived.Test.YthfjnfcekeknlabGreatDoorGu03
import Derived.Test.YthfjnfcekeknlabGreatDoorGu12
import Derived.Test.YthfjnfcekeknlabGreatDoorGu13
import Derived.Test.YthfjnfcekeknlabGreatDoorGu19
set_option maxHeartbeats 8000000
set_option maxRecDepth 100000
namespace Go.Proofs.YthfjnfcekeknlabGreatDoor
open Go.RowKit
structure fy (P:Nat→Prop) (w:World) (sb so:Nat) (cs:Array Value) (T:TypeId) (cb:Nat) (D:List Ng) (V:List Nat) (no:Option Addr) (nc:Nat) (vo:Option Addr) (vc:Nat) (fr:Nat→Nat) (TT:Nat→Zf.U):Prop where
 ad:fI P w sb so cs T cb D V no nc vo vc
 ok:bZ D fr
 to:Zf.dI (aX D) fr TT
 lt:∀n∈V,n<D.length
def bT (TT:Nat→Zf.U) (V:List Nat) (N:List (List UInt8)) (y:List UInt8):Zf.U:=TT ((V[N.idxOf y]?).getD 0)
section
variable {P:Nat→Prop} {w:World} {sb so:Nat} {cs:Array Value} {T:TypeId} {cb:Nat} {D:List Ng} {V:List Nat} {no:Option Addr} {nc:Nat} {vo:Option Addr} {vc:Nat} {fr:Nat→Nat} {TT:Nat→Zf.U}
theorem fy.gr (h:fy P w sb so cs T cb D V no nc vo vc fr TT):gj w w.heap.size sb so cs T D no nc fr TT (fun g=>P g∧¬rowOf vo g):=⟨h.ad.st,h.ok,h.to,h.ad.args,Nat.le_refl _⟩
theorem fy.below (h:fy P w sb so cs T cb D V no nc vo vc fr TT) {w':World} (hb:Below w.heap.size w w'):fy P w' sb so cs T cb D V no nc vo vc fr TT:=⟨h.ad.below hb,h.ok,h.to,h.lt⟩
theorem fy.fQ (h:fy P w sb so cs T cb D V no nc vo vc fr TT) {w':World} (hk:∀(g:Nat) (ys:Array Value) (S:TypeId),w.heap[g]?=some (.cells ys S (0,0))→(S=T∨S=147∨S=90∨S=3)→w'.heap[g]?=w.heap[g]?):fy P w' sb so cs T cb D V no nc vo vc fr TT:=by
 refine⟨⟨⟨(hk sb _ _ h.ad.st.blk (Or.inl rfl)).trans h.ad.st.blk,h.ad.st.cel,ai h.ad.st.own fun g q=> ?_,h.ad.st.ty⟩,⟨(hk cb _ _ h.ad.sc.blk (Or.inr (Or.inr (Or.inl rfl)))).trans h.ad.sc.blk,ai h.ad.sc.own fun g q=> ?_⟩,h.ad.t1,h.ad.t2,h.ad.args.keep fun g _ hp hg=>⟨(hk g _ _ hg (Or.inr (Or.inr (Or.inr rfl)))).trans hg,hp⟩⟩,h.ok,h.to,h.lt⟩
 ·obtain⟨cur,hc⟩:=aH h.ad.st.own (aG q)
  exact hk g _ _ hc (Or.inr (Or.inl rfl))
 ·obtain⟨cur,hc⟩:=aH h.ad.sc.own (aG q)
  exact hk g _ _ hc (Or.inr (Or.inr (Or.inr rfl)))
end
def UC (P:Nat→Prop) (sb so:Nat) (cs:Array Value) (T:TypeId) (cb:Nat) (D:List Ng) (V:List Nat) (no:Option Addr) (vo:Option Addr) (fr:Nat→Nat) (TT:Nat→Zf.U) (N ns:List (List UInt8)) (t:Zf.Tm) (w:World) (e:Ending) (w':World):Prop:=
 ∃(n:Nat) (E:List Ng) (F:List Nat) (no':Option Addr) (nc':Nat) (vo':Option Addr) (vc':Nat) (T':Nat→Zf.U),e= .returned (aJ n)∧fy P w' sb so (cs.setIfInBounds so (.slice no' (D++E).length nc')) T cb (D++E) (V++F) no' nc' vo' vc' fr T'∧(∀m,m<D.length→T' m=TT m)∧dD D.length E∧fe D.length E F∧(V++F).length=(Zf.namesF 8 ns t).length∧n<(D++E).length∧T' n=Zf.bJ (bT T' (V++F) N) 8 t∧E.length+1≤6561∧aq (bO sb no cb vo) (bO sb no' cb vo') w w'
theorem Gb {P:Nat→Prop} {w:World} {sb so:Nat} {cs:Array Value} {T:TypeId} {cb:Nat} {D:List Ng} {V:List Nat} {no:Option Addr} {nc:Nat} {vo:Option Addr} {vc:Nat} {fr:Nat→Nat} {TT:Nat→Zf.U} (h:fy P w sb so cs T cb D V no nc vo vc fr TT) (hP:∀g,w.heap.size≤g→P g) (hT:T≠74) {N ns:List (List UInt8)} {Q:Nat→Prop} {a:AV} {t:Zf.Tm} (hr:RA 8 N Q w a t) (hw:Zf.wfK 8 t) (hl:V.length=ns.length) (hN:∃M,N=Zf.namesF 8 ns t++M) (hD:D.length+6561≤1000000000) (hV:V.length+6561≤1000000000):
 Calls Tryz.prog 45 #[.pointer (some ⟨sb,so,none⟩),.agg #[.int .i64 a.k,.int .i64 a.val,.string a.tx,.slice a.ao a.n a.cap],.pointer (some ⟨cb,0,none⟩)] w fun e w'=>UC P sb so cs T cb D V no vo fr TT N ns t w e w':=by
 refine(ag_all 8 P w sb so cs T cb D V no nc vo vc N ns Q a t h.ad hP hT h.lt hr hw hl hN (by simpa using hD) (by simpa using hV)).mono ?_
 rintro e w' ⟨n,E,F,no',nc',vo',vc',rfl,ad,nd,nv,ln,rn,nl,el,fg⟩
 obtain⟨T',hS,he⟩:=Lh h.ok h.to nd
 have hok:=h.ok.more nd
 refine⟨n,E,F,no',nc',vo',vc',T',rfl,⟨ad,hok,hS,?_⟩,he,nd,nv,ln,nl,rn.is hok hS hw,by simpa using el,fg⟩
 intro m hm
 rw[List.length_append]
 rcases List.mem_append.1 hm with q | q
 ·have:=h.lt m q;omega
 ·obtain⟨h1,d,h2,_⟩:=nv.var m q
  have:=(List.getElem?_eq_some_iff.1 h2).1
  omega
end Go.Proofs.YthfjnfcekeknlabGreatDoor
namespace Go.Proofs.YthfjnfcekeknlabGreatDoor
open Go.RowKit
def Lz (P:Nat→Prop) (sb so:Nat) (cs:Array Value) (T:TypeId) (cb:Nat) (D:List Ng) (V:List Nat) (no:Option Addr) (vo:Option Addr) (fr:Nat→Nat) (TT:Nat→Zf.U) (N ns:List (List UInt8)) (x:Zf.aD) (w:World) (e:Ending) (w':World):Prop:=
 ∃(l:Zf.Wn) (E:List Ng) (F:List Nat) (no':Option Addr) (nc':Nat) (vo':Option Addr) (vc':Nat) (T':Nat→Zf.U) (xo:Option Addr) (xn xc:Nat) (yo:Option Addr) (yc:Nat),e= .returned (.agg #[.slice xo xn xc,.slice yo l.wt.length yc,.bool l.no])∧w'.ownsRow w.heap.size 3 1 (.slice yo l.wt.length yc) l.wt.length (l.wt.map aJ)∧l=Zf.cr (bT T' (V++F) N) x∧fy P w' sb so (cs.setIfInBounds so (.slice no' (D++E).length nc')) T cb (D++E) (V++F) no' nc' vo' vc' fr T'∧(∀m,m<D.length→T' m=TT m)∧dD D.length E∧fe D.length E F∧(V++F).length=(Zf.aL ns x).length∧E.length≤13122∧aq (bO sb no cb vo) (bO sb no' cb vo') w w'∧(∀g,rowOf yo g→¬rowOf vo' g)
theorem ir (W:World) {b:Nat} (v0 v1 v2:Value) {k:Nat} (h:k≠b):(((W.setCell ⟨b,0,none⟩ v0).setCell ⟨b,1,none⟩ v1).setCell ⟨b,2,none⟩ v2).heap[k]?=W.heap[k]?:=by rw[aC _ _ _ _ h,aC _ _ _ _ h,aC _ _ _ _ h]
theorem Pc {P:Nat→Prop} {w W:World} {rb sb so:Nat} {cs:Array Value} {T:TypeId} {cb:Nat} {D:List Ng} {V:List Nat} {no':Option Addr} {nc:Nat} {vo:Option Addr} {vc:Nat} {fr:Nat→Nat} {TT:Nat→Zf.U} {R R':Nat→Prop} {ys:Array Value} (h:fy P W sb so cs T cb D V no' nc vo vc fr TT) (hT:T≠102) (hr:W.heap[rb]?=some (.cells ys 102 (0,0))) (hb:w.heap.size≤rb) (hf:aq R R' w W) (v0 v1 v2:Value) {b n:Nat} {v:Value} {zs:List Value} (ho:W.ownsRow b 3 1 v n zs):
 fy P (((W.setCell ⟨rb,0,none⟩ v0).setCell ⟨rb,1,none⟩ v1).setCell ⟨rb,2,none⟩ v2) sb so cs T cb D V no' nc vo vc fr TT∧aq R R' w (((W.setCell ⟨rb,0,none⟩ v0).setCell ⟨rb,1,none⟩ v1).setCell ⟨rb,2,none⟩ v2)∧(((W.setCell ⟨rb,0,none⟩ v0).setCell ⟨rb,1,none⟩ v1).setCell ⟨rb,2,none⟩ v2).ownsRow b 3 1 v n zs:=by
 refine⟨h.fQ fun g xs S hg hS=>ir W v0 v1 v2 fun e=> ?_,⟨hf.os,hf.tape,hf.output,by simp only[bS];exact hf.size,fun k hk hn=>(ir W v0 v1 v2 (by omega)).trans (hf.block k hk hn),hf.row⟩,ai ho fun g q=>ir W v0 v1 v2 fun e=> ?_⟩
 ·subst e
  rw[hr]at hg
  simp only[Option.some.injEq,Obj.cells.injEq]at hg
  obtain⟨_,rfl,_⟩:=hg
  rcases hS with e | e | e | e
  ·exact hT e.symm
  all_goals exact absurd e (by decide)
 ·subst e
  obtain⟨o,cap,rfl⟩:=gH ho
  obtain⟨cur,hc⟩:=aH ho (aG q)
  rw[hr]at hc
  simp only[Option.some.injEq,Obj.cells.injEq]at hc
  exact absurd hc.2.1 (by decide)
end Go.Proofs.YthfjnfcekeknlabGreatDoor
namespace Zf
theorem zL {η:List UInt8→U} {B:Nat} (hB:1≤B) (f:Nat) (t:Tm) (ns:List (List UInt8)) (hw:wfK f t) (hη:∀y∈namesF f ns t,size (η y)≤B):2*size (bJ η f t)+1≤B*3 ^ f:=by
 rw[gN (θ:=fun y=>if y∈namesF f ns t then η y else .v ([],0)) f t ns hw (fun y hy=>(if_pos hy).symm)]
 refine Bl hB (fun y=> ?_) f t hw
 split
 ·rename_i h;exact hη y h
 ·simpa [size] using hB
end Zf
namespace Go.Proofs.YthfjnfcekeknlabGreatDoor
open Go.RowKit
theorem rh {T T':Nat→Zf.U} {V F:List Nat} {N M ns:List (List UInt8)} {b:Nat} {y:List UInt8} (hy:y∈ns) (hN:N=ns++M) (hl:V.length=ns.length) (hlt:∀n∈V,n<b) (he:∀m,m<b→T' m=T m):bT T' (V++F) N y=bT T V N y:=by
 unfold bT
 have h1:N.idxOf y<V.length:=by
  rw[hN,List.idxOf_append,if_pos hy,hl]
  exact List.idxOf_lt_length_of_mem hy
 rw[List.getElem?_append_left h1,List.getElem?_eq_getElem h1]
 exact he _ (hlt _ (List.getElem_mem h1))
theorem xw {T:Nat→Zf.U} {V:List Nat} {N M ns:List (List UInt8)} {y:List UInt8} (hy:y∈ns) (hN:N=ns++M) (hl:V.length=ns.length):∃n∈V,bT T V N y=T n:=by
 have h1:N.idxOf y<V.length:=by
  rw[hN,List.idxOf_append,if_pos hy,hl]
  exact List.idxOf_lt_length_of_mem hy
 refine⟨V[N.idxOf y],List.getElem_mem h1,?_⟩
 unfold bT
 rw[List.getElem?_eq_getElem h1]
 rfl
theorem rq {P:Nat→Prop} {w:World} {sb so:Nat} {cs:Array Value} {T:TypeId} {cb:Nat} {D E:List Ng} {V F:List Nat} {no:Option Addr} {nc:Nat} {vo:Option Addr} {vc:Nat} {fr:Nat→Nat} {TT T':Nat→Zf.U} (h:fy P w sb so cs T cb (D++E) (V++F) no nc vo vc fr T') (nd:dD D.length E) (nv:fe D.length E F) (he:∀m,m<D.length→T' m=TT m) (hV:∀n∈V,n<D.length) {B:Nat} (hB:1≤B) (hs:∀n∈V,Zf.size (TT n)≤B):∀n∈V++F,Zf.size (T' n)≤B:=fun n hn=>by
 rcases List.mem_append.1 hn with q | q
 ·rw[he n (hV n q)];exact hs n q
 ·obtain⟨h1,d,h2,h3⟩:=nv.var n q
  have hl:=h.lt n hn
  have hnx:=(nd.at h1 hl).1
  have hf:fr n=n:=(h.ok.self hl).2 hnx
  have hd:(D++E)[fr n]?=some d:=by rw[hf,List.getElem?_append_right h1];exact h2
  rw[(h.gr.lW hl hd).2 h3]
  simpa [Zf.size] using hB
theorem xA {sg:ByteArray} {l:List UInt8} (h:sg.toList=l) (m:List UInt8) (b:Bool) (hb:(l == m)=b):(sg.toList == m)=b:=by rw[h];exact hb
theorem Jg {sg:ByteArray} (eq:Bool) (h:sg.toList=if eq=true then [61,60]else [60]):sg=BM eq:=by
 apply toList_inj
 rw[h]
 unfold BM
 cases eq<;>simp
theorem DJ {P:Nat→Prop} {w:World} {sb so:Nat} {cs:Array Value} {T:TypeId} {cb:Nat} {D:List Ng} {V:List Nat} {no:Option Addr} {nc:Nat} {vo:Option Addr} {vc:Nat} {fr:Nat→Nat} {TT:Nat→Zf.U} (h:fy P w sb so cs T cb D V no nc vo vc fr TT) (hP:∀g,w.heap.size≤g→P g) (hT:T≠74) (hTi:T≠125) (hTl:T≠102) {N ns:List (List UInt8)} {v:JV} {x:Zf.aD} (hi:kO N w v x) (hx:Zf.gW x) (hl:V.length=ns.length) (hN:∃M,N=Zf.aL ns x++M) (hD:D.length+13122≤1000000000) (hV:V.length+13122≤1000000000) (hs:∀n∈V,Zf.size (TT n)≤300) (r:Zf.Tm) (hr:x.right=some r) (hsc:x.sign=[61,60]∨x.sign=[60]):
 Calls Tryz.prog 192 #[.pointer (some ⟨sb,so,none⟩),.agg #[.int .i64 v.a.k,.int .i64 v.a.val,.string v.a.tx,.slice v.a.ao v.a.n v.a.cap,.string v.sg,.int .i64 v.b.k,.int .i64 v.b.val,.string v.b.tx,.slice v.b.ao v.b.n v.b.cap,.string v.op,.int .i64 v.c.k,.int .i64 v.c.val,.string v.c.tx,.slice v.c.ao v.c.n v.c.cap],.pointer (some ⟨cb,0,none⟩)] w fun e w'=>Lz P sb so cs T cb D V no vo fr TT N ns x w e w':=by
 obtain⟨⟨ak,av,ax,ao,an,ac⟩,⟨bk,bv,bx,bo,bn,bc⟩,⟨ck,cv,cx,co,cn,cc⟩,sg,op⟩:=v
 dsimp only
 have hnI:Zf.aL ns x=Zf.namesF 8 (Zf.namesF 8 ns x.left) r:=by unfold Zf.aL;rw[hr,hx.la];rfl
 rw[hnI]at hN
 obtain⟨K,hK⟩:=Zf.namesV_ext 8 r (Zf.namesF 8 ns x.left)
 obtain⟨M,hM⟩:=hN
 have hN1:∃M,N=Zf.namesF 8 ns x.left++M:=⟨K++M,by rw[hM,hK,List.append_assoc]⟩
 have hN2:∃M,N=Zf.namesF 8 (Zf.namesF 8 ns x.left) r++M:=⟨M,hM⟩
 have Gc:=hi.sign
 dsimp only at Gc
 have hB1:=((Below.refl w.heap.size w).alloc (Nat.le_refl _) (.cells #[.int .i64 ak,.int .i64 av,.string ax,.slice ao an ac,.string sg,.int .i64 bk,.int .i64 bv,.string bx,.slice bo bn bc,.string op,.int .i64 ck,.int .i64 cv,.string cx,.slice co cn cc] 125)).alloc (by simp) (.cells #[.slice none 0 0,.slice none 0 0,.bool false] 102)
 have hx1:=aA (heap_alloc_new w (.cells #[.int .i64 ak,.int .i64 av,.string ax,.slice ao an ac,.string sg,.int .i64 bk,.int .i64 bv,.string bx,.slice bo bn bc,.string op,.int .i64 ck,.int .i64 cv,.string cx,.slice co cn cc] 125)) (.cells #[.slice none 0 0,.slice none 0 0,.bool false] 102)
 have hr1:=heap_alloc_new (w.alloc (.cells #[.int .i64 ak,.int .i64 av,.string ax,.slice ao an ac,.string sg,.int .i64 bk,.int .i64 bv,.string bx,.slice bo bn bc,.string op,.int .i64 ck,.int .i64 cv,.string cx,.slice co cn cc] 125)) (.cells #[.slice none 0 0,.slice none 0 0,.bool false] 102)
 rw[World.size_alloc]at hr1
 have h1:=h.below hB1
 have ra1:=(aK.below hB1).ra hi.left
 have XC:=hide ((aK.below hB1).ra (hi.right r hr))
 have IA:=hide (Gb h1 (fun g hg=>hP g (Nat.le_trans hB1.size hg)) hT ra1 hx.wl hl hN1 (by omega) (by omega))
 have HP:=hide (show∀g,(((w.alloc (.cells #[.int .i64 ak,.int .i64 av,.string ax,.slice ao an ac,.string sg,.int .i64 bk,.int .i64 bv,.string bx,.slice bo bn bc,.string op,.int .i64 ck,.int .i64 cv,.string cx,.slice co cn cc] 125)).alloc (.cells #[.slice none 0 0,.slice none 0 0,.bool false] 102))).heap.size≤g→P g from fun g hg=>hP g (Nat.le_trans hB1.size hg))
 have H1:=hide h1
 have UD:=hide hx1
 have rT:=hide hr1
 have bC:=hide hB1
 have XD:=hide hnI
 have zI:=hide hN1
 have nG:=hide hN2
 have Ny:=hide hx
 have Er:=hide hr
 have jv:=hide hs
 have vt:=hide h.lt
 have t0:(sg.toList == [])=false:=by rcases hsc with e | e<;>exact xA (Gc.trans e) _ _ rfl
 have Es:=hide Gc
 have Jh:=hide hsc
 have xj:=hide hl
 clear h hi h1 ra1 hx1 hr1 hB1 hnI hx hr hN1 hN2 hl hs hM hK hP Gc hsc
 go_enter Tryz.func192,Tryz.ntmps192
 go_wp2_with fail
 refine(ae IA).mono ?_
 rintro e w2 ⟨n,E,F,no2,nc2,vo2,vc2,T2,rfl,m2,e2,nd2,nv2,ln2,nl2,tn2,el2,fg2⟩
 have hx2:=(ae H1).ad.blk fg2 (ae UD) (Ne.symm hTi) (by decide) (by decide) (by decide)
 have hr2:=(ae H1).ad.blk fg2 (ae rT) (Ne.symm hTl) (by decide) (by decide) (by decide)
 have QW:=(ae H1).ad.ra hT fg2 (ae XC)
 have lV:(V++F).length≤V.length+6561:=by
  have q1:=Zf.namesK_len 8 x.left ns (ae Ny).wl
  have q3:3 ^ 8=6561:=by decide
  rw[List.length_append]at ln2⊢
  have q4:=ae xj
  omega
 have IB:=hide (Gb m2 (fun g hg=>ae HP g (Nat.le_trans fg2.size hg)) hT QW ((ae Ny).wr r (ae Er)) ln2 (ae nG) (by rw[List.length_append];omega) (by omega))
 have z1:=af hx2
 have z2:=af hr2
 have c0:=ah hx2
 have fg:=(aq.of_below (R:=bO sb no cb vo) (ae bC)).trans fg2
 have xk:=hide m2
 have rO:=hide (And.intro e2 (And.intro nd2 (And.intro nv2 (And.intro ln2 (And.intro el2 (And.intro nl2 tn2))))))
 have UE:=hide fg
 have Nz:=hide hx2
 have mI:=hide hr2
 clear m2 e2 nd2 nv2 ln2 nl2 tn2 el2 fg2 hx2 hr2 fg IA H1 UD rT lV QW
 unfold aJ
 go_wp2_with fail
 refine(ae IB).mono ?_
 rintro e w3 ⟨n',E',F',no3,nc3,vo3,vc3,T3,rfl,m3,e3,nd3,nv3,ln3,nl3,tn3,el3,fg3⟩
 unfold aJ
 obtain⟨e2,nd2,nv2,ln2,el2,nl2,tn2⟩:=ae rO
 have hx3:=(ae xk).ad.blk fg3 (ae Nz) (Ne.symm hTi) (by decide) (by decide) (by decide)
 have hr3:=(ae xk).ad.blk fg3 (ae mI) (Ne.symm hTl) (by decide) (by decide) (by decide)
 have fg:=(ae UE).trans fg3
 rw[set_set]at m3
 have AL:(V++F).length=(Zf.namesF 8 ns x.left).length:=ln2
 obtain⟨M1,hM1⟩:=ae zI
 obtain⟨M2,hM2⟩:=ae nG
 have tn2':T3 n=Zf.bJ (bT T3 (V++F++F') N) 8 x.left:=by
  rw[e3 n nl2,tn2]
  exact(Zf.gN 8 x.left ns (ae Ny).wl fun y hy=>rh hy hM1 AL (ae xk).lt e3).symm
 have sz2:=rq (ae xk) nd2 nv2 e2 (ae vt) (B:=300) (by omega) (ae jv)
 have sz3:=rq m3 nd3 nv3 e3 (ae xk).lt (B:=300) (by omega) sz2
 have hsz:Zf.size (T3 n)≤1000000:=by
  have q:=Zf.zL (η:=bT T3 (V++F++F') N) (B:=300) (by omega) 8 x.left ns (ae Ny).wl (fun y hy=>by
   rw[rh hy hM1 AL (ae xk).lt e3]
   obtain⟨m,hm,he⟩:=xw (T:=T2) hy hM1 AL
   rw[he]
   exact sz2 m hm)
  have q3:3 ^ 8=6561:=by decide
  rw[q3]at q
  rw[tn2']
  omega
 have nl2':n<(D++E++E').length:=by rw[List.length_append];omega
 have cH:=hide (show Zf.cr (bT T3 (V++F++F') N) x=if x.sign=[61,61]then Zf.kK (T3 n) (T3 n')else if x.sign=[92,61]then Zf.oL (T3 n) (T3 n')else Zf.bh (decide (x.sign=[61,60])) (T3 n) (T3 n')by
  unfold Zf.cr
  rw[ae Er]
  dsimp only
  rw[←tn2',←tn3])
 have Gd:=hide (show∀(l:Zf.Wn) (w4:World) (xo:Option Addr) (xn xc:Nat) (yo:Option Addr) (yc:Nat),Zf.cr (bT T3 (V++F++F') N) x=l→w4.ownsRow w3.heap.size 3 1 (.slice yo l.wt.length yc) l.wt.length (l.wt.map aJ)→Below w3.heap.size w3 w4→Lz P sb so cs T cb D V no vo fr TT N ns x w (.returned (.agg #[.slice xo xn xc,.slice yo l.wt.length yc,.bool l.no])) (((w4.setCell ⟨w.heap.size+1,0,none⟩ (.slice xo xn xc)).setCell ⟨w.heap.size+1,1,none⟩ (.slice yo l.wt.length yc)).setCell ⟨w.heap.size+1,2,none⟩ (.bool l.no))from fun l w4 xo xn xc yo yc hl ho hb=>by
  have hr4:=(hb.block _ (af hr3)).trans hr3
  obtain⟨g1,g2,g3⟩:=Pc (m3.below hb) hTl hr4 (Nat.le_succ _) (fg.trans (aq.of_below hb)) (.slice xo xn xc) (.slice yo l.wt.length yc) (.bool l.no) ho
  have hk:∀g,rowOf yo g→¬rowOf vo3 g:=fun g q r=>by
   obtain⟨p,hp,hq⟩:=q
   have k1:=(ho.lt g (by rw[hp,hq];rfl)).1
   obtain⟨p',hp',hq'⟩:=r
   have k2:=(m3.ad.sc.own.lt g (by rw[hp',hq'];rfl)).2
   omega
  rw[List.append_assoc V,List.append_assoc D]at g1
  rw[List.append_assoc V]at hl
  refine⟨l,E++E',F++F',no3,nc3,vo3,vc3,T3,xo,xn,xc,yo,yc,rfl,bV g3 fg.size,hl.symm,g1,fun m hm=>(e3 m (by rw[List.length_append];omega)).trans (e2 m hm),nd2.app (by rw[←List.length_append];exact nd3),nv2.app (by rw[←List.length_append];exact nv3),by rw[←List.append_assoc,ln3,ae XD],by rw[List.length_append];omega,g2,hk⟩)
 have IR:=hide (fun(eq:Bool)=>BO w3 sb so _ T _ no3 nc3 fr T3 _ n n' eq m3.gr nl2' nl3)
 have y1:=af hx3
 have y2:=af hr3
 have f0:=ah hx3
 have Et:=hide hr3
 clear m3 e3 nd3 nv3 ln3 nl3 tn3 el3 fg3 hx3 hr3 fg e2 nd2 nv2 ln2 el2 nl2 tn2 AL hM1 hM2 tn2' sz2 sz3 hsz nl2' c0 z1 z2 xk rO UE Nz mI IB
 rcases ae Jh with hq | hq
 ·have t1:(sg.toList == [61,61])=false:=xA ((ae Es).trans hq) _ _ rfl
  have t2:(sg.toList == [92,61])=false:=xA ((ae Es).trans hq) _ _ rfl
  obtain rfl:sg=BM true:=Jg true ((ae Es).trans hq)
  have Eu:=hide (show Zf.cr (bT T3 (V++F++F') N) x=Zf.bh true (T3 n) (T3 n')by rw[ae cH,hq];rfl)
  clear hq cH
  go_wp2_with fail
  refine(ae IR true).mono ?_
  rintro e w4 ⟨xo,xn,xc,yo,yc,rfl,own4,hb4⟩
  have hr4:=(hb4.block _ y2).trans (ae Et)
  have y4:=af hr4
  have d0:=ah hr4
  have x0:=au hr4
  have HE:=hide (ae Gd _ w4 xo xn xc yo yc (ae Eu) own4 hb4)
  clear hr4 own4 hb4
  generalize Zf.bh true (T3 n) (T3 n')=l at*
  go_wp2_with fail
  refine bodyPost_ret (v:= .agg #[.slice xo xn xc,.slice yo l.wt.length yc,.bool l.no]) (by simp[results,Tryz.results192,go_sem,d0]) rfl ?_
  exact ae HE
 ·have t1:(sg.toList == [61,61])=false:=xA ((ae Es).trans hq) _ _ rfl
  have t2:(sg.toList == [92,61])=false:=xA ((ae Es).trans hq) _ _ rfl
  obtain rfl:sg=BM false:=Jg false ((ae Es).trans hq)
  have Eu:=hide (show Zf.cr (bT T3 (V++F++F') N) x=Zf.bh false (T3 n) (T3 n')by rw[ae cH,hq];rfl)
  clear hq cH
  go_wp2_with fail
  refine(ae IR false).mono ?_
  rintro e w4 ⟨xo,xn,xc,yo,yc,rfl,own4,hb4⟩
  have hr4:=(hb4.block _ y2).trans (ae Et)
  have y4:=af hr4
  have d0:=ah hr4
  have x0:=au hr4
  have HE:=hide (ae Gd _ w4 xo xn xc yo yc (ae Eu) own4 hb4)
  clear hr4 own4 hb4
  generalize Zf.bh false (T3 n) (T3 n')=l at*
  go_wp2_with fail
  refine bodyPost_ret (v:= .agg #[.slice xo xn xc,.slice yo l.wt.length yc,.bool l.no]) (by simp[results,Tryz.results192,go_sem,d0]) rfl ?_
  exact ae HE
theorem RA.less {P:Nat→Prop} {w:World} {N M:List (List UInt8)}:∀{f:Nat} {a:AV} {t:Zf.Tm},RA f (N++M) P w a t→Zf.wfK f t→Zf.Bo N f t→RA f N P w a t
 | f+1,a,t,⟨h,q⟩,⟨_,w2,_,w4⟩,hn=>by
  obtain⟨h1,h2,h3,h4,h5,h6,h7,h8⟩:=h
  unfold Zf.Bo at hn
  refine⟨⟨h1,h2,fun k=> ?_,h4,h5,h6,h7,h8⟩,fun n=> ?_⟩
  ·obtain⟨_,e⟩:=h3 k
   rw[if_pos k]at hn
   exact⟨hn,by rw[e,List.idxOf_append,if_pos hn]⟩
  ·obtain⟨g,us,cs,p1,p2,p3,p4,p5⟩:=q n
   refine⟨g,us,cs,p1,p2,p3,p4,?_⟩
   have k2:t.kind=2:=Decidable.byContradiction fun k=>n (w2 k)
   rw[if_neg (by omega),if_neg (by omega)]at hn
   have:∀(us:List AV) (ts:List Zf.Tm),bR (RA f (N++M) P w) us ts→(∀a∈ts,Zf.wfK f a)→(∀a∈ts,Zf.Bo N f a)→bR (RA f N P w) us ts:=by
    intro us
    induction us with
    | nil=>intro ts ha _ _;cases ts with
     | nil=>trivial
     | cons t ts=>exact ha.elim
    | cons x xs ih=>intro ts ha hw hi;cases ts with
     | nil=>exact ha.elim
     | cons t ts=>exact⟨RA.less ha.1 (hw t (by simp)) (hi t (by simp)),ih ts ha.2 (fun a ha=>hw a (by simp[ha])) (fun a ha=>hi a (by simp[ha]))⟩
   exact this us t.args p5 w4 hn
theorem mG.full {D:List Ng} {TT:Nat→Zf.U} {M:List (List UInt8)} {S:List Int} {l:Zf.bQ} (h:mG D TT M S l.st) (hl:S.length≤M.length) (hk:∀x∈M,x∈l.keys):∃V:List Nat,V.length=M.length∧S=V.map (fun n:Nat=>(n:Int))∧(∀n∈V,n<D.length)∧∀(i:Nat) (x:List UInt8) (n:Nat),M[i]?=some x→V[i]?=some n→∃q,l.st.find? (fun q=>q.1 == x)=some q∧TT n=q.2:=by
 have key:∀(i:Nat) (x:List UInt8),M[i]?=some x→∃(q:List UInt8×Zf.U) (n:Nat),l.st.find? (fun q=>q.1 == x)=some q∧S[i]?=some (n:Int)∧n<D.length∧TT n=q.2:=fun i x hx=>by
  have hm:=hk x (List.mem_of_getElem? hx)
  obtain⟨r,hr,rfl⟩:=List.mem_map.1 hm
  cases e:l.st.find? (fun q=>q.1 == r.1)with
  | none=>exact absurd (List.find?_eq_none.1 e r hr) (by simp)
  | some q=>
   obtain⟨n,h1,h2,h3⟩:=h.kn i r.1 q hx e
   exact⟨q,n,rfl,h1,h2,h3⟩
 have hlen:S.length=M.length:=by
  rcases Nat.lt_or_eq_of_le hl with q | q
  ·obtain⟨_,n,_,h1,_⟩:=key S.length M[S.length] (List.getElem?_eq_getElem q)
   rw[List.getElem?_eq_none (Nat.le_refl _)]at h1
   cases h1
  ·exact q
 have pos:∀s∈S,∃n:Nat,s=(n:Int)∧n<D.length:=fun s hs=>by
  obtain⟨i,hi,rfl⟩:=List.getElem_of_mem hs
  obtain⟨_,n,_,h1,h2,_⟩:=key i M[i] (List.getElem?_eq_getElem (by omega))
  rw[List.getElem?_eq_getElem hi]at h1
  exact⟨n,Option.some.inj h1,h2⟩
 refine⟨S.map Int.toNat,by rw[List.length_map,hlen],?_,fun n hn=> ?_,fun i x n hx hn=> ?_⟩
 ·rw[List.map_map]
  conv=>lhs;rw[←List.map_id S]
  refine List.map_congr_left fun s hs=> ?_
  obtain⟨n,rfl,_⟩:=pos s hs
  simp
 ·obtain⟨s,hs,rfl⟩:=List.mem_map.1 hn
  obtain⟨n,rfl,h2⟩:=pos s hs
  simpa using h2
 ·obtain⟨q,m,h1,h2,_,h4⟩:=key i x hx
  rw[List.getElem?_map,h2]at hn
  simp at hn
  subst hn
  exact⟨q,h1,h4⟩
theorem zM (D:List Ng) (TT:Nat→Zf.U) (M:List (List UInt8)):mG D TT M [] []:=⟨fun _ _ _ _=>Or.inl rfl,fun _ _ _ _ h=>by cases h⟩
def XE (l:Zf.Wn) (w:World) (e:Ending) (w':World):Prop:=
 ∃wo wc,e= .returned (.agg #[.int .i64 (l.says:Int),.slice wo l.wt.length wc,.slice none 0 0])∧w'.ownsRow w.heap.size 3 1 (.slice wo l.wt.length wc) l.wt.length (l.wt.map aJ)∧Below w.heap.size w w'
theorem Ji (w:World) (sb so:Nat) (cs:Array Value) (Ty:TypeId) (D:List Ng) (no:Option Addr) (nc:Nat) (fr:Nat→Nat) (TT:Nat→Zf.U) (PP:Nat→Prop) (a:AV) (o1 o2:Option Addr) (n1 c1 n2 c2 n:Nat) (N M:List (List UInt8)) (p:Zf.Tm) (hG:gj w w.heap.size sb so cs Ty D no nc fr TT PP) (hr:RA 8 N anyA w a p) (hN:N=Zf.namesF 8 [] p++M) (wp:Zf.wfK 8 p) (hn:n<D.length) (hsz:Zf.size (TT n)≤300) (hy:(Zf.matU 8 p (TT n) ⟨[],Zf.Wn.none⟩).w.says≠1):
 Calls Tryz.prog 159 #[.pointer (some ⟨sb,so,none⟩),.agg #[.int .i64 a.k,.int .i64 a.val,.string a.tx,.slice a.ao a.n a.cap,.slice o1 n1 c1,.slice o2 n2 c2],.int .i64 (n:Int)] w fun e w'=>XE (Zf.matU 8 p (TT n) ⟨[],Zf.Wn.none⟩).w w e w':=by
 obtain⟨k,val,tx,ao,m,cp⟩:=a
 dsimp only
 have hq:=RA.less (hN ▸ hr) wp (Zf.sL 8 p [] fun y hy=>hy)
 have hML:=Zf.namesK_len 8 p [] wp
 have hND:=Zf.namesF_nodup 8 p [] (by simp)
 have q3:3 ^ 8=6561:=by decide
 have hu:=(((Below.refl w.heap.size w).alloc (Nat.le_refl _) (.cells #[.int .i64 k,.int .i64 val,.string tx,.slice ao m cp,.slice o1 n1 c1,.slice o2 n2 c2] 76)).alloc (by simp) (.cells #[.int .i64 0,.slice none 0 0,.slice none 0 0] 224)).alloc (by simp;omega) (.cells #[.slice none 0 0,.slice none 0 0,.bool false] 102)
 have hl0:=qZ ((w.alloc (.cells #[.int .i64 k,.int .i64 val,.string tx,.slice ao m cp,.slice o1 n1 c1,.slice o2 n2 c2] 76)).alloc (.cells #[.int .i64 0,.slice none 0 0,.slice none 0 0] 224))
 simp only[World.size_alloc]at hl0
 have pX:=aA (heap_alloc_new (w.alloc (.cells #[.int .i64 k,.int .i64 val,.string tx,.slice ao m cp,.slice o1 n1 c1,.slice o2 n2 c2] 76)) (.cells #[.int .i64 0,.slice none 0 0,.slice none 0 0] 224)) (.cells #[.slice none 0 0,.slice none 0 0,.bool false] 102)
 rw[World.size_alloc]at pX
 have IM:=hide (muG_all 8 anyA w _ (w.heap.size+1+1) sb so cs Ty D no nc fr TT PP _ (Zf.namesF 8 [] p) [] ⟨k,val,tx,ao,m,cp⟩ n p ⟨[],Zf.Wn.none⟩ 300 (hG.up (by omega)) hu hl0 (zM D TT _) (by simp) hND (by simp at hML;omega) hq wp hn hsz (fun q hq=>by cases hq) (by rw[q3];simp[Zf.Wn.none]))
 have HU:=hide hu
 have qG:=hide hl0
 have jw:=hide pX
 have HY:=hide hy
 clear hG hr hN hq hND hML q3 hu hl0 pX hsz hy
 go_enter Tryz.func159,Tryz.ntmps159
 go_wp2_with fail
 refine(ae IM).mono ?_
 rintro e w2 ⟨rfl,S2,R2,h2,-,-,fr2⟩
 generalize hl:(Zf.matU 8 p (TT n) ⟨[],Zf.Wn.none⟩).w=l at*
 have hb2:=(ae qG).under fr2 (ae HU) (by omega)
 have q2:=(fr2.block (w.heap.size+1) (by simp only[World.size_alloc];omega) (lO (by omega))).trans (ae jw)
 have Ev:=hide (zj w2 _ S2 l.wt l.no R2 h2)
 rw[AH]at Ev
 obtain⟨xo,xc,yo,yc,h2,rfl⟩:=h2
 have c1':=ah h2.blk 1
 have cz:=af h2.blk
 have d0:=ah q2
 have x0:=au q2
 have dz:=af q2
 simp only[List.getElem?_toArray,List.getElem?_cons_zero,List.getElem?_cons_succ]at c1'
 have t1:((l.says:Int) == 1)=false:=by have:=ae HY;simp;omega
 have t2:((l.says:Int) != 1)=true:=by have:=ae HY;simp;omega
 have HO:=hide h2.wown
 have zN:=hide (fun(W:World) (hb:Below w2.heap.size w2 W)=>BL W (w.heap.size+1+1) l.wt l.no xo S2.length xc yo yc ((hb.block _ (af h2.blk)).trans h2.blk))
 rw[AH]at zN
 have HB:=hide hb2
 have QX:=hide hl
 clear h2 hb2 fr2 q2 IM hl qG HU jw
 go_wp2_with fail
 refine(ae Ev).mono ?_
 rintro e w3 ⟨rfl,rfl⟩
 go_wp2_with fail
 go_region_with (go_at_call 47;refine(ae zN _ (by first | exact Below.refl _ _ | exact(Below.refl _ _).drew | exact(Below.refl _ _).drew.drew | exact(Below.refl _ _).drew.drew.drew | exact(Below.refl _ _).drew.drew.drew.drew)).mono ?_;rintro e w5 ⟨rfl,rfl⟩)
 all_goals
  go_wp2_with fail
  refine bodyPost_ret (v:= .agg #[.int .i64 (l.says:Int),.slice yo l.wt.length yc,.slice none 0 0]) (by simp[results,Tryz.results159,go_sem,d0]) rfl ?_
  rw[ae QX]
  have jV:∀g,g≠w.heap.size+1→(((w3.setCell ⟨w.heap.size+1,0,none⟩ (.int .i64 (l.says:Int))).setCell ⟨w.heap.size+1,1,none⟩ (.slice yo l.wt.length yc)).setCell ⟨w.heap.size+1,2,none⟩ (.slice none 0 0)).heap[g]?=w3.heap[g]?:=fun g hg=>ir w3 _ _ _ hg
  exact⟨yo,yc,rfl,bV (ai (ae HO) (fun g q=>jV g (by have:=((ae HO).lt g q).1;omega))) (by omega),((((ae HB).setCell (Nat.le_succ _) _).setCell (Nat.le_succ _) _).setCell (Nat.le_succ _) _).drew⟩
end Go.Proofs.YthfjnfcekeknlabGreatDoor
namespace Zf
def iE (g:aD→Wn):List aD→Wn→Wn
 | [],l=>l
 | x :: xs,l=>iE g xs (l.also (g x))
theorem xB (g:aD→Wn) (x:aD):∀(xs:List aD) (l:Wn),iE g (xs++[x]) l=(iE g xs l).also (g x)
 | [],_=>rfl
 | y :: ys,l=>xB g x ys (l.also (g y))
theorem vA {g h:aD→Wn}:∀(xs:List aD) (l:Wn),(∀x∈xs,g x=h x)→iE g xs l=iE h xs l
 | [],_,_=>rfl
 | y :: ys,l,e=>by rw[iE,iE,e y (by simp)];exact vA ys _ fun x hx=>e x (by simp[hx])
def fP (η:List UInt8→U) (xs:List aD):Wn:=iE (cr η) xs Wn.none
theorem LC (η:List UInt8→U) (xs:List aD) (x:aD):fP η (xs++[x])=(fP η xs).also (cr η x):=xB _ _ _ _
theorem Cj {η θ:List UInt8→U} (x:aD) (ns:List (List UInt8)) (hx:gW x) (h:∀y∈aL ns x,η y=θ y):cr η x=cr θ x:=by
 unfold aL at h
 rw[hx.la]at h
 unfold cr
 cases hr:x.right with
 | none=>
  rw[hr]at h
  dsimp only
  rw[gN 8 x.left ns hx.wl h]
 | some r=>
  rw[hr]at h
  dsimp only
  rw[gN 8 r (namesF 8 ns x.left) (hx.wr r hr) h,gN 8 x.left ns hx.wl (fun y hy=>h y (by
   obtain⟨K,hK⟩:=namesV_ext 8 r (namesF 8 ns x.left)
   show y∈namesF 8 (namesF 8 ns x.left) r
   rw[hK]
   exact List.mem_append_left _ hy))]
theorem xC (x:aD) (ns:List (List UInt8)):∃K,aL ns x=ns++K:=by
 unfold aL
 have nO:∀(t:Option Tm) (ns:List (List UInt8)),∃K,cL ns t=ns++K:=fun t ns=>by
  cases t with
  | none=>exact⟨[],by simp[cL]⟩
  | some r=>exact namesV_ext 8 r ns
 obtain⟨K1,h1⟩:=namesV_ext 8 x.left ns
 obtain⟨K2,h2⟩:=nO x.right (namesF 8 ns x.left)
 obtain⟨K3,h3⟩:=nO x.last (cL (namesF 8 ns x.left) x.right)
 exact⟨K1++(K2++K3),by rw[h3,h2,h1];simp⟩
theorem qs (ns:List (List UInt8)) (x:aD) (xs:List aD):ay ns (x :: xs)=ay (aL ns x) xs:=by unfold ay;rw[List.foldl_cons]
theorem iU (xs:List aD):∀(ns:List (List UInt8)),∃K,ay ns xs=ns++K:=by
 induction xs with
 | nil=>exact fun ns=>⟨[],by simp[ay]⟩
 | cons x xs ih=>
  intro ns
  obtain⟨K1,h1⟩:=xC x ns
  obtain⟨K2,h2⟩:=ih (aL ns x)
  exact⟨K1++K2,by rw[qs,h2,h1,List.append_assoc]⟩
theorem fA (xs:List aD):∀(ns:List (List UInt8)),∀x∈xs,∃ns',∀y∈aL ns' x,y∈ay ns xs:=by
 induction xs with
 | nil=>intro ns x hx;cases hx
 | cons z zs ih=>
  intro ns x hx
  rw[qs]
  rcases List.mem_cons.1 hx with rfl | hx
  ·refine⟨ns,fun y hy=> ?_⟩
   obtain⟨K,hK⟩:=iU zs (aL ns x)
   rw[hK]
   exact List.mem_append_left _ hy
  ·exact ih (aL ns z) x hx
theorem tJ {η θ:List UInt8→U} (xs:List aD) (ns:List (List UInt8)) (hx:∀x∈xs,gW x) (h:∀y∈ay ns xs,η y=θ y):fP η xs=fP θ xs:=
 vA xs _ fun x hm=>by
  obtain⟨ns',hn⟩:=fA xs ns x hm
  exact Cj x ns' (hx x hm) fun y hy=>h y (hn y hy)
theorem xD {η:List UInt8→U} (x:aD) (ns:List (List UInt8)) (hx:gW x) (h:∀y∈aL ns x,size (η y)≤300):(cr η x).wt.length≤2000000:=by
 have hl:∀y∈namesF 8 ns x.left,size (η y)≤300:=fun y hy=>h y (by
  unfold aL
  rw[hx.la]
  cases hr:x.right with
  | none=>exact hy
  | some r=>
   obtain⟨K,hK⟩:=namesV_ext 8 r (namesF 8 ns x.left)
   show y∈namesF 8 (namesF 8 ns x.left) r
   rw[hK]
   exact List.mem_append_left _ hy)
 have q:=zL (B:=300) (by omega) 8 x.left ns hx.wl hl
 have q3:3 ^ 8=6561:=by decide
 rw[q3]at q
 unfold cr
 cases hr:x.right with
 | none=>
  dsimp only
  split
  ·have:=He (by assumption);omega
  ·simp[Wn.none]
 | some r=>
  dsimp only
  split
  ·have:=wX (bJ η 8 x.left) (bJ η 8 r);omega
  ·split
   ·have:=Dy (bJ η 8 x.left) (bJ η 8 r);omega
   ·have:=Hd (decide (x.sign=[61,60])) (bJ η 8 x.left) (bJ η 8 r);omega
theorem Ck (l m:Wn):(l.also m).wt.length≤l.wt.length+m.wt.length:=foldV_len _ _
end Zf
namespace Go.Proofs.YthfjnfcekeknlabGreatDoor
open Go.RowKit
def cI (sb:Nat) (no:Option Addr) (k:Nat):Prop:=k=sb∨rowOf no k
theorem aq.wide {R R':Nat→Prop} {w w':World} (h:aq R R' w w') (X:Nat→Prop):aq (fun k=>R k∨X k) (fun k=>R' k∨X k) w w':=⟨h.os,h.tape,h.output,h.size,fun k hk hn=>h.block k hk (fun q=>hn (Or.inl q)),fun k q=>by
 rcases q with q | q
 ·rcases h.row k q with e | e
  ·exact Or.inl (Or.inl e)
  ·exact Or.inr e
 ·exact Or.inl (Or.inr q)⟩
theorem aq.less {R R' X:Nat→Prop} {w w':World} (h:aq R R' w w') (hx:∀k,X k→R' k):aq R X w w':=⟨h.os,h.tape,h.output,h.size,h.block,fun k q=>h.row k (hx k q)⟩
theorem aq.new {R R' X:Nat→Prop} {w w1 w':World} (h:aq R X w w1) {Y:Nat→Prop} (hn:aq Y R' w1 w') (hy:∀k,Y k→X k∨w.heap.size≤k):aq R R' w w':=⟨hn.os.trans h.os,hn.tape.trans h.tape,hn.output.trans h.output,Nat.le_trans h.size hn.size,fun k hk hr=>(hn.block k (Nat.lt_of_lt_of_le hk h.size) (fun q=>by
 rcases hy k q with e | e
 ·rcases h.row k e with f | f
  ·exact hr f
  ·omega
 ·omega)).trans (h.block k hk hr),fun k q=>by
 rcases hn.row k q with e | e
 ·rcases hy k e with f | f
  ·exact h.row k f
  ·exact Or.inr f
 ·exact Or.inr (Nat.le_trans h.size e)⟩
theorem fy.lK {PP R R':Nat→Prop} {w w':World} {sb so:Nat} {cs:Array Value} {T:TypeId} {cb:Nat} {D:List Ng} {V:List Nat} {no:Option Addr} {nc:Nat} {vo:Option Addr} {vc:Nat} {fr:Nat→Nat} {TT:Nat→Zf.U} (h:fy (fun g=>PP g∧¬R g) w sb so cs T cb D V no nc vo vc fr TT) (hf:aq R R' w w') (ap:∀k,R k→¬bO sb no cb vo k):fy (fun g=>PP g∧¬R' g) w' sb so cs T cb D V no nc vo vc fr TT:=by
 have keep:∀k,bO sb no cb vo k→w'.heap[k]?=w.heap[k]?:=fun k q=>hf.block k (h.ad.rows k q) (fun r=>ap k r q)
 refine⟨⟨⟨(keep sb (Or.inl rfl)).trans h.ad.st.blk,h.ad.st.cel,ai h.ad.st.own fun g q=>keep g (Or.inr (Or.inl (aG q))),h.ad.st.ty⟩,⟨(keep cb (Or.inr (Or.inr (Or.inl rfl)))).trans h.ad.sc.blk,ai h.ad.sc.own fun g q=>keep g (Or.inr (Or.inr (Or.inr (aG q))))⟩,h.ad.t1,h.ad.t2,h.ad.args.keep fun g _ hp hg=>⟨(hf.block g (af hg) hp.1.2).trans hg,⟨⟨hp.1.1,fun q=> ?_⟩,hp.2⟩⟩⟩,h.ok,h.to,h.lt⟩
 rcases hf.row g q with e | e
 ·exact hp.1.2 e
 ·have:=af hg;omega
theorem bG.oF {w w':World} {sb so:Nat} {cs:Array Value} {T:TypeId} {D:List Ng} {no:Option Addr} {nc:Nat} {R':Nat→Prop} (h:bG w sb so cs T D no nc) (hf:aq (cI sb no) R' w w') {g:Nat} {ys:Array Value} {S:TypeId} (hg:w.heap[g]?=some (.cells ys S (0,0))) (h1:S≠T) (h2:S≠147):w'.heap[g]?=some (.cells ys S (0,0)):=
 (hf.block g (af hg) (by
  rintro(e | e)
  ·rw[e,h.blk]at hg
   simp only[Option.some.injEq,Obj.cells.injEq]at hg
   exact h1 hg.2.1.symm
  ·exact aN h.own hg h2 e)).trans hg
theorem kO.XF {w w':World} {sb so:Nat} {cs:Array Value} {T:TypeId} {D:List Ng} {no:Option Addr} {nc:Nat} {R':Nat→Prop} (h:bG w sb so cs T D no nc) (hf:aq (cI sb no) R' w w') (hT:T≠74) {N:List (List UInt8)} {v:JV} {x:Zf.aD} (hi:kO N w v x):kO N w' v x:=by
 have ra:∀{f:Nat} {a:AV} {t:Zf.Tm},RA f N anyA w a t→RA f N anyA w' a t:=fun hr=>hr.keep fun g _ hp hg _=>⟨h.oF hf hg (Ne.symm hT) (by decide),hp⟩
 exact⟨ra hi.left,hi.sign,fun r q=>ra (hi.right r q),hi.op,fun r q=>ra (hi.last r q)⟩
end Go.Proofs.YthfjnfcekeknlabGreatDoor
namespace Zf
inductive bB (Q:Vr→Prop):U→Prop
 | v {x:Vr} (h:Q x):bB Q (.v x)
 | n {k:Nat} {tx:List UInt8} {num:Int} {ss:List U} (h:∀a∈ss,bB Q a):bB Q (.n k tx num ss)
theorem bB.args {Q:Vr→Prop} {k:Nat} {tx:List UInt8} {num:Int} {ss:List U} (h:bB Q (.n k tx num ss)):∀a∈ss,bB Q a:=by cases h with | n h=>exact h
theorem bB.var {Q:Vr→Prop} {x:Vr} (h:bB Q (.v x)):Q x:=by cases h with | v h=>exact h
theorem bB.mono {Q R:Vr→Prop} (hq:∀x,Q x→R x) {u:U} (h:bB Q u):bB R u:=by
 induction h with
 | v h=>exact .v (hq _ h)
 | n _ ih=>exact .n ih
def Wn.fo (Q:Vr→Prop) (l:Wn):Prop:=∀w∈l.wt,∃x,Q x∧x.2=w
theorem dH (Q:Vr→Prop):Wn.none.fo Q:=fun w hw=>by cases hw
theorem Wn.fo.wait {Q:Vr→Prop} {l:Wn} (h:l.fo Q) {x:Vr} (hx:Q x):(l.wait x.2).fo Q:=fun w hw=>by
 have:w∈cZ l.wt x.2:=hw
 unfold cZ at this
 split at this
 ·exact h w this
 ·rcases List.mem_append.1 this with q | q
  ·exact h w q
  ·exact⟨x,hx,(List.mem_singleton.1 q).symm⟩
theorem Wn.fo.bad {Q:Vr→Prop} {l:Wn} (h:l.fo Q):l.bad.fo Q:=h
theorem Wn.fo.aU {Q:Vr→Prop} {l:Wn} (h:l.fo Q) {u:U} (hu:bB Q u):(l.aU u).fo Q:=by
 cases u with
 | v x=>exact h.wait hu.var
 | n k tx num ss=>exact h
theorem vY {Q:Vr→Prop}:∀(u v:U) (l:Wn),bB Q u→bB Q v→l.fo Q→(cmpU u v l).fo Q:=by
 refine U.ind (fun x v l hu hv hl=> ?_) (fun k tx num ss ih v l hu hv hl=> ?_)
 ·cases v with
  | v y=>
   rw[mP]
   split
   ·exact hl
   ·exact(hl.wait hu.var).wait hv.var
  | n k tx num ss=>rw[oJ];exact hl.wait hu.var
 ·cases v with
  | v y=>rw[oK];exact hl.wait hv.var
  | n k' tx' num' ss'=>
   rw[lG]
   split
   ·have:∀(bs cs:List U) (l:Wn),(∀a∈bs,∀v l,bB Q a→bB Q v→l.fo Q→(cmpU a v l).fo Q)→(∀a∈bs,bB Q a)→(∀a∈cs,bB Q a)→l.fo Q→(cmpUL bs cs l).fo Q:=by
     intro bs
     induction bs with
     | nil=>intro cs l _ _ _ hl;rw[jA];exact hl
     | cons b bs ihb=>
      intro cs l hb h1 h2 hl
      cases cs with
      | nil=>rw[lH];exact hl
      | cons c cs=>
       rw[gG]
       exact ihb cs _ (fun a ha=>hb a (by simp[ha])) (fun a ha=>h1 a (by simp[ha])) (fun a ha=>h2 a (by simp[ha])) (hb b (by simp) c l (h1 b (by simp)) (h2 c (by simp)) hl)
    exact this ss ss' l ih hu.args hv.args hl
   ·exact hl.bad
def bQ.kP (Q:Vr→Prop) (l:bQ):Prop:=(∀q∈l.st,bB Q q.2)∧l.w.fo Q
theorem bQ.kP.meet {Q:Vr→Prop} {l:bQ} (h:l.kP Q) (x:List UInt8) {u:U} (hu:bB Q u):(l.meet x u).kP Q:=by
 unfold bQ.meet
 cases hq:l.st.find? (fun q=>q.1 == x)with
 | none=>
  refine⟨fun q hm=> ?_,h.2⟩
  rcases List.mem_append.1 hm with hm | hm
  ·exact h.1 q hm
  ·rw[List.mem_singleton.1 hm];exact hu
 | some q=>exact⟨h.1,vY _ _ _ (h.1 q (List.mem_of_find?_eq_some hq)) hu h.2⟩
theorem Cl {Q:Vr→Prop} {g:Tm→U→bQ→bQ}:∀(ps:List Tm) (us:List U) (l:bQ),(∀p∈ps,∀u∈us,∀l:bQ,l.kP Q→(g p u l).kP Q)→l.kP Q→(dw g ps us l).kP Q
 | p :: ps,u :: us,l,hg,h=>by
  rw[dw]
  exact Cl ps us (g p u l) (fun q hq v hv=>hg q (by simp[hq]) v (by simp[hv])) (hg p (by simp) u (by simp) l h)
 | [],[],l,_,h=>by simpa [dw] using h
 | [],_ :: _,l,_,h=>by simpa [dw] using h
 | _ :: _,[],l,_,h=>by simpa [dw] using h
theorem mV {Q:Vr→Prop}:∀(f:Nat) (p:Tm) (u:U) (l:bQ),bB Q u→l.kP Q→(matU f p u l).kP Q
 | 0,_,_,l,_,h=>by unfold matU;exact h
 | f+1,p,u,l,hu,h=>by
  by_cases k:p.kind=3
  ·rw[mQ u l k];exact h.meet _ hu
  ·cases u with
   | v x=>rw[lI x l k];exact⟨h.1,h.2.wait hu.var⟩
   | n kk tx num ss=>
    by_cases hr:jt p=(kk,tx,num)∧p.args.length=ss.length
    ·rw[lJ l k hr]
     exact Cl p.args ss l (fun q _ v hv l hl=>mV f q v l (hu.args v hv) hl) h
    ·rw[mR l k hr];exact⟨h.1,h.2.bad⟩
theorem Ew {Q:Vr→Prop} {η:List UInt8→U} (h:∀y,bB Q (η y)):∀(f:Nat) (t:Tm),wfK f t→bB Q (bJ η f t)
 | f+1,t,hw=>by
  unfold bJ
  split
  ·exact h _
  ·split
   ·exact .n (fun a ha=>by cases ha)
   ·refine .n fun a ha=> ?_
    obtain⟨s,hs,rfl⟩:=List.mem_map.1 ha
    exact Ew h f s (hw.2.2.2 s hs)
theorem py {Q:Vr→Prop} {η:List UInt8→U} (f:Nat) (t:Tm) (ns:List (List UInt8)) (hw:wfK f t) (h:∀y∈namesF f ns t,bB Q (η y)):bB Q (bJ η f t):=by
 rw[gN (θ:=fun y=>if y∈namesF f ns t then η y else .n 0 [] 0 []) f t ns hw (fun y hy=>(if_pos hy).symm)]
 refine Ew (fun y=> ?_) f t hw
 split
 ·rename_i q;exact h y q
 ·exact .n (fun a ha=>by cases ha)
theorem xE {Q:Vr→Prop} {u v:U} (hu:bB Q u) (hv:bB Q v):(kK u v).fo Q:=vY u v _ hu hv (dH Q)
theorem xG {Q:Vr→Prop} {η:List UInt8→U} (x:aD) (ns:List (List UInt8)) (hx:gW x) (h:∀y∈aL ns x,bB Q (η y)):(cr η x).fo Q:=by
 have hl:∀y∈namesF 8 ns x.left,bB Q (η y):=fun y hy=>h y (by
  unfold aL
  rw[hx.la]
  cases hr:x.right with
  | none=>exact hy
  | some r=>
   obtain⟨K,hK⟩:=namesV_ext 8 r (namesF 8 ns x.left)
   show y∈namesF 8 (namesF 8 ns x.left) r
   rw[hK]
   exact List.mem_append_left _ hy)
 have q:=py 8 x.left ns hx.wl hl
 unfold cr
 cases hr:x.right with
 | none=>
  dsimp only
  split
  ·rename_i _ _ _ u he
   rw[he]at q
   have hu:=q.args u (by simp)
   cases u with
   | v x=>
    intro w hw
    have:w=x.2:=by simpa [tsInt] using hw
    exact⟨x,hu.var,this.symm⟩
   | n k tx num ss=>intro w hw;simp[tsInt]at hw
  ·exact dH Q
 | some r=>
  have q2:=py (η:=η) 8 r (namesF 8 ns x.left) (hx.wr r hr) (fun y hy=>h y (by unfold aL;rw[hx.la,hr];exact hy))
  dsimp only
  split
  ·exact xE q q2
  ·split
   ·unfold oL
    split
    ·intro w hw;cases hw
    ·split
     ·exact dH Q
     ·exact xE q q2
   ·unfold bh
    split
    ·intro w hw;cases hw
    ·exact((dH Q).aU q).aU q2
theorem Wn.fo.also {Q:Vr→Prop} {l m:Wn} (h:l.fo Q) (k:m.fo Q):(l.also m).fo Q:=by
 have key:∀(xs ws:List Nat),(∀w∈xs,∃x,Q x∧x.2=w)→(∀w∈ws,∃x,Q x∧x.2=w)→∀w∈xs.foldl cZ ws,∃x,Q x∧x.2=w:=by
  intro xs
  induction xs with
  | nil=>intro ws _ h2;exact h2
  | cons y ys ih=>
   intro ws h1 h2
   rw[List.foldl_cons]
   refine ih _ (fun w hw=>h1 w (by simp[hw])) (fun w hw=> ?_)
   unfold cZ at hw
   split at hw
   ·exact h2 w hw
   ·rcases List.mem_append.1 hw with q | q
    ·exact h2 w q
    ·rw[List.mem_singleton.1 q];exact h1 y (by simp)
 exact key m.wt l.wt k h
theorem yC {Q:Vr→Prop} {η:List UInt8→U} (xs:List aD) (ns:List (List UInt8)) (hx:∀x∈xs,gW x) (h:∀y∈ay ns xs,bB Q (η y)):(fP η xs).fo Q:=by
 have key:∀(xs:List aD) (l:Wn),l.fo Q→(∀x∈xs,(cr η x).fo Q)→(iE (cr η) xs l).fo Q:=by
  intro xs
  induction xs with
  | nil=>intro l hl _;exact hl
  | cons y ys ih=>intro l hl hy;exact ih _ (hl.also (hy y (by simp))) (fun x hx=>hy x (by simp[hx]))
 refine key xs _ (dH Q) fun x hm=> ?_
 obtain⟨ns',hn⟩:=fA xs ns x hm
 exact xG x ns' (hx x hm) fun y hy=>h y (hn y hy)
theorem Pd {η:List UInt8→U} (xs:List aD) (ns:List (List UInt8)) (hx:∀x∈xs,gW x) (h:∀y∈ay ns xs,size (η y)≤300):(fP η xs).wt.length≤xs.length*2000000:=by
 have key:∀(xs:List aD) (l:Wn),(∀x∈xs,(cr η x).wt.length≤2000000)→(iE (cr η) xs l).wt.length≤l.wt.length+xs.length*2000000:=by
  intro xs
  induction xs with
  | nil=>intro l _;simp[iE]
  | cons y ys ih=>
   intro l hy
   have h1:=ih (l.also (cr η y)) (fun x hx=>hy x (by simp[hx]))
   have h2:=Ck l (cr η y)
   have h3:=hy y (by simp)
   rw[List.length_cons]
   show (iE (cr η) ys (l.also (cr η y))).wt.length≤_
   omega
 have:=key xs Wn.none (fun x hm=>by
  obtain⟨ns',hn⟩:=fA xs ns x hm
  exact xD x ns' (hx x hm) fun y hy=>h y (hn y hy))
 have e0:Wn.none.wt.length=0:=rfl
 unfold fP
 omega
theorem dI.kP {G:List Gn} {fr:Nat→Nat} {T:Nat→U} (h:dI G fr T) {b:Nat} (hf:∀n,n<b→fr n<b) (ha:∀n,n<b→∀a∈ga G n,a<b):∀n,n<b→bB (fun x=>x.1=[]∧x.2<b∧fr x.2=x.2) (T n):=by
 have key:∀{n u},Tr G fr n u→n<b→bB (fun x=>x.1=[]∧x.2<b∧fr x.2=x.2) u:=by
  intro n u ht
  induction ht with
  | @var n _ _=>exact fun hn=> .v ⟨rfl,hf n hn,h.fronts.idem n⟩
  | @node n k tx num us hg hl _ ih=>
   intro hn
   refine .n fun u hu=> ?_
   obtain⟨i,hi,rfl⟩:=List.getElem_of_mem hu
   exact ih i _ us[i] (List.getElem?_eq_getElem (by omega)) (List.getElem?_eq_getElem hi) (ha _ (hf n hn) _ (List.getElem_mem _))
 exact fun n hn=>key (h.tr n) hn
end Zf
