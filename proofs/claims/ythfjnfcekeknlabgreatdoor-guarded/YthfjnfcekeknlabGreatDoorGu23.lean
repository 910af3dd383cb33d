import Derived.Test.YthfjnfcekeknlabGreatDoorGu20
import Derived.Test.YthfjnfcekeknlabGreatDoorGu22
import Derived.Deep.LoopGhost
set_option maxHeartbeats 8000000
set_option maxRecDepth 100000
namespace Go.Proofs.YthfjnfcekeknlabGreatDoor
open Go.RowKit
theorem DK {P:Nat→Prop} {w:World} {sb so:Nat} {cs:Array Value} {T:TypeId} {cb:Nat} {D:List Ng} {V:List Nat} {no:Option Addr} {nc:Nat} {vo:Option Addr} {vc:Nat} {fr:Nat→Nat} {TT:Nat→Zf.U} (h:fy P w sb so cs T cb D V no nc vo vc fr TT) (hP:∀g,w.heap.size≤g→P g) (hT:T≠74) (hTi:T≠125) (hTl:T≠102) {N ns:List (List UInt8)} {v:JV} {x:Zf.aD} (hi:kO N w v x) (hx:Zf.gW x) (hl:V.length=ns.length) (hN:∃M,N=Zf.aL ns x++M) (hD:D.length+13122≤1000000000) (hV:V.length+13122≤1000000000) (hs:∀n∈V,Zf.size (TT n)≤300) (ho:x.right≠none∧(x.sign=[61,60]∨x.sign=[60])):
 Calls Tryz.prog 192 #[.pointer (some ⟨sb,so,none⟩),.agg #[.int .i64 v.a.k,.int .i64 v.a.val,.string v.a.tx,.slice v.a.ao v.a.n v.a.cap,.string v.sg,.int .i64 v.b.k,.int .i64 v.b.val,.string v.b.tx,.slice v.b.ao v.b.n v.b.cap,.string v.op,.int .i64 v.c.k,.int .i64 v.c.val,.string v.c.tx,.slice v.c.ao v.c.n v.c.cap],.pointer (some ⟨cb,0,none⟩)] w fun e w'=>Lz P sb so cs T cb D V no vo fr TT N ns x w e w':=by
 cases hr:x.right with
 | none=>exact absurd hr ho.1
 | some r=>exact DJ h hP hT hTi hTl hi hx hl hN hD hV hs r hr ho.2
theorem fy.LH {P:Nat→Prop} {W:World} {rb sb so:Nat} {cs:Array Value} {T S0:TypeId} {cb:Nat} {D:List Ng} {V:List Nat} {no':Option Addr} {nc:Nat} {vo:Option Addr} {vc:Nat} {fr:Nat→Nat} {TT:Nat→Zf.U} {ys:Array Value} (h:fy P W sb so cs T cb D V no' nc vo vc fr TT) (hr:W.heap[rb]?=some (.cells ys S0 (0,0))) (h1:S0≠T) (h2:S0≠147) (h3:S0≠90) (h4:S0≠3) (v0 v1 v2:Value):fy P (((W.setCell ⟨rb,0,none⟩ v0).setCell ⟨rb,1,none⟩ v1).setCell ⟨rb,2,none⟩ v2) sb so cs T cb D V no' nc vo vc fr TT:=by
 refine h.fQ fun g xs S hg hS=>ir W v0 v1 v2 fun e=> ?_
 subst e
 rw[hr]at hg
 simp only[Option.some.injEq,Obj.cells.injEq]at hg
 obtain⟨_,rfl,_⟩:=hg
 rcases hS with e | e | e | e
 ·exact h1 e
 ·exact h2 e
 ·exact h3 e
 ·exact h4 e
theorem LI {W:World} {rb b n:Nat} {o:Option Addr} {cap:Nat} {zs:List Value} {ys:Array Value} {S0:TypeId} (ho:W.ownsRow b 3 1 (.slice o n cap) n zs) (hr:W.heap[rb]?=some (.cells ys S0 (0,0))) (h4:S0≠3) {v0 v1 v2:Value}:(((W.setCell ⟨rb,0,none⟩ v0).setCell ⟨rb,1,none⟩ v1).setCell ⟨rb,2,none⟩ v2).ownsRow b 3 1 (.slice o n cap) n zs:=by
 refine ai ho fun g q=>ir W v0 v1 v2 fun e=> ?_
 subst e
 obtain⟨cur,hc⟩:=aH ho (aG q)
 rw[hr]at hc
 simp only[Option.some.injEq,Obj.cells.injEq]at hc
 exact h4 hc.2.1
theorem aq.NB {R R':Nat→Prop} {w w':World} (h:aq R R' w w') (X:Nat→Prop):aq (fun k=>X k∨R k) (fun k=>X k∨R' k) w w':=⟨h.os,h.tape,h.output,h.size,fun k hk hn=>h.block k hk (fun q=>hn (Or.inr q)),fun k q=>by
 rcases q with q | q
 ·exact Or.inl (Or.inl q)
 ·rcases h.row k q with e | e
  ·exact Or.inl (Or.inr e)
  ·exact Or.inr e⟩
theorem aq.fin {R R':Nat→Prop} {w W:World} (h:aq R R' w W) {rb:Nat} (hb:w.heap.size≤rb) (v0 v1 v2:Value):aq R R' w ((((W.setCell ⟨rb,0,none⟩ v0).setCell ⟨rb,1,none⟩ v1).setCell ⟨rb,2,none⟩ v2).drew):=⟨h.os,h.tape,h.output,by have:=h.size;simpa [World.drew,bS] using this,fun k hk hn=>(ir W v0 v1 v2 (by omega)).trans (h.block k hk hn),h.row⟩
theorem Ge (ns:List (List UInt8)) (xs:List Zf.aD) (j:Nat) (h:j<xs.length):Zf.ay ns (xs.take (j+1))=Zf.aL (Zf.ay ns (xs.take j)) xs[j]∧xs.take (j+1)=xs.take j++[xs[j]]∧∃K,Zf.ay ns xs=Zf.ay ns (xs.take (j+1))++K:=by
 have e:xs.take (j+1)=xs.take j++[xs[j]]:=by rw[List.take_add_one,List.getElem?_eq_getElem h];rfl
 refine⟨by rw[e];unfold Zf.ay;rw[List.foldl_append];rfl,e,?_⟩
 obtain⟨K,hK⟩:=Zf.iU (xs.drop (j+1)) (Zf.ay ns (xs.take (j+1)))
 refine⟨K,?_⟩
 rw[←hK]
 unfold Zf.ay
 rw[←List.foldl_append,List.take_append_drop]
theorem inc_len:∀(F:List Nat) (b c:Nat),F.Pairwise (·<·)→(∀n∈F,b≤n∧n<b+c)→F.length≤c
 | [],_,_,_,_=>Nat.zero_le _
 | n :: F,b,c,hp,h=>by
  obtain⟨h1,h2⟩:=List.pairwise_cons.1 hp
  have h0:=h n (by simp)
  have:=inc_len F (n+1) (b+c - (n+1)) h2 (fun m hm=>by have:=h1 m hm;have:=(h m (by simp[hm])).2;omega)
  rw[List.length_cons]
  omega
theorem Jm {b:Nat} {E:List Ng} {F:List Nat} (h:fe b E F):F.length≤E.length:=by
 refine inc_len F b E.length h.ord fun n hn=> ?_
 obtain⟨h1,d,h2,_⟩:=h.var n hn
 have:=(List.getElem?_eq_some_iff.1 h2).1
 omega
theorem Q0 {P:Nat→Prop} {w w':World} {X:Obj} {R':Nat→Prop} {sb so:Nat} {cs:Array Value} {T:TypeId} {cb:Nat} {D:List Ng} {V:List Nat} {no:Option Addr} {nc:Nat} {vo:Option Addr} {vc:Nat} {fr:Nat→Nat} {TT:Nat→Zf.U} (h:fy P w sb so cs T cb D V no nc vo vc fr TT) (hf:aq (bO sb no cb vo) R' (w.alloc X) w') {g:Nat} {ys:Array Value} (hg:w.heap[g]?=some (.cells ys 224 (0,0))) (h1:224≠T):w'.heap[g]?=some (.cells ys 224 (0,0)):=
 (h.below ((Below.refl _ _).alloc (Nat.le_refl _) X)).ad.blk hf ((Below.heap_alloc _ _ _ (af hg)).trans hg) h1 (by decide) (by decide) (by decide)
def UF (PP:Nat→Prop) (w:World) (lb sb so:Nat) (cs:Array Value) (T:TypeId) (cb:Nat) (D:List Ng) (V:List Nat) (no:Option Addr) (fr:Nat→Nat) (TT:Nat→Zf.U) (N ns:List (List UInt8)) (S:List Int) (tests:List Zf.aD) (k:Nat) (iv:Value) (wr:World):Prop:=
 ∃(j:Nat) (E:List Ng) (F:List Nat) (no':Option Addr) (nc':Nat) (vo':Option Addr) (vc':Nat) (T':Nat→Zf.U) (R:Nat→Prop),k+j=tests.length∧iv= .int .i64 (j:Int)∧fy (fun g=>PP g∧¬R g) wr sb so (cs.setIfInBounds so (.slice no' (D++E).length nc')) T cb (D++E) (V++F) no' nc' vo' vc' fr T'∧(∀m,m<D.length→T' m=TT m)∧dD D.length E∧fe D.length E F∧(V++F).length=(Zf.ay ns (tests.take j)).length∧E.length≤j*13122∧
  cO wr lb S (Zf.fP (bT T' (V++F) N) (tests.take j)).wt (Zf.fP (bT T' (V++F) N) (tests.take j)).no R∧(Zf.fP (bT T' (V++F) N) (tests.take j)).wt.length≤j*2000000∧aq (cI sb no) (fun k=>bO sb no' cb vo' k∨R k) w wr∧(∀k,R k→¬bO sb no' cb vo' k)∧wr.heap[w.heap.size+1]?=some (.cells #[.int .i64 0,.slice none 0 0,.slice none 0 0] 224 (0,0))∧w.heap.size+2<cb
def XG (PP:Nat→Prop) (sb so:Nat) (cs:Array Value) (T:TypeId) (D:List Ng) (V:List Nat) (no:Option Addr) (fr:Nat→Nat) (TT:Nat→Zf.U) (N ns:List (List UInt8)) (tests:List Zf.aD) (w:World) (e:Ending) (w':World):Prop:=
 ∃(l:Zf.Wn) (E:List Ng) (F:List Nat) (no':Option Addr) (nc':Nat) (vo':Option Addr) (vc':Nat) (T':Nat→Zf.U) (oo:Option Addr) (oc:Nat),l=Zf.fP (bT T' (V++F) N) tests∧e= .returned (.agg #[.int .i64 (l.says:Int),.slice oo (Zf.kj (V++F) V.length l.wt).length oc,.slice vo' (V++F).length vc'])∧w'.ownsRow w.heap.size 3 1 (.slice oo (Zf.kj (V++F) V.length l.wt).length oc) (Zf.kj (V++F) V.length l.wt).length ((Zf.kj (V++F) V.length l.wt).map aJ)∧w'.ownsRow 0 3 1 (.slice vo' (V++F).length vc') (V++F).length ((V++F).map aJ)∧(∀k,rowOf vo' k→cI sb no k∨w.heap.size≤k)∧
  bG w' sb so (cs.setIfInBounds so (.slice no' (D++E).length nc')) T (D++E) no' nc'∧bZ (D++E) fr∧Zf.dI (aX (D++E)) fr T'∧aY w' (D++E) (fun g=>PP g∧¬rowOf vo' g)∧(∀n∈V++F,n<(D++E).length)∧(∀m,m<D.length→T' m=TT m)∧dD D.length E∧fe D.length E F∧(V++F).length=(Zf.ay ns tests).length∧E.length≤78732∧aq (cI sb no) (cI sb no') w w'
theorem fy.start {PP R:Nat→Prop} {w w4:World} {sb so:Nat} {cs:Array Value} {T:TypeId} {D:List Ng} {V:List Nat} {no:Option Addr} {nc:Nat} {oo:Option Addr} {oc b:Nat} {fr:Nat→Nat} {TT:Nat→Zf.U} (hG:gj w w.heap.size sb so cs T D no nc fr TT PP) (hb:Below w.heap.size w w4) (ho:w4.ownsRow b 3 1 (.slice oo V.length oc) V.length (V.map aJ)) (hbb:w.heap.size≤b) (hR:∀k,R k→w.heap.size≤k) (t1:T≠90) (t2:T≠3) (hV:∀n∈V,n<D.length):fy (fun g=>PP g∧¬R g) (w4.alloc (.cells #[.slice oo V.length oc] 90)) sb so cs T w4.heap.size D V no nc oo oc fr TT:=by
 have hb':=hb.alloc hb.size (.cells #[.slice oo V.length oc] 90)
 refine⟨⟨hG.st.below hb',⟨heap_alloc_new w4 _,ai (bV ho (Nat.zero_le _)) (fun g q=>Below.heap_alloc _ _ _ (ho.lt g q).2)⟩,t1,t2,hG.ar.keep fun g _ hp hg=>⟨(hb'.block g (af hg)).trans hg,⟨⟨hp,fun q=> ?_⟩,fun q=> ?_⟩⟩⟩,hG.ok,hG.to,hV⟩
 ·have:=hR g q;have:=af hg;omega
 ·obtain⟨p,rfl,e⟩:=q
  have:=(ho.lt g (by rw[e];rfl)).1
  have:=af hg
  omega
theorem Gf (w:World) (sb so:Nat) (cs:Array Value) (Ty:TypeId) (D:List Ng) (no:Option Addr) (nc:Nat) (fr:Nat→Nat) (TT:Nat→Zf.U) (PP:Nat→Prop) (a:AV) (o1 o2:Option Addr) (n1 c1 n2 c2 n:Nat) (N M:List (List UInt8)) (p:Zf.Tm) (tests:List Zf.aD) (hG:gj w w.heap.size sb so cs Ty D no nc fr TT PP) (hPP:∀g,w.heap.size≤g→PP g) (hT:Ty≠74) (hTi:Ty≠125) (hTl:Ty≠102) (hTa:Ty≠224) (hTs:Ty≠90) (hTn:Ty≠3) (hr:RA 8 N anyA w a p) (hts:cD N w o1 n1 tests) (hN:N=Zf.ay (Zf.namesF 8 [] p) tests++M) (wp:Zf.wfK 8 p) (UG:∀x∈tests,Zf.gW x) (htl:tests.length≤6) (hn:n<D.length) (hsz:Zf.size (TT n)≤300) (hD:D.length+100000≤1000000000) (hy:(Zf.matU 8 p (TT n) ⟨[],Zf.Wn.none⟩).w.says=1) (h0:∀x∈tests,(x.right≠none∧(x.sign=[61,60]∨x.sign=[60]))):
 Calls Tryz.prog 159 #[.pointer (some ⟨sb,so,none⟩),.agg #[.int .i64 a.k,.int .i64 a.val,.string a.tx,.slice a.ao a.n a.cap,.slice o1 n1 c1,.slice o2 n2 c2],.int .i64 (n:Int)] w fun e w'=>∃V:List Nat,V.length=(Zf.namesF 8 [] p).length∧(∀m∈V,m<D.length)∧(∀(i:Nat) (x:List UInt8) (m:Nat),(Zf.namesF 8 [] p)[i]?=some x→V[i]?=some m→∃q,(Zf.matU 8 p (TT n) ⟨[],Zf.Wn.none⟩).st.find? (fun q=>q.1 == x)=some q∧TT m=q.2)∧XG PP sb so cs Ty D V no fr TT N (Zf.namesF 8 [] p) tests w e w':=by
 obtain⟨k,val,tx,ao,m,cp⟩:=a
 have H0:=hide h0
 clear h0
 dsimp only
 obtain⟨rfl,Q3⟩:=hts
 have HIT:=hide Q3
 clear Q3
 obtain⟨KK,hKK⟩:=Zf.iU tests (Zf.namesF 8 [] p)
 have hN1:N=Zf.namesF 8 [] p++(KK++M):=by rw[hN,hKK,List.append_assoc]
 have hq:=RA.less (hN1 ▸ hr) wp (Zf.sL 8 p [] fun y hy=>hy)
 have hML:=Zf.namesK_len 8 p [] wp
 have hND:=Zf.namesF_nodup 8 p [] (by simp)
 have q3:3 ^ 8=6561:=by decide
 have hML':(Zf.namesF 8 [] p).length≤6561:=by simp at hML;omega
 have hsm:=(Zf.uv (B:=300) 8 p (TT n) ⟨[],Zf.Wn.none⟩ wp hsz (by omega) (fun q hq=>by cases hq)).1
 have UH:=(Zf.mat_yes 8 p (TT n) ⟨[],Zf.Wn.none⟩ wp ((Zf.Wn.Bn _).1 hy)).2.2 []
 have Cn:=(Zf.Wn.Bn _).1 hy
 have hu:=(((Below.refl w.heap.size w).alloc (Nat.le_refl _) (.cells #[.int .i64 k,.int .i64 val,.string tx,.slice ao m cp,.slice o1 tests.length c1,.slice o2 n2 c2] 76)).alloc (by simp) (.cells #[.int .i64 0,.slice none 0 0,.slice none 0 0] 224)).alloc (by simp;omega) (.cells #[.slice none 0 0,.slice none 0 0,.bool false] 102)
 have hl0:=qZ ((w.alloc (.cells #[.int .i64 k,.int .i64 val,.string tx,.slice ao m cp,.slice o1 tests.length c1,.slice o2 n2 c2] 76)).alloc (.cells #[.int .i64 0,.slice none 0 0,.slice none 0 0] 224))
 simp only[World.size_alloc]at hl0
 have pX:=aA (heap_alloc_new (w.alloc (.cells #[.int .i64 k,.int .i64 val,.string tx,.slice ao m cp,.slice o1 tests.length c1,.slice o2 n2 c2] 76)) (.cells #[.int .i64 0,.slice none 0 0,.slice none 0 0] 224)) (.cells #[.slice none 0 0,.slice none 0 0,.bool false] 102)
 rw[World.size_alloc]at pX
 have hc0:=aA (aA (heap_alloc_new w (.cells #[.int .i64 k,.int .i64 val,.string tx,.slice ao m cp,.slice o1 tests.length c1,.slice o2 n2 c2] 76)) (.cells #[.int .i64 0,.slice none 0 0,.slice none 0 0] 224)) (.cells #[.slice none 0 0,.slice none 0 0,.bool false] 102)
 have IM:=hide (muG_all 8 anyA w _ (w.heap.size+1+1) sb so cs Ty D no nc fr TT PP _ (Zf.namesF 8 [] p) [] ⟨k,val,tx,ao,m,cp⟩ n p ⟨[],Zf.Wn.none⟩ 300 (hG.up (by omega)) hu hl0 (zM D TT _) (by simp) hND (by omega) hq wp hn hsz (fun q hq=>by cases hq) (by rw[q3];simp[Zf.Wn.none]))
 have HU:=hide hu
 have qG:=hide hl0
 have jw:=hide pX
 have UI:=hide hc0
 have HG:=hide hG
 have XH:=hide hPP
 have HN:=hide hN
 have UJ:=hide UG
 have jf:=hide hsm
 have UK:=hide UH
 have HY:=hide hy
 have Co:=hide Cn
 have Cq:=hide htl
 have XI:=hide hD
 have Ex:=hide hML'
 have Y5:=hide wp
 have V5:=hide (And.intro hT (And.intro hTi (And.intro hTl (And.intro hTa (And.intro hTs hTn)))))
 clear hG hr hN hN1 hq hND hML q3 hu hl0 pX hc0 hsz hy hsm UH Cn UG hPP hT hTi hTl hTa hTs hTn hKK htl hD hML' wp
 go_enter Tryz.func159,Tryz.ntmps159
 go_wp2_with fail
 refine(ae IM).mono ?_
 rintro e w2 ⟨rfl,S2,R2,h2,st2,sl2,fr2⟩
 generalize hl:Zf.matU 8 p (TT n) ⟨[],Zf.Wn.none⟩=l at*
 obtain⟨V,hVl,hSV,hVD,hVq⟩:=st2.full sl2 (fun x hx=>(ae UK x hx).resolve_left (by simp))
 have hb2:=(ae qG).under fr2 (ae HU) (by omega)
 have Q4:∀k,k≤w.heap.size+1→¬eY (w.heap.size+1+1) none none k:=fun k hk=>lO (by omega)
 have q2:=(fr2.block (w.heap.size+1) (by simp only[World.size_alloc];omega) (Q4 _ (by omega))).trans (ae jw)
 have k2:=(fr2.block w.heap.size (by simp only[World.size_alloc];omega) (Q4 _ (by omega))).trans (ae UI)
 have Ev:=hide (zj w2 _ S2 l.w.wt l.w.no R2 h2)
 rw[AH,ae HY]at Ev
 rw[(ae Co).1,(ae Co).2]at h2
 have hrow2:=h2.rows
 have H2:=hide h2
 obtain⟨xo,xc,yo,yc,h2,rfl⟩:=h2
 have NC:w2.ownsRow (w.heap.size+1+1+1) 3 1 (.slice xo V.length xc) V.length (V.map aJ):=by
  have:=h2.sown
  rw[hSV,List.length_map,List.map_map]at this
  exact this
 have hSL:S2.length=V.length:=by rw[hSV,List.length_map]
 have b0:=ah h2.blk 0
 rw[hSL]at b0
 have cz:=af h2.blk
 have IS:=hide (DB w2 _ V xo xc NC (by have:=ae Ex;omega))
 have vt:=hide hVl
 have f4:=ah k2 4
 have kz:=af k2
 simp only[List.getElem?_toArray,List.getElem?_cons_zero,List.getElem?_cons_succ]at b0 f4
 have XJ:=hide hVq
 have Q5:=hide hVD
 have UL:=hide hSV
 have vp:=hide hSL
 have aP:=hide hb2
 have pU:=hide q2
 have dt:=hide k2
 have ry:=hide hrow2
 have YR:=hide st2
 have V6:=hide (show∀m∈V,Zf.size (TT m)≤300 from fun m hm=>by
  obtain⟨i,hi,rfl⟩:=List.getElem_of_mem hm
  obtain⟨q,h1,h2⟩:=hVq i (Zf.namesF 8 [] p)[i] V[i] (List.getElem?_eq_getElem (by omega)) (List.getElem?_eq_getElem hi)
  rw[h2]
  exact ae jf q (List.mem_of_find?_eq_some h1))
 have QX:=hide hl
 clear hl h2 hb2 fr2 q2 k2 IM qG HU jw UI NC hVq hVD hSV hrow2 st2 sl2 hSL Q4 UK HY Co jf hVl
 go_wp2_with fail
 refine(ae Ev).mono ?_
 rintro e w3 ⟨rfl,rfl⟩
 go_wp2_with fail
 refine(ae IS).mono ?_
 rintro e w4 ⟨oo,oc,rfl,own4,hb4⟩
 obtain⟨hT,hTi,hTl,hTa,hTs,hTn⟩:=ae V5
 have z4:=hb4.size
 have bf:=(ae aP).trans (hb4.mono (ae aP).size)
 have iq:=bf.alloc bf.size (.cells #[.slice oo V.length oc] 90)
 have k4:=(hb4.block _ kz).trans (ae dt)
 have f4:=ah k4 4
 have kz4:=af k4
 simp only[List.getElem?_toArray,List.getElem?_cons_zero,List.getElem?_cons_succ]at f4
 have HST:=hide (show UF PP w (w.heap.size+1+1) sb so cs Ty w4.heap.size D V no fr TT N (Zf.namesF 8 [] p) S2 tests tests.length (.int .i64 0) (w4.alloc (.cells #[.slice oo V.length oc] 90))from by
  have hro:∀k,rowOf oo k→w3.heap.size≤k:=fun k q=>by
   obtain⟨pp,hp,hq⟩:=q
   exact(own4.lt k (by rw[hp,hq];rfl)).1
  have zO:∀k,rowOf no k→k<w.heap.size:=fun k q=>by
   obtain⟨pp,hp,hq⟩:=q
   exact((ae HG).st.own.lt k (by rw[hp,hq];rfl)).2
  have Cr:=af (ae HG).st.blk
  refine⟨0,[],[],no,nc,oo,oc,TT,eY (w.heap.size+1+1) xo yo,by omega,rfl,?_,fun _ _=>rfl,fun i d h=>by simp at h,fe.nil _ _,by rw[List.append_nil,List.take_zero];exact ae vt,by simp,(ae H2).below (hb4.alloc z4 _),by rw[List.take_zero];exact Nat.zero_le _,⟨iq.os,iq.tape,iq.output,iq.size,fun k hk _=>iq.block k hk,?_⟩,?_,?_,by omega⟩
  ·have:=fy.start (PP:=PP) (R:=eY (w.heap.size+1+1) xo yo) (ae HG) bf own4 (ae aP).size (fun k q=>by have:=(ae ry k q).1;omega) hTs hTn (ae Q5)
   rw[List.append_nil,List.append_nil,ml (ae HG).st.cel]
   exact this
  ·rintro k ((e | e | e | e) | e)
   ·exact Or.inl (Or.inl e)
   ·exact Or.inl (Or.inr e)
   ·right;have:=(ae aP).size;omega
   ·right;have:=hro k e;have:=(ae aP).size;omega
   ·right;have:=(ae ry k e).1;omega
  ·rintro k q (e | e | e | e)
   ·have:=(ae ry k q).1;omega
   ·have:=(ae ry k q).1;have:=zO k e;omega
   ·have:=(ae ry k q).2;omega
   ·have:=(ae ry k q).2;have:=hro k e;omega
  ·exact(Below.heap_alloc _ _ _ (by have:=af (ae pU);omega)).trans ((hb4.block _ (af (ae pU))).trans (ae pU)))
 clear bf iq k4 own4 hb4 IS Ev H2 aP pU dt ry b0 cz kz
 go_wp2_with fail
 go_loopg [30] tests.length (fun k iv wr=>UF PP w (w.heap.size+1+1) sb so cs Ty w4.heap.size D V no fr TT N (Zf.namesF 8 [] p) S2 tests k iv wr)
 case atStart=>exact ae HST
 case round=>
  clear HST f4 kz4
  obtain⟨j,E,F,no',nc',vo',vc',T',R,hkj,rfl,hm,he,hnd,fS,iB,hel,hlo,rX,hf,hap,rY,hcb⟩:=hrel
  by_cases hlt:j<tests.length
  ·obtain⟨g,vs,ics,Jn,hcs,htk,hall⟩:=ae HIT (fun q=>by rw[q]at hlt;simp at hlt)
   subst Jn
   have jh:j<vs.length:=by have:=hall.length;omega
   have hcw:wr.heap[g]?=some (.cells ics 125 (0,0)):=(ae HG).st.oF hf hcs (Ne.symm hTi) (by decide)
   have fc:∀i,i<14→wr.cell? ⟨g,j*14+i,none⟩=(n7 vs[j])[i]?:=fun i hi=>by
    rw[ah hcw,←Array.getElem?_toList,←Jj jh i hi,←htk,List.getElem?_take_of_lt (by omega)]
   have f0:=fc 0 (by omega)
   have f1:=fc 1 (by omega)
   have f2:=fc 2 (by omega)
   have f3:=fc 3 (by omega)
   have f4:=fc 4 (by omega)
   have f5:=fc 5 (by omega)
   have f6:=fc 6 (by omega)
   have f7:=fc 7 (by omega)
   have f8:=fc 8 (by omega)
   have f9:=fc 9 (by omega)
   have f10:=fc 10 (by omega)
   have f11:=fc 11 (by omega)
   have f12:=fc 12 (by omega)
   have f13:=fc 13 (by omega)
   simp only[n7,List.getElem?_cons_zero,List.getElem?_cons_succ,Nat.add_zero]at f0 f1 f2 f3 f4 f5 f6 f7 f8 f9 f10 f11 f12 f13
   have gz:g<wr.heap.size:=af hcw
   have i0:(0:Int)≤(j:Int):=by omega
   have i1:(j:Int)<(tests.length:Int):=by omega
   have Y6:j≤6:=by have:=ae Cq;omega
   have hit:=(kO.XF (ae HG).st hf hT (hall.at j jh hlt)).keep (aK.alloc wr (.cells #[.int .i64 vs[j].a.k,.int .i64 vs[j].a.val,.string vs[j].a.tx,.slice vs[j].a.ao vs[j].a.n vs[j].a.cap,.string vs[j].sg,.int .i64 vs[j].b.k,.int .i64 vs[j].b.val,.string vs[j].b.tx,.slice vs[j].b.ao vs[j].b.n vs[j].b.cap,.string vs[j].op,.int .i64 vs[j].c.k,.int .i64 vs[j].c.val,.string vs[j].c.tx,.slice vs[j].c.ao vs[j].c.n vs[j].c.cap] 125))
   obtain⟨nt1,nt2,K,hK⟩:=Ge (Zf.namesF 8 [] p) tests j hlt
   have hNx:N=Zf.aL (Zf.ay (Zf.namesF 8 [] p) (tests.take j)) tests[j]++(K++M):=by rw[ae HN,hK,nt1,List.append_assoc]
   obtain⟨K2,hK2⟩:=Zf.xC tests[j] (Zf.ay (Zf.namesF 8 [] p) (tests.take j))
   have hNj:N=Zf.ay (Zf.namesF 8 [] p) (tests.take j)++(K2++(K++M)):=by rw[hNx,hK2,List.append_assoc]
   have szv:=rq hm hnd fS he (ae Q5) (B:=300) (by omega) (ae V6)
   have Q6:=ae UJ _ (List.getElem_mem hlt)
   have lnv:(V++F).length≤200000:=by
    have q1:=(Jm fS)
    have q2:=ae vt
    have q3:=ae Ex
    rw[List.length_append]
    omega
   have IT:=hide (DK (hm.below ((Below.refl _ _).alloc (Nat.le_refl _) (.cells #[.int .i64 vs[j].a.k,.int .i64 vs[j].a.val,.string vs[j].a.tx,.slice vs[j].a.ao vs[j].a.n vs[j].a.cap,.string vs[j].sg,.int .i64 vs[j].b.k,.int .i64 vs[j].b.val,.string vs[j].b.tx,.slice vs[j].b.ao vs[j].b.n vs[j].b.cap,.string vs[j].op,.int .i64 vs[j].c.k,.int .i64 vs[j].c.val,.string vs[j].c.tx,.slice vs[j].c.ao vs[j].c.n vs[j].c.cap] 125))) (fun g hg=>⟨ae XH g (by have:=hf.size;simp at hg;omega),fun q=>by have:=(hlo.rows g q).2;simp at hg;omega⟩) hT hTi hTl hit Q6 iB ⟨_,hNx⟩ (by rw[List.length_append];have:=ae XI;omega) (by omega) szv (ae H0 _ (List.getElem_mem hlt)))
   have HM:=hide hm
   have HE:=hide he
   have zD:=hide hnd
   have Qs:=hide fS
   have XK:=hide iB
   have En:=hide hel
   have lM:=hide hlo
   have vB:=hide rX
   have HF:=hide hf
   have UM:=hide hap
   have Er:=hide rY
   have UN:=hide hcb
   have aW:=hide hkj
   have ba:=hide hlt
   have jy:=hide hNx
   have Jo:=hide hNj
   have V7:=hide nt1
   have V8:=hide nt2
   have XL:=hide Q6
   have V9:=hide szv
   have rz:=af rY
   generalize vs[j]=v6 at*
   generalize XM:tests[j]=x at*
   clear hm he hnd fS iB hel hlo rX hf hap rY hkj hlt hcs htk hall jh hcw fc hit nt1 nt2 hK hNx hK2 hNj szv Q6 lnv XM
   go_wp2_with fail
   refine(ae IT).mono ?_
   rintro e w7 ⟨l2,E2,F2,no2,nc2,vo2,vc2,T2,xo2,xn2,xc2,yo2,yc2,rfl,own2,hl2,m2,e2,nd2,nv2,ln2,el2,fg2,-⟩
   have z7:=fg2.size
   rw[World.size_alloc]at z7 own2
   have hR7:∀k,R k→k<wr.heap.size:=fun k q=>((ae lM).rows k q).2
   have lo7:cO w7 (w.heap.size+1+1) S2 (Zf.fP (bT T' (V++F) N) (tests.take j)).wt (Zf.fP (bT T' (V++F) N) (tests.take j)).no R:=by
    obtain⟨so',sc',wo',wc',hB,hRe⟩:=ae lM
    refine⟨so',sc',wo',wc',hB.keep fun k q=> ?_,hRe⟩
    rw[←hRe]at q
    exact(fg2.block k (by rw[World.size_alloc];have:=hR7 k q;omega) (ae UM k q)).trans (Below.heap_alloc _ _ _ (hR7 k q))
   have ap2:∀k,R k→¬bO sb no2 w4.heap.size vo2 k:=fun k q r=>by
    rcases fg2.row k r with e | e
    ·exact ae UM k q e
    ·rw[World.size_alloc]at e;have:=hR7 k q;omega
   have Q7:l2.wt.length≤2000000:=by
    rw[hl2]
    refine Zf.xD x (Zf.ay (Zf.namesF 8 [] p) (tests.take j)) (ae XL) fun y hy=> ?_
    obtain⟨mm,hmm,XN⟩:=xw (T:=T2) (V:=V++F++F2) hy (ae jy) ln2
    rw[XN]
    exact rq m2 nd2 nv2 e2 (ae HM).lt (B:=300) (by omega) (ae V9) mm hmm
   have YT:j*2000000≤12000000:=by omega
   have IAL:=hide (Lb (w7.alloc (.cells #[.slice xo2 xn2 xc2,.slice yo2 l2.wt.length yc2,.bool l2.no] 102)) (w.heap.size+1+1) S2 _ l2.wt _ l2.no R xo2 yo2 xn2 xc2 yc2 _ (lo7.below ((Below.refl _ _).alloc (Nat.le_refl _) _)) (ai own2 (fun g q=>Below.heap_alloc _ _ _ (own2.lt g q).2)) (fun g q r=>by
    obtain⟨pp,hp,hq⟩:=q
    have k1:=(own2.lt g (by rw[hp,hq];rfl)).1
    have:=hR7 g r
    omega) (by have:=ae vB;omega))
   have rr7:=(Q0 (ae HM) fg2 (ae Er) (Ne.symm hTa))
   have m8:=m2.below ((Below.refl w7.heap.size w7).alloc (Nat.le_refl _) (.cells #[.slice xo2 xn2 xc2,.slice yo2 l2.wt.length yc2,.bool l2.no] 102))
   have ND:=hide m8
   have Q8:=hide m2.ad.rows
   have XO:=hide ((ae HF).trans ((aq.of_below ((Below.refl wr.heap.size wr).alloc (Nat.le_refl _) (.cells #[.int .i64 v6.a.k,.int .i64 v6.a.val,.string v6.a.tx,.slice v6.a.ao v6.a.n v6.a.cap,.string v6.sg,.int .i64 v6.b.k,.int .i64 v6.b.val,.string v6.b.tx,.slice v6.b.ao v6.b.n v6.b.cap,.string v6.op,.int .i64 v6.c.k,.int .i64 v6.c.val,.string v6.c.tx,.slice v6.c.ao v6.c.n v6.c.cap] 125))).trans ((fg2.wide R).trans (aq.of_below ((Below.refl w7.heap.size w7).alloc (Nat.le_refl _) (.cells #[.slice xo2 xn2 xc2,.slice yo2 l2.wt.length yc2,.bool l2.no] 102))))))
   have Q9:=hide rr7
   have XP:=hide (And.intro hl2 (And.intro e2 (And.intro nd2 (And.intro nv2 (And.intro ln2 el2)))))
   have Ra:=hide ap2
   have Gg:=hide Q7
   have Wa:=hide lo7
   clear own2 hl2 m2 e2 nd2 nv2 ln2 el2 fg2 hR7 lo7 ap2 Q7 rr7 m8 IT
   go_wp2_with fail
   refine(ae IAL).mono ?_
   rintro e w9 ⟨rfl,R9,lo9,fr9⟩
   have Wb:=hide lo9
   have Gh:=hide fr9
   clear lo9 fr9 IAL
   go_wp2_with fail
   go_roundg (gk - 1)
   case measure=>have:=ae aW;have:=ae ba;omega
   case rel=>
    obtain⟨hl2,e2,nd2,nv2,ln2,el2⟩:=ae XP
    have hts:Zf.fP (bT T2 (V++F++F2) N) (tests.take (j+1))=(Zf.fP (bT T' (V++F) N) (tests.take j)).also l2:=by
     rw[ae V8,Zf.LC,hl2,Zf.tJ (θ:=bT T' (V++F) N) (tests.take j) (Zf.namesF 8 [] p) (fun y hy=>ae UJ y (List.mem_of_mem_take hy)) (fun y hy=>rh hy (ae Jo) (ae XK) (ae HM).lt e2)]
    have mm:=(ae ND).lK (ae Gh) (ae Ra)
    rw[set_set,List.append_assoc D,List.append_assoc V]at mm
    rw[List.append_assoc V]at hts ln2
    refine⟨j+1,E++E2,F++F2,no2,nc2,vo2,vc2,T2,R9,by have:=ae aW;have:=ae ba;omega,by go_num,mm,fun q hq=>(e2 q (by rw[List.length_append];omega)).trans (ae HE q hq),(ae zD).app (by rw[←List.length_append];exact nd2),(ae Qs).app (by rw[←List.length_append];exact nv2),by rw[ln2,ae V7],by rw[List.length_append];have:=ae En;omega,by rw[hts];exact ae Wb,by rw[hts];have:=Zf.Ck (Zf.fP (bT T' (V++F) N) (tests.take j)) l2;have:=ae vB;have:=ae Gg;omega,(ae XO).trans ((ae Gh).NB _),fun k q r=> ?_,?_,ae UN⟩
    ·rcases(ae Gh).row k q with e | e
     ·exact ae Ra k e r
     ·have:=ae Q8 k r
      rw[World.size_alloc]at e
      omega
    ·have kQ:=af (ae Q9)
     exact((ae Gh).block _ (by rw[World.size_alloc];omega) (fun q=>by have:=((ae Wa).rows _ q).1;omega)).trans ((Below.heap_alloc _ _ _ kQ).trans (ae Q9))
  ·obtain rfl:j=tests.length:=by omega
   rw[List.take_length]at iB hlo rX
   have lnv:(V++F).length≤200000:=by
    have q1:=Jm fS
    have q2:=ae vt
    have q3:=ae Ex
    have q4:=ae Cq
    rw[List.length_append]
    omega
   have Rb:(Zf.fP (bT T' (V++F) N) tests).wt.length≤12000000:=by have q4:=ae Cq;omega
   generalize hL0:Zf.fP (bT T' (V++F) N) tests=l at hlo Rb
   have qG:=hide hL0
   clear hL0
   obtain⟨so',sc',wo',wc',hB,hRe⟩:=hlo
   have b0:=ah hB.blk 0
   have b1:=ah hB.blk 1
   rw[ae vp]at b0
   have bz:=af hB.blk
   have s0:=ah hm.ad.sc.blk 0
   have sz:=af hm.ad.sc.blk
   simp only[List.getElem?_toArray,List.getElem?_cons_zero,List.getElem?_cons_succ]at b0 b1 s0
   have IOK:=hide (yu wr _ _ l.wt (V++F) wo' vo' wc' vc' V.length hB.wown hm.ad.sc.own (by omega) (by omega))
   have HB:=hide hB
   have HM:=hide hm
   have HP:=hide (And.intro he (And.intro hnd (And.intro fS (And.intro iB hel))))
   have HF:=hide hf
   have Er:=hide rY
   have UN:=hide hcb
   have rz:=af rY
   have hVz:(V++F).length=V.length+F.length:=List.length_append
   clear hm he hnd fS iB hel rX hf hap rY hkj hlt hB hRe lnv Rb hcb hVz
   generalize hVF:V++F=VF at*
   have Qt:=hide hVF
   clear hVF
   go_wp2_with fail
   refine(ae IOK).mono ?_
   rintro e w10 ⟨oo',oc',rfl,own10,yD⟩
   have s1:=(yD.cell (p:=⟨w4.heap.size,0,none⟩) sz).trans s0
   have z10:=yD.size
   have hbk:=(yD.block _ bz).trans (ae HB).blk
   have zN:=hide (fun(W:World) (hb:Below w10.heap.size w10 W)=>BL W (w.heap.size+1+1) l.wt l.no so' S2.length sc' wo' wc' ((hb.block _ (af hbk)).trans hbk))
   rw[AH]at zN
   have Cs:=(yD.block _ rz).trans (ae Er)
   have d0:=ah Cs
   have x0:=au Cs
   have dz:=af Cs
   have sz10:w4.heap.size<w10.heap.size:=Nat.lt_of_lt_of_le sz z10
   have Wc:=hide own10
   have Rc:=hide yD
   have Re:=hide Cs
   clear own10 yD hbk Cs IOK b0 b1 bz s0 sz
   go_wp2_with fail
   go_region_with (go_at_call 47;refine(ae zN _ (by first | exact Below.refl _ _ | exact(Below.refl _ _).drew | exact(Below.refl _ _).drew.drew | exact(Below.refl _ _).drew.drew.drew | exact(Below.refl _ _).drew.drew.drew.drew)).mono ?_;rintro e w5 ⟨rfl,rfl⟩)
   all_goals
    go_wp2_with fail
    refine bodyPost_ret (v:= .agg #[.int .i64 (l.says:Int),.slice oo' (Zf.kj VF V.length l.wt).length oc',.slice vo' VF.length vc']) (by simp[results,Tryz.results159,go_sem,d0]) rfl ?_
    obtain rfl:=ae Qt
    obtain⟨he,hnd,fS,iB,hel⟩:=ae HP
    have hrow:=(ae HF).row
    have m11:=(((ae HM).below (ae Rc)).LH (ae Re) (Ne.symm hTa) (by decide) (by decide) (by decide) (.int .i64 (l.says:Int)) (.slice oo' (Zf.kj (V++F) V.length l.wt).length oc') (.slice vo' (V++F).length vc')).below (Below.refl _ _).drew
    have Wd:E.length≤78732:=by have:=ae Cq;omega
    refine⟨V,ae vt,ae Q5,by rw[ae QX];exact ae XJ,l,E,F,no',nc',vo',vc',T',oo',oc',(ae qG).symm,rfl,bV (LI (ae Wc) (ae Re) (by decide)) (ae HF).size,m11.ad.sc.own,fun k q=>hrow k (Or.inl (Or.inr (Or.inr (Or.inr q)))),m11.ad.st,m11.ok,m11.to,m11.ad.args.keep fun g _ hp hg=>⟨hg,hp.1.1,hp.2⟩,m11.lt,he,hnd,fS,iB,Wd,((((ae HF).less (X:=cI sb no') (fun k q=>by
     rcases q with e | e
     ·exact Or.inl (Or.inl e)
     ·exact Or.inl (Or.inr (Or.inl e)))).trans (aq.of_below (ae Rc))).fin (Nat.le_succ _) _ _ _)⟩
theorem xH (w:World) (p:Int) (n:Nat) (hn:0<n) (hl:n≤1000000000) (_h1: -9223372036854775808≤p) (_h2:p≤9223372036854775807):
 Calls Tryz.prog 36 #[.int .i64 p,.int .i64 (n:Int)] w fun e w'=>e= .returned (.int .i64 (p % (n:Int)))∧w'=w:=by
 have t0:decide ((n:Int)≤0)=false:=by simp;omega
 have t1:((n:Int) == 0)=false:=by simp;omega
 have b1:=Int.emod_nonneg p (show (n:Int)≠0 by omega)
 have b2:=Int.emod_lt_of_pos p (show (0:Int)<(n:Int)by omega)
 have e1:p.tmod (n:Int)=p % (n:Int)∨p.tmod (n:Int)=p % (n:Int) - (n:Int):=by
  rw[Int.tmod_eq_emod]
  split
  ·left;simp
  ·right;simp
 rcases e1 with e1 | e1
 ·have t2:decide (p.tmod (n:Int)<0)=false:=by rw[e1];simp;omega
  have HE:=hide e1
  clear e1 b1 b2
  go_enter Tryz.func36,Tryz.ntmps36
  go_wp2_with fail
  go_ret
  exact⟨by rw[←ae HE];rfl,rfl⟩
 ·have t2:decide (p.tmod (n:Int)<0)=true:=by rw[e1];simp;omega
  have t3:wrap64 (p.tmod (n:Int)+(n:Int))=p % (n:Int):=by rw[e1,Int.sub_add_cancel];unfold wrap64;omega
  have HT:=hide t3
  clear e1 b1 b2 t3
  go_enter Tryz.func36,Tryz.ntmps36
  go_wp2_with fail
  go_ret
  exact⟨by rw[←ae HT];rfl,rfl⟩
structure Gl where
 l:Nat
 sg:ByteArray
 r:Int
 op:ByteArray
 z:Int
 wt:Bool
 no:Option Addr
 nc:Nat
 nd:List Nat
def fL (g:Gl):List Value:=[.int .i64 (g.l:Int),.string g.sg,.int .i64 g.r,.string g.op,.int .i64 g.z,.bool g.wt,.slice g.no g.nd.length g.nc]
def gm (fr:Nat→Nat) (g:Gl):Bool:= !g.wt||g.nd.any fun v=>decide (fr v≠v)
theorem vC (w:World) (mb:Nat) (cs:Array Value) (Ty:TypeId) (D:List Ng) (nO:Option Addr) (nC:Nat) (fr:Nat→Nat) (g:Gl) (b:Nat) (hs:bG w mb 1 cs Ty D nO nC) (hok:bZ D fr) (hn:w.ownsRow b 3 1 (.slice g.no g.nd.length g.nc) g.nd.length (g.nd.map aJ)) (hlt:∀v∈g.nd,v<D.length) (hl:g.nd.length≤1000000000):
 Calls Tryz.prog 69 #[.pointer (some ⟨mb,0,none⟩),.agg #[.int .i64 (g.l:Int),.string g.sg,.int .i64 g.r,.string g.op,.int .i64 g.z,.bool g.wt,.slice g.no g.nd.length g.nc]] w fun e w'=>e= .returned (.bool (gm fr g))∧Below w.heap.size w w':=by
 obtain⟨l,sg,r,op,z,wt,no,nc,nd⟩:=g
 dsimp only at*
 have hb0:=(Below.refl w.heap.size w).alloc (Nat.le_refl _) (.cells #[.int .i64 (l:Int),.string sg,.int .i64 r,.string op,.int .i64 z,.bool wt,.slice no nd.length nc] 133)
 have aS:=hide hb0
 have HN:=hide hn
 have ba:=hide hlt
 have gB:=hide (fun W (hb:Below w.heap.size w W) (v:Nat) (hv:v<D.length)=>(hok.hop v hv).imp fun k hk=>dR W mb 1 cs Ty D nO nC v (fr v) k (hs.below hb) hk)
 clear hs hok hn hlt hb0
 cases wt with
 | false=>
  go_enter Tryz.func69,Tryz.ntmps69
  go_wp2_with fail
  go_ret
  exact⟨rfl,ae aS⟩
 | true=>
  go_enter Tryz.func69,Tryz.ntmps69
  go_wp2_with fail
  go_loopg [13] nd.length (fun k iv wr=>∃j:Nat,k+j=nd.length∧iv= .int .i64 (j:Int)∧Below w.heap.size w wr∧(nd.take j).any (fun v=>decide (fr v≠v))=false)
  case atStart=>exact⟨0,by omega,rfl,ae aS,by simp⟩
  case round=>
   clear aS
   obtain⟨j,hkj,rfl,aT,hno⟩:=hrel
   by_cases hlt:j<nd.length
   ·obtain⟨g,hg⟩:∃g,no=some ⟨g,0,none⟩:=by
     rcases(ae HN).2 with⟨q,q2⟩ | ⟨g,cp,cur,q,_⟩
     ·omega
     ·simp only[Value.slice.injEq]at q
      exact⟨g,q.1⟩
    subst hg
    have gz0:=((ae HN).lt g rfl).2
    have f0:wr.cell? ⟨g,j,none⟩=some (.int .i64 (nd[j]:Int)):=by
     rw[aT.cell (p:=⟨g,j,none⟩) gz0,(ae HN).cellAt j (by omega),List.getElem?_map,List.getElem?_eq_getElem hlt]
     rfl
    have gz:g<wr.heap.size:=Nat.lt_of_lt_of_le gz0 aT.size
    have i0:(0:Int)≤(j:Int):=by omega
    have i1:(j:Int)<(nd.length:Int):=by omega
    obtain⟨kk,hfc⟩:=ae gB wr aT nd[j] (ae ba _ (List.getElem_mem hlt))
    have Rf:=hide hfc
    have hst:nd.take (j+1)=nd.take j++[nd[j]]:=by rw[List.take_add_one,List.getElem?_eq_getElem hlt];rfl
    have cC:=hide aT
    have Rg:=hide hlt
    have aW:=hide hkj
    have hmem:nd[j]∈nd:=List.getElem_mem hlt
    generalize nd[j]=m at*
    by_cases he:fr m=m
    ·have gf:=hide (show (nd.take (j+1)).any (fun v=>decide (fr v≠v))=false by rw[hst,List.any_append,hno];simp[he])
     rw[he]at Rf
     clear he hno hkj hst aT hfc hmem
     go_wp2_with fail
     refine(ae Rf).mono ?_
     rintro e w5 ⟨rfl,rfl⟩
     unfold aJ
     go_wp2_with fail
     go_roundg (gk - 1)
     case measure=>have:=ae aW;have:=ae Rg;omega
     case rel=>exact⟨j+1,by have:=ae aW;have:=ae Rg;omega,by go_num,ae cC,ae gf⟩
    ·have Co:=hide (show nd.any (fun v=>decide (fr v≠v))=true from List.any_eq_true.2 ⟨m,hmem,by simpa using he⟩)
     have t2:(((fr m:Nat):Int) == ((m:Nat):Int))=false:=by simp;omega
     have t3:(((fr m:Nat):Int) != ((m:Nat):Int))=true:=by simp;omega
     generalize fr m=m' at*
     clear he hno hkj hst aT hfc hmem
     go_wp2_with fail
     refine(ae Rf).mono ?_
     rintro e w5 ⟨rfl,rfl⟩
     unfold aJ
     go_wp2_with fail
     go_ret
     exact⟨by unfold gm;rw[ae Co];rfl,ae cC⟩
   ·have gf:=hide (show nd.any (fun v=>decide (fr v≠v))=false by rwa [List.take_of_length_le (by omega)]at hno)
    have cC:=hide aT
    clear hno aT
    obtain rfl:j=nd.length:=by omega
    go_wp2_with fail
    go_ret
    exact⟨by unfold gm;rw[ae gf];rfl,ae cC⟩
theorem glC_len:∀g,(fL g).length=7:=fun _=>rfl
theorem qI {G:List Gl} {n:Nat} (h:n<G.length) (j:Nat) (hj:j<7):(G.flatMap fL)[n*7+j]?=(fL G[n])[j]?:=qB glC_len h j hj
structure cR (w:World) (mb:Nat) (cs:Array Value) (D:List Ng) (nO:Option Addr) (nC:Nat) (fr:Nat→Nat) (G:List Gl) (po:Option Addr) (pc:Nat):Prop where
 st:bG w mb 1 cs 88 D nO nC
 ok:bZ D fr
 c3:cs[3]?=some (.slice po G.length pc)
 pool:w.ownsRow 0 133 7 (.slice po G.length pc) G.length (G.flatMap fL)
 nds:∀g∈G,w.ownsRow 0 3 1 (.slice g.no g.nd.length g.nc) g.nd.length (g.nd.map aJ)
 nlt:∀g∈G,∀v∈g.nd,v<D.length
 nl:∀g∈G,g.nd.length≤1000000000
theorem cR.below {w w':World} {mb:Nat} {cs:Array Value} {D:List Ng} {nO:Option Addr} {nC:Nat} {fr:Nat→Nat} {G:List Gl} {po:Option Addr} {pc:Nat} (h:cR w mb cs D nO nC fr G po pc) (hb:Below w.heap.size w w'):cR w' mb cs D nO nC fr G po pc:=
 ⟨h.st.below hb,h.ok,h.c3,ai h.pool (fun g q=>hb.block g (h.pool.lt g q).2),fun g hg=>ai (h.nds g hg) (fun k q=>hb.block k ((h.nds g hg).lt k q).2),h.nlt,h.nl⟩
def cJ (fr:Nat→Nat) (G:List Gl) (j:Nat):List Nat:=(List.range j).filter fun i=>match G[i]? with
 | some g=>gm fr g
 | none=>false
theorem Jp (fr:Nat→Nat) (G:List Gl) (j:Nat) (h:j<G.length):cJ fr G (j+1)=cJ fr G j++(if gm fr G[j]=true then [j]else []):=by
 unfold cJ
 rw[List.range_succ,List.filter_append]
 congr 1
 simp only[List.filter_cons,List.filter_nil,List.getElem?_eq_getElem h]
theorem Ct (fr:Nat→Nat) (G:List Gl) (j:Nat):(cJ fr G j).length≤j:=by
 have:=List.length_filter_le (fun i=>match G[i]? with
  | some g=>gm fr g
  | none=>false) (List.range j)
 rwa [List.length_range]at this
def XQ (w:World) (fr:Nat→Nat) (G:List Gl) (k:Nat) (av iv:Value) (wr:World):Prop:=
 ∃j:Nat,k+j=G.length∧iv= .int .i64 (j:Int)∧wr.ownsRow w.heap.size 3 1 av (cJ fr G j).length ((cJ fr G j).map aJ)∧Below w.heap.size w wr
theorem zP (w:World) (mb:Nat) (cs:Array Value) (D:List Ng) (nO:Option Addr) (nC:Nat) (fr:Nat→Nat) (G:List Gl) (po:Option Addr) (pc:Nat) (h:cR w mb cs D nO nC fr G po pc) (hl:G.length≤1000000):
 Calls Tryz.prog 35 #[.pointer (some ⟨mb,0,none⟩)] w fun e w'=>∃oo oc,e= .returned (.slice oo (cJ fr G G.length).length oc)∧w'.ownsRow w.heap.size 3 1 (.slice oo (cJ fr G G.length).length oc) (cJ fr G G.length).length ((cJ fr G G.length).map aJ)∧Below w.heap.size w w':=by
 have f3:=(ah h.st.blk 3).trans h.c3
 have mz:=af h.st.blk
 have H:=hide h
 obtain⟨tj,hj,hy0,hy1,hy2⟩:=info_parts infoIn
 clear h
 go_enter Tryz.func35,Tryz.ntmps35
 go_wp2_with fail
 go_loopg [3,11] G.length (fun k av iv wr=>XQ w fr G k av iv wr)
 case atStart=>exact⟨0,by omega,rfl,by simpa [cJ] using World.ownsRow_nil _ _ _ _,Below.refl _ _⟩
 case round=>
  obtain⟨j,hkj,rfl,how,aT⟩:=hrel
  obtain⟨oo,oc,rfl⟩:=gH how
  by_cases hlt:j<G.length
  ·obtain⟨g,hg⟩:∃g,po=some ⟨g,0,none⟩:=by
    rcases(ae H).pool.2 with⟨q,q2⟩ | ⟨g,cp,cur,q,_⟩
    ·omega
    ·simp only[Value.slice.injEq]at q
     exact⟨g,q.1⟩
   subst hg
   have gz0:=((ae H).pool.lt g rfl).2
   have fc:∀i,i<7→wr.cell? ⟨g,j*7+i,none⟩=(fL G[j])[i]?:=fun i hi=>by
    rw[aT.cell (p:=⟨g,j*7+i,none⟩) gz0,(ae H).pool.cellAt (j*7+i) (by omega)]
    exact qI hlt i hi
   have e0:=fc 0 (by omega)
   have e1:=fc 1 (by omega)
   have e2:=fc 2 (by omega)
   have e3:=fc 3 (by omega)
   have e4:=fc 4 (by omega)
   have e5:=fc 5 (by omega)
   have e6:=fc 6 (by omega)
   simp only[fL,List.getElem?_cons_zero,List.getElem?_cons_succ,Nat.add_zero]at e0 e1 e2 e3 e4 e5 e6
   have gz:g<wr.heap.size:=Nat.lt_of_lt_of_le gz0 aT.size
   have i0:(0:Int)≤(j:Int):=by omega
   have i1:(j:Int)<(G.length:Int):=by omega
   have hW:=aT.alloc aT.size (.cells #[.int .i64 (G[j].l:Int),.string G[j].sg,.int .i64 G[j].r,.string G[j].op,.int .i64 G[j].z,.bool G[j].wt,.slice G[j].no G[j].nd.length G[j].nc] 133)
   have hm:=(ae H).below hW
   have IR:=hide (vC _ mb cs _ D nO nC fr G[j] 0 hm.st hm.ok (hm.nds _ (List.getElem_mem hlt)) (hm.nlt _ (List.getElem_mem hlt)) (hm.nl _ (List.getElem_mem hlt)))
   have fx:=hide (Jp fr G j hlt)
   have hle:=Ct fr G j
   have We:(cJ fr G j).length≤1000000:=by omega
   have HOW:=hide (ai how (w':=wr.alloc (.cells #[.int .i64 (G[j].l:Int),.string G[j].sg,.int .i64 G[j].r,.string G[j].op,.int .i64 G[j].z,.bool G[j].wt,.slice G[j].no G[j].nd.length G[j].nc] 133)) (fun k q=>Below.heap_alloc _ _ _ (how.lt k q).2))
   have cC:=hide hW
   have aW:=hide hkj
   have ba:=hide hlt
   generalize cJ fr G j=Z at*
   have xI:gm fr G[j]=true∨gm fr G[j]=false:=by cases gm fr G[j]<;>simp
   have Jq:=hide xI
   generalize hgg:G[j]=gg at*
   clear how aT hkj hlt fc hW hm hle xI hgg
   rcases ae Jq with hr | hr
   ·rw[hr]at IR
    rw[if_pos hr]at fx
    clear hr Jq
    go_wp2_with fail
    refine(ae IR).mono ?_
    rintro e w5 ⟨rfl,bf⟩
    have z5:=bf.size
    rw[World.size_alloc]at z5
    have mi:=hide (ai (ae HOW) (fun k q=>bf.block k ((ae HOW).lt k q).2))
    have vO:=hide ((ae cC).trans (bf.mono (ae cC).size))
    have z6:w.heap.size≤w5.heap.size:=(ae vO).size
    clear bf
    go_wp2_with (at_builtin;go_must (refine wpList_append_own_at _ rfl (.tmp 19) (.tmp 21) 25 rfl w.heap.size 3 tj (.int .i64 0) 1 8 Tryz.underlying25 hj hy0 hy1 hy2 rfl (by decide) _ Z.length (Z.map aJ) rfl ((ae mi).alloc _) ⟨w5.heap.size,0,none⟩ 1 1 [.int .i64 (j:Int)] rfl rfl (ju _ _ _ _ rfl) (by simp[Value.oneCell']) (by unfold maxLen;omega) (by omega) (by simp;omega) ?_);go_must (intro v' w7 hown' hgrow _ _;have mH:=hide hown';have o9:=hide (((ae vO).alloc (ae vO).size _).grown hgrow (by have:=(ae vO).size;simp;omega) (fun k q=>by have:=((ae mi).lt k q).1;omega));clear hown' hgrow))
    go_roundg (gk - 1)
    case measure=>have:=ae aW;have:=ae ba;omega
    case rel=>exact⟨j+1,by have:=ae aW;have:=ae ba;omega,by go_num,by rw[ae fx];have:=ae mH;simpa [aJ] using this,ae o9⟩
   ·rw[hr]at IR
    rw[if_neg (by simp[hr]),List.append_nil]at fx
    clear hr Jq
    go_wp2_with fail
    refine(ae IR).mono ?_
    rintro e w5 ⟨rfl,bf⟩
    have bj:=hide bf
    clear bf
    go_wp2_with fail
    go_roundg (gk - 1)
    case measure=>have:=ae aW;have:=ae ba;omega
    case rel=>exact⟨j+1,by have:=ae aW;have:=ae ba;omega,by go_num,by rw[ae fx];exact ai (ae HOW) (fun k q=>(ae bj).block k ((ae HOW).lt k q).2),(ae cC).trans ((ae bj).mono (ae cC).size)⟩
  ·obtain rfl:j=G.length:=by omega
   have HOW:=hide how
   have cC:=hide aT
   clear how aT hkj
   go_wp2_with fail
   go_ret
   exact⟨oo,oc,rfl,ae HOW,ae cC⟩
theorem xJ (w:World) (mb:Nat) (cs:Array Value) (Ty:TypeId) (D:List Ng) (nO:Option Addr) (nC:Nat) (fr:Nat→Nat) (n:Nat) (d:Ng) (hs:bG w mb 1 cs Ty D nO nC) (hok:bZ D fr) (hn:n<D.length) (hd:D[fr n]?=some d):
 Calls Tryz.prog 189 #[.pointer (some ⟨mb,0,none⟩),.int .i64 (n:Int)] w fun e w'=>e= .returned (.tuple #[.int .i64 d.val,.bool (d.k == 2)])∧Below w.heap.size w w':=by
 obtain⟨k,hk⟩:=hok.hop n hn
 have HL:=hide (dS w mb 1 cs Ty D nO nC n (fr n) k d hs hk hd)
 clear hs hok hd hk
 go_enter Tryz.func189,Tryz.ntmps189
 go_wp2_with fail
 refine(ae HL).mono ?_
 rintro e w2 ⟨rfl,hb2⟩
 have z2:=hb2.size
 have HB:=hide (hb2.alloc z2 (.cells #[.int .i64 d.k,.int .i64 d.val,.string d.tx,.int .i64 (d.cnt:Int)] 144))
 clear hb2
 go_wp2_with fail
 go_region
 all_goals
  go_wp2_with fail
  refine bodyPost_ret (v:= .tuple #[.int .i64 d.val,.bool (d.k == 2)]) (by simp[results,Tryz.results189,go_sem]) rfl ?_
  exact⟨rfl,(ae HB).drew⟩
def arith (op:List UInt8) (a b:Int):Int:=if op=[43]then a+b else if op=[45]then a - b else a*b
theorem LJ (w:World) (a b:Int) (op:ByteArray) (ha: -1000000000≤a) (ha':a≤1000000000) (hb: -1000000000≤b) (hb':b≤1000000000):
 Calls Tryz.prog 190 #[.int .i64 a,.string op,.int .i64 b] w fun e w'=>e= .returned (.int .i64 (arith op.toList a b))∧w'=w:=by
 have hm: -1000000000000000000≤a*b∧a*b≤1000000000000000000:=by
  have h1:(a*b).natAbs≤1000000000*1000000000:=by
   rw[Int.natAbs_mul]
   exact Nat.mul_le_mul (by omega) (by omega)
  omega
 by_cases h1:op.toList=[43]
 ·have t1:(op.toList == [43])=true:=by rw[h1];rfl
  have HE:=hide (show a+b=arith op.toList a b by unfold arith;rw[if_pos h1])
  clear h1 hm
  go_enter Tryz.func190,Tryz.ntmps190
  go_wp2_with fail
  go_ret
  exact⟨by rw[←ae HE];first | rfl | done,rfl⟩
 ·by_cases h2:op.toList=[45]
  ·have t1:(op.toList == [43])=false:=by rw[h2];rfl
   have t2:(op.toList == [45])=true:=by rw[h2];rfl
   have HE:=hide (show a - b=arith op.toList a b by unfold arith;rw[if_neg h1,if_pos h2])
   clear h1 h2 hm
   go_enter Tryz.func190,Tryz.ntmps190
   go_wp2_with fail
   go_ret
   exact⟨by rw[←ae HE];first | rfl | done,rfl⟩
  ·have t1:(op.toList == [43])=false:=by simpa using h1
   have t2:(op.toList == [45])=false:=by simpa using h2
   have HE:=hide (show wrap64 (a*b)=arith op.toList a b by unfold arith;rw[if_neg h1,if_neg h2];unfold wrap64;omega)
   clear h1 h2 hm
   go_enter Tryz.func190,Tryz.ntmps190
   go_wp2_with fail
   go_ret
   exact⟨by rw[←ae HE];first | rfl | done,rfl⟩
theorem vZ (w:World) (mb:Nat) (cs:Array Value) (n:Nat) (h:w.heap[mb]?=some (.cells cs 88 (0,0))) (hc:5<cs.size):
 Calls Tryz.prog 155 #[.pointer (some ⟨mb,0,none⟩),.int .i64 (n:Int)] w fun e w'=>e= .returned (.int .i64 (-2))∧w'=w.setCell ⟨mb,5,none⟩ (.int .i64 (n:Int)):=by
 have c5:=(ah h 5).trans (Array.getElem?_eq_getElem hc)
 have x5:=au h 5
 have mz:=af h
 clear h
 go_enter Tryz.func155,Tryz.ntmps155
 go_wp2_with fail
 go_ret
 exact⟨rfl,rfl⟩
def ly (op:List UInt8) (d e:Ng):Option Int:=if d.k=2 then(if op=[]then some d.val else if e.k=2 then(if -1000000000≤arith op d.val e.val∧arith op d.val e.val≤1000000000 then some (arith op d.val e.val)else none)else none)else none
def Wf (r:Option Int) (w:World) (e:Ending) (w':World):Prop:=∃(x:Int) (b:Bool),e= .returned (.tuple #[.int .i64 x,.bool b])∧((b=true∧r=some x)∨(b=false∧r=none))∧Below w.heap.size w w'
theorem Jr (w:World) (mb:Nat) (cs:Array Value) (Ty:TypeId) (D:List Ng) (nO:Option Addr) (nC:Nat) (fr:Nat→Nat) (l:Nat) (sg:ByteArray) (rn:Nat) (op:ByteArray) (z:Int) (wt:Bool) (no:Option Addr) (nn nc:Nat) (d e:Ng) (hs:bG w mb 1 cs Ty D nO nC) (hok:bZ D fr) (hn:rn<D.length) (hd:D[fr rn]?=some d) (hz:op.toList≠[]→∃zn:Nat,z=(zn:Int)∧zn<D.length∧D[fr zn]?=some e) (sd: -1000000000≤d.val∧d.val≤1000000000) (se: -1000000000≤e.val∧e.val≤1000000000):
 Calls Tryz.prog 157 #[.pointer (some ⟨mb,0,none⟩),.agg #[.int .i64 (l:Int),.string sg,.int .i64 (rn:Int),.string op,.int .i64 z,.bool wt,.slice no nn nc]] w fun x w'=>Wf (ly op.toList d e) w x w':=by
 have hb0:=(Below.refl w.heap.size w).alloc (Nat.le_refl _) (.cells #[.int .i64 (l:Int),.string sg,.int .i64 (rn:Int),.string op,.int .i64 z,.bool wt,.slice no nn nc] 133)
 have IN:=hide (xJ _ mb cs Ty D nO nC fr rn d (hs.below hb0) hok hn hd)
 have IZ:=hide (fun W (hb:Below w.heap.size w W) (zn:Nat) (hl:zn<D.length) (he:D[fr zn]?=some e)=>xJ W mb cs Ty D nO nC fr zn e (hs.below hb) hok hl he)
 have HX:=hide (heap_alloc_new w (.cells #[.int .i64 (l:Int),.string sg,.int .i64 (rn:Int),.string op,.int .i64 z,.bool wt,.slice no nn nc] 133))
 have aS:=hide hb0
 have HZ:=hide hz
 have zN:=hide sd
 have UO:=hide se
 clear hs hok hn hd hz hb0 sd se
 go_enter Tryz.func157,Tryz.ntmps157
 go_wp2_with fail
 refine(ae IN).mono ?_
 rintro ee w2 ⟨rfl,hb2⟩
 have hx2:=(hb2.block w.heap.size (by simp)).trans (ae HX)
 have c3:=ah hx2 3
 have c4:=ah hx2 4
 have xz:=af hx2
 simp only[List.getElem?_toArray,List.getElem?_cons_zero,List.getElem?_cons_succ]at c3 c4
 have hb3:=(ae aS).trans (hb2.mono (ae aS).size)
 have bu:=hide hb3
 have Nz:=hide hx2
 clear hb2 hb3 hx2 IN aS HX
 by_cases h1:d.k=2
 ·have t1:(d.k == 2)=true:=by simpa using h1
  rw[t1]
  by_cases h2:op.toList=[]
  ·have t2:(op.toList == [])=true:=by rw[h2];rfl
   have HR:=hide (show ly op.toList d e=some d.val by unfold ly;rw[if_pos h1,if_pos h2])
   clear h1 h2
   go_wp2_with fail
   refine bodyPost_ret (v:= .tuple #[.int .i64 d.val,.bool true]) (by simp[results,Tryz.results157,go_sem]) rfl ?_
   exact⟨_,_,rfl,Or.inl ⟨rfl,ae HR⟩,ae bu⟩
  ·have t2:(op.toList == [])=false:=by simpa using h2
   obtain⟨zn,rfl,zl,ze⟩:=ae HZ h2
   have IY:=hide (ae IZ _ (ae bu) zn zl ze)
   have jw:=hide (show ly op.toList d e=if e.k=2 then(if -1000000000≤arith op.toList d.val e.val∧arith op.toList d.val e.val≤1000000000 then some (arith op.toList d.val e.val)else none)else none by unfold ly;rw[if_pos h1,if_neg h2])
   clear h1 h2 zl ze IZ HZ
   go_wp2_with fail
   refine(ae IY).mono ?_
   rintro ee w4 ⟨rfl,hb4⟩
   have Rh:=(hb4.block w.heap.size xz).trans (ae Nz)
   have c3':=ah Rh 3
   have xz4:=af Rh
   simp only[List.getElem?_toArray,List.getElem?_cons_zero,List.getElem?_cons_succ]at c3'
   have cu:=hide ((ae bu).trans (hb4.mono (ae bu).size))
   clear hb4 Rh IY c3 c4
   by_cases h3:e.k=2
   ·have t3:(e.k == 2)=true:=by simpa using h3
    rw[t3]
    rw[if_pos h3]at jw
    have IC:=hide (LJ w4 d.val e.val op (ae zN).1 (ae zN).2 (ae UO).1 (ae UO).2)
    generalize arith op.toList d.val e.val=x at*
    clear h3
    by_cases h4:x≤1000000000
    ·by_cases h5: -1000000000≤x
     ·rw[if_pos ⟨h5,h4⟩]at jw
      have t4:decide (1000000000<x)=false:=by simp;omega
      have t5:decide (x< -1000000000)=false:=by simp;omega
      clear h4 h5
      go_wp2_with fail
      refine(ae IC).mono ?_
      rintro ee w5 ⟨rfl,rfl⟩
      go_wp2_with fail
      refine bodyPost_ret (v:= .tuple #[.int .i64 x,.bool true]) (by simp[results,Tryz.results157,go_sem]) rfl ?_
      exact⟨_,_,rfl,Or.inl ⟨rfl,ae jw⟩,ae cu⟩
     ·rw[if_neg (fun q=>h5 q.1)]at jw
      have t4:decide (1000000000<x)=false:=by simp;omega
      have t5:decide (x< -1000000000)=true:=by simp;omega
      clear h4 h5
      go_wp2_with fail
      refine(ae IC).mono ?_
      rintro ee w5 ⟨rfl,rfl⟩
      go_wp2_with fail
      refine bodyPost_ret (v:= .tuple #[.int .i64 0,.bool false]) (by simp[results,Tryz.results157,go_sem]) rfl ?_
      exact⟨_,_,rfl,Or.inr ⟨rfl,ae jw⟩,ae cu⟩
    ·rw[if_neg (fun q=>h4 q.2)]at jw
     have t4:decide (1000000000<x)=true:=by simp;omega
     clear h4
     go_wp2_with fail
     refine(ae IC).mono ?_
     rintro ee w5 ⟨rfl,rfl⟩
     go_wp2_with fail
     refine bodyPost_ret (v:= .tuple #[.int .i64 0,.bool false]) (by simp[results,Tryz.results157,go_sem]) rfl ?_
     exact⟨_,_,rfl,Or.inr ⟨rfl,ae jw⟩,ae cu⟩
   ·have t3:(e.k == 2)=false:=by simpa using h3
    rw[t3]
    rw[if_neg h3]at jw
    clear h3
    go_wp2_with fail
    refine bodyPost_ret (v:= .tuple #[.int .i64 0,.bool false]) (by simp[results,Tryz.results157,go_sem]) rfl ?_
    exact⟨_,_,rfl,Or.inr ⟨rfl,ae jw⟩,ae cu⟩
 ·have t1:(d.k == 2)=false:=by simpa using h1
  rw[t1]
  have HR:=hide (show ly op.toList d e=none by unfold ly;rw[if_neg h1])
  clear h1
  go_wp2_with fail
  refine bodyPost_ret (v:= .tuple #[.int .i64 d.val,.bool false]) (by simp[results,Tryz.results157,go_sem]) rfl ?_
  exact⟨_,_,rfl,Or.inr ⟨rfl,ae HR⟩,ae bu⟩
theorem Cu (D:List Gl) (n j:Nat) (hn:n<D.length) (hj:j<7) (d:Gl) (v:Value) (h:fL d=(fL D[n]).set j v):(D.set n d).flatMap fL=(D.flatMap fL).set (n*7+j) v:=by
 induction D generalizing n with
 | nil=>simp at hn
 | cons e D ih=>
  cases n with
  | zero=>
   simp only[List.set_cons_zero,List.flatMap_cons]
   rw[List.set_append_left _ _ (by rw[glC_len];omega)]
   rw[h]
   simp
  | succ n=>
   simp only[List.set_cons_succ,List.flatMap_cons]
   rw[List.set_append_right _ _ (by rw[glC_len];omega),glC_len,ih n (by simpa using hn) (by simpa using h)]
   congr 2
   omega
theorem cR.pooled {w w':World} {mb:Nat} {cs:Array Value} {D:List Ng} {nO:Option Addr} {nC:Nat} {fr:Nat→Nat} {G G':List Gl} {po:Option Addr} {pc:Nat} (h:cR w mb cs D nO nC fr G po pc) (hf:aq (rowOf po) (rowOf po) w w') (hl:G'.length=G.length) (hp:w'.ownsRow 0 133 7 (.slice po G.length pc) G.length (G'.flatMap fL)) (hn:∀g∈G',w.ownsRow 0 3 1 (.slice g.no g.nd.length g.nc) g.nd.length (g.nd.map aJ)) (ht:∀g∈G',∀v∈g.nd,v<D.length) (hm:∀g∈G',g.nd.length≤1000000000):cR w' mb cs D nO nC fr G' po pc:=by
 have keep:∀(g:Nat) (ys:Array Value) (S:TypeId),w.heap[g]?=some (.cells ys S (0,0))→S≠133→w'.heap[g]?=w.heap[g]?:=fun g ys S hg hS=>hf.block g (af hg) (aN h.pool hg hS)
 refine⟨⟨(keep mb _ _ h.st.blk (by decide)).trans h.st.blk,h.st.cel,ai h.st.own fun g q=> ?_,h.st.ty⟩,h.ok,by rw[hl];exact h.c3,by rw[hl];exact hp,fun g hg=>ai (hn g hg) fun k q=> ?_,ht,hm⟩
 ·obtain⟨cur,hc⟩:=aH h.st.own (aG q)
  exact keep g _ _ hc (by decide)
 ·obtain⟨cur,hc⟩:=aH (hn g hg) (aG q)
  exact keep k _ _ hc (by decide)
theorem Cv (w:World) (mb:Nat) (cs:Array Value) (D:List Ng) (nO:Option Addr) (nC:Nat) (fr:Nat→Nat) (G:List Gl) (po:Option Addr) (pc i:Nat) (gi:Gl) (nd:List Nat) (no:Option Addr) (nc:Nat) (h:cR w mb cs D nO nC fr G po pc) (hi:i<G.length) (iK:G[i]=gi) (hn:w.ownsRow 0 3 1 (.slice no nd.length nc) nd.length (nd.map aJ)) (hlt:∀v∈nd,v<D.length) (hl:nd.length≤1000000000):
 Calls Tryz.prog 156 #[.pointer (some ⟨mb,0,none⟩),.int .i64 (i:Int),.slice no nd.length nc] w fun e w'=>e= .returned (.int .i64 (-1))∧cR w' mb cs D nO nC fr (G.set i {gi with wt:=true,no:=no,nc:=nc,nd:=nd}) po pc∧aq (rowOf po) (rowOf po) w w':=by
 have f3:=(ah h.st.blk 3).trans h.c3
 have mz:=af h.st.blk
 obtain⟨g,hg⟩:∃g,po=some ⟨g,0,none⟩:=by
  rcases h.pool.2 with⟨q,q2⟩ | ⟨g,cp,cur,q,_⟩
  ·omega
  ·simp only[Value.slice.injEq]at q
   exact⟨g,q.1⟩
 subst hg
 have gz:=(h.pool.lt g rfl).2
 have gne:g≠mb:=fun e=>by
  obtain⟨cur,hc⟩:=aH h.pool (g:=g) ⟨_,rfl,rfl⟩
  rw[e,h.st.blk]at hc
  simp only[Option.some.injEq,Obj.cells.injEq]at hc
  exact absurd hc.2.1 (by decide)
 have fc:∀k,k<7→w.cell? ⟨g,i*7+k,none⟩=(fL gi)[k]?:=fun k hk=>by
  rw[h.pool.cellAt (i*7+k) (by omega),←iK]
  exact qI hi k hk
 have e5:=fc 5 (by omega)
 have e6:=fc 6 (by omega)
 simp only[fL,List.getElem?_cons_zero,List.getElem?_cons_succ]at e5 e6
 have x5:=h.pool.frozenAt (i*7+5)
 have x6:=h.pool.frozenAt (i*7+6)
 have i0:(0:Int)≤(i:Int):=by omega
 have i1:(i:Int)<(G.length:Int):=by omega
 obtain⟨p1,p2⟩:=h.pool.stored (i*7+5) (.bool true)
 obtain⟨p3,p4⟩:=p1.stored (i*7+6) (.slice no nd.length nc)
 have ct:aq (rowOf (some ⟨g,0,none⟩)) (rowOf (some ⟨g,0,none⟩)) w ((w.setCell ⟨g,i*7+5,none⟩ (.bool true)).setCell ⟨g,i*7+6,none⟩ (.slice no nd.length nc)):=
  ⟨p4.os.trans p2.os,p4.tape.trans p2.tape,p4.output.trans p2.output,Nat.le_trans p2.size p4.size,fun k hk hr=>by
   have hne:k≠g:=fun e=>hr ⟨⟨g,0,none⟩,rfl,e⟩
   rw[aC _ _ _ _ hne,aC _ _ _ _ hne],fun _ q=>Or.inl q⟩
 have NF:(G.set i {gi with wt:=true,no:=no,nc:=nc,nd:=nd}).flatMap fL=((G.flatMap fL).set (i*7+5) (.bool true)).set (i*7+6) (.slice no nd.length nc):=by
  have a1:=Cu G i 5 hi (by omega) {gi with wt:=true} (.bool true) (by rw[iK];rfl)
  have a2:=Cu (G.set i {gi with wt:=true}) i 6 (by simpa using hi) (by omega) {gi with wt:=true,no:=no,nc:=nc,nd:=nd} (.slice no nd.length nc) (by simp[fL])
  rw[List.set_set]at a2
  rw[a2,a1]
 have HR:=hide (h.pooled ct (G':=G.set i {gi with wt:=true,no:=no,nc:=nc,nd:=nd}) (by simp) (by rw[NF];exact p3) (fun q hq=>by
  rcases List.mem_or_eq_of_mem_set hq with e | e
  ·exact h.nds q e
  ·rw[e];exact hn) (fun q hq=>by
  rcases List.mem_or_eq_of_mem_set hq with e | e
  ·exact h.nlt q e
  ·rw[e];exact hlt) (fun q hq=>by
  rcases List.mem_or_eq_of_mem_set hq with e | e
  ·exact h.nl q e
  ·rw[e];exact hl))
 have HF:=hide ct
 clear h hn hlt ct NF p1 p2 p3 p4 fc iK
 go_enter Tryz.func156,Tryz.ntmps156
 go_wp2_with fail
 go_ret
 exact⟨rfl,ae HR,ae HF⟩
theorem infoGoal:(Tryz.prog.info? 133).map (fun i=>(i.zero,i.size,i.bytes))=some (some (.agg #[.int .i64 0,.string ⟨#[]⟩,.int .i64 0,.string ⟨#[]⟩,.int .i64 0,.bool false,.slice none 0 0]),7,88):=by kernel_rfl
theorem LM (G:List Gl) (i j:Nat) (h:j<G.length):(G.take (j+1)).eraseIdx i=(G.take j).eraseIdx i++(if j=i then []else [G[j]]):=by
 have e:G.take (j+1)=G.take j++[G[j]]:=by rw[List.take_add_one,List.getElem?_eq_getElem h];rfl
 have hl:(G.take j).length=j:=by rw[List.length_take];omega
 rw[e]
 rcases Nat.lt_trichotomy j i with q | q | q
 ·rw[List.eraseIdx_of_length_le (by simp;omega),List.eraseIdx_of_length_le (by omega),if_neg (by omega)]
 ·subst q
  have h1:(G.take j).eraseIdx j=G.take j:=List.eraseIdx_of_length_le (Nat.le_of_eq hl)
  have h2:(G.take j++[G[j]]).eraseIdx j=G.take j++[G[j]].eraseIdx (j - (G.take j).length):=List.eraseIdx_append_of_length_le (Nat.le_of_eq hl) _
  rw[h1,h2,hl,Nat.sub_self,if_pos rfl]
  rfl
 ·rw[List.eraseIdx_append_of_lt_length (by omega),if_neg (by omega)]
def XR (w:World) (G:List Gl) (i:Nat) (k:Nat) (av iv:Value) (wr:World):Prop:=
 ∃j:Nat,k+j=G.length∧iv= .int .i64 (j:Int)∧wr.ownsRow w.heap.size 133 7 av ((G.take j).eraseIdx i).length (((G.take j).eraseIdx i).flatMap fL)∧Below w.heap.size w wr
theorem cR.left {w w1:World} {mb:Nat} {cs:Array Value} {D:List Ng} {nO:Option Addr} {nC:Nat} {fr:Nat→Nat} {G G':List Gl} {po po':Option Addr} {pc pc':Nat} (h:cR w mb cs D nO nC fr G po pc) (hb:Below w.heap.size w w1) (hs:∀g∈G',g∈G) (ho:w1.ownsRow w.heap.size 133 7 (.slice po' G'.length pc') G'.length (G'.flatMap fL)):
 cR (w1.setCell ⟨mb,3,none⟩ (.slice po' G'.length pc')) mb (cs.setIfInBounds 3 (.slice po' G'.length pc')) D nO nC fr G' po' pc'∧aq (fun k=>k=mb) (fun k=>k=mb∨rowOf po' k) w (w1.setCell ⟨mb,3,none⟩ (.slice po' G'.length pc')):=by
 have mz:=af h.st.blk
 have keep:∀g,g≠mb→g<w.heap.size→(w1.setCell ⟨mb,3,none⟩ (.slice po' G'.length pc')).heap[g]?=w.heap[g]?:=fun g h1 h2=>by rw[aC _ _ _ _ h1,hb.block g h2]
 have h3:3<cs.size:=(Array.getElem?_eq_some_iff.1 h.c3).1
 refine⟨⟨⟨?_,?_,ai h.st.own fun g q=>keep g (fun e=> ?_) (h.st.own.lt g q).2,h.st.ty⟩,h.ok,?_,ai (bV ho (Nat.zero_le _)) fun g q=>aC _ _ _ _ (by have:=(ho.lt g q).1;omega),fun g hg=>ai (h.nds g (hs g hg)) fun k q=>keep k (fun e=> ?_) ((h.nds g (hs g hg)).lt k q).2,fun g hg=>h.nlt g (hs g hg),fun g hg=>h.nl g (hs g hg)⟩,⟨hb.os,hb.tape,hb.output,by rw[bS];exact hb.size,fun k hk hr=>keep k hr hk,fun k q=> ?_⟩⟩
 ·exact aw ((hb.block mb mz).trans h.st.blk) 3 (.slice po' G'.length pc')
 ·rw[Array.getElem?_setIfInBounds_ne (by omega)];exact h.st.cel
 ·exact aN h.st.own h.st.blk h.st.ty (e ▸ aG q)
 ·rw[Array.getElem?_setIfInBounds_self,if_pos h3]
 ·exact aN (h.nds g (hs g hg)) h.st.blk (by decide) (e ▸ aG q)
 ·rcases q with e | ⟨p,hp,hq⟩
  ·exact Or.inl e
  ·right
   exact(ho.lt k (by rw[hp,hq];rfl)).1
theorem tK (w:World) (mb:Nat) (cs:Array Value) (D:List Ng) (nO:Option Addr) (nC:Nat) (fr:Nat→Nat) (G:List Gl) (po:Option Addr) (pc i:Nat) (h:cR w mb cs D nO nC fr G po pc) (hl:G.length≤1000000):
 Calls Tryz.prog 118 #[.pointer (some ⟨mb,0,none⟩),.int .i64 (i:Int)] w fun e w'=>e= .returned (.int .i64 0)∧∃po' pc',cR w' mb (cs.setIfInBounds 3 (.slice po' (G.eraseIdx i).length pc')) D nO nC fr (G.eraseIdx i) po' pc'∧aq (fun k=>k=mb) (fun k=>k=mb∨rowOf po' k) w w':=by
 have f3:=(ah h.st.blk 3).trans h.c3
 have mz:=af h.st.blk
 have H:=hide h
 obtain⟨tj,hj,hy0,hy1,hy2⟩:=info_parts infoGoal
 clear h
 go_enter Tryz.func118,Tryz.ntmps118
 go_wp2_with fail
 go_loopg [5,13] G.length (fun k av iv wr=>XR w G i k av iv wr)
 case atStart=>exact⟨0,by omega,rfl,by simpa using World.ownsRow_nil _ _ _ _,Below.refl _ _⟩
 case round=>
  obtain⟨j,hkj,rfl,how,aT⟩:=hrel
  obtain⟨oo,oc,rfl⟩:=gH how
  by_cases hlt:j<G.length
  ·obtain⟨g,hg⟩:∃g,po=some ⟨g,0,none⟩:=by
    rcases(ae H).pool.2 with⟨q,q2⟩ | ⟨g,cp,cur,q,_⟩
    ·omega
    ·simp only[Value.slice.injEq]at q
     exact⟨g,q.1⟩
   subst hg
   have gz0:=((ae H).pool.lt g rfl).2
   have fc:∀i,i<7→wr.cell? ⟨g,j*7+i,none⟩=(fL G[j])[i]?:=fun i hi=>by
    rw[aT.cell (p:=⟨g,j*7+i,none⟩) gz0,(ae H).pool.cellAt (j*7+i) (by omega)]
    exact qI hlt i hi
   have e0:=fc 0 (by omega)
   have e1:=fc 1 (by omega)
   have e2:=fc 2 (by omega)
   have e3:=fc 3 (by omega)
   have e4:=fc 4 (by omega)
   have e5:=fc 5 (by omega)
   have e6:=fc 6 (by omega)
   simp only[fL,List.getElem?_cons_zero,List.getElem?_cons_succ,Nat.add_zero]at e0 e1 e2 e3 e4 e5 e6
   have gz:g<wr.heap.size:=Nat.lt_of_lt_of_le gz0 aT.size
   have z0:w.heap.size≤wr.heap.size:=aT.size
   have i0:(0:Int)≤(j:Int):=by omega
   have i1:(j:Int)<(G.length:Int):=by omega
   have fx:=hide (LM G i j hlt)
   have hle:((G.take j).eraseIdx i).length≤1000000:=by
    have:=List.length_eraseIdx_le (G.take j) i
    rw[List.length_take]at this
    omega
   have HOW:=hide how
   have cC:=hide aT
   have aW:=hide hkj
   have ba:=hide hlt
   generalize (G.take j).eraseIdx i=Z at*
   generalize G[j]=gg at*
   clear how aT hkj hlt fc
   by_cases hi:j=i
   ·rw[if_pos hi,List.append_nil]at fx
    have t1:((j:Int) == (i:Int))=true:=by simp;omega
    have t2:((j:Int) != (i:Int))=false:=by simp;omega
    clear hi
    go_wp2_with fail
    go_roundg (gk - 1)
    case measure=>have:=ae aW;have:=ae ba;omega
    case rel=>exact⟨j+1,by have:=ae aW;have:=ae ba;omega,by go_num,by rw[ae fx];exact ai (ae HOW) (fun k q=>Below.heap_alloc _ _ _ ((ae HOW).lt k q).2),(ae cC).alloc (ae cC).size _⟩
   ·rw[if_neg hi]at fx
    have t1:((j:Int) == (i:Int))=false:=by simp;omega
    have t2:((j:Int) != (i:Int))=true:=by simp;omega
    clear hi
    go_wp2_with (first | (at_builtin;go_must (refine wpList_append_own_at _ rfl (.tmp 21) (.tmp 23) 86 rfl w.heap.size 133 tj (.agg #[.int .i64 0,.string ⟨#[]⟩,.int .i64 0,.string ⟨#[]⟩,.int .i64 0,.bool false,.slice none 0 0]) 7 88 Tryz.underlying86 hj hy0 hy1 hy2 rfl (by decide) _ Z.length (Z.flatMap fL) rfl (((ae HOW).alloc _).alloc _) ⟨wr.heap.size+1,0,none⟩ 1 1 [.int .i64 (gg.l:Int),.string gg.sg,.int .i64 gg.r,.string gg.op,.int .i64 gg.z,.bool gg.wt,.slice gg.no gg.nd.length gg.nc] rfl rfl (F4 _ _ _ _ _ (by simp) rfl) (by simp[Value.oneCell']) (by unfold maxLen;omega) (by omega) (by simp;omega) ?_);go_must (intro v' w7 hown' hgrow _ _;have mH:=hide hown';have o9:=hide ((((ae cC).alloc (ae cC).size _).alloc (by simp;omega) _).grown hgrow (by simp;omega) (fun k q=>by have:=((ae HOW).lt k q).1;omega));clear hown' hgrow)))
    go_roundg (gk - 1)
    case measure=>have:=ae aW;have:=ae ba;omega
    case rel=>exact⟨j+1,by have:=ae aW;have:=ae ba;omega,by go_num,by rw[ae fx];have:=ae mH;simpa [fL] using this,ae o9⟩
  ·obtain rfl:j=G.length:=by omega
   rw[List.take_length]at how
   have HR:=hide ((ae H).left aT (G':=G.eraseIdx i) (fun g hg=>List.mem_of_mem_eraseIdx hg) how)
   have f3':=(aT.cell (p:=⟨mb,3,none⟩) mz).trans f3
   have hb3:=(aT.block mb mz).trans (ae H).st.blk
   have x3:=au hb3 3
   have mz':=af hb3
   clear how aT hkj hb3
   go_wp2_with fail
   go_ret
   rw[List.take_length]
   exact⟨rfl,_,_,ae HR⟩
theorem cR.linked {w w':World} {mb:Nat} {cs:Array Value} {D D':List Ng} {nO:Option Addr} {nC:Nat} {fr fr':Nat→Nat} {G:List Gl} {po:Option Addr} {pc:Nat} (h:cR w mb cs D nO nC fr G po pc) (hs:bG w' mb 1 cs 88 D' nO nC) (hd:cU D D') (hf:aq (rowOf nO) (rowOf nO) w w') (ho:bZ D' fr'):cR w' mb cs D' nO nC fr' G po pc:=by
 have keep:∀(g:Nat) (ys:Array Value) (S:TypeId),w.heap[g]?=some (.cells ys S (0,0))→S≠147→w'.heap[g]?=w.heap[g]?:=fun g ys S hg hS=>hf.block g (af hg) (h.st.apart hg hS)
 refine⟨hs,ho,h.c3,ai h.pool fun g q=> ?_,fun g hg=>ai (h.nds g hg) fun k q=> ?_,fun g hg v hv=>by rw[hd.len];exact h.nlt g hg v hv,h.nl⟩
 ·obtain⟨cur,hc⟩:=aH h.pool (aG q)
  exact keep g _ _ hc (by decide)
 ·obtain⟨cur,hc⟩:=aH (h.nds g hg) (aG q)
  exact keep k _ _ hc (by decide)
def zQ (mb:Nat) (cs:Array Value) (D:List Ng) (nO:Option Addr) (nC:Nat) (fr:Nat→Nat) (TT:Nat→Zf.U) (G:List Gl) (i a b:Nat) (w:World) (e:Ending) (w':World):Prop:=
 (∃(D':List Ng) (fr':Nat→Nat) (σ:Zf.Vr→Zf.U) (T':Nat→Zf.U) (po':Option Addr) (pc':Nat),e= .returned (.int .i64 0)∧cU D D'∧Zf.Made (aX D) fr fr' TT T' (TT a) (TT b) σ∧cR w' mb (cs.setIfInBounds 3 (.slice po' (G.eraseIdx i).length pc')) D' nO nC fr' (G.eraseIdx i) po' pc'∧aq (fun k=>rowOf nO k∨k=mb) (fun k=>rowOf nO k∨k=mb∨rowOf po' k) w w')∨
 ((∀θ,Zf.sub θ (TT a)≠Zf.sub θ (TT b))∧e= .returned (.int .i64 (-2))∧w'.heap[mb]?=some (.cells (cs.setIfInBounds 5 (.int .i64 4)) 88 (0,0))∧aq (fun k=>rowOf nO k∨k=mb) (fun k=>rowOf nO k∨k=mb) w w')
theorem xK (w:World) (mb:Nat) (cs:Array Value) (D:List Ng) (nO:Option Addr) (nC:Nat) (fr:Nat→Nat) (TT:Nat→Zf.U) (P:Nat→Prop) (G:List Gl) (po:Option Addr) (pc i a b:Nat) (h:cR w mb cs D nO nC fr G po pc) (har:aY w D P) (fD:Zf.dI (aX D) fr TT) (ha:a<D.length) (hb:b<D.length) (hD:D.length≤1000000000) (hG:G.length≤1000000) (hc:5<cs.size):
 Calls Tryz.prog 116 #[.pointer (some ⟨mb,0,none⟩),.int .i64 (i:Int),.int .i64 (a:Int),.int .i64 (b:Int)] w fun e w'=>zQ mb cs D nO nC fr TT G i a b w e w':=by
 have IU:=hide ((OY w mb 1 cs 88 D nO nC P fr a b h.st h.ok har ha hb hD).mono fun e w' q=>q.says fD)
 have mz:=af h.st.blk
 have H:=hide h
 clear h har fD ha hb hD
 go_enter Tryz.func116,Tryz.ntmps116
 go_wp2_with fail
 refine(ae IU).mono ?_
 rintro e w2 ⟨r,D',rfl,st2,sm2,fr2,yes,no⟩
 have mz2:=af st2.blk
 have HF:=hide ((fr2.wide (fun k=>k=mb)))
 cases r with
 | true=>
  obtain⟨fr',σ,T',ok2,md⟩:=yes rfl
  have IL:=hide (tK w2 mb cs D' nO nC fr' G po pc i ((ae H).linked st2 sm2 fr2 ok2) hG)
  have XS:=hide md
  have jf:=hide sm2
  clear st2 sm2 fr2 yes no ok2 md IU
  go_wp2_with fail
  refine(ae IL).mono ?_
  rintro e w3 ⟨rfl,po',pc',m3,fr3⟩
  have Ri:=hide m3
  have vq:=hide fr3
  clear m3 fr3 IL
  go_wp2_with fail
  go_ret
  refine Or.inl ⟨D',fr',σ,T',po',pc',rfl,ae jf,ae XS,ae Ri,(ae HF).trans ((ae vq).NB (rowOf nO))⟩
 | false=>
  have IL:=hide (vZ w2 mb cs 4 st2.blk hc)
  have gf:=hide (no rfl)
  have HR:=hide (aw st2.blk 5 (.int .i64 4))
  clear st2 sm2 fr2 yes no IU
  go_wp2_with fail
  refine(ae IL).mono ?_
  rintro e w3 ⟨rfl,rfl⟩
  go_wp2_with fail
  go_ret
  refine Or.inr ⟨ae gf,rfl,ae HR,(ae HF).trans ⟨rfl,rfl,rfl,by rw[bS];exact Nat.le_refl _,fun k _ hr=>aC _ _ _ _ (fun e=>hr (Or.inr e)),fun _ q=>Or.inl q⟩⟩
theorem wm (w:World) (sb so:Nat) (cs:Array Value) (T:TypeId) (D:List Ng) (no:Option Addr) (nc:Nat) (h:bG w sb so cs T D no nc):
 Calls Tryz.prog 125 #[.pointer (some ⟨sb,so,none⟩),.int .i64 (-1)] w fun e w'=>e= .returned (.bool false)∧w'=w:=by
 have s0:=h.cell
 have sz:=af h.blk
 clear h
 go_enter Tryz.func125,Tryz.ntmps125
 go_wp2_with fail
 go_ret
 exact⟨rfl,rfl⟩
theorem xL (w:World) (sb so:Nat) (cs:Array Value) (T:TypeId) (D:List Ng) (no:Option Addr) (nc:Nat) (h:bG w sb so cs T D no nc):
 Calls Tryz.prog 115 #[.pointer (some ⟨sb,so,none⟩),.int .i64 (-1)] w fun e w'=>e= .returned (.int .i64 (-1))∧w'=w:=by
 have HH:=hide (wm w sb so cs T D no nc h)
 clear h
 go_enter Tryz.func115,Tryz.ntmps115
 go_wp2_with fail
 refine wp_loop_rounds 1 ?_
 rw[rounds_succ]
 go_wp2_with fail
 refine(ae HH).mono ?_
 rintro e w2 ⟨rfl,rfl⟩
 go_wp2_with fail
 go_ret
 exact⟨rfl,rfl⟩
theorem xM (w:World) (sb so:Nat) (cs:Array Value) (T:TypeId) (D:List Ng) (no:Option Addr) (nc:Nat) (h:bG w sb so cs T D no nc):
 Calls Tryz.prog 80 #[.pointer (some ⟨sb,so,none⟩),.int .i64 (-1)] w fun e w'=>e= .returned (.agg #[.int .i64 0,.int .i64 0,.string ⟨#[]⟩,.int .i64 0])∧Below w.heap.size w w':=by
 have hb:=(Below.refl w.heap.size w).alloc (Nat.le_refl _) (.cells #[.int .i64 0,.int .i64 0,.string ⟨#[]⟩,.int .i64 0] 144)
 have HF:=hide (xL _ sb so cs T D no nc (h.below hb))
 have HH:=hide (wm _ sb so cs T D no nc (h.below hb))
 have HB:=hide hb
 clear h hb
 go_enter Tryz.func80,Tryz.ntmps80
 go_wp2_with fail
 refine(ae HF).mono ?_
 rintro e w2 ⟨rfl,rfl⟩
 go_wp2_with fail
 refine(ae HH).mono ?_
 rintro e w2 ⟨rfl,rfl⟩
 go_wp2_with fail
 refine bodyPost_ret (v:= .agg #[.int .i64 0,.int .i64 0,.string ⟨#[]⟩,.int .i64 0]) (by simp[results,Tryz.results80,go_sem]) rfl ?_
 exact⟨rfl,ae HB⟩
theorem zR (w:World) (sb so:Nat) (cs:Array Value) (T:TypeId) (D:List Ng) (no:Option Addr) (nc:Nat) (h:bG w sb so cs T D no nc):
 Calls Tryz.prog 82 #[.pointer (some ⟨sb,so,none⟩),.int .i64 (-1)] w fun e w'=>e= .returned (.slice none 0 0)∧w'=w:=by
 have HF:=hide (xL w sb so cs T D no nc h)
 have HH:=hide (wm w sb so cs T D no nc h)
 clear h
 go_enter Tryz.func82,Tryz.ntmps82
 go_wp2_with fail
 refine(ae HF).mono ?_
 rintro e w2 ⟨rfl,rfl⟩
 go_wp2_with fail
 refine(ae HH).mono ?_
 rintro e w2 ⟨rfl,rfl⟩
 go_wp2_with fail
 go_ret
 exact⟨rfl,rfl⟩
theorem Js (w:World) (sb so:Nat) (cs:Array Value) (T:TypeId) (D:List Ng) (no:Option Addr) (nc:Nat) (h:bG w sb so cs T D no nc):
 Calls Tryz.prog 89 #[.pointer (some ⟨sb,so,none⟩),.int .i64 (-1),.int .i64 40] w fun e w'=>e= .returned (.int .i64 1)∧w'=w:=by
 have HA:=hide (zR w sb so cs T D no nc h)
 clear h
 go_enter Tryz.func89,Tryz.ntmps89
 go_wp2_with fail
 refine(ae HA).mono ?_
 rintro e w2 ⟨rfl,rfl⟩
 go_wp2_with fail
 refine wp_loop_rounds 1 ?_
 rw[rounds_succ]
 go_wp2_with fail
 go_ret
 exact⟨rfl,rfl⟩
theorem Gi (w:World) (lb sb so:Nat) (cs:Array Value) (T:TypeId) (D:List Ng) (no:Option Addr) (nc:Nat) (R:Nat→Prop) (S:List Int) (W:List Nat) (nb:Bool) (hs:bG w sb so cs T D no nc) (h:cO w lb S W nb R):
 Calls Tryz.prog 81 #[.pointer (some ⟨lb,0,none⟩),.pointer (some ⟨sb,so,none⟩),.int .i64 (-1)] w fun e w'=>e= .returned (.tuple #[])∧cO w' lb S W nb R∧aq R R w w':=by
 have HL:=hide (xM w sb so cs T D no nc hs)
 have H:=hide h
 clear hs h
 go_enter Tryz.func81,Tryz.ntmps81
 go_wp2_with fail
 refine(ae HL).mono ?_
 rintro e w2 ⟨rfl,hb2⟩
 have aP:=hide hb2
 have z2:=hb2.size
 clear hb2
 go_wp2_with fail
 go_end0
 exact⟨rfl,(ae H).below ((ae aP).alloc z2 _),aq.of_below ((ae aP).alloc z2 _)⟩
def pC (len:Nat) (x:Int):Prop:=x= -1∨∃n:Nat,x=(n:Int)∧n<len
def lA (w:World) (o:Option Addr) (xs:List Int):Prop:=xs≠[]→∃g,o=some ⟨g,0,none⟩∧g<w.heap.size∧∀i (h:i<xs.length),w.cell? ⟨g,i,none⟩=some (.int .i64 xs[i])
theorem lA.jM {w:World} {o:Option Addr} {xs:List Int} {c b:Nat} (h:w.ownsRow b 3 1 (.slice o xs.length c) xs.length (xs.map fT)):lA w o xs:=fun hne=>by
 have hp:0<xs.length:=List.length_pos_iff.2 hne
 rcases h.2 with⟨q,q2⟩ | ⟨g,cp,cur,q,_⟩
 ·omega
 ·simp only[Value.slice.injEq]at q
  obtain⟨rfl,_⟩:=q
  refine⟨g,rfl,(h.lt g rfl).2,fun i hi=> ?_⟩
  rw[h.cellAt i (by omega),List.getElem?_map,List.getElem?_eq_getElem hi]
  rfl
theorem lA.below {w w':World} {o:Option Addr} {xs:List Int} (h:lA w o xs) (hb:Below w.heap.size w w'):lA w' o xs:=fun hne=>by
 obtain⟨g,h1,h2,h3⟩:=h hne
 exact⟨g,h1,Nat.lt_of_lt_of_le h2 hb.size,fun i hi=>(hb.cell (p:=⟨g,i,none⟩) h2).trans (h3 i hi)⟩
theorem lA.Pg {w:World} {D:List Ng} {P:Nat→Prop} (h:aY w D P) {d:Ng} (hd:d∈D):lA w d.ao (d.args.map fun n:Nat=>(n:Int)):=fun hne=>by
 obtain⟨g,h1,h2,h3⟩:=h.at hd (fun q=>hne (by rw[q];rfl))
 exact⟨g,h1,h2,fun i hi=>by rw[h3 i (by simpa using hi)];simp⟩
def fY (TT:Nat→Zf.U) (x:Int):Bool:=decide (x≠-1∧40<Zf.size (TT x.toNat))
theorem LO (TT:Nat→Zf.U):fY TT (-1)=false:=by simp[fY]
theorem LR (TT:Nat→Zf.U) (n:Nat):fY TT (n:Int)=decide (40<min (Zf.size (TT n)) 41):=by
 unfold fY
 rw[Int.toNat_natCast]
 congr 1
 apply propext
 omega
theorem tM (w:World) (mb:Nat) (cs:Array Value) (Ty:TypeId) (D:List Ng) (nO:Option Addr) (nC:Nat) (fr:Nat→Nat) (TT:Nat→Zf.U) (P:Nat→Prop) (xs:List Int) (xo:Option Addr) (xc:Nat) (hs:bG w mb 1 cs Ty D nO nC) (hok:bZ D fr) (har:aY w D P) (htr:∀n,n<D.length→Zf.Tr (aX D) fr n (TT n)) (hx:lA w xo xs) (hn:∀x∈xs,pC D.length x) (hl:xs.length≤1000000000):
 Calls Tryz.prog 120 #[.pointer (some ⟨mb,0,none⟩),.slice xo xs.length xc] w fun e w'=>e= .returned (.bool (xs.any (fY TT)))∧w'=w:=by
 have HX:=hide hx
 have HN:=hide hn
 have ISZ:=hide (show∀x∈xs,Calls Tryz.prog 89 #[.pointer (some ⟨mb,1,none⟩),.int .i64 x,.int .i64 40] w fun e w'=>∃s:Nat,e= .returned (.int .i64 (s:Int))∧decide (40<s)=fY TT x∧s≤41∧w'=w from fun x Ey=>by
  rcases hn x Ey with rfl | ⟨n,rfl,iB⟩
  ·exact(Js w mb 1 cs Ty D nO nC hs).mono fun e w' q=>⟨1,q.1,by rw[LO];rfl,by omega,q.2⟩
  ·exact(size_all _ w mb 1 cs Ty D nO nC P fr n (TT n) 40 hs hok har iB (htr n iB) (Nat.le_refl _) (by omega)).mono fun e w' q=>⟨_,q.1,(LR TT n).symm,by omega,q.2⟩)
 clear hs hok har htr hx hn
 go_enter Tryz.func120,Tryz.ntmps120
 go_wp2_with fail
 go_loopg [9] xs.length (fun k iv wr=>∃j:Nat,k+j=xs.length∧iv= .int .i64 (j:Int)∧wr=w∧(xs.take j).any (fY TT)=false)
 case atStart=>exact⟨0,by omega,rfl,rfl,by simp⟩
 case round=>
  obtain⟨j,hkj,rfl,rfl,hno⟩:=hrel
  by_cases hlt:j<xs.length
  ·obtain⟨g,hg,gz,UQ⟩:=ae HX (fun q=>by rw[q]at hlt;simp at hlt)
   subst hg
   have f0:wr.cell? ⟨g,j,none⟩=some (.int .i64 xs[j]):=UQ j hlt
   clear UQ
   have i0:(0:Int)≤(j:Int):=by omega
   have i1:(j:Int)<(xs.length:Int):=by omega
   have IC:=hide (ae ISZ xs[j] (List.getElem_mem hlt))
   have hst:xs.take (j+1)=xs.take j++[xs[j]]:=by rw[List.take_add_one,List.getElem?_eq_getElem hlt];rfl
   have hmem:xs[j]∈xs:=List.getElem_mem hlt
   have ba:=hide hlt
   have aW:=hide hkj
   generalize xs[j]=x at*
   have HST:=hide hst
   have gf:=hide hno
   have Gj:=hide hmem
   clear hno hkj hst hmem hlt
   go_wp2_with fail
   refine(ae IC).mono ?_
   rintro e w5 ⟨s,rfl,hbs,h41,rfl⟩
   by_cases hb:40<s
   ·have t1:decide ((40:Int)<(s:Int))=true:=by simp;omega
    have HY:=hide (show xs.any (fY TT)=true from List.any_eq_true.2 ⟨x,ae Gj,by rw[←hbs];simpa using hb⟩)
    clear hb hbs
    go_wp2_with fail
    go_ret
    exact⟨by rw[ae HY];rfl,rfl⟩
   ·have t1:decide ((40:Int)<(s:Int))=false:=by simp;omega
    have HY:=hide (show (xs.take (j+1)).any (fY TT)=false by rw[ae HST,List.any_append,ae gf];simp[←hbs];omega)
    clear hb hbs
    go_wp2_with fail
    go_roundg (gk - 1)
    case measure=>have:=ae aW;have:=ae ba;omega
    case rel=>exact⟨j+1,by have:=ae aW;have:=ae ba;omega,by go_num,rfl,ae HY⟩
  ·have gf:=hide (show xs.any (fY TT)=false by rwa [List.take_of_length_le (by omega)]at hno)
   clear hno
   obtain rfl:j=xs.length:=by omega
   go_wp2_with fail
   go_ret
   exact⟨by rw[ae gf];rfl,rfl⟩
def gJ (fr:Nat→Nat) (G:List Gl):Int:=if G=[]then 1 else if cJ fr G G.length=[]then 2 else 3
theorem xN (w:World) (mb:Nat) (cs:Array Value) (Ty:TypeId) (k:Int) (h:w.heap[mb]?=some (.cells cs Ty (0,0))) (h5:cs[5]?=some (.int .i64 k)) (hk:k≠0):
 Calls Tryz.prog 38 #[.pointer (some ⟨mb,0,none⟩)] w fun e w'=>e= .returned (.tuple #[])∧w'=w:=by
 have c5:=(ah h 5).trans h5
 have mz:=af h
 have t1:(k == 0)=false:=by simpa using hk
 have t2:(k != 0)=true:=by simpa using hk
 clear h h5 hk
 go_enter Tryz.func38,Tryz.ntmps38
 go_wp2_with fail
 first | (go_end0;exact⟨rfl,rfl⟩) | (go_ret;exact⟨rfl,rfl⟩) | (refine bodyPost_ret (v:= .tuple #[]) (by simp[results,Tryz.results38,go_sem]) rfl ?_;exact⟨rfl,rfl⟩)
theorem zS (w:World) (mb:Nat) (cs:Array Value) (D:List Ng) (nO:Option Addr) (nC:Nat) (fr:Nat→Nat) (G:List Gl) (po:Option Addr) (pc:Nat) (h:cR w mb cs D nO nC fr G po pc) (hl:G.length≤1000000) (h5:cs[5]?=some (.int .i64 0)):
 Calls Tryz.prog 38 #[.pointer (some ⟨mb,0,none⟩)] w fun e w'=>e= .returned (.tuple #[])∧∃W,Below w.heap.size w W∧w'=W.setCell ⟨mb,5,none⟩ (.int .i64 (gJ fr G)):=by
 have c5:=(ah h.st.blk 5).trans h5
 have mz:=af h.st.blk
 have IR:=hide (zP w mb cs D nO nC fr G po pc h hl)
 have H:=hide h
 clear h
 go_enter Tryz.func38,Tryz.ntmps38
 go_wp2_with fail
 refine(ae IR).mono ?_
 rintro e w2 ⟨oo,oc,rfl,-,hb2⟩
 have h2:=(ae H).below hb2
 have d3:=(ah h2.st.blk 3).trans h2.c3
 have d5:=(ah h2.st.blk 5).trans h5
 have x5:=au h2.st.blk 5
 have mz2:=af h2.st.blk
 have HB:=hide hb2
 have Cw:=hide (show gJ fr G=if G=[]then 1 else if cJ fr G G.length=[]then 2 else 3 from rfl)
 generalize cJ fr G G.length=Z at*
 clear h2 hb2 IR H c5 h5
 cases G with
 | nil=>
  rw[if_pos rfl]at Cw
  go_wp2_with fail
  go_end0
  exact⟨rfl,w2,ae HB,by rw[ae Cw]⟩
 | cons g G=>
  rw[if_neg (by simp)]at Cw
  have t1:(((G.length+1:Nat):Int) == 0)=false:=by simp;omega
  have t1':(((G.length:Nat):Int)+1 == 0)=false:=by simp;omega
  cases Z with
  | nil=>
   rw[if_pos rfl]at Cw
   go_wp2_with fail
   go_end0
   exact⟨rfl,w2,ae HB,by rw[ae Cw]⟩
  | cons z Z=>
   rw[if_neg (by simp)]at Cw
   have t2:(((Z.length+1:Nat):Int) == 0)=false:=by simp;omega
   have t2':(((Z.length:Nat):Int)+1 == 0)=false:=by simp;omega
   go_wp2_with fail
   go_end0
   exact⟨rfl,w2,ae HB,by rw[ae Cw]⟩
theorem Gk (w:World) (mb:Nat) (cs:Array Value) (Ty:TypeId) (D:List Ng) (nO:Option Addr) (nC:Nat) (fr:Nat→Nat) (P:Nat→Prop) (g:Gl) (d:Ng) (hs:bG w mb 1 cs Ty D nO nC) (hok:bZ D fr) (har:aY w D P) (hn:g.l<D.length) (hd:D[fr g.l]?=some d) (aV:g.sg.toList=[]):
 Calls Tryz.prog 121 #[.pointer (some ⟨mb,0,none⟩),.agg #[.int .i64 (g.l:Int),.string g.sg,.int .i64 g.r,.string g.op,.int .i64 g.z,.bool g.wt,.slice g.no g.nd.length g.nc]] w fun e w'=>e= .returned (.slice d.ao d.args.length d.cap)∧lA w' d.ao (d.args.map fun n:Nat=>(n:Int))∧Below w.heap.size w w':=by
 obtain⟨l,sg,r,op,z,wt,no,nc,nd⟩:=g
 dsimp only at*
 obtain⟨k,hk⟩:=hok.hop l hn
 have hmem:d∈D:=List.mem_of_getElem? hd
 have hb0:=(Below.refl w.heap.size w).alloc (Nat.le_refl _) (.cells #[.int .i64 (l:Int),.string sg,.int .i64 r,.string op,.int .i64 z,.bool wt,.slice no nd.length nc] 133)
 have HA:=hide (fun W (hb:Below w.heap.size w W)=>mg W mb 1 cs Ty D nO nC l (fr l) k d (hs.below hb) hk hd)
 have HR:=hide (fun W (hb:Below w.heap.size w W)=>(lA.Pg har hmem).below hb)
 have mz:=af hs.blk
 have aS:=hide hb0
 have t1:(sg.toList == [])=true:=by rw[aV];rfl
 clear hs hok har hn hd hk hmem hb0 aV
 go_enter Tryz.func121,Tryz.ntmps121
 go_wp2_with fail
 go_region_with (go_at_call 82;refine(ae HA _ (by first | exact ae aS | exact(ae aS).drew | exact(ae aS).drew.drew | exact(ae aS).drew.drew.drew | exact(ae aS).drew.drew.drew.drew)).mono ?_;rintro e w5 ⟨rfl,rfl⟩)
 all_goals
  go_wp2_with fail
  go_ret
  first
   | exact⟨rfl,ae HR _ (ae aS),ae aS⟩
   | exact⟨rfl,ae HR _ (ae aS).drew,(ae aS).drew⟩
   | exact⟨rfl,ae HR _ (ae aS).drew.drew,(ae aS).drew.drew⟩
   | exact⟨rfl,ae HR _ (ae aS).drew.drew.drew,(ae aS).drew.drew.drew⟩
theorem Gm (w:World) (mb:Nat) (g:Gl) (aV:g.sg.toList≠[]):
 Calls Tryz.prog 121 #[.pointer (some ⟨mb,0,none⟩),.agg #[.int .i64 (g.l:Int),.string g.sg,.int .i64 g.r,.string g.op,.int .i64 g.z,.bool g.wt,.slice g.no g.nd.length g.nc]] w fun e w'=>∃o c,e= .returned (.slice o 3 c)∧lA w' o [(g.l:Int),g.r,g.z]∧Below w.heap.size w w':=by
 obtain⟨l,sg,r,op,z,wt,no,nc,nd⟩:=g
 dsimp only at*
 have t1:(sg.toList == [])=false:=by simpa using aV
 clear aV
 go_enter Tryz.func121,Tryz.ntmps121
 go_wp2_with fail
 go_ret
 refine⟨_,_,rfl,fun _=>⟨w.heap.size+1,rfl,by simp,fun i hi=> ?_⟩,((Below.refl _ _).alloc (Nat.le_refl _) _).alloc (by simp) _⟩
 match i,hi with
 | 0,_=>simp
 | 1,_=>simp
 | 2,_=>simp
def iL (D:List Ng) (fr:Nat→Nat) (g:Gl):List Int:=if g.sg.toList=[]then((D[fr g.l]?).elim [] fun d=>d.args.map fun n:Nat=>(n:Int))else [(g.l:Int),g.r,g.z]
def XT (D:List Ng) (fr:Nat→Nat) (g:Gl) (w:World) (e:Ending) (w':World):Prop:=∃o c,e= .returned (.slice o (iL D fr g).length c)∧lA w' o (iL D fr g)∧Below w.heap.size w w'
theorem Jt (w:World) (mb:Nat) (cs:Array Value) (Ty:TypeId) (D:List Ng) (nO:Option Addr) (nC:Nat) (fr:Nat→Nat) (P:Nat→Prop) (g:Gl) (hs:bG w mb 1 cs Ty D nO nC) (hok:bZ D fr) (har:aY w D P) (hn:g.l<D.length):
 Calls Tryz.prog 121 #[.pointer (some ⟨mb,0,none⟩),.agg #[.int .i64 (g.l:Int),.string g.sg,.int .i64 g.r,.string g.op,.int .i64 g.z,.bool g.wt,.slice g.no g.nd.length g.nc]] w fun e w'=>XT D fr g w e w':=by
 have hf:=hok.lt hn
 by_cases h:g.sg.toList=[]
 ·refine(Gk w mb cs Ty D nO nC fr P g D[fr g.l] hs hok har hn (List.getElem?_eq_getElem hf) h).mono ?_
  rintro e w' ⟨h1,h2,h3⟩
  have e:iL D fr g=D[fr g.l].args.map fun n:Nat=>(n:Int):=by unfold iL;rw[if_pos h,List.getElem?_eq_getElem hf];rfl
  exact⟨_,_,by rw[e,List.length_map];exact h1,by rw[e];exact h2,h3⟩
 ·refine(Gm w mb g h).mono ?_
  rintro e w' ⟨o,c,h1,h2,h3⟩
  have e:iL D fr g=[(g.l:Int),g.r,g.z]:=by unfold iL;rw[if_neg h]
  exact⟨o,c,by rw[e];exact h1,by rw[e];exact h2,h3⟩
def jr (D:List Ng) (fr:Nat→Nat) (TT:Nat→Zf.U) (g:Gl):Bool:=(iL D fr g).any (fY TT)
def XU (w:World) (D:List Ng) (fr:Nat→Nat) (TT:Nat→Zf.U) (G:List Gl) (k:Nat) (iv:Value) (wr:World):Prop:=
 ∃j:Nat,k+j=G.length∧iv= .int .i64 (j:Int)∧Below w.heap.size w wr∧(G.take j).any (jr D fr TT)=false
theorem Gp (w:World) (mb:Nat) (cs:Array Value) (D:List Ng) (nO:Option Addr) (nC:Nat) (fr:Nat→Nat) (TT:Nat→Zf.U) (P:Nat→Prop) (G:List Gl) (po:Option Addr) (pc:Nat) (vs:List Int) (vo:Option Addr) (vc:Nat) (h:cR w mb cs D nO nC fr G po pc) (har:aY w D P) (htr:∀n,n<D.length→Zf.Tr (aX D) fr n (TT n)) (hc2:cs[2]?=some (.slice vo vs.length vc)) (hv:lA w vo vs) (UR:∀x∈vs,pC D.length x) (hvl:vs.length≤1000000000) (tN:∀g∈G,g.l<D.length∧(∀x∈iL D fr g,pC D.length x)∧(iL D fr g).length≤1000000000) (hl:G.length≤24):
 Calls Tryz.prog 71 #[.pointer (some ⟨mb,0,none⟩)] w fun e w'=>e= .returned (.bool (vs.any (fY TT)||G.any (jr D fr TT)))∧Below w.heap.size w w':=by
 have f3:=(ah h.st.blk 3).trans h.c3
 have f2:=(ah h.st.blk 2).trans hc2
 have mz:=af h.st.blk
 have t1:decide ((24:Int)<(G.length:Int))=false:=by simp;omega
 have IV:=hide (tM w mb cs _ D nO nC fr TT P vs vo vc h.st h.ok har htr hv UR hvl)
 have IP:=hide (fun W (hb:Below w.heap.size w W) (g:Gl) (hg:g∈G)=>Jt W mb cs _ D nO nC fr P g ((h.below hb).st) h.ok (har.below hb) (tN g hg).1)
 have IH:=hide (fun W (hb:Below w.heap.size w W) (g:Gl) (hg:g∈G) (o:Option Addr) (c:Nat) (hx:lA W o (iL D fr g))=>tM W mb cs _ D nO nC fr TT P (iL D fr g) o c ((h.below hb).st) h.ok (har.below hb) htr hx (tN g hg).2.1 (tN g hg).2.2)
 have H:=hide h
 clear h har htr hc2 hv UR hvl tN
 have hq:vs.any (fY TT)=true∨vs.any (fY TT)=false:=by cases vs.any (fY TT)<;>simp
 have HQ:=hide hq
 clear hq
 rcases ae HQ with hq | hq
 ·rw[hq]at IV
  have HR:=hide (show (vs.any (fY TT)||G.any (jr D fr TT))=true by rw[hq];rfl)
  clear hq HQ
  go_enter Tryz.func71,Tryz.ntmps71
  go_wp2_with fail
  refine(ae IV).mono ?_
  rintro e w2 ⟨rfl,rfl⟩
  go_wp2_with fail
  go_ret
  exact⟨by rw[ae HR];rfl,Below.refl _ _⟩
 ·rw[hq]at IV
  have HR:=hide (show (vs.any (fY TT)||G.any (jr D fr TT))=G.any (jr D fr TT)by rw[hq];rfl)
  clear hq HQ
  go_enter Tryz.func71,Tryz.ntmps71
  go_wp2_with fail
  refine(ae IV).mono ?_
  rintro e w2 ⟨rfl,rfl⟩
  go_wp2_with fail
  go_loopg [25] G.length (fun k iv wr=>XU w2 D fr TT G k iv wr)
  case atStart=>exact⟨0,by omega,rfl,Below.refl _ _,by simp⟩
  case round=>
   obtain⟨j,hkj,rfl,aT,hno⟩:=hrel
   by_cases hlt:j<G.length
   ·obtain⟨g,hg⟩:∃g,po=some ⟨g,0,none⟩:=by
     rcases(ae H).pool.2 with⟨q,q2⟩ | ⟨g,cp,cur,q,_⟩
     ·omega
     ·simp only[Value.slice.injEq]at q
      exact⟨g,q.1⟩
    subst hg
    have gz0:=((ae H).pool.lt g rfl).2
    have fc:∀i,i<7→wr.cell? ⟨g,j*7+i,none⟩=(fL G[j])[i]?:=fun i hi=>by
     rw[aT.cell (p:=⟨g,j*7+i,none⟩) gz0,(ae H).pool.cellAt (j*7+i) (by omega)]
     exact qI hlt i hi
    have e0:=fc 0 (by omega)
    have e1:=fc 1 (by omega)
    have e2:=fc 2 (by omega)
    have e3:=fc 3 (by omega)
    have e4:=fc 4 (by omega)
    have e5:=fc 5 (by omega)
    have e6:=fc 6 (by omega)
    simp only[fL,List.getElem?_cons_zero,List.getElem?_cons_succ,Nat.add_zero]at e0 e1 e2 e3 e4 e5 e6
    have gz:g<wr.heap.size:=Nat.lt_of_lt_of_le gz0 aT.size
    have i0:(0:Int)≤(j:Int):=by omega
    have i1:(j:Int)<(G.length:Int):=by omega
    have hmem:G[j]∈G:=List.getElem_mem hlt
    have hst:G.take (j+1)=G.take j++[G[j]]:=by rw[List.take_add_one,List.getElem?_eq_getElem hlt];rfl
    have hW:=aT.alloc aT.size (.cells #[.int .i64 (G[j].l:Int),.string G[j].sg,.int .i64 G[j].r,.string G[j].op,.int .i64 G[j].z,.bool G[j].wt,.slice G[j].no G[j].nd.length G[j].nc] 133)
    have IPj:=hide (ae IP _ hW G[j] hmem)
    have HW:=hide hW
    have HST:=hide hst
    have gf:=hide hno
    have Gj:=hide hmem
    have aW:=hide hkj
    have ba:=hide hlt
    generalize G[j]=gg at*
    clear hno aT hkj hlt fc hst hmem hW
    go_wp2_with fail
    refine(ae IPj).mono ?_
    rintro e w5 ⟨o,c,rfl,hx,bf⟩
    have iq:=(ae HW).trans (bf.mono (ae HW).size)
    have IHj:=hide (ae IH w5 iq gg (ae Gj) o c hx)
    have gZ:=hide iq
    have hbb:jr D fr TT gg=true∨jr D fr TT gg=false:=by cases jr D fr TT gg<;>simp
    have oq:=hide hbb
    clear hx bf iq hbb
    change Hid (Calls _ _ _ _ fun e w'=>e= .returned (.bool (jr D fr TT gg))∧w'=w5)at IHj
    generalize (iL D fr gg).length=pl at*
    rcases ae oq with hb | hb
    ·rw[hb]at IHj
     have HY:=hide (show G.any (jr D fr TT)=true from List.any_eq_true.2 ⟨gg,ae Gj,hb⟩)
     clear hb oq
     go_wp2_with fail
     refine(ae IHj).mono ?_
     rintro e w6 ⟨rfl,rfl⟩
     go_wp2_with fail
     go_ret
     exact⟨by rw[ae HR,ae HY];rfl,ae gZ⟩
    ·rw[hb]at IHj
     have HY:=hide (show (G.take (j+1)).any (jr D fr TT)=false by rw[ae HST,List.any_append,ae gf];simp[hb])
     clear hb oq
     go_wp2_with fail
     refine(ae IHj).mono ?_
     rintro e w6 ⟨rfl,rfl⟩
     go_wp2_with fail
     go_roundg (gk - 1)
     case measure=>have:=ae aW;have:=ae ba;omega
     case rel=>exact⟨j+1,by have:=ae aW;have:=ae ba;omega,by go_num,ae gZ,ae HY⟩
   ·have gf:=hide (show G.any (jr D fr TT)=false by rwa [List.take_of_length_le (by omega)]at hno)
    have cC:=hide aT
    clear hno aT
    obtain rfl:j=G.length:=by omega
    go_wp2_with fail
    go_ret
    exact⟨by rw[ae HR,ae gf];rfl,ae cC⟩
theorem Cx (w:World) (mb:Nat) (cs:Array Value) (D:List Ng) (nO:Option Addr) (nC:Nat) (fr:Nat→Nat) (G:List Gl) (po:Option Addr) (pc:Nat) (h:cR w mb cs D nO nC fr G po pc) (hl:24<G.length):
 Calls Tryz.prog 71 #[.pointer (some ⟨mb,0,none⟩)] w fun e w'=>e= .returned (.bool true)∧w'=w:=by
 have f3:=(ah h.st.blk 3).trans h.c3
 have mz:=af h.st.blk
 have t1:decide ((24:Int)<(G.length:Int))=true:=by simp;omega
 clear h
 go_enter Tryz.func71,Tryz.ntmps71
 go_wp2_with fail
 go_ret
 exact⟨rfl,rfl⟩
theorem Ju (w:World) (sb so nb:Nat) (cs:Array Value) (T:TypeId) (D:List Ng) (no:Option Addr) (nc:Nat) (h:bG w sb so cs T D no nc):
 Calls Tryz.prog 72 #[.pointer (some ⟨sb,so,none⟩),.int .i64 (-1),.pointer (some ⟨nb,0,none⟩)] w fun e w'=>e= .returned (.agg #[.int .i64 0,.int .i64 0,.string ⟨#[]⟩,.slice none 0 0])∧Below w.heap.size w w':=by
 have HL:=hide (fun W (hb:Below w.heap.size w W)=>xM W sb so cs T D no nc (h.below hb))
 have HA:=hide (fun W (hb:Below w.heap.size w W)=>zR W sb so cs T D no nc (h.below hb))
 have hb0:=(Below.refl w.heap.size w).alloc (Nat.le_refl _) (.cells #[.int .i64 0,.int .i64 0,.string ⟨#[]⟩,.slice none 0 0] 74)
 have jw:=hide (heap_alloc_new w (.cells #[.int .i64 0,.int .i64 0,.string ⟨#[]⟩,.slice none 0 0] 74))
 have aS:=hide hb0
 clear h hb0
 go_enter Tryz.func72,Tryz.ntmps72
 go_wp2_with fail
 refine(ae HL _ (ae aS)).mono ?_
 rintro e w1 ⟨rfl,hb1⟩
 have hr1:=(hb1.block w.heap.size (by simp)).trans (ae jw)
 have d0:=ah hr1
 have x0:=au hr1
 have dz:=af hr1
 have hb2:=(ae aS).trans (hb1.mono (ae aS).size)
 have aP:=hide hb2
 have z2:=hb2.size
 clear hb1 hr1 hb2
 go_wp2_with fail
 refine(ae HA _ (((ae aP).alloc z2 _).alloc (by simp;omega) _)).mono ?_
 rintro e w3 ⟨rfl,rfl⟩
 go_wp2_with fail
 refine wp_loop_rounds 1 ?_
 rw[rounds_succ]
 go_wp2_with fail
 refine bodyPost_ret (v:= .agg #[.int .i64 0,.int .i64 0,.string ⟨#[]⟩,.slice none 0 0]) (by simp[results,Tryz.results72,go_sem,d0,dz,World.cell?_alloc_past]) rfl ?_
 exact⟨rfl,((((((ae aP).setCell (Nat.le_refl _) _).setCell (Nat.le_refl _) _).setCell (Nat.le_refl _) _).setCell (Nat.le_refl _) _).alloc (by simp only[bS];exact z2) _).alloc (by simp only[World.size_alloc,bS];omega) _⟩
end Go.Proofs.YthfjnfcekeknlabGreatDoor
