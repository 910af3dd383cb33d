import Derived.Test.YthfjnfcekeknlaaGreatDoorSt19
import Derived.Test.YthfjnfcekeknlaaGreatDoorSt22
import Derived.Deep.LoopGhost
set_option maxHeartbeats 8000000
set_option maxRecDepth 100000
namespace Go.Proofs.YthfjnfcekeknlaaGreatDoor
open Go.RowKit
theorem gu.KZ {P:Nat→Prop} {W:World} {rb sb so:Nat} {cs:Array Value} {T S0:TypeId} {cb:Nat} {D:List Ng} {V:List Nat} {no':Option Addr} {nc:Nat} {vo:Option Addr} {vc:Nat} {fr:Nat→Nat} {TT:Nat→Za.U} {ys:Array Value} (h:gu P W sb so cs T cb D V no' nc vo vc fr TT) (hr:W.heap[rb]?=some (.cells ys S0 (0,0))) (h1:S0≠T) (h2:S0≠180) (h3:S0≠93) (h4:S0≠3) (v0 v1 v2:Value):gu P (((W.setCell ⟨rb,0,none⟩ v0).setCell ⟨rb,1,none⟩ v1).setCell ⟨rb,2,none⟩ v2) sb so cs T cb D V no' nc vo vc fr TT:=by
 refine h.fS fun g xs S hg hS=>lS W v0 v1 v2 fun e=> ?_
 subst e
 rw[hr]at hg
 simp only[Option.some.injEq,Obj.cells.injEq]at hg
 obtain⟨_,rfl,_⟩:=hg
 rcases hS with e | e | e | e
 ·exact h1 e
 ·exact h2 e
 ·exact h3 e
 ·exact h4 e
theorem K0 {W:World} {rb b n:Nat} {o:Option Addr} {cap:Nat} {zs:List Value} {ys:Array Value} {S0:TypeId} (ho:W.ownsRow b 3 1 (.slice o n cap) n zs) (hr:W.heap[rb]?=some (.cells ys S0 (0,0))) (h4:S0≠3) {v0 v1 v2:Value}:(((W.setCell ⟨rb,0,none⟩ v0).setCell ⟨rb,1,none⟩ v1).setCell ⟨rb,2,none⟩ v2).ownsRow b 3 1 (.slice o n cap) n zs:=by
 refine ah ho fun g q=>lS W v0 v1 v2 fun e=> ?_
 subst e
 obtain⟨cur,hc⟩:=aH ho (aD q)
 rw[hr]at hc
 simp only[Option.some.injEq,Obj.cells.injEq]at hc
 exact h4 hc.2.1
theorem aj.Tc {R R':Nat→Prop} {w w':World} (h:aj R R' w w') (X:Nat→Prop):aj (fun k=>X k∨R k) (fun k=>X k∨R' k) w w':=⟨h.os,h.tape,h.output,h.size,fun k hk hn=>h.block k hk (fun q=>hn (Or.inr q)),fun k q=>by
 rcases q with q | q
 ·exact Or.inl (Or.inl q)
 ·rcases h.row k q with e | e
  ·exact Or.inl (Or.inr e)
  ·exact Or.inr e⟩
theorem aj.fin {R R':Nat→Prop} {w W:World} (h:aj R R' w W) {rb:Nat} (hb:w.heap.size≤rb) (v0 v1 v2:Value):aj R R' w ((((W.setCell ⟨rb,0,none⟩ v0).setCell ⟨rb,1,none⟩ v1).setCell ⟨rb,2,none⟩ v2).drew):=⟨h.os,h.tape,h.output,by have:=h.size;simpa [World.drew,cC] using this,fun k hk hn=>(lS W v0 v1 v2 (by omega)).trans (h.block k hk hn),h.row⟩
theorem inc_len:∀(F:List Nat) (b c:Nat),F.Pairwise (·<·)→(∀n∈F,b≤n∧n<b+c)→F.length≤c
 | [],_,_,_,_=>Nat.zero_le _
 | n :: F,b,c,hp,h=>by
  obtain⟨h1,h2⟩:=List.pairwise_cons.1 hp
  have h0:=h n (by simp)
  have:=inc_len F (n+1) (b+c - (n+1)) h2 (fun m hm=>by have:=h1 m hm;have:=(h m (by simp[hm])).2;omega)
  rw[List.length_cons]
  omega
theorem Qr {b:Nat} {E:List Ng} {F:List Nat} (h:fA b E F):F.length≤E.length:=by
 refine inc_len F b E.length h.ord fun n hn=> ?_
 obtain⟨h1,d,h2,_⟩:=h.var n hn
 have:=(List.getElem?_eq_some_iff.1 h2).1
 omega
def T9 (PP:Nat→Prop) (w:World) (lb sb so:Nat) (cs:Array Value) (T:TypeId) (cb:Nat) (D:List Ng) (V:List Nat) (no:Option Addr) (fr:Nat→Nat) (TT:Nat→Za.U) (N ns:List (List UInt8)) (S:List Int) (tests:List Za.aC) (k:Nat) (iv:Value) (wr:World):Prop:=
 ∃(j:Nat) (E:List Ng) (F:List Nat) (no':Option Addr) (nc':Nat) (vo':Option Addr) (vc':Nat) (T':Nat→Za.U) (R:Nat→Prop),k+j=tests.length∧iv= .int .i64 (j:Int)∧gu (fun g=>PP g∧¬R g) wr sb so (cs.setIfInBounds so (.slice no' (D++E).length nc')) T cb (D++E) (V++F) no' nc' vo' vc' fr T'∧(∀m,m<D.length→T' m=TT m)∧dB D.length E∧fA D.length E F∧(V++F).length=(Za.ay ns (tests.take j)).length∧E.length≤j*13122∧
  cT wr lb S (Za.iB (cH T' (V++F) N) (tests.take j)).wt (Za.iB (cH T' (V++F) N) (tests.take j)).no R∧(Za.iB (cH T' (V++F) N) (tests.take j)).wt.length≤j*2000000∧aj (cm sb no) (fun k=>bU sb no' cb vo' k∨R k) w wr∧(∀k,R k→¬bU sb no' cb vo' k)∧wr.heap[w.heap.size+1]?=some (.cells #[.int .i64 0,.slice none 0 0,.slice none 0 0] 245 (0,0))∧w.heap.size+2<cb
def WV (PP:Nat→Prop) (sb so:Nat) (cs:Array Value) (T:TypeId) (D:List Ng) (V:List Nat) (no:Option Addr) (fr:Nat→Nat) (TT:Nat→Za.U) (N ns:List (List UInt8)) (tests:List Za.aC) (w:World) (e:Ending) (w':World):Prop:=
 ∃(l:Za.Wn) (E:List Ng) (F:List Nat) (no':Option Addr) (nc':Nat) (vo':Option Addr) (vc':Nat) (T':Nat→Za.U) (oo:Option Addr) (oc:Nat),l=Za.iB (cH T' (V++F) N) tests∧e= .returned (.agg #[.int .i64 (l.says:Int),.slice oo (Za.jK (V++F) V.length l.wt).length oc,.slice vo' (V++F).length vc'])∧w'.ownsRow w.heap.size 3 1 (.slice oo (Za.jK (V++F) V.length l.wt).length oc) (Za.jK (V++F) V.length l.wt).length ((Za.jK (V++F) V.length l.wt).map aI)∧w'.ownsRow 0 3 1 (.slice vo' (V++F).length vc') (V++F).length ((V++F).map aI)∧(∀k,rowOf vo' k→cm sb no k∨w.heap.size≤k)∧
  bt w' sb so (cs.setIfInBounds so (.slice no' (D++E).length nc')) T (D++E) no' nc'∧bR (D++E) fr∧Za.dw (aV (D++E)) fr T'∧aW w' (D++E) (fun g=>PP g∧¬rowOf vo' g)∧(∀n∈V++F,n<(D++E).length)∧(∀m,m<D.length→T' m=TT m)∧dB D.length E∧fA D.length E F∧(V++F).length=(Za.ay ns tests).length∧E.length≤78732∧aj (cm sb no) (cm sb no') w w'
theorem gu.start {PP R:Nat→Prop} {w w4:World} {sb so:Nat} {cs:Array Value} {T:TypeId} {D:List Ng} {V:List Nat} {no:Option Addr} {nc:Nat} {oo:Option Addr} {oc b:Nat} {fr:Nat→Nat} {TT:Nat→Za.U} (hG:fW w w.heap.size sb so cs T D no nc fr TT PP) (hb:Below w.heap.size w w4) (ho:w4.ownsRow b 3 1 (.slice oo V.length oc) V.length (V.map aI)) (hbb:w.heap.size≤b) (hR:∀k,R k→w.heap.size≤k) (t1:T≠93) (t2:T≠3) (hV:∀n∈V,n<D.length):gu (fun g=>PP g∧¬R g) (w4.alloc (.cells #[.slice oo V.length oc] 93)) sb so cs T w4.heap.size D V no nc oo oc fr TT:=by
 have hb':=hb.alloc hb.size (.cells #[.slice oo V.length oc] 93)
 refine⟨⟨hG.st.below hb',⟨heap_alloc_new w4 _,ah (bZ ho (Nat.zero_le _)) (fun g q=>Below.heap_alloc _ _ _ (ho.lt g q).2)⟩,t1,t2,hG.ar.keep fun g _ hp hg=>⟨(hb'.block g (af hg)).trans hg,⟨⟨hp,fun q=> ?_⟩,fun q=> ?_⟩⟩⟩,hG.ok,hG.to,hV⟩
 ·have:=hR g q;have:=af hg;omega
 ·obtain⟨p,rfl,e⟩:=q
  have:=(ho.lt g (by rw[e];rfl)).1
  have:=af hg
  omega
theorem Fw (w:World) (sb so:Nat) (cs:Array Value) (Ty:TypeId) (D:List Ng) (no:Option Addr) (nc:Nat) (fr:Nat→Nat) (TT:Nat→Za.U) (PP:Nat→Prop) (a:AV) (o1 o2:Option Addr) (n1 c1 n2 c2 n:Nat) (N M:List (List UInt8)) (p:Za.Tm) (tests:List Za.aC) (hG:fW w w.heap.size sb so cs Ty D no nc fr TT PP) (hPP:∀g,w.heap.size≤g→PP g) (hT:Ty≠76) (hTi:Ty≠151) (hTl:Ty≠189) (hTa:Ty≠245) (hTs:Ty≠93) (hTn:Ty≠3) (hr:RA 8 N anyA w a p) (hts:bW N w o1 n1 tests) (hN:N=Za.ay (Za.namesF 8 [] p) tests++M) (wp:Za.wfK 8 p) (Ua:∀x∈tests,Za.gZ x) (htl:tests.length≤6) (hn:n<D.length) (hsz:Za.size (TT n)≤300) (hD:D.length+100000≤1000000000) (hy:(Za.matU 8 p (TT n) ⟨[],Za.Wn.none⟩).w.says=1) (h0:tests=[]):
 Calls Tryz.prog 182 #[.pointer (some ⟨sb,so,none⟩),.agg #[.int .i64 a.k,.int .i64 a.val,.string a.tx,.slice a.ao a.n a.cap,.slice o1 n1 c1,.slice o2 n2 c2],.int .i64 (n:Int)] w fun e w'=>∃V:List Nat,V.length=(Za.namesF 8 [] p).length∧(∀m∈V,m<D.length)∧(∀(i:Nat) (x:List UInt8) (m:Nat),(Za.namesF 8 [] p)[i]?=some x→V[i]?=some m→∃q,(Za.matU 8 p (TT n) ⟨[],Za.Wn.none⟩).st.find? (fun q=>q.1 == x)=some q∧TT m=q.2)∧WV PP sb so cs Ty D V no fr TT N (Za.namesF 8 [] p) tests w e w':=by
 obtain⟨k,val,tx,ao,m,cp⟩:=a
 have H0:=hide h0
 clear h0
 dsimp only
 obtain⟨rfl,Qs⟩:=hts
 have HIT:=hide Qs
 clear Qs
 obtain⟨KK,hKK⟩:=Za.jF tests (Za.namesF 8 [] p)
 have hN1:N=Za.namesF 8 [] p++(KK++M):=by rw[hN,hKK,List.append_assoc]
 have hq:=RA.less (hN1 ▸ hr) wp (Za.si 8 p [] fun y hy=>hy)
 have hML:=Za.namesK_len 8 p [] wp
 have hND:=Za.namesF_nodup 8 p [] (by simp)
 have q3:3 ^ 8=6561:=by decide
 have hML':(Za.namesF 8 [] p).length≤6561:=by simp at hML;omega
 have hsm:=(Za.tW (B:=300) 8 p (TT n) ⟨[],Za.Wn.none⟩ wp hsz (by omega) (fun q hq=>by cases hq)).1
 have Ub:=(Za.mat_yes 8 p (TT n) ⟨[],Za.Wn.none⟩ wp ((Za.Wn.AY _).1 hy)).2.2 []
 have BP:=(Za.Wn.AY _).1 hy
 have hu:=(((Below.refl w.heap.size w).alloc (Nat.le_refl _) (.cells #[.int .i64 k,.int .i64 val,.string tx,.slice ao m cp,.slice o1 tests.length c1,.slice o2 n2 c2] 78)).alloc (by simp) (.cells #[.int .i64 0,.slice none 0 0,.slice none 0 0] 245)).alloc (by simp;omega) (.cells #[.slice none 0 0,.slice none 0 0,.bool false] 189)
 have hl0:=vB ((w.alloc (.cells #[.int .i64 k,.int .i64 val,.string tx,.slice ao m cp,.slice o1 tests.length c1,.slice o2 n2 c2] 78)).alloc (.cells #[.int .i64 0,.slice none 0 0,.slice none 0 0] 245))
 simp only[World.size_alloc]at hl0
 have pQ:=aw (heap_alloc_new (w.alloc (.cells #[.int .i64 k,.int .i64 val,.string tx,.slice ao m cp,.slice o1 tests.length c1,.slice o2 n2 c2] 78)) (.cells #[.int .i64 0,.slice none 0 0,.slice none 0 0] 245)) (.cells #[.slice none 0 0,.slice none 0 0,.bool false] 189)
 rw[World.size_alloc]at pQ
 have hc0:=aw (aw (heap_alloc_new w (.cells #[.int .i64 k,.int .i64 val,.string tx,.slice ao m cp,.slice o1 tests.length c1,.slice o2 n2 c2] 78)) (.cells #[.int .i64 0,.slice none 0 0,.slice none 0 0] 245)) (.cells #[.slice none 0 0,.slice none 0 0,.bool false] 189)
 have IM:=hide (muG_all 8 anyA w _ (w.heap.size+1+1) sb so cs Ty D no nc fr TT PP _ (Za.namesF 8 [] p) [] ⟨k,val,tx,ao,m,cp⟩ n p ⟨[],Za.Wn.none⟩ 300 (hG.up (by omega)) hu hl0 (zk D TT _) (by simp) hND (by omega) hq wp hn hsz (fun q hq=>by cases hq) (by rw[q3];simp[Za.Wn.none]))
 have HU:=hide hu
 have uV:=hide hl0
 have jL:=hide pQ
 have Uc:=hide hc0
 have HG:=hide hG
 have Yt:=hide hPP
 have HN:=hide hN
 have Yu:=hide Ua
 have iV:=hide hsm
 have Ud:=hide Ub
 have HY:=hide hy
 have BQ:=hide BP
 have Ed:=hide htl
 have Yv:=hide hD
 have II:=hide hML'
 have Yw:=hide wp
 have Vk:=hide (And.intro hT (And.intro hTi (And.intro hTl (And.intro hTa (And.intro hTs hTn)))))
 clear hG hr hN hN1 hq hND hML q3 hu hl0 pQ hc0 hsz hy hsm Ub BP Ua hPP hT hTi hTl hTa hTs hTn hKK htl hD hML' wp
 go_enter Tryz.func182,Tryz.ntmps182
 go_wp2_with fail
 refine(ae IM).mono ?_
 rintro e w2 ⟨rfl,S2,R2,h2,st2,sl2,fr2⟩
 generalize hl:Za.matU 8 p (TT n) ⟨[],Za.Wn.none⟩=l at*
 obtain⟨V,hVl,hSV,hVD,hVq⟩:=st2.full sl2 (fun x hx=>(ae Ud x hx).resolve_left (by simp))
 have hb2:=(ae uV).under fr2 (ae HU) (by omega)
 have Qt:∀k,k≤w.heap.size+1→¬fC (w.heap.size+1+1) none none k:=fun k hk=>pM (by omega)
 have q2:=(fr2.block (w.heap.size+1) (by simp only[World.size_alloc];omega) (Qt _ (by omega))).trans (ae jL)
 have k2:=(fr2.block w.heap.size (by simp only[World.size_alloc];omega) (Qt _ (by omega))).trans (ae Uc)
 have Eb:=hide (y5 w2 _ S2 l.w.wt l.w.no R2 h2)
 rw[Ai,ae HY]at Eb
 rw[(ae BQ).1,(ae BQ).2]at h2
 have hrow2:=h2.rows
 have H2:=hide h2
 obtain⟨xo,xc,yo,yc,h2,rfl⟩:=h2
 have MW:w2.ownsRow (w.heap.size+1+1+1) 3 1 (.slice xo V.length xc) V.length (V.map aI):=by
  have:=h2.sown
  rw[hSV,List.length_map,List.map_map]at this
  exact this
 have hSL:S2.length=V.length:=by rw[hSV,List.length_map]
 have b0:=ag h2.blk 0
 rw[hSL]at b0
 have cz:=af h2.blk
 have IS:=hide (Dq w2 _ V xo xc MW (by have:=ae II;omega))
 have Br:=hide hVl
 have f4:=ag k2 4
 have kz:=af k2
 simp only[List.getElem?_toArray,List.getElem?_cons_zero,List.getElem?_cons_succ]at b0 f4
 have WW:=hide hVq
 have Ue:=hide hVD
 have Uf:=hide hSV
 have uO:=hide hSL
 have aX:=hide hb2
 have uQ:=hide q2
 have cQ:=hide k2
 have qY:=hide hrow2
 have Yf:=hide st2
 have Yg:=hide (show∀m∈V,Za.size (TT m)≤300 from fun m hm=>by
  obtain⟨i,hi,rfl⟩:=List.getElem_of_mem hm
  obtain⟨q,h1,h2⟩:=hVq i (Za.namesF 8 [] p)[i] V[i] (List.getElem?_eq_getElem (by omega)) (List.getElem?_eq_getElem hi)
  rw[h2]
  exact ae iV q (List.mem_of_find?_eq_some h1))
 have Qh:=hide hl
 clear hl h2 hb2 fr2 q2 k2 IM uV HU jL Uc MW hVq hVD hSV hrow2 st2 sl2 hSL Qt Ud HY BQ iV hVl
 go_wp2_with fail
 refine(ae Eb).mono ?_
 rintro e w3 ⟨rfl,rfl⟩
 go_wp2_with fail
 refine(ae IS).mono ?_
 rintro e w4 ⟨oo,oc,rfl,own4,hb4⟩
 obtain⟨hT,hTi,hTl,hTa,hTs,hTn⟩:=ae Vk
 have z4:=hb4.size
 have bu:=(ae aX).trans (hb4.mono (ae aX).size)
 have gA:=bu.alloc bu.size (.cells #[.slice oo V.length oc] 93)
 have k4:=(hb4.block _ kz).trans (ae cQ)
 have f4:=ag k4 4
 have kz4:=af k4
 simp only[List.getElem?_toArray,List.getElem?_cons_zero,List.getElem?_cons_succ]at f4
 have HST:=hide (show T9 PP w (w.heap.size+1+1) sb so cs Ty w4.heap.size D V no fr TT N (Za.namesF 8 [] p) S2 tests tests.length (.int .i64 0) (w4.alloc (.cells #[.slice oo V.length oc] 93))from by
  have hro:∀k,rowOf oo k→w3.heap.size≤k:=fun k q=>by
   obtain⟨pp,hp,hq⟩:=q
   exact(own4.lt k (by rw[hp,hq];rfl)).1
  have zu:∀k,rowOf no k→k<w.heap.size:=fun k q=>by
   obtain⟨pp,hp,hq⟩:=q
   exact((ae HG).st.own.lt k (by rw[hp,hq];rfl)).2
  have BR:=af (ae HG).st.blk
  refine⟨0,[],[],no,nc,oo,oc,TT,fC (w.heap.size+1+1) xo yo,by omega,rfl,?_,fun _ _=>rfl,fun i d h=>by simp at h,fA.nil _ _,by rw[List.append_nil,List.take_zero];exact ae Br,by simp,(ae H2).below (hb4.alloc z4 _),by rw[List.take_zero];exact Nat.zero_le _,⟨gA.os,gA.tape,gA.output,gA.size,fun k hk _=>gA.block k hk,?_⟩,?_,?_,by omega⟩
  ·have:=gu.start (PP:=PP) (R:=fC (w.heap.size+1+1) xo yo) (ae HG) bu own4 (ae aX).size (fun k q=>by have:=(ae qY k q).1;omega) hTs hTn (ae Ue)
   rw[List.append_nil,List.append_nil,lO (ae HG).st.cel]
   exact this
  ·rintro k ((e | e | e | e) | e)
   ·exact Or.inl (Or.inl e)
   ·exact Or.inl (Or.inr e)
   ·right;have:=(ae aX).size;omega
   ·right;have:=hro k e;have:=(ae aX).size;omega
   ·right;have:=(ae qY k e).1;omega
  ·rintro k q (e | e | e | e)
   ·have:=(ae qY k q).1;omega
   ·have:=(ae qY k q).1;have:=zu k e;omega
   ·have:=(ae qY k q).2;omega
   ·have:=(ae qY k q).2;have:=hro k e;omega
  ·exact(Below.heap_alloc _ _ _ (by have:=af (ae uQ);omega)).trans ((hb4.block _ (af (ae uQ))).trans (ae uQ)))
 clear bu gA k4 own4 hb4 IS Eb H2 aX uQ cQ qY b0 cz kz
 go_wp2_with fail
 go_loopg [30] tests.length (fun k iv wr=>T9 PP w (w.heap.size+1+1) sb so cs Ty w4.heap.size D V no fr TT N (Za.namesF 8 [] p) S2 tests k iv wr)
 case atStart=>exact ae HST
 case round=>
  clear HST f4 kz4
  obtain⟨j,E,F,no',nc',vo',vc',T',R,hkj,rfl,hm,he,hnd,gD,lT,hel,hlo,uY,hf,hap,xk,hcb⟩:=hrel
  by_cases hlt:j<tests.length
  ·rw[ae H0]at hlt
   exact absurd hlt (Nat.not_lt_zero _)
  ·obtain rfl:j=tests.length:=by omega
   rw[List.take_length]at lT hlo uY
   have lnv:(V++F).length≤200000:=by
    have q1:=Qr gD
    have q2:=ae Br
    have q3:=ae II
    have q4:=ae Ed
    rw[List.length_append]
    omega
   have Qu:(Za.iB (cH T' (V++F) N) tests).wt.length≤12000000:=by have q4:=ae Ed;omega
   generalize hL0:Za.iB (cH T' (V++F) N) tests=l at hlo Qu
   have uV:=hide hL0
   clear hL0
   obtain⟨so',sc',wo',wc',hB,hRe⟩:=hlo
   have b0:=ag hB.blk 0
   have b1:=ag hB.blk 1
   rw[ae uO]at b0
   have bz:=af hB.blk
   have s0:=ag hm.ad.sc.blk 0
   have sz:=af hm.ad.sc.blk
   simp only[List.getElem?_toArray,List.getElem?_cons_zero,List.getElem?_cons_succ]at b0 b1 s0
   have IOK:=hide (x9 wr _ _ l.wt (V++F) wo' vo' wc' vc' V.length hB.wown hm.ad.sc.own (by omega) (by omega))
   have HB:=hide hB
   have HM:=hide hm
   have HP:=hide (And.intro he (And.intro hnd (And.intro gD (And.intro lT hel))))
   have HF:=hide hf
   have WX:=hide xk
   have Yx:=hide hcb
   have rz:=af xk
   have hVz:(V++F).length=V.length+F.length:=List.length_append
   clear hm he hnd gD lT hel uY hf hap xk hkj hlt hB hRe lnv Qu hcb hVz
   generalize hVF:V++F=VF at*
   have PS:=hide hVF
   clear hVF
   go_wp2_with fail
   refine(ae IOK).mono ?_
   rintro e w10 ⟨oo',oc',rfl,own10,yg⟩
   have s1:=(yg.cell (p:=⟨w4.heap.size,0,none⟩) sz).trans s0
   have z10:=yg.size
   have hbk:=(yg.block _ bz).trans (ae HB).blk
   have zo:=hide (fun(W:World) (hb:Below w10.heap.size w10 W)=>Bk W (w.heap.size+1+1) l.wt l.no so' S2.length sc' wo' wc' ((hb.block _ (af hbk)).trans hbk))
   rw[Ai]at zo
   have BS:=(yg.block _ rz).trans (ae WX)
   have d0:=ag BS
   have x0:=aq BS
   have dz:=af BS
   have sz10:w4.heap.size<w10.heap.size:=Nat.lt_of_lt_of_le sz z10
   have Vl:=hide own10
   have Qv:=hide yg
   have Qw:=hide BS
   clear own10 yg hbk BS IOK b0 b1 bz s0 sz
   go_wp2_with fail
   go_region_with (go_at_call 110;refine(ae zo _ (by first | exact Below.refl _ _ | exact(Below.refl _ _).drew | exact(Below.refl _ _).drew.drew | exact(Below.refl _ _).drew.drew.drew | exact(Below.refl _ _).drew.drew.drew.drew)).mono ?_;rintro e w5 ⟨rfl,rfl⟩)
   all_goals
    go_wp2_with fail
    refine bodyPost_ret (v:= .agg #[.int .i64 (l.says:Int),.slice oo' (Za.jK VF V.length l.wt).length oc',.slice vo' VF.length vc']) (by simp[results,Tryz.results182,go_sem,d0]) rfl ?_
    obtain rfl:=ae PS
    obtain⟨he,hnd,gD,lT,hel⟩:=ae HP
    have hrow:=(ae HF).row
    have m11:=(((ae HM).below (ae Qv)).KZ (ae Qw) (Ne.symm hTa) (by decide) (by decide) (by decide) (.int .i64 (l.says:Int)) (.slice oo' (Za.jK (V++F) V.length l.wt).length oc') (.slice vo' (V++F).length vc')).below (Below.refl _ _).drew
    have Vm:E.length≤78732:=by have:=ae Ed;omega
    refine⟨V,ae Br,ae Ue,by rw[ae Qh];exact ae WW,l,E,F,no',nc',vo',vc',T',oo',oc',(ae uV).symm,rfl,bZ (K0 (ae Vl) (ae Qw) (by decide)) (ae HF).size,m11.ad.sc.own,fun k q=>hrow k (Or.inl (Or.inr (Or.inr (Or.inr q)))),m11.ad.st,m11.ok,m11.to,m11.ad.args.keep fun g _ hp hg=>⟨hg,hp.1.1,hp.2⟩,m11.lt,he,hnd,gD,lT,Vm,((((ae HF).less (X:=cm sb no') (fun k q=>by
     rcases q with e | e
     ·exact Or.inl (Or.inl e)
     ·exact Or.inl (Or.inr (Or.inl e)))).trans (aj.of_below (ae Qv))).fin (Nat.le_succ _) _ _ _)⟩
theorem xm (w:World) (p:Int) (n:Nat) (hn:0<n) (hl:n≤1000000000) (_h1: -9223372036854775808≤p) (_h2:p≤9223372036854775807):
 Calls Tryz.prog 44 #[.int .i64 p,.int .i64 (n:Int)] w fun e w'=>e= .returned (.int .i64 (p % (n:Int)))∧w'=w:=by
 have t0:decide ((n:Int)≤0)=false:=by simp;omega
 have t1:((n:Int) == 0)=false:=by simp;omega
 have b1:=Int.emod_nonneg p (show (n:Int)≠0 by omega)
 have b2:=Int.emod_lt_of_pos p (show (0:Int)<(n:Int)by omega)
 have e1:p.tmod (n:Int)=p % (n:Int)∨p.tmod (n:Int)=p % (n:Int) - (n:Int):=by
  rw[Int.tmod_eq_emod]
  split
  ·left;simp
  ·right;simp
 rcases e1 with e1 | e1
 ·have t2:decide (p.tmod (n:Int)<0)=false:=by rw[e1];simp;omega
  have HE:=hide e1
  clear e1 b1 b2
  go_enter Tryz.func44,Tryz.ntmps44
  go_wp2_with fail
  go_ret
  exact⟨by rw[←ae HE];rfl,rfl⟩
 ·have t2:decide (p.tmod (n:Int)<0)=true:=by rw[e1];simp;omega
  have t3:wrap64 (p.tmod (n:Int)+(n:Int))=p % (n:Int):=by rw[e1,Int.sub_add_cancel];unfold wrap64;omega
  have HT:=hide t3
  clear e1 b1 b2 t3
  go_enter Tryz.func44,Tryz.ntmps44
  go_wp2_with fail
  go_ret
  exact⟨by rw[←ae HT];rfl,rfl⟩
structure Gl where
 l:Nat
 sg:ByteArray
 r:Int
 op:ByteArray
 z:Int
 wt:Bool
 no:Option Addr
 nc:Nat
 nd:List Nat
def fG (g:Gl):List Value:=[.int .i64 (g.l:Int),.string g.sg,.int .i64 g.r,.string g.op,.int .i64 g.z,.bool g.wt,.slice g.no g.nd.length g.nc]
def fT (fr:Nat→Nat) (g:Gl):Bool:= !g.wt||g.nd.any fun v=>decide (fr v≠v)
theorem uZ (w:World) (mb:Nat) (cs:Array Value) (Ty:TypeId) (D:List Ng) (nO:Option Addr) (nC:Nat) (fr:Nat→Nat) (g:Gl) (b:Nat) (hs:bt w mb 1 cs Ty D nO nC) (hok:bR D fr) (hn:w.ownsRow b 3 1 (.slice g.no g.nd.length g.nc) g.nd.length (g.nd.map aI)) (hlt:∀v∈g.nd,v<D.length) (hl:g.nd.length≤1000000000):
 Calls Tryz.prog 83 #[.pointer (some ⟨mb,0,none⟩),.agg #[.int .i64 (g.l:Int),.string g.sg,.int .i64 g.r,.string g.op,.int .i64 g.z,.bool g.wt,.slice g.no g.nd.length g.nc]] w fun e w'=>e= .returned (.bool (fT fr g))∧Below w.heap.size w w':=by
 obtain⟨l,sg,r,op,z,wt,no,nc,nd⟩:=g
 dsimp only at*
 have hb0:=(Below.refl w.heap.size w).alloc (Nat.le_refl _) (.cells #[.int .i64 (l:Int),.string sg,.int .i64 r,.string op,.int .i64 z,.bool wt,.slice no nd.length nc] 158)
 have aT:=hide hb0
 have HN:=hide hn
 have aY:=hide hlt
 have iU:=hide (fun W (hb:Below w.heap.size w W) (v:Nat) (hv:v<D.length)=>(hok.hop v hv).imp fun k hk=>dJ W mb 1 cs Ty D nO nC v (fr v) k (hs.below hb) hk)
 clear hs hok hn hlt hb0
 cases wt with
 | false=>
  go_enter Tryz.func83,Tryz.ntmps83
  go_wp2_with fail
  go_ret
  exact⟨rfl,ae aT⟩
 | true=>
  go_enter Tryz.func83,Tryz.ntmps83
  go_wp2_with fail
  go_loopg [13] nd.length (fun k iv wr=>∃j:Nat,k+j=nd.length∧iv= .int .i64 (j:Int)∧Below w.heap.size w wr∧(nd.take j).any (fun v=>decide (fr v≠v))=false)
  case atStart=>exact⟨0,by omega,rfl,ae aT,by simp⟩
  case round=>
   clear aT
   obtain⟨j,hkj,rfl,aM,hno⟩:=hrel
   by_cases hlt:j<nd.length
   ·obtain⟨g,hg⟩:∃g,no=some ⟨g,0,none⟩:=by
     rcases(ae HN).2 with⟨q,q2⟩ | ⟨g,cp,cur,q,_⟩
     ·omega
     ·simp only[Value.slice.injEq]at q
      exact⟨g,q.1⟩
    subst hg
    have gz0:=((ae HN).lt g rfl).2
    have f0:wr.cell? ⟨g,j,none⟩=some (.int .i64 (nd[j]:Int)):=by
     rw[aM.cell (p:=⟨g,j,none⟩) gz0,(ae HN).cellAt j (by omega),List.getElem?_map,List.getElem?_eq_getElem hlt]
     rfl
    have gz:g<wr.heap.size:=Nat.lt_of_lt_of_le gz0 aM.size
    have i0:(0:Int)≤(j:Int):=by omega
    have i1:(j:Int)<(nd.length:Int):=by omega
    obtain⟨kk,hfc⟩:=ae iU wr aM nd[j] (ae aY _ (List.getElem_mem hlt))
    have Qx:=hide hfc
    have hst:nd.take (j+1)=nd.take j++[nd[j]]:=by rw[List.take_add_one,List.getElem?_eq_getElem hlt];rfl
    have bJ:=hide aM
    have Qy:=hide hlt
    have aP:=hide hkj
    have hmem:nd[j]∈nd:=List.getElem_mem hlt
    generalize nd[j]=m at*
    by_cases he:fr m=m
    ·have gF:=hide (show (nd.take (j+1)).any (fun v=>decide (fr v≠v))=false by rw[hst,List.any_append,hno];simp[he])
     rw[he]at Qx
     clear he hno hkj hst aM hfc hmem
     go_wp2_with fail
     refine(ae Qx).mono ?_
     rintro e w5 ⟨rfl,rfl⟩
     unfold aI
     go_wp2_with fail
     go_roundg (gk - 1)
     case measure=>have:=ae aP;have:=ae Qy;omega
     case rel=>exact⟨j+1,by have:=ae aP;have:=ae Qy;omega,by go_num,ae bJ,ae gF⟩
    ·have BQ:=hide (show nd.any (fun v=>decide (fr v≠v))=true from List.any_eq_true.2 ⟨m,hmem,by simpa using he⟩)
     have t2:(((fr m:Nat):Int) == ((m:Nat):Int))=false:=by simp;omega
     have t3:(((fr m:Nat):Int) != ((m:Nat):Int))=true:=by simp;omega
     generalize fr m=m' at*
     clear he hno hkj hst aM hfc hmem
     go_wp2_with fail
     refine(ae Qx).mono ?_
     rintro e w5 ⟨rfl,rfl⟩
     unfold aI
     go_wp2_with fail
     go_ret
     exact⟨by unfold fT;rw[ae BQ];rfl,ae bJ⟩
   ·have gF:=hide (show nd.any (fun v=>decide (fr v≠v))=false by rwa [List.take_of_length_le (by omega)]at hno)
    have bJ:=hide aM
    clear hno aM
    obtain rfl:j=nd.length:=by omega
    go_wp2_with fail
    go_ret
    exact⟨by unfold fT;rw[ae gF];rfl,ae bJ⟩
theorem glC_len:∀g,(fG g).length=7:=fun _=>rfl
theorem qE {G:List Gl} {n:Nat} (h:n<G.length) (j:Nat) (hj:j<7):(G.flatMap fG)[n*7+j]?=(fG G[n])[j]?:=qu glC_len h j hj
structure cG (w:World) (mb:Nat) (cs:Array Value) (D:List Ng) (nO:Option Addr) (nC:Nat) (fr:Nat→Nat) (G:List Gl) (po:Option Addr) (pc:Nat):Prop where
 st:bt w mb 1 cs 91 D nO nC
 ok:bR D fr
 c3:cs[3]?=some (.slice po G.length pc)
 pool:w.ownsRow 0 158 7 (.slice po G.length pc) G.length (G.flatMap fG)
 nds:∀g∈G,w.ownsRow 0 3 1 (.slice g.no g.nd.length g.nc) g.nd.length (g.nd.map aI)
 nlt:∀g∈G,∀v∈g.nd,v<D.length
 nl:∀g∈G,g.nd.length≤1000000000
theorem cG.below {w w':World} {mb:Nat} {cs:Array Value} {D:List Ng} {nO:Option Addr} {nC:Nat} {fr:Nat→Nat} {G:List Gl} {po:Option Addr} {pc:Nat} (h:cG w mb cs D nO nC fr G po pc) (hb:Below w.heap.size w w'):cG w' mb cs D nO nC fr G po pc:=
 ⟨h.st.below hb,h.ok,h.c3,ah h.pool (fun g q=>hb.block g (h.pool.lt g q).2),fun g hg=>ah (h.nds g hg) (fun k q=>hb.block k ((h.nds g hg).lt k q).2),h.nlt,h.nl⟩
def b9 (fr:Nat→Nat) (G:List Gl) (j:Nat):List Nat:=(List.range j).filter fun i=>match G[i]? with
 | some g=>fT fr g
 | none=>false
theorem IK (fr:Nat→Nat) (G:List Gl) (j:Nat) (h:j<G.length):b9 fr G (j+1)=b9 fr G j++(if fT fr G[j]=true then [j]else []):=by
 unfold b9
 rw[List.range_succ,List.filter_append]
 congr 1
 simp only[List.filter_cons,List.filter_nil,List.getElem?_eq_getElem h]
theorem BU (fr:Nat→Nat) (G:List Gl) (j:Nat):(b9 fr G j).length≤j:=by
 have:=List.length_filter_le (fun i=>match G[i]? with
  | some g=>fT fr g
  | none=>false) (List.range j)
 rwa [List.length_range]at this
def WY (w:World) (fr:Nat→Nat) (G:List Gl) (k:Nat) (av iv:Value) (wr:World):Prop:=
 ∃j:Nat,k+j=G.length∧iv= .int .i64 (j:Int)∧wr.ownsRow w.heap.size 3 1 av (b9 fr G j).length ((b9 fr G j).map aI)∧Below w.heap.size w wr
theorem zC (w:World) (mb:Nat) (cs:Array Value) (D:List Ng) (nO:Option Addr) (nC:Nat) (fr:Nat→Nat) (G:List Gl) (po:Option Addr) (pc:Nat) (h:cG w mb cs D nO nC fr G po pc) (hl:G.length≤1000000):
 Calls Tryz.prog 43 #[.pointer (some ⟨mb,0,none⟩)] w fun e w'=>∃oo oc,e= .returned (.slice oo (b9 fr G G.length).length oc)∧w'.ownsRow w.heap.size 3 1 (.slice oo (b9 fr G G.length).length oc) (b9 fr G G.length).length ((b9 fr G G.length).map aI)∧Below w.heap.size w w':=by
 have f3:=(ag h.st.blk 3).trans h.c3
 have mz:=af h.st.blk
 have H:=hide h
 obtain⟨tj,hj,hy0,hy1,hy2⟩:=info_parts infoIn
 clear h
 go_enter Tryz.func43,Tryz.ntmps43
 go_wp2_with fail
 go_loopg [3,11] G.length (fun k av iv wr=>WY w fr G k av iv wr)
 case atStart=>exact⟨0,by omega,rfl,by simpa [b9] using World.ownsRow_nil _ _ _ _,Below.refl _ _⟩
 case round=>
  obtain⟨j,hkj,rfl,how,aM⟩:=hrel
  obtain⟨oo,oc,rfl⟩:=eP how
  by_cases hlt:j<G.length
  ·obtain⟨g,hg⟩:∃g,po=some ⟨g,0,none⟩:=by
    rcases(ae H).pool.2 with⟨q,q2⟩ | ⟨g,cp,cur,q,_⟩
    ·omega
    ·simp only[Value.slice.injEq]at q
     exact⟨g,q.1⟩
   subst hg
   have gz0:=((ae H).pool.lt g rfl).2
   have fc:∀i,i<7→wr.cell? ⟨g,j*7+i,none⟩=(fG G[j])[i]?:=fun i hi=>by
    rw[aM.cell (p:=⟨g,j*7+i,none⟩) gz0,(ae H).pool.cellAt (j*7+i) (by omega)]
    exact qE hlt i hi
   have e0:=fc 0 (by omega)
   have e1:=fc 1 (by omega)
   have e2:=fc 2 (by omega)
   have e3:=fc 3 (by omega)
   have e4:=fc 4 (by omega)
   have e5:=fc 5 (by omega)
   have e6:=fc 6 (by omega)
   simp only[fG,List.getElem?_cons_zero,List.getElem?_cons_succ,Nat.add_zero]at e0 e1 e2 e3 e4 e5 e6
   have gz:g<wr.heap.size:=Nat.lt_of_lt_of_le gz0 aM.size
   have i0:(0:Int)≤(j:Int):=by omega
   have i1:(j:Int)<(G.length:Int):=by omega
   have hW:=aM.alloc aM.size (.cells #[.int .i64 (G[j].l:Int),.string G[j].sg,.int .i64 G[j].r,.string G[j].op,.int .i64 G[j].z,.bool G[j].wt,.slice G[j].no G[j].nd.length G[j].nc] 158)
   have hm:=(ae H).below hW
   have IR:=hide (uZ _ mb cs _ D nO nC fr G[j] 0 hm.st hm.ok (hm.nds _ (List.getElem_mem hlt)) (hm.nlt _ (List.getElem_mem hlt)) (hm.nl _ (List.getElem_mem hlt)))
   have fh:=hide (IK fr G j hlt)
   have hle:=BU fr G j
   have Vn:(b9 fr G j).length≤1000000:=by omega
   have HOW:=hide (ah how (w':=wr.alloc (.cells #[.int .i64 (G[j].l:Int),.string G[j].sg,.int .i64 G[j].r,.string G[j].op,.int .i64 G[j].z,.bool G[j].wt,.slice G[j].no G[j].nd.length G[j].nc] 158)) (fun k q=>Below.heap_alloc _ _ _ (how.lt k q).2))
   have bJ:=hide hW
   have aP:=hide hkj
   have aY:=hide hlt
   generalize b9 fr G j=Z at*
   have xp:fT fr G[j]=true∨fT fr G[j]=false:=by cases fT fr G[j]<;>simp
   have I0:=hide xp
   generalize hgg:G[j]=gg at*
   clear how aM hkj hlt fc hW hm hle xp hgg
   rcases ae I0 with hr | hr
   ·rw[hr]at IR
    rw[if_pos hr]at fh
    clear hr I0
    go_wp2_with fail
    refine(ae IR).mono ?_
    rintro e w5 ⟨rfl,bu⟩
    have z5:=bu.size
    rw[World.size_alloc]at z5
    have lM:=hide (ah (ae HOW) (fun k q=>bu.block k ((ae HOW).lt k q).2))
    have vC:=hide ((ae bJ).trans (bu.mono (ae bJ).size))
    have z6:w.heap.size≤w5.heap.size:=(ae vC).size
    clear bu
    go_wp2_with (at_builtin;go_must (refine wpList_append_own_at _ rfl (.tmp 19) (.tmp 21) 25 rfl w.heap.size 3 tj (.int .i64 0) 1 8 Tryz.underlying25 hj hy0 hy1 hy2 rfl (by decide) _ Z.length (Z.map aI) rfl ((ae lM).alloc _) ⟨w5.heap.size,0,none⟩ 1 1 [.int .i64 (j:Int)] rfl rfl (ie _ _ _ _ rfl) (by simp[Value.oneCell']) (by unfold maxLen;omega) (by omega) (by simp;omega) ?_);go_must (intro v' w7 hown' hgrow _ _;have mj:=hide hown';have ml:=hide (((ae vC).alloc (ae vC).size _).grown hgrow (by have:=(ae vC).size;simp;omega) (fun k q=>by have:=((ae lM).lt k q).1;omega));clear hown' hgrow))
    go_roundg (gk - 1)
    case measure=>have:=ae aP;have:=ae aY;omega
    case rel=>exact⟨j+1,by have:=ae aP;have:=ae aY;omega,by go_num,by rw[ae fh];have:=ae mj;simpa [aI] using this,ae ml⟩
   ·rw[hr]at IR
    rw[if_neg (by simp[hr]),List.append_nil]at fh
    clear hr I0
    go_wp2_with fail
    refine(ae IR).mono ?_
    rintro e w5 ⟨rfl,bu⟩
    have bS:=hide bu
    clear bu
    go_wp2_with fail
    go_roundg (gk - 1)
    case measure=>have:=ae aP;have:=ae aY;omega
    case rel=>exact⟨j+1,by have:=ae aP;have:=ae aY;omega,by go_num,by rw[ae fh];exact ah (ae HOW) (fun k q=>(ae bS).block k ((ae HOW).lt k q).2),(ae bJ).trans ((ae bS).mono (ae bJ).size)⟩
  ·obtain rfl:j=G.length:=by omega
   have HOW:=hide how
   have bJ:=hide aM
   clear how aM hkj
   go_wp2_with fail
   go_ret
   exact⟨oo,oc,rfl,ae HOW,ae bJ⟩
theorem xt (w:World) (mb:Nat) (cs:Array Value) (Ty:TypeId) (D:List Ng) (nO:Option Addr) (nC:Nat) (fr:Nat→Nat) (n:Nat) (d:Ng) (hs:bt w mb 1 cs Ty D nO nC) (hok:bR D fr) (hn:n<D.length) (hd:D[fr n]?=some d):
 Calls Tryz.prog 194 #[.pointer (some ⟨mb,0,none⟩),.int .i64 (n:Int)] w fun e w'=>e= .returned (.tuple #[.int .i64 d.val,.bool (d.k == 2)])∧Below w.heap.size w w':=by
 obtain⟨k,hk⟩:=hok.hop n hn
 have HL:=hide (eo w mb 1 cs Ty D nO nC n (fr n) k d hs hk hd)
 clear hs hok hd hk
 go_enter Tryz.func194,Tryz.ntmps194
 go_wp2_with fail
 refine(ae HL).mono ?_
 rintro e w2 ⟨rfl,hb2⟩
 have z2:=hb2.size
 have HB:=hide (hb2.alloc z2 (.cells #[.int .i64 d.k,.int .i64 d.val,.string d.tx,.int .i64 (d.cnt:Int)] 177))
 clear hb2
 go_wp2_with fail
 go_region
 all_goals
  go_wp2_with fail
  refine bodyPost_ret (v:= .tuple #[.int .i64 d.val,.bool (d.k == 2)]) (by simp[results,Tryz.results194,go_sem]) rfl ?_
  exact⟨rfl,(ae HB).drew⟩
def arith (op:List UInt8) (a b:Int):Int:=if op=[43]then a+b else if op=[45]then a - b else a*b
theorem K4 (w:World) (a b:Int) (op:ByteArray) (ha: -1000000000≤a) (ha':a≤1000000000) (hb: -1000000000≤b) (hb':b≤1000000000):
 Calls Tryz.prog 195 #[.int .i64 a,.string op,.int .i64 b] w fun e w'=>e= .returned (.int .i64 (arith op.toList a b))∧w'=w:=by
 have hm: -1000000000000000000≤a*b∧a*b≤1000000000000000000:=by
  have h1:(a*b).natAbs≤1000000000*1000000000:=by
   rw[Int.natAbs_mul]
   exact Nat.mul_le_mul (by omega) (by omega)
  omega
 by_cases h1:op.toList=[43]
 ·have t1:(op.toList == [43])=true:=by rw[h1];rfl
  have HE:=hide (show a+b=arith op.toList a b by unfold arith;rw[if_pos h1])
  clear h1 hm
  go_enter Tryz.func195,Tryz.ntmps195
  go_wp2_with fail
  go_ret
  exact⟨by rw[←ae HE];first | rfl | done,rfl⟩
 ·by_cases h2:op.toList=[45]
  ·have t1:(op.toList == [43])=false:=by rw[h2];rfl
   have t2:(op.toList == [45])=true:=by rw[h2];rfl
   have HE:=hide (show a - b=arith op.toList a b by unfold arith;rw[if_neg h1,if_pos h2])
   clear h1 h2 hm
   go_enter Tryz.func195,Tryz.ntmps195
   go_wp2_with fail
   go_ret
   exact⟨by rw[←ae HE];first | rfl | done,rfl⟩
  ·have t1:(op.toList == [43])=false:=by simpa using h1
   have t2:(op.toList == [45])=false:=by simpa using h2
   have HE:=hide (show wrap64 (a*b)=arith op.toList a b by unfold arith;rw[if_neg h1,if_neg h2];unfold wrap64;omega)
   clear h1 h2 hm
   go_enter Tryz.func195,Tryz.ntmps195
   go_wp2_with fail
   go_ret
   exact⟨by rw[←ae HE];first | rfl | done,rfl⟩
theorem vN (w:World) (mb:Nat) (cs:Array Value) (n:Nat) (h:w.heap[mb]?=some (.cells cs 91 (0,0))) (hc:5<cs.size):
 Calls Tryz.prog 178 #[.pointer (some ⟨mb,0,none⟩),.int .i64 (n:Int)] w fun e w'=>e= .returned (.int .i64 (-2))∧w'=w.setCell ⟨mb,5,none⟩ (.int .i64 (n:Int)):=by
 have c5:=(ag h 5).trans (Array.getElem?_eq_getElem hc)
 have x5:=aq h 5
 have mz:=af h
 clear h
 go_enter Tryz.func178,Tryz.ntmps178
 go_wp2_with fail
 go_ret
 exact⟨rfl,rfl⟩
def kM (op:List UInt8) (d e:Ng):Option Int:=if d.k=2 then(if op=[]then some d.val else if e.k=2 then(if -1000000000≤arith op d.val e.val∧arith op d.val e.val≤1000000000 then some (arith op d.val e.val)else none)else none)else none
def Vo (r:Option Int) (w:World) (e:Ending) (w':World):Prop:=∃(x:Int) (b:Bool),e= .returned (.tuple #[.int .i64 x,.bool b])∧((b=true∧r=some x)∨(b=false∧r=none))∧Below w.heap.size w w'
theorem I1 (w:World) (mb:Nat) (cs:Array Value) (Ty:TypeId) (D:List Ng) (nO:Option Addr) (nC:Nat) (fr:Nat→Nat) (l:Nat) (sg:ByteArray) (rn:Nat) (op:ByteArray) (z:Int) (wt:Bool) (no:Option Addr) (nn nc:Nat) (d e:Ng) (hs:bt w mb 1 cs Ty D nO nC) (hok:bR D fr) (hn:rn<D.length) (hd:D[fr rn]?=some d) (hz:op.toList≠[]→∃zn:Nat,z=(zn:Int)∧zn<D.length∧D[fr zn]?=some e) (sd: -1000000000≤d.val∧d.val≤1000000000) (se: -1000000000≤e.val∧e.val≤1000000000):
 Calls Tryz.prog 180 #[.pointer (some ⟨mb,0,none⟩),.agg #[.int .i64 (l:Int),.string sg,.int .i64 (rn:Int),.string op,.int .i64 z,.bool wt,.slice no nn nc]] w fun x w'=>Vo (kM op.toList d e) w x w':=by
 have hb0:=(Below.refl w.heap.size w).alloc (Nat.le_refl _) (.cells #[.int .i64 (l:Int),.string sg,.int .i64 (rn:Int),.string op,.int .i64 z,.bool wt,.slice no nn nc] 158)
 have IN:=hide (xt _ mb cs Ty D nO nC fr rn d (hs.below hb0) hok hn hd)
 have IZ:=hide (fun W (hb:Below w.heap.size w W) (zn:Nat) (hl:zn<D.length) (he:D[fr zn]?=some e)=>xt W mb cs Ty D nO nC fr zn e (hs.below hb) hok hl he)
 have HX:=hide (heap_alloc_new w (.cells #[.int .i64 (l:Int),.string sg,.int .i64 (rn:Int),.string op,.int .i64 z,.bool wt,.slice no nn nc] 158))
 have aT:=hide hb0
 have HZ:=hide hz
 have zo:=hide sd
 have Ug:=hide se
 clear hs hok hn hd hz hb0 sd se
 go_enter Tryz.func180,Tryz.ntmps180
 go_wp2_with fail
 refine(ae IN).mono ?_
 rintro ee w2 ⟨rfl,hb2⟩
 have hx2:=(hb2.block w.heap.size (by simp)).trans (ae HX)
 have c3:=ag hx2 3
 have c4:=ag hx2 4
 have xz:=af hx2
 simp only[List.getElem?_toArray,List.getElem?_cons_zero,List.getElem?_cons_succ]at c3 c4
 have hb3:=(ae aT).trans (hb2.mono (ae aT).size)
 have bH:=hide hb3
 have WZ:=hide hx2
 clear hb2 hb3 hx2 IN aT HX
 by_cases h1:d.k=2
 ·have t1:(d.k == 2)=true:=by simpa using h1
  rw[t1]
  by_cases h2:op.toList=[]
  ·have t2:(op.toList == [])=true:=by rw[h2];rfl
   have HR:=hide (show kM op.toList d e=some d.val by unfold kM;rw[if_pos h1,if_pos h2])
   clear h1 h2
   go_wp2_with fail
   refine bodyPost_ret (v:= .tuple #[.int .i64 d.val,.bool true]) (by simp[results,Tryz.results180,go_sem]) rfl ?_
   exact⟨_,_,rfl,Or.inl ⟨rfl,ae HR⟩,ae bH⟩
  ·have t2:(op.toList == [])=false:=by simpa using h2
   obtain⟨zn,rfl,zl,ze⟩:=ae HZ h2
   have IY:=hide (ae IZ _ (ae bH) zn zl ze)
   have jL:=hide (show kM op.toList d e=if e.k=2 then(if -1000000000≤arith op.toList d.val e.val∧arith op.toList d.val e.val≤1000000000 then some (arith op.toList d.val e.val)else none)else none by unfold kM;rw[if_pos h1,if_neg h2])
   clear h1 h2 zl ze IZ HZ
   go_wp2_with fail
   refine(ae IY).mono ?_
   rintro ee w4 ⟨rfl,hb4⟩
   have Qz:=(hb4.block w.heap.size xz).trans (ae WZ)
   have c3':=ag Qz 3
   have xz4:=af Qz
   simp only[List.getElem?_toArray,List.getElem?_cons_zero,List.getElem?_cons_succ]at c3'
   have cR:=hide ((ae bH).trans (hb4.mono (ae bH).size))
   clear hb4 Qz IY c3 c4
   by_cases h3:e.k=2
   ·have t3:(e.k == 2)=true:=by simpa using h3
    rw[t3]
    rw[if_pos h3]at jL
    have IC:=hide (K4 w4 d.val e.val op (ae zo).1 (ae zo).2 (ae Ug).1 (ae Ug).2)
    generalize arith op.toList d.val e.val=x at*
    clear h3
    by_cases h4:x≤1000000000
    ·by_cases h5: -1000000000≤x
     ·rw[if_pos ⟨h5,h4⟩]at jL
      have t4:decide (1000000000<x)=false:=by simp;omega
      have t5:decide (x< -1000000000)=false:=by simp;omega
      clear h4 h5
      go_wp2_with fail
      refine(ae IC).mono ?_
      rintro ee w5 ⟨rfl,rfl⟩
      go_wp2_with fail
      refine bodyPost_ret (v:= .tuple #[.int .i64 x,.bool true]) (by simp[results,Tryz.results180,go_sem]) rfl ?_
      exact⟨_,_,rfl,Or.inl ⟨rfl,ae jL⟩,ae cR⟩
     ·rw[if_neg (fun q=>h5 q.1)]at jL
      have t4:decide (1000000000<x)=false:=by simp;omega
      have t5:decide (x< -1000000000)=true:=by simp;omega
      clear h4 h5
      go_wp2_with fail
      refine(ae IC).mono ?_
      rintro ee w5 ⟨rfl,rfl⟩
      go_wp2_with fail
      refine bodyPost_ret (v:= .tuple #[.int .i64 0,.bool false]) (by simp[results,Tryz.results180,go_sem]) rfl ?_
      exact⟨_,_,rfl,Or.inr ⟨rfl,ae jL⟩,ae cR⟩
    ·rw[if_neg (fun q=>h4 q.2)]at jL
     have t4:decide (1000000000<x)=true:=by simp;omega
     clear h4
     go_wp2_with fail
     refine(ae IC).mono ?_
     rintro ee w5 ⟨rfl,rfl⟩
     go_wp2_with fail
     refine bodyPost_ret (v:= .tuple #[.int .i64 0,.bool false]) (by simp[results,Tryz.results180,go_sem]) rfl ?_
     exact⟨_,_,rfl,Or.inr ⟨rfl,ae jL⟩,ae cR⟩
   ·have t3:(e.k == 2)=false:=by simpa using h3
    rw[t3]
    rw[if_neg h3]at jL
    clear h3
    go_wp2_with fail
    refine bodyPost_ret (v:= .tuple #[.int .i64 0,.bool false]) (by simp[results,Tryz.results180,go_sem]) rfl ?_
    exact⟨_,_,rfl,Or.inr ⟨rfl,ae jL⟩,ae cR⟩
 ·have t1:(d.k == 2)=false:=by simpa using h1
  rw[t1]
  have HR:=hide (show kM op.toList d e=none by unfold kM;rw[if_neg h1])
  clear h1
  go_wp2_with fail
  refine bodyPost_ret (v:= .tuple #[.int .i64 d.val,.bool false]) (by simp[results,Tryz.results180,go_sem]) rfl ?_
  exact⟨_,_,rfl,Or.inr ⟨rfl,ae HR⟩,ae bH⟩
theorem BV (D:List Gl) (n j:Nat) (hn:n<D.length) (hj:j<7) (d:Gl) (v:Value) (h:fG d=(fG D[n]).set j v):(D.set n d).flatMap fG=(D.flatMap fG).set (n*7+j) v:=by
 induction D generalizing n with
 | nil=>simp at hn
 | cons e D ih=>
  cases n with
  | zero=>
   simp only[List.set_cons_zero,List.flatMap_cons]
   rw[List.set_append_left _ _ (by rw[glC_len];omega)]
   rw[h]
   simp
  | succ n=>
   simp only[List.set_cons_succ,List.flatMap_cons]
   rw[List.set_append_right _ _ (by rw[glC_len];omega),glC_len,ih n (by simpa using hn) (by simpa using h)]
   congr 2
   omega
theorem cG.pooled {w w':World} {mb:Nat} {cs:Array Value} {D:List Ng} {nO:Option Addr} {nC:Nat} {fr:Nat→Nat} {G G':List Gl} {po:Option Addr} {pc:Nat} (h:cG w mb cs D nO nC fr G po pc) (hf:aj (rowOf po) (rowOf po) w w') (hl:G'.length=G.length) (hp:w'.ownsRow 0 158 7 (.slice po G.length pc) G.length (G'.flatMap fG)) (hn:∀g∈G',w.ownsRow 0 3 1 (.slice g.no g.nd.length g.nc) g.nd.length (g.nd.map aI)) (ht:∀g∈G',∀v∈g.nd,v<D.length) (hm:∀g∈G',g.nd.length≤1000000000):cG w' mb cs D nO nC fr G' po pc:=by
 have keep:∀(g:Nat) (ys:Array Value) (S:TypeId),w.heap[g]?=some (.cells ys S (0,0))→S≠158→w'.heap[g]?=w.heap[g]?:=fun g ys S hg hS=>hf.block g (af hg) (aN h.pool hg hS)
 refine⟨⟨(keep mb _ _ h.st.blk (by decide)).trans h.st.blk,h.st.cel,ah h.st.own fun g q=> ?_,h.st.ty⟩,h.ok,by rw[hl];exact h.c3,by rw[hl];exact hp,fun g hg=>ah (hn g hg) fun k q=> ?_,ht,hm⟩
 ·obtain⟨cur,hc⟩:=aH h.st.own (aD q)
  exact keep g _ _ hc (by decide)
 ·obtain⟨cur,hc⟩:=aH (hn g hg) (aD q)
  exact keep k _ _ hc (by decide)
theorem BW (w:World) (mb:Nat) (cs:Array Value) (D:List Ng) (nO:Option Addr) (nC:Nat) (fr:Nat→Nat) (G:List Gl) (po:Option Addr) (pc i:Nat) (gi:Gl) (nd:List Nat) (no:Option Addr) (nc:Nat) (h:cG w mb cs D nO nC fr G po pc) (hi:i<G.length) (fQ:G[i]=gi) (hn:w.ownsRow 0 3 1 (.slice no nd.length nc) nd.length (nd.map aI)) (hlt:∀v∈nd,v<D.length) (hl:nd.length≤1000000000):
 Calls Tryz.prog 179 #[.pointer (some ⟨mb,0,none⟩),.int .i64 (i:Int),.slice no nd.length nc] w fun e w'=>e= .returned (.int .i64 (-1))∧cG w' mb cs D nO nC fr (G.set i {gi with wt:=true,no:=no,nc:=nc,nd:=nd}) po pc∧aj (rowOf po) (rowOf po) w w':=by
 have f3:=(ag h.st.blk 3).trans h.c3
 have mz:=af h.st.blk
 obtain⟨g,hg⟩:∃g,po=some ⟨g,0,none⟩:=by
  rcases h.pool.2 with⟨q,q2⟩ | ⟨g,cp,cur,q,_⟩
  ·omega
  ·simp only[Value.slice.injEq]at q
   exact⟨g,q.1⟩
 subst hg
 have gz:=(h.pool.lt g rfl).2
 have gne:g≠mb:=fun e=>by
  obtain⟨cur,hc⟩:=aH h.pool (g:=g) ⟨_,rfl,rfl⟩
  rw[e,h.st.blk]at hc
  simp only[Option.some.injEq,Obj.cells.injEq]at hc
  exact absurd hc.2.1 (by decide)
 have fc:∀k,k<7→w.cell? ⟨g,i*7+k,none⟩=(fG gi)[k]?:=fun k hk=>by
  rw[h.pool.cellAt (i*7+k) (by omega),←fQ]
  exact qE hi k hk
 have e5:=fc 5 (by omega)
 have e6:=fc 6 (by omega)
 simp only[fG,List.getElem?_cons_zero,List.getElem?_cons_succ]at e5 e6
 have x5:=h.pool.frozenAt (i*7+5)
 have x6:=h.pool.frozenAt (i*7+6)
 have i0:(0:Int)≤(i:Int):=by omega
 have i1:(i:Int)<(G.length:Int):=by omega
 obtain⟨p1,p2⟩:=h.pool.stored (i*7+5) (.bool true)
 obtain⟨p3,p4⟩:=p1.stored (i*7+6) (.slice no nd.length nc)
 have cL:aj (rowOf (some ⟨g,0,none⟩)) (rowOf (some ⟨g,0,none⟩)) w ((w.setCell ⟨g,i*7+5,none⟩ (.bool true)).setCell ⟨g,i*7+6,none⟩ (.slice no nd.length nc)):=
  ⟨p4.os.trans p2.os,p4.tape.trans p2.tape,p4.output.trans p2.output,Nat.le_trans p2.size p4.size,fun k hk hr=>by
   have hne:k≠g:=fun e=>hr ⟨⟨g,0,none⟩,rfl,e⟩
   rw[aF _ _ _ _ hne,aF _ _ _ _ hne],fun _ q=>Or.inl q⟩
 have MX:(G.set i {gi with wt:=true,no:=no,nc:=nc,nd:=nd}).flatMap fG=((G.flatMap fG).set (i*7+5) (.bool true)).set (i*7+6) (.slice no nd.length nc):=by
  have a1:=BV G i 5 hi (by omega) {gi with wt:=true} (.bool true) (by rw[fQ];rfl)
  have a2:=BV (G.set i {gi with wt:=true}) i 6 (by simpa using hi) (by omega) {gi with wt:=true,no:=no,nc:=nc,nd:=nd} (.slice no nd.length nc) (by simp[fG])
  rw[List.set_set]at a2
  rw[a2,a1]
 have HR:=hide (h.pooled cL (G':=G.set i {gi with wt:=true,no:=no,nc:=nc,nd:=nd}) (by simp) (by rw[MX];exact p3) (fun q hq=>by
  rcases List.mem_or_eq_of_mem_set hq with e | e
  ·exact h.nds q e
  ·rw[e];exact hn) (fun q hq=>by
  rcases List.mem_or_eq_of_mem_set hq with e | e
  ·exact h.nlt q e
  ·rw[e];exact hlt) (fun q hq=>by
  rcases List.mem_or_eq_of_mem_set hq with e | e
  ·exact h.nl q e
  ·rw[e];exact hl))
 have HF:=hide cL
 clear h hn hlt cL MX p1 p2 p3 p4 fc fQ
 go_enter Tryz.func179,Tryz.ntmps179
 go_wp2_with fail
 go_ret
 exact⟨rfl,ae HR,ae HF⟩
theorem infoGoal:(Tryz.prog.info? 158).map (fun i=>(i.zero,i.size,i.bytes))=some (some (.agg #[.int .i64 0,.string ⟨#[]⟩,.int .i64 0,.string ⟨#[]⟩,.int .i64 0,.bool false,.slice none 0 0]),7,88):=by kernel_rfl
theorem K5 (G:List Gl) (i j:Nat) (h:j<G.length):(G.take (j+1)).eraseIdx i=(G.take j).eraseIdx i++(if j=i then []else [G[j]]):=by
 have e:G.take (j+1)=G.take j++[G[j]]:=by rw[List.take_add_one,List.getElem?_eq_getElem h];rfl
 have hl:(G.take j).length=j:=by rw[List.length_take];omega
 rw[e]
 rcases Nat.lt_trichotomy j i with q | q | q
 ·rw[List.eraseIdx_of_length_le (by simp;omega),List.eraseIdx_of_length_le (by omega),if_neg (by omega)]
 ·subst q
  have h1:(G.take j).eraseIdx j=G.take j:=List.eraseIdx_of_length_le (Nat.le_of_eq hl)
  have h2:(G.take j++[G[j]]).eraseIdx j=G.take j++[G[j]].eraseIdx (j - (G.take j).length):=List.eraseIdx_append_of_length_le (Nat.le_of_eq hl) _
  rw[h1,h2,hl,Nat.sub_self,if_pos rfl]
  rfl
 ·rw[List.eraseIdx_append_of_lt_length (by omega),if_neg (by omega)]
def W5 (w:World) (G:List Gl) (i:Nat) (k:Nat) (av iv:Value) (wr:World):Prop:=
 ∃j:Nat,k+j=G.length∧iv= .int .i64 (j:Int)∧wr.ownsRow w.heap.size 158 7 av ((G.take j).eraseIdx i).length (((G.take j).eraseIdx i).flatMap fG)∧Below w.heap.size w wr
theorem cG.left {w w1:World} {mb:Nat} {cs:Array Value} {D:List Ng} {nO:Option Addr} {nC:Nat} {fr:Nat→Nat} {G G':List Gl} {po po':Option Addr} {pc pc':Nat} (h:cG w mb cs D nO nC fr G po pc) (hb:Below w.heap.size w w1) (hs:∀g∈G',g∈G) (ho:w1.ownsRow w.heap.size 158 7 (.slice po' G'.length pc') G'.length (G'.flatMap fG)):
 cG (w1.setCell ⟨mb,3,none⟩ (.slice po' G'.length pc')) mb (cs.setIfInBounds 3 (.slice po' G'.length pc')) D nO nC fr G' po' pc'∧aj (fun k=>k=mb) (fun k=>k=mb∨rowOf po' k) w (w1.setCell ⟨mb,3,none⟩ (.slice po' G'.length pc')):=by
 have mz:=af h.st.blk
 have keep:∀g,g≠mb→g<w.heap.size→(w1.setCell ⟨mb,3,none⟩ (.slice po' G'.length pc')).heap[g]?=w.heap[g]?:=fun g h1 h2=>by rw[aF _ _ _ _ h1,hb.block g h2]
 have h3:3<cs.size:=(Array.getElem?_eq_some_iff.1 h.c3).1
 refine⟨⟨⟨?_,?_,ah h.st.own fun g q=>keep g (fun e=> ?_) (h.st.own.lt g q).2,h.st.ty⟩,h.ok,?_,ah (bZ ho (Nat.zero_le _)) fun g q=>aF _ _ _ _ (by have:=(ho.lt g q).1;omega),fun g hg=>ah (h.nds g (hs g hg)) fun k q=>keep k (fun e=> ?_) ((h.nds g (hs g hg)).lt k q).2,fun g hg=>h.nlt g (hs g hg),fun g hg=>h.nl g (hs g hg)⟩,⟨hb.os,hb.tape,hb.output,by rw[cC];exact hb.size,fun k hk hr=>keep k hr hk,fun k q=> ?_⟩⟩
 ·exact au ((hb.block mb mz).trans h.st.blk) 3 (.slice po' G'.length pc')
 ·rw[Array.getElem?_setIfInBounds_ne (by omega)];exact h.st.cel
 ·exact aN h.st.own h.st.blk h.st.ty (e ▸ aD q)
 ·rw[Array.getElem?_setIfInBounds_self,if_pos h3]
 ·exact aN (h.nds g (hs g hg)) h.st.blk (by decide) (e ▸ aD q)
 ·rcases q with e | ⟨p,hp,hq⟩
  ·exact Or.inl e
  ·right
   exact(ho.lt k (by rw[hp,hq];rfl)).1
theorem sW (w:World) (mb:Nat) (cs:Array Value) (D:List Ng) (nO:Option Addr) (nC:Nat) (fr:Nat→Nat) (G:List Gl) (po:Option Addr) (pc i:Nat) (h:cG w mb cs D nO nC fr G po pc) (hl:G.length≤1000000):
 Calls Tryz.prog 139 #[.pointer (some ⟨mb,0,none⟩),.int .i64 (i:Int)] w fun e w'=>e= .returned (.int .i64 0)∧∃po' pc',cG w' mb (cs.setIfInBounds 3 (.slice po' (G.eraseIdx i).length pc')) D nO nC fr (G.eraseIdx i) po' pc'∧aj (fun k=>k=mb) (fun k=>k=mb∨rowOf po' k) w w':=by
 have f3:=(ag h.st.blk 3).trans h.c3
 have mz:=af h.st.blk
 have H:=hide h
 obtain⟨tj,hj,hy0,hy1,hy2⟩:=info_parts infoGoal
 clear h
 go_enter Tryz.func139,Tryz.ntmps139
 go_wp2_with fail
 go_loopg [5,13] G.length (fun k av iv wr=>W5 w G i k av iv wr)
 case atStart=>exact⟨0,by omega,rfl,by simpa using World.ownsRow_nil _ _ _ _,Below.refl _ _⟩
 case round=>
  obtain⟨j,hkj,rfl,how,aM⟩:=hrel
  obtain⟨oo,oc,rfl⟩:=eP how
  by_cases hlt:j<G.length
  ·obtain⟨g,hg⟩:∃g,po=some ⟨g,0,none⟩:=by
    rcases(ae H).pool.2 with⟨q,q2⟩ | ⟨g,cp,cur,q,_⟩
    ·omega
    ·simp only[Value.slice.injEq]at q
     exact⟨g,q.1⟩
   subst hg
   have gz0:=((ae H).pool.lt g rfl).2
   have fc:∀i,i<7→wr.cell? ⟨g,j*7+i,none⟩=(fG G[j])[i]?:=fun i hi=>by
    rw[aM.cell (p:=⟨g,j*7+i,none⟩) gz0,(ae H).pool.cellAt (j*7+i) (by omega)]
    exact qE hlt i hi
   have e0:=fc 0 (by omega)
   have e1:=fc 1 (by omega)
   have e2:=fc 2 (by omega)
   have e3:=fc 3 (by omega)
   have e4:=fc 4 (by omega)
   have e5:=fc 5 (by omega)
   have e6:=fc 6 (by omega)
   simp only[fG,List.getElem?_cons_zero,List.getElem?_cons_succ,Nat.add_zero]at e0 e1 e2 e3 e4 e5 e6
   have gz:g<wr.heap.size:=Nat.lt_of_lt_of_le gz0 aM.size
   have z0:w.heap.size≤wr.heap.size:=aM.size
   have i0:(0:Int)≤(j:Int):=by omega
   have i1:(j:Int)<(G.length:Int):=by omega
   have fh:=hide (K5 G i j hlt)
   have hle:((G.take j).eraseIdx i).length≤1000000:=by
    have:=List.length_eraseIdx_le (G.take j) i
    rw[List.length_take]at this
    omega
   have HOW:=hide how
   have bJ:=hide aM
   have aP:=hide hkj
   have aY:=hide hlt
   generalize (G.take j).eraseIdx i=Z at*
   generalize G[j]=gg at*
   clear how aM hkj hlt fc
   by_cases hi:j=i
   ·rw[if_pos hi,List.append_nil]at fh
    have t1:((j:Int) == (i:Int))=true:=by simp;omega
    have t2:((j:Int) != (i:Int))=false:=by simp;omega
    clear hi
    go_wp2_with fail
    go_roundg (gk - 1)
    case measure=>have:=ae aP;have:=ae aY;omega
    case rel=>exact⟨j+1,by have:=ae aP;have:=ae aY;omega,by go_num,by rw[ae fh];exact ah (ae HOW) (fun k q=>Below.heap_alloc _ _ _ ((ae HOW).lt k q).2),(ae bJ).alloc (ae bJ).size _⟩
   ·rw[if_neg hi]at fh
    have t1:((j:Int) == (i:Int))=false:=by simp;omega
    have t2:((j:Int) != (i:Int))=true:=by simp;omega
    clear hi
    go_wp2_with (first | (at_builtin;go_must (refine wpList_append_own_at _ rfl (.tmp 21) (.tmp 23) 89 rfl w.heap.size 158 tj (.agg #[.int .i64 0,.string ⟨#[]⟩,.int .i64 0,.string ⟨#[]⟩,.int .i64 0,.bool false,.slice none 0 0]) 7 88 Tryz.underlying89 hj hy0 hy1 hy2 rfl (by decide) _ Z.length (Z.flatMap fG) rfl (((ae HOW).alloc _).alloc _) ⟨wr.heap.size+1,0,none⟩ 1 1 [.int .i64 (gg.l:Int),.string gg.sg,.int .i64 gg.r,.string gg.op,.int .i64 gg.z,.bool gg.wt,.slice gg.no gg.nd.length gg.nc] rfl rfl (Fk _ _ _ _ _ (by simp) rfl) (by simp[Value.oneCell']) (by unfold maxLen;omega) (by omega) (by simp;omega) ?_);go_must (intro v' w7 hown' hgrow _ _;have mj:=hide hown';have ml:=hide ((((ae bJ).alloc (ae bJ).size _).alloc (by simp;omega) _).grown hgrow (by simp;omega) (fun k q=>by have:=((ae HOW).lt k q).1;omega));clear hown' hgrow)))
    go_roundg (gk - 1)
    case measure=>have:=ae aP;have:=ae aY;omega
    case rel=>exact⟨j+1,by have:=ae aP;have:=ae aY;omega,by go_num,by rw[ae fh];have:=ae mj;simpa [fG] using this,ae ml⟩
  ·obtain rfl:j=G.length:=by omega
   rw[List.take_length]at how
   have HR:=hide ((ae H).left aM (G':=G.eraseIdx i) (fun g hg=>List.mem_of_mem_eraseIdx hg) how)
   have f3':=(aM.cell (p:=⟨mb,3,none⟩) mz).trans f3
   have hb3:=(aM.block mb mz).trans (ae H).st.blk
   have x3:=aq hb3 3
   have mz':=af hb3
   clear how aM hkj hb3
   go_wp2_with fail
   go_ret
   rw[List.take_length]
   exact⟨rfl,_,_,ae HR⟩
theorem cG.linked {w w':World} {mb:Nat} {cs:Array Value} {D D':List Ng} {nO:Option Addr} {nC:Nat} {fr fr':Nat→Nat} {G:List Gl} {po:Option Addr} {pc:Nat} (h:cG w mb cs D nO nC fr G po pc) (hs:bt w' mb 1 cs 91 D' nO nC) (hd:cI D D') (hf:aj (rowOf nO) (rowOf nO) w w') (ho:bR D' fr'):cG w' mb cs D' nO nC fr' G po pc:=by
 have keep:∀(g:Nat) (ys:Array Value) (S:TypeId),w.heap[g]?=some (.cells ys S (0,0))→S≠180→w'.heap[g]?=w.heap[g]?:=fun g ys S hg hS=>hf.block g (af hg) (h.st.apart hg hS)
 refine⟨hs,ho,h.c3,ah h.pool fun g q=> ?_,fun g hg=>ah (h.nds g hg) fun k q=> ?_,fun g hg v hv=>by rw[hd.len];exact h.nlt g hg v hv,h.nl⟩
 ·obtain⟨cur,hc⟩:=aH h.pool (aD q)
  exact keep g _ _ hc (by decide)
 ·obtain⟨cur,hc⟩:=aH (h.nds g hg) (aD q)
  exact keep k _ _ hc (by decide)
def zD (mb:Nat) (cs:Array Value) (D:List Ng) (nO:Option Addr) (nC:Nat) (fr:Nat→Nat) (TT:Nat→Za.U) (G:List Gl) (i a b:Nat) (w:World) (e:Ending) (w':World):Prop:=
 (∃(D':List Ng) (fr':Nat→Nat) (σ:Za.Vr→Za.U) (T':Nat→Za.U) (po':Option Addr) (pc':Nat),e= .returned (.int .i64 0)∧cI D D'∧Za.Made (aV D) fr fr' TT T' (TT a) (TT b) σ∧cG w' mb (cs.setIfInBounds 3 (.slice po' (G.eraseIdx i).length pc')) D' nO nC fr' (G.eraseIdx i) po' pc'∧aj (fun k=>rowOf nO k∨k=mb) (fun k=>rowOf nO k∨k=mb∨rowOf po' k) w w')∨
 ((∀θ,Za.sub θ (TT a)≠Za.sub θ (TT b))∧e= .returned (.int .i64 (-2))∧w'.heap[mb]?=some (.cells (cs.setIfInBounds 5 (.int .i64 4)) 91 (0,0))∧aj (fun k=>rowOf nO k∨k=mb) (fun k=>rowOf nO k∨k=mb) w w')
theorem xu (w:World) (mb:Nat) (cs:Array Value) (D:List Ng) (nO:Option Addr) (nC:Nat) (fr:Nat→Nat) (TT:Nat→Za.U) (P:Nat→Prop) (G:List Gl) (po:Option Addr) (pc i a b:Nat) (h:cG w mb cs D nO nC fr G po pc) (har:aW w D P) (fu:Za.dw (aV D) fr TT) (ha:a<D.length) (hb:b<D.length) (hD:D.length≤1000000000) (hG:G.length≤1000000) (hc:5<cs.size):
 Calls Tryz.prog 137 #[.pointer (some ⟨mb,0,none⟩),.int .i64 (i:Int),.int .i64 (a:Int),.int .i64 (b:Int)] w fun e w'=>zD mb cs D nO nC fr TT G i a b w e w':=by
 have IU:=hide ((Oi w mb 1 cs 91 D nO nC P fr a b h.st h.ok har ha hb hD).mono fun e w' q=>q.says fu)
 have mz:=af h.st.blk
 have H:=hide h
 clear h har fu ha hb hD
 go_enter Tryz.func137,Tryz.ntmps137
 go_wp2_with fail
 refine(ae IU).mono ?_
 rintro e w2 ⟨r,D',rfl,st2,sm2,fr2,yes,no⟩
 have mz2:=af st2.blk
 have HF:=hide ((fr2.wide (fun k=>k=mb)))
 cases r with
 | true=>
  obtain⟨fr',σ,T',ok2,md⟩:=yes rfl
  have IL:=hide (sW w2 mb cs D' nO nC fr' G po pc i ((ae H).linked st2 sm2 fr2 ok2) hG)
  have W6:=hide md
  have iV:=hide sm2
  clear st2 sm2 fr2 yes no ok2 md IU
  go_wp2_with fail
  refine(ae IL).mono ?_
  rintro e w3 ⟨rfl,po',pc',m3,fr3⟩
  have QA:=hide m3
  have uP:=hide fr3
  clear m3 fr3 IL
  go_wp2_with fail
  go_ret
  refine Or.inl ⟨D',fr',σ,T',po',pc',rfl,ae iV,ae W6,ae QA,(ae HF).trans ((ae uP).Tc (rowOf nO))⟩
 | false=>
  have IL:=hide (vN w2 mb cs 4 st2.blk hc)
  have gF:=hide (no rfl)
  have HR:=hide (au st2.blk 5 (.int .i64 4))
  clear st2 sm2 fr2 yes no IU
  go_wp2_with fail
  refine(ae IL).mono ?_
  rintro e w3 ⟨rfl,rfl⟩
  go_wp2_with fail
  go_ret
  refine Or.inr ⟨ae gF,rfl,ae HR,(ae HF).trans ⟨rfl,rfl,rfl,by rw[cC];exact Nat.le_refl _,fun k _ hr=>aF _ _ _ _ (fun e=>hr (Or.inr e)),fun _ q=>Or.inl q⟩⟩
theorem vO (w:World) (sb so:Nat) (cs:Array Value) (T:TypeId) (D:List Ng) (no:Option Addr) (nc:Nat) (h:bt w sb so cs T D no nc):
 Calls Tryz.prog 159 #[.pointer (some ⟨sb,so,none⟩),.int .i64 (-1)] w fun e w'=>e= .returned (.bool false)∧w'=w:=by
 have s0:=h.cell
 have sz:=af h.blk
 clear h
 go_enter Tryz.func159,Tryz.ntmps159
 go_wp2_with fail
 go_ret
 exact⟨rfl,rfl⟩
theorem xw (w:World) (sb so:Nat) (cs:Array Value) (T:TypeId) (D:List Ng) (no:Option Addr) (nc:Nat) (h:bt w sb so cs T D no nc):
 Calls Tryz.prog 100 #[.pointer (some ⟨sb,so,none⟩),.int .i64 (-1)] w fun e w'=>e= .returned (.int .i64 (-1))∧w'=w:=by
 have HH:=hide (vO w sb so cs T D no nc h)
 clear h
 go_enter Tryz.func100,Tryz.ntmps100
 go_wp2_with fail
 refine wp_loop_rounds 1 ?_
 rw[rounds_succ]
 go_wp2_with fail
 refine(ae HH).mono ?_
 rintro e w2 ⟨rfl,rfl⟩
 go_wp2_with fail
 go_ret
 exact⟨rfl,rfl⟩
theorem xA (w:World) (sb so:Nat) (cs:Array Value) (T:TypeId) (D:List Ng) (no:Option Addr) (nc:Nat) (h:bt w sb so cs T D no nc):
 Calls Tryz.prog 99 #[.pointer (some ⟨sb,so,none⟩),.int .i64 (-1)] w fun e w'=>e= .returned (.agg #[.int .i64 0,.int .i64 0,.string ⟨#[]⟩,.int .i64 0])∧Below w.heap.size w w':=by
 have hb:=(Below.refl w.heap.size w).alloc (Nat.le_refl _) (.cells #[.int .i64 0,.int .i64 0,.string ⟨#[]⟩,.int .i64 0] 177)
 have HF:=hide (xw _ sb so cs T D no nc (h.below hb))
 have HH:=hide (vO _ sb so cs T D no nc (h.below hb))
 have HB:=hide hb
 clear h hb
 go_enter Tryz.func99,Tryz.ntmps99
 go_wp2_with fail
 refine(ae HF).mono ?_
 rintro e w2 ⟨rfl,rfl⟩
 go_wp2_with fail
 refine(ae HH).mono ?_
 rintro e w2 ⟨rfl,rfl⟩
 go_wp2_with fail
 refine bodyPost_ret (v:= .agg #[.int .i64 0,.int .i64 0,.string ⟨#[]⟩,.int .i64 0]) (by simp[results,Tryz.results99,go_sem]) rfl ?_
 exact⟨rfl,ae HB⟩
theorem zE (w:World) (sb so:Nat) (cs:Array Value) (T:TypeId) (D:List Ng) (no:Option Addr) (nc:Nat) (h:bt w sb so cs T D no nc):
 Calls Tryz.prog 98 #[.pointer (some ⟨sb,so,none⟩),.int .i64 (-1)] w fun e w'=>e= .returned (.slice none 0 0)∧w'=w:=by
 have HF:=hide (xw w sb so cs T D no nc h)
 have HH:=hide (vO w sb so cs T D no nc h)
 clear h
 go_enter Tryz.func98,Tryz.ntmps98
 go_wp2_with fail
 refine(ae HF).mono ?_
 rintro e w2 ⟨rfl,rfl⟩
 go_wp2_with fail
 refine(ae HH).mono ?_
 rintro e w2 ⟨rfl,rfl⟩
 go_wp2_with fail
 go_ret
 exact⟨rfl,rfl⟩
theorem I3 (w:World) (sb so:Nat) (cs:Array Value) (T:TypeId) (D:List Ng) (no:Option Addr) (nc:Nat) (h:bt w sb so cs T D no nc):
 Calls Tryz.prog 56 #[.pointer (some ⟨sb,so,none⟩),.int .i64 (-1),.int .i64 40] w fun e w'=>e= .returned (.int .i64 1)∧w'=w:=by
 have HA:=hide (zE w sb so cs T D no nc h)
 clear h
 go_enter Tryz.func56,Tryz.ntmps56
 go_wp2_with fail
 refine(ae HA).mono ?_
 rintro e w2 ⟨rfl,rfl⟩
 go_wp2_with fail
 refine wp_loop_rounds 1 ?_
 rw[rounds_succ]
 go_wp2_with fail
 go_ret
 exact⟨rfl,rfl⟩
theorem Fx (w:World) (lb sb so:Nat) (cs:Array Value) (T:TypeId) (D:List Ng) (no:Option Addr) (nc:Nat) (R:Nat→Prop) (S:List Int) (W:List Nat) (nb:Bool) (hs:bt w sb so cs T D no nc) (h:cT w lb S W nb R):
 Calls Tryz.prog 162 #[.pointer (some ⟨lb,0,none⟩),.pointer (some ⟨sb,so,none⟩),.int .i64 (-1)] w fun e w'=>e= .returned (.tuple #[])∧cT w' lb S W nb R∧aj R R w w':=by
 have HL:=hide (xA w sb so cs T D no nc hs)
 have H:=hide h
 clear hs h
 go_enter Tryz.func162,Tryz.ntmps162
 go_wp2_with fail
 refine(ae HL).mono ?_
 rintro e w2 ⟨rfl,hb2⟩
 have aX:=hide hb2
 have z2:=hb2.size
 clear hb2
 go_wp2_with fail
 go_end0
 exact⟨rfl,(ae H).below ((ae aX).alloc z2 _),aj.of_below ((ae aX).alloc z2 _)⟩
def o5 (len:Nat) (x:Int):Prop:=x= -1∨∃n:Nat,x=(n:Int)∧n<len
def kN (w:World) (o:Option Addr) (xs:List Int):Prop:=xs≠[]→∃g,o=some ⟨g,0,none⟩∧g<w.heap.size∧∀i (h:i<xs.length),w.cell? ⟨g,i,none⟩=some (.int .i64 xs[i])
theorem kN.lU {w:World} {o:Option Addr} {xs:List Int} {c b:Nat} (h:w.ownsRow b 3 1 (.slice o xs.length c) xs.length (xs.map fO)):kN w o xs:=fun hne=>by
 have hp:0<xs.length:=List.length_pos_iff.2 hne
 rcases h.2 with⟨q,q2⟩ | ⟨g,cp,cur,q,_⟩
 ·omega
 ·simp only[Value.slice.injEq]at q
  obtain⟨rfl,_⟩:=q
  refine⟨g,rfl,(h.lt g rfl).2,fun i hi=> ?_⟩
  rw[h.cellAt i (by omega),List.getElem?_map,List.getElem?_eq_getElem hi]
  rfl
theorem kN.below {w w':World} {o:Option Addr} {xs:List Int} (h:kN w o xs) (hb:Below w.heap.size w w'):kN w' o xs:=fun hne=>by
 obtain⟨g,h1,h2,h3⟩:=h hne
 exact⟨g,h1,Nat.lt_of_lt_of_le h2 hb.size,fun i hi=>(hb.cell (p:=⟨g,i,none⟩) h2).trans (h3 i hi)⟩
theorem kN.Oz {w:World} {D:List Ng} {P:Nat→Prop} (h:aW w D P) {d:Ng} (hd:d∈D):kN w d.ao (d.args.map fun n:Nat=>(n:Int)):=fun hne=>by
 obtain⟨g,h1,h2,h3⟩:=h.at hd (fun q=>hne (by rw[q];rfl))
 exact⟨g,h1,h2,fun i hi=>by rw[h3 i (by simpa using hi)];simp⟩
def fR (TT:Nat→Za.U) (x:Int):Bool:=decide (x≠-1∧40<Za.size (TT x.toNat))
theorem K6 (TT:Nat→Za.U):fR TT (-1)=false:=by simp[fR]
theorem K7 (TT:Nat→Za.U) (n:Nat):fR TT (n:Int)=decide (40<min (Za.size (TT n)) 41):=by
 unfold fR
 rw[Int.toNat_natCast]
 congr 1
 apply propext
 omega
theorem sX (w:World) (mb:Nat) (cs:Array Value) (Ty:TypeId) (D:List Ng) (nO:Option Addr) (nC:Nat) (fr:Nat→Nat) (TT:Nat→Za.U) (P:Nat→Prop) (xs:List Int) (xo:Option Addr) (xc:Nat) (hs:bt w mb 1 cs Ty D nO nC) (hok:bR D fr) (har:aW w D P) (htr:∀n,n<D.length→Za.Tr (aV D) fr n (TT n)) (hx:kN w xo xs) (hn:∀x∈xs,o5 D.length x) (hl:xs.length≤1000000000):
 Calls Tryz.prog 141 #[.pointer (some ⟨mb,0,none⟩),.slice xo xs.length xc] w fun e w'=>e= .returned (.bool (xs.any (fR TT)))∧w'=w:=by
 have HX:=hide hx
 have HN:=hide hn
 have ISZ:=hide (show∀x∈xs,Calls Tryz.prog 56 #[.pointer (some ⟨mb,1,none⟩),.int .i64 x,.int .i64 40] w fun e w'=>∃s:Nat,e= .returned (.int .i64 (s:Int))∧decide (40<s)=fR TT x∧s≤41∧w'=w from fun x Ee=>by
  rcases hn x Ee with rfl | ⟨n,rfl,lT⟩
  ·exact(I3 w mb 1 cs Ty D nO nC hs).mono fun e w' q=>⟨1,q.1,by rw[K6];rfl,by omega,q.2⟩
  ·exact(size_all _ w mb 1 cs Ty D nO nC P fr n (TT n) 40 hs hok har lT (htr n lT) (Nat.le_refl _) (by omega)).mono fun e w' q=>⟨_,q.1,(K7 TT n).symm,by omega,q.2⟩)
 clear hs hok har htr hx hn
 go_enter Tryz.func141,Tryz.ntmps141
 go_wp2_with fail
 go_loopg [9] xs.length (fun k iv wr=>∃j:Nat,k+j=xs.length∧iv= .int .i64 (j:Int)∧wr=w∧(xs.take j).any (fR TT)=false)
 case atStart=>exact⟨0,by omega,rfl,rfl,by simp⟩
 case round=>
  obtain⟨j,hkj,rfl,rfl,hno⟩:=hrel
  by_cases hlt:j<xs.length
  ·obtain⟨g,hg,gz,Uh⟩:=ae HX (fun q=>by rw[q]at hlt;simp at hlt)
   subst hg
   have f0:wr.cell? ⟨g,j,none⟩=some (.int .i64 xs[j]):=Uh j hlt
   clear Uh
   have i0:(0:Int)≤(j:Int):=by omega
   have i1:(j:Int)<(xs.length:Int):=by omega
   have IC:=hide (ae ISZ xs[j] (List.getElem_mem hlt))
   have hst:xs.take (j+1)=xs.take j++[xs[j]]:=by rw[List.take_add_one,List.getElem?_eq_getElem hlt];rfl
   have hmem:xs[j]∈xs:=List.getElem_mem hlt
   have aY:=hide hlt
   have aP:=hide hkj
   generalize xs[j]=x at*
   have HST:=hide hst
   have gF:=hide hno
   have Fy:=hide hmem
   clear hno hkj hst hmem hlt
   go_wp2_with fail
   refine(ae IC).mono ?_
   rintro e w5 ⟨s,rfl,hbs,h41,rfl⟩
   by_cases hb:40<s
   ·have t1:decide ((40:Int)<(s:Int))=true:=by simp;omega
    have HY:=hide (show xs.any (fR TT)=true from List.any_eq_true.2 ⟨x,ae Fy,by rw[←hbs];simpa using hb⟩)
    clear hb hbs
    go_wp2_with fail
    go_ret
    exact⟨by rw[ae HY];rfl,rfl⟩
   ·have t1:decide ((40:Int)<(s:Int))=false:=by simp;omega
    have HY:=hide (show (xs.take (j+1)).any (fR TT)=false by rw[ae HST,List.any_append,ae gF];simp[←hbs];omega)
    clear hb hbs
    go_wp2_with fail
    go_roundg (gk - 1)
    case measure=>have:=ae aP;have:=ae aY;omega
    case rel=>exact⟨j+1,by have:=ae aP;have:=ae aY;omega,by go_num,rfl,ae HY⟩
  ·have gF:=hide (show xs.any (fR TT)=false by rwa [List.take_of_length_le (by omega)]at hno)
   clear hno
   obtain rfl:j=xs.length:=by omega
   go_wp2_with fail
   go_ret
   exact⟨by rw[ae gF];rfl,rfl⟩
def gj (fr:Nat→Nat) (G:List Gl):Int:=if G=[]then 1 else if b9 fr G G.length=[]then 2 else 3
theorem xB (w:World) (mb:Nat) (cs:Array Value) (Ty:TypeId) (k:Int) (h:w.heap[mb]?=some (.cells cs Ty (0,0))) (h5:cs[5]?=some (.int .i64 k)) (hk:k≠0):
 Calls Tryz.prog 46 #[.pointer (some ⟨mb,0,none⟩)] w fun e w'=>e= .returned (.tuple #[])∧w'=w:=by
 have c5:=(ag h 5).trans h5
 have mz:=af h
 have t1:(k == 0)=false:=by simpa using hk
 have t2:(k != 0)=true:=by simpa using hk
 clear h h5 hk
 go_enter Tryz.func46,Tryz.ntmps46
 go_wp2_with fail
 first | (go_end0;exact⟨rfl,rfl⟩) | (go_ret;exact⟨rfl,rfl⟩) | (refine bodyPost_ret (v:= .tuple #[]) (by simp[results,Tryz.results46,go_sem]) rfl ?_;exact⟨rfl,rfl⟩)
theorem zF (w:World) (mb:Nat) (cs:Array Value) (D:List Ng) (nO:Option Addr) (nC:Nat) (fr:Nat→Nat) (G:List Gl) (po:Option Addr) (pc:Nat) (h:cG w mb cs D nO nC fr G po pc) (hl:G.length≤1000000) (h5:cs[5]?=some (.int .i64 0)):
 Calls Tryz.prog 46 #[.pointer (some ⟨mb,0,none⟩)] w fun e w'=>e= .returned (.tuple #[])∧∃W,Below w.heap.size w W∧w'=W.setCell ⟨mb,5,none⟩ (.int .i64 (gj fr G)):=by
 have c5:=(ag h.st.blk 5).trans h5
 have mz:=af h.st.blk
 have IR:=hide (zC w mb cs D nO nC fr G po pc h hl)
 have H:=hide h
 clear h
 go_enter Tryz.func46,Tryz.ntmps46
 go_wp2_with fail
 refine(ae IR).mono ?_
 rintro e w2 ⟨oo,oc,rfl,-,hb2⟩
 have h2:=(ae H).below hb2
 have d3:=(ag h2.st.blk 3).trans h2.c3
 have d5:=(ag h2.st.blk 5).trans h5
 have x5:=aq h2.st.blk 5
 have mz2:=af h2.st.blk
 have HB:=hide hb2
 have BX:=hide (show gj fr G=if G=[]then 1 else if b9 fr G G.length=[]then 2 else 3 from rfl)
 generalize b9 fr G G.length=Z at*
 clear h2 hb2 IR H c5 h5
 cases G with
 | nil=>
  rw[if_pos rfl]at BX
  go_wp2_with fail
  go_end0
  exact⟨rfl,w2,ae HB,by rw[ae BX]⟩
 | cons g G=>
  rw[if_neg (by simp)]at BX
  have t1:(((G.length+1:Nat):Int) == 0)=false:=by simp;omega
  have t1':(((G.length:Nat):Int)+1 == 0)=false:=by simp;omega
  cases Z with
  | nil=>
   rw[if_pos rfl]at BX
   go_wp2_with fail
   go_end0
   exact⟨rfl,w2,ae HB,by rw[ae BX]⟩
  | cons z Z=>
   rw[if_neg (by simp)]at BX
   have t2:(((Z.length+1:Nat):Int) == 0)=false:=by simp;omega
   have t2':(((Z.length:Nat):Int)+1 == 0)=false:=by simp;omega
   go_wp2_with fail
   go_end0
   exact⟨rfl,w2,ae HB,by rw[ae BX]⟩
theorem Fz (w:World) (mb:Nat) (cs:Array Value) (Ty:TypeId) (D:List Ng) (nO:Option Addr) (nC:Nat) (fr:Nat→Nat) (P:Nat→Prop) (g:Gl) (d:Ng) (hs:bt w mb 1 cs Ty D nO nC) (hok:bR D fr) (har:aW w D P) (hn:g.l<D.length) (hd:D[fr g.l]?=some d) (aU:g.sg.toList=[]):
 Calls Tryz.prog 142 #[.pointer (some ⟨mb,0,none⟩),.agg #[.int .i64 (g.l:Int),.string g.sg,.int .i64 g.r,.string g.op,.int .i64 g.z,.bool g.wt,.slice g.no g.nd.length g.nc]] w fun e w'=>e= .returned (.slice d.ao d.args.length d.cap)∧kN w' d.ao (d.args.map fun n:Nat=>(n:Int))∧Below w.heap.size w w':=by
 obtain⟨l,sg,r,op,z,wt,no,nc,nd⟩:=g
 dsimp only at*
 obtain⟨k,hk⟩:=hok.hop l hn
 have hmem:d∈D:=List.mem_of_getElem? hd
 have hb0:=(Below.refl w.heap.size w).alloc (Nat.le_refl _) (.cells #[.int .i64 (l:Int),.string sg,.int .i64 r,.string op,.int .i64 z,.bool wt,.slice no nd.length nc] 158)
 have HA:=hide (fun W (hb:Below w.heap.size w W)=>lJ W mb 1 cs Ty D nO nC l (fr l) k d (hs.below hb) hk hd)
 have HR:=hide (fun W (hb:Below w.heap.size w W)=>(kN.Oz har hmem).below hb)
 have mz:=af hs.blk
 have aT:=hide hb0
 have t1:(sg.toList == [])=true:=by rw[aU];rfl
 clear hs hok har hn hd hk hmem hb0 aU
 go_enter Tryz.func142,Tryz.ntmps142
 go_wp2_with fail
 go_region_with (go_at_call 98;refine(ae HA _ (by first | exact ae aT | exact(ae aT).drew | exact(ae aT).drew.drew | exact(ae aT).drew.drew.drew | exact(ae aT).drew.drew.drew.drew)).mono ?_;rintro e w5 ⟨rfl,rfl⟩)
 all_goals
  go_wp2_with fail
  go_ret
  first
   | exact⟨rfl,ae HR _ (ae aT),ae aT⟩
   | exact⟨rfl,ae HR _ (ae aT).drew,(ae aT).drew⟩
   | exact⟨rfl,ae HR _ (ae aT).drew.drew,(ae aT).drew.drew⟩
   | exact⟨rfl,ae HR _ (ae aT).drew.drew.drew,(ae aT).drew.drew.drew⟩
theorem FC (w:World) (mb:Nat) (g:Gl) (aU:g.sg.toList≠[]):
 Calls Tryz.prog 142 #[.pointer (some ⟨mb,0,none⟩),.agg #[.int .i64 (g.l:Int),.string g.sg,.int .i64 g.r,.string g.op,.int .i64 g.z,.bool g.wt,.slice g.no g.nd.length g.nc]] w fun e w'=>∃o c,e= .returned (.slice o 3 c)∧kN w' o [(g.l:Int),g.r,g.z]∧Below w.heap.size w w':=by
 obtain⟨l,sg,r,op,z,wt,no,nc,nd⟩:=g
 dsimp only at*
 have t1:(sg.toList == [])=false:=by simpa using aU
 clear aU
 go_enter Tryz.func142,Tryz.ntmps142
 go_wp2_with fail
 go_ret
 refine⟨_,_,rfl,fun _=>⟨w.heap.size+1,rfl,by simp,fun i hi=> ?_⟩,((Below.refl _ _).alloc (Nat.le_refl _) _).alloc (by simp) _⟩
 match i,hi with
 | 0,_=>simp
 | 1,_=>simp
 | 2,_=>simp
def iC (D:List Ng) (fr:Nat→Nat) (g:Gl):List Int:=if g.sg.toList=[]then((D[fr g.l]?).elim [] fun d=>d.args.map fun n:Nat=>(n:Int))else [(g.l:Int),g.r,g.z]
def W7 (D:List Ng) (fr:Nat→Nat) (g:Gl) (w:World) (e:Ending) (w':World):Prop:=∃o c,e= .returned (.slice o (iC D fr g).length c)∧kN w' o (iC D fr g)∧Below w.heap.size w w'
theorem I4 (w:World) (mb:Nat) (cs:Array Value) (Ty:TypeId) (D:List Ng) (nO:Option Addr) (nC:Nat) (fr:Nat→Nat) (P:Nat→Prop) (g:Gl) (hs:bt w mb 1 cs Ty D nO nC) (hok:bR D fr) (har:aW w D P) (hn:g.l<D.length):
 Calls Tryz.prog 142 #[.pointer (some ⟨mb,0,none⟩),.agg #[.int .i64 (g.l:Int),.string g.sg,.int .i64 g.r,.string g.op,.int .i64 g.z,.bool g.wt,.slice g.no g.nd.length g.nc]] w fun e w'=>W7 D fr g w e w':=by
 have hf:=hok.lt hn
 by_cases h:g.sg.toList=[]
 ·refine(Fz w mb cs Ty D nO nC fr P g D[fr g.l] hs hok har hn (List.getElem?_eq_getElem hf) h).mono ?_
  rintro e w' ⟨h1,h2,h3⟩
  have e:iC D fr g=D[fr g.l].args.map fun n:Nat=>(n:Int):=by unfold iC;rw[if_pos h,List.getElem?_eq_getElem hf];rfl
  exact⟨_,_,by rw[e,List.length_map];exact h1,by rw[e];exact h2,h3⟩
 ·refine(FC w mb g h).mono ?_
  rintro e w' ⟨o,c,h1,h2,h3⟩
  have e:iC D fr g=[(g.l:Int),g.r,g.z]:=by unfold iC;rw[if_neg h]
  exact⟨o,c,by rw[e];exact h1,by rw[e];exact h2,h3⟩
def je (D:List Ng) (fr:Nat→Nat) (TT:Nat→Za.U) (g:Gl):Bool:=(iC D fr g).any (fR TT)
def W8 (w:World) (D:List Ng) (fr:Nat→Nat) (TT:Nat→Za.U) (G:List Gl) (k:Nat) (iv:Value) (wr:World):Prop:=
 ∃j:Nat,k+j=G.length∧iv= .int .i64 (j:Int)∧Below w.heap.size w wr∧(G.take j).any (je D fr TT)=false
theorem FD (w:World) (mb:Nat) (cs:Array Value) (D:List Ng) (nO:Option Addr) (nC:Nat) (fr:Nat→Nat) (TT:Nat→Za.U) (P:Nat→Prop) (G:List Gl) (po:Option Addr) (pc:Nat) (vs:List Int) (vo:Option Addr) (vc:Nat) (h:cG w mb cs D nO nC fr G po pc) (har:aW w D P) (htr:∀n,n<D.length→Za.Tr (aV D) fr n (TT n)) (hc2:cs[2]?=some (.slice vo vs.length vc)) (hv:kN w vo vs) (Ui:∀x∈vs,o5 D.length x) (hvl:vs.length≤1000000000) (sY:∀g∈G,g.l<D.length∧(∀x∈iC D fr g,o5 D.length x)∧(iC D fr g).length≤1000000000) (hl:G.length≤24):
 Calls Tryz.prog 85 #[.pointer (some ⟨mb,0,none⟩)] w fun e w'=>e= .returned (.bool (vs.any (fR TT)||G.any (je D fr TT)))∧Below w.heap.size w w':=by
 have f3:=(ag h.st.blk 3).trans h.c3
 have f2:=(ag h.st.blk 2).trans hc2
 have mz:=af h.st.blk
 have t1:decide ((24:Int)<(G.length:Int))=false:=by simp;omega
 have IV:=hide (sX w mb cs _ D nO nC fr TT P vs vo vc h.st h.ok har htr hv Ui hvl)
 have IP:=hide (fun W (hb:Below w.heap.size w W) (g:Gl) (hg:g∈G)=>I4 W mb cs _ D nO nC fr P g ((h.below hb).st) h.ok (har.below hb) (sY g hg).1)
 have IH:=hide (fun W (hb:Below w.heap.size w W) (g:Gl) (hg:g∈G) (o:Option Addr) (c:Nat) (hx:kN W o (iC D fr g))=>sX W mb cs _ D nO nC fr TT P (iC D fr g) o c ((h.below hb).st) h.ok (har.below hb) htr hx (sY g hg).2.1 (sY g hg).2.2)
 have H:=hide h
 clear h har htr hc2 hv Ui hvl sY
 have hq:vs.any (fR TT)=true∨vs.any (fR TT)=false:=by cases vs.any (fR TT)<;>simp
 have HQ:=hide hq
 clear hq
 rcases ae HQ with hq | hq
 ·rw[hq]at IV
  have HR:=hide (show (vs.any (fR TT)||G.any (je D fr TT))=true by rw[hq];rfl)
  clear hq HQ
  go_enter Tryz.func85,Tryz.ntmps85
  go_wp2_with fail
  refine(ae IV).mono ?_
  rintro e w2 ⟨rfl,rfl⟩
  go_wp2_with fail
  go_ret
  exact⟨by rw[ae HR];rfl,Below.refl _ _⟩
 ·rw[hq]at IV
  have HR:=hide (show (vs.any (fR TT)||G.any (je D fr TT))=G.any (je D fr TT)by rw[hq];rfl)
  clear hq HQ
  go_enter Tryz.func85,Tryz.ntmps85
  go_wp2_with fail
  refine(ae IV).mono ?_
  rintro e w2 ⟨rfl,rfl⟩
  go_wp2_with fail
  go_loopg [25] G.length (fun k iv wr=>W8 w2 D fr TT G k iv wr)
  case atStart=>exact⟨0,by omega,rfl,Below.refl _ _,by simp⟩
  case round=>
   obtain⟨j,hkj,rfl,aM,hno⟩:=hrel
   by_cases hlt:j<G.length
   ·obtain⟨g,hg⟩:∃g,po=some ⟨g,0,none⟩:=by
     rcases(ae H).pool.2 with⟨q,q2⟩ | ⟨g,cp,cur,q,_⟩
     ·omega
     ·simp only[Value.slice.injEq]at q
      exact⟨g,q.1⟩
    subst hg
    have gz0:=((ae H).pool.lt g rfl).2
    have fc:∀i,i<7→wr.cell? ⟨g,j*7+i,none⟩=(fG G[j])[i]?:=fun i hi=>by
     rw[aM.cell (p:=⟨g,j*7+i,none⟩) gz0,(ae H).pool.cellAt (j*7+i) (by omega)]
     exact qE hlt i hi
    have e0:=fc 0 (by omega)
    have e1:=fc 1 (by omega)
    have e2:=fc 2 (by omega)
    have e3:=fc 3 (by omega)
    have e4:=fc 4 (by omega)
    have e5:=fc 5 (by omega)
    have e6:=fc 6 (by omega)
    simp only[fG,List.getElem?_cons_zero,List.getElem?_cons_succ,Nat.add_zero]at e0 e1 e2 e3 e4 e5 e6
    have gz:g<wr.heap.size:=Nat.lt_of_lt_of_le gz0 aM.size
    have i0:(0:Int)≤(j:Int):=by omega
    have i1:(j:Int)<(G.length:Int):=by omega
    have hmem:G[j]∈G:=List.getElem_mem hlt
    have hst:G.take (j+1)=G.take j++[G[j]]:=by rw[List.take_add_one,List.getElem?_eq_getElem hlt];rfl
    have hW:=aM.alloc aM.size (.cells #[.int .i64 (G[j].l:Int),.string G[j].sg,.int .i64 G[j].r,.string G[j].op,.int .i64 G[j].z,.bool G[j].wt,.slice G[j].no G[j].nd.length G[j].nc] 158)
    have IPj:=hide (ae IP _ hW G[j] hmem)
    have HW:=hide hW
    have HST:=hide hst
    have gF:=hide hno
    have Fy:=hide hmem
    have aP:=hide hkj
    have aY:=hide hlt
    generalize G[j]=gg at*
    clear hno aM hkj hlt fc hst hmem hW
    go_wp2_with fail
    refine(ae IPj).mono ?_
    rintro e w5 ⟨o,c,rfl,hx,bu⟩
    have gA:=(ae HW).trans (bu.mono (ae HW).size)
    have IHj:=hide (ae IH w5 gA gg (ae Fy) o c hx)
    have iA:=hide gA
    have hbb:je D fr TT gg=true∨je D fr TT gg=false:=by cases je D fr TT gg<;>simp
    have nV:=hide hbb
    clear hx bu gA hbb
    change Hid (Calls _ _ _ _ fun e w'=>e= .returned (.bool (je D fr TT gg))∧w'=w5)at IHj
    generalize (iC D fr gg).length=pl at*
    rcases ae nV with hb | hb
    ·rw[hb]at IHj
     have HY:=hide (show G.any (je D fr TT)=true from List.any_eq_true.2 ⟨gg,ae Fy,hb⟩)
     clear hb nV
     go_wp2_with fail
     refine(ae IHj).mono ?_
     rintro e w6 ⟨rfl,rfl⟩
     go_wp2_with fail
     go_ret
     exact⟨by rw[ae HR,ae HY];rfl,ae iA⟩
    ·rw[hb]at IHj
     have HY:=hide (show (G.take (j+1)).any (je D fr TT)=false by rw[ae HST,List.any_append,ae gF];simp[hb])
     clear hb nV
     go_wp2_with fail
     refine(ae IHj).mono ?_
     rintro e w6 ⟨rfl,rfl⟩
     go_wp2_with fail
     go_roundg (gk - 1)
     case measure=>have:=ae aP;have:=ae aY;omega
     case rel=>exact⟨j+1,by have:=ae aP;have:=ae aY;omega,by go_num,ae iA,ae HY⟩
   ·have gF:=hide (show G.any (je D fr TT)=false by rwa [List.take_of_length_le (by omega)]at hno)
    have bJ:=hide aM
    clear hno aM
    obtain rfl:j=G.length:=by omega
    go_wp2_with fail
    go_ret
    exact⟨by rw[ae HR,ae gF];rfl,ae bJ⟩
theorem BZ (w:World) (mb:Nat) (cs:Array Value) (D:List Ng) (nO:Option Addr) (nC:Nat) (fr:Nat→Nat) (G:List Gl) (po:Option Addr) (pc:Nat) (h:cG w mb cs D nO nC fr G po pc) (hl:24<G.length):
 Calls Tryz.prog 85 #[.pointer (some ⟨mb,0,none⟩)] w fun e w'=>e= .returned (.bool true)∧w'=w:=by
 have f3:=(ag h.st.blk 3).trans h.c3
 have mz:=af h.st.blk
 have t1:decide ((24:Int)<(G.length:Int))=true:=by simp;omega
 clear h
 go_enter Tryz.func85,Tryz.ntmps85
 go_wp2_with fail
 go_ret
 exact⟨rfl,rfl⟩
theorem I5 (w:World) (sb so nb:Nat) (cs:Array Value) (T:TypeId) (D:List Ng) (no:Option Addr) (nc:Nat) (h:bt w sb so cs T D no nc):
 Calls Tryz.prog 57 #[.pointer (some ⟨sb,so,none⟩),.int .i64 (-1),.pointer (some ⟨nb,0,none⟩)] w fun e w'=>e= .returned (.agg #[.int .i64 0,.int .i64 0,.string ⟨#[]⟩,.slice none 0 0])∧Below w.heap.size w w':=by
 have HL:=hide (fun W (hb:Below w.heap.size w W)=>xA W sb so cs T D no nc (h.below hb))
 have HA:=hide (fun W (hb:Below w.heap.size w W)=>zE W sb so cs T D no nc (h.below hb))
 have hb0:=(Below.refl w.heap.size w).alloc (Nat.le_refl _) (.cells #[.int .i64 0,.int .i64 0,.string ⟨#[]⟩,.slice none 0 0] 76)
 have jL:=hide (heap_alloc_new w (.cells #[.int .i64 0,.int .i64 0,.string ⟨#[]⟩,.slice none 0 0] 76))
 have aT:=hide hb0
 clear h hb0
 go_enter Tryz.func57,Tryz.ntmps57
 go_wp2_with fail
 refine(ae HL _ (ae aT)).mono ?_
 rintro e w1 ⟨rfl,hb1⟩
 have hr1:=(hb1.block w.heap.size (by simp)).trans (ae jL)
 have d0:=ag hr1
 have x0:=aq hr1
 have dz:=af hr1
 have hb2:=(ae aT).trans (hb1.mono (ae aT).size)
 have aX:=hide hb2
 have z2:=hb2.size
 clear hb1 hr1 hb2
 go_wp2_with fail
 refine(ae HA _ (((ae aX).alloc z2 _).alloc (by simp;omega) _)).mono ?_
 rintro e w3 ⟨rfl,rfl⟩
 go_wp2_with fail
 refine wp_loop_rounds 1 ?_
 rw[rounds_succ]
 go_wp2_with fail
 refine bodyPost_ret (v:= .agg #[.int .i64 0,.int .i64 0,.string ⟨#[]⟩,.slice none 0 0]) (by simp[results,Tryz.results57,go_sem,d0,dz,World.cell?_alloc_past]) rfl ?_
 exact⟨rfl,((((((ae aX).setCell (Nat.le_refl _) _).setCell (Nat.le_refl _) _).setCell (Nat.le_refl _) _).setCell (Nat.le_refl _) _).alloc (by simp only[cC];exact z2) _).alloc (by simp only[World.size_alloc,cC];omega) _⟩
end Go.Proofs.YthfjnfcekeknlaaGreatDoor
