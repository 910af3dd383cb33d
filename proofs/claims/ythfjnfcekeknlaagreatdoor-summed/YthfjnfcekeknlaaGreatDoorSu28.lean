import Derived.Test.YthfjnfcekeknlaaGreatDoorSu24
import Derived.Test.YthfjnfcekeknlaaGreatDoorSu27
import Derived.Deep.LoopGhost
set_option maxHeartbeats 8000000
set_option maxRecDepth 100000
namespace Go.Proofs.YthfjnfcekeknlaaGreatDoor
open Go.RowKit
theorem gN.KV {P:Nat→Prop} {W:World} {rb sb so:Nat} {cs:Array Value} {T S0:TypeId} {cb:Nat} {D:List Ng} {V:List Nat} {no':Option Addr} {nc:Nat} {vo:Option Addr} {vc:Nat} {fr:Nat→Nat} {TT:Nat→Za.U} {ys:Array Value} (h:gN P W sb so cs T cb D V no' nc vo vc fr TT) (hr:W.heap[rb]?=some (.cells ys S0 (0,0))) (h1:S0≠T) (h2:S0≠180) (h3:S0≠93) (h4:S0≠3) (v0 v1 v2:Value):gN P (((W.setCell ⟨rb,0,none⟩ v0).setCell ⟨rb,1,none⟩ v1).setCell ⟨rb,2,none⟩ v2) sb so cs T cb D V no' nc vo vc fr TT:=by
 refine h.fZ fun g xs S hg hS=>mh W v0 v1 v2 fun e=> ?_
 subst e
 rw[hr]at hg
 simp only[Option.some.injEq,Obj.cells.injEq]at hg
 obtain⟨_,rfl,_⟩:=hg
 rcases hS with e | e | e | e
 ·exact h1 e
 ·exact h2 e
 ·exact h3 e
 ·exact h4 e
theorem KW {W:World} {rb b n:Nat} {o:Option Addr} {cap:Nat} {zs:List Value} {ys:Array Value} {S0:TypeId} (ho:W.ownsRow b 3 1 (.slice o n cap) n zs) (hr:W.heap[rb]?=some (.cells ys S0 (0,0))) (h4:S0≠3) {v0 v1 v2:Value}:(((W.setCell ⟨rb,0,none⟩ v0).setCell ⟨rb,1,none⟩ v1).setCell ⟨rb,2,none⟩ v2).ownsRow b 3 1 (.slice o n cap) n zs:=by
 refine ai ho fun g q=>mh W v0 v1 v2 fun e=> ?_
 subst e
 obtain⟨cur,hc⟩:=aK ho (aI q)
 rw[hr]at hc
 simp only[Option.some.injEq,Obj.cells.injEq]at hc
 exact h4 hc.2.1
theorem au.SV {R R':Nat→Prop} {w w':World} (h:au R R' w w') (X:Nat→Prop):au (fun k=>X k∨R k) (fun k=>X k∨R' k) w w':=⟨h.os,h.tape,h.output,h.size,fun k hk hn=>h.block k hk (fun q=>hn (Or.inr q)),fun k q=>by
 rcases q with q | q
 ·exact Or.inl (Or.inl q)
 ·rcases h.row k q with e | e
  ·exact Or.inl (Or.inr e)
  ·exact Or.inr e⟩
theorem au.fin {R R':Nat→Prop} {w W:World} (h:au R R' w W) {rb:Nat} (hb:w.heap.size≤rb) (v0 v1 v2:Value):au R R' w ((((W.setCell ⟨rb,0,none⟩ v0).setCell ⟨rb,1,none⟩ v1).setCell ⟨rb,2,none⟩ v2).drew):=⟨h.os,h.tape,h.output,by have:=h.size;simpa [World.drew,cL] using this,fun k hk hn=>(mh W v0 v1 v2 (by omega)).trans (h.block k hk hn),h.row⟩
theorem inc_len:∀(F:List Nat) (b c:Nat),F.Pairwise (·<·)→(∀n∈F,b≤n∧n<b+c)→F.length≤c
 | [],_,_,_,_=>Nat.zero_le _
 | n :: F,b,c,hp,h=>by
  obtain⟨h1,h2⟩:=List.pairwise_cons.1 hp
  have h0:=h n (by simp)
  have:=inc_len F (n+1) (b+c - (n+1)) h2 (fun m hm=>by have:=h1 m hm;have:=(h m (by simp[hm])).2;omega)
  rw[List.length_cons]
  omega
theorem Qc {b:Nat} {E:List Ng} {F:List Nat} (h:fF b E F):F.length≤E.length:=by
 refine inc_len F b E.length h.ord fun n hn=> ?_
 obtain⟨h1,d,h2,_⟩:=h.var n hn
 have:=(List.getElem?_eq_some_iff.1 h2).1
 omega
def TW (PP:Nat→Prop) (w:World) (lb sb so:Nat) (cs:Array Value) (T:TypeId) (cb:Nat) (D:List Ng) (V:List Nat) (no:Option Addr) (fr:Nat→Nat) (TT:Nat→Za.U) (N ns:List (List UInt8)) (S:List Int) (tests:List Za.aH) (k:Nat) (iv:Value) (wr:World):Prop:=
 ∃(j:Nat) (E:List Ng) (F:List Nat) (no':Option Addr) (nc':Nat) (vo':Option Addr) (vc':Nat) (T':Nat→Za.U) (R:Nat→Prop),k+j=tests.length∧iv= .int .i64 (j:Int)∧gN (fun g=>PP g∧¬R g) wr sb so (cs.setIfInBounds so (.slice no' (D++E).length nc')) T cb (D++E) (V++F) no' nc' vo' vc' fr T'∧(∀m,m<D.length→T' m=TT m)∧dJ D.length E∧fF D.length E F∧(V++F).length=(Za.aD ns (tests.take j)).length∧E.length≤j*13122∧
  dp wr lb S (Za.iR (cQ T' (V++F) N) (tests.take j)).wt (Za.iR (cQ T' (V++F) N) (tests.take j)).no R∧(Za.iR (cQ T' (V++F) N) (tests.take j)).wt.length≤j*2000000∧au (cH sb no) (fun k=>b9 sb no' cb vo' k∨R k) w wr∧(∀k,R k→¬b9 sb no' cb vo' k)∧wr.heap[w.heap.size+1]?=some (.cells #[.int .i64 0,.slice none 0 0,.slice none 0 0] 245 (0,0))∧w.heap.size+2<cb
def WO (PP:Nat→Prop) (sb so:Nat) (cs:Array Value) (T:TypeId) (D:List Ng) (V:List Nat) (no:Option Addr) (fr:Nat→Nat) (TT:Nat→Za.U) (N ns:List (List UInt8)) (tests:List Za.aH) (w:World) (e:Ending) (w':World):Prop:=
 ∃(l:Za.Wn) (E:List Ng) (F:List Nat) (no':Option Addr) (nc':Nat) (vo':Option Addr) (vc':Nat) (T':Nat→Za.U) (oo:Option Addr) (oc:Nat),l=Za.iR (cQ T' (V++F) N) tests∧e= .returned (.agg #[.int .i64 (l.says:Int),.slice oo (Za.kj (V++F) V.length l.wt).length oc,.slice vo' (V++F).length vc'])∧w'.ownsRow w.heap.size 3 1 (.slice oo (Za.kj (V++F) V.length l.wt).length oc) (Za.kj (V++F) V.length l.wt).length ((Za.kj (V++F) V.length l.wt).map aM)∧w'.ownsRow 0 3 1 (.slice vo' (V++F).length vc') (V++F).length ((V++F).map aM)∧(∀k,rowOf vo' k→cH sb no k∨w.heap.size≤k)∧
  bI w' sb so (cs.setIfInBounds so (.slice no' (D++E).length nc')) T (D++E) no' nc'∧b6 (D++E) fr∧Za.dG (aX (D++E)) fr T'∧aZ w' (D++E) (fun g=>PP g∧¬rowOf vo' g)∧(∀n∈V++F,n<(D++E).length)∧(∀m,m<D.length→T' m=TT m)∧dJ D.length E∧fF D.length E F∧(V++F).length=(Za.aD ns tests).length∧E.length≤78732∧au (cH sb no) (cH sb no') w w'
theorem gN.start {PP R:Nat→Prop} {w w4:World} {sb so:Nat} {cs:Array Value} {T:TypeId} {D:List Ng} {V:List Nat} {no:Option Addr} {nc:Nat} {oo:Option Addr} {oc b:Nat} {fr:Nat→Nat} {TT:Nat→Za.U} (hG:gA w w.heap.size sb so cs T D no nc fr TT PP) (hb:Below w.heap.size w w4) (ho:w4.ownsRow b 3 1 (.slice oo V.length oc) V.length (V.map aM)) (zi:w.heap.size≤b) (hR:∀k,R k→w.heap.size≤k) (t1:T≠93) (t2:T≠3) (hV:∀n∈V,n<D.length):gN (fun g=>PP g∧¬R g) (w4.alloc (.cells #[.slice oo V.length oc] 93)) sb so cs T w4.heap.size D V no nc oo oc fr TT:=by
 have hb':=hb.alloc hb.size (.cells #[.slice oo V.length oc] 93)
 refine⟨⟨hG.st.below hb',⟨heap_alloc_new w4 _,ai (ct ho (Nat.zero_le _)) (fun g q=>Below.heap_alloc _ _ _ (ho.lt g q).2)⟩,t1,t2,hG.ar.keep fun g _ hp hg=>⟨(hb'.block g (ag hg)).trans hg,⟨⟨hp,fun q=> ?_⟩,fun q=> ?_⟩⟩⟩,hG.ok,hG.to,hV⟩
 ·have:=hR g q;have:=ag hg;omega
 ·obtain⟨p,rfl,e⟩:=q
  have:=(ho.lt g (by rw[e];rfl)).1
  have:=ag hg
  omega
theorem FE (w:World) (sb so:Nat) (cs:Array Value) (Ty:TypeId) (D:List Ng) (no:Option Addr) (nc:Nat) (fr:Nat→Nat) (TT:Nat→Za.U) (PP:Nat→Prop) (a:AV) (o1 o2:Option Addr) (n1 c1 n2 c2 n:Nat) (N M:List (List UInt8)) (p:Za.Tm) (tests:List Za.aH) (hG:gA w w.heap.size sb so cs Ty D no nc fr TT PP) (hPP:∀g,w.heap.size≤g→PP g) (hT:Ty≠76) (hTi:Ty≠151) (hTl:Ty≠189) (hTa:Ty≠245) (hTs:Ty≠93) (hTn:Ty≠3) (hr:RA 8 N anyA w a p) (rT:cm N w o1 n1 tests) (hN:N=Za.aD (Za.namesF 8 [] p) tests++M) (wp:Za.wfK 8 p) (TX:∀x∈tests,Za.iG x) (vu:tests.length≤6) (hn:n<D.length) (hsz:Za.size (TT n)≤300) (hD:D.length+100000≤1000000000) (hy:(Za.matU 8 p (TT n) ⟨[],Za.Wn.none⟩).w.says=1) (h0:tests=[]):
 Calls Tryz.prog 182 #[.pointer (some ⟨sb,so,none⟩),.agg #[.int .i64 a.k,.int .i64 a.val,.string a.tx,.slice a.ao a.n a.cap,.slice o1 n1 c1,.slice o2 n2 c2],.int .i64 (n:Int)] w fun e w'=>∃V:List Nat,V.length=(Za.namesF 8 [] p).length∧(∀m∈V,m<D.length)∧(∀(i:Nat) (x:List UInt8) (m:Nat),(Za.namesF 8 [] p)[i]?=some x→V[i]?=some m→∃q,(Za.matU 8 p (TT n) ⟨[],Za.Wn.none⟩).st.find? (fun q=>q.1 == x)=some q∧TT m=q.2)∧WO PP sb so cs Ty D V no fr TT N (Za.namesF 8 [] p) tests w e w':=by
 obtain⟨k,val,tx,ao,m,cp⟩:=a
 have H0:=af h0
 clear h0
 dsimp only
 obtain⟨rfl,Qd⟩:=rT
 have MC:=af Qd
 clear Qd
 obtain⟨KK,hKK⟩:=Za.jV tests (Za.namesF 8 [] p)
 have hN1:N=Za.namesF 8 [] p++(KK++M):=by rw[hN,hKK,List.append_assoc]
 have hq:=RA.less (hN1 ▸ hr) wp (Za.sV 8 p [] fun y hy=>hy)
 have hML:=Za.namesK_len 8 p [] wp
 have hND:=Za.namesF_nodup 8 p [] (by simp)
 have q3:3 ^ 8=6561:=by decide
 have hML':(Za.namesF 8 [] p).length≤6561:=by simp at hML;omega
 have hsm:=(Za.uE (B:=300) 8 p (TT n) ⟨[],Za.Wn.none⟩ wp hsz (by omega) (fun q hq=>by cases hq)).1
 have TY:=(Za.mat_yes 8 p (TT n) ⟨[],Za.Wn.none⟩ wp ((Za.Wn.A5 _).1 hy)).2.2 []
 have B2:=(Za.Wn.A5 _).1 hy
 have hu:=(((Below.refl w.heap.size w).alloc (Nat.le_refl _) (.cells #[.int .i64 k,.int .i64 val,.string tx,.slice ao m cp,.slice o1 tests.length c1,.slice o2 n2 c2] 78)).alloc (by simp) (.cells #[.int .i64 0,.slice none 0 0,.slice none 0 0] 245)).alloc (by simp;omega) (.cells #[.slice none 0 0,.slice none 0 0,.bool false] 189)
 have hl0:=vW ((w.alloc (.cells #[.int .i64 k,.int .i64 val,.string tx,.slice ao m cp,.slice o1 tests.length c1,.slice o2 n2 c2] 78)).alloc (.cells #[.int .i64 0,.slice none 0 0,.slice none 0 0] 245))
 simp only[World.size_alloc]at hl0
 have qc:=aB (heap_alloc_new (w.alloc (.cells #[.int .i64 k,.int .i64 val,.string tx,.slice ao m cp,.slice o1 tests.length c1,.slice o2 n2 c2] 78)) (.cells #[.int .i64 0,.slice none 0 0,.slice none 0 0] 245)) (.cells #[.slice none 0 0,.slice none 0 0,.bool false] 189)
 rw[World.size_alloc]at qc
 have hc0:=aB (aB (heap_alloc_new w (.cells #[.int .i64 k,.int .i64 val,.string tx,.slice ao m cp,.slice o1 tests.length c1,.slice o2 n2 c2] 78)) (.cells #[.int .i64 0,.slice none 0 0,.slice none 0 0] 245)) (.cells #[.slice none 0 0,.slice none 0 0,.bool false] 189)
 have IM:=af (muG_all 8 anyA w _ (w.heap.size+1+1) sb so cs Ty D no nc fr TT PP _ (Za.namesF 8 [] p) [] ⟨k,val,tx,ao,m,cp⟩ n p ⟨[],Za.Wn.none⟩ 300 (hG.up (by omega)) hu hl0 (zj D TT _) (by simp) hND (by omega) hq wp hn hsz (fun q hq=>by cases hq) (by rw[q3];simp[Za.Wn.none]))
 have HU:=af hu
 have vI:=af hl0
 have km:=af qc
 have TZ:=af hc0
 have HG:=af hG
 have Yr:=af hPP
 have HN:=af hN
 have Ys:=af TX
 have ji:=af hsm
 have T5:=af TY
 have HY:=af hy
 have B3:=af B2
 have D7:=af vu
 have Yt:=af hD
 have Iz:=af hML'
 have Yu:=af wp
 have Vj:=af (And.intro hT (And.intro hTi (And.intro hTl (And.intro hTa (And.intro hTs hTn)))))
 clear hG hr hN hN1 hq hND hML q3 hu hl0 qc hc0 hsz hy hsm TY B2 TX hPP hT hTi hTl hTa hTs hTn hKK vu hD hML' wp
 go_enter Tryz.func182,Tryz.ntmps182
 go_wp2_with fail
 refine(ae IM).mono ?_
 rintro e w2 ⟨rfl,S2,R2,h2,st2,sl2,fr2⟩
 generalize hl:Za.matU 8 p (TT n) ⟨[],Za.Wn.none⟩=l at*
 obtain⟨V,hVl,hSV,hVD,hVq⟩:=st2.full sl2 (fun x hx=>(ae T5 x hx).resolve_left (by simp))
 have hb2:=(ae vI).under fr2 (ae HU) (by omega)
 have Qe:∀k,k≤w.heap.size+1→¬fH (w.heap.size+1+1) none none k:=fun k hk=>pX (by omega)
 have q2:=(fr2.block (w.heap.size+1) (by simp only[World.size_alloc];omega) (Qe _ (by omega))).trans (ae km)
 have k2:=(fr2.block w.heap.size (by simp only[World.size_alloc];omega) (Qe _ (by omega))).trans (ae TZ)
 have D5:=af (yY w2 _ S2 l.w.wt l.w.no R2 h2)
 rw[Ak,ae HY]at D5
 rw[(ae B3).1,(ae B3).2]at h2
 have hrow2:=h2.rows
 have H2:=af h2
 obtain⟨xo,xc,yo,yc,h2,rfl⟩:=h2
 have MD:w2.ownsRow (w.heap.size+1+1+1) 3 1 (.slice xo V.length xc) V.length (V.map aM):=by
  have:=h2.sown
  rw[hSV,List.length_map,List.map_map]at this
  exact this
 have hSL:S2.length=V.length:=by rw[hSV,List.length_map]
 have b0:=ah h2.blk 0
 rw[hSL]at b0
 have cz:=ag h2.blk
 have IS:=af (Di w2 _ V xo xc MD (by have:=ae Iz;omega))
 have BA:=af hVl
 have f4:=ah k2 4
 have kz:=ag k2
 simp only[List.getElem?_toArray,List.getElem?_cons_zero,List.getElem?_cons_succ]at b0 f4
 have WQ:=af hVq
 have T6:=af hVD
 have T7:=af hSV
 have vD:=af hSL
 have bf:=af hb2
 have vG:=af q2
 have di:=af k2
 have rE:=af hrow2
 have Yb:=af st2
 have Yc:=af (show∀m∈V,Za.size (TT m)≤300 from fun m hm=>by
  obtain⟨i,hi,rfl⟩:=List.getElem_of_mem hm
  obtain⟨q,h1,h2⟩:=hVq i (Za.namesF 8 [] p)[i] V[i] (List.getElem?_eq_getElem (by omega)) (List.getElem?_eq_getElem hi)
  rw[h2]
  exact ae ji q (List.mem_of_find?_eq_some h1))
 have P0:=af hl
 clear hl h2 hb2 fr2 q2 k2 IM vI HU km TZ MD hVq hVD hSV hrow2 st2 sl2 hSL Qe T5 HY B3 ji hVl
 go_wp2_with fail
 refine(ae D5).mono ?_
 rintro e w3 ⟨rfl,rfl⟩
 go_wp2_with fail
 refine(ae IS).mono ?_
 rintro e w4 ⟨oo,oc,rfl,own4,hb4⟩
 obtain⟨hT,hTi,hTl,hTa,hTs,hTn⟩:=ae Vj
 have z4:=hb4.size
 have bF:=(ae bf).trans (hb4.mono (ae bf).size)
 have gC:=bF.alloc bF.size (.cells #[.slice oo V.length oc] 93)
 have k4:=(hb4.block _ kz).trans (ae di)
 have f4:=ah k4 4
 have kz4:=ag k4
 simp only[List.getElem?_toArray,List.getElem?_cons_zero,List.getElem?_cons_succ]at f4
 have HST:=af (show TW PP w (w.heap.size+1+1) sb so cs Ty w4.heap.size D V no fr TT N (Za.namesF 8 [] p) S2 tests tests.length (.int .i64 0) (w4.alloc (.cells #[.slice oo V.length oc] 93))from by
  have hro:∀k,rowOf oo k→w3.heap.size≤k:=fun k q=>by
   obtain⟨pp,hp,hq⟩:=q
   exact(own4.lt k (by rw[hp,hq];rfl)).1
  have zt:∀k,rowOf no k→k<w.heap.size:=fun k q=>by
   obtain⟨pp,hp,hq⟩:=q
   exact((ae HG).st.own.lt k (by rw[hp,hq];rfl)).2
  have B4:=ag (ae HG).st.blk
  refine⟨0,[],[],no,nc,oo,oc,TT,fH (w.heap.size+1+1) xo yo,by omega,rfl,?_,fun _ _=>rfl,fun i d h=>by simp at h,fF.nil _ _,by rw[List.append_nil,List.take_zero];exact ae BA,by simp,(ae H2).below (hb4.alloc z4 _),by rw[List.take_zero];exact Nat.zero_le _,⟨gC.os,gC.tape,gC.output,gC.size,fun k hk _=>gC.block k hk,?_⟩,?_,?_,by omega⟩
  ·have:=gN.start (PP:=PP) (R:=fH (w.heap.size+1+1) xo yo) (ae HG) bF own4 (ae bf).size (fun k q=>by have:=(ae rE k q).1;omega) hTs hTn (ae T6)
   rw[List.append_nil,List.append_nil,l9 (ae HG).st.cel]
   exact this
  ·rintro k ((e | e | e | e) | e)
   ·exact Or.inl (Or.inl e)
   ·exact Or.inl (Or.inr e)
   ·right;have:=(ae bf).size;omega
   ·right;have:=hro k e;have:=(ae bf).size;omega
   ·right;have:=(ae rE k e).1;omega
  ·rintro k q (e | e | e | e)
   ·have:=(ae rE k q).1;omega
   ·have:=(ae rE k q).1;have:=zt k e;omega
   ·have:=(ae rE k q).2;omega
   ·have:=(ae rE k q).2;have:=hro k e;omega
  ·exact(Below.heap_alloc _ _ _ (by have:=ag (ae vG);omega)).trans ((hb4.block _ (ag (ae vG))).trans (ae vG)))
 clear bF gC k4 own4 hb4 IS D5 H2 bf vG di rE b0 cz kz
 go_wp2_with fail
 go_loopg [30] tests.length (fun k iv wr=>TW PP w (w.heap.size+1+1) sb so cs Ty w4.heap.size D V no fr TT N (Za.namesF 8 [] p) S2 tests k iv wr)
 case atStart=>exact ae HST
 case round=>
  clear HST f4 kz4
  obtain⟨j,E,F,no',nc',vo',vc',T',R,hkj,rfl,hm,he,dC,gP,jm,fC,fQ,vL,hf,hap,xB,hcb⟩:=hrel
  by_cases hlt:j<tests.length
  ·rw[ae H0]at hlt
   exact absurd hlt (Nat.not_lt_zero _)
  ·obtain rfl:j=tests.length:=by omega
   rw[List.take_length]at jm fQ vL
   have lnv:(V++F).length≤200000:=by
    have q1:=Qc gP
    have q2:=ae BA
    have q3:=ae Iz
    have q4:=ae D7
    rw[List.length_append]
    omega
   have Qf:(Za.iR (cQ T' (V++F) N) tests).wt.length≤12000000:=by have q4:=ae D7;omega
   generalize hL0:Za.iR (cQ T' (V++F) N) tests=l at fQ Qf
   have vI:=af hL0
   clear hL0
   obtain⟨so',sc',wo',wc',hB,hRe⟩:=fQ
   have b0:=ah hB.blk 0
   have b1:=ah hB.blk 1
   rw[ae vD]at b0
   have bz:=ag hB.blk
   have s0:=ah hm.ad.sc.blk 0
   have sz:=ag hm.ad.sc.blk
   simp only[List.getElem?_toArray,List.getElem?_cons_zero,List.getElem?_cons_succ]at b0 b1 s0
   have IOK:=af (yh wr _ _ l.wt (V++F) wo' vo' wc' vc' V.length hB.wown hm.ad.sc.own (by omega) (by omega))
   have HB:=af hB
   have HM:=af hm
   have HP:=af (And.intro he (And.intro dC (And.intro gP (And.intro jm fC))))
   have HF:=af hf
   have WR:=af xB
   have Yv:=af hcb
   have rz:=ag xB
   have hVz:(V++F).length=V.length+F.length:=List.length_append
   clear hm he dC gP jm fC vL hf hap xB hkj hlt hB hRe lnv Qf hcb hVz
   generalize hVF:V++F=VF at*
   have PC:=af hVF
   clear hVF
   go_wp2_with fail
   refine(ae IOK).mono ?_
   rintro e w10 ⟨oo',oc',rfl,own10,yq⟩
   have s1:=(yq.cell (p:=⟨w4.heap.size,0,none⟩) sz).trans s0
   have z10:=yq.size
   have Qg:=(yq.block _ bz).trans (ae HB).blk
   have zk:=af (fun(W:World) (hb:Below w10.heap.size w10 W)=>Bt W (w.heap.size+1+1) l.wt l.no so' S2.length sc' wo' wc' ((hb.block _ (ag Qg)).trans Qg))
   rw[Ak]at zk
   have B5:=(yq.block _ rz).trans (ae WR)
   have d0:=ah B5
   have x0:=ay B5
   have dz:=ag B5
   have sz10:w4.heap.size<w10.heap.size:=Nat.lt_of_lt_of_le sz z10
   have Vk:=af own10
   have Qh:=af yq
   have Qi:=af B5
   clear own10 yq Qg B5 IOK b0 b1 bz s0 sz
   go_wp2_with fail
   go_region_with (go_at_call 110;refine(ae zk _ (by first | exact Below.refl _ _ | exact(Below.refl _ _).drew | exact(Below.refl _ _).drew.drew | exact(Below.refl _ _).drew.drew.drew | exact(Below.refl _ _).drew.drew.drew.drew)).mono ?_;rintro e w5 ⟨rfl,rfl⟩)
   all_goals
    go_wp2_with fail
    refine bodyPost_ret (v:= .agg #[.int .i64 (l.says:Int),.slice oo' (Za.kj VF V.length l.wt).length oc',.slice vo' VF.length vc']) (by simp[results,Tryz.results182,go_sem,d0]) rfl ?_
    obtain rfl:=ae PC
    obtain⟨he,dC,gP,jm,fC⟩:=ae HP
    have hrow:=(ae HF).row
    have m11:=(((ae HM).below (ae Qh)).KV (ae Qi) (Ne.symm hTa) (by decide) (by decide) (by decide) (.int .i64 (l.says:Int)) (.slice oo' (Za.kj (V++F) V.length l.wt).length oc') (.slice vo' (V++F).length vc')).below (Below.refl _ _).drew
    have Vl:E.length≤78732:=by have:=ae D7;omega
    refine⟨V,ae BA,ae T6,by rw[ae P0];exact ae WQ,l,E,F,no',nc',vo',vc',T',oo',oc',(ae vI).symm,rfl,ct (KW (ae Vk) (ae Qi) (by decide)) (ae HF).size,m11.ad.sc.own,fun k q=>hrow k (Or.inl (Or.inr (Or.inr (Or.inr q)))),m11.ad.st,m11.ok,m11.to,m11.ad.args.keep fun g _ hp hg=>⟨hg,hp.1.1,hp.2⟩,m11.lt,he,dC,gP,jm,Vl,((((ae HF).less (X:=cH sb no') (fun k q=>by
     rcases q with e | e
     ·exact Or.inl (Or.inl e)
     ·exact Or.inl (Or.inr (Or.inl e)))).trans (au.aw (ae Qh))).fin (Nat.le_succ _) _ _ _)⟩
theorem xC (w:World) (p:Int) (n:Nat) (hn:0<n) (hl:n≤1000000000) (_h1: -9223372036854775808≤p) (_h2:p≤9223372036854775807):
 Calls Tryz.prog 44 #[.int .i64 p,.int .i64 (n:Int)] w fun e w'=>e= .returned (.int .i64 (p % (n:Int)))∧w'=w:=by
 have t0:decide ((n:Int)≤0)=false:=by simp;omega
 have t1:((n:Int) == 0)=false:=by simp;omega
 have b1:=Int.emod_nonneg p (show (n:Int)≠0 by omega)
 have b2:=Int.emod_lt_of_pos p (show (0:Int)<(n:Int)by omega)
 have e1:p.tmod (n:Int)=p % (n:Int)∨p.tmod (n:Int)=p % (n:Int) - (n:Int):=by
  rw[Int.tmod_eq_emod]
  split
  ·left;simp
  ·right;simp
 rcases e1 with e1 | e1
 ·have t2:decide (p.tmod (n:Int)<0)=false:=by rw[e1];simp;omega
  have HE:=af e1
  clear e1 b1 b2
  go_enter Tryz.func44,Tryz.ntmps44
  go_wp2_with fail
  go_ret
  exact⟨by rw[←ae HE];rfl,rfl⟩
 ·have t2:decide (p.tmod (n:Int)<0)=true:=by rw[e1];simp;omega
  have t3:wrap64 (p.tmod (n:Int)+(n:Int))=p % (n:Int):=by rw[e1,Int.sub_add_cancel];unfold wrap64;omega
  have HT:=af t3
  clear e1 b1 b2 t3
  go_enter Tryz.func44,Tryz.ntmps44
  go_wp2_with fail
  go_ret
  exact⟨by rw[←ae HT];rfl,rfl⟩
structure Gl where
 l:Nat
 sg:ByteArray
 r:Int
 op:ByteArray
 z:Int
 wt:Bool
 no:Option Addr
 nc:Nat
 nd:List Nat
def fN (g:Gl):List Value:=[.int .i64 (g.l:Int),.string g.sg,.int .i64 g.r,.string g.op,.int .i64 g.z,.bool g.wt,.slice g.no g.nd.length g.nc]
def gh (fr:Nat→Nat) (g:Gl):Bool:= !g.wt||g.nd.any fun v=>decide (fr v≠v)
theorem vM (w:World) (mb:Nat) (cs:Array Value) (Ty:TypeId) (D:List Ng) (nO:Option Addr) (nC:Nat) (fr:Nat→Nat) (g:Gl) (b:Nat) (hs:bI w mb 1 cs Ty D nO nC) (aF:b6 D fr) (hn:w.ownsRow b 3 1 (.slice g.no g.nd.length g.nc) g.nd.length (g.nd.map aM)) (hlt:∀v∈g.nd,v<D.length) (hl:g.nd.length≤1000000000):
 Calls Tryz.prog 83 #[.pointer (some ⟨mb,0,none⟩),.agg #[.int .i64 (g.l:Int),.string g.sg,.int .i64 g.r,.string g.op,.int .i64 g.z,.bool g.wt,.slice g.no g.nd.length g.nc]] w fun e w'=>e= .returned (.bool (gh fr g))∧Below w.heap.size w w':=by
 obtain⟨l,sg,r,op,z,wt,no,nc,nd⟩:=g
 dsimp only at*
 have hb0:=(Below.refl w.heap.size w).alloc (Nat.le_refl _) (.cells #[.int .i64 (l:Int),.string sg,.int .i64 r,.string op,.int .i64 z,.bool wt,.slice no nd.length nc] 158)
 have aY:=af hb0
 have HN:=af hn
 have bh:=af hlt
 have jh:=af (fun W (hb:Below w.heap.size w W) (v:Nat) (hv:v<D.length)=>(aF.hop v hv).imp fun k hk=>dU W mb 1 cs Ty D nO nC v (fr v) k (hs.below hb) hk)
 clear hs aF hn hlt hb0
 cases wt with
 | false=>
  go_enter Tryz.func83,Tryz.ntmps83
  go_wp2_with fail
  go_ret
  exact⟨rfl,ae aY⟩
 | true=>
  go_enter Tryz.func83,Tryz.ntmps83
  go_wp2_with fail
  go_loopg [13] nd.length (fun k iv wr=>∃j:Nat,k+j=nd.length∧iv= .int .i64 (j:Int)∧Below w.heap.size w wr∧(nd.take j).any (fun v=>decide (fr v≠v))=false)
  case atStart=>exact⟨0,by omega,rfl,ae aY,by simp⟩
  case round=>
   clear aY
   obtain⟨j,hkj,rfl,aO,hno⟩:=hrel
   by_cases hlt:j<nd.length
   ·obtain⟨g,hg⟩:∃g,no=some ⟨g,0,none⟩:=by
     rcases(ae HN).2 with⟨q,q2⟩ | ⟨g,cp,cur,q,_⟩
     ·omega
     ·simp only[Value.slice.injEq]at q
      exact⟨g,q.1⟩
    subst hg
    have gz0:=((ae HN).lt g rfl).2
    have f0:wr.cell? ⟨g,j,none⟩=some (.int .i64 (nd[j]:Int)):=by
     rw[aO.cell (p:=⟨g,j,none⟩) gz0,(ae HN).cellAt j (by omega),List.getElem?_map,List.getElem?_eq_getElem hlt]
     rfl
    have gz:g<wr.heap.size:=Nat.lt_of_lt_of_le gz0 aO.size
    have i0:(0:Int)≤(j:Int):=by omega
    have i1:(j:Int)<(nd.length:Int):=by omega
    obtain⟨kk,Qj⟩:=ae jh wr aO nd[j] (ae bh _ (List.getElem_mem hlt))
    have Qk:=af Qj
    have hst:nd.take (j+1)=nd.take j++[nd[j]]:=by rw[List.take_add_one,List.getElem?_eq_getElem hlt];rfl
    have bT:=af aO
    have Ql:=af hlt
    have aT:=af hkj
    have gX:nd[j]∈nd:=List.getElem_mem hlt
    generalize nd[j]=m at*
    by_cases he:fr m=m
    ·have gQ:=af (show (nd.take (j+1)).any (fun v=>decide (fr v≠v))=false by rw[hst,List.any_append,hno];simp[he])
     rw[he]at Qk
     clear he hno hkj hst aO Qj gX
     go_wp2_with fail
     refine(ae Qk).mono ?_
     rintro e w5 ⟨rfl,rfl⟩
     unfold aM
     go_wp2_with fail
     go_roundg (gk - 1)
     case measure=>have:=ae aT;have:=ae Ql;omega
     case rel=>exact⟨j+1,by have:=ae aT;have:=ae Ql;omega,by go_num,ae bT,ae gQ⟩
    ·have B3:=af (show nd.any (fun v=>decide (fr v≠v))=true from List.any_eq_true.2 ⟨m,gX,by simpa using he⟩)
     have t2:(((fr m:Nat):Int) == ((m:Nat):Int))=false:=by simp;omega
     have t3:(((fr m:Nat):Int) != ((m:Nat):Int))=true:=by simp;omega
     generalize fr m=m' at*
     clear he hno hkj hst aO Qj gX
     go_wp2_with fail
     refine(ae Qk).mono ?_
     rintro e w5 ⟨rfl,rfl⟩
     unfold aM
     go_wp2_with fail
     go_ret
     exact⟨by unfold gh;rw[ae B3];rfl,ae bT⟩
   ·have gQ:=af (show nd.any (fun v=>decide (fr v≠v))=false by rwa [List.take_of_length_le (by omega)]at hno)
    have bT:=af aO
    clear hno aO
    obtain rfl:j=nd.length:=by omega
    go_wp2_with fail
    go_ret
    exact⟨by unfold gh;rw[ae gQ];rfl,ae bT⟩
theorem glC_len:∀g,(fN g).length=7:=fun _=>rfl
theorem qR {G:List Gl} {n:Nat} (h:n<G.length) (j:Nat) (hj:j<7):(G.flatMap fN)[n*7+j]?=(fN G[n])[j]?:=qJ glC_len h j hj
structure cP (w:World) (mb:Nat) (cs:Array Value) (D:List Ng) (nO:Option Addr) (nC:Nat) (fr:Nat→Nat) (G:List Gl) (po:Option Addr) (pc:Nat):Prop where
 st:bI w mb 1 cs 91 D nO nC
 ok:b6 D fr
 c3:cs[3]?=some (.slice po G.length pc)
 pool:w.ownsRow 0 158 7 (.slice po G.length pc) G.length (G.flatMap fN)
 nds:∀g∈G,w.ownsRow 0 3 1 (.slice g.no g.nd.length g.nc) g.nd.length (g.nd.map aM)
 nlt:∀g∈G,∀v∈g.nd,v<D.length
 nl:∀g∈G,g.nd.length≤1000000000
theorem cP.below {w w':World} {mb:Nat} {cs:Array Value} {D:List Ng} {nO:Option Addr} {nC:Nat} {fr:Nat→Nat} {G:List Gl} {po:Option Addr} {pc:Nat} (h:cP w mb cs D nO nC fr G po pc) (hb:Below w.heap.size w w'):cP w' mb cs D nO nC fr G po pc:=
 ⟨h.st.below hb,h.ok,h.c3,ai h.pool (fun g q=>hb.block g (h.pool.lt g q).2),fun g hg=>ai (h.nds g hg) (fun k q=>hb.block k ((h.nds g hg).lt k q).2),h.nlt,h.nl⟩
def cE (fr:Nat→Nat) (G:List Gl) (j:Nat):List Nat:=(List.range j).filter fun i=>match G[i]? with
 | some g=>gh fr g
 | none=>false
theorem II (fr:Nat→Nat) (G:List Gl) (j:Nat) (h:j<G.length):cE fr G (j+1)=cE fr G j++(if gh fr G[j]=true then [j]else []):=by
 unfold cE
 rw[List.range_succ,List.filter_append]
 congr 1
 simp only[List.filter_cons,List.filter_nil,List.getElem?_eq_getElem h]
theorem B6 (fr:Nat→Nat) (G:List Gl) (j:Nat):(cE fr G j).length≤j:=by
 have:=List.length_filter_le (fun i=>match G[i]? with
  | some g=>gh fr g
  | none=>false) (List.range j)
 rwa [List.length_range]at this
def WS (w:World) (fr:Nat→Nat) (G:List Gl) (k:Nat) (av iv:Value) (wr:World):Prop:=
 ∃j:Nat,k+j=G.length∧iv= .int .i64 (j:Int)∧wr.ownsRow w.heap.size 3 1 av (cE fr G j).length ((cE fr G j).map aM)∧Below w.heap.size w wr
theorem zu (w:World) (mb:Nat) (cs:Array Value) (D:List Ng) (nO:Option Addr) (nC:Nat) (fr:Nat→Nat) (G:List Gl) (po:Option Addr) (pc:Nat) (h:cP w mb cs D nO nC fr G po pc) (hl:G.length≤1000000):
 Calls Tryz.prog 43 #[.pointer (some ⟨mb,0,none⟩)] w fun e w'=>∃oo oc,e= .returned (.slice oo (cE fr G G.length).length oc)∧w'.ownsRow w.heap.size 3 1 (.slice oo (cE fr G G.length).length oc) (cE fr G G.length).length ((cE fr G G.length).map aM)∧Below w.heap.size w w':=by
 have f3:=(ah h.st.blk 3).trans h.c3
 have mz:=ag h.st.blk
 have H:=af h
 obtain⟨tj,hj,iM,iN,iO⟩:=info_parts infoIn
 clear h
 go_enter Tryz.func43,Tryz.ntmps43
 go_wp2_with fail
 go_loopg [3,11] G.length (fun k av iv wr=>WS w fr G k av iv wr)
 case atStart=>exact⟨0,by omega,rfl,by simpa [cE] using World.ownsRow_nil _ _ _ _,Below.refl _ _⟩
 case round=>
  obtain⟨j,hkj,rfl,how,aO⟩:=hrel
  obtain⟨oo,oc,rfl⟩:=gG how
  by_cases hlt:j<G.length
  ·obtain⟨g,hg⟩:∃g,po=some ⟨g,0,none⟩:=by
    rcases(ae H).pool.2 with⟨q,q2⟩ | ⟨g,cp,cur,q,_⟩
    ·omega
    ·simp only[Value.slice.injEq]at q
     exact⟨g,q.1⟩
   subst hg
   have gz0:=((ae H).pool.lt g rfl).2
   have fc:∀i,i<7→wr.cell? ⟨g,j*7+i,none⟩=(fN G[j])[i]?:=fun i hi=>by
    rw[aO.cell (p:=⟨g,j*7+i,none⟩) gz0,(ae H).pool.cellAt (j*7+i) (by omega)]
    exact qR hlt i hi
   have e0:=fc 0 (by omega)
   have e1:=fc 1 (by omega)
   have e2:=fc 2 (by omega)
   have e3:=fc 3 (by omega)
   have e4:=fc 4 (by omega)
   have e5:=fc 5 (by omega)
   have e6:=fc 6 (by omega)
   simp only[fN,List.getElem?_cons_zero,List.getElem?_cons_succ,Nat.add_zero]at e0 e1 e2 e3 e4 e5 e6
   have gz:g<wr.heap.size:=Nat.lt_of_lt_of_le gz0 aO.size
   have i0:(0:Int)≤(j:Int):=by omega
   have i1:(j:Int)<(G.length:Int):=by omega
   have hW:=aO.alloc aO.size (.cells #[.int .i64 (G[j].l:Int),.string G[j].sg,.int .i64 G[j].r,.string G[j].op,.int .i64 G[j].z,.bool G[j].wt,.slice G[j].no G[j].nd.length G[j].nc] 158)
   have hm:=(ae H).below hW
   have IR:=af (vM _ mb cs _ D nO nC fr G[j] 0 hm.st hm.ok (hm.nds _ (List.getElem_mem hlt)) (hm.nlt _ (List.getElem_mem hlt)) (hm.nl _ (List.getElem_mem hlt)))
   have fw:=af (II fr G j hlt)
   have hle:=B6 fr G j
   have Vm:(cE fr G j).length≤1000000:=by omega
   have HOW:=af (ai how (w':=wr.alloc (.cells #[.int .i64 (G[j].l:Int),.string G[j].sg,.int .i64 G[j].r,.string G[j].op,.int .i64 G[j].z,.bool G[j].wt,.slice G[j].no G[j].nd.length G[j].nc] 158)) (fun k q=>Below.heap_alloc _ _ _ (how.lt k q).2))
   have bT:=af hW
   have aT:=af hkj
   have bh:=af hlt
   generalize cE fr G j=Z at*
   have xD:gh fr G[j]=true∨gh fr G[j]=false:=by cases gh fr G[j]<;>simp
   have IK:=af xD
   generalize Mk:G[j]=gg at*
   clear how aO hkj hlt fc hW hm hle xD Mk
   rcases ae IK with hr | hr
   ·rw[hr]at IR
    rw[if_pos hr]at fw
    clear hr IK
    go_wp2_with fail
    refine(ae IR).mono ?_
    rintro e w5 ⟨rfl,bF⟩
    have z5:=bF.size
    rw[World.size_alloc]at z5
    have lZ:=af (ai (ae HOW) (fun k q=>bF.block k ((ae HOW).lt k q).2))
    have vX:=af ((ae bT).trans (bF.mono (ae bT).size))
    have z6:w.heap.size≤w5.heap.size:=(ae vX).size
    clear bF
    go_wp2_with (at_builtin;go_must (refine wpList_append_own_at _ rfl (.tmp 19) (.tmp 21) 25 rfl w.heap.size 3 tj (.int .i64 0) 1 8 Tryz.underlying25 hj iM iN iO rfl (by decide) _ Z.length (Z.map aM) rfl ((ae lZ).alloc _) ⟨w5.heap.size,0,none⟩ 1 1 [.int .i64 (j:Int)] rfl rfl (iZ _ _ _ _ rfl) (by simp[Value.oneCell']) (by unfold maxLen;omega) (by omega) (by simp;omega) ?_);go_must (intro v' w7 hown' hgrow _ _;have mD:=af hown';have mE:=af (((ae vX).alloc (ae vX).size _).grown hgrow (by have:=(ae vX).size;simp;omega) (fun k q=>by have:=((ae lZ).lt k q).1;omega));clear hown' hgrow))
    go_roundg (gk - 1)
    case measure=>have:=ae aT;have:=ae bh;omega
    case rel=>exact⟨j+1,by have:=ae aT;have:=ae bh;omega,by go_num,by rw[ae fw];have:=ae mD;simpa [aM] using this,ae mE⟩
   ·rw[hr]at IR
    rw[if_neg (by simp[hr]),List.append_nil]at fw
    clear hr IK
    go_wp2_with fail
    refine(ae IR).mono ?_
    rintro e w5 ⟨rfl,bF⟩
    have bO:=af bF
    clear bF
    go_wp2_with fail
    go_roundg (gk - 1)
    case measure=>have:=ae aT;have:=ae bh;omega
    case rel=>exact⟨j+1,by have:=ae aT;have:=ae bh;omega,by go_num,by rw[ae fw];exact ai (ae HOW) (fun k q=>(ae bO).block k ((ae HOW).lt k q).2),(ae bT).trans ((ae bO).mono (ae bT).size)⟩
  ·obtain rfl:j=G.length:=by omega
   have HOW:=af how
   have bT:=af aO
   clear how aO hkj
   go_wp2_with fail
   go_ret
   exact⟨oo,oc,rfl,ae HOW,ae bT⟩
theorem xE (w:World) (mb:Nat) (cs:Array Value) (Ty:TypeId) (D:List Ng) (nO:Option Addr) (nC:Nat) (fr:Nat→Nat) (n:Nat) (d:Ng) (hs:bI w mb 1 cs Ty D nO nC) (aF:b6 D fr) (hn:n<D.length) (hd:D[fr n]?=some d):
 Calls Tryz.prog 194 #[.pointer (some ⟨mb,0,none⟩),.int .i64 (n:Int)] w fun e w'=>e= .returned (.tuple #[.int .i64 d.val,.bool (d.k == 2)])∧Below w.heap.size w w':=by
 obtain⟨k,hk⟩:=aF.hop n hn
 have HL:=af (eY w mb 1 cs Ty D nO nC n (fr n) k d hs hk hd)
 clear hs aF hd hk
 go_enter Tryz.func194,Tryz.ntmps194
 go_wp2_with fail
 refine(ae HL).mono ?_
 rintro e w2 ⟨rfl,hb2⟩
 have z2:=hb2.size
 have HB:=af (hb2.alloc z2 (.cells #[.int .i64 d.k,.int .i64 d.val,.string d.tx,.int .i64 (d.cnt:Int)] 177))
 clear hb2
 go_wp2_with fail
 go_region
 all_goals
  go_wp2_with fail
  refine bodyPost_ret (v:= .tuple #[.int .i64 d.val,.bool (d.k == 2)]) (by simp[results,Tryz.results194,go_sem]) rfl ?_
  exact⟨rfl,(ae HB).drew⟩
def arith (op:List UInt8) (a b:Int):Int:=if op=[43]then a+b else if op=[45]then a - b else a*b
theorem KX (w:World) (a b:Int) (op:ByteArray) (ha: -1000000000≤a) (ha':a≤1000000000) (hb: -1000000000≤b) (hb':b≤1000000000):
 Calls Tryz.prog 195 #[.int .i64 a,.string op,.int .i64 b] w fun e w'=>e= .returned (.int .i64 (arith op.toList a b))∧w'=w:=by
 have hm: -1000000000000000000≤a*b∧a*b≤1000000000000000000:=by
  have h1:(a*b).natAbs≤1000000000*1000000000:=by
   rw[Int.natAbs_mul]
   exact Nat.mul_le_mul (by omega) (by omega)
  omega
 by_cases h1:op.toList=[43]
 ·have t1:(op.toList == [43])=true:=by rw[h1];rfl
  have HE:=af (show a+b=arith op.toList a b by unfold arith;rw[if_pos h1])
  clear h1 hm
  go_enter Tryz.func195,Tryz.ntmps195
  go_wp2_with fail
  go_ret
  exact⟨by rw[←ae HE];first | rfl | done,rfl⟩
 ·by_cases h2:op.toList=[45]
  ·have t1:(op.toList == [43])=false:=by rw[h2];rfl
   have t2:(op.toList == [45])=true:=by rw[h2];rfl
   have HE:=af (show a - b=arith op.toList a b by unfold arith;rw[if_neg h1,if_pos h2])
   clear h1 h2 hm
   go_enter Tryz.func195,Tryz.ntmps195
   go_wp2_with fail
   go_ret
   exact⟨by rw[←ae HE];first | rfl | done,rfl⟩
  ·have t1:(op.toList == [43])=false:=by simpa using h1
   have t2:(op.toList == [45])=false:=by simpa using h2
   have HE:=af (show wrap64 (a*b)=arith op.toList a b by unfold arith;rw[if_neg h1,if_neg h2];unfold wrap64;omega)
   clear h1 h2 hm
   go_enter Tryz.func195,Tryz.ntmps195
   go_wp2_with fail
   go_ret
   exact⟨by rw[←ae HE];first | rfl | done,rfl⟩
theorem wB (w:World) (mb:Nat) (cs:Array Value) (n:Nat) (h:w.heap[mb]?=some (.cells cs 91 (0,0))) (hc:5<cs.size):
 Calls Tryz.prog 178 #[.pointer (some ⟨mb,0,none⟩),.int .i64 (n:Int)] w fun e w'=>e= .returned (.int .i64 (-2))∧w'=w.setCell ⟨mb,5,none⟩ (.int .i64 (n:Int)):=by
 have c5:=(ah h 5).trans (Array.getElem?_eq_getElem hc)
 have x5:=ay h 5
 have mz:=ag h
 clear h
 go_enter Tryz.func178,Tryz.ntmps178
 go_wp2_with fail
 go_ret
 exact⟨rfl,rfl⟩
def lh (op:List UInt8) (d e:Ng):Option Int:=if d.k=2 then(if op=[]then some d.val else if e.k=2 then(if -1000000000≤arith op d.val e.val∧arith op d.val e.val≤1000000000 then some (arith op d.val e.val)else none)else none)else none
def Vn (r:Option Int) (w:World) (e:Ending) (w':World):Prop:=∃(x:Int) (b:Bool),e= .returned (.tuple #[.int .i64 x,.bool b])∧((b=true∧r=some x)∨(b=false∧r=none))∧Below w.heap.size w w'
theorem IX (w:World) (mb:Nat) (cs:Array Value) (Ty:TypeId) (D:List Ng) (nO:Option Addr) (nC:Nat) (fr:Nat→Nat) (l:Nat) (sg:ByteArray) (rn:Nat) (op:ByteArray) (z:Int) (wt:Bool) (no:Option Addr) (nn nc:Nat) (d e:Ng) (hs:bI w mb 1 cs Ty D nO nC) (aF:b6 D fr) (hn:rn<D.length) (hd:D[fr rn]?=some d) (hz:op.toList≠[]→∃zn:Nat,z=(zn:Int)∧zn<D.length∧D[fr zn]?=some e) (sd: -1000000000≤d.val∧d.val≤1000000000) (se: -1000000000≤e.val∧e.val≤1000000000):
 Calls Tryz.prog 180 #[.pointer (some ⟨mb,0,none⟩),.agg #[.int .i64 (l:Int),.string sg,.int .i64 (rn:Int),.string op,.int .i64 z,.bool wt,.slice no nn nc]] w fun x w'=>Vn (lh op.toList d e) w x w':=by
 have hb0:=(Below.refl w.heap.size w).alloc (Nat.le_refl _) (.cells #[.int .i64 (l:Int),.string sg,.int .i64 (rn:Int),.string op,.int .i64 z,.bool wt,.slice no nn nc] 158)
 have IN:=af (xE _ mb cs Ty D nO nC fr rn d (hs.below hb0) aF hn hd)
 have IZ:=af (fun W (hb:Below w.heap.size w W) (zn:Nat) (hl:zn<D.length) (he:D[fr zn]?=some e)=>xE W mb cs Ty D nO nC fr zn e (hs.below hb) aF hl he)
 have HX:=af (heap_alloc_new w (.cells #[.int .i64 (l:Int),.string sg,.int .i64 (rn:Int),.string op,.int .i64 z,.bool wt,.slice no nn nc] 158))
 have aY:=af hb0
 have HZ:=af hz
 have zk:=af sd
 have T8:=af se
 clear hs aF hn hd hz hb0 sd se
 go_enter Tryz.func180,Tryz.ntmps180
 go_wp2_with fail
 refine(ae IN).mono ?_
 rintro ee w2 ⟨rfl,hb2⟩
 have hx2:=(hb2.block w.heap.size (by simp)).trans (ae HX)
 have c3:=ah hx2 3
 have c4:=ah hx2 4
 have xz:=ag hx2
 simp only[List.getElem?_toArray,List.getElem?_cons_zero,List.getElem?_cons_succ]at c3 c4
 have hb3:=(ae aY).trans (hb2.mono (ae aY).size)
 have bQ:=af hb3
 have WT:=af hx2
 clear hb2 hb3 hx2 IN aY HX
 by_cases h1:d.k=2
 ·have t1:(d.k == 2)=true:=by simpa using h1
  rw[t1]
  by_cases h2:op.toList=[]
  ·have t2:(op.toList == [])=true:=by rw[h2];rfl
   have HR:=af (show lh op.toList d e=some d.val by unfold lh;rw[if_pos h1,if_pos h2])
   clear h1 h2
   go_wp2_with fail
   refine bodyPost_ret (v:= .tuple #[.int .i64 d.val,.bool true]) (by simp[results,Tryz.results180,go_sem]) rfl ?_
   exact⟨_,_,rfl,Or.inl ⟨rfl,ae HR⟩,ae bQ⟩
  ·have t2:(op.toList == [])=false:=by simpa using h2
   obtain⟨zn,rfl,zl,ze⟩:=ae HZ h2
   have IY:=af (ae IZ _ (ae bQ) zn zl ze)
   have km:=af (show lh op.toList d e=if e.k=2 then(if -1000000000≤arith op.toList d.val e.val∧arith op.toList d.val e.val≤1000000000 then some (arith op.toList d.val e.val)else none)else none by unfold lh;rw[if_pos h1,if_neg h2])
   clear h1 h2 zl ze IZ HZ
   go_wp2_with fail
   refine(ae IY).mono ?_
   rintro ee w4 ⟨rfl,hb4⟩
   have Qm:=(hb4.block w.heap.size xz).trans (ae WT)
   have c3':=ah Qm 3
   have xz4:=ag Qm
   simp only[List.getElem?_toArray,List.getElem?_cons_zero,List.getElem?_cons_succ]at c3'
   have dr:=af ((ae bQ).trans (hb4.mono (ae bQ).size))
   clear hb4 Qm IY c3 c4
   by_cases h3:e.k=2
   ·have t3:(e.k == 2)=true:=by simpa using h3
    rw[t3]
    rw[if_pos h3]at km
    have IC:=af (KX w4 d.val e.val op (ae zk).1 (ae zk).2 (ae T8).1 (ae T8).2)
    generalize arith op.toList d.val e.val=x at*
    clear h3
    by_cases h4:x≤1000000000
    ·by_cases h5: -1000000000≤x
     ·rw[if_pos ⟨h5,h4⟩]at km
      have t4:decide (1000000000<x)=false:=by simp;omega
      have t5:decide (x< -1000000000)=false:=by simp;omega
      clear h4 h5
      go_wp2_with fail
      refine(ae IC).mono ?_
      rintro ee w5 ⟨rfl,rfl⟩
      go_wp2_with fail
      refine bodyPost_ret (v:= .tuple #[.int .i64 x,.bool true]) (by simp[results,Tryz.results180,go_sem]) rfl ?_
      exact⟨_,_,rfl,Or.inl ⟨rfl,ae km⟩,ae dr⟩
     ·rw[if_neg (fun q=>h5 q.1)]at km
      have t4:decide (1000000000<x)=false:=by simp;omega
      have t5:decide (x< -1000000000)=true:=by simp;omega
      clear h4 h5
      go_wp2_with fail
      refine(ae IC).mono ?_
      rintro ee w5 ⟨rfl,rfl⟩
      go_wp2_with fail
      refine bodyPost_ret (v:= .tuple #[.int .i64 0,.bool false]) (by simp[results,Tryz.results180,go_sem]) rfl ?_
      exact⟨_,_,rfl,Or.inr ⟨rfl,ae km⟩,ae dr⟩
    ·rw[if_neg (fun q=>h4 q.2)]at km
     have t4:decide (1000000000<x)=true:=by simp;omega
     clear h4
     go_wp2_with fail
     refine(ae IC).mono ?_
     rintro ee w5 ⟨rfl,rfl⟩
     go_wp2_with fail
     refine bodyPost_ret (v:= .tuple #[.int .i64 0,.bool false]) (by simp[results,Tryz.results180,go_sem]) rfl ?_
     exact⟨_,_,rfl,Or.inr ⟨rfl,ae km⟩,ae dr⟩
   ·have t3:(e.k == 2)=false:=by simpa using h3
    rw[t3]
    rw[if_neg h3]at km
    clear h3
    go_wp2_with fail
    refine bodyPost_ret (v:= .tuple #[.int .i64 0,.bool false]) (by simp[results,Tryz.results180,go_sem]) rfl ?_
    exact⟨_,_,rfl,Or.inr ⟨rfl,ae km⟩,ae dr⟩
 ·have t1:(d.k == 2)=false:=by simpa using h1
  rw[t1]
  have HR:=af (show lh op.toList d e=none by unfold lh;rw[if_neg h1])
  clear h1
  go_wp2_with fail
  refine bodyPost_ret (v:= .tuple #[.int .i64 d.val,.bool false]) (by simp[results,Tryz.results180,go_sem]) rfl ?_
  exact⟨_,_,rfl,Or.inr ⟨rfl,ae HR⟩,ae bQ⟩
theorem B7 (D:List Gl) (n j:Nat) (hn:n<D.length) (hj:j<7) (d:Gl) (v:Value) (h:fN d=(fN D[n]).set j v):(D.set n d).flatMap fN=(D.flatMap fN).set (n*7+j) v:=by
 induction D generalizing n with
 | nil=>simp at hn
 | cons e D ih=>
  cases n with
  | zero=>
   simp only[List.set_cons_zero,List.flatMap_cons]
   rw[List.set_append_left _ _ (by rw[glC_len];omega)]
   rw[h]
   simp
  | succ n=>
   simp only[List.set_cons_succ,List.flatMap_cons]
   rw[List.set_append_right _ _ (by rw[glC_len];omega),glC_len,ih n (by simpa using hn) (by simpa using h)]
   congr 2
   omega
theorem cP.Qn {w w':World} {mb:Nat} {cs:Array Value} {D:List Ng} {nO:Option Addr} {nC:Nat} {fr:Nat→Nat} {G G':List Gl} {po:Option Addr} {pc:Nat} (h:cP w mb cs D nO nC fr G po pc) (hf:au (rowOf po) (rowOf po) w w') (hl:G'.length=G.length) (hp:w'.ownsRow 0 158 7 (.slice po G.length pc) G.length (G'.flatMap fN)) (hn:∀g∈G',w.ownsRow 0 3 1 (.slice g.no g.nd.length g.nc) g.nd.length (g.nd.map aM)) (ht:∀g∈G',∀v∈g.nd,v<D.length) (hm:∀g∈G',g.nd.length≤1000000000):cP w' mb cs D nO nC fr G' po pc:=by
 have keep:∀(g:Nat) (ys:Array Value) (S:TypeId),w.heap[g]?=some (.cells ys S (0,0))→S≠158→w'.heap[g]?=w.heap[g]?:=fun g ys S hg hS=>hf.block g (ag hg) (aR h.pool hg hS)
 refine⟨⟨(keep mb _ _ h.st.blk (by decide)).trans h.st.blk,h.st.cel,ai h.st.own fun g q=> ?_,h.st.ty⟩,h.ok,by rw[hl];exact h.c3,by rw[hl];exact hp,fun g hg=>ai (hn g hg) fun k q=> ?_,ht,hm⟩
 ·obtain⟨cur,hc⟩:=aK h.st.own (aI q)
  exact keep g _ _ hc (by decide)
 ·obtain⟨cur,hc⟩:=aK (hn g hg) (aI q)
  exact keep k _ _ hc (by decide)
theorem B8 (w:World) (mb:Nat) (cs:Array Value) (D:List Ng) (nO:Option Addr) (nC:Nat) (fr:Nat→Nat) (G:List Gl) (po:Option Addr) (pc i:Nat) (gi:Gl) (nd:List Nat) (no:Option Addr) (nc:Nat) (h:cP w mb cs D nO nC fr G po pc) (hi:i<G.length) (fj:G[i]=gi) (hn:w.ownsRow 0 3 1 (.slice no nd.length nc) nd.length (nd.map aM)) (hlt:∀v∈nd,v<D.length) (hl:nd.length≤1000000000):
 Calls Tryz.prog 179 #[.pointer (some ⟨mb,0,none⟩),.int .i64 (i:Int),.slice no nd.length nc] w fun e w'=>e= .returned (.int .i64 (-1))∧cP w' mb cs D nO nC fr (G.set i {gi with wt:=true,no:=no,nc:=nc,nd:=nd}) po pc∧au (rowOf po) (rowOf po) w w':=by
 have f3:=(ah h.st.blk 3).trans h.c3
 have mz:=ag h.st.blk
 obtain⟨g,hg⟩:∃g,po=some ⟨g,0,none⟩:=by
  rcases h.pool.2 with⟨q,q2⟩ | ⟨g,cp,cur,q,_⟩
  ·omega
  ·simp only[Value.slice.injEq]at q
   exact⟨g,q.1⟩
 subst hg
 have gz:=(h.pool.lt g rfl).2
 have gne:g≠mb:=fun e=>by
  obtain⟨cur,hc⟩:=aK h.pool (g:=g) ⟨_,rfl,rfl⟩
  rw[e,h.st.blk]at hc
  simp only[Option.some.injEq,Obj.cells.injEq]at hc
  exact absurd hc.2.1 (by decide)
 have fc:∀k,k<7→w.cell? ⟨g,i*7+k,none⟩=(fN gi)[k]?:=fun k hk=>by
  rw[h.pool.cellAt (i*7+k) (by omega),←fj]
  exact qR hi k hk
 have e5:=fc 5 (by omega)
 have e6:=fc 6 (by omega)
 simp only[fN,List.getElem?_cons_zero,List.getElem?_cons_succ]at e5 e6
 have x5:=h.pool.frozenAt (i*7+5)
 have x6:=h.pool.frozenAt (i*7+6)
 have i0:(0:Int)≤(i:Int):=by omega
 have i1:(i:Int)<(G.length:Int):=by omega
 obtain⟨p1,p2⟩:=h.pool.stored (i*7+5) (.bool true)
 obtain⟨p3,p4⟩:=p1.stored (i*7+6) (.slice no nd.length nc)
 have cW:au (rowOf (some ⟨g,0,none⟩)) (rowOf (some ⟨g,0,none⟩)) w ((w.setCell ⟨g,i*7+5,none⟩ (.bool true)).setCell ⟨g,i*7+6,none⟩ (.slice no nd.length nc)):=
  ⟨p4.os.trans p2.os,p4.tape.trans p2.tape,p4.output.trans p2.output,Nat.le_trans p2.size p4.size,fun k hk hr=>by
   have hne:k≠g:=fun e=>hr ⟨⟨g,0,none⟩,rfl,e⟩
   rw[aJ _ _ _ _ hne,aJ _ _ _ _ hne],fun _ q=>Or.inl q⟩
 have ME:(G.set i {gi with wt:=true,no:=no,nc:=nc,nd:=nd}).flatMap fN=((G.flatMap fN).set (i*7+5) (.bool true)).set (i*7+6) (.slice no nd.length nc):=by
  have a1:=B7 G i 5 hi (by omega) {gi with wt:=true} (.bool true) (by rw[fj];rfl)
  have a2:=B7 (G.set i {gi with wt:=true}) i 6 (by simpa using hi) (by omega) {gi with wt:=true,no:=no,nc:=nc,nd:=nd} (.slice no nd.length nc) (by simp[fN])
  rw[List.set_set]at a2
  rw[a2,a1]
 have HR:=af (h.Qn cW (G':=G.set i {gi with wt:=true,no:=no,nc:=nc,nd:=nd}) (by simp) (by rw[ME];exact p3) (fun q hq=>by
  rcases List.mem_or_eq_of_mem_set hq with e | e
  ·exact h.nds q e
  ·rw[e];exact hn) (fun q hq=>by
  rcases List.mem_or_eq_of_mem_set hq with e | e
  ·exact h.nlt q e
  ·rw[e];exact hlt) (fun q hq=>by
  rcases List.mem_or_eq_of_mem_set hq with e | e
  ·exact h.nl q e
  ·rw[e];exact hl))
 have HF:=af cW
 clear h hn hlt cW ME p1 p2 p3 p4 fc fj
 go_enter Tryz.func179,Tryz.ntmps179
 go_wp2_with fail
 go_ret
 exact⟨rfl,ae HR,ae HF⟩
theorem infoGoal:(Tryz.prog.info? 158).map (fun i=>(i.zero,i.size,i.bytes))=some (some (.agg #[.int .i64 0,.string ⟨#[]⟩,.int .i64 0,.string ⟨#[]⟩,.int .i64 0,.bool false,.slice none 0 0]),7,88):=by kernel_rfl
theorem KY (G:List Gl) (i j:Nat) (h:j<G.length):(G.take (j+1)).eraseIdx i=(G.take j).eraseIdx i++(if j=i then []else [G[j]]):=by
 have e:G.take (j+1)=G.take j++[G[j]]:=by rw[List.take_add_one,List.getElem?_eq_getElem h];rfl
 have hl:(G.take j).length=j:=by rw[List.length_take];omega
 rw[e]
 rcases Nat.lt_trichotomy j i with q | q | q
 ·rw[List.eraseIdx_of_length_le (by simp;omega),List.eraseIdx_of_length_le (by omega),if_neg (by omega)]
 ·subst q
  have h1:(G.take j).eraseIdx j=G.take j:=List.eraseIdx_of_length_le (Nat.le_of_eq hl)
  have h2:(G.take j++[G[j]]).eraseIdx j=G.take j++[G[j]].eraseIdx (j - (G.take j).length):=List.eraseIdx_append_of_length_le (Nat.le_of_eq hl) _
  rw[h1,h2,hl,Nat.sub_self,if_pos rfl]
  rfl
 ·rw[List.eraseIdx_append_of_lt_length (by omega),if_neg (by omega)]
def WU (w:World) (G:List Gl) (i:Nat) (k:Nat) (av iv:Value) (wr:World):Prop:=
 ∃j:Nat,k+j=G.length∧iv= .int .i64 (j:Int)∧wr.ownsRow w.heap.size 158 7 av ((G.take j).eraseIdx i).length (((G.take j).eraseIdx i).flatMap fN)∧Below w.heap.size w wr
theorem cP.left {w w1:World} {mb:Nat} {cs:Array Value} {D:List Ng} {nO:Option Addr} {nC:Nat} {fr:Nat→Nat} {G G':List Gl} {po po':Option Addr} {pc pc':Nat} (h:cP w mb cs D nO nC fr G po pc) (hb:Below w.heap.size w w1) (hs:∀g∈G',g∈G) (ho:w1.ownsRow w.heap.size 158 7 (.slice po' G'.length pc') G'.length (G'.flatMap fN)):
 cP (w1.setCell ⟨mb,3,none⟩ (.slice po' G'.length pc')) mb (cs.setIfInBounds 3 (.slice po' G'.length pc')) D nO nC fr G' po' pc'∧au (fun k=>k=mb) (fun k=>k=mb∨rowOf po' k) w (w1.setCell ⟨mb,3,none⟩ (.slice po' G'.length pc')):=by
 have mz:=ag h.st.blk
 have keep:∀g,g≠mb→g<w.heap.size→(w1.setCell ⟨mb,3,none⟩ (.slice po' G'.length pc')).heap[g]?=w.heap[g]?:=fun g h1 h2=>by rw[aJ _ _ _ _ h1,hb.block g h2]
 have h3:3<cs.size:=(Array.getElem?_eq_some_iff.1 h.c3).1
 refine⟨⟨⟨?_,?_,ai h.st.own fun g q=>keep g (fun e=> ?_) (h.st.own.lt g q).2,h.st.ty⟩,h.ok,?_,ai (ct ho (Nat.zero_le _)) fun g q=>aJ _ _ _ _ (by have:=(ho.lt g q).1;omega),fun g hg=>ai (h.nds g (hs g hg)) fun k q=>keep k (fun e=> ?_) ((h.nds g (hs g hg)).lt k q).2,fun g hg=>h.nlt g (hs g hg),fun g hg=>h.nl g (hs g hg)⟩,⟨hb.os,hb.tape,hb.output,by rw[cL];exact hb.size,fun k hk hr=>keep k hr hk,fun k q=> ?_⟩⟩
 ·exact aA ((hb.block mb mz).trans h.st.blk) 3 (.slice po' G'.length pc')
 ·rw[Array.getElem?_setIfInBounds_ne (by omega)];exact h.st.cel
 ·exact aR h.st.own h.st.blk h.st.ty (e ▸ aI q)
 ·rw[Array.getElem?_setIfInBounds_self,if_pos h3]
 ·exact aR (h.nds g (hs g hg)) h.st.blk (by decide) (e ▸ aI q)
 ·rcases q with e | ⟨p,hp,hq⟩
  ·exact Or.inl e
  ·right
   exact(ho.lt k (by rw[hp,hq];rfl)).1
theorem tR (w:World) (mb:Nat) (cs:Array Value) (D:List Ng) (nO:Option Addr) (nC:Nat) (fr:Nat→Nat) (G:List Gl) (po:Option Addr) (pc i:Nat) (h:cP w mb cs D nO nC fr G po pc) (hl:G.length≤1000000):
 Calls Tryz.prog 139 #[.pointer (some ⟨mb,0,none⟩),.int .i64 (i:Int)] w fun e w'=>e= .returned (.int .i64 0)∧∃po' pc',cP w' mb (cs.setIfInBounds 3 (.slice po' (G.eraseIdx i).length pc')) D nO nC fr (G.eraseIdx i) po' pc'∧au (fun k=>k=mb) (fun k=>k=mb∨rowOf po' k) w w':=by
 have f3:=(ah h.st.blk 3).trans h.c3
 have mz:=ag h.st.blk
 have H:=af h
 obtain⟨tj,hj,iM,iN,iO⟩:=info_parts infoGoal
 clear h
 go_enter Tryz.func139,Tryz.ntmps139
 go_wp2_with fail
 go_loopg [5,13] G.length (fun k av iv wr=>WU w G i k av iv wr)
 case atStart=>exact⟨0,by omega,rfl,by simpa using World.ownsRow_nil _ _ _ _,Below.refl _ _⟩
 case round=>
  obtain⟨j,hkj,rfl,how,aO⟩:=hrel
  obtain⟨oo,oc,rfl⟩:=gG how
  by_cases hlt:j<G.length
  ·obtain⟨g,hg⟩:∃g,po=some ⟨g,0,none⟩:=by
    rcases(ae H).pool.2 with⟨q,q2⟩ | ⟨g,cp,cur,q,_⟩
    ·omega
    ·simp only[Value.slice.injEq]at q
     exact⟨g,q.1⟩
   subst hg
   have gz0:=((ae H).pool.lt g rfl).2
   have fc:∀i,i<7→wr.cell? ⟨g,j*7+i,none⟩=(fN G[j])[i]?:=fun i hi=>by
    rw[aO.cell (p:=⟨g,j*7+i,none⟩) gz0,(ae H).pool.cellAt (j*7+i) (by omega)]
    exact qR hlt i hi
   have e0:=fc 0 (by omega)
   have e1:=fc 1 (by omega)
   have e2:=fc 2 (by omega)
   have e3:=fc 3 (by omega)
   have e4:=fc 4 (by omega)
   have e5:=fc 5 (by omega)
   have e6:=fc 6 (by omega)
   simp only[fN,List.getElem?_cons_zero,List.getElem?_cons_succ,Nat.add_zero]at e0 e1 e2 e3 e4 e5 e6
   have gz:g<wr.heap.size:=Nat.lt_of_lt_of_le gz0 aO.size
   have z0:w.heap.size≤wr.heap.size:=aO.size
   have i0:(0:Int)≤(j:Int):=by omega
   have i1:(j:Int)<(G.length:Int):=by omega
   have fw:=af (KY G i j hlt)
   have hle:((G.take j).eraseIdx i).length≤1000000:=by
    have:=List.length_eraseIdx_le (G.take j) i
    rw[List.length_take]at this
    omega
   have HOW:=af how
   have bT:=af aO
   have aT:=af hkj
   have bh:=af hlt
   generalize (G.take j).eraseIdx i=Z at*
   generalize G[j]=gg at*
   clear how aO hkj hlt fc
   by_cases hi:j=i
   ·rw[if_pos hi,List.append_nil]at fw
    have t1:((j:Int) == (i:Int))=true:=by simp;omega
    have t2:((j:Int) != (i:Int))=false:=by simp;omega
    clear hi
    go_wp2_with fail
    go_roundg (gk - 1)
    case measure=>have:=ae aT;have:=ae bh;omega
    case rel=>exact⟨j+1,by have:=ae aT;have:=ae bh;omega,by go_num,by rw[ae fw];exact ai (ae HOW) (fun k q=>Below.heap_alloc _ _ _ ((ae HOW).lt k q).2),(ae bT).alloc (ae bT).size _⟩
   ·rw[if_neg hi]at fw
    have t1:((j:Int) == (i:Int))=false:=by simp;omega
    have t2:((j:Int) != (i:Int))=true:=by simp;omega
    clear hi
    go_wp2_with (first | (at_builtin;go_must (refine wpList_append_own_at _ rfl (.tmp 21) (.tmp 23) 89 rfl w.heap.size 158 tj (.agg #[.int .i64 0,.string ⟨#[]⟩,.int .i64 0,.string ⟨#[]⟩,.int .i64 0,.bool false,.slice none 0 0]) 7 88 Tryz.underlying89 hj iM iN iO rfl (by decide) _ Z.length (Z.flatMap fN) rfl (((ae HOW).alloc _).alloc _) ⟨wr.heap.size+1,0,none⟩ 1 1 [.int .i64 (gg.l:Int),.string gg.sg,.int .i64 gg.r,.string gg.op,.int .i64 gg.z,.bool gg.wt,.slice gg.no gg.nd.length gg.nc] rfl rfl (Fu _ _ _ _ _ (by simp) rfl) (by simp[Value.oneCell']) (by unfold maxLen;omega) (by omega) (by simp;omega) ?_);go_must (intro v' w7 hown' hgrow _ _;have mD:=af hown';have mE:=af ((((ae bT).alloc (ae bT).size _).alloc (by simp;omega) _).grown hgrow (by simp;omega) (fun k q=>by have:=((ae HOW).lt k q).1;omega));clear hown' hgrow)))
    go_roundg (gk - 1)
    case measure=>have:=ae aT;have:=ae bh;omega
    case rel=>exact⟨j+1,by have:=ae aT;have:=ae bh;omega,by go_num,by rw[ae fw];have:=ae mD;simpa [fN] using this,ae mE⟩
  ·obtain rfl:j=G.length:=by omega
   rw[List.take_length]at how
   have HR:=af ((ae H).left aO (G':=G.eraseIdx i) (fun g hg=>List.mem_of_mem_eraseIdx hg) how)
   have f3':=(aO.cell (p:=⟨mb,3,none⟩) mz).trans f3
   have hb3:=(aO.block mb mz).trans (ae H).st.blk
   have x3:=ay hb3 3
   have mz':=ag hb3
   clear how aO hkj hb3
   go_wp2_with fail
   go_ret
   rw[List.take_length]
   exact⟨rfl,_,_,ae HR⟩
theorem cP.linked {w w':World} {mb:Nat} {cs:Array Value} {D D':List Ng} {nO:Option Addr} {nC:Nat} {fr fr':Nat→Nat} {G:List Gl} {po:Option Addr} {pc:Nat} (h:cP w mb cs D nO nC fr G po pc) (hs:bI w' mb 1 cs 91 D' nO nC) (hd:cR D D') (hf:au (rowOf nO) (rowOf nO) w w') (ho:b6 D' fr'):cP w' mb cs D' nO nC fr' G po pc:=by
 have keep:∀(g:Nat) (ys:Array Value) (S:TypeId),w.heap[g]?=some (.cells ys S (0,0))→S≠180→w'.heap[g]?=w.heap[g]?:=fun g ys S hg hS=>hf.block g (ag hg) (h.st.apart hg hS)
 refine⟨hs,ho,h.c3,ai h.pool fun g q=> ?_,fun g hg=>ai (h.nds g hg) fun k q=> ?_,fun g hg v hv=>by rw[hd.len];exact h.nlt g hg v hv,h.nl⟩
 ·obtain⟨cur,hc⟩:=aK h.pool (aI q)
  exact keep g _ _ hc (by decide)
 ·obtain⟨cur,hc⟩:=aK (h.nds g hg) (aI q)
  exact keep k _ _ hc (by decide)
def zv (mb:Nat) (cs:Array Value) (D:List Ng) (nO:Option Addr) (nC:Nat) (fr:Nat→Nat) (TT:Nat→Za.U) (G:List Gl) (i a b:Nat) (w:World) (e:Ending) (w':World):Prop:=
 (∃(D':List Ng) (fr':Nat→Nat) (σ:Za.Vr→Za.U) (T':Nat→Za.U) (po':Option Addr) (pc':Nat),e= .returned (.int .i64 0)∧cR D D'∧Za.Made (aX D) fr fr' TT T' (TT a) (TT b) σ∧cP w' mb (cs.setIfInBounds 3 (.slice po' (G.eraseIdx i).length pc')) D' nO nC fr' (G.eraseIdx i) po' pc'∧au (fun k=>rowOf nO k∨k=mb) (fun k=>rowOf nO k∨k=mb∨rowOf po' k) w w')∨
 ((∀θ,Za.sub θ (TT a)≠Za.sub θ (TT b))∧e= .returned (.int .i64 (-2))∧w'.heap[mb]?=some (.cells (cs.setIfInBounds 5 (.int .i64 4)) 91 (0,0))∧au (fun k=>rowOf nO k∨k=mb) (fun k=>rowOf nO k∨k=mb) w w')
theorem xF (w:World) (mb:Nat) (cs:Array Value) (D:List Ng) (nO:Option Addr) (nC:Nat) (fr:Nat→Nat) (TT:Nat→Za.U) (P:Nat→Prop) (G:List Gl) (po:Option Addr) (pc i a b:Nat) (h:cP w mb cs D nO nC fr G po pc) (bC:aZ w D P) (fD:Za.dG (aX D) fr TT) (ha:a<D.length) (hb:b<D.length) (hD:D.length≤1000000000) (hG:G.length≤1000000) (hc:5<cs.size):
 Calls Tryz.prog 137 #[.pointer (some ⟨mb,0,none⟩),.int .i64 (i:Int),.int .i64 (a:Int),.int .i64 (b:Int)] w fun e w'=>zv mb cs D nO nC fr TT G i a b w e w':=by
 have IU:=af ((NQ w mb 1 cs 91 D nO nC P fr a b h.st h.ok bC ha hb hD).mono fun e w' q=>q.says fD)
 have mz:=ag h.st.blk
 have H:=af h
 clear h bC fD ha hb hD
 go_enter Tryz.func137,Tryz.ntmps137
 go_wp2_with fail
 refine(ae IU).mono ?_
 rintro e w2 ⟨r,D',rfl,st2,sm2,fr2,yes,no⟩
 have mz2:=ag st2.blk
 have HF:=af ((fr2.wide (fun k=>k=mb)))
 cases r with
 | true=>
  obtain⟨fr',σ,T',ok2,md⟩:=yes rfl
  have IL:=af (tR w2 mb cs D' nO nC fr' G po pc i ((ae H).linked st2 sm2 fr2 ok2) hG)
  have WV:=af md
  have ji:=af sm2
  clear st2 sm2 fr2 yes no ok2 md IU
  go_wp2_with fail
  refine(ae IL).mono ?_
  rintro e w3 ⟨rfl,po',pc',m3,fr3⟩
  have Qo:=af m3
  have vE:=af fr3
  clear m3 fr3 IL
  go_wp2_with fail
  go_ret
  refine Or.inl ⟨D',fr',σ,T',po',pc',rfl,ae ji,ae WV,ae Qo,(ae HF).trans ((ae vE).SV (rowOf nO))⟩
 | false=>
  have IL:=af (wB w2 mb cs 4 st2.blk hc)
  have gQ:=af (no rfl)
  have HR:=af (aA st2.blk 5 (.int .i64 4))
  clear st2 sm2 fr2 yes no IU
  go_wp2_with fail
  refine(ae IL).mono ?_
  rintro e w3 ⟨rfl,rfl⟩
  go_wp2_with fail
  go_ret
  refine Or.inr ⟨ae gQ,rfl,ae HR,(ae HF).trans ⟨rfl,rfl,rfl,by rw[cL];exact Nat.le_refl _,fun k _ hr=>aJ _ _ _ _ (fun e=>hr (Or.inr e)),fun _ q=>Or.inl q⟩⟩
theorem wC (w:World) (sb so:Nat) (cs:Array Value) (T:TypeId) (D:List Ng) (no:Option Addr) (nc:Nat) (h:bI w sb so cs T D no nc):
 Calls Tryz.prog 159 #[.pointer (some ⟨sb,so,none⟩),.int .i64 (-1)] w fun e w'=>e= .returned (.bool false)∧w'=w:=by
 have s0:=h.cell
 have sz:=ag h.blk
 clear h
 go_enter Tryz.func159,Tryz.ntmps159
 go_wp2_with fail
 go_ret
 exact⟨rfl,rfl⟩
theorem xG (w:World) (sb so:Nat) (cs:Array Value) (T:TypeId) (D:List Ng) (no:Option Addr) (nc:Nat) (h:bI w sb so cs T D no nc):
 Calls Tryz.prog 100 #[.pointer (some ⟨sb,so,none⟩),.int .i64 (-1)] w fun e w'=>e= .returned (.int .i64 (-1))∧w'=w:=by
 have HH:=af (wC w sb so cs T D no nc h)
 clear h
 go_enter Tryz.func100,Tryz.ntmps100
 go_wp2_with fail
 refine wp_loop_rounds 1 ?_
 rw[rounds_succ]
 go_wp2_with fail
 refine(ae HH).mono ?_
 rintro e w2 ⟨rfl,rfl⟩
 go_wp2_with fail
 go_ret
 exact⟨rfl,rfl⟩
theorem xH (w:World) (sb so:Nat) (cs:Array Value) (T:TypeId) (D:List Ng) (no:Option Addr) (nc:Nat) (h:bI w sb so cs T D no nc):
 Calls Tryz.prog 99 #[.pointer (some ⟨sb,so,none⟩),.int .i64 (-1)] w fun e w'=>e= .returned (.agg #[.int .i64 0,.int .i64 0,.string ⟨#[]⟩,.int .i64 0])∧Below w.heap.size w w':=by
 have hb:=(Below.refl w.heap.size w).alloc (Nat.le_refl _) (.cells #[.int .i64 0,.int .i64 0,.string ⟨#[]⟩,.int .i64 0] 177)
 have HF:=af (xG _ sb so cs T D no nc (h.below hb))
 have HH:=af (wC _ sb so cs T D no nc (h.below hb))
 have HB:=af hb
 clear h hb
 go_enter Tryz.func99,Tryz.ntmps99
 go_wp2_with fail
 refine(ae HF).mono ?_
 rintro e w2 ⟨rfl,rfl⟩
 go_wp2_with fail
 refine(ae HH).mono ?_
 rintro e w2 ⟨rfl,rfl⟩
 go_wp2_with fail
 refine bodyPost_ret (v:= .agg #[.int .i64 0,.int .i64 0,.string ⟨#[]⟩,.int .i64 0]) (by simp[results,Tryz.results99,go_sem]) rfl ?_
 exact⟨rfl,ae HB⟩
theorem zC (w:World) (sb so:Nat) (cs:Array Value) (T:TypeId) (D:List Ng) (no:Option Addr) (nc:Nat) (h:bI w sb so cs T D no nc):
 Calls Tryz.prog 98 #[.pointer (some ⟨sb,so,none⟩),.int .i64 (-1)] w fun e w'=>e= .returned (.slice none 0 0)∧w'=w:=by
 have HF:=af (xG w sb so cs T D no nc h)
 have HH:=af (wC w sb so cs T D no nc h)
 clear h
 go_enter Tryz.func98,Tryz.ntmps98
 go_wp2_with fail
 refine(ae HF).mono ?_
 rintro e w2 ⟨rfl,rfl⟩
 go_wp2_with fail
 refine(ae HH).mono ?_
 rintro e w2 ⟨rfl,rfl⟩
 go_wp2_with fail
 go_ret
 exact⟨rfl,rfl⟩
theorem I0 (w:World) (sb so:Nat) (cs:Array Value) (T:TypeId) (D:List Ng) (no:Option Addr) (nc:Nat) (h:bI w sb so cs T D no nc):
 Calls Tryz.prog 56 #[.pointer (some ⟨sb,so,none⟩),.int .i64 (-1),.int .i64 40] w fun e w'=>e= .returned (.int .i64 1)∧w'=w:=by
 have HA:=af (zC w sb so cs T D no nc h)
 clear h
 go_enter Tryz.func56,Tryz.ntmps56
 go_wp2_with fail
 refine(ae HA).mono ?_
 rintro e w2 ⟨rfl,rfl⟩
 go_wp2_with fail
 refine wp_loop_rounds 1 ?_
 rw[rounds_succ]
 go_wp2_with fail
 go_ret
 exact⟨rfl,rfl⟩
theorem FH (w:World) (lb sb so:Nat) (cs:Array Value) (T:TypeId) (D:List Ng) (no:Option Addr) (nc:Nat) (R:Nat→Prop) (S:List Int) (W:List Nat) (nb:Bool) (hs:bI w sb so cs T D no nc) (h:dp w lb S W nb R):
 Calls Tryz.prog 162 #[.pointer (some ⟨lb,0,none⟩),.pointer (some ⟨sb,so,none⟩),.int .i64 (-1)] w fun e w'=>e= .returned (.tuple #[])∧dp w' lb S W nb R∧au R R w w':=by
 have HL:=af (xH w sb so cs T D no nc hs)
 have H:=af h
 clear hs h
 go_enter Tryz.func162,Tryz.ntmps162
 go_wp2_with fail
 refine(ae HL).mono ?_
 rintro e w2 ⟨rfl,hb2⟩
 have bf:=af hb2
 have z2:=hb2.size
 clear hb2
 go_wp2_with fail
 go_end0
 exact⟨rfl,(ae H).below ((ae bf).alloc z2 _),au.aw ((ae bf).alloc z2 _)⟩
def pD (len:Nat) (x:Int):Prop:=x= -1∨∃n:Nat,x=(n:Int)∧n<len
def lj (w:World) (o:Option Addr) (xs:List Int):Prop:=xs≠[]→∃g,o=some ⟨g,0,none⟩∧g<w.heap.size∧∀i (h:i<xs.length),w.cell? ⟨g,i,none⟩=some (.int .i64 xs[i])
theorem lj.qT {w:World} {o:Option Addr} {xs:List Int} {c b:Nat} (h:w.ownsRow b 3 1 (.slice o xs.length c) xs.length (xs.map fU)):lj w o xs:=fun hne=>by
 have hp:0<xs.length:=List.length_pos_iff.2 hne
 rcases h.2 with⟨q,q2⟩ | ⟨g,cp,cur,q,_⟩
 ·omega
 ·simp only[Value.slice.injEq]at q
  obtain⟨rfl,_⟩:=q
  refine⟨g,rfl,(h.lt g rfl).2,fun i hi=> ?_⟩
  rw[h.cellAt i (by omega),List.getElem?_map,List.getElem?_eq_getElem hi]
  rfl
theorem lj.below {w w':World} {o:Option Addr} {xs:List Int} (h:lj w o xs) (hb:Below w.heap.size w w'):lj w' o xs:=fun hne=>by
 obtain⟨g,h1,h2,h3⟩:=h hne
 exact⟨g,h1,Nat.lt_of_lt_of_le h2 hb.size,fun i hi=>(hb.cell (p:=⟨g,i,none⟩) h2).trans (h3 i hi)⟩
theorem lj.N9 {w:World} {D:List Ng} {P:Nat→Prop} (h:aZ w D P) {d:Ng} (hd:d∈D):lj w d.ao (d.args.map fun n:Nat=>(n:Int)):=fun hne=>by
 obtain⟨g,h1,h2,h3⟩:=h.at hd (fun q=>hne (by rw[q];rfl))
 exact⟨g,h1,h2,fun i hi=>by rw[h3 i (by simpa using hi)];simp⟩
def fX (TT:Nat→Za.U) (x:Int):Bool:=decide (x≠-1∧40<Za.size (TT x.toNat))
theorem KZ (TT:Nat→Za.U):fX TT (-1)=false:=by simp[fX]
theorem K0 (TT:Nat→Za.U) (n:Nat):fX TT (n:Int)=decide (40<min (Za.size (TT n)) 41):=by
 unfold fX
 rw[Int.toNat_natCast]
 congr 1
 apply propext
 omega
theorem tS (w:World) (mb:Nat) (cs:Array Value) (Ty:TypeId) (D:List Ng) (nO:Option Addr) (nC:Nat) (fr:Nat→Nat) (TT:Nat→Za.U) (P:Nat→Prop) (xs:List Int) (xo:Option Addr) (xc:Nat) (hs:bI w mb 1 cs Ty D nO nC) (aF:b6 D fr) (bC:aZ w D P) (pZ:∀n,n<D.length→Za.Tr (aX D) fr n (TT n)) (hx:lj w xo xs) (hn:∀x∈xs,pD D.length x) (hl:xs.length≤1000000000):
 Calls Tryz.prog 141 #[.pointer (some ⟨mb,0,none⟩),.slice xo xs.length xc] w fun e w'=>e= .returned (.bool (xs.any (fX TT)))∧w'=w:=by
 have HX:=af hx
 have HN:=af hn
 have ISZ:=af (show∀x∈xs,Calls Tryz.prog 56 #[.pointer (some ⟨mb,1,none⟩),.int .i64 x,.int .i64 40] w fun e w'=>∃s:Nat,e= .returned (.int .i64 (s:Int))∧decide (40<s)=fX TT x∧s≤41∧w'=w from fun x Ea=>by
  rcases hn x Ea with rfl | ⟨n,rfl,jm⟩
  ·exact(I0 w mb 1 cs Ty D nO nC hs).mono fun e w' q=>⟨1,q.1,by rw[KZ];rfl,by omega,q.2⟩
  ·exact(size_all _ w mb 1 cs Ty D nO nC P fr n (TT n) 40 hs aF bC jm (pZ n jm) (Nat.le_refl _) (by omega)).mono fun e w' q=>⟨_,q.1,(K0 TT n).symm,by omega,q.2⟩)
 clear hs aF bC pZ hx hn
 go_enter Tryz.func141,Tryz.ntmps141
 go_wp2_with fail
 go_loopg [9] xs.length (fun k iv wr=>∃j:Nat,k+j=xs.length∧iv= .int .i64 (j:Int)∧wr=w∧(xs.take j).any (fX TT)=false)
 case atStart=>exact⟨0,by omega,rfl,rfl,by simp⟩
 case round=>
  obtain⟨j,hkj,rfl,rfl,hno⟩:=hrel
  by_cases hlt:j<xs.length
  ·obtain⟨g,hg,gz,T9⟩:=ae HX (fun q=>by rw[q]at hlt;simp at hlt)
   subst hg
   have f0:wr.cell? ⟨g,j,none⟩=some (.int .i64 xs[j]):=T9 j hlt
   clear T9
   have i0:(0:Int)≤(j:Int):=by omega
   have i1:(j:Int)<(xs.length:Int):=by omega
   have IC:=af (ae ISZ xs[j] (List.getElem_mem hlt))
   have hst:xs.take (j+1)=xs.take j++[xs[j]]:=by rw[List.take_add_one,List.getElem?_eq_getElem hlt];rfl
   have gX:xs[j]∈xs:=List.getElem_mem hlt
   have bh:=af hlt
   have aT:=af hkj
   generalize xs[j]=x at*
   have HST:=af hst
   have gQ:=af hno
   have FI:=af gX
   clear hno hkj hst gX hlt
   go_wp2_with fail
   refine(ae IC).mono ?_
   rintro e w5 ⟨s,rfl,MF,h41,rfl⟩
   by_cases hb:40<s
   ·have t1:decide ((40:Int)<(s:Int))=true:=by simp;omega
    have HY:=af (show xs.any (fX TT)=true from List.any_eq_true.2 ⟨x,ae FI,by rw[←MF];simpa using hb⟩)
    clear hb MF
    go_wp2_with fail
    go_ret
    exact⟨by rw[ae HY];rfl,rfl⟩
   ·have t1:decide ((40:Int)<(s:Int))=false:=by simp;omega
    have HY:=af (show (xs.take (j+1)).any (fX TT)=false by rw[ae HST,List.any_append,ae gQ];simp[←MF];omega)
    clear hb MF
    go_wp2_with fail
    go_roundg (gk - 1)
    case measure=>have:=ae aT;have:=ae bh;omega
    case rel=>exact⟨j+1,by have:=ae aT;have:=ae bh;omega,by go_num,rfl,ae HY⟩
  ·have gQ:=af (show xs.any (fX TT)=false by rwa [List.take_of_length_le (by omega)]at hno)
   clear hno
   obtain rfl:j=xs.length:=by omega
   go_wp2_with fail
   go_ret
   exact⟨by rw[ae gQ];rfl,rfl⟩
def gJ (fr:Nat→Nat) (G:List Gl):Int:=if G=[]then 1 else if cE fr G G.length=[]then 2 else 3
theorem xI (w:World) (mb:Nat) (cs:Array Value) (Ty:TypeId) (k:Int) (h:w.heap[mb]?=some (.cells cs Ty (0,0))) (h5:cs[5]?=some (.int .i64 k)) (hk:k≠0):
 Calls Tryz.prog 46 #[.pointer (some ⟨mb,0,none⟩)] w fun e w'=>e= .returned (.tuple #[])∧w'=w:=by
 have c5:=(ah h 5).trans h5
 have mz:=ag h
 have t1:(k == 0)=false:=by simpa using hk
 have t2:(k != 0)=true:=by simpa using hk
 clear h h5 hk
 go_enter Tryz.func46,Tryz.ntmps46
 go_wp2_with fail
 first | (go_end0;exact⟨rfl,rfl⟩) | (go_ret;exact⟨rfl,rfl⟩) | (refine bodyPost_ret (v:= .tuple #[]) (by simp[results,Tryz.results46,go_sem]) rfl ?_;exact⟨rfl,rfl⟩)
theorem zD (w:World) (mb:Nat) (cs:Array Value) (D:List Ng) (nO:Option Addr) (nC:Nat) (fr:Nat→Nat) (G:List Gl) (po:Option Addr) (pc:Nat) (h:cP w mb cs D nO nC fr G po pc) (hl:G.length≤1000000) (h5:cs[5]?=some (.int .i64 0)):
 Calls Tryz.prog 46 #[.pointer (some ⟨mb,0,none⟩)] w fun e w'=>e= .returned (.tuple #[])∧∃W,Below w.heap.size w W∧w'=W.setCell ⟨mb,5,none⟩ (.int .i64 (gJ fr G)):=by
 have c5:=(ah h.st.blk 5).trans h5
 have mz:=ag h.st.blk
 have IR:=af (zu w mb cs D nO nC fr G po pc h hl)
 have H:=af h
 clear h
 go_enter Tryz.func46,Tryz.ntmps46
 go_wp2_with fail
 refine(ae IR).mono ?_
 rintro e w2 ⟨oo,oc,rfl,-,hb2⟩
 have h2:=(ae H).below hb2
 have d3:=(ah h2.st.blk 3).trans h2.c3
 have d5:=(ah h2.st.blk 5).trans h5
 have x5:=ay h2.st.blk 5
 have mz2:=ag h2.st.blk
 have HB:=af hb2
 have B9:=af (show gJ fr G=if G=[]then 1 else if cE fr G G.length=[]then 2 else 3 from rfl)
 generalize cE fr G G.length=Z at*
 clear h2 hb2 IR H c5 h5
 cases G with
 | nil=>
  rw[if_pos rfl]at B9
  go_wp2_with fail
  go_end0
  exact⟨rfl,w2,ae HB,by rw[ae B9]⟩
 | cons g G=>
  rw[if_neg (by simp)]at B9
  have t1:(((G.length+1:Nat):Int) == 0)=false:=by simp;omega
  have t1':(((G.length:Nat):Int)+1 == 0)=false:=by simp;omega
  cases Z with
  | nil=>
   rw[if_pos rfl]at B9
   go_wp2_with fail
   go_end0
   exact⟨rfl,w2,ae HB,by rw[ae B9]⟩
  | cons z Z=>
   rw[if_neg (by simp)]at B9
   have t2:(((Z.length+1:Nat):Int) == 0)=false:=by simp;omega
   have t2':(((Z.length:Nat):Int)+1 == 0)=false:=by simp;omega
   go_wp2_with fail
   go_end0
   exact⟨rfl,w2,ae HB,by rw[ae B9]⟩
theorem FJ (w:World) (mb:Nat) (cs:Array Value) (Ty:TypeId) (D:List Ng) (nO:Option Addr) (nC:Nat) (fr:Nat→Nat) (P:Nat→Prop) (g:Gl) (d:Ng) (hs:bI w mb 1 cs Ty D nO nC) (aF:b6 D fr) (bC:aZ w D P) (hn:g.l<D.length) (hd:D[fr g.l]?=some d) (aW:g.sg.toList=[]):
 Calls Tryz.prog 142 #[.pointer (some ⟨mb,0,none⟩),.agg #[.int .i64 (g.l:Int),.string g.sg,.int .i64 g.r,.string g.op,.int .i64 g.z,.bool g.wt,.slice g.no g.nd.length g.nc]] w fun e w'=>e= .returned (.slice d.ao d.args.length d.cap)∧lj w' d.ao (d.args.map fun n:Nat=>(n:Int))∧Below w.heap.size w w':=by
 obtain⟨l,sg,r,op,z,wt,no,nc,nd⟩:=g
 dsimp only at*
 obtain⟨k,hk⟩:=aF.hop l hn
 have gX:d∈D:=List.mem_of_getElem? hd
 have hb0:=(Below.refl w.heap.size w).alloc (Nat.le_refl _) (.cells #[.int .i64 (l:Int),.string sg,.int .i64 r,.string op,.int .i64 z,.bool wt,.slice no nd.length nc] 158)
 have HA:=af (fun W (hb:Below w.heap.size w W)=>lW W mb 1 cs Ty D nO nC l (fr l) k d (hs.below hb) hk hd)
 have HR:=af (fun W (hb:Below w.heap.size w W)=>(lj.N9 bC gX).below hb)
 have mz:=ag hs.blk
 have aY:=af hb0
 have t1:(sg.toList == [])=true:=by rw[aW];rfl
 clear hs aF bC hn hd hk gX hb0 aW
 go_enter Tryz.func142,Tryz.ntmps142
 go_wp2_with fail
 go_region_with (go_at_call 98;refine(ae HA _ (by first | exact ae aY | exact(ae aY).drew | exact(ae aY).drew.drew | exact(ae aY).drew.drew.drew | exact(ae aY).drew.drew.drew.drew)).mono ?_;rintro e w5 ⟨rfl,rfl⟩)
 all_goals
  go_wp2_with fail
  go_ret
  first
   | exact⟨rfl,ae HR _ (ae aY),ae aY⟩
   | exact⟨rfl,ae HR _ (ae aY).drew,(ae aY).drew⟩
   | exact⟨rfl,ae HR _ (ae aY).drew.drew,(ae aY).drew.drew⟩
   | exact⟨rfl,ae HR _ (ae aY).drew.drew.drew,(ae aY).drew.drew.drew⟩
theorem FK (w:World) (mb:Nat) (g:Gl) (aW:g.sg.toList≠[]):
 Calls Tryz.prog 142 #[.pointer (some ⟨mb,0,none⟩),.agg #[.int .i64 (g.l:Int),.string g.sg,.int .i64 g.r,.string g.op,.int .i64 g.z,.bool g.wt,.slice g.no g.nd.length g.nc]] w fun e w'=>∃o c,e= .returned (.slice o 3 c)∧lj w' o [(g.l:Int),g.r,g.z]∧Below w.heap.size w w':=by
 obtain⟨l,sg,r,op,z,wt,no,nc,nd⟩:=g
 dsimp only at*
 have t1:(sg.toList == [])=false:=by simpa using aW
 clear aW
 go_enter Tryz.func142,Tryz.ntmps142
 go_wp2_with fail
 go_ret
 refine⟨_,_,rfl,fun _=>⟨w.heap.size+1,rfl,by simp,fun i hi=> ?_⟩,((Below.refl _ _).alloc (Nat.le_refl _) _).alloc (by simp) _⟩
 match i,hi with
 | 0,_=>simp
 | 1,_=>simp
 | 2,_=>simp
def iT (D:List Ng) (fr:Nat→Nat) (g:Gl):List Int:=if g.sg.toList=[]then((D[fr g.l]?).elim [] fun d=>d.args.map fun n:Nat=>(n:Int))else [(g.l:Int),g.r,g.z]
def WW (D:List Ng) (fr:Nat→Nat) (g:Gl) (w:World) (e:Ending) (w':World):Prop:=∃o c,e= .returned (.slice o (iT D fr g).length c)∧lj w' o (iT D fr g)∧Below w.heap.size w w'
theorem I1 (w:World) (mb:Nat) (cs:Array Value) (Ty:TypeId) (D:List Ng) (nO:Option Addr) (nC:Nat) (fr:Nat→Nat) (P:Nat→Prop) (g:Gl) (hs:bI w mb 1 cs Ty D nO nC) (aF:b6 D fr) (bC:aZ w D P) (hn:g.l<D.length):
 Calls Tryz.prog 142 #[.pointer (some ⟨mb,0,none⟩),.agg #[.int .i64 (g.l:Int),.string g.sg,.int .i64 g.r,.string g.op,.int .i64 g.z,.bool g.wt,.slice g.no g.nd.length g.nc]] w fun e w'=>WW D fr g w e w':=by
 have hf:=aF.lt hn
 by_cases h:g.sg.toList=[]
 ·refine(FJ w mb cs Ty D nO nC fr P g D[fr g.l] hs aF bC hn (List.getElem?_eq_getElem hf) h).mono ?_
  rintro e w' ⟨h1,h2,h3⟩
  have e:iT D fr g=D[fr g.l].args.map fun n:Nat=>(n:Int):=by unfold iT;rw[if_pos h,List.getElem?_eq_getElem hf];rfl
  exact⟨_,_,by rw[e,List.length_map];exact h1,by rw[e];exact h2,h3⟩
 ·refine(FK w mb g h).mono ?_
  rintro e w' ⟨o,c,h1,h2,h3⟩
  have e:iT D fr g=[(g.l:Int),g.r,g.z]:=by unfold iT;rw[if_neg h]
  exact⟨o,c,by rw[e];exact h1,by rw[e];exact h2,h3⟩
def jr (D:List Ng) (fr:Nat→Nat) (TT:Nat→Za.U) (g:Gl):Bool:=(iT D fr g).any (fX TT)
def WX (w:World) (D:List Ng) (fr:Nat→Nat) (TT:Nat→Za.U) (G:List Gl) (k:Nat) (iv:Value) (wr:World):Prop:=
 ∃j:Nat,k+j=G.length∧iv= .int .i64 (j:Int)∧Below w.heap.size w wr∧(G.take j).any (jr D fr TT)=false
theorem FL (w:World) (mb:Nat) (cs:Array Value) (D:List Ng) (nO:Option Addr) (nC:Nat) (fr:Nat→Nat) (TT:Nat→Za.U) (P:Nat→Prop) (G:List Gl) (po:Option Addr) (pc:Nat) (vs:List Int) (vo:Option Addr) (vc:Nat) (h:cP w mb cs D nO nC fr G po pc) (bC:aZ w D P) (pZ:∀n,n<D.length→Za.Tr (aX D) fr n (TT n)) (hc2:cs[2]?=some (.slice vo vs.length vc)) (hv:lj w vo vs) (Ua:∀x∈vs,pD D.length x) (jF:vs.length≤1000000000) (tT:∀g∈G,g.l<D.length∧(∀x∈iT D fr g,pD D.length x)∧(iT D fr g).length≤1000000000) (hl:G.length≤24):
 Calls Tryz.prog 85 #[.pointer (some ⟨mb,0,none⟩)] w fun e w'=>e= .returned (.bool (vs.any (fX TT)||G.any (jr D fr TT)))∧Below w.heap.size w w':=by
 have f3:=(ah h.st.blk 3).trans h.c3
 have f2:=(ah h.st.blk 2).trans hc2
 have mz:=ag h.st.blk
 have t1:decide ((24:Int)<(G.length:Int))=false:=by simp;omega
 have IV:=af (tS w mb cs _ D nO nC fr TT P vs vo vc h.st h.ok bC pZ hv Ua jF)
 have IP:=af (fun W (hb:Below w.heap.size w W) (g:Gl) (hg:g∈G)=>I1 W mb cs _ D nO nC fr P g ((h.below hb).st) h.ok (bC.below hb) (tT g hg).1)
 have IH:=af (fun W (hb:Below w.heap.size w W) (g:Gl) (hg:g∈G) (o:Option Addr) (c:Nat) (hx:lj W o (iT D fr g))=>tS W mb cs _ D nO nC fr TT P (iT D fr g) o c ((h.below hb).st) h.ok (bC.below hb) pZ hx (tT g hg).2.1 (tT g hg).2.2)
 have H:=af h
 clear h bC pZ hc2 hv Ua jF tT
 have hq:vs.any (fX TT)=true∨vs.any (fX TT)=false:=by cases vs.any (fX TT)<;>simp
 have HQ:=af hq
 clear hq
 rcases ae HQ with hq | hq
 ·rw[hq]at IV
  have HR:=af (show (vs.any (fX TT)||G.any (jr D fr TT))=true by rw[hq];rfl)
  clear hq HQ
  go_enter Tryz.func85,Tryz.ntmps85
  go_wp2_with fail
  refine(ae IV).mono ?_
  rintro e w2 ⟨rfl,rfl⟩
  go_wp2_with fail
  go_ret
  exact⟨by rw[ae HR];rfl,Below.refl _ _⟩
 ·rw[hq]at IV
  have HR:=af (show (vs.any (fX TT)||G.any (jr D fr TT))=G.any (jr D fr TT)by rw[hq];rfl)
  clear hq HQ
  go_enter Tryz.func85,Tryz.ntmps85
  go_wp2_with fail
  refine(ae IV).mono ?_
  rintro e w2 ⟨rfl,rfl⟩
  go_wp2_with fail
  go_loopg [25] G.length (fun k iv wr=>WX w2 D fr TT G k iv wr)
  case atStart=>exact⟨0,by omega,rfl,Below.refl _ _,by simp⟩
  case round=>
   obtain⟨j,hkj,rfl,aO,hno⟩:=hrel
   by_cases hlt:j<G.length
   ·obtain⟨g,hg⟩:∃g,po=some ⟨g,0,none⟩:=by
     rcases(ae H).pool.2 with⟨q,q2⟩ | ⟨g,cp,cur,q,_⟩
     ·omega
     ·simp only[Value.slice.injEq]at q
      exact⟨g,q.1⟩
    subst hg
    have gz0:=((ae H).pool.lt g rfl).2
    have fc:∀i,i<7→wr.cell? ⟨g,j*7+i,none⟩=(fN G[j])[i]?:=fun i hi=>by
     rw[aO.cell (p:=⟨g,j*7+i,none⟩) gz0,(ae H).pool.cellAt (j*7+i) (by omega)]
     exact qR hlt i hi
    have e0:=fc 0 (by omega)
    have e1:=fc 1 (by omega)
    have e2:=fc 2 (by omega)
    have e3:=fc 3 (by omega)
    have e4:=fc 4 (by omega)
    have e5:=fc 5 (by omega)
    have e6:=fc 6 (by omega)
    simp only[fN,List.getElem?_cons_zero,List.getElem?_cons_succ,Nat.add_zero]at e0 e1 e2 e3 e4 e5 e6
    have gz:g<wr.heap.size:=Nat.lt_of_lt_of_le gz0 aO.size
    have i0:(0:Int)≤(j:Int):=by omega
    have i1:(j:Int)<(G.length:Int):=by omega
    have gX:G[j]∈G:=List.getElem_mem hlt
    have hst:G.take (j+1)=G.take j++[G[j]]:=by rw[List.take_add_one,List.getElem?_eq_getElem hlt];rfl
    have hW:=aO.alloc aO.size (.cells #[.int .i64 (G[j].l:Int),.string G[j].sg,.int .i64 G[j].r,.string G[j].op,.int .i64 G[j].z,.bool G[j].wt,.slice G[j].no G[j].nd.length G[j].nc] 158)
    have IPj:=af (ae IP _ hW G[j] gX)
    have HW:=af hW
    have HST:=af hst
    have gQ:=af hno
    have FI:=af gX
    have aT:=af hkj
    have bh:=af hlt
    generalize G[j]=gg at*
    clear hno aO hkj hlt fc hst gX hW
    go_wp2_with fail
    refine(ae IPj).mono ?_
    rintro e w5 ⟨o,c,rfl,hx,bF⟩
    have gC:=(ae HW).trans (bF.mono (ae HW).size)
    have IHj:=af (ae IH w5 gC gg (ae FI) o c hx)
    have iQ:=af gC
    have zi:jr D fr TT gg=true∨jr D fr TT gg=false:=by cases jr D fr TT gg<;>simp
    have oB:=af zi
    clear hx bF gC zi
    change Hid (Calls _ _ _ _ fun e w'=>e= .returned (.bool (jr D fr TT gg))∧w'=w5)at IHj
    generalize (iT D fr gg).length=pl at*
    rcases ae oB with hb | hb
    ·rw[hb]at IHj
     have HY:=af (show G.any (jr D fr TT)=true from List.any_eq_true.2 ⟨gg,ae FI,hb⟩)
     clear hb oB
     go_wp2_with fail
     refine(ae IHj).mono ?_
     rintro e w6 ⟨rfl,rfl⟩
     go_wp2_with fail
     go_ret
     exact⟨by rw[ae HR,ae HY];rfl,ae iQ⟩
    ·rw[hb]at IHj
     have HY:=af (show (G.take (j+1)).any (jr D fr TT)=false by rw[ae HST,List.any_append,ae gQ];simp[hb])
     clear hb oB
     go_wp2_with fail
     refine(ae IHj).mono ?_
     rintro e w6 ⟨rfl,rfl⟩
     go_wp2_with fail
     go_roundg (gk - 1)
     case measure=>have:=ae aT;have:=ae bh;omega
     case rel=>exact⟨j+1,by have:=ae aT;have:=ae bh;omega,by go_num,ae iQ,ae HY⟩
   ·have gQ:=af (show G.any (jr D fr TT)=false by rwa [List.take_of_length_le (by omega)]at hno)
    have bT:=af aO
    clear hno aO
    obtain rfl:j=G.length:=by omega
    go_wp2_with fail
    go_ret
    exact⟨by rw[ae HR,ae gQ];rfl,ae bT⟩
theorem Ca (w:World) (mb:Nat) (cs:Array Value) (D:List Ng) (nO:Option Addr) (nC:Nat) (fr:Nat→Nat) (G:List Gl) (po:Option Addr) (pc:Nat) (h:cP w mb cs D nO nC fr G po pc) (hl:24<G.length):
 Calls Tryz.prog 85 #[.pointer (some ⟨mb,0,none⟩)] w fun e w'=>e= .returned (.bool true)∧w'=w:=by
 have f3:=(ah h.st.blk 3).trans h.c3
 have mz:=ag h.st.blk
 have t1:decide ((24:Int)<(G.length:Int))=true:=by simp;omega
 clear h
 go_enter Tryz.func85,Tryz.ntmps85
 go_wp2_with fail
 go_ret
 exact⟨rfl,rfl⟩
theorem I3 (w:World) (sb so nb:Nat) (cs:Array Value) (T:TypeId) (D:List Ng) (no:Option Addr) (nc:Nat) (h:bI w sb so cs T D no nc):
 Calls Tryz.prog 57 #[.pointer (some ⟨sb,so,none⟩),.int .i64 (-1),.pointer (some ⟨nb,0,none⟩)] w fun e w'=>e= .returned (.agg #[.int .i64 0,.int .i64 0,.string ⟨#[]⟩,.slice none 0 0])∧Below w.heap.size w w':=by
 have HL:=af (fun W (hb:Below w.heap.size w W)=>xH W sb so cs T D no nc (h.below hb))
 have HA:=af (fun W (hb:Below w.heap.size w W)=>zC W sb so cs T D no nc (h.below hb))
 have hb0:=(Below.refl w.heap.size w).alloc (Nat.le_refl _) (.cells #[.int .i64 0,.int .i64 0,.string ⟨#[]⟩,.slice none 0 0] 76)
 have km:=af (heap_alloc_new w (.cells #[.int .i64 0,.int .i64 0,.string ⟨#[]⟩,.slice none 0 0] 76))
 have aY:=af hb0
 clear h hb0
 go_enter Tryz.func57,Tryz.ntmps57
 go_wp2_with fail
 refine(ae HL _ (ae aY)).mono ?_
 rintro e w1 ⟨rfl,hb1⟩
 have hr1:=(hb1.block w.heap.size (by simp)).trans (ae km)
 have d0:=ah hr1
 have x0:=ay hr1
 have dz:=ag hr1
 have hb2:=(ae aY).trans (hb1.mono (ae aY).size)
 have bf:=af hb2
 have z2:=hb2.size
 clear hb1 hr1 hb2
 go_wp2_with fail
 refine(ae HA _ (((ae bf).alloc z2 _).alloc (by simp;omega) _)).mono ?_
 rintro e w3 ⟨rfl,rfl⟩
 go_wp2_with fail
 refine wp_loop_rounds 1 ?_
 rw[rounds_succ]
 go_wp2_with fail
 refine bodyPost_ret (v:= .agg #[.int .i64 0,.int .i64 0,.string ⟨#[]⟩,.slice none 0 0]) (by simp[results,Tryz.results57,go_sem,d0,dz,World.cell?_alloc_past]) rfl ?_
 exact⟨rfl,((((((ae bf).setCell (Nat.le_refl _) _).setCell (Nat.le_refl _) _).setCell (Nat.le_refl _) _).setCell (Nat.le_refl _) _).alloc (by simp only[cL];exact z2) _).alloc (by simp only[World.size_alloc,cL];omega) _⟩
end Go.Proofs.YthfjnfcekeknlaaGreatDoor
