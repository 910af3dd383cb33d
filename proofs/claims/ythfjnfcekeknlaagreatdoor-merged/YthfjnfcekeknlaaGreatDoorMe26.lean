import Derived.Test.YthfjnfcekeknlaaGreatDoorMe22
import Derived.Test.YthfjnfcekeknlaaGreatDoorMe25
import Derived.Deep.LoopGhost
set_option maxHeartbeats 8000000
set_option maxRecDepth 100000
namespace Go.Proofs.YthfjnfcekeknlaaGreatDoor
open Go.RowKit
theorem gO.Lu {P:Nat→Prop} {W:World} {rb sb so:Nat} {cs:Array Value} {T S0:TypeId} {cb:Nat} {D:List Ng} {V:List Nat} {no':Option Addr} {nc:Nat} {vo:Option Addr} {vc:Nat} {fr:Nat→Nat} {TT:Nat→Zc.U} {ys:Array Value} (h:gO P W sb so cs T cb D V no' nc vo vc fr TT) (hr:W.heap[rb]?=some (.cells ys S0 (0,0))) (h1:S0≠T) (h2:S0≠180) (h3:S0≠93) (h4:S0≠3) (v0 v1 v2:Value):gO P (((W.setCell ⟨rb,0,none⟩ v0).setCell ⟨rb,1,none⟩ v1).setCell ⟨rb,2,none⟩ v2) sb so cs T cb D V no' nc vo vc fr TT:=by
 refine h.gq fun g xs S hg hS=>mq W v0 v1 v2 fun e=> ?_
 subst e
 rw[hr]at hg
 simp only[Option.some.injEq,Obj.cells.injEq]at hg
 obtain⟨_,rfl,_⟩:=hg
 rcases hS with e | e | e | e
 ·exact h1 e
 ·exact h2 e
 ·exact h3 e
 ·exact h4 e
theorem Lv {W:World} {rb b n:Nat} {o:Option Addr} {cap:Nat} {zs:List Value} {ys:Array Value} {S0:TypeId} (ho:W.ownsRow b 3 1 (.slice o n cap) n zs) (hr:W.heap[rb]?=some (.cells ys S0 (0,0))) (h4:S0≠3) {v0 v1 v2:Value}:(((W.setCell ⟨rb,0,none⟩ v0).setCell ⟨rb,1,none⟩ v1).setCell ⟨rb,2,none⟩ v2).ownsRow b 3 1 (.slice o n cap) n zs:=by
 refine ai ho fun g q=>mq W v0 v1 v2 fun e=> ?_
 subst e
 obtain⟨cur,hc⟩:=aM ho (aI q)
 rw[hr]at hc
 simp only[Option.some.injEq,Obj.cells.injEq]at hc
 exact h4 hc.2.1
theorem au.TC {R R':Nat→Prop} {w w':World} (h:au R R' w w') (X:Nat→Prop):au (fun k=>X k∨R k) (fun k=>X k∨R' k) w w':=⟨h.os,h.tape,h.output,h.size,fun k hk hn=>h.block k hk (fun q=>hn (Or.inr q)),fun k q=>by
 rcases q with q | q
 ·exact Or.inl (Or.inl q)
 ·rcases h.row k q with e | e
  ·exact Or.inl (Or.inr e)
  ·exact Or.inr e⟩
theorem au.fin {R R':Nat→Prop} {w W:World} (h:au R R' w W) {rb:Nat} (hb:w.heap.size≤rb) (v0 v1 v2:Value):au R R' w ((((W.setCell ⟨rb,0,none⟩ v0).setCell ⟨rb,1,none⟩ v1).setCell ⟨rb,2,none⟩ v2).drew):=⟨h.os,h.tape,h.output,by have:=h.size;simpa [World.drew,cN] using this,fun k hk hn=>(mq W v0 v1 v2 (by omega)).trans (h.block k hk hn),h.row⟩
theorem inc_len:∀(F:List Nat) (b c:Nat),F.Pairwise (·<·)→(∀n∈F,b≤n∧n<b+c)→F.length≤c
 | [],_,_,_,_=>Nat.zero_le _
 | n :: F,b,c,hp,h=>by
  obtain⟨h1,h2⟩:=List.pairwise_cons.1 hp
  have h0:=h n (by simp)
  have:=inc_len F (n+1) (b+c - (n+1)) h2 (fun m hm=>by have:=h1 m hm;have:=(h m (by simp[hm])).2;omega)
  rw[List.length_cons]
  omega
theorem QR {b:Nat} {E:List Ng} {F:List Nat} (h:fH b E F):F.length≤E.length:=by
 refine inc_len F b E.length h.ord fun n hn=> ?_
 obtain⟨h1,d,h2,_⟩:=h.var n hn
 have:=(List.getElem?_eq_some_iff.1 h2).1
 omega
def UA (PP:Nat→Prop) (w:World) (lb sb so:Nat) (cs:Array Value) (T:TypeId) (cb:Nat) (D:List Ng) (V:List Nat) (no:Option Addr) (fr:Nat→Nat) (TT:Nat→Zc.U) (N ns:List (List UInt8)) (S:List Int) (tests:List Zc.aH) (k:Nat) (iv:Value) (wr:World):Prop:=
 ∃(j:Nat) (E:List Ng) (F:List Nat) (no':Option Addr) (nc':Nat) (vo':Option Addr) (vc':Nat) (T':Nat→Zc.U) (R:Nat→Prop),k+j=tests.length∧iv= .int .i64 (j:Int)∧gO (fun g=>PP g∧¬R g) wr sb so (cs.setIfInBounds so (.slice no' (D++E).length nc')) T cb (D++E) (V++F) no' nc' vo' vc' fr T'∧(∀m,m<D.length→T' m=TT m)∧dL D.length E∧fH D.length E F∧(V++F).length=(Zc.aC ns (tests.take j)).length∧E.length≤j*13122∧
  dp wr lb S (Zc.iU (cR T' (V++F) N) (tests.take j)).wt (Zc.iU (cR T' (V++F) N) (tests.take j)).no R∧(Zc.iU (cR T' (V++F) N) (tests.take j)).wt.length≤j*2000000∧au (cF sb no) (fun k=>bX sb no' cb vo' k∨R k) w wr∧(∀k,R k→¬bX sb no' cb vo' k)∧wr.heap[w.heap.size+1]?=some (.cells #[.int .i64 0,.slice none 0 0,.slice none 0 0] 245 (0,0))∧w.heap.size+2<cb
def Xx (PP:Nat→Prop) (sb so:Nat) (cs:Array Value) (T:TypeId) (D:List Ng) (V:List Nat) (no:Option Addr) (fr:Nat→Nat) (TT:Nat→Zc.U) (N ns:List (List UInt8)) (tests:List Zc.aH) (w:World) (e:Ending) (w':World):Prop:=
 ∃(l:Zc.Wn) (E:List Ng) (F:List Nat) (no':Option Addr) (nc':Nat) (vo':Option Addr) (vc':Nat) (T':Nat→Zc.U) (oo:Option Addr) (oc:Nat),l=Zc.iU (cR T' (V++F) N) tests∧e= .returned (.agg #[.int .i64 (l.says:Int),.slice oo (Zc.ko (V++F) V.length l.wt).length oc,.slice vo' (V++F).length vc'])∧w'.ownsRow w.heap.size 3 1 (.slice oo (Zc.ko (V++F) V.length l.wt).length oc) (Zc.ko (V++F) V.length l.wt).length ((Zc.ko (V++F) V.length l.wt).map aK)∧w'.ownsRow 0 3 1 (.slice vo' (V++F).length vc') (V++F).length ((V++F).map aK)∧(∀k,rowOf vo' k→cF sb no k∨w.heap.size≤k)∧
  bG w' sb so (cs.setIfInBounds so (.slice no' (D++E).length nc')) T (D++E) no' nc'∧bV (D++E) fr∧Zc.dH (aZ (D++E)) fr T'∧a8 w' (D++E) (fun g=>PP g∧¬rowOf vo' g)∧(∀n∈V++F,n<(D++E).length)∧(∀m,m<D.length→T' m=TT m)∧dL D.length E∧fH D.length E F∧(V++F).length=(Zc.aC ns tests).length∧E.length≤78732∧au (cF sb no) (cF sb no') w w'
theorem gO.start {PP R:Nat→Prop} {w w4:World} {sb so:Nat} {cs:Array Value} {T:TypeId} {D:List Ng} {V:List Nat} {no:Option Addr} {nc:Nat} {oo:Option Addr} {oc b:Nat} {fr:Nat→Nat} {TT:Nat→Zc.U} (hG:gB w w.heap.size sb so cs T D no nc fr TT PP) (hb:Below w.heap.size w w4) (ho:w4.ownsRow b 3 1 (.slice oo V.length oc) V.length (V.map aK)) (zR:w.heap.size≤b) (hR:∀k,R k→w.heap.size≤k) (t1:T≠93) (t2:T≠3) (hV:∀n∈V,n<D.length):gO (fun g=>PP g∧¬R g) (w4.alloc (.cells #[.slice oo V.length oc] 93)) sb so cs T w4.heap.size D V no nc oo oc fr TT:=by
 have hb':=hb.alloc hb.size (.cells #[.slice oo V.length oc] 93)
 refine⟨⟨hG.st.below hb',⟨heap_alloc_new w4 _,ai (cf ho (Nat.zero_le _)) (fun g q=>Below.heap_alloc _ _ _ (ho.lt g q).2)⟩,t1,t2,hG.ar.keep fun g _ hp hg=>⟨(hb'.block g (ag hg)).trans hg,⟨⟨hp,fun q=> ?_⟩,fun q=> ?_⟩⟩⟩,hG.ok,hG.to,hV⟩
 ·have:=hR g q;have:=ag hg;omega
 ·obtain⟨p,rfl,e⟩:=q
  have:=(ho.lt g (by rw[e];rfl)).1
  have:=ag hg
  omega
theorem F9 (w:World) (sb so:Nat) (cs:Array Value) (Ty:TypeId) (D:List Ng) (no:Option Addr) (nc:Nat) (fr:Nat→Nat) (TT:Nat→Zc.U) (PP:Nat→Prop) (a:AV) (o1 o2:Option Addr) (n1 c1 n2 c2 n:Nat) (N M:List (List UInt8)) (p:Zc.Tm) (tests:List Zc.aH) (hG:gB w w.heap.size sb so cs Ty D no nc fr TT PP) (hPP:∀g,w.heap.size≤g→PP g) (hT:Ty≠76) (hTi:Ty≠151) (hTl:Ty≠189) (hTa:Ty≠245) (hTs:Ty≠93) (hTn:Ty≠3) (hr:RA 8 N anyA w a p) (su:b6 N w o1 n1 tests) (hN:N=Zc.aC (Zc.namesF 8 [] p) tests++M) (wp:Zc.wfK 8 p) (UB:∀x∈tests,Zc.iL x) (q9:tests.length≤6) (hn:n<D.length) (hsz:Zc.size (TT n)≤300) (hD:D.length+100000≤1000000000) (hy:(Zc.matU 8 p (TT n) ⟨[],Zc.Wn.none⟩).w.says=1) (h0:tests=[]):
 Calls Tryz.prog 182 #[.pointer (some ⟨sb,so,none⟩),.agg #[.int .i64 a.k,.int .i64 a.val,.string a.tx,.slice a.ao a.n a.cap,.slice o1 n1 c1,.slice o2 n2 c2],.int .i64 (n:Int)] w fun e w'=>∃V:List Nat,V.length=(Zc.namesF 8 [] p).length∧(∀m∈V,m<D.length)∧(∀(i:Nat) (x:List UInt8) (m:Nat),(Zc.namesF 8 [] p)[i]?=some x→V[i]?=some m→∃q,(Zc.matU 8 p (TT n) ⟨[],Zc.Wn.none⟩).st.find? (fun q=>q.1 == x)=some q∧TT m=q.2)∧Xx PP sb so cs Ty D V no fr TT N (Zc.namesF 8 [] p) tests w e w':=by
 obtain⟨k,val,tx,ao,m,cp⟩:=a
 have H0:=af h0
 clear h0
 dsimp only
 obtain⟨rfl,QT⟩:=su
 have Nl:=af QT
 clear QT
 obtain⟨KK,hKK⟩:=Zc.jW tests (Zc.namesF 8 [] p)
 have hN1:N=Zc.namesF 8 [] p++(KK++M):=by rw[hN,hKK,List.append_assoc]
 have hq:=RA.less (hN1 ▸ hr) wp (Zc.sY 8 p [] fun y hy=>hy)
 have hML:=Zc.namesK_len 8 p [] wp
 have hND:=Zc.namesF_nodup 8 p [] (by simp)
 have q3:3 ^ 8=6561:=by decide
 have hML':(Zc.namesF 8 [] p).length≤6561:=by simp at hML;omega
 have hsm:=(Zc.uN (B:=300) 8 p (TT n) ⟨[],Zc.Wn.none⟩ wp hsz (by omega) (fun q hq=>by cases hq)).1
 have UC:=(Zc.mat_yes 8 p (TT n) ⟨[],Zc.Wn.none⟩ wp ((Zc.Wn.Bp _).1 hy)).2.2 []
 have wJ:=(Zc.Wn.Bp _).1 hy
 have hu:=(((Below.refl w.heap.size w).alloc (Nat.le_refl _) (.cells #[.int .i64 k,.int .i64 val,.string tx,.slice ao m cp,.slice o1 tests.length c1,.slice o2 n2 c2] 78)).alloc (by simp) (.cells #[.int .i64 0,.slice none 0 0,.slice none 0 0] 245)).alloc (by simp;omega) (.cells #[.slice none 0 0,.slice none 0 0,.bool false] 189)
 have hl0:=wu ((w.alloc (.cells #[.int .i64 k,.int .i64 val,.string tx,.slice ao m cp,.slice o1 tests.length c1,.slice o2 n2 c2] 78)).alloc (.cells #[.int .i64 0,.slice none 0 0,.slice none 0 0] 245))
 simp only[World.size_alloc]at hl0
 have qf:=aB (heap_alloc_new (w.alloc (.cells #[.int .i64 k,.int .i64 val,.string tx,.slice ao m cp,.slice o1 tests.length c1,.slice o2 n2 c2] 78)) (.cells #[.int .i64 0,.slice none 0 0,.slice none 0 0] 245)) (.cells #[.slice none 0 0,.slice none 0 0,.bool false] 189)
 rw[World.size_alloc]at qf
 have hc0:=aB (aB (heap_alloc_new w (.cells #[.int .i64 k,.int .i64 val,.string tx,.slice ao m cp,.slice o1 tests.length c1,.slice o2 n2 c2] 78)) (.cells #[.int .i64 0,.slice none 0 0,.slice none 0 0] 245)) (.cells #[.slice none 0 0,.slice none 0 0,.bool false] 189)
 have IM:=af (muG_all 8 anyA w _ (w.heap.size+1+1) sb so cs Ty D no nc fr TT PP _ (Zc.namesF 8 [] p) [] ⟨k,val,tx,ao,m,cp⟩ n p ⟨[],Zc.Wn.none⟩ 300 (hG.up (by omega)) hu hl0 (zS D TT _) (by simp) hND (by omega) hq wp hn hsz (fun q hq=>by cases hq) (by rw[q3];simp[Zc.Wn.none]))
 have HU:=af hu
 have vP:=af hl0
 have kq:=af qf
 have UD:=af hc0
 have HG:=af hG
 have YZ:=af hPP
 have HN:=af hN
 have Y0:=af UB
 have jm:=af hsm
 have UE:=af UC
 have HY:=af hy
 have Cl:=af wJ
 have Ev:=af q9
 have Y1:=af hD
 have Jk:=af hML'
 have Y2:=af wp
 have VW:=af (And.intro hT (And.intro hTi (And.intro hTl (And.intro hTa (And.intro hTs hTn)))))
 clear hG hr hN hN1 hq hND hML q3 hu hl0 qf hc0 hsz hy hsm UC wJ UB hPP hT hTi hTl hTa hTs hTn hKK q9 hD hML' wp
 go_enter Tryz.func182,Tryz.ntmps182
 go_wp2_with fail
 refine(ae IM).mono ?_
 rintro e w2 ⟨rfl,S2,R2,h2,st2,sl2,fr2⟩
 generalize hl:Zc.matU 8 p (TT n) ⟨[],Zc.Wn.none⟩=l at*
 obtain⟨V,hVl,hSV,hVD,hVq⟩:=st2.full sl2 (fun x hx=>(ae UE x hx).resolve_left (by simp))
 have hb2:=(ae vP).under fr2 (ae HU) (by omega)
 have QU:∀k,k≤w.heap.size+1→¬fJ (w.heap.size+1+1) none none k:=fun k hk=>p6 (by omega)
 have q2:=(fr2.block (w.heap.size+1) (by simp only[World.size_alloc];omega) (QU _ (by omega))).trans (ae kq)
 have k2:=(fr2.block w.heap.size (by simp only[World.size_alloc];omega) (QU _ (by omega))).trans (ae UD)
 have Et:=af (zD w2 _ S2 l.w.wt l.w.no R2 h2)
 rw[AR,ae HY]at Et
 rw[(ae Cl).1,(ae Cl).2]at h2
 have hrow2:=h2.rows
 have H2:=af h2
 obtain⟨xo,xc,yo,yc,h2,rfl⟩:=h2
 have Np:w2.ownsRow (w.heap.size+1+1+1) 3 1 (.slice xo V.length xc) V.length (V.map aK):=by
  have:=h2.sown
  rw[hSV,List.length_map,List.map_map]at this
  exact this
 have hSL:S2.length=V.length:=by rw[hSV,List.length_map]
 have b0:=ah h2.blk 0
 rw[hSL]at b0
 have cz:=ag h2.blk
 have IS:=af (DJ w2 _ V xo xc Np (by have:=ae Jk;omega))
 have BV:=af hVl
 have f4:=ah k2 4
 have kz:=ag k2
 simp only[List.getElem?_toArray,List.getElem?_cons_zero,List.getElem?_cons_succ]at b0 f4
 have Xy:=af hVq
 have UF:=af hVD
 have UG:=af hSV
 have tJ:=af hSL
 have aX:=af hb2
 have vN:=af q2
 have dh:=af k2
 have rN:=af hrow2
 have YK:=af st2
 have YL:=af (show∀m∈V,Zc.size (TT m)≤300 from fun m hm=>by
  obtain⟨i,hi,rfl⟩:=List.getElem_of_mem hm
  obtain⟨q,h1,h2⟩:=hVq i (Zc.namesF 8 [] p)[i] V[i] (List.getElem?_eq_getElem (by omega)) (List.getElem?_eq_getElem hi)
  rw[h2]
  exact ae jm q (List.mem_of_find?_eq_some h1))
 have QH:=af hl
 clear hl h2 hb2 fr2 q2 k2 IM vP HU kq UD Np hVq hVD hSV hrow2 st2 sl2 hSL QU UE HY Cl jm hVl
 go_wp2_with fail
 refine(ae Et).mono ?_
 rintro e w3 ⟨rfl,rfl⟩
 go_wp2_with fail
 refine(ae IS).mono ?_
 rintro e w4 ⟨oo,oc,rfl,own4,hb4⟩
 obtain⟨hT,hTi,hTl,hTa,hTs,hTn⟩:=ae VW
 have z4:=hb4.size
 have bB:=(ae aX).trans (hb4.mono (ae aX).size)
 have eR:=bB.alloc bB.size (.cells #[.slice oo V.length oc] 93)
 have k4:=(hb4.block _ kz).trans (ae dh)
 have f4:=ah k4 4
 have kz4:=ag k4
 simp only[List.getElem?_toArray,List.getElem?_cons_zero,List.getElem?_cons_succ]at f4
 have HST:=af (show UA PP w (w.heap.size+1+1) sb so cs Ty w4.heap.size D V no fr TT N (Zc.namesF 8 [] p) S2 tests tests.length (.int .i64 0) (w4.alloc (.cells #[.slice oo V.length oc] 93))from by
  have hro:∀k,rowOf oo k→w3.heap.size≤k:=fun k q=>by
   obtain⟨pp,hp,hq⟩:=q
   exact(own4.lt k (by rw[hp,hq];rfl)).1
  have zX:∀k,rowOf no k→k<w.heap.size:=fun k q=>by
   obtain⟨pp,hp,hq⟩:=q
   exact((ae HG).st.own.lt k (by rw[hp,hq];rfl)).2
  have Cm:=ag (ae HG).st.blk
  refine⟨0,[],[],no,nc,oo,oc,TT,fJ (w.heap.size+1+1) xo yo,by omega,rfl,?_,fun _ _=>rfl,fun i d h=>by simp at h,fH.nil _ _,by rw[List.append_nil,List.take_zero];exact ae BV,by simp,(ae H2).below (hb4.alloc z4 _),by rw[List.take_zero];exact Nat.zero_le _,⟨eR.os,eR.tape,eR.output,eR.size,fun k hk _=>eR.block k hk,?_⟩,?_,?_,by omega⟩
  ·have:=gO.start (PP:=PP) (R:=fJ (w.heap.size+1+1) xo yo) (ae HG) bB own4 (ae aX).size (fun k q=>by have:=(ae rN k q).1;omega) hTs hTn (ae UF)
   rw[List.append_nil,List.append_nil,mi (ae HG).st.cel]
   exact this
  ·rintro k ((e | e | e | e) | e)
   ·exact Or.inl (Or.inl e)
   ·exact Or.inl (Or.inr e)
   ·right;have:=(ae aX).size;omega
   ·right;have:=hro k e;have:=(ae aX).size;omega
   ·right;have:=(ae rN k e).1;omega
  ·rintro k q (e | e | e | e)
   ·have:=(ae rN k q).1;omega
   ·have:=(ae rN k q).1;have:=zX k e;omega
   ·have:=(ae rN k q).2;omega
   ·have:=(ae rN k q).2;have:=hro k e;omega
  ·exact(Below.heap_alloc _ _ _ (by have:=ag (ae vN);omega)).trans ((hb4.block _ (ag (ae vN))).trans (ae vN)))
 clear bB eR k4 own4 hb4 IS Et H2 aX vN dh rN b0 cz kz
 go_wp2_with fail
 go_loopg [30] tests.length (fun k iv wr=>UA PP w (w.heap.size+1+1) sb so cs Ty w4.heap.size D V no fr TT N (Zc.namesF 8 [] p) S2 tests k iv wr)
 case atStart=>exact ae HST
 case round=>
  clear HST f4 kz4
  obtain⟨j,E,F,no',nc',vo',vc',T',R,hkj,rfl,hm,he,dC,gR,lO,fD,fS,vS,hf,hap,xO,hcb⟩:=hrel
  by_cases hlt:j<tests.length
  ·rw[ae H0]at hlt
   exact absurd hlt (Nat.not_lt_zero _)
  ·obtain rfl:j=tests.length:=by omega
   rw[List.take_length]at lO fS vS
   have lnv:(V++F).length≤200000:=by
    have q1:=QR gR
    have q2:=ae BV
    have q3:=ae Jk
    have q4:=ae Ev
    rw[List.length_append]
    omega
   have QW:(Zc.iU (cR T' (V++F) N) tests).wt.length≤12000000:=by have q4:=ae Ev;omega
   generalize hL0:Zc.iU (cR T' (V++F) N) tests=l at fS QW
   have vP:=af hL0
   clear hL0
   obtain⟨so',sc',wo',wc',hB,hRe⟩:=fS
   have b0:=ah hB.blk 0
   have b1:=ah hB.blk 1
   rw[ae tJ]at b0
   have bz:=ag hB.blk
   have s0:=ah hm.ad.sc.blk 0
   have sz:=ag hm.ad.sc.blk
   simp only[List.getElem?_toArray,List.getElem?_cons_zero,List.getElem?_cons_succ]at b0 b1 s0
   have IOK:=af (yB wr _ _ l.wt (V++F) wo' vo' wc' vc' V.length hB.wown hm.ad.sc.own (by omega) (by omega))
   have HB:=af hB
   have HM:=af hm
   have HP:=af (And.intro he (And.intro dC (And.intro gR (And.intro lO fD))))
   have HF:=af hf
   have Xz:=af xO
   have Y3:=af hcb
   have rz:=ag xO
   have hVz:(V++F).length=V.length+F.length:=List.length_append
   clear hm he dC gR lO fD vS hf hap xO hkj hlt hB hRe lnv QW hcb hVz
   generalize hVF:V++F=VF at*
   have Ql:=af hVF
   clear hVF
   go_wp2_with fail
   refine(ae IOK).mono ?_
   rintro e w10 ⟨oo',oc',rfl,own10,yG⟩
   have s1:=(yG.cell (p:=⟨w4.heap.size,0,none⟩) sz).trans s0
   have z10:=yG.size
   have QX:=(yG.block _ bz).trans (ae HB).blk
   have zT:=af (fun(W:World) (hb:Below w10.heap.size w10 W)=>BP W (w.heap.size+1+1) l.wt l.no so' S2.length sc' wo' wc' ((hb.block _ (ag QX)).trans QX))
   rw[AR]at zT
   have Cn:=(yG.block _ rz).trans (ae Xz)
   have d0:=ah Cn
   have x0:=ay Cn
   have dz:=ag Cn
   have sz10:w4.heap.size<w10.heap.size:=Nat.lt_of_lt_of_le sz z10
   have VX:=af own10
   have QY:=af yG
   have QZ:=af Cn
   clear own10 yG QX Cn IOK b0 b1 bz s0 sz
   go_wp2_with fail
   go_region_with (go_at_call 110;refine(ae zT _ (by first | exact Below.refl _ _ | exact(Below.refl _ _).drew | exact(Below.refl _ _).drew.drew | exact(Below.refl _ _).drew.drew.drew | exact(Below.refl _ _).drew.drew.drew.drew)).mono ?_;rintro e w5 ⟨rfl,rfl⟩)
   all_goals
    go_wp2_with fail
    refine bodyPost_ret (v:= .agg #[.int .i64 (l.says:Int),.slice oo' (Zc.ko VF V.length l.wt).length oc',.slice vo' VF.length vc']) (by simp[results,Tryz.results182,go_sem,d0]) rfl ?_
    obtain rfl:=ae Ql
    obtain⟨he,dC,gR,lO,fD⟩:=ae HP
    have hrow:=(ae HF).row
    have m11:=(((ae HM).below (ae QY)).Lu (ae QZ) (Ne.symm hTa) (by decide) (by decide) (by decide) (.int .i64 (l.says:Int)) (.slice oo' (Zc.ko (V++F) V.length l.wt).length oc') (.slice vo' (V++F).length vc')).below (Below.refl _ _).drew
    have VY:E.length≤78732:=by have:=ae Ev;omega
    refine⟨V,ae BV,ae UF,by rw[ae QH];exact ae Xy,l,E,F,no',nc',vo',vc',T',oo',oc',(ae vP).symm,rfl,cf (Lv (ae VX) (ae QZ) (by decide)) (ae HF).size,m11.ad.sc.own,fun k q=>hrow k (Or.inl (Or.inr (Or.inr (Or.inr q)))),m11.ad.st,m11.ok,m11.to,m11.ad.args.keep fun g _ hp hg=>⟨hg,hp.1.1,hp.2⟩,m11.lt,he,dC,gR,lO,VY,((((ae HF).less (X:=cF sb no') (fun k q=>by
     rcases q with e | e
     ·exact Or.inl (Or.inl e)
     ·exact Or.inl (Or.inr (Or.inl e)))).trans (au.aw (ae QY))).fin (Nat.le_succ _) _ _ _)⟩
theorem xP (w:World) (p:Int) (n:Nat) (hn:0<n) (hl:n≤1000000000) (_h1: -9223372036854775808≤p) (_h2:p≤9223372036854775807):
 Calls Tryz.prog 44 #[.int .i64 p,.int .i64 (n:Int)] w fun e w'=>e= .returned (.int .i64 (p % (n:Int)))∧w'=w:=by
 have t0:decide ((n:Int)≤0)=false:=by simp;omega
 have t1:((n:Int) == 0)=false:=by simp;omega
 have b1:=Int.emod_nonneg p (show (n:Int)≠0 by omega)
 have b2:=Int.emod_lt_of_pos p (show (0:Int)<(n:Int)by omega)
 have e1:p.tmod (n:Int)=p % (n:Int)∨p.tmod (n:Int)=p % (n:Int) - (n:Int):=by
  rw[Int.tmod_eq_emod]
  split
  ·left;simp
  ·right;simp
 rcases e1 with e1 | e1
 ·have t2:decide (p.tmod (n:Int)<0)=false:=by rw[e1];simp;omega
  have HE:=af e1
  clear e1 b1 b2
  go_enter Tryz.func44,Tryz.ntmps44
  go_wp2_with fail
  go_ret
  exact⟨by rw[←ae HE];rfl,rfl⟩
 ·have t2:decide (p.tmod (n:Int)<0)=true:=by rw[e1];simp;omega
  have t3:wrap64 (p.tmod (n:Int)+(n:Int))=p % (n:Int):=by rw[e1,Int.sub_add_cancel];unfold wrap64;omega
  have HT:=af t3
  clear e1 b1 b2 t3
  go_enter Tryz.func44,Tryz.ntmps44
  go_wp2_with fail
  go_ret
  exact⟨by rw[←ae HT];rfl,rfl⟩
structure Gl where
 l:Nat
 sg:ByteArray
 r:Int
 op:ByteArray
 z:Int
 wt:Bool
 no:Option Addr
 nc:Nat
 nd:List Nat
def fN (g:Gl):List Value:=[.int .i64 (g.l:Int),.string g.sg,.int .i64 g.r,.string g.op,.int .i64 g.z,.bool g.wt,.slice g.no g.nd.length g.nc]
def fU (fr:Nat→Nat) (g:Gl):Bool:= !g.wt||g.nd.any fun v=>decide (fr v≠v)
theorem vT (w:World) (mb:Nat) (cs:Array Value) (Ty:TypeId) (D:List Ng) (nO:Option Addr) (nC:Nat) (fr:Nat→Nat) (g:Gl) (b:Nat) (hs:bG w mb 1 cs Ty D nO nC) (aF:bV D fr) (hn:w.ownsRow b 3 1 (.slice g.no g.nd.length g.nc) g.nd.length (g.nd.map aK)) (hlt:∀v∈g.nd,v<D.length) (hl:g.nd.length≤1000000000):
 Calls Tryz.prog 83 #[.pointer (some ⟨mb,0,none⟩),.agg #[.int .i64 (g.l:Int),.string g.sg,.int .i64 g.r,.string g.op,.int .i64 g.z,.bool g.wt,.slice g.no g.nd.length g.nc]] w fun e w'=>e= .returned (.bool (fU fr g))∧Below w.heap.size w w':=by
 obtain⟨l,sg,r,op,z,wt,no,nc,nd⟩:=g
 dsimp only at*
 have hb0:=(Below.refl w.heap.size w).alloc (Nat.le_refl _) (.cells #[.int .i64 (l:Int),.string sg,.int .i64 r,.string op,.int .i64 z,.bool wt,.slice no nd.length nc] 158)
 have bf:=af hb0
 have HN:=af hn
 have bh:=af hlt
 have jl:=af (fun W (hb:Below w.heap.size w W) (v:Nat) (hv:v<D.length)=>(aF.hop v hv).imp fun k hk=>dT W mb 1 cs Ty D nO nC v (fr v) k (hs.below hb) hk)
 clear hs aF hn hlt hb0
 cases wt with
 | false=>
  go_enter Tryz.func83,Tryz.ntmps83
  go_wp2_with fail
  go_ret
  exact⟨rfl,ae bf⟩
 | true=>
  go_enter Tryz.func83,Tryz.ntmps83
  go_wp2_with fail
  go_loopg [13] nd.length (fun k iv wr=>∃j:Nat,k+j=nd.length∧iv= .int .i64 (j:Int)∧Below w.heap.size w wr∧(nd.take j).any (fun v=>decide (fr v≠v))=false)
  case atStart=>exact⟨0,by omega,rfl,ae bf,by simp⟩
  case round=>
   clear bf
   obtain⟨j,hkj,rfl,aY,hno⟩:=hrel
   by_cases hlt:j<nd.length
   ·obtain⟨g,hg⟩:∃g,no=some ⟨g,0,none⟩:=by
     rcases(ae HN).2 with⟨q,q2⟩ | ⟨g,cp,cur,q,_⟩
     ·omega
     ·simp only[Value.slice.injEq]at q
      exact⟨g,q.1⟩
    subst hg
    have gz0:=((ae HN).lt g rfl).2
    have f0:wr.cell? ⟨g,j,none⟩=some (.int .i64 (nd[j]:Int)):=by
     rw[aY.cell (p:=⟨g,j,none⟩) gz0,(ae HN).cellAt j (by omega),List.getElem?_map,List.getElem?_eq_getElem hlt]
     rfl
    have gz:g<wr.heap.size:=Nat.lt_of_lt_of_le gz0 aY.size
    have i0:(0:Int)≤(j:Int):=by omega
    have i1:(j:Int)<(nd.length:Int):=by omega
    obtain⟨kk,Q0⟩:=ae jl wr aY nd[j] (ae bh _ (List.getElem_mem hlt))
    have Q1:=af Q0
    have hst:nd.take (j+1)=nd.take j++[nd[j]]:=by rw[List.take_add_one,List.getElem?_eq_getElem hlt];rfl
    have bY:=af aY
    have Q2:=af hlt
    have aW:=af hkj
    have ij:nd[j]∈nd:=List.getElem_mem hlt
    generalize nd[j]=m at*
    by_cases he:fr m=m
    ·have gS:=af (show (nd.take (j+1)).any (fun v=>decide (fr v≠v))=false by rw[hst,List.any_append,hno];simp[he])
     rw[he]at Q1
     clear he hno hkj hst aY Q0 ij
     go_wp2_with fail
     refine(ae Q1).mono ?_
     rintro e w5 ⟨rfl,rfl⟩
     unfold aK
     go_wp2_with fail
     go_roundg (gk - 1)
     case measure=>have:=ae aW;have:=ae Q2;omega
     case rel=>exact⟨j+1,by have:=ae aW;have:=ae Q2;omega,by go_num,ae bY,ae gS⟩
    ·have Cl:=af (show nd.any (fun v=>decide (fr v≠v))=true from List.any_eq_true.2 ⟨m,ij,by simpa using he⟩)
     have t2:(((fr m:Nat):Int) == ((m:Nat):Int))=false:=by simp;omega
     have t3:(((fr m:Nat):Int) != ((m:Nat):Int))=true:=by simp;omega
     generalize fr m=m' at*
     clear he hno hkj hst aY Q0 ij
     go_wp2_with fail
     refine(ae Q1).mono ?_
     rintro e w5 ⟨rfl,rfl⟩
     unfold aK
     go_wp2_with fail
     go_ret
     exact⟨by unfold fU;rw[ae Cl];rfl,ae bY⟩
   ·have gS:=af (show nd.any (fun v=>decide (fr v≠v))=false by rwa [List.take_of_length_le (by omega)]at hno)
    have bY:=af aY
    clear hno aY
    obtain rfl:j=nd.length:=by omega
    go_wp2_with fail
    go_ret
    exact⟨by unfold fU;rw[ae gS];rfl,ae bY⟩
theorem glC_len:∀g,(fN g).length=7:=fun _=>rfl
theorem rf {G:List Gl} {n:Nat} (h:n<G.length) (j:Nat) (hj:j<7):(G.flatMap fN)[n*7+j]?=(fN G[n])[j]?:=qT glC_len h j hj
structure cQ (w:World) (mb:Nat) (cs:Array Value) (D:List Ng) (nO:Option Addr) (nC:Nat) (fr:Nat→Nat) (G:List Gl) (po:Option Addr) (pc:Nat):Prop where
 st:bG w mb 1 cs 91 D nO nC
 ok:bV D fr
 c3:cs[3]?=some (.slice po G.length pc)
 pool:w.ownsRow 0 158 7 (.slice po G.length pc) G.length (G.flatMap fN)
 nds:∀g∈G,w.ownsRow 0 3 1 (.slice g.no g.nd.length g.nc) g.nd.length (g.nd.map aK)
 nlt:∀g∈G,∀v∈g.nd,v<D.length
 nl:∀g∈G,g.nd.length≤1000000000
theorem cQ.below {w w':World} {mb:Nat} {cs:Array Value} {D:List Ng} {nO:Option Addr} {nC:Nat} {fr:Nat→Nat} {G:List Gl} {po:Option Addr} {pc:Nat} (h:cQ w mb cs D nO nC fr G po pc) (hb:Below w.heap.size w w'):cQ w' mb cs D nO nC fr G po pc:=
 ⟨h.st.below hb,h.ok,h.c3,ai h.pool (fun g q=>hb.block g (h.pool.lt g q).2),fun g hg=>ai (h.nds g hg) (fun k q=>hb.block k ((h.nds g hg).lt k q).2),h.nlt,h.nl⟩
def cD (fr:Nat→Nat) (G:List Gl) (j:Nat):List Nat:=(List.range j).filter fun i=>match G[i]? with
 | some g=>fU fr g
 | none=>false
theorem Jl (fr:Nat→Nat) (G:List Gl) (j:Nat) (h:j<G.length):cD fr G (j+1)=cD fr G j++(if fU fr G[j]=true then [j]else []):=by
 unfold cD
 rw[List.range_succ,List.filter_append]
 congr 1
 simp only[List.filter_cons,List.filter_nil,List.getElem?_eq_getElem h]
theorem Co (fr:Nat→Nat) (G:List Gl) (j:Nat):(cD fr G j).length≤j:=by
 have:=List.length_filter_le (fun i=>match G[i]? with
  | some g=>fU fr g
  | none=>false) (List.range j)
 rwa [List.length_range]at this
def XA (w:World) (fr:Nat→Nat) (G:List Gl) (k:Nat) (av iv:Value) (wr:World):Prop:=
 ∃j:Nat,k+j=G.length∧iv= .int .i64 (j:Int)∧wr.ownsRow w.heap.size 3 1 av (cD fr G j).length ((cD fr G j).map aK)∧Below w.heap.size w wr
theorem zY (w:World) (mb:Nat) (cs:Array Value) (D:List Ng) (nO:Option Addr) (nC:Nat) (fr:Nat→Nat) (G:List Gl) (po:Option Addr) (pc:Nat) (h:cQ w mb cs D nO nC fr G po pc) (hl:G.length≤1000000):
 Calls Tryz.prog 43 #[.pointer (some ⟨mb,0,none⟩)] w fun e w'=>∃oo oc,e= .returned (.slice oo (cD fr G G.length).length oc)∧w'.ownsRow w.heap.size 3 1 (.slice oo (cD fr G G.length).length oc) (cD fr G G.length).length ((cD fr G G.length).map aK)∧Below w.heap.size w w':=by
 have f3:=(ah h.st.blk 3).trans h.c3
 have mz:=ag h.st.blk
 have H:=af h
 obtain⟨tj,hj,iA,iB,iC⟩:=info_parts infoIn
 clear h
 go_enter Tryz.func43,Tryz.ntmps43
 go_wp2_with fail
 go_loopg [3,11] G.length (fun k av iv wr=>XA w fr G k av iv wr)
 case atStart=>exact⟨0,by omega,rfl,by simpa [cD] using World.ownsRow_nil _ _ _ _,Below.refl _ _⟩
 case round=>
  obtain⟨j,hkj,rfl,how,aY⟩:=hrel
  obtain⟨oo,oc,rfl⟩:=fu how
  by_cases hlt:j<G.length
  ·obtain⟨g,hg⟩:∃g,po=some ⟨g,0,none⟩:=by
    rcases(ae H).pool.2 with⟨q,q2⟩ | ⟨g,cp,cur,q,_⟩
    ·omega
    ·simp only[Value.slice.injEq]at q
     exact⟨g,q.1⟩
   subst hg
   have gz0:=((ae H).pool.lt g rfl).2
   have fc:∀i,i<7→wr.cell? ⟨g,j*7+i,none⟩=(fN G[j])[i]?:=fun i hi=>by
    rw[aY.cell (p:=⟨g,j*7+i,none⟩) gz0,(ae H).pool.cellAt (j*7+i) (by omega)]
    exact rf hlt i hi
   have e0:=fc 0 (by omega)
   have e1:=fc 1 (by omega)
   have e2:=fc 2 (by omega)
   have e3:=fc 3 (by omega)
   have e4:=fc 4 (by omega)
   have e5:=fc 5 (by omega)
   have e6:=fc 6 (by omega)
   simp only[fN,List.getElem?_cons_zero,List.getElem?_cons_succ,Nat.add_zero]at e0 e1 e2 e3 e4 e5 e6
   have gz:g<wr.heap.size:=Nat.lt_of_lt_of_le gz0 aY.size
   have i0:(0:Int)≤(j:Int):=by omega
   have i1:(j:Int)<(G.length:Int):=by omega
   have hW:=aY.alloc aY.size (.cells #[.int .i64 (G[j].l:Int),.string G[j].sg,.int .i64 G[j].r,.string G[j].op,.int .i64 G[j].z,.bool G[j].wt,.slice G[j].no G[j].nd.length G[j].nc] 158)
   have hm:=(ae H).below hW
   have IR:=af (vT _ mb cs _ D nO nC fr G[j] 0 hm.st hm.ok (hm.nds _ (List.getElem_mem hlt)) (hm.nlt _ (List.getElem_mem hlt)) (hm.nl _ (List.getElem_mem hlt)))
   have fy:=af (Jl fr G j hlt)
   have hle:=Co fr G j
   have VZ:(cD fr G j).length≤1000000:=by omega
   have HOW:=af (ai how (w':=wr.alloc (.cells #[.int .i64 (G[j].l:Int),.string G[j].sg,.int .i64 G[j].r,.string G[j].op,.int .i64 G[j].z,.bool G[j].wt,.slice G[j].no G[j].nd.length G[j].nc] 158)) (fun k q=>Below.heap_alloc _ _ _ (how.lt k q).2))
   have bY:=af hW
   have aW:=af hkj
   have bh:=af hlt
   generalize cD fr G j=Z at*
   have xQ:fU fr G[j]=true∨fU fr G[j]=false:=by cases fU fr G[j]<;>simp
   have Jm:=af xQ
   generalize Nq:G[j]=gg at*
   clear how aY hkj hlt fc hW hm hle xQ Nq
   rcases ae Jm with hr | hr
   ·rw[hr]at IR
    rw[if_pos hr]at fy
    clear hr Jm
    go_wp2_with fail
    refine(ae IR).mono ?_
    rintro e w5 ⟨rfl,bB⟩
    have z5:=bB.size
    rw[World.size_alloc]at z5
    have mg:=af (ai (ae HOW) (fun k q=>bB.block k ((ae HOW).lt k q).2))
    have wy:=af ((ae bY).trans (bB.mono (ae bY).size))
    have z6:w.heap.size≤w5.heap.size:=(ae wy).size
    clear bB
    go_wp2_with (at_builtin;go_must (refine wpList_append_own_at _ rfl (.tmp 19) (.tmp 21) 25 rfl w.heap.size 3 tj (.int .i64 0) 1 8 Tryz.underlying25 hj iA iB iC rfl (by decide) _ Z.length (Z.map aK) rfl ((ae mg).alloc _) ⟨w5.heap.size,0,none⟩ 1 1 [.int .i64 (j:Int)] rfl rfl (jd _ _ _ _ rfl) (by simp[Value.oneCell']) (by unfold maxLen;omega) (by omega) (by simp;omega) ?_);go_must (intro v' w7 hown' hgrow _ _;have mK:=af hown';have gZ:=af (((ae wy).alloc (ae wy).size _).grown hgrow (by have:=(ae wy).size;simp;omega) (fun k q=>by have:=((ae mg).lt k q).1;omega));clear hown' hgrow))
    go_roundg (gk - 1)
    case measure=>have:=ae aW;have:=ae bh;omega
    case rel=>exact⟨j+1,by have:=ae aW;have:=ae bh;omega,by go_num,by rw[ae fy];have:=ae mK;simpa [aK] using this,ae gZ⟩
   ·rw[hr]at IR
    rw[if_neg (by simp[hr]),List.append_nil]at fy
    clear hr Jm
    go_wp2_with fail
    refine(ae IR).mono ?_
    rintro e w5 ⟨rfl,bB⟩
    have bM:=af bB
    clear bB
    go_wp2_with fail
    go_roundg (gk - 1)
    case measure=>have:=ae aW;have:=ae bh;omega
    case rel=>exact⟨j+1,by have:=ae aW;have:=ae bh;omega,by go_num,by rw[ae fy];exact ai (ae HOW) (fun k q=>(ae bM).block k ((ae HOW).lt k q).2),(ae bY).trans ((ae bM).mono (ae bY).size)⟩
  ·obtain rfl:j=G.length:=by omega
   have HOW:=af how
   have bY:=af aY
   clear how aY hkj
   go_wp2_with fail
   go_ret
   exact⟨oo,oc,rfl,ae HOW,ae bY⟩
theorem xR (w:World) (mb:Nat) (cs:Array Value) (Ty:TypeId) (D:List Ng) (nO:Option Addr) (nC:Nat) (fr:Nat→Nat) (n:Nat) (d:Ng) (hs:bG w mb 1 cs Ty D nO nC) (aF:bV D fr) (hn:n<D.length) (hd:D[fr n]?=some d):
 Calls Tryz.prog 194 #[.pointer (some ⟨mb,0,none⟩),.int .i64 (n:Int)] w fun e w'=>e= .returned (.tuple #[.int .i64 d.val,.bool (d.k == 2)])∧Below w.heap.size w w':=by
 obtain⟨k,hk⟩:=aF.hop n hn
 have HL:=af (e7 w mb 1 cs Ty D nO nC n (fr n) k d hs hk hd)
 clear hs aF hd hk
 go_enter Tryz.func194,Tryz.ntmps194
 go_wp2_with fail
 refine(ae HL).mono ?_
 rintro e w2 ⟨rfl,hb2⟩
 have z2:=hb2.size
 have HB:=af (hb2.alloc z2 (.cells #[.int .i64 d.k,.int .i64 d.val,.string d.tx,.int .i64 (d.cnt:Int)] 177))
 clear hb2
 go_wp2_with fail
 go_region
 all_goals
  go_wp2_with fail
  refine bodyPost_ret (v:= .tuple #[.int .i64 d.val,.bool (d.k == 2)]) (by simp[results,Tryz.results194,go_sem]) rfl ?_
  exact⟨rfl,(ae HB).drew⟩
def arith (op:List UInt8) (a b:Int):Int:=if op=[43]then a+b else if op=[45]then a - b else a*b
theorem Lx (w:World) (a b:Int) (op:ByteArray) (ha: -1000000000≤a) (ha':a≤1000000000) (hb: -1000000000≤b) (hb':b≤1000000000):
 Calls Tryz.prog 195 #[.int .i64 a,.string op,.int .i64 b] w fun e w'=>e= .returned (.int .i64 (arith op.toList a b))∧w'=w:=by
 have hm: -1000000000000000000≤a*b∧a*b≤1000000000000000000:=by
  have h1:(a*b).natAbs≤1000000000*1000000000:=by
   rw[Int.natAbs_mul]
   exact Nat.mul_le_mul (by omega) (by omega)
  omega
 by_cases h1:op.toList=[43]
 ·have t1:(op.toList == [43])=true:=by rw[h1];rfl
  have HE:=af (show a+b=arith op.toList a b by unfold arith;rw[if_pos h1])
  clear h1 hm
  go_enter Tryz.func195,Tryz.ntmps195
  go_wp2_with fail
  go_ret
  exact⟨by rw[←ae HE];first | rfl | done,rfl⟩
 ·by_cases h2:op.toList=[45]
  ·have t1:(op.toList == [43])=false:=by rw[h2];rfl
   have t2:(op.toList == [45])=true:=by rw[h2];rfl
   have HE:=af (show a - b=arith op.toList a b by unfold arith;rw[if_neg h1,if_pos h2])
   clear h1 h2 hm
   go_enter Tryz.func195,Tryz.ntmps195
   go_wp2_with fail
   go_ret
   exact⟨by rw[←ae HE];first | rfl | done,rfl⟩
  ·have t1:(op.toList == [43])=false:=by simpa using h1
   have t2:(op.toList == [45])=false:=by simpa using h2
   have HE:=af (show wrap64 (a*b)=arith op.toList a b by unfold arith;rw[if_neg h1,if_neg h2];unfold wrap64;omega)
   clear h1 h2 hm
   go_enter Tryz.func195,Tryz.ntmps195
   go_wp2_with fail
   go_ret
   exact⟨by rw[←ae HE];first | rfl | done,rfl⟩
theorem wK (w:World) (mb:Nat) (cs:Array Value) (n:Nat) (h:w.heap[mb]?=some (.cells cs 91 (0,0))) (hc:5<cs.size):
 Calls Tryz.prog 178 #[.pointer (some ⟨mb,0,none⟩),.int .i64 (n:Int)] w fun e w'=>e= .returned (.int .i64 (-2))∧w'=w.setCell ⟨mb,5,none⟩ (.int .i64 (n:Int)):=by
 have c5:=(ah h 5).trans (Array.getElem?_eq_getElem hc)
 have x5:=ay h 5
 have mz:=ag h
 clear h
 go_enter Tryz.func178,Tryz.ntmps178
 go_wp2_with fail
 go_ret
 exact⟨rfl,rfl⟩
def lr (op:List UInt8) (d e:Ng):Option Int:=if d.k=2 then(if op=[]then some d.val else if e.k=2 then(if -1000000000≤arith op d.val e.val∧arith op d.val e.val≤1000000000 then some (arith op d.val e.val)else none)else none)else none
def V0 (r:Option Int) (w:World) (e:Ending) (w':World):Prop:=∃(x:Int) (b:Bool),e= .returned (.tuple #[.int .i64 x,.bool b])∧((b=true∧r=some x)∨(b=false∧r=none))∧Below w.heap.size w w'
theorem Jn (w:World) (mb:Nat) (cs:Array Value) (Ty:TypeId) (D:List Ng) (nO:Option Addr) (nC:Nat) (fr:Nat→Nat) (l:Nat) (sg:ByteArray) (rn:Nat) (op:ByteArray) (z:Int) (wt:Bool) (no:Option Addr) (nn nc:Nat) (d e:Ng) (hs:bG w mb 1 cs Ty D nO nC) (aF:bV D fr) (hn:rn<D.length) (hd:D[fr rn]?=some d) (hz:op.toList≠[]→∃zn:Nat,z=(zn:Int)∧zn<D.length∧D[fr zn]?=some e) (sd: -1000000000≤d.val∧d.val≤1000000000) (se: -1000000000≤e.val∧e.val≤1000000000):
 Calls Tryz.prog 180 #[.pointer (some ⟨mb,0,none⟩),.agg #[.int .i64 (l:Int),.string sg,.int .i64 (rn:Int),.string op,.int .i64 z,.bool wt,.slice no nn nc]] w fun x w'=>V0 (lr op.toList d e) w x w':=by
 have hb0:=(Below.refl w.heap.size w).alloc (Nat.le_refl _) (.cells #[.int .i64 (l:Int),.string sg,.int .i64 (rn:Int),.string op,.int .i64 z,.bool wt,.slice no nn nc] 158)
 have IN:=af (xR _ mb cs Ty D nO nC fr rn d (hs.below hb0) aF hn hd)
 have IZ:=af (fun W (hb:Below w.heap.size w W) (zn:Nat) (hl:zn<D.length) (he:D[fr zn]?=some e)=>xR W mb cs Ty D nO nC fr zn e (hs.below hb) aF hl he)
 have HX:=af (heap_alloc_new w (.cells #[.int .i64 (l:Int),.string sg,.int .i64 (rn:Int),.string op,.int .i64 z,.bool wt,.slice no nn nc] 158))
 have bf:=af hb0
 have HZ:=af hz
 have zT:=af sd
 have UH:=af se
 clear hs aF hn hd hz hb0 sd se
 go_enter Tryz.func180,Tryz.ntmps180
 go_wp2_with fail
 refine(ae IN).mono ?_
 rintro ee w2 ⟨rfl,hb2⟩
 have hx2:=(hb2.block w.heap.size (by simp)).trans (ae HX)
 have c3:=ah hx2 3
 have c4:=ah hx2 4
 have xz:=ag hx2
 simp only[List.getElem?_toArray,List.getElem?_cons_zero,List.getElem?_cons_succ]at c3 c4
 have hb3:=(ae bf).trans (hb2.mono (ae bf).size)
 have bu:=af hb3
 have XB:=af hx2
 clear hb2 hb3 hx2 IN bf HX
 by_cases h1:d.k=2
 ·have t1:(d.k == 2)=true:=by simpa using h1
  rw[t1]
  by_cases h2:op.toList=[]
  ·have t2:(op.toList == [])=true:=by rw[h2];rfl
   have HR:=af (show lr op.toList d e=some d.val by unfold lr;rw[if_pos h1,if_pos h2])
   clear h1 h2
   go_wp2_with fail
   refine bodyPost_ret (v:= .tuple #[.int .i64 d.val,.bool true]) (by simp[results,Tryz.results180,go_sem]) rfl ?_
   exact⟨_,_,rfl,Or.inl ⟨rfl,ae HR⟩,ae bu⟩
  ·have t2:(op.toList == [])=false:=by simpa using h2
   obtain⟨zn,rfl,zl,ze⟩:=ae HZ h2
   have IY:=af (ae IZ _ (ae bu) zn zl ze)
   have kq:=af (show lr op.toList d e=if e.k=2 then(if -1000000000≤arith op.toList d.val e.val∧arith op.toList d.val e.val≤1000000000 then some (arith op.toList d.val e.val)else none)else none by unfold lr;rw[if_pos h1,if_neg h2])
   clear h1 h2 zl ze IZ HZ
   go_wp2_with fail
   refine(ae IY).mono ?_
   rintro ee w4 ⟨rfl,hb4⟩
   have Q3:=(hb4.block w.heap.size xz).trans (ae XB)
   have c3':=ah Q3 3
   have xz4:=ag Q3
   simp only[List.getElem?_toArray,List.getElem?_cons_zero,List.getElem?_cons_succ]at c3'
   have cu:=af ((ae bu).trans (hb4.mono (ae bu).size))
   clear hb4 Q3 IY c3 c4
   by_cases h3:e.k=2
   ·have t3:(e.k == 2)=true:=by simpa using h3
    rw[t3]
    rw[if_pos h3]at kq
    have IC:=af (Lx w4 d.val e.val op (ae zT).1 (ae zT).2 (ae UH).1 (ae UH).2)
    generalize arith op.toList d.val e.val=x at*
    clear h3
    by_cases h4:x≤1000000000
    ·by_cases h5: -1000000000≤x
     ·rw[if_pos ⟨h5,h4⟩]at kq
      have t4:decide (1000000000<x)=false:=by simp;omega
      have t5:decide (x< -1000000000)=false:=by simp;omega
      clear h4 h5
      go_wp2_with fail
      refine(ae IC).mono ?_
      rintro ee w5 ⟨rfl,rfl⟩
      go_wp2_with fail
      refine bodyPost_ret (v:= .tuple #[.int .i64 x,.bool true]) (by simp[results,Tryz.results180,go_sem]) rfl ?_
      exact⟨_,_,rfl,Or.inl ⟨rfl,ae kq⟩,ae cu⟩
     ·rw[if_neg (fun q=>h5 q.1)]at kq
      have t4:decide (1000000000<x)=false:=by simp;omega
      have t5:decide (x< -1000000000)=true:=by simp;omega
      clear h4 h5
      go_wp2_with fail
      refine(ae IC).mono ?_
      rintro ee w5 ⟨rfl,rfl⟩
      go_wp2_with fail
      refine bodyPost_ret (v:= .tuple #[.int .i64 0,.bool false]) (by simp[results,Tryz.results180,go_sem]) rfl ?_
      exact⟨_,_,rfl,Or.inr ⟨rfl,ae kq⟩,ae cu⟩
    ·rw[if_neg (fun q=>h4 q.2)]at kq
     have t4:decide (1000000000<x)=true:=by simp;omega
     clear h4
     go_wp2_with fail
     refine(ae IC).mono ?_
     rintro ee w5 ⟨rfl,rfl⟩
     go_wp2_with fail
     refine bodyPost_ret (v:= .tuple #[.int .i64 0,.bool false]) (by simp[results,Tryz.results180,go_sem]) rfl ?_
     exact⟨_,_,rfl,Or.inr ⟨rfl,ae kq⟩,ae cu⟩
   ·have t3:(e.k == 2)=false:=by simpa using h3
    rw[t3]
    rw[if_neg h3]at kq
    clear h3
    go_wp2_with fail
    refine bodyPost_ret (v:= .tuple #[.int .i64 0,.bool false]) (by simp[results,Tryz.results180,go_sem]) rfl ?_
    exact⟨_,_,rfl,Or.inr ⟨rfl,ae kq⟩,ae cu⟩
 ·have t1:(d.k == 2)=false:=by simpa using h1
  rw[t1]
  have HR:=af (show lr op.toList d e=none by unfold lr;rw[if_neg h1])
  clear h1
  go_wp2_with fail
  refine bodyPost_ret (v:= .tuple #[.int .i64 d.val,.bool false]) (by simp[results,Tryz.results180,go_sem]) rfl ?_
  exact⟨_,_,rfl,Or.inr ⟨rfl,ae HR⟩,ae bu⟩
theorem Cp (D:List Gl) (n j:Nat) (hn:n<D.length) (hj:j<7) (d:Gl) (v:Value) (h:fN d=(fN D[n]).set j v):(D.set n d).flatMap fN=(D.flatMap fN).set (n*7+j) v:=by
 induction D generalizing n with
 | nil=>simp at hn
 | cons e D ih=>
  cases n with
  | zero=>
   simp only[List.set_cons_zero,List.flatMap_cons]
   rw[List.set_append_left _ _ (by rw[glC_len];omega)]
   rw[h]
   simp
  | succ n=>
   simp only[List.set_cons_succ,List.flatMap_cons]
   rw[List.set_append_right _ _ (by rw[glC_len];omega),glC_len,ih n (by simpa using hn) (by simpa using h)]
   congr 2
   omega
theorem cQ.Q4 {w w':World} {mb:Nat} {cs:Array Value} {D:List Ng} {nO:Option Addr} {nC:Nat} {fr:Nat→Nat} {G G':List Gl} {po:Option Addr} {pc:Nat} (h:cQ w mb cs D nO nC fr G po pc) (hf:au (rowOf po) (rowOf po) w w') (hl:G'.length=G.length) (hp:w'.ownsRow 0 158 7 (.slice po G.length pc) G.length (G'.flatMap fN)) (hn:∀g∈G',w.ownsRow 0 3 1 (.slice g.no g.nd.length g.nc) g.nd.length (g.nd.map aK)) (ht:∀g∈G',∀v∈g.nd,v<D.length) (hm:∀g∈G',g.nd.length≤1000000000):cQ w' mb cs D nO nC fr G' po pc:=by
 have keep:∀(g:Nat) (ys:Array Value) (S:TypeId),w.heap[g]?=some (.cells ys S (0,0))→S≠158→w'.heap[g]?=w.heap[g]?:=fun g ys S hg hS=>hf.block g (ag hg) (aQ h.pool hg hS)
 refine⟨⟨(keep mb _ _ h.st.blk (by decide)).trans h.st.blk,h.st.cel,ai h.st.own fun g q=> ?_,h.st.ty⟩,h.ok,by rw[hl];exact h.c3,by rw[hl];exact hp,fun g hg=>ai (hn g hg) fun k q=> ?_,ht,hm⟩
 ·obtain⟨cur,hc⟩:=aM h.st.own (aI q)
  exact keep g _ _ hc (by decide)
 ·obtain⟨cur,hc⟩:=aM (hn g hg) (aI q)
  exact keep k _ _ hc (by decide)
theorem Cq (w:World) (mb:Nat) (cs:Array Value) (D:List Ng) (nO:Option Addr) (nC:Nat) (fr:Nat→Nat) (G:List Gl) (po:Option Addr) (pc i:Nat) (gi:Gl) (nd:List Nat) (no:Option Addr) (nc:Nat) (h:cQ w mb cs D nO nC fr G po pc) (hi:i<G.length) (iE:G[i]=gi) (hn:w.ownsRow 0 3 1 (.slice no nd.length nc) nd.length (nd.map aK)) (hlt:∀v∈nd,v<D.length) (hl:nd.length≤1000000000):
 Calls Tryz.prog 179 #[.pointer (some ⟨mb,0,none⟩),.int .i64 (i:Int),.slice no nd.length nc] w fun e w'=>e= .returned (.int .i64 (-1))∧cQ w' mb cs D nO nC fr (G.set i {gi with wt:=true,no:=no,nc:=nc,nd:=nd}) po pc∧au (rowOf po) (rowOf po) w w':=by
 have f3:=(ah h.st.blk 3).trans h.c3
 have mz:=ag h.st.blk
 obtain⟨g,hg⟩:∃g,po=some ⟨g,0,none⟩:=by
  rcases h.pool.2 with⟨q,q2⟩ | ⟨g,cp,cur,q,_⟩
  ·omega
  ·simp only[Value.slice.injEq]at q
   exact⟨g,q.1⟩
 subst hg
 have gz:=(h.pool.lt g rfl).2
 have gne:g≠mb:=fun e=>by
  obtain⟨cur,hc⟩:=aM h.pool (g:=g) ⟨_,rfl,rfl⟩
  rw[e,h.st.blk]at hc
  simp only[Option.some.injEq,Obj.cells.injEq]at hc
  exact absurd hc.2.1 (by decide)
 have fc:∀k,k<7→w.cell? ⟨g,i*7+k,none⟩=(fN gi)[k]?:=fun k hk=>by
  rw[h.pool.cellAt (i*7+k) (by omega),←iE]
  exact rf hi k hk
 have e5:=fc 5 (by omega)
 have e6:=fc 6 (by omega)
 simp only[fN,List.getElem?_cons_zero,List.getElem?_cons_succ]at e5 e6
 have x5:=h.pool.frozenAt (i*7+5)
 have x6:=h.pool.frozenAt (i*7+6)
 have i0:(0:Int)≤(i:Int):=by omega
 have i1:(i:Int)<(G.length:Int):=by omega
 obtain⟨p1,p2⟩:=h.pool.stored (i*7+5) (.bool true)
 obtain⟨p3,p4⟩:=p1.stored (i*7+6) (.slice no nd.length nc)
 have cW:au (rowOf (some ⟨g,0,none⟩)) (rowOf (some ⟨g,0,none⟩)) w ((w.setCell ⟨g,i*7+5,none⟩ (.bool true)).setCell ⟨g,i*7+6,none⟩ (.slice no nd.length nc)):=
  ⟨p4.os.trans p2.os,p4.tape.trans p2.tape,p4.output.trans p2.output,Nat.le_trans p2.size p4.size,fun k hk hr=>by
   have hne:k≠g:=fun e=>hr ⟨⟨g,0,none⟩,rfl,e⟩
   rw[aL _ _ _ _ hne,aL _ _ _ _ hne],fun _ q=>Or.inl q⟩
 have Nr:(G.set i {gi with wt:=true,no:=no,nc:=nc,nd:=nd}).flatMap fN=((G.flatMap fN).set (i*7+5) (.bool true)).set (i*7+6) (.slice no nd.length nc):=by
  have a1:=Cp G i 5 hi (by omega) {gi with wt:=true} (.bool true) (by rw[iE];rfl)
  have a2:=Cp (G.set i {gi with wt:=true}) i 6 (by simpa using hi) (by omega) {gi with wt:=true,no:=no,nc:=nc,nd:=nd} (.slice no nd.length nc) (by simp[fN])
  rw[List.set_set]at a2
  rw[a2,a1]
 have HR:=af (h.Q4 cW (G':=G.set i {gi with wt:=true,no:=no,nc:=nc,nd:=nd}) (by simp) (by rw[Nr];exact p3) (fun q hq=>by
  rcases List.mem_or_eq_of_mem_set hq with e | e
  ·exact h.nds q e
  ·rw[e];exact hn) (fun q hq=>by
  rcases List.mem_or_eq_of_mem_set hq with e | e
  ·exact h.nlt q e
  ·rw[e];exact hlt) (fun q hq=>by
  rcases List.mem_or_eq_of_mem_set hq with e | e
  ·exact h.nl q e
  ·rw[e];exact hl))
 have HF:=af cW
 clear h hn hlt cW Nr p1 p2 p3 p4 fc iE
 go_enter Tryz.func179,Tryz.ntmps179
 go_wp2_with fail
 go_ret
 exact⟨rfl,ae HR,ae HF⟩
theorem infoGoal:(Tryz.prog.info? 158).map (fun i=>(i.zero,i.size,i.bytes))=some (some (.agg #[.int .i64 0,.string ⟨#[]⟩,.int .i64 0,.string ⟨#[]⟩,.int .i64 0,.bool false,.slice none 0 0]),7,88):=by kernel_rfl
theorem Lz (G:List Gl) (i j:Nat) (h:j<G.length):(G.take (j+1)).eraseIdx i=(G.take j).eraseIdx i++(if j=i then []else [G[j]]):=by
 have e:G.take (j+1)=G.take j++[G[j]]:=by rw[List.take_add_one,List.getElem?_eq_getElem h];rfl
 have hl:(G.take j).length=j:=by rw[List.length_take];omega
 rw[e]
 rcases Nat.lt_trichotomy j i with q | q | q
 ·rw[List.eraseIdx_of_length_le (by simp;omega),List.eraseIdx_of_length_le (by omega),if_neg (by omega)]
 ·subst q
  have h1:(G.take j).eraseIdx j=G.take j:=List.eraseIdx_of_length_le (Nat.le_of_eq hl)
  have h2:(G.take j++[G[j]]).eraseIdx j=G.take j++[G[j]].eraseIdx (j - (G.take j).length):=List.eraseIdx_append_of_length_le (Nat.le_of_eq hl) _
  rw[h1,h2,hl,Nat.sub_self,if_pos rfl]
  rfl
 ·rw[List.eraseIdx_append_of_lt_length (by omega),if_neg (by omega)]
def XC (w:World) (G:List Gl) (i:Nat) (k:Nat) (av iv:Value) (wr:World):Prop:=
 ∃j:Nat,k+j=G.length∧iv= .int .i64 (j:Int)∧wr.ownsRow w.heap.size 158 7 av ((G.take j).eraseIdx i).length (((G.take j).eraseIdx i).flatMap fN)∧Below w.heap.size w wr
theorem cQ.left {w w1:World} {mb:Nat} {cs:Array Value} {D:List Ng} {nO:Option Addr} {nC:Nat} {fr:Nat→Nat} {G G':List Gl} {po po':Option Addr} {pc pc':Nat} (h:cQ w mb cs D nO nC fr G po pc) (hb:Below w.heap.size w w1) (hs:∀g∈G',g∈G) (ho:w1.ownsRow w.heap.size 158 7 (.slice po' G'.length pc') G'.length (G'.flatMap fN)):
 cQ (w1.setCell ⟨mb,3,none⟩ (.slice po' G'.length pc')) mb (cs.setIfInBounds 3 (.slice po' G'.length pc')) D nO nC fr G' po' pc'∧au (fun k=>k=mb) (fun k=>k=mb∨rowOf po' k) w (w1.setCell ⟨mb,3,none⟩ (.slice po' G'.length pc')):=by
 have mz:=ag h.st.blk
 have keep:∀g,g≠mb→g<w.heap.size→(w1.setCell ⟨mb,3,none⟩ (.slice po' G'.length pc')).heap[g]?=w.heap[g]?:=fun g h1 h2=>by rw[aL _ _ _ _ h1,hb.block g h2]
 have h3:3<cs.size:=(Array.getElem?_eq_some_iff.1 h.c3).1
 refine⟨⟨⟨?_,?_,ai h.st.own fun g q=>keep g (fun e=> ?_) (h.st.own.lt g q).2,h.st.ty⟩,h.ok,?_,ai (cf ho (Nat.zero_le _)) fun g q=>aL _ _ _ _ (by have:=(ho.lt g q).1;omega),fun g hg=>ai (h.nds g (hs g hg)) fun k q=>keep k (fun e=> ?_) ((h.nds g (hs g hg)).lt k q).2,fun g hg=>h.nlt g (hs g hg),fun g hg=>h.nl g (hs g hg)⟩,⟨hb.os,hb.tape,hb.output,by rw[cN];exact hb.size,fun k hk hr=>keep k hr hk,fun k q=> ?_⟩⟩
 ·exact aA ((hb.block mb mz).trans h.st.blk) 3 (.slice po' G'.length pc')
 ·rw[Array.getElem?_setIfInBounds_ne (by omega)];exact h.st.cel
 ·exact aQ h.st.own h.st.blk h.st.ty (e ▸ aI q)
 ·rw[Array.getElem?_setIfInBounds_self,if_pos h3]
 ·exact aQ (h.nds g (hs g hg)) h.st.blk (by decide) (e ▸ aI q)
 ·rcases q with e | ⟨p,hp,hq⟩
  ·exact Or.inl e
  ·right
   exact(ho.lt k (by rw[hp,hq];rfl)).1
theorem tZ (w:World) (mb:Nat) (cs:Array Value) (D:List Ng) (nO:Option Addr) (nC:Nat) (fr:Nat→Nat) (G:List Gl) (po:Option Addr) (pc i:Nat) (h:cQ w mb cs D nO nC fr G po pc) (hl:G.length≤1000000):
 Calls Tryz.prog 139 #[.pointer (some ⟨mb,0,none⟩),.int .i64 (i:Int)] w fun e w'=>e= .returned (.int .i64 0)∧∃po' pc',cQ w' mb (cs.setIfInBounds 3 (.slice po' (G.eraseIdx i).length pc')) D nO nC fr (G.eraseIdx i) po' pc'∧au (fun k=>k=mb) (fun k=>k=mb∨rowOf po' k) w w':=by
 have f3:=(ah h.st.blk 3).trans h.c3
 have mz:=ag h.st.blk
 have H:=af h
 obtain⟨tj,hj,iA,iB,iC⟩:=info_parts infoGoal
 clear h
 go_enter Tryz.func139,Tryz.ntmps139
 go_wp2_with fail
 go_loopg [5,13] G.length (fun k av iv wr=>XC w G i k av iv wr)
 case atStart=>exact⟨0,by omega,rfl,by simpa using World.ownsRow_nil _ _ _ _,Below.refl _ _⟩
 case round=>
  obtain⟨j,hkj,rfl,how,aY⟩:=hrel
  obtain⟨oo,oc,rfl⟩:=fu how
  by_cases hlt:j<G.length
  ·obtain⟨g,hg⟩:∃g,po=some ⟨g,0,none⟩:=by
    rcases(ae H).pool.2 with⟨q,q2⟩ | ⟨g,cp,cur,q,_⟩
    ·omega
    ·simp only[Value.slice.injEq]at q
     exact⟨g,q.1⟩
   subst hg
   have gz0:=((ae H).pool.lt g rfl).2
   have fc:∀i,i<7→wr.cell? ⟨g,j*7+i,none⟩=(fN G[j])[i]?:=fun i hi=>by
    rw[aY.cell (p:=⟨g,j*7+i,none⟩) gz0,(ae H).pool.cellAt (j*7+i) (by omega)]
    exact rf hlt i hi
   have e0:=fc 0 (by omega)
   have e1:=fc 1 (by omega)
   have e2:=fc 2 (by omega)
   have e3:=fc 3 (by omega)
   have e4:=fc 4 (by omega)
   have e5:=fc 5 (by omega)
   have e6:=fc 6 (by omega)
   simp only[fN,List.getElem?_cons_zero,List.getElem?_cons_succ,Nat.add_zero]at e0 e1 e2 e3 e4 e5 e6
   have gz:g<wr.heap.size:=Nat.lt_of_lt_of_le gz0 aY.size
   have z0:w.heap.size≤wr.heap.size:=aY.size
   have i0:(0:Int)≤(j:Int):=by omega
   have i1:(j:Int)<(G.length:Int):=by omega
   have fy:=af (Lz G i j hlt)
   have hle:((G.take j).eraseIdx i).length≤1000000:=by
    have:=List.length_eraseIdx_le (G.take j) i
    rw[List.length_take]at this
    omega
   have HOW:=af how
   have bY:=af aY
   have aW:=af hkj
   have bh:=af hlt
   generalize (G.take j).eraseIdx i=Z at*
   generalize G[j]=gg at*
   clear how aY hkj hlt fc
   by_cases hi:j=i
   ·rw[if_pos hi,List.append_nil]at fy
    have t1:((j:Int) == (i:Int))=true:=by simp;omega
    have t2:((j:Int) != (i:Int))=false:=by simp;omega
    clear hi
    go_wp2_with fail
    go_roundg (gk - 1)
    case measure=>have:=ae aW;have:=ae bh;omega
    case rel=>exact⟨j+1,by have:=ae aW;have:=ae bh;omega,by go_num,by rw[ae fy];exact ai (ae HOW) (fun k q=>Below.heap_alloc _ _ _ ((ae HOW).lt k q).2),(ae bY).alloc (ae bY).size _⟩
   ·rw[if_neg hi]at fy
    have t1:((j:Int) == (i:Int))=false:=by simp;omega
    have t2:((j:Int) != (i:Int))=true:=by simp;omega
    clear hi
    go_wp2_with (first | (at_builtin;go_must (refine wpList_append_own_at _ rfl (.tmp 21) (.tmp 23) 89 rfl w.heap.size 158 tj (.agg #[.int .i64 0,.string ⟨#[]⟩,.int .i64 0,.string ⟨#[]⟩,.int .i64 0,.bool false,.slice none 0 0]) 7 88 Tryz.underlying89 hj iA iB iC rfl (by decide) _ Z.length (Z.flatMap fN) rfl (((ae HOW).alloc _).alloc _) ⟨wr.heap.size+1,0,none⟩ 1 1 [.int .i64 (gg.l:Int),.string gg.sg,.int .i64 gg.r,.string gg.op,.int .i64 gg.z,.bool gg.wt,.slice gg.no gg.nd.length gg.nc] rfl rfl (FX _ _ _ _ _ (by simp) rfl) (by simp[Value.oneCell']) (by unfold maxLen;omega) (by omega) (by simp;omega) ?_);go_must (intro v' w7 hown' hgrow _ _;have mK:=af hown';have gZ:=af ((((ae bY).alloc (ae bY).size _).alloc (by simp;omega) _).grown hgrow (by simp;omega) (fun k q=>by have:=((ae HOW).lt k q).1;omega));clear hown' hgrow)))
    go_roundg (gk - 1)
    case measure=>have:=ae aW;have:=ae bh;omega
    case rel=>exact⟨j+1,by have:=ae aW;have:=ae bh;omega,by go_num,by rw[ae fy];have:=ae mK;simpa [fN] using this,ae gZ⟩
  ·obtain rfl:j=G.length:=by omega
   rw[List.take_length]at how
   have HR:=af ((ae H).left aY (G':=G.eraseIdx i) (fun g hg=>List.mem_of_mem_eraseIdx hg) how)
   have f3':=(aY.cell (p:=⟨mb,3,none⟩) mz).trans f3
   have hb3:=(aY.block mb mz).trans (ae H).st.blk
   have x3:=ay hb3 3
   have mz':=ag hb3
   clear how aY hkj hb3
   go_wp2_with fail
   go_ret
   rw[List.take_length]
   exact⟨rfl,_,_,ae HR⟩
theorem cQ.linked {w w':World} {mb:Nat} {cs:Array Value} {D D':List Ng} {nO:Option Addr} {nC:Nat} {fr fr':Nat→Nat} {G:List Gl} {po:Option Addr} {pc:Nat} (h:cQ w mb cs D nO nC fr G po pc) (hs:bG w' mb 1 cs 91 D' nO nC) (hd:cU D D') (hf:au (rowOf nO) (rowOf nO) w w') (ho:bV D' fr'):cQ w' mb cs D' nO nC fr' G po pc:=by
 have keep:∀(g:Nat) (ys:Array Value) (S:TypeId),w.heap[g]?=some (.cells ys S (0,0))→S≠180→w'.heap[g]?=w.heap[g]?:=fun g ys S hg hS=>hf.block g (ag hg) (h.st.apart hg hS)
 refine⟨hs,ho,h.c3,ai h.pool fun g q=> ?_,fun g hg=>ai (h.nds g hg) fun k q=> ?_,fun g hg v hv=>by rw[hd.len];exact h.nlt g hg v hv,h.nl⟩
 ·obtain⟨cur,hc⟩:=aM h.pool (aI q)
  exact keep g _ _ hc (by decide)
 ·obtain⟨cur,hc⟩:=aM (h.nds g hg) (aI q)
  exact keep k _ _ hc (by decide)
def zZ (mb:Nat) (cs:Array Value) (D:List Ng) (nO:Option Addr) (nC:Nat) (fr:Nat→Nat) (TT:Nat→Zc.U) (G:List Gl) (i a b:Nat) (w:World) (e:Ending) (w':World):Prop:=
 (∃(D':List Ng) (fr':Nat→Nat) (σ:Zc.Vr→Zc.U) (T':Nat→Zc.U) (po':Option Addr) (pc':Nat),e= .returned (.int .i64 0)∧cU D D'∧Zc.Made (aZ D) fr fr' TT T' (TT a) (TT b) σ∧cQ w' mb (cs.setIfInBounds 3 (.slice po' (G.eraseIdx i).length pc')) D' nO nC fr' (G.eraseIdx i) po' pc'∧au (fun k=>rowOf nO k∨k=mb) (fun k=>rowOf nO k∨k=mb∨rowOf po' k) w w')∨
 ((∀θ,Zc.sub θ (TT a)≠Zc.sub θ (TT b))∧e= .returned (.int .i64 (-2))∧w'.heap[mb]?=some (.cells (cs.setIfInBounds 5 (.int .i64 4)) 91 (0,0))∧au (fun k=>rowOf nO k∨k=mb) (fun k=>rowOf nO k∨k=mb) w w')
theorem xS (w:World) (mb:Nat) (cs:Array Value) (D:List Ng) (nO:Option Addr) (nC:Nat) (fr:Nat→Nat) (TT:Nat→Zc.U) (P:Nat→Prop) (G:List Gl) (po:Option Addr) (pc i a b:Nat) (h:cQ w mb cs D nO nC fr G po pc) (bt:a8 w D P) (fE:Zc.dH (aZ D) fr TT) (ha:a<D.length) (hb:b<D.length) (hD:D.length≤1000000000) (hG:G.length≤1000000) (hc:5<cs.size):
 Calls Tryz.prog 137 #[.pointer (some ⟨mb,0,none⟩),.int .i64 (i:Int),.int .i64 (a:Int),.int .i64 (b:Int)] w fun e w'=>zZ mb cs D nO nC fr TT G i a b w e w':=by
 have IU:=af ((OA w mb 1 cs 91 D nO nC P fr a b h.st h.ok bt ha hb hD).mono fun e w' q=>q.says fE)
 have mz:=ag h.st.blk
 have H:=af h
 clear h bt fE ha hb hD
 go_enter Tryz.func137,Tryz.ntmps137
 go_wp2_with fail
 refine(ae IU).mono ?_
 rintro e w2 ⟨r,D',rfl,st2,sm2,fr2,yes,no⟩
 have mz2:=ag st2.blk
 have HF:=af ((fr2.wide (fun k=>k=mb)))
 cases r with
 | true=>
  obtain⟨fr',σ,T',ok2,md⟩:=yes rfl
  have IL:=af (tZ w2 mb cs D' nO nC fr' G po pc i ((ae H).linked st2 sm2 fr2 ok2) hG)
  have XD:=af md
  have jm:=af sm2
  clear st2 sm2 fr2 yes no ok2 md IU
  go_wp2_with fail
  refine(ae IL).mono ?_
  rintro e w3 ⟨rfl,po',pc',m3,fr3⟩
  have Q5:=af m3
  have vL:=af fr3
  clear m3 fr3 IL
  go_wp2_with fail
  go_ret
  refine Or.inl ⟨D',fr',σ,T',po',pc',rfl,ae jm,ae XD,ae Q5,(ae HF).trans ((ae vL).TC (rowOf nO))⟩
 | false=>
  have IL:=af (wK w2 mb cs 4 st2.blk hc)
  have gS:=af (no rfl)
  have HR:=af (aA st2.blk 5 (.int .i64 4))
  clear st2 sm2 fr2 yes no IU
  go_wp2_with fail
  refine(ae IL).mono ?_
  rintro e w3 ⟨rfl,rfl⟩
  go_wp2_with fail
  go_ret
  refine Or.inr ⟨ae gS,rfl,ae HR,(ae HF).trans ⟨rfl,rfl,rfl,by rw[cN];exact Nat.le_refl _,fun k _ hr=>aL _ _ _ _ (fun e=>hr (Or.inr e)),fun _ q=>Or.inl q⟩⟩
theorem wL (w:World) (sb so:Nat) (cs:Array Value) (T:TypeId) (D:List Ng) (no:Option Addr) (nc:Nat) (h:bG w sb so cs T D no nc):
 Calls Tryz.prog 159 #[.pointer (some ⟨sb,so,none⟩),.int .i64 (-1)] w fun e w'=>e= .returned (.bool false)∧w'=w:=by
 have s0:=h.cell
 have sz:=ag h.blk
 clear h
 go_enter Tryz.func159,Tryz.ntmps159
 go_wp2_with fail
 go_ret
 exact⟨rfl,rfl⟩
theorem xT (w:World) (sb so:Nat) (cs:Array Value) (T:TypeId) (D:List Ng) (no:Option Addr) (nc:Nat) (h:bG w sb so cs T D no nc):
 Calls Tryz.prog 100 #[.pointer (some ⟨sb,so,none⟩),.int .i64 (-1)] w fun e w'=>e= .returned (.int .i64 (-1))∧w'=w:=by
 have HH:=af (wL w sb so cs T D no nc h)
 clear h
 go_enter Tryz.func100,Tryz.ntmps100
 go_wp2_with fail
 refine wp_loop_rounds 1 ?_
 rw[rounds_succ]
 go_wp2_with fail
 refine(ae HH).mono ?_
 rintro e w2 ⟨rfl,rfl⟩
 go_wp2_with fail
 go_ret
 exact⟨rfl,rfl⟩
theorem xU (w:World) (sb so:Nat) (cs:Array Value) (T:TypeId) (D:List Ng) (no:Option Addr) (nc:Nat) (h:bG w sb so cs T D no nc):
 Calls Tryz.prog 99 #[.pointer (some ⟨sb,so,none⟩),.int .i64 (-1)] w fun e w'=>e= .returned (.agg #[.int .i64 0,.int .i64 0,.string ⟨#[]⟩,.int .i64 0])∧Below w.heap.size w w':=by
 have hb:=(Below.refl w.heap.size w).alloc (Nat.le_refl _) (.cells #[.int .i64 0,.int .i64 0,.string ⟨#[]⟩,.int .i64 0] 177)
 have HF:=af (xT _ sb so cs T D no nc (h.below hb))
 have HH:=af (wL _ sb so cs T D no nc (h.below hb))
 have HB:=af hb
 clear h hb
 go_enter Tryz.func99,Tryz.ntmps99
 go_wp2_with fail
 refine(ae HF).mono ?_
 rintro e w2 ⟨rfl,rfl⟩
 go_wp2_with fail
 refine(ae HH).mono ?_
 rintro e w2 ⟨rfl,rfl⟩
 go_wp2_with fail
 refine bodyPost_ret (v:= .agg #[.int .i64 0,.int .i64 0,.string ⟨#[]⟩,.int .i64 0]) (by simp[results,Tryz.results99,go_sem]) rfl ?_
 exact⟨rfl,ae HB⟩
theorem Aa (w:World) (sb so:Nat) (cs:Array Value) (T:TypeId) (D:List Ng) (no:Option Addr) (nc:Nat) (h:bG w sb so cs T D no nc):
 Calls Tryz.prog 98 #[.pointer (some ⟨sb,so,none⟩),.int .i64 (-1)] w fun e w'=>e= .returned (.slice none 0 0)∧w'=w:=by
 have HF:=af (xT w sb so cs T D no nc h)
 have HH:=af (wL w sb so cs T D no nc h)
 clear h
 go_enter Tryz.func98,Tryz.ntmps98
 go_wp2_with fail
 refine(ae HF).mono ?_
 rintro e w2 ⟨rfl,rfl⟩
 go_wp2_with fail
 refine(ae HH).mono ?_
 rintro e w2 ⟨rfl,rfl⟩
 go_wp2_with fail
 go_ret
 exact⟨rfl,rfl⟩
theorem Jo (w:World) (sb so:Nat) (cs:Array Value) (T:TypeId) (D:List Ng) (no:Option Addr) (nc:Nat) (h:bG w sb so cs T D no nc):
 Calls Tryz.prog 56 #[.pointer (some ⟨sb,so,none⟩),.int .i64 (-1),.int .i64 40] w fun e w'=>e= .returned (.int .i64 1)∧w'=w:=by
 have HA:=af (Aa w sb so cs T D no nc h)
 clear h
 go_enter Tryz.func56,Tryz.ntmps56
 go_wp2_with fail
 refine(ae HA).mono ?_
 rintro e w2 ⟨rfl,rfl⟩
 go_wp2_with fail
 refine wp_loop_rounds 1 ?_
 rw[rounds_succ]
 go_wp2_with fail
 go_ret
 exact⟨rfl,rfl⟩
theorem Ga (w:World) (lb sb so:Nat) (cs:Array Value) (T:TypeId) (D:List Ng) (no:Option Addr) (nc:Nat) (R:Nat→Prop) (S:List Int) (W:List Nat) (nb:Bool) (hs:bG w sb so cs T D no nc) (h:dp w lb S W nb R):
 Calls Tryz.prog 162 #[.pointer (some ⟨lb,0,none⟩),.pointer (some ⟨sb,so,none⟩),.int .i64 (-1)] w fun e w'=>e= .returned (.tuple #[])∧dp w' lb S W nb R∧au R R w w':=by
 have HL:=af (xU w sb so cs T D no nc hs)
 have H:=af h
 clear hs h
 go_enter Tryz.func162,Tryz.ntmps162
 go_wp2_with fail
 refine(ae HL).mono ?_
 rintro e w2 ⟨rfl,hb2⟩
 have aX:=af hb2
 have z2:=hb2.size
 clear hb2
 go_wp2_with fail
 go_end0
 exact⟨rfl,(ae H).below ((ae aX).alloc z2 _),au.aw ((ae aX).alloc z2 _)⟩
def pE (len:Nat) (x:Int):Prop:=x= -1∨∃n:Nat,x=(n:Int)∧n<len
def lx (w:World) (o:Option Addr) (xs:List Int):Prop:=xs≠[]→∃g,o=some ⟨g,0,none⟩∧g<w.heap.size∧∀i (h:i<xs.length),w.cell? ⟨g,i,none⟩=some (.int .i64 xs[i])
theorem lx.mr {w:World} {o:Option Addr} {xs:List Int} {c b:Nat} (h:w.ownsRow b 3 1 (.slice o xs.length c) xs.length (xs.map fX)):lx w o xs:=fun hne=>by
 have hp:0<xs.length:=List.length_pos_iff.2 hne
 rcases h.2 with⟨q,q2⟩ | ⟨g,cp,cur,q,_⟩
 ·omega
 ·simp only[Value.slice.injEq]at q
  obtain⟨rfl,_⟩:=q
  refine⟨g,rfl,(h.lt g rfl).2,fun i hi=> ?_⟩
  rw[h.cellAt i (by omega),List.getElem?_map,List.getElem?_eq_getElem hi]
  rfl
theorem lx.below {w w':World} {o:Option Addr} {xs:List Int} (h:lx w o xs) (hb:Below w.heap.size w w'):lx w' o xs:=fun hne=>by
 obtain⟨g,h1,h2,h3⟩:=h hne
 exact⟨g,h1,Nat.lt_of_lt_of_le h2 hb.size,fun i hi=>(hb.cell (p:=⟨g,i,none⟩) h2).trans (h3 i hi)⟩
theorem lx.OP {w:World} {D:List Ng} {P:Nat→Prop} (h:a8 w D P) {d:Ng} (hd:d∈D):lx w d.ao (d.args.map fun n:Nat=>(n:Int)):=fun hne=>by
 obtain⟨g,h1,h2,h3⟩:=h.at hd (fun q=>hne (by rw[q];rfl))
 exact⟨g,h1,h2,fun i hi=>by rw[h3 i (by simpa using hi)];simp⟩
def gf (TT:Nat→Zc.U) (x:Int):Bool:=decide (x≠-1∧40<Zc.size (TT x.toNat))
theorem LC (TT:Nat→Zc.U):gf TT (-1)=false:=by simp[gf]
theorem LD (TT:Nat→Zc.U) (n:Nat):gf TT (n:Int)=decide (40<min (Zc.size (TT n)) 41):=by
 unfold gf
 rw[Int.toNat_natCast]
 congr 1
 apply propext
 omega
theorem ud (w:World) (mb:Nat) (cs:Array Value) (Ty:TypeId) (D:List Ng) (nO:Option Addr) (nC:Nat) (fr:Nat→Nat) (TT:Nat→Zc.U) (P:Nat→Prop) (xs:List Int) (xo:Option Addr) (xc:Nat) (hs:bG w mb 1 cs Ty D nO nC) (aF:bV D fr) (bt:a8 w D P) (p8:∀n,n<D.length→Zc.Tr (aZ D) fr n (TT n)) (hx:lx w xo xs) (hn:∀x∈xs,pE D.length x) (hl:xs.length≤1000000000):
 Calls Tryz.prog 141 #[.pointer (some ⟨mb,0,none⟩),.slice xo xs.length xc] w fun e w'=>e= .returned (.bool (xs.any (gf TT)))∧w'=w:=by
 have HX:=af hx
 have HN:=af hn
 have ISZ:=af (show∀x∈xs,Calls Tryz.prog 56 #[.pointer (some ⟨mb,1,none⟩),.int .i64 x,.int .i64 40] w fun e w'=>∃s:Nat,e= .returned (.int .i64 (s:Int))∧decide (40<s)=gf TT x∧s≤41∧w'=w from fun x Ew=>by
  rcases hn x Ew with rfl | ⟨n,rfl,lO⟩
  ·exact(Jo w mb 1 cs Ty D nO nC hs).mono fun e w' q=>⟨1,q.1,by rw[LC];rfl,by omega,q.2⟩
  ·exact(size_all _ w mb 1 cs Ty D nO nC P fr n (TT n) 40 hs aF bt lO (p8 n lO) (Nat.le_refl _) (by omega)).mono fun e w' q=>⟨_,q.1,(LD TT n).symm,by omega,q.2⟩)
 clear hs aF bt p8 hx hn
 go_enter Tryz.func141,Tryz.ntmps141
 go_wp2_with fail
 go_loopg [9] xs.length (fun k iv wr=>∃j:Nat,k+j=xs.length∧iv= .int .i64 (j:Int)∧wr=w∧(xs.take j).any (gf TT)=false)
 case atStart=>exact⟨0,by omega,rfl,rfl,by simp⟩
 case round=>
  obtain⟨j,hkj,rfl,rfl,hno⟩:=hrel
  by_cases hlt:j<xs.length
  ·obtain⟨g,hg,gz,UI⟩:=ae HX (fun q=>by rw[q]at hlt;simp at hlt)
   subst hg
   have f0:wr.cell? ⟨g,j,none⟩=some (.int .i64 xs[j]):=UI j hlt
   clear UI
   have i0:(0:Int)≤(j:Int):=by omega
   have i1:(j:Int)<(xs.length:Int):=by omega
   have IC:=af (ae ISZ xs[j] (List.getElem_mem hlt))
   have hst:xs.take (j+1)=xs.take j++[xs[j]]:=by rw[List.take_add_one,List.getElem?_eq_getElem hlt];rfl
   have ij:xs[j]∈xs:=List.getElem_mem hlt
   have bh:=af hlt
   have aW:=af hkj
   generalize xs[j]=x at*
   have HST:=af hst
   have gS:=af hno
   have Gb:=af ij
   clear hno hkj hst ij hlt
   go_wp2_with fail
   refine(ae IC).mono ?_
   rintro e w5 ⟨s,rfl,Ns,h41,rfl⟩
   by_cases hb:40<s
   ·have t1:decide ((40:Int)<(s:Int))=true:=by simp;omega
    have HY:=af (show xs.any (gf TT)=true from List.any_eq_true.2 ⟨x,ae Gb,by rw[←Ns];simpa using hb⟩)
    clear hb Ns
    go_wp2_with fail
    go_ret
    exact⟨by rw[ae HY];rfl,rfl⟩
   ·have t1:decide ((40:Int)<(s:Int))=false:=by simp;omega
    have HY:=af (show (xs.take (j+1)).any (gf TT)=false by rw[ae HST,List.any_append,ae gS];simp[←Ns];omega)
    clear hb Ns
    go_wp2_with fail
    go_roundg (gk - 1)
    case measure=>have:=ae aW;have:=ae bh;omega
    case rel=>exact⟨j+1,by have:=ae aW;have:=ae bh;omega,by go_num,rfl,ae HY⟩
  ·have gS:=af (show xs.any (gf TT)=false by rwa [List.take_of_length_le (by omega)]at hno)
   clear hno
   obtain rfl:j=xs.length:=by omega
   go_wp2_with fail
   go_ret
   exact⟨by rw[ae gS];rfl,rfl⟩
def gK (fr:Nat→Nat) (G:List Gl):Int:=if G=[]then 1 else if cD fr G G.length=[]then 2 else 3
theorem xV (w:World) (mb:Nat) (cs:Array Value) (Ty:TypeId) (k:Int) (h:w.heap[mb]?=some (.cells cs Ty (0,0))) (h5:cs[5]?=some (.int .i64 k)) (hk:k≠0):
 Calls Tryz.prog 46 #[.pointer (some ⟨mb,0,none⟩)] w fun e w'=>e= .returned (.tuple #[])∧w'=w:=by
 have c5:=(ah h 5).trans h5
 have mz:=ag h
 have t1:(k == 0)=false:=by simpa using hk
 have t2:(k != 0)=true:=by simpa using hk
 clear h h5 hk
 go_enter Tryz.func46,Tryz.ntmps46
 go_wp2_with fail
 first | (go_end0;exact⟨rfl,rfl⟩) | (go_ret;exact⟨rfl,rfl⟩) | (refine bodyPost_ret (v:= .tuple #[]) (by simp[results,Tryz.results46,go_sem]) rfl ?_;exact⟨rfl,rfl⟩)
theorem Ab (w:World) (mb:Nat) (cs:Array Value) (D:List Ng) (nO:Option Addr) (nC:Nat) (fr:Nat→Nat) (G:List Gl) (po:Option Addr) (pc:Nat) (h:cQ w mb cs D nO nC fr G po pc) (hl:G.length≤1000000) (h5:cs[5]?=some (.int .i64 0)):
 Calls Tryz.prog 46 #[.pointer (some ⟨mb,0,none⟩)] w fun e w'=>e= .returned (.tuple #[])∧∃W,Below w.heap.size w W∧w'=W.setCell ⟨mb,5,none⟩ (.int .i64 (gK fr G)):=by
 have c5:=(ah h.st.blk 5).trans h5
 have mz:=ag h.st.blk
 have IR:=af (zY w mb cs D nO nC fr G po pc h hl)
 have H:=af h
 clear h
 go_enter Tryz.func46,Tryz.ntmps46
 go_wp2_with fail
 refine(ae IR).mono ?_
 rintro e w2 ⟨oo,oc,rfl,-,hb2⟩
 have h2:=(ae H).below hb2
 have d3:=(ah h2.st.blk 3).trans h2.c3
 have d5:=(ah h2.st.blk 5).trans h5
 have x5:=ay h2.st.blk 5
 have mz2:=ag h2.st.blk
 have HB:=af hb2
 have Cr:=af (show gK fr G=if G=[]then 1 else if cD fr G G.length=[]then 2 else 3 from rfl)
 generalize cD fr G G.length=Z at*
 clear h2 hb2 IR H c5 h5
 cases G with
 | nil=>
  rw[if_pos rfl]at Cr
  go_wp2_with fail
  go_end0
  exact⟨rfl,w2,ae HB,by rw[ae Cr]⟩
 | cons g G=>
  rw[if_neg (by simp)]at Cr
  have t1:(((G.length+1:Nat):Int) == 0)=false:=by simp;omega
  have t1':(((G.length:Nat):Int)+1 == 0)=false:=by simp;omega
  cases Z with
  | nil=>
   rw[if_pos rfl]at Cr
   go_wp2_with fail
   go_end0
   exact⟨rfl,w2,ae HB,by rw[ae Cr]⟩
  | cons z Z=>
   rw[if_neg (by simp)]at Cr
   have t2:(((Z.length+1:Nat):Int) == 0)=false:=by simp;omega
   have t2':(((Z.length:Nat):Int)+1 == 0)=false:=by simp;omega
   go_wp2_with fail
   go_end0
   exact⟨rfl,w2,ae HB,by rw[ae Cr]⟩
theorem Gc (w:World) (mb:Nat) (cs:Array Value) (Ty:TypeId) (D:List Ng) (nO:Option Addr) (nC:Nat) (fr:Nat→Nat) (P:Nat→Prop) (g:Gl) (d:Ng) (hs:bG w mb 1 cs Ty D nO nC) (aF:bV D fr) (bt:a8 w D P) (hn:g.l<D.length) (hd:D[fr g.l]?=some d) (aV:g.sg.toList=[]):
 Calls Tryz.prog 142 #[.pointer (some ⟨mb,0,none⟩),.agg #[.int .i64 (g.l:Int),.string g.sg,.int .i64 g.r,.string g.op,.int .i64 g.z,.bool g.wt,.slice g.no g.nd.length g.nc]] w fun e w'=>e= .returned (.slice d.ao d.args.length d.cap)∧lx w' d.ao (d.args.map fun n:Nat=>(n:Int))∧Below w.heap.size w w':=by
 obtain⟨l,sg,r,op,z,wt,no,nc,nd⟩:=g
 dsimp only at*
 obtain⟨k,hk⟩:=aF.hop l hn
 have ij:d∈D:=List.mem_of_getElem? hd
 have hb0:=(Below.refl w.heap.size w).alloc (Nat.le_refl _) (.cells #[.int .i64 (l:Int),.string sg,.int .i64 r,.string op,.int .i64 z,.bool wt,.slice no nd.length nc] 158)
 have HA:=af (fun W (hb:Below w.heap.size w W)=>l7 W mb 1 cs Ty D nO nC l (fr l) k d (hs.below hb) hk hd)
 have HR:=af (fun W (hb:Below w.heap.size w W)=>(lx.OP bt ij).below hb)
 have mz:=ag hs.blk
 have bf:=af hb0
 have t1:(sg.toList == [])=true:=by rw[aV];rfl
 clear hs aF bt hn hd hk ij hb0 aV
 go_enter Tryz.func142,Tryz.ntmps142
 go_wp2_with fail
 go_region_with (go_at_call 98;refine(ae HA _ (by first | exact ae bf | exact(ae bf).drew | exact(ae bf).drew.drew | exact(ae bf).drew.drew.drew | exact(ae bf).drew.drew.drew.drew)).mono ?_;rintro e w5 ⟨rfl,rfl⟩)
 all_goals
  go_wp2_with fail
  go_ret
  first
   | exact⟨rfl,ae HR _ (ae bf),ae bf⟩
   | exact⟨rfl,ae HR _ (ae bf).drew,(ae bf).drew⟩
   | exact⟨rfl,ae HR _ (ae bf).drew.drew,(ae bf).drew.drew⟩
   | exact⟨rfl,ae HR _ (ae bf).drew.drew.drew,(ae bf).drew.drew.drew⟩
theorem Gd (w:World) (mb:Nat) (g:Gl) (aV:g.sg.toList≠[]):
 Calls Tryz.prog 142 #[.pointer (some ⟨mb,0,none⟩),.agg #[.int .i64 (g.l:Int),.string g.sg,.int .i64 g.r,.string g.op,.int .i64 g.z,.bool g.wt,.slice g.no g.nd.length g.nc]] w fun e w'=>∃o c,e= .returned (.slice o 3 c)∧lx w' o [(g.l:Int),g.r,g.z]∧Below w.heap.size w w':=by
 obtain⟨l,sg,r,op,z,wt,no,nc,nd⟩:=g
 dsimp only at*
 have t1:(sg.toList == [])=false:=by simpa using aV
 clear aV
 go_enter Tryz.func142,Tryz.ntmps142
 go_wp2_with fail
 go_ret
 refine⟨_,_,rfl,fun _=>⟨w.heap.size+1,rfl,by simp,fun i hi=> ?_⟩,((Below.refl _ _).alloc (Nat.le_refl _) _).alloc (by simp) _⟩
 match i,hi with
 | 0,_=>simp
 | 1,_=>simp
 | 2,_=>simp
def iV (D:List Ng) (fr:Nat→Nat) (g:Gl):List Int:=if g.sg.toList=[]then((D[fr g.l]?).elim [] fun d=>d.args.map fun n:Nat=>(n:Int))else [(g.l:Int),g.r,g.z]
def XE (D:List Ng) (fr:Nat→Nat) (g:Gl) (w:World) (e:Ending) (w':World):Prop:=∃o c,e= .returned (.slice o (iV D fr g).length c)∧lx w' o (iV D fr g)∧Below w.heap.size w w'
theorem Jp (w:World) (mb:Nat) (cs:Array Value) (Ty:TypeId) (D:List Ng) (nO:Option Addr) (nC:Nat) (fr:Nat→Nat) (P:Nat→Prop) (g:Gl) (hs:bG w mb 1 cs Ty D nO nC) (aF:bV D fr) (bt:a8 w D P) (hn:g.l<D.length):
 Calls Tryz.prog 142 #[.pointer (some ⟨mb,0,none⟩),.agg #[.int .i64 (g.l:Int),.string g.sg,.int .i64 g.r,.string g.op,.int .i64 g.z,.bool g.wt,.slice g.no g.nd.length g.nc]] w fun e w'=>XE D fr g w e w':=by
 have hf:=aF.lt hn
 by_cases h:g.sg.toList=[]
 ·refine(Gc w mb cs Ty D nO nC fr P g D[fr g.l] hs aF bt hn (List.getElem?_eq_getElem hf) h).mono ?_
  rintro e w' ⟨h1,h2,h3⟩
  have e:iV D fr g=D[fr g.l].args.map fun n:Nat=>(n:Int):=by unfold iV;rw[if_pos h,List.getElem?_eq_getElem hf];rfl
  exact⟨_,_,by rw[e,List.length_map];exact h1,by rw[e];exact h2,h3⟩
 ·refine(Gd w mb g h).mono ?_
  rintro e w' ⟨o,c,h1,h2,h3⟩
  have e:iV D fr g=[(g.l:Int),g.r,g.z]:=by unfold iV;rw[if_neg h]
  exact⟨o,c,by rw[e];exact h1,by rw[e];exact h2,h3⟩
def ju (D:List Ng) (fr:Nat→Nat) (TT:Nat→Zc.U) (g:Gl):Bool:=(iV D fr g).any (gf TT)
def XF (w:World) (D:List Ng) (fr:Nat→Nat) (TT:Nat→Zc.U) (G:List Gl) (k:Nat) (iv:Value) (wr:World):Prop:=
 ∃j:Nat,k+j=G.length∧iv= .int .i64 (j:Int)∧Below w.heap.size w wr∧(G.take j).any (ju D fr TT)=false
theorem Ge (w:World) (mb:Nat) (cs:Array Value) (D:List Ng) (nO:Option Addr) (nC:Nat) (fr:Nat→Nat) (TT:Nat→Zc.U) (P:Nat→Prop) (G:List Gl) (po:Option Addr) (pc:Nat) (vs:List Int) (vo:Option Addr) (vc:Nat) (h:cQ w mb cs D nO nC fr G po pc) (bt:a8 w D P) (p8:∀n,n<D.length→Zc.Tr (aZ D) fr n (TT n)) (hc2:cs[2]?=some (.slice vo vs.length vc)) (hv:lx w vo vs) (UJ:∀x∈vs,pE D.length x) (jI:vs.length≤1000000000) (ue:∀g∈G,g.l<D.length∧(∀x∈iV D fr g,pE D.length x)∧(iV D fr g).length≤1000000000) (hl:G.length≤24):
 Calls Tryz.prog 85 #[.pointer (some ⟨mb,0,none⟩)] w fun e w'=>e= .returned (.bool (vs.any (gf TT)||G.any (ju D fr TT)))∧Below w.heap.size w w':=by
 have f3:=(ah h.st.blk 3).trans h.c3
 have f2:=(ah h.st.blk 2).trans hc2
 have mz:=ag h.st.blk
 have t1:decide ((24:Int)<(G.length:Int))=false:=by simp;omega
 have IV:=af (ud w mb cs _ D nO nC fr TT P vs vo vc h.st h.ok bt p8 hv UJ jI)
 have IP:=af (fun W (hb:Below w.heap.size w W) (g:Gl) (hg:g∈G)=>Jp W mb cs _ D nO nC fr P g ((h.below hb).st) h.ok (bt.below hb) (ue g hg).1)
 have IH:=af (fun W (hb:Below w.heap.size w W) (g:Gl) (hg:g∈G) (o:Option Addr) (c:Nat) (hx:lx W o (iV D fr g))=>ud W mb cs _ D nO nC fr TT P (iV D fr g) o c ((h.below hb).st) h.ok (bt.below hb) p8 hx (ue g hg).2.1 (ue g hg).2.2)
 have H:=af h
 clear h bt p8 hc2 hv UJ jI ue
 have hq:vs.any (gf TT)=true∨vs.any (gf TT)=false:=by cases vs.any (gf TT)<;>simp
 have HQ:=af hq
 clear hq
 rcases ae HQ with hq | hq
 ·rw[hq]at IV
  have HR:=af (show (vs.any (gf TT)||G.any (ju D fr TT))=true by rw[hq];rfl)
  clear hq HQ
  go_enter Tryz.func85,Tryz.ntmps85
  go_wp2_with fail
  refine(ae IV).mono ?_
  rintro e w2 ⟨rfl,rfl⟩
  go_wp2_with fail
  go_ret
  exact⟨by rw[ae HR];rfl,Below.refl _ _⟩
 ·rw[hq]at IV
  have HR:=af (show (vs.any (gf TT)||G.any (ju D fr TT))=G.any (ju D fr TT)by rw[hq];rfl)
  clear hq HQ
  go_enter Tryz.func85,Tryz.ntmps85
  go_wp2_with fail
  refine(ae IV).mono ?_
  rintro e w2 ⟨rfl,rfl⟩
  go_wp2_with fail
  go_loopg [25] G.length (fun k iv wr=>XF w2 D fr TT G k iv wr)
  case atStart=>exact⟨0,by omega,rfl,Below.refl _ _,by simp⟩
  case round=>
   obtain⟨j,hkj,rfl,aY,hno⟩:=hrel
   by_cases hlt:j<G.length
   ·obtain⟨g,hg⟩:∃g,po=some ⟨g,0,none⟩:=by
     rcases(ae H).pool.2 with⟨q,q2⟩ | ⟨g,cp,cur,q,_⟩
     ·omega
     ·simp only[Value.slice.injEq]at q
      exact⟨g,q.1⟩
    subst hg
    have gz0:=((ae H).pool.lt g rfl).2
    have fc:∀i,i<7→wr.cell? ⟨g,j*7+i,none⟩=(fN G[j])[i]?:=fun i hi=>by
     rw[aY.cell (p:=⟨g,j*7+i,none⟩) gz0,(ae H).pool.cellAt (j*7+i) (by omega)]
     exact rf hlt i hi
    have e0:=fc 0 (by omega)
    have e1:=fc 1 (by omega)
    have e2:=fc 2 (by omega)
    have e3:=fc 3 (by omega)
    have e4:=fc 4 (by omega)
    have e5:=fc 5 (by omega)
    have e6:=fc 6 (by omega)
    simp only[fN,List.getElem?_cons_zero,List.getElem?_cons_succ,Nat.add_zero]at e0 e1 e2 e3 e4 e5 e6
    have gz:g<wr.heap.size:=Nat.lt_of_lt_of_le gz0 aY.size
    have i0:(0:Int)≤(j:Int):=by omega
    have i1:(j:Int)<(G.length:Int):=by omega
    have ij:G[j]∈G:=List.getElem_mem hlt
    have hst:G.take (j+1)=G.take j++[G[j]]:=by rw[List.take_add_one,List.getElem?_eq_getElem hlt];rfl
    have hW:=aY.alloc aY.size (.cells #[.int .i64 (G[j].l:Int),.string G[j].sg,.int .i64 G[j].r,.string G[j].op,.int .i64 G[j].z,.bool G[j].wt,.slice G[j].no G[j].nd.length G[j].nc] 158)
    have IPj:=af (ae IP _ hW G[j] ij)
    have HW:=af hW
    have HST:=af hst
    have gS:=af hno
    have Gb:=af ij
    have aW:=af hkj
    have bh:=af hlt
    generalize G[j]=gg at*
    clear hno aY hkj hlt fc hst ij hW
    go_wp2_with fail
    refine(ae IPj).mono ?_
    rintro e w5 ⟨o,c,rfl,hx,bB⟩
    have eR:=(ae HW).trans (bB.mono (ae HW).size)
    have IHj:=af (ae IH w5 eR gg (ae Gb) o c hx)
    have cC:=af eR
    have zR:ju D fr TT gg=true∨ju D fr TT gg=false:=by cases ju D fr TT gg<;>simp
    have oB:=af zR
    clear hx bB eR zR
    change Hid (Calls _ _ _ _ fun e w'=>e= .returned (.bool (ju D fr TT gg))∧w'=w5)at IHj
    generalize (iV D fr gg).length=pl at*
    rcases ae oB with hb | hb
    ·rw[hb]at IHj
     have HY:=af (show G.any (ju D fr TT)=true from List.any_eq_true.2 ⟨gg,ae Gb,hb⟩)
     clear hb oB
     go_wp2_with fail
     refine(ae IHj).mono ?_
     rintro e w6 ⟨rfl,rfl⟩
     go_wp2_with fail
     go_ret
     exact⟨by rw[ae HR,ae HY];rfl,ae cC⟩
    ·rw[hb]at IHj
     have HY:=af (show (G.take (j+1)).any (ju D fr TT)=false by rw[ae HST,List.any_append,ae gS];simp[hb])
     clear hb oB
     go_wp2_with fail
     refine(ae IHj).mono ?_
     rintro e w6 ⟨rfl,rfl⟩
     go_wp2_with fail
     go_roundg (gk - 1)
     case measure=>have:=ae aW;have:=ae bh;omega
     case rel=>exact⟨j+1,by have:=ae aW;have:=ae bh;omega,by go_num,ae cC,ae HY⟩
   ·have gS:=af (show G.any (ju D fr TT)=false by rwa [List.take_of_length_le (by omega)]at hno)
    have bY:=af aY
    clear hno aY
    obtain rfl:j=G.length:=by omega
    go_wp2_with fail
    go_ret
    exact⟨by rw[ae HR,ae gS];rfl,ae bY⟩
theorem Cs (w:World) (mb:Nat) (cs:Array Value) (D:List Ng) (nO:Option Addr) (nC:Nat) (fr:Nat→Nat) (G:List Gl) (po:Option Addr) (pc:Nat) (h:cQ w mb cs D nO nC fr G po pc) (hl:24<G.length):
 Calls Tryz.prog 85 #[.pointer (some ⟨mb,0,none⟩)] w fun e w'=>e= .returned (.bool true)∧w'=w:=by
 have f3:=(ah h.st.blk 3).trans h.c3
 have mz:=ag h.st.blk
 have t1:decide ((24:Int)<(G.length:Int))=true:=by simp;omega
 clear h
 go_enter Tryz.func85,Tryz.ntmps85
 go_wp2_with fail
 go_ret
 exact⟨rfl,rfl⟩
theorem Jq (w:World) (sb so nb:Nat) (cs:Array Value) (T:TypeId) (D:List Ng) (no:Option Addr) (nc:Nat) (h:bG w sb so cs T D no nc):
 Calls Tryz.prog 57 #[.pointer (some ⟨sb,so,none⟩),.int .i64 (-1),.pointer (some ⟨nb,0,none⟩)] w fun e w'=>e= .returned (.agg #[.int .i64 0,.int .i64 0,.string ⟨#[]⟩,.slice none 0 0])∧Below w.heap.size w w':=by
 have HL:=af (fun W (hb:Below w.heap.size w W)=>xU W sb so cs T D no nc (h.below hb))
 have HA:=af (fun W (hb:Below w.heap.size w W)=>Aa W sb so cs T D no nc (h.below hb))
 have hb0:=(Below.refl w.heap.size w).alloc (Nat.le_refl _) (.cells #[.int .i64 0,.int .i64 0,.string ⟨#[]⟩,.slice none 0 0] 76)
 have kq:=af (heap_alloc_new w (.cells #[.int .i64 0,.int .i64 0,.string ⟨#[]⟩,.slice none 0 0] 76))
 have bf:=af hb0
 clear h hb0
 go_enter Tryz.func57,Tryz.ntmps57
 go_wp2_with fail
 refine(ae HL _ (ae bf)).mono ?_
 rintro e w1 ⟨rfl,hb1⟩
 have hr1:=(hb1.block w.heap.size (by simp)).trans (ae kq)
 have d0:=ah hr1
 have x0:=ay hr1
 have dz:=ag hr1
 have hb2:=(ae bf).trans (hb1.mono (ae bf).size)
 have aX:=af hb2
 have z2:=hb2.size
 clear hb1 hr1 hb2
 go_wp2_with fail
 refine(ae HA _ (((ae aX).alloc z2 _).alloc (by simp;omega) _)).mono ?_
 rintro e w3 ⟨rfl,rfl⟩
 go_wp2_with fail
 refine wp_loop_rounds 1 ?_
 rw[rounds_succ]
 go_wp2_with fail
 refine bodyPost_ret (v:= .agg #[.int .i64 0,.int .i64 0,.string ⟨#[]⟩,.slice none 0 0]) (by simp[results,Tryz.results57,go_sem,d0,dz,World.cell?_alloc_past]) rfl ?_
 exact⟨rfl,((((((ae aX).setCell (Nat.le_refl _) _).setCell (Nat.le_refl _) _).setCell (Nat.le_refl _) _).setCell (Nat.le_refl _) _).alloc (by simp only[cN];exact z2) _).alloc (by simp only[World.size_alloc,cN];omega) _⟩
def Ct (b:Nat) (E:List Ng):Prop:=∀(i:Nat) (d:Ng),E[i]?=some d→d.nx=b+i∧d.mrk=0∧gI (b+i) d
theorem Ct.at {D E:List Ng} (h:Ct D.length E) {n:Nat} (h1:D.length≤n) (h2:n<(D++E).length):(D++E)[n].nx=n∧(D++E)[n].mrk=0∧gI n (D++E)[n]:=by
 rw[List.getElem_append_right h1]
 rw[List.length_append]at h2
 have:=h (n - D.length) E[n - D.length] (List.getElem?_eq_getElem (by omega))
 rwa [show D.length+(n - D.length)=n by omega]at this
theorem bV.Nt {D E:List Ng} {fr:Nat→Nat} (h:bV D fr) (hE:Ct D.length E):bV (D++E) fr:=by
 refine⟨fun n hn=> ?_,fun n hn=> ?_,fun n hn=>h.out n (by rw[List.length_append]at hn;omega)⟩
 ·by_cases q:n<D.length
  ·rw[List.getElem_append_left q]
   exact(h.nd n q).mono (by rw[List.length_append];omega)
  ·exact(hE.at (by omega) hn).2.2.mono (by omega)
 ·by_cases q:n<D.length
  ·obtain⟨k,hk⟩:=h.hop n q
   have key:∀{n m k},Hop D n m k→Hop (D++E) n m k:=by
    intro n m k hk
    induction hk with
    | stop q e=>exact .stop (by rw[List.length_append];omega) (by rw[List.getElem_append_left q];exact e)
    | go q e _ ih=>exact .go (by rw[List.length_append];omega) (by rw[List.getElem_append_left q];exact e) (by rw[List.getElem_append_left q];exact ih)
   exact⟨k,key hk⟩
  ·rw[h.out n (by omega)]
   exact⟨0,.stop hn (hE.at (by omega) hn).1⟩
theorem Jr {D E:List Ng} {fr:Nat→Nat} {T:Nat→Zc.U} (h:bV D fr) (hS:Zc.dH (aZ D) fr T) (hE:Ct D.length E):∃T',Zc.dH (aZ (D++E)) fr T'∧∀n,n<D.length→T' n=T n:=by
 have ho:=h.Nt hE
 have hplain:Zc.Plain (aZ (D++E)):=fun n hg=>by
  by_cases q:n<(D++E).length
  ·rw[lY q]at hg
   rw[jT q]
   exact((ho.nd n q).v ((ho.nd n q).gh.1 hg)).2.2.2
  ·exact xJ (by omega)
 have p8:∀n,∃u,Zc.Tr (aZ (D++E)) fr n u:=by
  intro n
  induction n using Nat.strongRecOn with
  | _ n ih=>
   by_cases q:n<D.length
   ·exact⟨_,uT h (hS.tr n) q⟩
   ·have hf:fr n=n:=h.out n (by omega)
    refine Zc.rA hplain fun a ha=>ih a ?_
    rw[hf]at ha
    by_cases r:n<(D++E).length
    ·rw[jT r]at ha
     exact(hE.at (by omega) r).2.2.inn a ha
    ·rw[xJ (by omega)]at ha
     cases ha
 refine⟨fun n=>Classical.choose (p8 n),⟨⟨ho.idem,fun n hn=> ?_⟩,⟨fun n hn=> ?_,fun n hn i x y hx hy=> ?_⟩,fun n=>Classical.choose_spec (p8 n),hplain,fun n hg=> ?_⟩,fun n hn=> ?_⟩
 ·by_cases q:n<D.length
  ·rw[gC q]at hn
   rw[gC (h.lt q)]
   exact hS.fronts.gh n hn
  ·rw[h.out n (by omega)];exact hn
 ·by_cases q:n<D.length
  ·rw[gC q]at hn
   have:=hS.cong.gh n hn
   unfold Zc.pO at this⊢
   rw[gC q,gC (h.lt q),jJ q,jJ (h.lt q)]
   exact this
  ·rw[h.out n (by omega)];exact⟨rfl,rfl⟩
 ·by_cases q:n<D.length
  ·rw[gC q]at hn
   rw[jJ q]at hx
   rw[jJ (h.lt q)]at hy
   exact hS.cong.args n hn i x y hx hy
  ·rw[h.out n (by omega),hx]at hy
   obtain rfl:=Option.some.inj hy
   exact .fr rfl
 ·by_cases q:n<D.length
  ·rw[gC (h.lt q)]at hg
   exact hS.sO n hg
  ·rw[h.out n (by omega)];exact Nat.le_refl _
 ·exact(Classical.choose_spec (p8 n)).one (uT h (hS.tr n) hn)
def gL (x:Int) (n:Nat):Ng:=⟨2,x,⟨#[]⟩,0,none,0,[],n,0⟩
theorem Cu (x:Int) (b:Nat):Ct b [gL x b]:=fun i d hd=>by
 cases i with
 | zero=>
  simp at hd
  subst hd
  exact⟨rfl,rfl,Or.inr (Or.inl rfl),(fun q=>absurd q (show¬(2:Int)=1 by decide)),(fun _=>⟨rfl,rfl,rfl⟩),(fun q=>absurd q (show¬(2:Int)=3 by decide)),(fun a ha=>by cases ha)⟩
 | succ i=>simp at hd
theorem OQ (P:Nat→Prop) (w:World) (sb so:Nat) (cs:Array Value) (T:TypeId) (cb:Nat) (D:List Ng) (V:List Nat) (no:Option Addr) (nc:Nat) (vo:Option Addr) (vc:Nat) (x:Int) (h:fK P w sb so cs T cb D V no nc vo vc) (hP:∀g,w.heap.size≤g→P g) (hT:T≠76) (hd:D.length+1≤1000000000):
 Calls Tryz.prog 54 #[.pointer (some ⟨sb,so,none⟩),.agg #[.int .i64 2,.int .i64 x,.string ⟨#[]⟩,.slice none 0 0],.pointer (some ⟨cb,0,none⟩)] w fun e w'=>e= .returned (.int .i64 (D.length:Int))∧∃no' nc',fK P w' sb so (cs.setIfInBounds so (.slice no' (D.length+1) nc')) T cb (D++[gL x D.length]) V no' nc' vo vc∧au (bX sb no cb vo) (bX sb no' cb vo) w w':=by
 have sF:so<cs.size:=(Array.getElem?_eq_some_iff.1 h.st.cel).1
 have hB:=(Below.refl w.heap.size w).alloc (Nat.le_refl _) (.cells #[.int .i64 2,.int .i64 x,.string ⟨#[]⟩,.slice none 0 0] 76)
 have had:=h.below hB
 have eC:=heap_alloc_new w (.cells #[.int .i64 2,.int .i64 x,.string ⟨#[]⟩,.slice none 0 0] 76)
 generalize hwr:w.alloc (.cells #[.int .i64 2,.int .i64 x,.string ⟨#[]⟩,.slice none 0 0] 76)=wr at*
 have s0:=had.st.cell
 have b0:=ah eC 0
 have b1:=ah eC 1
 have b2:=ah eC 2
 have b3:=ah eC 3
 simp only[List.getElem?_toArray,List.getElem?_cons_zero,List.getElem?_cons_succ]at b0 b1 b2 b3
 have sz:=ag had.st.blk
 have z4:=ag eC
 have LB:=af (show Calls _ _ _ _ _ from qU (wr.drew) ⟨2,x,⟨#[]⟩,none,0,0⟩)
 have VK:sb≠w.heap.size:=fun e=>by
  have:=had.st.blk
  rw[e,eC]at this
  simp only[Option.some.injEq,Obj.cells.injEq]at this
  exact hT this.2.1.symm
 have tq:=af (show some sb≠(Value.slice no D.length nc).ownBlock from bS (aQ had.st.own had.st.blk had.st.ty))
 have xI:=af (show some w.heap.size≠(Value.slice no D.length nc).ownBlock from bS (aQ had.st.own eC (by decide)))
 have II:=af sF
 have BX:=af had
 have HP:=af hP
 have hz0:=hB.size
 have bf:=af hB
 obtain⟨ti,hi,wA,wB,tR⟩:=info_parts infoNd
 clear h had hP hT sF hB eC
 go_enter Tryz.func54,Tryz.ntmps54
 go_wp2_with fail
 refine wp_loop_rounds 1 ?_
 rw[rounds_succ]
 go_wp2_with fail
 go_region_law (first
  | (go_simp;go_at_call 95;refine(ae LB).mono ?_;rintro e w2 ⟨rfl,hb⟩;have aX:=af (((Below.refl _ wr).drew).trans hb);have k0:=(hb.cell (p:=⟨sb,so,none⟩) sz).trans s0;have k1:=(hb.cell (p:=⟨w.heap.size,0,none⟩) z4).trans b0;have k2:=(hb.cell (p:=⟨w.heap.size,1,none⟩) z4).trans b1;have k3:=(hb.cell (p:=⟨w.heap.size,2,none⟩) z4).trans b2;have k4:=(hb.cell (p:=⟨w.heap.size,3,none⟩) z4).trans b3;have hz2:wr.heap.size≤w2.heap.size:=hb.size;have k0':∀o,(w2.alloc o).cell? ⟨sb,so,none⟩=some (.slice no D.length nc):=(fun o=>(World.cell?_alloc_past _ _ _ (by omega)).trans k0);clear hb)
  | (refine step_append_lies _ (by rfl) _ _ _ (by rfl) 0 180 ti _ 7 80 Tryz.underlying86 hi wA wB tR rfl (by omega) (.slice no D.length nc) D.length (kE D) (by rfl) (((ae BX).below (ae aX)).st.own.alloc _) ⟨w2.heap.size,0,none⟩ 1 1 [.int .i64 2,.int .i64 x,.string ⟨#[]⟩,.int .i64 0,.slice none 0 0,.int .i64 (D.length:Int),.int .i64 0] (by rfl) (by rfl) (World.news_of_block (cs:=#[.int .i64 2,.int .i64 x,.string ⟨#[]⟩,.int .i64 0,.slice none 0 0,.int .i64 (D.length:Int),.int .i64 0]) (t:=180) (fr:=(0,0)) (heap_alloc_new w2 _)) (by simp[Value.oneCell']) (by omega) (by unfold maxLen;omega) (by omega) (Nat.zero_le _) (w2.heap.size+1) (by simp) ?_;intro g cap' w7 hown1 hgrow hat jo;have m0:=(hgrow.cell_far ⟨sb,so,none⟩ (by simp;omega) (ae tq)).trans ((World.cell?_alloc_past _ _ _ (by omega)).trans k0);have m1:=(hgrow.cell_far ⟨w.heap.size,0,none⟩ (by simp;omega) (ae xI)).trans ((World.cell?_alloc_past _ _ _ (by omega)).trans k1);have m2:=(hgrow.cell_far ⟨w.heap.size,1,none⟩ (by simp;omega) (ae xI)).trans ((World.cell?_alloc_past _ _ _ (by omega)).trans k2);have m3:=(hgrow.cell_far ⟨w.heap.size,2,none⟩ (by simp;omega) (ae xI)).trans ((World.cell?_alloc_past _ _ _ (by omega)).trans k3);have m4:=(hgrow.cell_far ⟨w.heap.size,3,none⟩ (by simp;omega) (ae xI)).trans ((World.cell?_alloc_past _ _ _ (by omega)).trans k4);have HN:=af (((ae BX).below (ae aX)).node (fun g q=>ae HP g (by omega)) (ae II) ((Below.refl _ _).alloc (Nat.le_refl _) _) (d:=gL x D.length) (show w7.ownsRow _ _ _ _ _ (_++[_,_,_,_,_,_,_])from hown1) hgrow (by rcases hat with q | q;exact Or.inl (aI q);(right;omega)) (fun q=>absurd rfl q));have k9:w7.frozen? ⟨sb,so,none⟩=false:=(by have:=ay (ae HN).1.st.blk so;rwa [World.frozen?_setCell]at this);have zz7:sb<w7.heap.size:=(by have:=ag (ae HN).1.st.blk;rwa [cN]at this);clear hown1 hgrow hat jo))
 all_goals (go_wp2_with fail;go_ret;exact⟨rfl,_,_,(ae HN).1,((au.aw (ae bf)).trans (au.aw (ae aX))).trans (ae HN).2⟩)
end Go.Proofs.YthfjnfcekeknlaaGreatDoor
namespace Zc
def fo (op:List UInt8) (u v:U):Wn:=if op=[]then Wn.none.bN u else(Wn.none.bN u).bN v
end Zc
namespace Go.Proofs.YthfjnfcekeknlaaGreatDoor
open Go.RowKit
theorem qh {w:World} {cb:Nat} {V:List Nat} {vo:Option Addr} {vc:Nat} (h:BS w cb V vo vc) {k:Nat} {ys:Array Value} {S:TypeId} (hk:w.heap[k]?=some (.cells ys S (0,0))) (h1:S≠93):k≠cb:=fun e=>by
 rw[e,h.blk]at hk
 simp only[Option.some.injEq,Obj.cells.injEq]at hk
 exact h1 hk.2.1.symm
theorem cQ.added {P:Nat→Prop} {w w':World} {mb:Nat} {cs:Array Value} {D D':List Ng} {nO no':Option Addr} {nC nc':Nat} {fr:Nat→Nat} {G:List Gl} {po:Option Addr} {pc cb:Nat} {V V':List Nat} {vo vo':Option Addr} {vc vc':Nat} (h:cQ w mb cs D nO nC fr G po pc) (hsc:BS w cb V vo vc) (Q6:∀g∈G,∀k,rowOf g.no k→¬rowOf vo k) (had:fK P w' mb 1 (cs.setIfInBounds 1 (.slice no' D'.length nc')) 91 cb D' V' no' nc' vo' vc') (ok:bV D' fr) (hl:D.length≤D'.length) (hf:au (bX mb nO cb vo) (bX mb no' cb vo') w w'):cQ w' mb (cs.setIfInBounds 1 (.slice no' D'.length nc')) D' no' nc' fr G po pc:=by
 have nomb:∀{k:Nat} {ys:Array Value} {S:TypeId},w.heap[k]?=some (.cells ys S (0,0))→S≠91→k≠mb:=fun {k ys S} hk hS e=>by
  rw[e,h.st.blk]at hk
  simp only[Option.some.injEq,Obj.cells.injEq]at hk
  exact hS hk.2.1.symm
 refine⟨had.st,ok,by rw[Array.getElem?_setIfInBounds_ne (by omega)];exact h.c3,ai h.pool fun g q=> ?_,fun g hg=>ai (h.nds g hg) fun k q=> ?_,fun g hg v hv=>Nat.lt_of_lt_of_le (h.nlt g hg v hv) hl,h.nl⟩
 ·obtain⟨cur,hc⟩:=aM h.pool (aI q)
  refine hf.block g (ag hc) ?_
  rintro(e | e | e | e)
  ·exact nomb hc (by decide) e
  ·exact aQ h.st.own hc (by decide) e
  ·exact qh hsc hc (by decide) e
  ·exact aQ hsc.own hc (by decide) e
 ·obtain⟨cur,hc⟩:=aM (h.nds g hg) (aI q)
  refine hf.block k (ag hc) ?_
  rintro(e | e | e | e)
  ·exact nomb hc (by decide) e
  ·exact aQ h.st.own hc (by decide) e
  ·exact qh hsc hc (by decide) e
  ·exact Q6 g hg k (aI q) e
theorem uX {D:List Ng} {x:Int}:(D++[gL x D.length]).length=D.length+1:=by simp
def uf (mb:Nat) (cs:Array Value) (D:List Ng) (nO:Option Addr) (nC:Nat) (fr:Nat→Nat) (TT:Nat→Zc.U) (P:Nat→Prop) (G:List Gl) (po:Option Addr) (pc i:Nat) (g:Gl) (W:Zc.Wn) (r:Option Int) (w:World) (e:Ending) (w':World):Prop:=
 (W.wt≠[]∧∃(wo:Option Addr) (wc:Nat),e= .returned (.int .i64 (-1))∧cQ w' mb cs D nO nC fr (G.set i {g with wt:=true,no:=wo,nc:=wc,nd:=W.wt}) po pc∧au (rowOf po) (rowOf po) w w'∧(∀k,rowOf wo k→w.heap.size≤k))∨
 (W.wt=[]∧r=none∧e= .returned (.int .i64 (-2))∧w'.heap[mb]?=some (.cells (cs.setIfInBounds 5 (.int .i64 5)) 91 (0,0))∧au (fun k=>k=mb) (fun k=>k=mb) w w')∨
 (W.wt=[]∧∃(x:Int) (no':Option Addr) (nc':Nat) (T2:Nat→Zc.U) (w2:World),r=some x∧bV (D++[gL x D.length]) fr∧Zc.dH (aZ (D++[gL x D.length])) fr T2∧(∀m,m<D.length→T2 m=TT m)∧T2 D.length= .n 3 [] x []∧cQ w2 mb (cs.setIfInBounds 1 (.slice no' (D++[gL x D.length]).length nc')) (D++[gL x D.length]) no' nc' fr G po pc∧a8 w2 (D++[gL x D.length]) P∧au (cF mb nO) (cF mb no') w w2∧zZ mb (cs.setIfInBounds 1 (.slice no' (D++[gL x D.length]).length nc')) (D++[gL x D.length]) no' nc' fr T2 G i g.l D.length w2 e w')
theorem Gf {D:List Ng} {fr:Nat→Nat} {T:Nat→Zc.U} {x:Int} (_ok:bV (D++[gL x D.length]) fr) (hS:Zc.dH (aZ (D++[gL x D.length])) fr T):T D.length= .n 3 [] x []:=by
 have hn:D.length<(D++[gL x D.length]).length:=by simp
 have tS:(D++[gL x D.length])[D.length]=gL x D.length:=by simp
 rw[hS.reads.node D.length 3 [] x (by rw[lY hn,tS];rfl),jT hn,tS]
 rfl
theorem Js {fr:Nat→Nat} {TT:Nat→Zc.U} {D:List Ng} (ok:bV D fr) {W:Zc.Wn} {n:Nat} (hn:n<D.length) (hW:∀v∈W.wt,v<D.length) (hv:∀x,TT n= .v x→x=([],fr n)):∀v∈(W.bN (TT n)).wt,v<D.length:=fun v hm=>by
 cases hu:TT n with
 | n k tx num ss=>rw[hu]at hm;exact hW v hm
 | v x=>
  rw[hu,hv x hu]at hm
  have:v∈Zc.fW W.wt (fr n):=hm
  unfold Zc.fW at this
  split at this
  ·exact hW v this
  ·rcases List.mem_append.1 this with q | q
   ·exact hW v q
   ·rw[List.mem_singleton.1 q];exact ok.lt hn
end Go.Proofs.YthfjnfcekeknlaaGreatDoor
namespace Zc
structure ug (x:aH):Prop where
 wl:wfK 8 x.left
 r0:x.sign=[]→x.right=none
 r1:x.sign≠[]→∃r,x.right=some r∧wfK 8 r
 z0:x.op=[]→x.last=none
 z1:x.op≠[]→∃z,x.last=some z∧wfK 8 z
 sz:x.op≠[]→x.sign≠[]
end Zc
namespace Go.Proofs.YthfjnfcekeknlaaGreatDoor
open Go.RowKit
theorem au.eN {R R':Nat→Prop} {w W:World} (h:au R R' w W) {b:Nat} (hb:w.heap.size≤b) (c:Nat) (v:Value):au R R' w (W.setCell ⟨b,c,none⟩ v):=
 ⟨h.os,h.tape,h.output,by rw[cN];exact h.size,fun k hk hr=>(aL _ _ _ _ (by omega)).trans (h.block k hk hr),h.row⟩
theorem gO.eN {P:Nat→Prop} {w:World} {sb so:Nat} {cs:Array Value} {T:TypeId} {cb:Nat} {D:List Ng} {V:List Nat} {no:Option Addr} {nc:Nat} {vo:Option Addr} {vc:Nat} {fr:Nat→Nat} {TT:Nat→Zc.U} (h:gO P w sb so cs T cb D V no nc vo vc fr TT) {b:Nat} {ys:Array Value} {S:TypeId} (hb:w.heap[b]?=some (.cells ys S (0,0))) (h1:S≠T) (h2:S≠180) (h3:S≠93) (h4:S≠3) (c:Nat) (v:Value):gO P (w.setCell ⟨b,c,none⟩ v) sb so cs T cb D V no nc vo vc fr TT:=
 h.gq fun g ys' S' hg hS=>aL _ _ _ _ (fun e=>by
  rw[e,hb]at hg
  simp only[Option.some.injEq,Obj.cells.injEq]at hg
  have:=hg.2.1
  subst this
  rcases hS with q | q | q | q
  ·exact h1 q
  ·exact h2 q
  ·exact h3 q
  ·exact h4 q)
structure JM (P:Nat→Prop) (wr:World) (mb:Nat) (cs:Array Value) (cb:Nat) (D:List Ng) (V:List Nat) (no vo:Option Addr) (fr:Nat→Nat) (TT:Nat→Zc.U) (ic mc:Array Value) (ns:List (List UInt8)) (E:List Ng) (F:List Nat) (no':Option Addr) (nc':Nat) (vo':Option Addr) (vc':Nat) (T':Nat→Zc.U) (W:World):Prop where
 ms:gO P W mb 1 (cs.setIfInBounds 1 (.slice no' (D++E).length nc')) 91 cb (D++E) (V++F) no' nc' vo' vc' fr T'
 old:∀m,m<D.length→T' m=TT m
 nd:dL D.length E
 nv:fH D.length E F
 ln:(V++F).length=ns.length
 fg:au (bX mb no cb vo) (bX mb no' cb vo') wr W
 bi:W.heap[wr.heap.size]?=some (.cells ic 151 (0,0))
 bm:W.heap[wr.heap.size+1]?=some (.cells mc 158 (0,0))
section
variable {P:Nat→Prop} {wr:World} {mb:Nat} {cs:Array Value} {cb:Nat} {D:List Ng} {V:List Nat} {no vo:Option Addr} {fr:Nat→Nat} {TT:Nat→Zc.U} {ic mc:Array Value} {ns:List (List UInt8)} {E:List Ng} {F:List Nat} {no':Option Addr} {nc':Nat} {vo':Option Addr} {vc':Nat} {T':Nat→Zc.U} {W:World}
theorem JM.below (h:JM P wr mb cs cb D V no vo fr TT ic mc ns E F no' nc' vo' vc' T' W) {W':World} (hb:Below W.heap.size W W'):JM P wr mb cs cb D V no vo fr TT ic mc ns E F no' nc' vo' vc' T' W':=
 ⟨h.ms.below hb,h.old,h.nd,h.nv,h.ln,h.fg.trans (au.aw hb),(hb.block _ (ag h.bi)).trans h.bi,(hb.block _ (ag h.bm)).trans h.bm⟩
theorem JM.set (h:JM P wr mb cs cb D V no vo fr TT ic mc ns E F no' nc' vo' vc' T' W) (c:Nat) (v:Value):JM P wr mb cs cb D V no vo fr TT ic (mc.setIfInBounds c v) ns E F no' nc' vo' vc' T' (W.setCell ⟨wr.heap.size+1,c,none⟩ v):=
 ⟨h.ms.eN h.bm (by decide) (by decide) (by decide) (by decide) c v,h.old,h.nd,h.nv,h.ln,h.fg.eN (Nat.le_succ _) c v,(aL _ _ _ _ (by omega)).trans h.bi,aA h.bm c v⟩
theorem JM.add (h:JM P wr mb cs cb D V no vo fr TT ic mc ns E F no' nc' vo' vc' T' W) {N:List (List UInt8)} {t:Zc.Tm} {e:Ending} {w':World} (hq:Uz P mb 1 (cs.setIfInBounds 1 (.slice no' (D++E).length nc')) 91 cb (D++E) (V++F) no' vo' fr T' N ns t W e w'):
 ∃(n:Nat) (E2:List Ng) (F2:List Nat) (no2:Option Addr) (nc2:Nat) (vo2:Option Addr) (vc2:Nat) (T2:Nat→Zc.U),e= .returned (.int .i64 (n:Int))∧JM P wr mb cs cb D V no vo fr TT ic mc (Zc.namesF 8 ns t) (E++E2) (F++F2) no2 nc2 vo2 vc2 T2 w'∧n<(D++(E++E2)).length∧T2 n=Zc.bH (cR T2 (V++(F++F2)) N) 8 t∧(∀m,m<(D++E).length→T2 m=T' m)∧E2.length+1≤6561:=by
 obtain⟨n,E2,F2,no2,nc2,vo2,vc2,T2,rfl,ms,old,nd,nv,ln,nl,tn,el,fg⟩:=hq
 rw[set_set]at ms
 refine⟨n,E2,F2,no2,nc2,vo2,vc2,T2,rfl,⟨by rw[←List.append_assoc,←List.append_assoc];exact ms,fun m hm=> ?_,h.nd.app (by rw[List.length_append]at nd;exact nd),h.nv.app (by rw[List.length_append]at nv;exact nv),by rw[←List.append_assoc];exact ln,h.fg.trans fg,?_,?_⟩,by rw[←List.append_assoc];exact nl,by rw[←List.append_assoc];exact tn,old,el⟩
 ·rw[old m (by rw[List.length_append];omega),h.old m hm]
 ·exact h.ms.ad.blk fg h.bi (by decide) (by decide) (by decide) (by decide)
 ·exact h.ms.ad.blk fg h.bm (by decide) (by decide) (by decide) (by decide)
end
structure mN (T:Nat→Zc.U) (len:Nat) (η:List UInt8→Zc.U) (x:Zc.aH) (g:Gl):Prop where
 sg:g.sg.toList=x.sign
 op:g.op.toList=x.op
 ll:g.l<len
 tl:T g.l=Zc.bH η 8 x.left
 r0:x.sign=[]→g.r= -1
 r1:∀r,x.right=some r→∃n:Nat,g.r=(n:Int)∧n<len∧T n=Zc.bH η 8 r
 z0:x.op=[]→g.z= -1
 z1:∀z,x.last=some z→∃n:Nat,g.z=(n:Int)∧n<len∧T n=Zc.bH η 8 z
 nw:g.wt=false
 nd:g.nd=[]
 no:g.no=none
 nc:g.nc=0
theorem cQ.joined {w W w7:World} {mb:Nat} {cs:Array Value} {D:List Ng} {nO:Option Addr} {nC:Nat} {fr:Nat→Nat} {G:List Gl} {po:Option Addr} {pc:Nat} (h:cQ w mb cs D nO nC fr G po pc) (hW:Below w.heap.size w W) {g' cap':Nat} {g:Gl} (hown:w7.ownsRow 0 158 7 (.slice (some ⟨g',0,none⟩) (G.length+1) cap') (G.length+1) (G.flatMap fN++fN g)) (hg:W.grownBy w7 (Value.slice po G.length pc).ownBlock) (hat:rowOf po g'∨w.heap.size≤g') (dC:g.nd=[]) (hno:g.no=none) (XG:g.nc=0):
 cQ (w7.setCell ⟨mb,3,none⟩ (.slice (some ⟨g',0,none⟩) (G.length+1) cap')) mb (cs.setIfInBounds 3 (.slice (some ⟨g',0,none⟩) (G++[g]).length cap')) D nO nC fr (G++[g]) (some ⟨g',0,none⟩) cap'∧au (fun k=>k=mb∨rowOf po k) (fun k=>k=mb∨rowOf (some ⟨g',0,none⟩) k) w (w7.setCell ⟨mb,3,none⟩ (.slice (some ⟨g',0,none⟩) (G.length+1) cap')):=by
 have mz:=ag h.st.blk
 have wz:=hW.size
 have nomb:¬rowOf po mb:=aQ h.pool h.st.blk (by decide)
 have keep:∀k,k≠mb→¬rowOf po k→k<w.heap.size→(w7.setCell ⟨mb,3,none⟩ (.slice (some ⟨g',0,none⟩) (G.length+1) cap')).heap[k]?=w.heap[k]?:=fun k h1 h2 h3=>by
  rw[aL _ _ _ _ h1,hg.block k (by omega) (bS h2),hW.block k h3]
 have gq:∀(k:Nat) (ys:Array Value) (S:TypeId),w.heap[k]?=some (.cells ys S (0,0))→S≠158→S≠91→(w7.setCell ⟨mb,3,none⟩ (.slice (some ⟨g',0,none⟩) (G.length+1) cap')).heap[k]?=w.heap[k]?:=fun k ys S hk h1 h2=>keep k (fun e=>by
  rw[e,h.st.blk]at hk
  simp only[Option.some.injEq,Obj.cells.injEq]at hk
  exact h2 hk.2.1.symm) (aQ h.pool hk h1) (ag hk)
 have h3:3<cs.size:=(Array.getElem?_eq_some_iff.1 h.c3).1
 have gne:g'≠mb:=fun e=>by
  rcases hat with q | q
  ·exact nomb (e ▸ q)
  ·omega
 have el:(G++[g]).length=G.length+1:=by simp
 rw[el]
 refine⟨⟨⟨?_,?_,ai h.st.own fun k q=> ?_,h.st.ty⟩,h.ok,?_,?_,fun x hx=> ?_,fun x hx=> ?_,fun x hx=> ?_⟩,⟨hg.os.trans hW.os,hg.tape.trans hW.tape,hg.output.trans hW.output,by rw[cN];exact Nat.le_trans wz hg.size,fun k hk hr=>keep k (fun e=>hr (Or.inl e)) (fun e=>hr (Or.inr e)) hk,fun k q=> ?_⟩⟩
 ·refine aA ?_ 3 (.slice (some ⟨g',0,none⟩) (G.length+1) cap')
  rw[hg.block mb (by omega) (bS nomb),hW.block mb mz]
  exact h.st.blk
 ·rw[Array.getElem?_setIfInBounds_ne (by omega)];exact h.st.cel
 ·obtain⟨cur,hc⟩:=aM h.st.own (aI q)
  exact gq k _ _ hc (by decide) (by decide)
 ·rw[Array.getElem?_setIfInBounds_self,if_pos h3,el]
 ·rw[el,List.flatMap_append]
  have:[g].flatMap fN=fN g:=by simp
  rw[this]
  exact ai hown fun k q=>aL _ _ _ _ (fun e=>by
   obtain⟨p,hp,hk⟩:=aI q
   cases hp
   exact gne (hk.symm.trans e))
 ·rcases List.mem_append.1 hx with q | q
  ·exact ai (h.nds x q) fun k r=>by
    obtain⟨cur,hc⟩:=aM (h.nds x q) (aI r)
    exact gq k _ _ hc (by decide) (by decide)
  ·rw[List.mem_singleton.1 q,dC,hno,XG]
   exact World.ownsRow_nil _ _ _ _
 ·rcases List.mem_append.1 hx with q | q
  ·exact h.nlt x q
  ·rw[List.mem_singleton.1 q,dC];intro v hv;cases hv
 ·rcases List.mem_append.1 hx with q | q
  ·exact h.nl x q
  ·rw[List.mem_singleton.1 q,dC];simp
 ·rcases q with e | ⟨p,hp,hq⟩
  ·exact Or.inl (Or.inl e)
  ·cases hp
   rcases hat with r | r
   ·exact Or.inl (Or.inr (hq ▸ r))
   ·exact Or.inr (hq ▸ r)
theorem gO.Jt {P:Nat→Prop} {w w':World} {sb so:Nat} {cs cs':Array Value} {T:TypeId} {cb:Nat} {D:List Ng} {V:List Nat} {no:Option Addr} {nc:Nat} {vo:Option Addr} {vc:Nat} {fr:Nat→Nat} {TT:Nat→Zc.U} (h:gO P w sb so cs T cb D V no nc vo vc fr TT) (hs:bG w' sb so cs' T D no nc) (hk:∀(g:Nat) (ys:Array Value) (S:TypeId),w.heap[g]?=some (.cells ys S (0,0))→(S=93∨S=3)→w'.heap[g]?=w.heap[g]?):gO P w' sb so cs' T cb D V no nc vo vc fr TT:=by
 refine⟨⟨hs,⟨(hk cb _ _ h.ad.sc.blk (Or.inl rfl)).trans h.ad.sc.blk,ai h.ad.sc.own fun g q=> ?_⟩,h.ad.t1,h.ad.t2,h.ad.args.keep fun g _ hp hg=>⟨(hk g _ _ hg (Or.inr rfl)).trans hg,hp⟩⟩,h.ok,h.to,h.lt⟩
 obtain⟨cur,hc⟩:=aM h.ad.sc.own (aI q)
 exact hk g _ _ hc (Or.inr rfl)
theorem au.TD {w w':World} {mb:Nat} {no2 vo2 po po':Option Addr} {cb:Nat} (h:au (fun k=>k=mb∨rowOf po k) (fun k=>k=mb∨rowOf po' k) w w'):au (fun k=>bX mb no2 cb vo2 k∨rowOf po k) (fun k=>bX mb no2 cb vo2 k∨rowOf po' k) w w':=
 ⟨h.os,h.tape,h.output,h.size,fun k hk hr=>h.block k hk (fun q=>hr (q.imp (fun e=>Or.inl e) id)),fun k q=>by
  rcases q with q | q
  ·exact Or.inl (Or.inl q)
  ·rcases h.row k (Or.inr q)with(e | e) | e
   ·exact Or.inl (Or.inl (Or.inl e))
   ·exact Or.inl (Or.inr e)
   ·exact Or.inr e⟩
def uY (mb:Nat) (no:Option Addr) (cb:Nat) (vo po:Option Addr) (k:Nat):Prop:=bX mb no cb vo k∨rowOf po k
structure Cv (P:Nat→Prop) (w:World) (mb:Nat) (cs:Array Value) (cb:Nat) (D:List Ng) (V:List Nat) (nO vo:Option Addr) (fr:Nat→Nat) (TT:Nat→Zc.U) (G:List Gl) (po:Option Addr) (N ns:List (List UInt8)) (items:List Zc.aH) (E:List Ng) (F:List Nat) (no':Option Addr) (nc':Nat) (vo':Option Addr) (vc':Nat) (T':Nat→Zc.U) (Gn:List Gl) (po':Option Addr) (pc':Nat) (wr:World):Prop where
 ms:gO P wr mb 1 ((cs.setIfInBounds 1 (.slice no' (D++E).length nc')).setIfInBounds 3 (.slice po' (G++Gn).length pc')) 91 cb (D++E) (V++F) no' nc' vo' vc' fr T'
 mc:cQ wr mb ((cs.setIfInBounds 1 (.slice no' (D++E).length nc')).setIfInBounds 3 (.slice po' (G++Gn).length pc')) (D++E) no' nc' fr (G++Gn) po' pc'
 fv:∀g∈G++Gn,∀k,rowOf g.no k→¬rowOf vo' k
 old:∀m,m<D.length→T' m=TT m
 nd:dL D.length E
 nv:fH D.length E F
 ln:(V++F).length=(Zc.aC ns items).length
 gl:bO (mN T' (D++E).length (cR T' (V++F) N)) items Gn
 el:E.length≤items.length*19683
 fg:au (uY mb nO cb vo po) (uY mb no' cb vo' po') w wr
def UK (P:Nat→Prop) (w:World) (mb:Nat) (cs:Array Value) (cb:Nat) (D:List Ng) (V:List Nat) (nO vo:Option Addr) (fr:Nat→Nat) (TT:Nat→Zc.U) (G:List Gl) (po:Option Addr) (N ns:List (List UInt8)) (items:List Zc.aH) (k:Nat) (iv:Value) (wr:World):Prop:=
 ∃(j:Nat) (E:List Ng) (F:List Nat) (no':Option Addr) (nc':Nat) (vo':Option Addr) (vc':Nat) (T':Nat→Zc.U) (Gn:List Gl) (po':Option Addr) (pc':Nat),k+j=items.length∧iv= .int .i64 (j:Int)∧Cv P w mb cs cb D V nO vo fr TT G po N ns (items.take j) E F no' nc' vo' vc' T' Gn po' pc' wr
theorem dV (D E:List Ng):D.length≤(D++E).length:=by rw[List.length_append];omega
theorem V1 (cs:Array Value) (x y a b:Value):((((cs.setIfInBounds 1 x).setIfInBounds 3 y).setIfInBounds 1 a).setIfInBounds 3 b)=(cs.setIfInBounds 1 a).setIfInBounds 3 b:=by
 apply Array.ext_getElem?
 intro i
 simp only[Array.getElem?_setIfInBounds,Array.size_setIfInBounds]
 by_cases h1:1=i
 ·subst h1;simp
 ·by_cases h3:3=i
  ·subst h3;simp
  ·simp[h1,h3]
theorem bO.Q7 {α β:Type} {R S:α→β→Prop}:∀{xs:List α} {ys:List β},(∀a b,a∈xs→R a b→S a b)→bO R xs ys→bO S xs ys
 | [],[],_,_=>trivial
 | [],_ :: _,_,h=>h
 | _ :: _,[],_,h=>h
 | _ :: _,_ :: _,f,h=>⟨f _ _ (by simp) h.1,bO.Q7 (fun a b ha=>f a b (by simp[ha])) h.2⟩
theorem mv {T1 T2:Nat→Zc.U} {V F:List Nat} {N M ns:List (List UInt8)} {t:Zc.Tm} {b n:Nat} (hw:Zc.wfK 8 t) (h:T1 n=Zc.bH (cR T1 V N) 8 t) (hn:n<b) {ns':List (List UInt8)} (hs:∀y∈Zc.namesF 8 ns' t,y∈ns) (hN:N=ns++M) (hl:V.length=ns.length) (hlt:∀m∈V,m<b) (he:∀m,m<b→T2 m=T1 m):T2 n=Zc.bH (cR T2 (V++F) N) 8 t:=by
 rw[he n hn,h]
 exact(Zc.iy 8 t ns' hw (fun y hy=>Lj (hs y hy) hN hl hlt he)).symm
theorem lQ (t:Option Zc.Tm) (ns:List (List UInt8)):∃K,Zc.cq ns t=ns++K:=by
 cases t with
 | none=>exact⟨[],by simp[Zc.cq]⟩
 | some r=>exact Zc.namesV_ext 8 r ns
theorem mN.more {T1 T2:Nat→Zc.U} {V F:List Nat} {N M ns:List (List UInt8)} {x:Zc.aH} {g:Gl} {b b':Nat} (hx:Zc.ug x) (h:mN T1 b (cR T1 V N) x g) {ns':List (List UInt8)} (hs:∀y∈Zc.aO ns' x,y∈ns) (hN:N=ns++M) (hl:V.length=ns.length) (hlt:∀m∈V,m<b) (he:∀m,m<b→T2 m=T1 m) (hb:b≤b'):mN T2 b' (cR T2 (V++F) N) x g:=by
 have nO:∀(t:Option Zc.Tm) (ns:List (List UInt8)),∃K,Zc.cq ns t=ns++K:=fun t ns=>by
  cases t with
  | none=>exact⟨[],by simp[Zc.cq]⟩
  | some r=>exact Zc.namesV_ext 8 r ns
 have TE:∀y∈Zc.namesF 8 ns' x.left,y∈ns:=fun y hy=>hs y (by
  obtain⟨K1,h1⟩:=nO x.right (Zc.namesF 8 ns' x.left)
  obtain⟨K2,h2⟩:=nO x.last (Zc.cq (Zc.namesF 8 ns' x.left) x.right)
  unfold Zc.aO
  rw[h2,h1]
  simp[hy])
 have hright:∀r,x.right=some r→∀y∈Zc.namesF 8 (Zc.namesF 8 ns' x.left) r,y∈ns:=fun r q y hy=>hs y (by
  obtain⟨K2,h2⟩:=nO x.last (Zc.cq (Zc.namesF 8 ns' x.left) x.right)
  unfold Zc.aO
  rw[h2,q]
  exact List.mem_append_left _ hy)
 have TF:∀z,x.last=some z→∀y∈Zc.namesF 8 (Zc.cq (Zc.namesF 8 ns' x.left) x.right) z,y∈ns:=fun z q y hy=>hs y (by
  unfold Zc.aO
  rw[q]
  exact hy)
 refine⟨h.sg,h.op,Nat.lt_of_lt_of_le h.ll hb,mv hx.wl h.tl h.ll TE hN hl hlt he,h.r0,fun r q=> ?_,h.z0,fun z q=> ?_,h.nw,h.nd,h.no,h.nc⟩
 ·obtain⟨n,q1,q2,q3⟩:=h.r1 r q
  have hw:Zc.wfK 8 r:=by
   by_cases k:x.sign=[]
   ·rw[hx.r0 k]at q;cases q
   ·obtain⟨r',e,w⟩:=hx.r1 k
    rw[e]at q;cases q;exact w
  exact⟨n,q1,Nat.lt_of_lt_of_le q2 hb,mv hw q3 q2 (hright r q) hN hl hlt he⟩
 ·obtain⟨n,q1,q2,q3⟩:=h.z1 z q
  have hw:Zc.wfK 8 z:=by
   by_cases k:x.op=[]
   ·rw[hx.z0 k]at q;cases q
   ·obtain⟨r',e,w⟩:=hx.z1 k
    rw[e]at q;cases q;exact w
  exact⟨n,q1,Nat.lt_of_lt_of_le q2 hb,mv hw q3 q2 (TF z q) hN hl hlt he⟩
theorem LF {P:Nat→Prop} {wr:World} {mb:Nat} {cs:Array Value} {cb:Nat} {D:List Ng} {V:List Nat} {no vo:Option Addr} {fr:Nat→Nat} {TT:Nat→Zc.U} {ic mc:Array Value} {ns:List (List UInt8)} {E:List Ng} {F:List Nat} {no':Option Addr} {nc':Nat} {vo':Option Addr} {vc':Nat} {T':Nat→Zc.U} {W:World} (h:JM P wr mb cs cb D V no vo fr TT ic mc ns E F no' nc' vo' vc' T' W) (hP:∀g,wr.heap.size≤g→P g) {N:List (List UInt8)} {a:AV} {t:Zc.Tm} (hr:RA 8 N anyA W a t) (hw:Zc.wfK 8 t) (hN:∃M,N=Zc.namesF 8 ns t++M) (hD:(D++E).length+6561≤1000000000) (hNl:N.length≤100000):
 Calls Tryz.prog 54 #[.pointer (some ⟨mb,1,none⟩),.agg #[.int .i64 a.k,.int .i64 a.val,.string a.tx,.slice a.ao a.n a.cap],.pointer (some ⟨cb,0,none⟩)] W fun e w'=>∃(n:Nat) (E2:List Ng) (F2:List Nat) (no2:Option Addr) (nc2:Nat) (vo2:Option Addr) (vc2:Nat) (T2:Nat→Zc.U),e= .returned (.int .i64 (n:Int))∧JM P wr mb cs cb D V no vo fr TT ic mc (Zc.namesF 8 ns t) (E++E2) (F++F2) no2 nc2 vo2 vc2 T2 w'∧n<(D++(E++E2)).length∧T2 n=Zc.bH (cR T2 (V++(F++F2)) N) 8 t∧(∀m,m<(D++E).length→T2 m=T' m)∧E2.length+1≤6561:=by
 refine(Tv h.ms (fun g hg=>hP g (Nat.le_trans h.fg.size hg)) (by decide) hr hw h.ln hN hD ?_).mono fun e w' q=>h.add q
 obtain⟨M,hM⟩:=hN
 obtain⟨K,hK⟩:=Zc.namesV_ext 8 t ns
 have:ns.length≤N.length:=by rw[hM,hK];simp
 have:=h.ln
 omega
theorem JM.ra {P:Nat→Prop} {wr:World} {mb:Nat} {cs:Array Value} {cb:Nat} {D:List Ng} {V:List Nat} {no vo:Option Addr} {fr:Nat→Nat} {TT:Nat→Zc.U} {ic mc:Array Value} {ns:List (List UInt8)} {E:List Ng} {F:List Nat} {no':Option Addr} {nc':Nat} {vo':Option Addr} {vc':Nat} {T':Nat→Zc.U} {W:World} (h:JM P wr mb cs cb D V no vo fr TT ic mc ns E F no' nc' vo' vc' T' W) {nc vc:Nat} {cs1:Array Value} (hs:fK P wr mb 1 cs1 91 cb D V no nc vo vc) {N:List (List UInt8)} {a:AV} {t:Zc.Tm} (hr:RA 8 N anyA wr a t):RA 8 N anyA W a t:=hs.ra (by decide) h.fg hr
theorem Cv.next {P:Nat→Prop} {w:World} {mb:Nat} {cs:Array Value} {cb:Nat} {D:List Ng} {V:List Nat} {nO vo:Option Addr} {fr:Nat→Nat} {TT:Nat→Zc.U} {G:List Gl} {po:Option Addr} {N ns:List (List UInt8)} {items:List Zc.aH} {E:List Ng} {F:List Nat} {no1:Option Addr} {nc1:Nat} {vo1:Option Addr} {vc1:Nat} {T1:Nat→Zc.U} {Gn:List Gl} {po1:Option Addr} {pc1:Nat} {wr:World} (h:Cv P w mb cs cb D V nO vo fr TT G po N ns items E F no1 nc1 vo1 vc1 T1 Gn po1 pc1 wr)
 {ic mc:Array Value} {x:Zc.aH} {E2:List Ng} {F2:List Nat} {no2:Option Addr} {nc2:Nat} {vo2:Option Addr} {vc2:Nat} {T2:Nat→Zc.U} {W:World} (hj:JM P wr mb ((cs.setIfInBounds 1 (.slice no1 (D++E).length nc1)).setIfInBounds 3 (.slice po1 (G++Gn).length pc1)) cb (D++E) (V++F) no1 vo1 fr T1 ic mc (Zc.aO (Zc.aC ns items) x) E2 F2 no2 nc2 vo2 vc2 T2 W)
 {g:Gl} (hg:mN T2 ((D++E)++E2).length (cR T2 ((V++F)++F2) N) x g) (hE:E2.length≤19683) (aF:∀x∈items,Zc.ug x) (hN:∃M,N=Zc.aC ns items++M)
 {W' w7:World} {g' cap':Nat} (hW:Below W.heap.size W W') (hown:w7.ownsRow 0 158 7 (.slice (some ⟨g',0,none⟩) ((G++Gn).length+1) cap') ((G++Gn).length+1) ((G++Gn).flatMap fN++fN g)) (hgr:W'.grownBy w7 (Value.slice po1 (G++Gn).length pc1).ownBlock) (hat:rowOf po1 g'∨W.heap.size≤g'):
 Cv P w mb cs cb D V nO vo fr TT G po N ns (items++[x]) (E++E2) (F++F2) no2 nc2 vo2 vc2 T2 (Gn++[g]) (some ⟨g',0,none⟩) cap' (w7.setCell ⟨mb,3,none⟩ (.slice (some ⟨g',0,none⟩) ((G++Gn).length+1) cap')):=by
 have hm:=h.mc.added h.ms.ad.sc h.fv hj.ms.ad hj.ms.ok (dV _ _) hj.fg
 obtain⟨p7,hf2⟩:=hm.joined hW hown hgr hat hg.nd hg.no hg.nc
 rw[V1]at p7
 have mz:=ag hm.st.blk
 have xW:gO P (w7.setCell ⟨mb,3,none⟩ (.slice (some ⟨g',0,none⟩) ((G++Gn).length+1) cap')) mb 1 ((cs.setIfInBounds 1 (.slice no2 ((D++E)++E2).length nc2)).setIfInBounds 3 (.slice (some ⟨g',0,none⟩) ((G++Gn)++[g]).length cap')) 91 cb ((D++E)++E2) ((V++F)++F2) no2 nc2 vo2 vc2 fr T2:=hj.ms.Jt p7.st fun k ys S hk hS=>hf2.block k (ag hk) (by
  rintro(e | e)
  ·rw[e,hm.st.blk]at hk
   simp only[Option.some.injEq,Obj.cells.injEq]at hk
   rcases hS with q | q<;>(rw[q]at hk;exact absurd hk.2.1 (by decide))
  ·refine aQ hm.pool hk ?_ e
   rcases hS with q | q<;>(rw[q];decide))
 obtain⟨M,hM⟩:=hN
 refine⟨by rw[←List.append_assoc,←List.append_assoc,←List.append_assoc];exact xW,by rw[←List.append_assoc,←List.append_assoc];exact p7,fun q hq k hk=> ?_,fun m qi=> ?_,h.nd.app (by have:=hj.nd;rwa [List.length_append]at this),h.nv.app (by have:=hj.nv;rwa [List.length_append]at this),?_,?_,?_,?_⟩
 ·rw[←List.append_assoc]at hq
  rcases List.mem_append.1 hq with r | r
  ·intro hv
   rcases hj.fg.row k (Or.inr (Or.inr (Or.inr hv)))with(e | e | e | e) | e
   ·obtain⟨cur,hc⟩:=aM (h.mc.nds q r) hk
    rw[e,h.mc.st.blk]at hc
    simp only[Option.some.injEq,Obj.cells.injEq]at hc
    exact absurd hc.2.1 (by decide)
   ·obtain⟨cur,hc⟩:=aM (h.mc.nds q r) hk
    exact aQ h.mc.st.own hc (by decide) e
   ·obtain⟨cur,hc⟩:=aM (h.mc.nds q r) hk
    exact qh h.ms.ad.sc hc (by decide) e
   ·exact h.fv q r k hk e
   ·obtain⟨cur,hc⟩:=aM (h.mc.nds q r) hk
    have:=ag hc
    omega
  ·rw[List.mem_singleton.1 r,hg.no]at hk
   obtain⟨_,e,_⟩:=hk
   cases e
 ·rw[hj.old m (by rw[List.length_append];omega),h.old m qi]
 ·rw[←List.append_assoc,hj.ln]
  unfold Zc.aC
  rw[List.foldl_append]
  rfl
 ·rw[←List.append_assoc,←List.append_assoc]
  refine bO.snoc hg (bO.Q7 (fun a b ha hab=> ?_) h.gl)
  obtain⟨ns',hs⟩:=Zc.fz items ns a ha
  exact mN.more (aF a ha) hab hs hM h.ln h.ms.lt hj.old (dV _ _)
 ·have:=h.el
  rw[List.length_append,List.length_append]
  simp only[List.length_cons,List.length_nil]
  omega
 ·have q:=(hj.fg.wide (rowOf po1)).trans (au.less (X:=uY mb no2 cb vo2 (some ⟨g',0,none⟩)) (R':=fun k=>bX mb no2 cb vo2 k∨rowOf (some ⟨g',0,none⟩) k) (au.TD hf2) fun k q=>q)
  exact h.fg.trans q
end Go.Proofs.YthfjnfcekeknlaaGreatDoor
