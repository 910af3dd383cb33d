import Derived.Test.YthfjnfcekeknlaaGreatDoorMe26
import Derived.Deep.LoopGhost
import Derived.Maps.AppendAt
import Derived.OwnWalk
set_option maxHeartbeats 8000000
set_option maxRecDepth 100000
namespace Go.Proofs.YthfjnfcekeknlaaGreatDoor
open Go.RowKit
theorem Ac {P:Nat→Prop} {w:World} {mb:Nat} {cs:Array Value} {cb:Nat} {D:List Ng} {V:List Nat} {no:Option Addr} {nc:Nat} {vo:Option Addr} {vc:Nat} {G:List Gl} {po:Option Addr} {pc:Nat} {fr:Nat→Nat} (h:fK P w mb 1 cs 91 cb D V no nc vo vc) (hm:cQ w mb cs D no nc fr G po pc) {g:Nat} {ys:Array Value} {S:TypeId} (hg:w.heap[g]?=some (.cells ys S (0,0))) (h1:S≠91) (h2:S≠180) (h3:S≠93) (h4:S≠3) (h5:S≠158):¬uY mb no cb vo po g:=by
 rintro((e | e | e | e) | e)
 ·rw[e,h.st.blk]at hg
  simp only[Option.some.injEq,Obj.cells.injEq]at hg
  exact h1 hg.2.1.symm
 ·exact aQ h.st.own hg h2 e
 ·exact qh h.sc hg h3 e
 ·exact aQ h.sc.own hg h4 e
 ·exact aQ hm.pool hg h5 e
theorem px.fr {R R':Nat→Prop} {w w':World} {N:List (List UInt8)} {v:JV} {x:Zc.aH} (hi:px N w v x) (hf:au R R' w w') (hn:∀(g:Nat) (ys:Array Value),w.heap[g]?=some (.cells ys 76 (0,0))→¬R g):px N w' v x:=by
 have ra:∀{f:Nat} {a:AV} {t:Zc.Tm},RA f N anyA w a t→RA f N anyA w' a t:=fun hr=>hr.keep fun g _ hp hg _=>⟨(hf.block g (ag hg) (hn g _ hg)).trans hg,hp⟩
 exact⟨ra hi.left,hi.sign,fun r q=>ra (hi.right r q),hi.op,fun r q=>ra (hi.last r q)⟩
theorem cQ.Cw {P:Nat→Prop} {w:World} {mb:Nat} {cs:Array Value} {cb:Nat} {D:List Ng} {V:List Nat} {nO vo:Option Addr} {fr:Nat→Nat} {TT:Nat→Zc.U} {G:List Gl} {po:Option Addr} {N ns:List (List UInt8)} {items:List Zc.aH} {E:List Ng} {F:List Nat} {no1:Option Addr} {nc1:Nat} {vo1:Option Addr} {vc1:Nat} {T1:Nat→Zc.U} {Gn:List Gl} {po1:Option Addr} {pc1:Nat} {wr:World} (h:Cv P w mb cs cb D V nO vo fr TT G po N ns items E F no1 nc1 vo1 vc1 T1 Gn po1 pc1 wr) {ic mc:Array Value} {nx:List (List UInt8)} {E2:List Ng} {F2:List Nat} {no2:Option Addr} {nc2:Nat} {vo2:Option Addr} {vc2:Nat} {T2:Nat→Zc.U} {W:World} (hj:JM P wr mb ((cs.setIfInBounds 1 (.slice no1 (D++E).length nc1)).setIfInBounds 3 (.slice po1 (G++Gn).length pc1)) cb (D++E) (V++F) no1 vo1 fr T1 ic mc nx E2 F2 no2 nc2 vo2 vc2 T2 W):∃cs2:Array Value,cQ W mb cs2 (D++E++E2) no2 nc2 fr (G++Gn) po1 pc1:=⟨_,h.mc.added h.ms.ad.sc h.fv hj.ms.ad hj.ms.ok (dV _ _) hj.fg⟩
theorem Cx (w:World) (mb:Nat) (cs:Array Value) (cb:Nat) (D:List Ng) (V:List Nat) (nO:Option Addr) (nC:Nat) (vo:Option Addr) (vc:Nat) (fr:Nat→Nat) (TT:Nat→Zc.U) (P:Nat→Prop) (G:List Gl) (po:Option Addr) (pc:Nat) (N ns:List (List UInt8)) (items:List Zc.aH) (o:Option Addr) (n c:Nat) (h:gO P w mb 1 cs 91 cb D V nO nC vo vc fr TT) (hm:cQ w mb cs D nO nC fr G po pc) (Ju:∀g∈G,∀k,rowOf g.no k→¬rowOf vo k) (hP:∀g,w.heap.size≤g→P g) (hit:b6 N w o n items) (aF:∀x∈items,Zc.ug x) (hl:V.length=ns.length) (hN:∃M,N=Zc.aC ns items++M) (hNl:N.length≤100000) (sI:items.length≤100) (hD:D.length+4000000≤1000000000) (hGl:G.length≤1000000):
 Calls Tryz.prog 42 #[.pointer (some ⟨mb,0,none⟩),.slice o n c,.pointer (some ⟨cb,0,none⟩)] w fun e w'=>e= .returned (.tuple #[])∧∃(E:List Ng) (F:List Nat) (no':Option Addr) (nc':Nat) (vo':Option Addr) (vc':Nat) (T':Nat→Zc.U) (Gn:List Gl) (po':Option Addr) (pc':Nat),Cv P w mb cs cb D V nO vo fr TT G po N ns items E F no' nc' vo' vc' T' Gn po' pc' w':=by
 obtain⟨rfl,hit⟩:=hit
 have HST:=af (show UK P w mb cs cb D V nO vo fr TT G po N ns items items.length (.int .i64 0) w from by
  refine⟨0,[],[],nO,nC,vo,vc,TT,[],po,pc,by omega,rfl,⟨?_,?_,by simpa using Ju,fun _ _=>rfl,(fun i d hd=>by simp at hd),fH.nil _ _,by simpa [Zc.aC] using hl,trivial,by simp,⟨rfl,rfl,rfl,Nat.le_refl _,fun _ _ _=>rfl,fun _ q=>Or.inl q⟩⟩⟩
  ·simp only[List.append_nil]
   rw[mi h.ad.st.cel,mi hm.c3]
   exact h
  ·simp only[List.append_nil]
   rw[mi h.ad.st.cel,mi hm.c3]
   exact hm)
 have Nl:=af hit
 have HB:=af h
 have HM:=af hm
 have qW:=af aF
 have HN:=af hN
 have Q8:=af hNl
 have UL:=af sI
 have HD:=af hD
 have I0:=af hGl
 have HP:=af hP
 obtain⟨ti,hi,wA,wB,tR⟩:=info_parts infoGoal
 clear h hm Ju hP hit aF hl hN hNl hD hGl
 go_enter Tryz.func42,Tryz.ntmps42
 go_wp2_with fail
 go_loopg [11] items.length (fun k iv wr=>UK P w mb cs cb D V nO vo fr TT G po N ns items k iv wr)
 case atStart=>exact ae HST
 case round=>
  clear HST
  obtain⟨j,E,F,no1,nc1,vo1,vc1,T1,Gn,po1,pc1,hkj,rfl,dZ⟩:=hrel
  by_cases hlt:j<items.length
  ·obtain⟨g,vs,ics,Q9,hcs,Jv,hall⟩:=ae Nl (fun q=>by rw[q]at hlt;simp at hlt)
   subst Q9
   have kQ:j<vs.length:=by have:=hall.length;omega
   have hcw:wr.heap[g]?=some (.cells ics 151 (0,0)):=(dZ.fg.block g (ag hcs) (Ac (ae HB).ad (ae HM) hcs (by decide) (by decide) (by decide) (by decide) (by decide))).trans hcs
   have fc:∀i,i<14→wr.cell? ⟨g,j*14+i,none⟩=(p9 vs[j])[i]?:=fun i hi=>by
    rw[ah hcw,←Array.getElem?_toList,←QP kQ i hi,←Jv,List.getElem?_take_of_lt (by omega)]
   have Ra:=(hall.at j kQ hlt).fr dZ.fg (fun g ys hg=>Ac (ae HB).ad (ae HM) hg (by decide) (by decide) (by decide) (by decide) (by decide))
   have LG:=ae qW _ (List.getElem_mem hlt)
   obtain⟨M,hM⟩:=ae HN
   have oJ:items.take (j+1)=items.take j++[items[j]]:=by rw[List.take_add_one,List.getElem?_eq_getElem hlt];rfl
   have hNj:∃K,N=Zc.aC ns (items.take j)++K:=by
    obtain⟨K,hK⟩:=Zc.jW (items.drop j) (Zc.aC ns (items.take j))
    refine⟨K++M,?_⟩
    rw[hM,←List.append_assoc,←hK]
    unfold Zc.aC
    rw[←List.foldl_append,List.take_append_drop]
   have hNj1:∃K,N=Zc.aO (Zc.aC ns (items.take j)) items[j]++K:=by
    obtain⟨K,hK⟩:=Zc.jW (items.drop (j+1)) (Zc.aC ns (items.take (j+1)))
    refine⟨K++M,?_⟩
    have e:Zc.aO (Zc.aC ns (items.take j)) items[j]=Zc.aC ns (items.take (j+1)):=by
     rw[oJ]
     unfold Zc.aC
     rw[List.foldl_append]
     rfl
    rw[e,hM,←List.append_assoc,←hK]
    unfold Zc.aC
    rw[←List.foldl_append,List.take_append_drop]
   have sD:=af oJ
   have Rb:=af hNj
   have LH:=af hNj1
   have hDl:(D++E).length+2000000≤1000000000:=by
    have q1:=dZ.el
    have q2:=ae HD
    have q3:=ae UL
    have q4:(items.take j).length≤100:=by rw[List.length_take];omega
    have q5:(items.take j).length*19683≤100*19683:=Nat.mul_le_mul_right _ q4
    rw[List.length_append]
    omega
   have hGG:(G++Gn).length≤1000100:=by
    have q1:=dZ.gl.length
    have q2:=ae I0
    have q3:=ae UL
    have q4:(items.take j).length≤100:=by rw[List.length_take];omega
    rw[List.length_append]
    omega
   have f0:=fc 0 (by omega)
   have f1:=fc 1 (by omega)
   have f2:=fc 2 (by omega)
   have f3:=fc 3 (by omega)
   have f4:=fc 4 (by omega)
   have f5:=fc 5 (by omega)
   have f6:=fc 6 (by omega)
   have f7:=fc 7 (by omega)
   have f8:=fc 8 (by omega)
   have f9:=fc 9 (by omega)
   have f10:=fc 10 (by omega)
   have f11:=fc 11 (by omega)
   have f12:=fc 12 (by omega)
   have f13:=fc 13 (by omega)
   simp only[p9,List.getElem?_cons_zero,List.getElem?_cons_succ,Nat.add_zero]at f0 f1 f2 f3 f4 f5 f6 f7 f8 f9 f10 f11 f12 f13
   have gz:=ag hcw
   have i0:(0:Int)≤(j:Int):=by omega
   have i1:(j:Int)<(items.length:Int):=by omega
   generalize vs[j]=v at*
   have HX:=af (show items[j]∈items from List.getElem_mem hlt)
   generalize items[j]=x at*
   obtain⟨⟨ak0,av0,ax0,ao0,an0,ac0⟩,⟨bk0,bv0,bx0,bo0,bn0,bc0⟩,⟨ck0,cv0,cx0,co0,cn0,cc0⟩,sg,op⟩:=v
   dsimp only at f0 f1 f2 f3 f4 f5 f6 f7 f8 f9 f10 f11 f12 f13
   have Ex:JM P wr mb ((cs.setIfInBounds 1 (.slice no1 (D++E).length nc1)).setIfInBounds 3 (.slice po1 (G++Gn).length pc1)) cb (D++E) (V++F) no1 vo1 fr T1 #[.int .i64 ak0,.int .i64 av0,.string ax0,.slice ao0 an0 ac0,.string sg,.int .i64 bk0,.int .i64 bv0,.string bx0,.slice bo0 bn0 bc0,.string op,.int .i64 ck0,.int .i64 cv0,.string cx0,.slice co0 cn0 cc0] #[.int .i64 0,.string sg,.int .i64 (-1),.string op,.int .i64 (-1),.bool false,.slice none 0 0] (Zc.aC ns (items.take j)) [] [] no1 nc1 vo1 vc1 T1 ((wr.alloc (.cells #[.int .i64 ak0,.int .i64 av0,.string ax0,.slice ao0 an0 ac0,.string sg,.int .i64 bk0,.int .i64 bv0,.string bx0,.slice bo0 bn0 bc0,.string op,.int .i64 ck0,.int .i64 cv0,.string cx0,.slice co0 cn0 cc0] 151)).alloc (.cells #[.int .i64 0,.string sg,.int .i64 (-1),.string op,.int .i64 (-1),.bool false,.slice none 0 0] 158)):=by
    have hb:=((Below.refl wr.heap.size wr).alloc (Nat.le_refl _) (.cells #[.int .i64 ak0,.int .i64 av0,.string ax0,.slice ao0 an0 ac0,.string sg,.int .i64 bk0,.int .i64 bv0,.string bx0,.slice bo0 bn0 bc0,.string op,.int .i64 ck0,.int .i64 cv0,.string cx0,.slice co0 cn0 cc0] 151)).alloc (by simp) (.cells #[.int .i64 0,.string sg,.int .i64 (-1),.string op,.int .i64 (-1),.bool false,.slice none 0 0] 158)
    refine⟨?_,fun _ _=>rfl,(fun i d hd=>by simp at hd),fH.nil _ _,by simpa using dZ.ln,au.aw hb,aB (heap_alloc_new wr _) _,?_⟩
    ·have:=dZ.ms.below hb
     simp only[List.append_nil]
     rw[mi (dZ.ms.ad.st.cel)]
     exact this
    ·have:=heap_alloc_new (wr.alloc (.cells #[.int .i64 ak0,.int .i64 av0,.string ax0,.slice ao0 an0 ac0,.string sg,.int .i64 bk0,.int .i64 bv0,.string bx0,.slice bo0 bn0 bc0,.string op,.int .i64 ck0,.int .i64 cv0,.string cx0,.slice co0 cn0 cc0] 151)) (.cells #[.int .i64 0,.string sg,.int .i64 (-1),.string op,.int .i64 (-1),.bool false,.slice none 0 0] 158)
     rw[World.size_alloc]at this
     exact this
   have hnames1:∃K,N=Zc.namesF 8 (Zc.aC ns (items.take j)) x.left++K:=by
    obtain⟨K,hK⟩:=ae LH
    obtain⟨K1,h1⟩:=lQ x.right (Zc.namesF 8 (Zc.aC ns (items.take j)) x.left)
    obtain⟨K2,h2⟩:=lQ x.last (Zc.cq (Zc.namesF 8 (Zc.aC ns (items.take j)) x.left) x.right)
    refine⟨K1++(K2++K),?_⟩
    rw[hK]
    unfold Zc.aO
    rw[h2,h1]
    simp
   have IA:=af (fun W (hu:Below (wr.heap.size+2) ((wr.alloc (.cells #[.int .i64 ak0,.int .i64 av0,.string ax0,.slice ao0 an0 ac0,.string sg,.int .i64 bk0,.int .i64 bv0,.string bx0,.slice bo0 bn0 bc0,.string op,.int .i64 ck0,.int .i64 cv0,.string cx0,.slice co0 cn0 cc0] 151)).alloc (.cells #[.int .i64 0,.string sg,.int .i64 (-1),.string op,.int .i64 (-1),.bool false,.slice none 0 0] 158)) W)=>LF (Ex.below (hu.mono (by simp))) (fun g hg=>ae HP g (Nat.le_trans dZ.fg.size hg)) (a:=⟨ak0,av0,ax0,ao0,an0,ac0⟩) ((Ex.below (hu.mono (by simp))).ra dZ.ms.ad Ra.left) LG.wl hnames1 (by simp only[List.append_nil];omega) (ae Q8))
   have mO:=af Ra
   have wM:=af LG
   have sJ:=af dZ
   have B0:=af hDl
   have bh:=af hlt
   have aW:=af hkj
   have mz:=ag dZ.mc.st.blk
   have mne:mb≠wr.heap.size:=by omega
   have mne2:mb≠wr.heap.size+1:=by omega
   have Es:=af hnames1
   clear dZ Ex hcs hcw Jv hall kQ fc Ra LG hM oJ hNj hNj1 hDl hkj hnames1
   go_wp2_with fail
   go_region_with (go_at_call 54;refine(ae IA _ (by first | exact Below.refl _ _ | exact(Below.refl _ _).drew | exact(Below.refl _ _).drew.drew | exact(Below.refl _ _).drew.drew.drew)).mono ?_;rintro y w2 ⟨n1,E1,F1,no2,nc2,vo2,vc2,T2,rfl,jm2,nl2,tn2,old2,el2⟩;have e2:=ah jm2.bm 0;have x2:=ay jm2.bm 0;have ez2:=ag jm2.bm;simp only[List.getElem?_toArray,List.getElem?_cons_zero]at e2)
   have jm3:JM P wr mb ((cs.setIfInBounds 1 (.slice no1 (D++E).length nc1)).setIfInBounds 3 (.slice po1 (G++Gn).length pc1)) cb (D++E) (V++F) no1 vo1 fr T1 #[.int .i64 ak0,.int .i64 av0,.string ax0,.slice ao0 an0 ac0,.string sg,.int .i64 bk0,.int .i64 bv0,.string bx0,.slice bo0 bn0 bc0,.string op,.int .i64 ck0,.int .i64 cv0,.string cx0,.slice co0 cn0 cc0] #[.int .i64 (n1:Int),.string sg,.int .i64 (-1),.string op,.int .i64 (-1),.bool false,.slice none 0 0] (Zc.namesF 8 (Zc.aC ns (items.take j)) x.left) ([]++E1) ([]++F1) no2 nc2 vo2 vc2 T2 _:=jm2.set 0 (.int .i64 (n1:Int))
   generalize hw2:(w2.setCell ⟨wr.heap.size+1,0,none⟩ (.int .i64 (n1:Int)))=W2 at*
   clear hw2 jm2 e2 x2 ez2
   have ia4:=ah jm3.bi 4
   have iz:=ag jm3.bi
   have zm:=ag jm3.bm
   simp only[List.getElem?_toArray,List.getElem?_cons_zero,List.getElem?_cons_succ]at ia4
   by_cases aV:x.sign=[]
   ·have hop:x.op=[]:=Classical.byContradiction fun q=>(ae wM).sz q aV
    have zX:=(ae wM).r0 aV
    have Cy:=(ae wM).z0 hop
    have t1:(sg.toList == [])=true:=by rw[(ae mO).sign,aV];rfl
    have t2:(sg.toList != [])=false:=by rw[(ae mO).sign,aV];rfl
    have t3:(op.toList == [])=true:=by rw[(ae mO).op,hop];rfl
    have t4:(op.toList != [])=false:=by rw[(ae mO).op,hop];rfl
    have kO:Zc.aO (Zc.aC ns (items.take j)) x=Zc.namesF 8 (Zc.aC ns (items.take j)) x.left:=by unfold Zc.aO;rw[zX,Cy];rfl
    rw[←kO]at jm3
    have ia9:=ah jm3.bi 9
    have ma0:=ah jm3.bm 0
    have ma1:=ah jm3.bm 1
    have ma2:=ah jm3.bm 2
    have ma3:=ah jm3.bm 3
    have ma4:=ah jm3.bm 4
    have ma5:=ah jm3.bm 5
    have ma6:=ah jm3.bm 6
    have iz:=ag jm3.bi
    have zm:=ag jm3.bm
    simp only[List.getElem?_toArray,List.getElem?_cons_zero,List.getElem?_cons_succ]at ia9 ma0 ma1 ma2 ma3 ma4 ma5 ma6
    have dM:=(show mN T2 ((D++E)++([]++E1)).length (cR T2 ((V++F)++([]++F1)) N) x ⟨n1,sg,(-1),op,(-1),false,none,0,[]⟩from ⟨(ae mO).sign,(ae mO).op,nl2,tn2,fun _=>rfl,(fun r q=>by rw[zX]at q;cases q),fun _=>rfl,(fun z q=>by rw[Cy]at q;cases q),rfl,rfl,rfl,rfl⟩)
    have fD:_:=(show ([]++E1).length≤19683 by simp only[List.nil_append];omega)
    have Rc:=af dM
    have Nh:=af fD
    obtain⟨cs2,fF⟩:=cQ.Cw (ae sJ) jm3
    have f3':=(ah fF.st.blk 3).trans fF.c3
    have mz':=ag fF.st.blk
    have xX:=af (fun Y (hu:Below W2.heap.size W2 Y)=>(fF.below hu).pool)
    have gW:=af (show some mb≠(Value.slice po1 (G++Gn).length pc1).ownBlock from bS (aQ fF.pool fF.st.blk (by decide)))
    have UM:=af fF.st.blk
    have Cz:=af (fun W' w7 g' cap' a1 a2 a3 a4=>(ae sJ).next jm3 dM fD (fun x hx=>ae qW x (List.mem_of_mem_take hx)) (ae Rb) (W':=W') (w7:=w7) (g':=g') (cap':=cap') a1 a2 a3 a4)
    clear dM fD fF jm3 kO zX Cy aV hop
    generalize hGN:G++Gn=GG at*
    clear hGN
    go_wp2_with fail
    go_region_law (refine step_append_lies _ (by rfl) _ _ _ (by rfl) 0 158 ti _ 7 88 Tryz.underlying89 hi wA wB tR rfl (by omega) (.slice po1 GG.length pc1) GG.length (GG.flatMap fN) (by rfl) ((ae xX _ (by first | exact Below.refl _ _ | exact(Below.refl _ _).drew)).alloc _) ⟨W2.heap.size,0,none⟩ 1 1 [.int .i64 (n1:Int),.string sg,.int .i64 (-1),.string op,.int .i64 (-1),.bool false,.slice none 0 0] (by rfl) (by rfl) (World.news_of_block (cs:=#[.int .i64 (n1:Int),.string sg,.int .i64 (-1),.string op,.int .i64 (-1),.bool false,.slice none 0 0]) (t:=158) (fr:=(0,0)) (heap_alloc_new _ _)) (by simp[Value.oneCell']) (by omega) (by unfold maxLen;omega) (by omega) (Nat.zero_le _) (W2.heap.size+1) (by simp) ?_;intro g' cap' w7 hown1 hgrow hat jo;have m0:=(hgrow.cell_far ⟨mb,3,none⟩ (by simp;omega) (ae gW)).trans ((World.cell?_alloc_past _ _ _ (by first | exact mz' | simp;omega)).trans f3');have kx:=af (ae Cz _ _ _ _ (((Below.refl _ _).drew).alloc (Nat.le_refl _) _) (show w7.ownsRow _ _ _ _ _ (_++[_,_,_,_,_,_,_])from hown1) hgrow (by rcases hat with q | q;exact Or.inl (aI q);(right;omega)));have k9:w7.frozen? ⟨mb,3,none⟩=false:=(by have:=ay (ae kx).mc.st.blk 3;rwa [World.frozen?_setCell]at this);have zz7:mb<w7.heap.size:=(by have:=ag (ae kx).mc.st.blk;rwa [cN]at this);clear hown1 hgrow hat jo)
    all_goals
     go_wp2_with fail
     go_roundg (gk - 1)
     case measure=>have:=ae aW;have:=ae bh;omega
     case rel=>exact⟨j+1,_,_,_,_,_,_,_,_,_,_,by have:=ae aW;have:=ae bh;omega,by go_num,by rw[ae sD];exact ae kx⟩
   ·obtain⟨r,hr,wfr⟩:=(ae wM).r1 aV
    have t1:(sg.toList == [])=false:=by rw[(ae mO).sign];simpa using aV
    have t2:(sg.toList != [])=true:=by rw[(ae mO).sign];simpa using aV
    obtain⟨M1,hM1⟩:=ae Es
    have Nu:=af (fun(T3:Nat→Zc.U) (F2:List Nat) (he:∀m,m<(D++E++([]++E1)).length→T3 m=T2 m)=>mv (F:=F2) (ae wM).wl tn2 nl2 (fun y hy=>hy) hM1 jm3.ln jm3.ms.lt he)
    have hnames2:∃K,N=Zc.namesF 8 (Zc.namesF 8 (Zc.aC ns (items.take j)) x.left) r++K:=by
     obtain⟨K,hK⟩:=ae LH
     obtain⟨K2,h2⟩:=lQ x.last (Zc.cq (Zc.namesF 8 (Zc.aC ns (items.take j)) x.left) x.right)
     refine⟨K2++K,?_⟩
     rw[hK]
     unfold Zc.aO
     rw[h2,hr,List.append_assoc]
     rfl
    have ia5:=ah jm3.bi 5
    have ia6:=ah jm3.bi 6
    have ia7:=ah jm3.bi 7
    have ia8:=ah jm3.bi 8
    have iz:=ag jm3.bi
    have zm:=ag jm3.bm
    simp only[List.getElem?_toArray,List.getElem?_cons_zero,List.getElem?_cons_succ]at ia5 ia6 ia7 ia8
    have IB:=af (fun Y (hu:Below W2.heap.size W2 Y)=>LF (jm3.below hu) (fun g hg=>ae HP g (Nat.le_trans (ae sJ).fg.size hg)) (a:=⟨bk0,bv0,bx0,bo0,bn0,bc0⟩) ((jm3.below hu).ra (ae sJ).ms.ad ((ae mO).right r hr)) wfr hnames2 (by have:=ae B0;simp only[List.nil_append,List.length_append]at this⊢;omega) (ae Q8))
    have Re:=af nl2
    have LI:=af el2
    have tM:=af hnames2
    have Nv:=af hr
    have V2:=af wfr
    have jM:=af aV
    clear jm3 tn2 nl2 old2 el2 hM1 hnames2 hr wfr aV
    go_wp2_with fail
    go_region_with (go_at_call 54;refine(ae IB _ (by first | exact Below.refl _ _ | exact(Below.refl _ _).drew | exact(Below.refl _ _).drew.drew | exact(Below.refl _ _).drew.drew.drew)).mono ?_;rintro y w3 ⟨n2,E2,F2,no3,nc3,vo3,vc3,T3,rfl,jm4,nl3,tn3,old3,el3⟩;have e3:=ah jm4.bm 2;have x3:=ay jm4.bm 2;have ez3:=ag jm4.bm;simp only[List.getElem?_toArray,List.getElem?_cons_zero,List.getElem?_cons_succ]at e3)
    have jm5:JM P wr mb ((cs.setIfInBounds 1 (.slice no1 (D++E).length nc1)).setIfInBounds 3 (.slice po1 (G++Gn).length pc1)) cb (D++E) (V++F) no1 vo1 fr T1 #[.int .i64 ak0,.int .i64 av0,.string ax0,.slice ao0 an0 ac0,.string sg,.int .i64 bk0,.int .i64 bv0,.string bx0,.slice bo0 bn0 bc0,.string op,.int .i64 ck0,.int .i64 cv0,.string cx0,.slice co0 cn0 cc0] #[.int .i64 (n1:Int),.string sg,.int .i64 (n2:Int),.string op,.int .i64 (-1),.bool false,.slice none 0 0] (Zc.namesF 8 (Zc.namesF 8 (Zc.aC ns (items.take j)) x.left) r) ([]++E1++E2) ([]++F1++F2) no3 nc3 vo3 vc3 T3 _:=jm4.set 2 (.int .i64 (n2:Int))
    generalize hw3:(w3.setCell ⟨wr.heap.size+1,2,none⟩ (.int .i64 (n2:Int)))=W3 at*
    clear hw3 jm4 e3 x3 ez3
    clear IB ia4 ia5 ia6 ia7 ia8
    have ia9:=ah jm5.bi 9
    have iz:=ag jm5.bi
    have zm:=ag jm5.bm
    simp only[List.getElem?_toArray,List.getElem?_cons_zero,List.getElem?_cons_succ]at ia9
    by_cases hop:x.op=[]
    ·have Cy:=(ae wM).z0 hop
     have t3:(op.toList == [])=true:=by rw[(ae mO).op,hop];rfl
     have t4:(op.toList != [])=false:=by rw[(ae mO).op,hop];rfl
     have kO:Zc.aO (Zc.aC ns (items.take j)) x=Zc.namesF 8 (Zc.namesF 8 (Zc.aC ns (items.take j)) x.left) r:=by unfold Zc.aO;rw[ae Nv,Cy];rfl
     rw[←kO]at jm5
     have ia9:=ah jm5.bi 9
     have ma0:=ah jm5.bm 0
     have ma1:=ah jm5.bm 1
     have ma2:=ah jm5.bm 2
     have ma3:=ah jm5.bm 3
     have ma4:=ah jm5.bm 4
     have ma5:=ah jm5.bm 5
     have ma6:=ah jm5.bm 6
     have iz:=ag jm5.bi
     have zm:=ag jm5.bm
     simp only[List.getElem?_toArray,List.getElem?_cons_zero,List.getElem?_cons_succ]at ia9 ma0 ma1 ma2 ma3 ma4 ma5 ma6
     have dM:=(show mN T3 ((D++E)++([]++E1++E2)).length (cR T3 ((V++F)++([]++F1++F2)) N) x ⟨n1,sg,(n2:Int),op,(-1),false,none,0,[]⟩from ⟨(ae mO).sign,(ae mO).op,(by have:=ae Re;simp only[List.nil_append,List.length_append]at this⊢;omega),(by have:=ae Nu T3 F2 old3;rwa [List.append_assoc (V++F)]at this),(fun q=>absurd q (ae jM)),(fun r' q=>by rw[ae Nv]at q;cases q;exact⟨n2,rfl,nl3,tn3⟩),fun _=>rfl,(fun z q=>by rw[Cy]at q;cases q),rfl,rfl,rfl,rfl⟩)
     have fD:_:=(show ([]++E1++E2).length≤19683 by have:=ae LI;simp only[List.nil_append,List.length_append];omega)
     have Rc:=af dM
     have Nh:=af fD
     obtain⟨cs2,fF⟩:=cQ.Cw (ae sJ) jm5
     have f3':=(ah fF.st.blk 3).trans fF.c3
     have mz':=ag fF.st.blk
     have xX:=af (fun Y (hu:Below W3.heap.size W3 Y)=>(fF.below hu).pool)
     have gW:=af (show some mb≠(Value.slice po1 (G++Gn).length pc1).ownBlock from bS (aQ fF.pool fF.st.blk (by decide)))
     have UM:=af fF.st.blk
     have Cz:=af (fun W' w7 g' cap' a1 a2 a3 a4=>(ae sJ).next jm5 dM fD (fun x hx=>ae qW x (List.mem_of_mem_take hx)) (ae Rb) (W':=W') (w7:=w7) (g':=g') (cap':=cap') a1 a2 a3 a4)
     clear dM fD fF jm5 kO Cy hop
     generalize hGN:G++Gn=GG at*
     clear hGN
     go_wp2_with fail
     go_region_law (refine step_append_lies _ (by rfl) _ _ _ (by rfl) 0 158 ti _ 7 88 Tryz.underlying89 hi wA wB tR rfl (by omega) (.slice po1 GG.length pc1) GG.length (GG.flatMap fN) (by rfl) ((ae xX _ (by first | exact Below.refl _ _ | exact(Below.refl _ _).drew)).alloc _) ⟨W3.heap.size,0,none⟩ 1 1 [.int .i64 (n1:Int),.string sg,.int .i64 (n2:Int),.string op,.int .i64 (-1),.bool false,.slice none 0 0] (by rfl) (by rfl) (World.news_of_block (cs:=#[.int .i64 (n1:Int),.string sg,.int .i64 (n2:Int),.string op,.int .i64 (-1),.bool false,.slice none 0 0]) (t:=158) (fr:=(0,0)) (heap_alloc_new _ _)) (by simp[Value.oneCell']) (by omega) (by unfold maxLen;omega) (by omega) (Nat.zero_le _) (W3.heap.size+1) (by simp) ?_;intro g' cap' w7 hown1 hgrow hat jo;have m0:=(hgrow.cell_far ⟨mb,3,none⟩ (by simp;omega) (ae gW)).trans ((World.cell?_alloc_past _ _ _ (by first | exact mz' | simp;omega)).trans f3');have kx:=af (ae Cz _ _ _ _ (((Below.refl _ _).drew).alloc (Nat.le_refl _) _) (show w7.ownsRow _ _ _ _ _ (_++[_,_,_,_,_,_,_])from hown1) hgrow (by rcases hat with q | q;exact Or.inl (aI q);(right;omega)));have k9:w7.frozen? ⟨mb,3,none⟩=false:=(by have:=ay (ae kx).mc.st.blk 3;rwa [World.frozen?_setCell]at this);have zz7:mb<w7.heap.size:=(by have:=ag (ae kx).mc.st.blk;rwa [cN]at this);clear hown1 hgrow hat jo)
     all_goals
      go_wp2_with fail
      go_roundg (gk - 1)
      case measure=>have:=ae aW;have:=ae bh;omega
      case rel=>exact⟨j+1,_,_,_,_,_,_,_,_,_,_,by have:=ae aW;have:=ae bh;omega,by go_num,by rw[ae sD];exact ae kx⟩
    ·obtain⟨z,hz,wfz⟩:=(ae wM).z1 hop
     have t3:(op.toList == [])=false:=by rw[(ae mO).op];simpa using hop
     have t4:(op.toList != [])=true:=by rw[(ae mO).op];simpa using hop
     obtain⟨M2,hM2⟩:=ae tM
     have Rf:=af (fun(T4:Nat→Zc.U) (F3:List Nat) (he:∀m,m<(D++E++([]++E1++E2)).length→T4 m=T3 m)=>mv (F:=F3) (ae V2) tn3 nl3 (fun y hy=>hy) hM2 jm5.ln jm5.ms.lt he)
     have kO:Zc.aO (Zc.aC ns (items.take j)) x=Zc.namesF 8 (Zc.namesF 8 (Zc.namesF 8 (Zc.aC ns (items.take j)) x.left) r) z:=by unfold Zc.aO;rw[ae Nv,hz];rfl
     have hnames3:∃K,N=Zc.namesF 8 (Zc.namesF 8 (Zc.namesF 8 (Zc.aC ns (items.take j)) x.left) r) z++K:=by
      obtain⟨K,hK⟩:=ae LH
      rw[kO]at hK
      exact⟨K,hK⟩
     have ia10:=ah jm5.bi 10
     have ia11:=ah jm5.bi 11
     have ia12:=ah jm5.bi 12
     have ia13:=ah jm5.bi 13
     have iz:=ag jm5.bi
     have zm:=ag jm5.bm
     simp only[List.getElem?_toArray,List.getElem?_cons_zero,List.getElem?_cons_succ]at ia10 ia11 ia12 ia13
     have IC:=af (fun Y (hu:Below W3.heap.size W3 Y)=>LF (jm5.below hu) (fun g hg=>ae HP g (Nat.le_trans (ae sJ).fg.size hg)) (a:=⟨ck0,cv0,cx0,co0,cn0,cc0⟩) ((jm5.below hu).ra (ae sJ).ms.ad ((ae mO).last z hz)) wfz hnames3 (by have:=ae B0;have:=ae LI;simp only[List.nil_append,List.length_append]at*;omega) (ae Q8))
     have TG:=af old3
     have LJ:=af nl3
     have V3:=af el3
     have gW:=af kO
     have XH:=af hz
     have Rg:=af hop
     clear jm5 tn3 nl3 old3 el3 hM2 hnames3 kO hz wfz hop
     go_wp2_with fail
     go_region_with (go_at_call 54;refine(ae IC _ (by first | exact Below.refl _ _ | exact(Below.refl _ _).drew | exact(Below.refl _ _).drew.drew | exact(Below.refl _ _).drew.drew.drew)).mono ?_;rintro y w4 ⟨n3,E3,F3,no4,nc4,vo4,vc4,T4,rfl,jm6,nl4,tn4,old4,el4⟩;have e4:=ah jm6.bm 4;have x4:=ay jm6.bm 4;have ez4:=ag jm6.bm;simp only[List.getElem?_toArray,List.getElem?_cons_zero,List.getElem?_cons_succ]at e4)
     have jm7:JM P wr mb ((cs.setIfInBounds 1 (.slice no1 (D++E).length nc1)).setIfInBounds 3 (.slice po1 (G++Gn).length pc1)) cb (D++E) (V++F) no1 vo1 fr T1 #[.int .i64 ak0,.int .i64 av0,.string ax0,.slice ao0 an0 ac0,.string sg,.int .i64 bk0,.int .i64 bv0,.string bx0,.slice bo0 bn0 bc0,.string op,.int .i64 ck0,.int .i64 cv0,.string cx0,.slice co0 cn0 cc0] #[.int .i64 (n1:Int),.string sg,.int .i64 (n2:Int),.string op,.int .i64 (n3:Int),.bool false,.slice none 0 0] (Zc.namesF 8 (Zc.namesF 8 (Zc.namesF 8 (Zc.aC ns (items.take j)) x.left) r) z) ([]++E1++E2++E3) ([]++F1++F2++F3) no4 nc4 vo4 vc4 T4 _:=jm6.set 4 (.int .i64 (n3:Int))
     generalize hw4:(w4.setCell ⟨wr.heap.size+1,4,none⟩ (.int .i64 (n3:Int)))=W4 at*
     clear hw4 jm6 e4 x4 ez4
     clear IC ia9 ia10 ia11 ia12 ia13
     rw[←ae gW]at jm7
     clear gW
     have ia9:=ah jm7.bi 9
     have ma0:=ah jm7.bm 0
     have ma1:=ah jm7.bm 1
     have ma2:=ah jm7.bm 2
     have ma3:=ah jm7.bm 3
     have ma4:=ah jm7.bm 4
     have ma5:=ah jm7.bm 5
     have ma6:=ah jm7.bm 6
     have iz:=ag jm7.bi
     have zm:=ag jm7.bm
     simp only[List.getElem?_toArray,List.getElem?_cons_zero,List.getElem?_cons_succ]at ia9 ma0 ma1 ma2 ma3 ma4 ma5 ma6
     have dM:=(show mN T4 ((D++E)++([]++E1++E2++E3)).length (cR T4 ((V++F)++([]++F1++F2++F3)) N) x ⟨n1,sg,(n2:Int),op,(n3:Int),false,none,0,[]⟩from ⟨(ae mO).sign,(ae mO).op,(by have:=ae Re;simp only[List.nil_append,List.length_append]at this⊢;omega),(by have:=ae Nu T4 (F2++F3) (fun m hm=>(old4 m (by simp only[List.nil_append,List.length_append]at hm⊢;omega)).trans (ae TG m hm));rwa [List.append_assoc (V++F),←List.append_assoc ([]++F1)]at this),(fun q=>absurd q (ae jM)),(fun r' q=>by rw[ae Nv]at q;cases q;exact⟨n2,rfl,(by have:=ae LJ;simp only[List.nil_append,List.length_append]at this⊢;omega),(by have:=ae Rf T4 F3 old4;rwa [List.append_assoc (V++F)]at this)⟩),(fun q=>absurd q (ae Rg)),(fun z' q=>by rw[ae XH]at q;cases q;exact⟨n3,rfl,nl4,tn4⟩),rfl,rfl,rfl,rfl⟩)
     have fD:_:=(show ([]++E1++E2++E3).length≤19683 by have:=ae LI;have:=ae V3;simp only[List.nil_append,List.length_append];omega)
     have Rc:=af dM
     have Nh:=af fD
     obtain⟨cs2,fF⟩:=cQ.Cw (ae sJ) jm7
     have f3':=(ah fF.st.blk 3).trans fF.c3
     have mz':=ag fF.st.blk
     have xX:=af (fun Y (hu:Below W4.heap.size W4 Y)=>(fF.below hu).pool)
     have gW:=af (show some mb≠(Value.slice po1 (G++Gn).length pc1).ownBlock from bS (aQ fF.pool fF.st.blk (by decide)))
     have UM:=af fF.st.blk
     have Cz:=af (fun W' w7 g' cap' a1 a2 a3 a4=>(ae sJ).next jm7 dM fD (fun x hx=>ae qW x (List.mem_of_mem_take hx)) (ae Rb) (W':=W') (w7:=w7) (g':=g') (cap':=cap') a1 a2 a3 a4)
     clear dM fD fF jm7
     generalize hGN:G++Gn=GG at*
     clear hGN
     go_wp2_with fail
     go_region_law (refine step_append_lies _ (by rfl) _ _ _ (by rfl) 0 158 ti _ 7 88 Tryz.underlying89 hi wA wB tR rfl (by omega) (.slice po1 GG.length pc1) GG.length (GG.flatMap fN) (by rfl) ((ae xX _ (by first | exact Below.refl _ _ | exact(Below.refl _ _).drew)).alloc _) ⟨W4.heap.size,0,none⟩ 1 1 [.int .i64 (n1:Int),.string sg,.int .i64 (n2:Int),.string op,.int .i64 (n3:Int),.bool false,.slice none 0 0] (by rfl) (by rfl) (World.news_of_block (cs:=#[.int .i64 (n1:Int),.string sg,.int .i64 (n2:Int),.string op,.int .i64 (n3:Int),.bool false,.slice none 0 0]) (t:=158) (fr:=(0,0)) (heap_alloc_new _ _)) (by simp[Value.oneCell']) (by omega) (by unfold maxLen;omega) (by omega) (Nat.zero_le _) (W4.heap.size+1) (by simp) ?_;intro g' cap' w7 hown1 hgrow hat jo;have m0:=(hgrow.cell_far ⟨mb,3,none⟩ (by simp;omega) (ae gW)).trans ((World.cell?_alloc_past _ _ _ (by first | exact mz' | simp;omega)).trans f3');have kx:=af (ae Cz _ _ _ _ (((Below.refl _ _).drew).alloc (Nat.le_refl _) _) (show w7.ownsRow _ _ _ _ _ (_++[_,_,_,_,_,_,_])from hown1) hgrow (by rcases hat with q | q;exact Or.inl (aI q);(right;omega)));have k9:w7.frozen? ⟨mb,3,none⟩=false:=(by have:=ay (ae kx).mc.st.blk 3;rwa [World.frozen?_setCell]at this);have zz7:mb<w7.heap.size:=(by have:=ag (ae kx).mc.st.blk;rwa [cN]at this);clear hown1 hgrow hat jo)
     all_goals
      go_wp2_with fail
      go_roundg (gk - 1)
      case measure=>have:=ae aW;have:=ae bh;omega
      case rel=>exact⟨j+1,_,_,_,_,_,_,_,_,_,_,by have:=ae aW;have:=ae bh;omega,by go_num,by rw[ae sD];exact ae kx⟩
  ·obtain rfl:j=items.length:=by omega
   rw[List.take_length]at dZ
   have sJ:=af dZ
   clear dZ hkj
   go_wp2_with fail
   go_end0
   exact⟨rfl,_,_,_,_,_,_,_,_,_,_,ae sJ⟩
end Go.Proofs.YthfjnfcekeknlaaGreatDoor
namespace Zc
def yH (tx:List UInt8) (m:Nat) (c:aJ):Bool:=decide (c.head.text.toList=tx)&&decide (c.head.args.length=m)
def cr (cls:List aJ) (tx:List UInt8) (m j:Nat):List Nat:=(List.range j).filter fun i=>match cls[i]? with
 | some c=>yH tx m c
 | none=>false
theorem Jw (cls:List aJ) (tx:List UInt8) (m j:Nat) (h:j<cls.length):cr cls tx m (j+1)=cr cls tx m j++(if yH tx m cls[j]=true then [j]else []):=by
 unfold cr
 rw[List.range_succ,List.filter_append]
 congr 1
 simp only[List.filter_cons,List.filter_nil,List.getElem?_eq_getElem h]
theorem CD (cls:List aJ) (tx:List UInt8) (m j:Nat):(cr cls tx m j).length≤j:=by
 have:=List.length_filter_le (fun i=>match cls[i]? with
  | some c=>yH tx m c
  | none=>false) (List.range j)
 rwa [List.length_range]at this
end Zc
namespace Go.Proofs.YthfjnfcekeknlaaGreatDoor
open Go.RowKit
def UN (w:World) (cls:List Zc.aJ) (tx:List UInt8) (m:Nat) (L:Array Value) (k:Nat) (av iv:Value) (wr:World):Prop:=
 ∃j:Nat,k+j=cls.length∧iv= .int .i64 (j:Int)∧wr.ownsRow (w.heap.size+1) 3 1 av (Zc.cr cls tx m j).length ((Zc.cr cls tx m j).map aK)∧Below w.heap.size w wr∧wr.heap[w.heap.size]?=some (.cells L 177 (0,0))
theorem AE (w:World) (mb:Nat) (cs:Array Value) (D:List Ng) (nO:Option Addr) (nC:Nat) (fr:Nat→Nat) (n:Nat) (d:Ng) (cls:List Zc.aJ) (clo:Option Addr) (clc:Nat) (hs:bG w mb 1 cs 91 D nO nC) (aF:bV D fr) (hn:n<D.length) (hd:D[fr n]?=some d) (hk:d.k=3) (h0:cs[0]?=some (.slice clo cls.length clc)) (gu:df w clo cls.length cls) (Ey:∀c∈cls,c.head.kind=2) (hl:cls.length≤12):
 Calls Tryz.prog 181 #[.pointer (some ⟨mb,0,none⟩),.int .i64 (n:Int)] w fun e w'=>∃oo oc,e= .returned (.slice oo (Zc.cr cls d.tx.toList d.args.length cls.length).length oc)∧w'.ownsRow w.heap.size 3 1 (.slice oo (Zc.cr cls d.tx.toList d.args.length cls.length).length oc) (Zc.cr cls d.tx.toList d.args.length cls.length).length ((Zc.cr cls d.tx.toList d.args.length cls.length).map aK)∧Below w.heap.size w w':=by
 obtain⟨k,hop⟩:=aF.hop n hn
 have dC:=aF.nd (fr n) (aF.lt hn)
 have hdd:D[fr n]'(aF.lt hn)=d:=(List.getElem?_eq_some_iff.1 hd).2
 rw[hdd]at dC
 obtain⟨dv,dc,dl⟩:=dC.c hk
 have HL:=af (e7 w mb 1 cs _ D nO nC n (fr n) k d hs hop hd)
 rw[hk,dv,dc]at HL
 have f0:=(ah hs.blk 0).trans h0
 have mz:=ag hs.blk
 have vR:=af gu
 have XI:=af Ey
 obtain⟨tj,hj,iA,iB,iC⟩:=info_parts infoIn
 generalize d.args.length=dm at*
 generalize d.tx=dtx at*
 clear hs aF hn hd hk h0 gu Ey hop dC hdd dv dc dl d
 go_enter Tryz.func181,Tryz.ntmps181
 go_wp2_with fail
 refine(ae HL).mono ?_
 rintro e w2 ⟨rfl,hb2⟩
 have f2:=(hb2.cell (p:=⟨mb,0,none⟩) mz).trans f0
 have mz2:mb<w2.heap.size:=Nat.lt_of_lt_of_le mz hb2.size
 have aX:=af hb2
 have z2:=hb2.size
 clear hb2 HL f0
 have HST:=af (show UN w2 cls dtx.toList dm #[.int .i64 3,.int .i64 0,.string dtx,.int .i64 (dm:Int)] cls.length (.slice none 0 0) (.int .i64 0) (w2.alloc (.cells #[.int .i64 3,.int .i64 0,.string dtx,.int .i64 (dm:Int)] 177))from ⟨0,by omega,rfl,by simpa [Zc.cr] using World.ownsRow_nil _ _ _ _,(Below.refl _ _).alloc (Nat.le_refl _) _,heap_alloc_new _ _⟩)
 go_wp2_with fail
 go_loopg [6,19] cls.length (fun k av iv wr=>UN w2 cls dtx.toList dm #[.int .i64 3,.int .i64 0,.string dtx,.int .i64 (dm:Int)] k av iv wr)
 case atStart=>exact ae HST
 case round=>
  clear HST
  obtain⟨j,hkj,rfl,how,aY,dX⟩:=hrel
  obtain⟨oo,oc,rfl⟩:=fu how
  by_cases hlt:j<cls.length
  ·obtain⟨g,vs,ca,hao,eE,mf,mG⟩:=(ae vR).2 (fun q=>by rw[q]at hlt;simp at hlt)
   subst hao
   have kQ:j<vs.length:=by have:=mG.length;omega
   have dQ:Below w.heap.size w wr:=(ae aX).trans (aY.mono z2)
   have hcw:wr.heap[g]?=some (.cells ca 78 (0,0)):=(dQ.block g (ag eE)).trans eE
   have fc:∀i,i<6→wr.cell? ⟨g,j*6+i,none⟩=(oA vs[j])[i]?:=fun i hi=>by
    rw[ah hcw,←Array.getElem?_toList,←Ck kQ i hi,←mf,List.getElem?_take_of_lt (by omega)]
   have e0:=fc 0 (by omega)
   have e1:=fc 1 (by omega)
   have e2:=fc 2 (by omega)
   have e3:=fc 3 (by omega)
   have e4:=fc 4 (by omega)
   have e5:=fc 5 (by omega)
   simp only[oA,List.getElem?_cons_zero,List.getElem?_cons_succ,Nat.add_zero]at e0 e1 e2 e3 e4 e5
   have Ad:eJ w vs[j].a vs[j].o1 vs[j].n1 vs[j].o2 vs[j].n2 cls[j]:=mG.at j kQ hlt
   obtain⟨⟨ha1,ha2,XJ,XK,UO,XL⟩,XM⟩:=Ad.head
   have hk2:=ae XI _ (List.getElem_mem hlt)
   have UQ:vs[j].a.k=3:=by rw[ha1,hk2];rfl
   have UR:=UO hk2
   rw[UQ]at e0
   rw[UR]at e2
   rw[ha2]at e3
   have gz:g<wr.heap.size:=ag hcw
   have lz:w2.heap.size<wr.heap.size:=ag dX
   have i0:(0:Int)≤(j:Int):=by omega
   have i1:(j:Int)<(cls.length:Int):=by omega
   have fy:=af (Zc.Jw cls dtx.toList dm j hlt)
   have hle:=Zc.CD cls dtx.toList dm j
   have VZ:(Zc.cr cls dtx.toList dm j).length≤1000000:=by omega
   have l0:=ah dX 0
   have l1:=ah dX 1
   have l2:=ah dX 2
   have l3:=ah dX 3
   simp only[List.getElem?_toArray,List.getElem?_cons_zero,List.getElem?_cons_succ]at l0 l1 l2 l3
   have LA:=af (fun W=>qU W ⟨3,vs[j].a.val,cls[j].head.text,vs[j].a.ao,cls[j].head.args.length,vs[j].a.cap⟩)
   have HOW:=af how
   have bY:=af aY
   have zI:=af dX
   have aW:=af hkj
   have bh:=af hlt
   generalize Zc.cr cls dtx.toList dm j=Z at*
   generalize vs[j]=v at*
   have hcs:Zc.yH dtx.toList dm cls[j]=(decide (cls[j].head.text.toList=dtx.toList)&&decide (cls[j].head.args.length=dm)):=rfl
   generalize hq:Zc.yH dtx.toList dm cls[j]=q at*
   generalize cls[j].head.text=bj at*
   generalize cls[j].head.args.length=hm at*
   obtain⟨⟨ak0,av0,ax0,ao0,an0,ac0⟩,o1,n1,c1,o2,n2,c2⟩:=v
   dsimp only at e0 e1 e2 e3 e4 e5 LA
   have Ez:=af hcs
   clear how aY dX hkj hlt fc hle dQ hcw mf mG eE Ad ha1 ha2 XJ XK UO hk2 UQ UR XL XM hq hcs kQ
   have hlv:jt ⟨3,av0,bj,ao0,hm,ac0⟩=0:=rfl
   rw[hlv]at LA
   clear hlv
   cases q with
   | true=>
    have hh:=(ae Ez).symm
    simp only[Bool.and_eq_true,decide_eq_true_eq]at hh
    obtain⟨Rh,rfl⟩:=hh
    have t1:(bj.toList == dtx.toList)=true:=by rw[Rh];simp
    have t2:bj=dtx:=by
     exact Ie Rh
    subst t2
    clear Rh Ez
    rw[if_pos rfl]at fy
    go_wp2_with fail
    go_region_with (go_at_call 95;refine(ae LA _).mono ?_;rintro e w5 ⟨rfl,bB⟩;have m0:=(bB.cell (p:=⟨w2.heap.size,0,none⟩) (by simp;omega)).trans ((World.cell?_alloc_past _ _ _ lz).trans l0);have m1:=(bB.cell (p:=⟨w2.heap.size,1,none⟩) (by simp;omega)).trans ((World.cell?_alloc_past _ _ _ lz).trans l1);have m2:=(bB.cell (p:=⟨w2.heap.size,2,none⟩) (by simp;omega)).trans ((World.cell?_alloc_past _ _ _ lz).trans l2);have m3:=(bB.cell (p:=⟨w2.heap.size,3,none⟩) (by simp;omega)).trans ((World.cell?_alloc_past _ _ _ lz).trans l3);have nQ:Below wr.heap.size wr w5:=(by first | exact((Below.refl _ wr).alloc (Nat.le_refl _) _).trans (bB.mono (by simp)) | exact(((Below.refl _ wr).alloc (Nat.le_refl _) _).drew).trans (bB.mono (by simp)));have bM:=af ((ae bY).trans (nQ.mono (ae bY).size));have CE:=af ((nQ.block _ lz).trans (ae zI));have mg:=af (ai (ae HOW) (fun k q=>nQ.block k ((ae HOW).lt k q).2));have z5:w2.heap.size<w5.heap.size:=Nat.lt_of_lt_of_le lz nQ.size;clear bB nQ)
    all_goals
     go_wp2_with (at_builtin;go_must (refine wpList_append_own_at _ rfl (.tmp 29) (.tmp 31) 25 rfl (w2.heap.size+1) 3 tj (.int .i64 0) 1 8 Tryz.underlying25 hj iA iB iC rfl (by decide) _ Z.length (Z.map aK) rfl ((ae mg).alloc _) ⟨w5.heap.size,0,none⟩ 1 1 [.int .i64 (j:Int)] rfl rfl (jd _ _ _ _ rfl) (by simp[Value.oneCell']) (by unfold maxLen;omega) (by omega) (by simp;omega) ?_);go_must (intro v' w7 hown' hgrow _ _;have mK:=af hown';have gZ:=af (((ae bM).alloc (ae bM).size _).grown hgrow (by have:=(ae bM).size;simp;omega) (fun k q=>by have:=((ae mg).lt k q).1;omega));have XN:=af ((hgrow.block w2.heap.size (by simp;omega) (fun q=>by have:=((ae mg).lt w2.heap.size q.symm).1;omega)).trans ((Below.heap_alloc _ _ _ z5).trans (ae CE)));clear hown' hgrow))
     go_roundg (gk - 1)
     case measure=>have:=ae aW;have:=ae bh;omega
     case rel=>exact⟨j+1,by have:=ae aW;have:=ae bh;omega,by go_num,by rw[ae fy];have:=ae mK;simpa [aK] using this,ae gZ,ae XN⟩
   | false=>
    have hh:=(ae Ez).symm
    rw[if_neg (by simp),List.append_nil]at fy
    have XO:bj.toList≠dtx.toList∨(bj=dtx∧hm≠dm):=by
     by_cases e1:bj.toList=dtx.toList
     ·right
      refine⟨Ie e1,fun e2=> ?_⟩
      simp[e1,e2]at hh
     ·exact Or.inl e1
    clear hh Ez
    rcases XO with hh | ⟨rfl,hh⟩
    ·have t1:(bj.toList == dtx.toList)=false:=by simpa using hh
     clear hh
     go_wp2_with fail
     go_region_with (go_at_call 95;refine(ae LA _).mono ?_;rintro e w5 ⟨rfl,bB⟩;have m0:=(bB.cell (p:=⟨w2.heap.size,0,none⟩) (by simp;omega)).trans ((World.cell?_alloc_past _ _ _ lz).trans l0);have m1:=(bB.cell (p:=⟨w2.heap.size,1,none⟩) (by simp;omega)).trans ((World.cell?_alloc_past _ _ _ lz).trans l1);have m2:=(bB.cell (p:=⟨w2.heap.size,2,none⟩) (by simp;omega)).trans ((World.cell?_alloc_past _ _ _ lz).trans l2);have m3:=(bB.cell (p:=⟨w2.heap.size,3,none⟩) (by simp;omega)).trans ((World.cell?_alloc_past _ _ _ lz).trans l3);have nQ:Below wr.heap.size wr w5:=(by first | exact((Below.refl _ wr).alloc (Nat.le_refl _) _).trans (bB.mono (by simp)) | exact(((Below.refl _ wr).alloc (Nat.le_refl _) _).drew).trans (bB.mono (by simp)));have bM:=af ((ae bY).trans (nQ.mono (ae bY).size));have CE:=af ((nQ.block _ lz).trans (ae zI));have mg:=af (ai (ae HOW) (fun k q=>nQ.block k ((ae HOW).lt k q).2));have z5:w2.heap.size<w5.heap.size:=Nat.lt_of_lt_of_le lz nQ.size;clear bB nQ)
     all_goals
      go_wp2_with fail
      go_roundg (gk - 1)
      case measure=>have:=ae aW;have:=ae bh;omega
      case rel=>exact⟨j+1,by have:=ae aW;have:=ae bh;omega,by go_num,by rw[ae fy];exact ae mg,ae bM,ae CE⟩
    ·have t1:((hm:Int) == (dm:Int))=false:=by simp;omega
     have t3:(hm == dm)=false:=by simpa using hh
     clear hh
     go_wp2_with fail
     go_region_with (go_at_call 95;refine(ae LA _).mono ?_;rintro e w5 ⟨rfl,bB⟩;have m0:=(bB.cell (p:=⟨w2.heap.size,0,none⟩) (by simp;omega)).trans ((World.cell?_alloc_past _ _ _ lz).trans l0);have m1:=(bB.cell (p:=⟨w2.heap.size,1,none⟩) (by simp;omega)).trans ((World.cell?_alloc_past _ _ _ lz).trans l1);have m2:=(bB.cell (p:=⟨w2.heap.size,2,none⟩) (by simp;omega)).trans ((World.cell?_alloc_past _ _ _ lz).trans l2);have m3:=(bB.cell (p:=⟨w2.heap.size,3,none⟩) (by simp;omega)).trans ((World.cell?_alloc_past _ _ _ lz).trans l3);have nQ:Below wr.heap.size wr w5:=(by first | exact((Below.refl _ wr).alloc (Nat.le_refl _) _).trans (bB.mono (by simp)) | exact(((Below.refl _ wr).alloc (Nat.le_refl _) _).drew).trans (bB.mono (by simp)));have bM:=af ((ae bY).trans (nQ.mono (ae bY).size));have CE:=af ((nQ.block _ lz).trans (ae zI));have mg:=af (ai (ae HOW) (fun k q=>nQ.block k ((ae HOW).lt k q).2));have z5:w2.heap.size<w5.heap.size:=Nat.lt_of_lt_of_le lz nQ.size;clear bB nQ)
     all_goals
      go_wp2_with fail
      go_roundg (gk - 1)
      case measure=>have:=ae aW;have:=ae bh;omega
      case rel=>exact⟨j+1,by have:=ae aW;have:=ae bh;omega,by go_num,by rw[ae fy];exact ae mg,ae bM,ae CE⟩
  ·obtain rfl:j=cls.length:=by omega
   have HOW:=af (cf how (Nat.le_trans z2 (Nat.le_succ _)))
   have bY:=af ((ae aX).trans (aY.mono z2))
   clear how aY hkj dX
   go_wp2_with fail
   go_ret
   exact⟨oo,oc,rfl,ae HOW,ae bY⟩
end Go.Proofs.YthfjnfcekeknlaaGreatDoor
namespace Zc
structure jN (c:aJ):Prop where
 hk:c.head.kind=2
 wl:wfK 8 c.head
 ts:∀x∈c.tests,iL x
 tl:c.tests.length≤6
 gs:∀x∈c.goals,ug x
 gl:c.goals.length≤6
 nl:(NG c).length≤100000
 t0:c.tests=[]
end Zc
namespace Go.Proofs.YthfjnfcekeknlaaGreatDoor
open Go.RowKit
def eG (w w':World):Prop:=∀(g:Nat) (ys:Array Value) (S:TypeId),w.heap[g]?=some (.cells ys S (0,0))→(S=78∨S=151∨S=76)→w'.heap[g]?=some (.cells ys S (0,0))
theorem eG.trans {a b c:World} (h:eG a b) (k:eG b c):eG a c:=fun g ys S hg hS=>k g ys S (h g ys S hg hS) hS
theorem eG.below {w w':World} (h:Below w.heap.size w w'):eG w w':=fun g _ _ hg _=>(h.block g (ag hg)).trans hg
theorem eG.UT {w w':World} (h:eG w w'):aS w w':=⟨fun g cs hg _=>h g cs _ hg (Or.inr (Or.inr rfl)),fun g cs hg _=>h g cs _ hg (Or.inr (Or.inl rfl))⟩
theorem eG.cls {w w':World} (h:eG w w') {o:Option Addr} {n:Nat} {ys:List Zc.aJ} (hc:df w o n ys):df w' o n ys:=⟨hc.1,fun q=>by
 obtain⟨g,vs,cs,h1,h2,h3,h4⟩:=hc.2 q
 exact⟨g,vs,cs,h1,h g cs _ h2 (Or.inl rfl),h3,h4.imp fun _ _ q=>eJ.keep q h.UT⟩⟩
theorem eG.lZ {R R':Nat→Prop} {w w':World} (hf:au R R' w w') (hn:∀(g:Nat) (ys:Array Value) (S:TypeId),w.heap[g]?=some (.cells ys S (0,0))→(S=78∨S=151∨S=76)→¬R g):eG w w':=fun g ys S hg hS=>(hf.block g (ag hg) (hn g ys S hg hS)).trans hg
theorem V4 (cs:Array Value) (y a b:Value):(((cs.setIfInBounds 3 y).setIfInBounds 1 a).setIfInBounds 3 b)=(cs.setIfInBounds 1 a).setIfInBounds 3 b:=by
 apply Array.ext_getElem?
 intro i
 simp only[Array.getElem?_setIfInBounds,Array.size_setIfInBounds]
 by_cases h1:1=i
 ·subst h1;simp
 ·by_cases h3:3=i
  ·subst h3;simp
  ·simp[h1,h3]
def Ri (P:Nat→Prop) (mb:Nat) (cs:Array Value) (D:List Ng) (V:List Nat) (nO vo:Option Addr) (fr:Nat→Nat) (TT:Nat→Zc.U) (G:List Gl) (i which:Nat) (c:Zc.aJ) (w:World) (e:Ending) (w':World):Prop:=
 ∃(E:List Ng) (F:List Nat) (no':Option Addr) (nc':Nat) (T':Nat→Zc.U) (Gn:List Gl) (po':Option Addr) (pc':Nat),e= .returned (.int .i64 ((which+1:Nat):Int))∧cQ w' mb ((cs.setIfInBounds 1 (.slice no' (D++E).length nc')).setIfInBounds 3 (.slice po' (G.eraseIdx i++Gn).length pc')) (D++E) no' nc' fr (G.eraseIdx i++Gn) po' pc'∧a8 w' (D++E) P∧Zc.dH (aZ (D++E)) fr T'∧(∀m,m<D.length→T' m=TT m)∧dL D.length E∧fH D.length E F∧(V++F).length=(Zc.NG c).length∧(∀n∈V++F,n<(D++E).length)∧bO (mN T' (D++E).length (cR T' (V++F) (Zc.NG c))) c.goals Gn∧E.length≤118098∧au (fun k=>cF mb nO k∨rowOf vo k) (fun k=>cF mb no' k∨rowOf po' k) w w'
theorem Gg (w:World) (mb:Nat) (cs:Array Value) (D:List Ng) (V:List Nat) (nO:Option Addr) (nC:Nat) (vo:Option Addr) (vc:Nat) (fr:Nat→Nat) (TT:Nat→Zc.U) (P:Nat→Prop) (G:List Gl) (po:Option Addr) (pc i which:Nat) (cls:List Zc.aJ) (clo:Option Addr) (clc:Nat) (hm:cQ w mb cs D nO nC fr G po pc) (bt:a8 w D (fun g=>P g∧¬rowOf vo g)) (fE:Zc.dH (aZ D) fr TT) (hV:w.ownsRow 0 3 1 (.slice vo V.length vc) V.length (V.map aK)) (hVl:∀n∈V,n<D.length) (Ju:∀g∈G,∀k,rowOf g.no k→¬rowOf vo k) (hP:∀g,w.heap.size≤g→P g) (h0:cs[0]?=some (.slice clo cls.length clc)) (gu:df w clo cls.length cls) (EA:which<cls.length) (hcc:cls.length≤12) (aF:Zc.jN cls[which]) (hVn:V.length=(Zc.NT cls[which]).length) (hD:D.length+4000000≤1000000000) (hGl:G.length≤1000000):
 Calls Tryz.prog 183 #[.pointer (some ⟨mb,0,none⟩),.int .i64 (i:Int),.int .i64 (which:Int),.agg #[.slice vo V.length vc]] w fun e w'=>Ri P mb cs D V nO vo fr TT G i which cls[which] w e w':=by
 have hb0:=(Below.refl w.heap.size w).alloc (Nat.le_refl _) (.cells #[.slice vo V.length vc] 93)
 obtain⟨g,vs,ca,hao,eE,mf,mG⟩:=gu.2 (fun q=>by rw[q]at EA;simp at EA)
 subst hao
 have kQ:which<vs.length:=by have:=mG.length;omega
 have f5:w.cell? ⟨g,which*6+5,none⟩=(oA vs[which])[5]?:=by
  rw[ah eE,←Array.getElem?_toList,←Ck kQ 5 (by omega),←mf,List.getElem?_take_of_lt (by omega)]
 simp only[oA,List.getElem?_cons_zero,List.getElem?_cons_succ]at f5
 have gz:=ag eE
 have Ad:eJ w vs[which].a vs[which].o1 vs[which].n1 vs[which].o2 vs[which].n2 cls[which]:=mG.at which kQ EA
 have f0:=(ah hm.st.blk 0).trans h0
 have mz:=ag hm.st.blk
 have IL:=af (tZ _ mb cs D nO nC fr G po pc i (hm.below hb0) hGl)
 have hw0:w.heap.size<(w.alloc (.cells #[.slice vo V.length vc] 93)).heap.size:=by simp
 have xW:gO P (w.alloc (.cells #[.slice vo V.length vc] 93)) mb 1 cs 91 w.heap.size D V nO nC vo vc fr TT:=⟨⟨hm.st.below hb0,⟨heap_alloc_new w _,ai hV (fun g q=>hb0.block g (hV.lt g q).2)⟩,by decide,by decide,bt.below hb0⟩,hm.ok,fE,hVl⟩
 have IJ:=af (show∀(w2:World) (po1:Option Addr) (pc1:Nat),cQ w2 mb (cs.setIfInBounds 3 (.slice po1 (G.eraseIdx i).length pc1)) D nO nC fr (G.eraseIdx i) po1 pc1→au (fun k=>k=mb) (fun k=>k=mb∨rowOf po1 k) (w.alloc (.cells #[.slice vo V.length vc] 93)) w2→Calls Tryz.prog 42 #[.pointer (some ⟨mb,0,none⟩),.slice vs[which].o2 vs[which].n2 vs[which].c2,.pointer (some ⟨w.heap.size,0,none⟩)] w2 fun e w'=>e= .returned (.tuple #[])∧Ri P mb cs D V nO vo fr TT G i which cls[which] w (.returned (.int .i64 ((which+1:Nat):Int))) w' from fun w2 po1 pc1 p7 hf2=>by
  have gq:∀(k:Nat) (ys:Array Value) (S:TypeId),(w.alloc (.cells #[.slice vo V.length vc] 93)).heap[k]?=some (.cells ys S (0,0))→S≠91→w2.heap[k]?=some (.cells ys S (0,0)):=fun k ys S hk hS=>(hf2.block k (ag hk) (fun e=>by
   rw[e,xW.ad.st.blk]at hk
   simp only[Option.some.injEq,Obj.cells.injEq]at hk
   exact hS hk.2.1.symm)).trans hk
  have V5:=xW.Jt p7.st (fun k ys S hk hS=>(gq k ys S hk (by rcases hS with q | q<;>(rw[q];decide))).trans hk.symm)
  have Nw:eG w w2:=(eG.below hb0).trans fun k ys S hk hS=>gq k ys S hk (by rcases hS with q | q | q<;>(rw[q];decide))
  have V6:=Ad.keep Nw.UT
  have hz:=hf2.size
  refine(Cx w2 mb _ w.heap.size D V nO nC vo vc fr TT P (G.eraseIdx i) po1 pc1 (Zc.NG cls[which]) (Zc.NT cls[which]) cls[which].goals vs[which].o2 vs[which].n2 vs[which].c2 V5 p7 (fun x hx=>Ju x (List.mem_of_mem_eraseIdx hx)) (fun q hq=>hP q (by omega)) V6.goals aF.gs hVn ⟨[],by rw[List.append_nil];rfl⟩ aF.nl (Nat.le_trans aF.gl (by omega)) hD (Nat.le_trans (List.length_eraseIdx_le _ _) hGl)).mono ?_
  rintro e w3 ⟨rfl,E,F,no',nc',vo',vc',T',Gn,po',pc',dZ⟩
  have fF:=dZ.mc
  have ecs:((cs.setIfInBounds 3 (.slice po1 (G.eraseIdx i).length pc1)).setIfInBounds 1 (.slice no' (D++E).length nc')).setIfInBounds 3 (.slice po' (G.eraseIdx i++Gn).length pc')=(cs.setIfInBounds 1 (.slice no' (D++E).length nc')).setIfInBounds 3 (.slice po' (G.eraseIdx i++Gn).length pc'):=by
   exact V4 _ _ _ _
  rw[ecs]at fF
  refine⟨rfl,E,F,no',nc',T',Gn,po',pc',rfl,fF,dZ.ms.ad.args.keep (fun g _ hp hg=>⟨hg,hp.1⟩),dZ.ms.to,dZ.old,dZ.nd,dZ.nv,dZ.ln,dZ.ms.lt,dZ.gl,Nat.le_trans dZ.el (by have:=aF.gl;omega),?_⟩
  have oC:∀k,rowOf po1 k→k=mb∨w.heap.size≤k:=fun k q=>by
   rcases hf2.row k (Or.inr q)with e | e
   ·exact Or.inl e
   ·right;omega
  refine⟨dZ.fg.os.trans (hf2.os.trans hb0.os),dZ.fg.tape.trans (hf2.tape.trans hb0.tape),dZ.fg.output.trans (hf2.output.trans hb0.output),by have:=dZ.fg.size;omega,fun k hk hr=> ?_,fun k q=> ?_⟩
  ·rw[dZ.fg.block k (by omega) ?_,hf2.block k (by omega) (fun e=>hr (Or.inl (Or.inl e))),hb0.block k hk]
   rintro((e | e | e | e) | e)
   ·exact hr (Or.inl (Or.inl e))
   ·exact hr (Or.inl (Or.inr e))
   ·omega
   ·exact hr (Or.inr e)
   ·rcases oC k e with e | e
    ·exact hr (Or.inl (Or.inl e))
    ·omega
  ·have q2:uY mb no' w.heap.size vo' po' k:=by
    rcases q with(q | q) | q
    ·exact Or.inl (Or.inl q)
    ·exact Or.inl (Or.inr (Or.inl q))
    ·exact Or.inr q
   rcases dZ.fg.row k q2 with((e | e | e | e) | e) | e
   ·exact Or.inl (Or.inl (Or.inl e))
   ·exact Or.inl (Or.inl (Or.inr e))
   ·right;omega
   ·exact Or.inl (Or.inr e)
   ·rcases oC k e with e | e
    ·exact Or.inl (Or.inl (Or.inl e))
    ·exact Or.inr e
   ·right;omega)
 have i0:(0:Int)≤(which:Int):=by omega
 have i1:(which:Int)<(cls.length:Int):=by omega
 have Y4:=af EA
 generalize vs[which]=v at*
 obtain⟨⟨ak0,av0,ax0,ao0,an0,ac0⟩,o1,n1,c1,o2,n2,c2⟩:=v
 dsimp only at f5 IJ
 have UU:=af (ae IJ)
 generalize hcw:cls[which]=cw at*
 clear hcw IJ hm bt fE hV hVl Ju hP h0 gu aF hVn hD hb0 eE mf mG Ad xW kQ hw0
 go_enter Tryz.func183,Tryz.ntmps183
 go_wp2_with fail
 refine(ae IL).mono ?_
 rintro e w2 ⟨rfl,po1,pc1,m2,fr2⟩
 have I2:=af (ae UU w2 po1 pc1 m2 fr2)
 clear m2 fr2 IL UU
 go_wp2_with fail
 refine(ae I2).mono ?_
 rintro e w3 ⟨rfl,h3⟩
 have H3:=af h3
 clear h3 I2
 go_wp2_with fail
 go_ret
 exact ae H3
theorem qj {P:Program} (w:World) (t ty e:TypeId) (i:TypeInfo) (ht:P.underlying t=some (.slice e)) (hi:P.info? e=some i) (base:Option Addr) (sLen sCap:Nat) (hle:sLen≤sCap):(Builtin.append_ #[t,t] ty #[.slice base sLen sCap,.slice none 0 0]).run P w= .ok (.slice base sLen sCap) w:=by
 cases base<;>simp[Builtin.append_,run_underlying ht,sizeOf,typeInfo,hi,hle,Builtin.lenOf,Builtin.firstCells,loadCells,storeCells]
theorem DT {ops:Array Oper} {rest:List Oper} {o:Oper} {a:Act} {Q:Exit→Act→World→Prop} {w:World} (hgd:o.guard=none) (s x:Operand)
 (ho:o.op= .call {callee:= .builtin .append,args:=#[s,x],argTypes:=#[25,25]})
 (base b2:Nat) (v:Value) (n:Nat) (xs:List Nat) (hs:a.eval s=v) (hown:w.ownsRow base 3 1 v n (xs.map aK))
 (so:Option Addr) (m c:Nat) (ys:List Nat) (hx:a.eval x= .slice so m c) (hy:w.ownsRow b2 3 1 (.slice so m c) m (ys.map aK))
 (hn:n+m≤1000000000) (hbase:base≤w.heap.size)
 (h:∀v' w',w'.ownsRow base 3 1 v' (n+m) ((xs++ys).map aK)→w.grownBy w' v.ownBlock→(v'.ownBlock=v.ownBlock∨v'.ownBlock=some w.heap.size)→wpList Tryz.prog ops Q rest (a.put o.dst v') w'):
 wpList Tryz.prog ops Q (o :: rest) a w:=by
 obtain⟨tj,hj,iA,iB,iC⟩:=info_parts infoIn
 rcases hy.2 with⟨q,q0⟩ | ⟨g,cap,cur,q,q1,q2,q3,q4,q5,q6⟩
 ·simp only[Value.slice.injEq]at q
  obtain⟨rfl,rfl,rfl⟩:=q
  have Nx:ys=[]:=by
   have:=hy.1
   simp at this
   exact this
  subst Nx
  obtain⟨vo,vc,rfl⟩:=fu hown
  have hle:n≤vc:=by
   rcases hown.2 with⟨r,r0⟩ | ⟨g,cap,cur,r,_,_,r3,_⟩
   ·omega
   ·simp only[Value.slice.injEq]at r
    omega
  refine wpList_plain hgd fun K hK=> ?_
  have hr:=qj (P:=Tryz.prog) w 25 o.type 3 tj Tryz.underlying25 hj vo n vc hle
  unfold Oper.wp execOp
  simp only[ho,resolve,invoke,builtin,Sem.run_bind,Sem.run_pure,Result.andThen_ok,List.map_toArray,List.map_cons,List.map_nil,hs,hx,hr]
  exact hK _ _ (h _ _ (by simpa using hown) (World.grownBy.refl _ _) (Or.inl rfl))
 ·simp only[Value.slice.injEq]at q
  obtain⟨rfl,_,rfl⟩:=q
  refine wpList_append_own_at w hgd s x 25 ho base 3 tj (.int .i64 0) 1 8 Tryz.underlying25 hj iA iB iC rfl (by decide) v n (xs.map aK) hs hown ⟨g,0,none⟩ m c (ys.map aK) hx (by have:=hy.1;simpa using this) (fun j u hj=> ?_) (fun u hu=> ?_) (by unfold maxLen;omega) (by omega) hbase (fun v' w' h1 h2 _ h4=>h v' w' (by rw[List.map_append];exact h1) h2 h4)
  ·have EB:j<(ys.map aK).length:=(List.getElem?_eq_some_iff.1 hj).1
   have:(⟨g,0,none⟩:Addr).add j=⟨g,j,none⟩:=by cases j<;>simp[Addr.add]
   rw[this,hy.cellAt j (by have:=hy.1;simp at this EB;omega)]
   exact hj
  ·obtain⟨y,_,rfl⟩:=List.mem_map.1 hu
   rfl
end Go.Proofs.YthfjnfcekeknlaaGreatDoor
namespace Zc
def ie (n:Nat):List UInt8:=Go.Lib.decDigits n
def txL:List Nat→List UInt8
 | []=>[110]
 | d :: l=>[99,40]++ie d++[44]++txL l++[41]
theorem js {n:Nat} (h:n<10):ie n=[UInt8.ofNat (48+n)]:=by unfold ie;rw[Go.Lib.decDigits,dif_pos h]
theorem rO {n:Nat} (h:¬n<10):ie n=ie (n / 10)++[UInt8.ofNat (48+n % 10)]:=by
 unfold ie
 rw[Go.Lib.decDigits,dif_neg h]
theorem txL_len:∀l:List Nat,(∀d∈l,d<10)→(txL l).length=5*l.length+1
 | [],_=>rfl
 | d :: l,h=>by
  rw[txL,js (h d (by simp))]
  simp only[List.length_append,List.length_cons,List.length_nil,txL_len l (fun e he=>h e (by simp[he]))]
  omega
end Zc
namespace Go.Proofs.YthfjnfcekeknlaaGreatDoor
open Go.RowKit
def wN (w:World) (o:Option Addr) (n:Nat):Prop:=n≤maxLen∧(n=0∨∃b off,o=some ⟨b,off,none⟩∧b<w.heap.size∧∀i,i<n→∃v:Int,w.cell? ⟨b,off+i,none⟩=some (.int .i64 v)∧-9223372036854775808≤v∧v≤9223372036854775807)
theorem wN.below {w w':World} {o:Option Addr} {n:Nat} (h:wN w o n) (hb:Below w.heap.size w w'):wN w' o n:=by
 refine⟨h.1,h.2.imp id fun⟨b,off,h1,h2,h3⟩=>⟨b,off,h1,Nat.lt_of_lt_of_le h2 hb.size,fun i hi=> ?_⟩⟩
 obtain⟨v,h4,h5⟩:=h3 i hi
 exact⟨v,(hb.cell (p:=⟨b,off+i,none⟩) h2).trans h4,h5⟩
def Ae (c:Int) (n:Nat):Nat:=((if c<0 then -(c+1)else c) % (n:Int)).toNat
theorem Rj (c:Int) {n:Nat} (h:0<n):Ae c n<n:=by
 unfold Ae
 have h1:=Int.emod_nonneg (if c<0 then -(c+1)else c) (b:=(n:Int)) (by omega)
 have h2:=Int.emod_lt_of_pos (if c<0 then -(c+1)else c) (b:=(n:Int)) (by omega)
 omega
theorem TH (w:World) (c:Int) (n:Nat) (hn:0<n) (pW:n≤1000000000) (h1: -9223372036854775808≤c) (h2:c≤9223372036854775807):
 Calls Tryz.prog 22 #[.int .i64 c,.int .i64 (n:Int)] w fun e w'=>e= .returned (.int .i64 (Ae c n:Int))∧w'=w:=by
 by_cases hc:c<0
 ·have t1:decide (c<0)=true:=by simpa using hc
  have q1:=Int.emod_nonneg (-(c+1)) (b:=(n:Int)) (by omega)
  have hp:(Ae c n:Int)=(-(c+1)) % (n:Int):=by unfold Ae;rw[if_pos hc,Int.toNat_of_nonneg q1]
  rw[hp]
  clear hp q1
  go_enter Tryz.func22,Tryz.ntmps22
  go_wp2_with fail
  go_ret
  refine⟨?_,rfl⟩
  show Ending.returned (.int .i64 (-(c+1).tmod (n:Int)))=_
  rw[←Int.neg_tmod,Int.tmod_eq_emod_of_nonneg (by omega)]
 ·have t1:decide (c<0)=false:=by simpa using hc
  have q1:=Int.emod_nonneg c (b:=(n:Int)) (by omega)
  have hp:(Ae c n:Int)=c % (n:Int):=by unfold Ae;rw[if_neg hc,Int.toNat_of_nonneg q1]
  rw[hp]
  clear hp q1
  go_enter Tryz.func22,Tryz.ntmps22
  go_wp2_with fail
  go_ret
  exact⟨rfl,rfl⟩
def XP (m:Nat) (w:World) (e:Ending) (w':World):Prop:=∃(l:List Nat) (o:Option Addr) (c:Nat),e= .returned (.slice o l.length c)∧l.length≤m∧(∀d∈l,d<10)∧w'.ownsRow w.heap.size 3 1 (.slice o l.length c) l.length (l.map aK)∧Below w.heap.size w w'
def XQ (w:World) (n m k:Nat) (av iv:Value) (wr:World):Prop:=∃(l:List Nat),k+l.length=min n m∧iv= .int .i64 (l.length:Int)∧(∀d∈l,d<10)∧wr.ownsRow w.heap.size 3 1 av l.length (l.map aK)∧Below w.heap.size w wr
theorem CF (w:World) (o:Option Addr) (n c m:Nat) (hr:wN w o n) (hm:m≤10):
 Calls Tryz.prog 13 #[.slice o n c,.int .i64 (m:Int)] w fun e w'=>XP m w e w':=by
 obtain⟨tj,hj,iA,iB,iC⟩:=info_parts infoIn
 have o9:n≤9223372036854775807:=by have:=hr.1;unfold maxLen at this;omega
 have HR:=af hr.2
 clear hr
 go_enter Tryz.func13,Tryz.ntmps13
 go_wp2_with fail
 go_loopg [5,6] (min n m) (fun k av iv wr=>XQ w n m k av iv wr)
 case atStart=>exact⟨[],by simp,rfl,(fun d hd=>by cases hd),by simpa using World.ownsRow_nil _ _ _ _,Below.refl _ _⟩
 case round=>
  obtain⟨l,hkj,rfl,hd,how,aY⟩:=hrel
  obtain⟨oo,oc,rfl⟩:=fu how
  generalize hj':l.length=j at*
  have HJ:=af hj'
  by_cases hlt:j<min n m
  ·obtain⟨b,off,rfl,vM,hce⟩:=(ae HR).resolve_left (by omega)
   obtain⟨v,hv,Qy,hv2⟩:=hce j (by omega)
   have f0:wr.cell? ⟨b,off+j,none⟩=some (.int .i64 v):=(aY.cell (p:=⟨b,off+j,none⟩) vM).trans hv
   have gz:b<wr.heap.size:=Nat.lt_of_lt_of_le vM aY.size
   have i0:(0:Int)≤(j:Int):=by omega
   have i1:(j:Int)<(n:Int):=by omega
   have i2:(j:Int)<(m:Int):=by omega
   have i3:j≤100:=by omega
   have t1:decide ((j:Int)<(n:Int))=true:=by simpa using i1
   have t2:decide ((j:Int)<(m:Int))=true:=by simpa using i2
   have t3:decide (j<n)=true:=by simp;omega
   have t4:decide (j<m)=true:=by simp;omega
   have IP:=af (TH wr v 10 (by omega) (by omega) Qy hv2)
   have HP:=af (Rj v (n:=10) (by omega))
   have HW:=af how
   have bY:=af aY
   have aW:=af hkj
   have bh:=af hlt
   have HD:=af hd
   have zb:=aY.size
   generalize Ae v 10=q at*
   clear how aY hkj hlt hd hce hv hj' i2
   go_wp2_with fail
   refine(ae IP).mono ?_
   rintro e w5 ⟨rfl,rfl⟩
   go_wp2_with (at_builtin;go_must (refine wpList_append_own_at _ rfl (.tmp 24) (.tmp 26) 25 rfl w.heap.size 3 tj (.int .i64 0) 1 8 Tryz.underlying25 hj iA iB iC rfl (by decide) _ j (l.map aK) rfl ((ae HW).alloc _) ⟨w5.heap.size,0,none⟩ 1 1 [.int .i64 (q:Int)] rfl rfl (jd _ _ _ _ rfl) (by simp[Value.oneCell']) (by unfold maxLen;omega) (by omega) (by simp;omega) ?_;intro v9 w9 h1 h2 _ _;have Jx:=af h1;have ql:=af (((ae bY).alloc zb _).grown h2 (by simp;omega) (fun k r=>((ae HW).lt k r).1));clear h1 h2))
   go_roundg (gk - 1)
   case measure=>have:=ae aW;have:=ae bh;omega
   case rel=>
    refine⟨l++[q],by have:=ae aW;have:=ae bh;have:=ae HJ;simp;omega,by rw[List.length_append,ae HJ];go_num,fun d hd=> ?_,?_,?_⟩
    ·rcases List.mem_append.1 hd with hd | hd
     ·exact ae HD d hd
     ·rw[List.mem_singleton.1 hd];exact ae HP
    ·have:=ae Jx
     rw[List.length_append,ae HJ]
     simpa [aK] using this
    ·exact ae ql
  ·have HW:=af how
   have bY:=af aY
   have HD:=af hd
   have Ex:j≤m:=by omega
   by_cases q:j<n
   ·have t1:decide ((j:Int)<(n:Int))=true:=by simpa using q
    have t2:decide ((j:Int)<(m:Int))=false:=by simp;omega
    have t3:decide (j<n)=true:=by simp;omega
    have t4:decide (j<m)=false:=by simp;omega
    clear how aY hkj hlt hd hj'
    go_wp2_with fail
    go_ret
    exact⟨l,oo,oc,by rw[ae HJ];rfl,by rw[ae HJ];exact Ex,ae HD,by rw[ae HJ];exact ae HW,ae bY⟩
   ·have t1:decide ((j:Int)<(n:Int))=false:=by simp;omega
    have t3:decide (j<n)=false:=by simp;omega
    clear how aY hkj hlt hd hj'
    go_wp2_with fail
    go_ret
    exact⟨l,oo,oc,by rw[ae HJ];rfl,by rw[ae HJ];exact Ex,ae HD,by rw[ae HJ];exact ae HW,ae bY⟩
end Go.Proofs.YthfjnfcekeknlaaGreatDoor
