import Derived.Test.YthfjnfcekeknlaaGreatDoorSt24
import Derived.Deep.LoopGhost
set_option maxHeartbeats 8000000
set_option maxRecDepth 100000
namespace Go.Proofs.YthfjnfcekeknlaaGreatDoor
open Go.RowKit
theorem zG {P:Nat→Prop} {w:World} {mb:Nat} {cs:Array Value} {cb:Nat} {D:List Ng} {V:List Nat} {no:Option Addr} {nc:Nat} {vo:Option Addr} {vc:Nat} {G:List Gl} {po:Option Addr} {pc:Nat} {fr:Nat→Nat} (h:fD P w mb 1 cs 91 cb D V no nc vo vc) (hm:cG w mb cs D no nc fr G po pc) {g:Nat} {ys:Array Value} {S:TypeId} (hg:w.heap[g]?=some (.cells ys S (0,0))) (h1:S≠91) (h2:S≠180) (h3:S≠93) (h4:S≠3) (h5:S≠158):¬um mb no cb vo po g:=by
 rintro((e | e | e | e) | e)
 ·rw[e,h.st.blk]at hg
  simp only[Option.some.injEq,Obj.cells.injEq]at hg
  exact h1 hg.2.1.symm
 ·exact aN h.st.own hg h2 e
 ·exact pS h.sc hg h3 e
 ·exact aN h.sc.own hg h4 e
 ·exact aN hm.pool hg h5 e
theorem oW.fr {R R':Nat→Prop} {w w':World} {N:List (List UInt8)} {v:JV} {x:Za.aC} (hi:oW N w v x) (hf:aj R R' w w') (hn:∀(g:Nat) (ys:Array Value),w.heap[g]?=some (.cells ys 76 (0,0))→¬R g):oW N w' v x:=by
 have ra:∀{f:Nat} {a:AV} {t:Za.Tm},RA f N anyA w a t→RA f N anyA w' a t:=fun hr=>hr.keep fun g _ hp hg _=>⟨(hf.block g (af hg) (hn g _ hg)).trans hg,hp⟩
 exact⟨ra hi.left,hi.sign,fun r q=>ra (hi.right r q),hi.op,fun r q=>ra (hi.last r q)⟩
theorem cG.Cb {P:Nat→Prop} {w:World} {mb:Nat} {cs:Array Value} {cb:Nat} {D:List Ng} {V:List Nat} {nO vo:Option Addr} {fr:Nat→Nat} {TT:Nat→Za.U} {G:List Gl} {po:Option Addr} {N ns:List (List UInt8)} {items:List Za.aC} {E:List Ng} {F:List Nat} {no1:Option Addr} {nc1:Nat} {vo1:Option Addr} {vc1:Nat} {T1:Nat→Za.U} {Gn:List Gl} {po1:Option Addr} {pc1:Nat} {wr:World} (h:Ca P w mb cs cb D V nO vo fr TT G po N ns items E F no1 nc1 vo1 vc1 T1 Gn po1 pc1 wr) {ic mc:Array Value} {nx:List (List UInt8)} {E2:List Ng} {F2:List Nat} {no2:Option Addr} {nc2:Nat} {vo2:Option Addr} {vc2:Nat} {T2:Nat→Za.U} {W:World} (hj:JM P wr mb ((cs.setIfInBounds 1 (.slice no1 (D++E).length nc1)).setIfInBounds 3 (.slice po1 (G++Gn).length pc1)) cb (D++E) (V++F) no1 vo1 fr T1 ic mc nx E2 F2 no2 nc2 vo2 vc2 T2 W):∃cs2:Array Value,cG W mb cs2 (D++E++E2) no2 nc2 fr (G++Gn) po1 pc1:=⟨_,h.mc.added h.ms.ad.sc h.fv hj.ms.ad hj.ms.ok (dL _ _) hj.fg⟩
theorem Cc (w:World) (mb:Nat) (cs:Array Value) (cb:Nat) (D:List Ng) (V:List Nat) (nO:Option Addr) (nC:Nat) (vo:Option Addr) (vc:Nat) (fr:Nat→Nat) (TT:Nat→Za.U) (P:Nat→Prop) (G:List Gl) (po:Option Addr) (pc:Nat) (N ns:List (List UInt8)) (items:List Za.aC) (o:Option Addr) (n c:Nat) (h:gu P w mb 1 cs 91 cb D V nO nC vo vc fr TT) (hm:cG w mb cs D nO nC fr G po pc) (I9:∀g∈G,∀k,rowOf g.no k→¬rowOf vo k) (hP:∀g,w.heap.size≤g→P g) (hit:bW N w o n items) (hok:∀x∈items,Za.td x) (hl:V.length=ns.length) (hN:∃M,N=Za.ay ns items++M) (hNl:N.length≤100000) (hil:items.length≤100) (hD:D.length+4000000≤1000000000) (hGl:G.length≤1000000):
 Calls Tryz.prog 42 #[.pointer (some ⟨mb,0,none⟩),.slice o n c,.pointer (some ⟨cb,0,none⟩)] w fun e w'=>e= .returned (.tuple #[])∧∃(E:List Ng) (F:List Nat) (no':Option Addr) (nc':Nat) (vo':Option Addr) (vc':Nat) (T':Nat→Za.U) (Gn:List Gl) (po':Option Addr) (pc':Nat),Ca P w mb cs cb D V nO vo fr TT G po N ns items E F no' nc' vo' vc' T' Gn po' pc' w':=by
 obtain⟨rfl,hit⟩:=hit
 have HST:=hide (show Uj P w mb cs cb D V nO vo fr TT G po N ns items items.length (.int .i64 0) w from by
  refine⟨0,[],[],nO,nC,vo,vc,TT,[],po,pc,by omega,rfl,⟨?_,?_,by simpa using I9,fun _ _=>rfl,(fun i d hd=>by simp at hd),fA.nil _ _,by simpa [Za.ay] using hl,trivial,by simp,⟨rfl,rfl,rfl,Nat.le_refl _,fun _ _ _=>rfl,fun _ q=>Or.inl q⟩⟩⟩
  ·simp only[List.append_nil]
   rw[lO h.ad.st.cel,lO hm.c3]
   exact h
  ·simp only[List.append_nil]
   rw[lO h.ad.st.cel,lO hm.c3]
   exact hm)
 have HIT:=hide hit
 have HB:=hide h
 have HM:=hide hm
 have qy:=hide hok
 have HN:=hide hN
 have QD:=hide hNl
 have Uk:=hide hil
 have HD:=hide hD
 have Ia:=hide hGl
 have HP:=hide hP
 obtain⟨ti,hi,vE,vF,sM⟩:=info_parts infoGoal
 clear h hm I9 hP hit hok hl hN hNl hD hGl
 go_enter Tryz.func42,Tryz.ntmps42
 go_wp2_with fail
 go_loopg [11] items.length (fun k iv wr=>Uj P w mb cs cb D V nO vo fr TT G po N ns items k iv wr)
 case atStart=>exact ae HST
 case round=>
  clear HST
  obtain⟨j,E,F,no1,nc1,vo1,vc1,T1,Gn,po1,pc1,hkj,rfl,hjo⟩:=hrel
  by_cases hlt:j<items.length
  ·obtain⟨g,vs,ics,QE,hcs,htk,hall⟩:=ae HIT (fun q=>by rw[q]at hlt;simp at hlt)
   subst QE
   have ko:j<vs.length:=by have:=hall.length;omega
   have hcw:wr.heap[g]?=some (.cells ics 151 (0,0)):=(hjo.fg.block g (af hcs) (zG (ae HB).ad (ae HM) hcs (by decide) (by decide) (by decide) (by decide) (by decide))).trans hcs
   have fc:∀i,i<14→wr.cell? ⟨g,j*14+i,none⟩=(pO vs[j])[i]?:=fun i hi=>by
    rw[ag hcw,←Array.getElem?_toList,←Qp ko i hi,←htk,List.getElem?_take_of_lt (by omega)]
   have hir:=(hall.at j ko hlt).fr hjo.fg (fun g ys hg=>zG (ae HB).ad (ae HM) hg (by decide) (by decide) (by decide) (by decide) (by decide))
   have Lb:=ae qy _ (List.getElem_mem hlt)
   obtain⟨M,hM⟩:=ae HN
   have htake:items.take (j+1)=items.take j++[items[j]]:=by rw[List.take_add_one,List.getElem?_eq_getElem hlt];rfl
   have hNj:∃K,N=Za.ay ns (items.take j)++K:=by
    obtain⟨K,hK⟩:=Za.jF (items.drop j) (Za.ay ns (items.take j))
    refine⟨K++M,?_⟩
    rw[hM,←List.append_assoc,←hK]
    unfold Za.ay
    rw[←List.foldl_append,List.take_append_drop]
   have hNj1:∃K,N=Za.aK (Za.ay ns (items.take j)) items[j]++K:=by
    obtain⟨K,hK⟩:=Za.jF (items.drop (j+1)) (Za.ay ns (items.take (j+1)))
    refine⟨K++M,?_⟩
    have e:Za.aK (Za.ay ns (items.take j)) items[j]=Za.ay ns (items.take (j+1)):=by
     rw[htake]
     unfold Za.ay
     rw[List.foldl_append]
     rfl
    rw[e,hM,←List.append_assoc,←hK]
    unfold Za.ay
    rw[←List.foldl_append,List.take_append_drop]
   have rK:=hide htake
   have QF:=hide hNj
   have Lc:=hide hNj1
   have hDl:(D++E).length+2000000≤1000000000:=by
    have q1:=hjo.el
    have q2:=ae HD
    have q3:=ae Uk
    have q4:(items.take j).length≤100:=by rw[List.length_take];omega
    have q5:(items.take j).length*19683≤100*19683:=Nat.mul_le_mul_right _ q4
    rw[List.length_append]
    omega
   have hGG:(G++Gn).length≤1000100:=by
    have q1:=hjo.gl.length
    have q2:=ae Ia
    have q3:=ae Uk
    have q4:(items.take j).length≤100:=by rw[List.length_take];omega
    rw[List.length_append]
    omega
   have f0:=fc 0 (by omega)
   have f1:=fc 1 (by omega)
   have f2:=fc 2 (by omega)
   have f3:=fc 3 (by omega)
   have f4:=fc 4 (by omega)
   have f5:=fc 5 (by omega)
   have f6:=fc 6 (by omega)
   have f7:=fc 7 (by omega)
   have f8:=fc 8 (by omega)
   have f9:=fc 9 (by omega)
   have f10:=fc 10 (by omega)
   have f11:=fc 11 (by omega)
   have f12:=fc 12 (by omega)
   have f13:=fc 13 (by omega)
   simp only[pO,List.getElem?_cons_zero,List.getElem?_cons_succ,Nat.add_zero]at f0 f1 f2 f3 f4 f5 f6 f7 f8 f9 f10 f11 f12 f13
   have gz:=af hcw
   have i0:(0:Int)≤(j:Int):=by omega
   have i1:(j:Int)<(items.length:Int):=by omega
   generalize vs[j]=v at*
   have HX:=hide (show items[j]∈items from List.getElem_mem hlt)
   generalize items[j]=x at*
   obtain⟨⟨ak0,av0,ax0,ao0,an0,ac0⟩,⟨bk0,bv0,bx0,bo0,bn0,bc0⟩,⟨ck0,cv0,cx0,co0,cn0,cc0⟩,sg,op⟩:=v
   dsimp only at f0 f1 f2 f3 f4 f5 f6 f7 f8 f9 f10 f11 f12 f13
   have hjm:JM P wr mb ((cs.setIfInBounds 1 (.slice no1 (D++E).length nc1)).setIfInBounds 3 (.slice po1 (G++Gn).length pc1)) cb (D++E) (V++F) no1 vo1 fr T1 #[.int .i64 ak0,.int .i64 av0,.string ax0,.slice ao0 an0 ac0,.string sg,.int .i64 bk0,.int .i64 bv0,.string bx0,.slice bo0 bn0 bc0,.string op,.int .i64 ck0,.int .i64 cv0,.string cx0,.slice co0 cn0 cc0] #[.int .i64 0,.string sg,.int .i64 (-1),.string op,.int .i64 (-1),.bool false,.slice none 0 0] (Za.ay ns (items.take j)) [] [] no1 nc1 vo1 vc1 T1 ((wr.alloc (.cells #[.int .i64 ak0,.int .i64 av0,.string ax0,.slice ao0 an0 ac0,.string sg,.int .i64 bk0,.int .i64 bv0,.string bx0,.slice bo0 bn0 bc0,.string op,.int .i64 ck0,.int .i64 cv0,.string cx0,.slice co0 cn0 cc0] 151)).alloc (.cells #[.int .i64 0,.string sg,.int .i64 (-1),.string op,.int .i64 (-1),.bool false,.slice none 0 0] 158)):=by
    have hb:=((Below.refl wr.heap.size wr).alloc (Nat.le_refl _) (.cells #[.int .i64 ak0,.int .i64 av0,.string ax0,.slice ao0 an0 ac0,.string sg,.int .i64 bk0,.int .i64 bv0,.string bx0,.slice bo0 bn0 bc0,.string op,.int .i64 ck0,.int .i64 cv0,.string cx0,.slice co0 cn0 cc0] 151)).alloc (by simp) (.cells #[.int .i64 0,.string sg,.int .i64 (-1),.string op,.int .i64 (-1),.bool false,.slice none 0 0] 158)
    refine⟨?_,fun _ _=>rfl,(fun i d hd=>by simp at hd),fA.nil _ _,by simpa using hjo.ln,aj.of_below hb,aw (heap_alloc_new wr _) _,?_⟩
    ·have:=hjo.ms.below hb
     simp only[List.append_nil]
     rw[lO (hjo.ms.ad.st.cel)]
     exact this
    ·have:=heap_alloc_new (wr.alloc (.cells #[.int .i64 ak0,.int .i64 av0,.string ax0,.slice ao0 an0 ac0,.string sg,.int .i64 bk0,.int .i64 bv0,.string bx0,.slice bo0 bn0 bc0,.string op,.int .i64 ck0,.int .i64 cv0,.string cx0,.slice co0 cn0 cc0] 151)) (.cells #[.int .i64 0,.string sg,.int .i64 (-1),.string op,.int .i64 (-1),.bool false,.slice none 0 0] 158)
     rw[World.size_alloc]at this
     exact this
   have hnames1:∃K,N=Za.namesF 8 (Za.ay ns (items.take j)) x.left++K:=by
    obtain⟨K,hK⟩:=ae Lc
    obtain⟨K1,h1⟩:=lj x.right (Za.namesF 8 (Za.ay ns (items.take j)) x.left)
    obtain⟨K2,h2⟩:=lj x.last (Za.cg (Za.namesF 8 (Za.ay ns (items.take j)) x.left) x.right)
    refine⟨K1++(K2++K),?_⟩
    rw[hK]
    unfold Za.aK
    rw[h2,h1]
    simp
   have IA:=hide (fun W (hu:Below (wr.heap.size+2) ((wr.alloc (.cells #[.int .i64 ak0,.int .i64 av0,.string ax0,.slice ao0 an0 ac0,.string sg,.int .i64 bk0,.int .i64 bv0,.string bx0,.slice bo0 bn0 bc0,.string op,.int .i64 ck0,.int .i64 cv0,.string cx0,.slice co0 cn0 cc0] 151)).alloc (.cells #[.int .i64 0,.string sg,.int .i64 (-1),.string op,.int .i64 (-1),.bool false,.slice none 0 0] 158)) W)=>La (hjm.below (hu.mono (by simp))) (fun g hg=>ae HP g (Nat.le_trans hjo.fg.size hg)) (a:=⟨ak0,av0,ax0,ao0,an0,ac0⟩) ((hjm.below (hu.mono (by simp))).ra hjo.ms.ad hir.left) Lb.wl hnames1 (by simp only[List.append_nil];omega) (ae QD))
   have mr:=hide hir
   have vP:=hide Lb
   have rN:=hide hjo
   have Bv:=hide hDl
   have aY:=hide hlt
   have aP:=hide hkj
   have mz:=af hjo.mc.st.blk
   have mne:mb≠wr.heap.size:=by omega
   have mne2:mb≠wr.heap.size+1:=by omega
   have Ea:=hide hnames1
   clear hjo hjm hcs hcw htk hall ko fc hir Lb hM htake hNj hNj1 hDl hkj hnames1
   go_wp2_with fail
   go_region_with (go_at_call 54;refine(ae IA _ (by first | exact Below.refl _ _ | exact(Below.refl _ _).drew | exact(Below.refl _ _).drew.drew | exact(Below.refl _ _).drew.drew.drew)).mono ?_;rintro y w2 ⟨n1,E1,F1,no2,nc2,vo2,vc2,T2,rfl,jm2,nl2,tn2,old2,el2⟩;have e2:=ag jm2.bm 0;have x2:=aq jm2.bm 0;have ez2:=af jm2.bm;simp only[List.getElem?_toArray,List.getElem?_cons_zero]at e2)
   have jm3:JM P wr mb ((cs.setIfInBounds 1 (.slice no1 (D++E).length nc1)).setIfInBounds 3 (.slice po1 (G++Gn).length pc1)) cb (D++E) (V++F) no1 vo1 fr T1 #[.int .i64 ak0,.int .i64 av0,.string ax0,.slice ao0 an0 ac0,.string sg,.int .i64 bk0,.int .i64 bv0,.string bx0,.slice bo0 bn0 bc0,.string op,.int .i64 ck0,.int .i64 cv0,.string cx0,.slice co0 cn0 cc0] #[.int .i64 (n1:Int),.string sg,.int .i64 (-1),.string op,.int .i64 (-1),.bool false,.slice none 0 0] (Za.namesF 8 (Za.ay ns (items.take j)) x.left) ([]++E1) ([]++F1) no2 nc2 vo2 vc2 T2 _:=jm2.set 0 (.int .i64 (n1:Int))
   generalize hw2:(w2.setCell ⟨wr.heap.size+1,0,none⟩ (.int .i64 (n1:Int)))=W2 at*
   clear hw2 jm2 e2 x2 ez2
   have ia4:=ag jm3.bi 4
   have iz:=af jm3.bi
   have zm:=af jm3.bm
   simp only[List.getElem?_toArray,List.getElem?_cons_zero,List.getElem?_cons_succ]at ia4
   by_cases aU:x.sign=[]
   ·have hop:x.op=[]:=Classical.byContradiction fun q=>(ae vP).sz q aU
    have zu:=(ae vP).r0 aU
    have Ce:=(ae vP).z0 hop
    have t1:(sg.toList == [])=true:=by rw[(ae mr).sign,aU];rfl
    have t2:(sg.toList != [])=false:=by rw[(ae mr).sign,aU];rfl
    have t3:(op.toList == [])=true:=by rw[(ae mr).op,hop];rfl
    have t4:(op.toList != [])=false:=by rw[(ae mr).op,hop];rfl
    have kj:Za.aK (Za.ay ns (items.take j)) x=Za.namesF 8 (Za.ay ns (items.take j)) x.left:=by unfold Za.aK;rw[zu,Ce];rfl
    rw[←kj]at jm3
    have ia9:=ag jm3.bi 9
    have ma0:=ag jm3.bm 0
    have ma1:=ag jm3.bm 1
    have ma2:=ag jm3.bm 2
    have ma3:=ag jm3.bm 3
    have ma4:=ag jm3.bm 4
    have ma5:=ag jm3.bm 5
    have ma6:=ag jm3.bm 6
    have iz:=af jm3.bi
    have zm:=af jm3.bm
    simp only[List.getElem?_toArray,List.getElem?_cons_zero,List.getElem?_cons_succ]at ia9 ma0 ma1 ma2 ma3 ma4 ma5 ma6
    have hgl:=(show mq T2 ((D++E)++([]++E1)).length (cH T2 ((V++F)++([]++F1)) N) x ⟨n1,sg,(-1),op,(-1),false,none,0,[]⟩from ⟨(ae mr).sign,(ae mr).op,nl2,tn2,fun _=>rfl,(fun r q=>by rw[zu]at q;cases q),fun _=>rfl,(fun z q=>by rw[Ce]at q;cases q),rfl,rfl,rfl,rfl⟩)
    have hel:_:=(show ([]++E1).length≤19683 by simp only[List.nil_append];omega)
    have QG:=hide hgl
    have MQ:=hide hel
    obtain⟨cs2,fw⟩:=cG.Cb (ae rN) jm3
    have f3':=(ag fw.st.blk 3).trans fw.c3
    have mz':=af fw.st.blk
    have xD:=hide (fun Y (hu:Below W2.heap.size W2 Y)=>(fw.below hu).pool)
    have gK:=hide (show some mb≠(Value.slice po1 (G++Gn).length pc1).ownBlock from bP (aN fw.pool fw.st.blk (by decide)))
    have Ul:=hide fw.st.blk
    have Cf:=hide (fun W' w7 g' cap' a1 a2 a3 a4=>(ae rN).next jm3 hgl hel (fun x hx=>ae qy x (List.mem_of_mem_take hx)) (ae QF) (W':=W') (w7:=w7) (g':=g') (cap':=cap') a1 a2 a3 a4)
    clear hgl hel fw jm3 kj zu Ce aU hop
    generalize hGN:G++Gn=GG at*
    clear hGN
    go_wp2_with fail
    go_region_law (refine step_append_lies _ (by rfl) _ _ _ (by rfl) 0 158 ti _ 7 88 Tryz.underlying89 hi vE vF sM rfl (by omega) (.slice po1 GG.length pc1) GG.length (GG.flatMap fG) (by rfl) ((ae xD _ (by first | exact Below.refl _ _ | exact(Below.refl _ _).drew)).alloc _) ⟨W2.heap.size,0,none⟩ 1 1 [.int .i64 (n1:Int),.string sg,.int .i64 (-1),.string op,.int .i64 (-1),.bool false,.slice none 0 0] (by rfl) (by rfl) (World.news_of_block (cs:=#[.int .i64 (n1:Int),.string sg,.int .i64 (-1),.string op,.int .i64 (-1),.bool false,.slice none 0 0]) (t:=158) (fr:=(0,0)) (heap_alloc_new _ _)) (by simp[Value.oneCell']) (by omega) (by unfold maxLen;omega) (by omega) (Nat.zero_le _) (W2.heap.size+1) (by simp) ?_;intro g' cap' w7 hown1 hgrow hat iX;have m0:=(hgrow.cell_far ⟨mb,3,none⟩ (by simp;omega) (ae gK)).trans ((World.cell?_alloc_past _ _ _ (by first | exact mz' | simp;omega)).trans f3');have jM:=hide (ae Cf _ _ _ _ (((Below.refl _ _).drew).alloc (Nat.le_refl _) _) (show w7.ownsRow _ _ _ _ _ (_++[_,_,_,_,_,_,_])from hown1) hgrow (by rcases hat with q | q;exact Or.inl (aD q);(right;omega)));have k9:w7.frozen? ⟨mb,3,none⟩=false:=(by have:=aq (ae jM).mc.st.blk 3;rwa [World.frozen?_setCell]at this);have zz7:mb<w7.heap.size:=(by have:=af (ae jM).mc.st.blk;rwa [cC]at this);clear hown1 hgrow hat iX)
    all_goals
     go_wp2_with fail
     go_roundg (gk - 1)
     case measure=>have:=ae aP;have:=ae aY;omega
     case rel=>exact⟨j+1,_,_,_,_,_,_,_,_,_,_,by have:=ae aP;have:=ae aY;omega,by go_num,by rw[ae rK];exact ae jM⟩
   ·obtain⟨r,hr,wfr⟩:=(ae vP).r1 aU
    have t1:(sg.toList == [])=false:=by rw[(ae mr).sign];simpa using aU
    have t2:(sg.toList != [])=true:=by rw[(ae mr).sign];simpa using aU
    obtain⟨M1,hM1⟩:=ae Ea
    have M0:=hide (fun(T3:Nat→Za.U) (F2:List Nat) (he:∀m,m<(D++E++([]++E1)).length→T3 m=T2 m)=>lV (F:=F2) (ae vP).wl tn2 nl2 (fun y hy=>hy) hM1 jm3.ln jm3.ms.lt he)
    have hnames2:∃K,N=Za.namesF 8 (Za.namesF 8 (Za.ay ns (items.take j)) x.left) r++K:=by
     obtain⟨K,hK⟩:=ae Lc
     obtain⟨K2,h2⟩:=lj x.last (Za.cg (Za.namesF 8 (Za.ay ns (items.take j)) x.left) x.right)
     refine⟨K2++K,?_⟩
     rw[hK]
     unfold Za.aK
     rw[h2,hr,List.append_assoc]
     rfl
    have ia5:=ag jm3.bi 5
    have ia6:=ag jm3.bi 6
    have ia7:=ag jm3.bi 7
    have ia8:=ag jm3.bi 8
    have iz:=af jm3.bi
    have zm:=af jm3.bm
    simp only[List.getElem?_toArray,List.getElem?_cons_zero,List.getElem?_cons_succ]at ia5 ia6 ia7 ia8
    have IB:=hide (fun Y (hu:Below W2.heap.size W2 Y)=>La (jm3.below hu) (fun g hg=>ae HP g (Nat.le_trans (ae rN).fg.size hg)) (a:=⟨bk0,bv0,bx0,bo0,bn0,bc0⟩) ((jm3.below hu).ra (ae rN).ms.ad ((ae mr).right r hr)) wfr hnames2 (by have:=ae Bv;simp only[List.nil_append,List.length_append]at this⊢;omega) (ae QD))
    have QH:=hide nl2
    have Ld:=hide el2
    have sI:=hide hnames2
    have M4:=hide hr
    have Vq:=hide wfr
    have jw:=hide aU
    clear jm3 tn2 nl2 old2 el2 hM1 hnames2 hr wfr aU
    go_wp2_with fail
    go_region_with (go_at_call 54;refine(ae IB _ (by first | exact Below.refl _ _ | exact(Below.refl _ _).drew | exact(Below.refl _ _).drew.drew | exact(Below.refl _ _).drew.drew.drew)).mono ?_;rintro y w3 ⟨n2,E2,F2,no3,nc3,vo3,vc3,T3,rfl,jm4,nl3,tn3,old3,el3⟩;have e3:=ag jm4.bm 2;have x3:=aq jm4.bm 2;have ez3:=af jm4.bm;simp only[List.getElem?_toArray,List.getElem?_cons_zero,List.getElem?_cons_succ]at e3)
    have jm5:JM P wr mb ((cs.setIfInBounds 1 (.slice no1 (D++E).length nc1)).setIfInBounds 3 (.slice po1 (G++Gn).length pc1)) cb (D++E) (V++F) no1 vo1 fr T1 #[.int .i64 ak0,.int .i64 av0,.string ax0,.slice ao0 an0 ac0,.string sg,.int .i64 bk0,.int .i64 bv0,.string bx0,.slice bo0 bn0 bc0,.string op,.int .i64 ck0,.int .i64 cv0,.string cx0,.slice co0 cn0 cc0] #[.int .i64 (n1:Int),.string sg,.int .i64 (n2:Int),.string op,.int .i64 (-1),.bool false,.slice none 0 0] (Za.namesF 8 (Za.namesF 8 (Za.ay ns (items.take j)) x.left) r) ([]++E1++E2) ([]++F1++F2) no3 nc3 vo3 vc3 T3 _:=jm4.set 2 (.int .i64 (n2:Int))
    generalize hw3:(w3.setCell ⟨wr.heap.size+1,2,none⟩ (.int .i64 (n2:Int)))=W3 at*
    clear hw3 jm4 e3 x3 ez3
    clear IB ia4 ia5 ia6 ia7 ia8
    have ia9:=ag jm5.bi 9
    have iz:=af jm5.bi
    have zm:=af jm5.bm
    simp only[List.getElem?_toArray,List.getElem?_cons_zero,List.getElem?_cons_succ]at ia9
    by_cases hop:x.op=[]
    ·have Ce:=(ae vP).z0 hop
     have t3:(op.toList == [])=true:=by rw[(ae mr).op,hop];rfl
     have t4:(op.toList != [])=false:=by rw[(ae mr).op,hop];rfl
     have kj:Za.aK (Za.ay ns (items.take j)) x=Za.namesF 8 (Za.namesF 8 (Za.ay ns (items.take j)) x.left) r:=by unfold Za.aK;rw[ae M4,Ce];rfl
     rw[←kj]at jm5
     have ia9:=ag jm5.bi 9
     have ma0:=ag jm5.bm 0
     have ma1:=ag jm5.bm 1
     have ma2:=ag jm5.bm 2
     have ma3:=ag jm5.bm 3
     have ma4:=ag jm5.bm 4
     have ma5:=ag jm5.bm 5
     have ma6:=ag jm5.bm 6
     have iz:=af jm5.bi
     have zm:=af jm5.bm
     simp only[List.getElem?_toArray,List.getElem?_cons_zero,List.getElem?_cons_succ]at ia9 ma0 ma1 ma2 ma3 ma4 ma5 ma6
     have hgl:=(show mq T3 ((D++E)++([]++E1++E2)).length (cH T3 ((V++F)++([]++F1++F2)) N) x ⟨n1,sg,(n2:Int),op,(-1),false,none,0,[]⟩from ⟨(ae mr).sign,(ae mr).op,(by have:=ae QH;simp only[List.nil_append,List.length_append]at this⊢;omega),(by have:=ae M0 T3 F2 old3;rwa [List.append_assoc (V++F)]at this),(fun q=>absurd q (ae jw)),(fun r' q=>by rw[ae M4]at q;cases q;exact⟨n2,rfl,nl3,tn3⟩),fun _=>rfl,(fun z q=>by rw[Ce]at q;cases q),rfl,rfl,rfl,rfl⟩)
     have hel:_:=(show ([]++E1++E2).length≤19683 by have:=ae Ld;simp only[List.nil_append,List.length_append];omega)
     have QG:=hide hgl
     have MQ:=hide hel
     obtain⟨cs2,fw⟩:=cG.Cb (ae rN) jm5
     have f3':=(ag fw.st.blk 3).trans fw.c3
     have mz':=af fw.st.blk
     have xD:=hide (fun Y (hu:Below W3.heap.size W3 Y)=>(fw.below hu).pool)
     have gK:=hide (show some mb≠(Value.slice po1 (G++Gn).length pc1).ownBlock from bP (aN fw.pool fw.st.blk (by decide)))
     have Ul:=hide fw.st.blk
     have Cf:=hide (fun W' w7 g' cap' a1 a2 a3 a4=>(ae rN).next jm5 hgl hel (fun x hx=>ae qy x (List.mem_of_mem_take hx)) (ae QF) (W':=W') (w7:=w7) (g':=g') (cap':=cap') a1 a2 a3 a4)
     clear hgl hel fw jm5 kj Ce hop
     generalize hGN:G++Gn=GG at*
     clear hGN
     go_wp2_with fail
     go_region_law (refine step_append_lies _ (by rfl) _ _ _ (by rfl) 0 158 ti _ 7 88 Tryz.underlying89 hi vE vF sM rfl (by omega) (.slice po1 GG.length pc1) GG.length (GG.flatMap fG) (by rfl) ((ae xD _ (by first | exact Below.refl _ _ | exact(Below.refl _ _).drew)).alloc _) ⟨W3.heap.size,0,none⟩ 1 1 [.int .i64 (n1:Int),.string sg,.int .i64 (n2:Int),.string op,.int .i64 (-1),.bool false,.slice none 0 0] (by rfl) (by rfl) (World.news_of_block (cs:=#[.int .i64 (n1:Int),.string sg,.int .i64 (n2:Int),.string op,.int .i64 (-1),.bool false,.slice none 0 0]) (t:=158) (fr:=(0,0)) (heap_alloc_new _ _)) (by simp[Value.oneCell']) (by omega) (by unfold maxLen;omega) (by omega) (Nat.zero_le _) (W3.heap.size+1) (by simp) ?_;intro g' cap' w7 hown1 hgrow hat iX;have m0:=(hgrow.cell_far ⟨mb,3,none⟩ (by simp;omega) (ae gK)).trans ((World.cell?_alloc_past _ _ _ (by first | exact mz' | simp;omega)).trans f3');have jM:=hide (ae Cf _ _ _ _ (((Below.refl _ _).drew).alloc (Nat.le_refl _) _) (show w7.ownsRow _ _ _ _ _ (_++[_,_,_,_,_,_,_])from hown1) hgrow (by rcases hat with q | q;exact Or.inl (aD q);(right;omega)));have k9:w7.frozen? ⟨mb,3,none⟩=false:=(by have:=aq (ae jM).mc.st.blk 3;rwa [World.frozen?_setCell]at this);have zz7:mb<w7.heap.size:=(by have:=af (ae jM).mc.st.blk;rwa [cC]at this);clear hown1 hgrow hat iX)
     all_goals
      go_wp2_with fail
      go_roundg (gk - 1)
      case measure=>have:=ae aP;have:=ae aY;omega
      case rel=>exact⟨j+1,_,_,_,_,_,_,_,_,_,_,by have:=ae aP;have:=ae aY;omega,by go_num,by rw[ae rK];exact ae jM⟩
    ·obtain⟨z,hz,wfz⟩:=(ae vP).z1 hop
     have t3:(op.toList == [])=false:=by rw[(ae mr).op];simpa using hop
     have t4:(op.toList != [])=true:=by rw[(ae mr).op];simpa using hop
     obtain⟨M2,hM2⟩:=ae sI
     have QI:=hide (fun(T4:Nat→Za.U) (F3:List Nat) (he:∀m,m<(D++E++([]++E1++E2)).length→T4 m=T3 m)=>lV (F:=F3) (ae Vq) tn3 nl3 (fun y hy=>hy) hM2 jm5.ln jm5.ms.lt he)
     have kj:Za.aK (Za.ay ns (items.take j)) x=Za.namesF 8 (Za.namesF 8 (Za.namesF 8 (Za.ay ns (items.take j)) x.left) r) z:=by unfold Za.aK;rw[ae M4,hz];rfl
     have hnames3:∃K,N=Za.namesF 8 (Za.namesF 8 (Za.namesF 8 (Za.ay ns (items.take j)) x.left) r) z++K:=by
      obtain⟨K,hK⟩:=ae Lc
      rw[kj]at hK
      exact⟨K,hK⟩
     have ia10:=ag jm5.bi 10
     have ia11:=ag jm5.bi 11
     have ia12:=ag jm5.bi 12
     have ia13:=ag jm5.bi 13
     have iz:=af jm5.bi
     have zm:=af jm5.bm
     simp only[List.getElem?_toArray,List.getElem?_cons_zero,List.getElem?_cons_succ]at ia10 ia11 ia12 ia13
     have IC:=hide (fun Y (hu:Below W3.heap.size W3 Y)=>La (jm5.below hu) (fun g hg=>ae HP g (Nat.le_trans (ae rN).fg.size hg)) (a:=⟨ck0,cv0,cx0,co0,cn0,cc0⟩) ((jm5.below hu).ra (ae rN).ms.ad ((ae mr).last z hz)) wfz hnames3 (by have:=ae Bv;have:=ae Ld;simp only[List.nil_append,List.length_append]at*;omega) (ae QD))
     have Te:=hide old3
     have Le:=hide nl3
     have Vs:=hide el3
     have gK:=hide kj
     have W9:=hide hz
     have QJ:=hide hop
     clear jm5 tn3 nl3 old3 el3 hM2 hnames3 kj hz wfz hop
     go_wp2_with fail
     go_region_with (go_at_call 54;refine(ae IC _ (by first | exact Below.refl _ _ | exact(Below.refl _ _).drew | exact(Below.refl _ _).drew.drew | exact(Below.refl _ _).drew.drew.drew)).mono ?_;rintro y w4 ⟨n3,E3,F3,no4,nc4,vo4,vc4,T4,rfl,jm6,nl4,tn4,old4,el4⟩;have e4:=ag jm6.bm 4;have x4:=aq jm6.bm 4;have ez4:=af jm6.bm;simp only[List.getElem?_toArray,List.getElem?_cons_zero,List.getElem?_cons_succ]at e4)
     have jm7:JM P wr mb ((cs.setIfInBounds 1 (.slice no1 (D++E).length nc1)).setIfInBounds 3 (.slice po1 (G++Gn).length pc1)) cb (D++E) (V++F) no1 vo1 fr T1 #[.int .i64 ak0,.int .i64 av0,.string ax0,.slice ao0 an0 ac0,.string sg,.int .i64 bk0,.int .i64 bv0,.string bx0,.slice bo0 bn0 bc0,.string op,.int .i64 ck0,.int .i64 cv0,.string cx0,.slice co0 cn0 cc0] #[.int .i64 (n1:Int),.string sg,.int .i64 (n2:Int),.string op,.int .i64 (n3:Int),.bool false,.slice none 0 0] (Za.namesF 8 (Za.namesF 8 (Za.namesF 8 (Za.ay ns (items.take j)) x.left) r) z) ([]++E1++E2++E3) ([]++F1++F2++F3) no4 nc4 vo4 vc4 T4 _:=jm6.set 4 (.int .i64 (n3:Int))
     generalize hw4:(w4.setCell ⟨wr.heap.size+1,4,none⟩ (.int .i64 (n3:Int)))=W4 at*
     clear hw4 jm6 e4 x4 ez4
     clear IC ia9 ia10 ia11 ia12 ia13
     rw[←ae gK]at jm7
     clear gK
     have ia9:=ag jm7.bi 9
     have ma0:=ag jm7.bm 0
     have ma1:=ag jm7.bm 1
     have ma2:=ag jm7.bm 2
     have ma3:=ag jm7.bm 3
     have ma4:=ag jm7.bm 4
     have ma5:=ag jm7.bm 5
     have ma6:=ag jm7.bm 6
     have iz:=af jm7.bi
     have zm:=af jm7.bm
     simp only[List.getElem?_toArray,List.getElem?_cons_zero,List.getElem?_cons_succ]at ia9 ma0 ma1 ma2 ma3 ma4 ma5 ma6
     have hgl:=(show mq T4 ((D++E)++([]++E1++E2++E3)).length (cH T4 ((V++F)++([]++F1++F2++F3)) N) x ⟨n1,sg,(n2:Int),op,(n3:Int),false,none,0,[]⟩from ⟨(ae mr).sign,(ae mr).op,(by have:=ae QH;simp only[List.nil_append,List.length_append]at this⊢;omega),(by have:=ae M0 T4 (F2++F3) (fun m hm=>(old4 m (by simp only[List.nil_append,List.length_append]at hm⊢;omega)).trans (ae Te m hm));rwa [List.append_assoc (V++F),←List.append_assoc ([]++F1)]at this),(fun q=>absurd q (ae jw)),(fun r' q=>by rw[ae M4]at q;cases q;exact⟨n2,rfl,(by have:=ae Le;simp only[List.nil_append,List.length_append]at this⊢;omega),(by have:=ae QI T4 F3 old4;rwa [List.append_assoc (V++F)]at this)⟩),(fun q=>absurd q (ae QJ)),(fun z' q=>by rw[ae W9]at q;cases q;exact⟨n3,rfl,nl4,tn4⟩),rfl,rfl,rfl,rfl⟩)
     have hel:_:=(show ([]++E1++E2++E3).length≤19683 by have:=ae Ld;have:=ae Vs;simp only[List.nil_append,List.length_append];omega)
     have QG:=hide hgl
     have MQ:=hide hel
     obtain⟨cs2,fw⟩:=cG.Cb (ae rN) jm7
     have f3':=(ag fw.st.blk 3).trans fw.c3
     have mz':=af fw.st.blk
     have xD:=hide (fun Y (hu:Below W4.heap.size W4 Y)=>(fw.below hu).pool)
     have gK:=hide (show some mb≠(Value.slice po1 (G++Gn).length pc1).ownBlock from bP (aN fw.pool fw.st.blk (by decide)))
     have Ul:=hide fw.st.blk
     have Cf:=hide (fun W' w7 g' cap' a1 a2 a3 a4=>(ae rN).next jm7 hgl hel (fun x hx=>ae qy x (List.mem_of_mem_take hx)) (ae QF) (W':=W') (w7:=w7) (g':=g') (cap':=cap') a1 a2 a3 a4)
     clear hgl hel fw jm7
     generalize hGN:G++Gn=GG at*
     clear hGN
     go_wp2_with fail
     go_region_law (refine step_append_lies _ (by rfl) _ _ _ (by rfl) 0 158 ti _ 7 88 Tryz.underlying89 hi vE vF sM rfl (by omega) (.slice po1 GG.length pc1) GG.length (GG.flatMap fG) (by rfl) ((ae xD _ (by first | exact Below.refl _ _ | exact(Below.refl _ _).drew)).alloc _) ⟨W4.heap.size,0,none⟩ 1 1 [.int .i64 (n1:Int),.string sg,.int .i64 (n2:Int),.string op,.int .i64 (n3:Int),.bool false,.slice none 0 0] (by rfl) (by rfl) (World.news_of_block (cs:=#[.int .i64 (n1:Int),.string sg,.int .i64 (n2:Int),.string op,.int .i64 (n3:Int),.bool false,.slice none 0 0]) (t:=158) (fr:=(0,0)) (heap_alloc_new _ _)) (by simp[Value.oneCell']) (by omega) (by unfold maxLen;omega) (by omega) (Nat.zero_le _) (W4.heap.size+1) (by simp) ?_;intro g' cap' w7 hown1 hgrow hat iX;have m0:=(hgrow.cell_far ⟨mb,3,none⟩ (by simp;omega) (ae gK)).trans ((World.cell?_alloc_past _ _ _ (by first | exact mz' | simp;omega)).trans f3');have jM:=hide (ae Cf _ _ _ _ (((Below.refl _ _).drew).alloc (Nat.le_refl _) _) (show w7.ownsRow _ _ _ _ _ (_++[_,_,_,_,_,_,_])from hown1) hgrow (by rcases hat with q | q;exact Or.inl (aD q);(right;omega)));have k9:w7.frozen? ⟨mb,3,none⟩=false:=(by have:=aq (ae jM).mc.st.blk 3;rwa [World.frozen?_setCell]at this);have zz7:mb<w7.heap.size:=(by have:=af (ae jM).mc.st.blk;rwa [cC]at this);clear hown1 hgrow hat iX)
     all_goals
      go_wp2_with fail
      go_roundg (gk - 1)
      case measure=>have:=ae aP;have:=ae aY;omega
      case rel=>exact⟨j+1,_,_,_,_,_,_,_,_,_,_,by have:=ae aP;have:=ae aY;omega,by go_num,by rw[ae rK];exact ae jM⟩
  ·obtain rfl:j=items.length:=by omega
   rw[List.take_length]at hjo
   have rN:=hide hjo
   clear hjo hkj
   go_wp2_with fail
   go_end0
   exact⟨rfl,_,_,_,_,_,_,_,_,_,_,ae rN⟩
theorem zD.int {mb:Nat} {cs:Array Value} {D:List Ng} {nO:Option Addr} {nC:Nat} {fr:Nat→Nat} {TT:Nat→Za.U} {G:List Gl} {i a b:Nat} {w:World} {e:Ending} {w':World} (h:zD mb cs D nO nC fr TT G i a b w e w'):∃z:Int,e= .returned (.int .i64 z):=by
 rcases h with⟨_,_,_,_,_,_,rfl,_⟩ | ⟨_,rfl,_⟩
 ·exact⟨_,rfl⟩
 ·exact⟨_,rfl⟩
theorem sZ.int {mb:Nat} {cs:Array Value} {D:List Ng} {nO:Option Addr} {nC:Nat} {fr:Nat→Nat} {TT:Nat→Za.U} {P:Nat→Prop} {G:List Gl} {po:Option Addr} {pc i:Nat} {g:Gl} {W:Za.Wn} {r:Option Int} {w:World} {e:Ending} {w':World} (h:sZ mb cs D nO nC fr TT P G po pc i g W r w e w'):∃z:Int,e= .returned (.int .i64 z):=by
 rcases h with⟨_,_,_,rfl,_⟩ | ⟨_,_,rfl,_⟩ | ⟨_,_,_,_,_,_,_,_,_,_,_,_,_,_,h⟩
 ·exact⟨_,rfl⟩
 ·exact⟨_,rfl⟩
 ·exact h.int
theorem FH (w:World) (mb:Nat) (cs:Array Value) (D:List Ng) (nO:Option Addr) (nC:Nat) (fr:Nat→Nat) (TT:Nat→Za.U) (P:Nat→Prop) (G:List Gl) (po:Option Addr) (pc i:Nat) (g:Gl) (rn zn:Nat) (d e:Ng) (h:cG w mb cs D nO nC fr G po pc) (har:aW w D P) (hP:∀g,w.heap.size≤g→P g) (fu:Za.dw (aV D) fr TT) (hi:i<G.length) (fQ:G[i]=g) (hl:g.l<D.length) (hr:g.r=(rn:Int)) (hrl:rn<D.length) (hz0:g.op.toList=[]→g.z= -1) (hz:g.op.toList≠[]→g.z=(zn:Int)∧zn<D.length∧D[fr zn]?=some e) (hd:D[fr rn]?=some d) (sd: -1000000000≤d.val∧d.val≤1000000000) (se: -1000000000≤e.val∧e.val≤1000000000) (hD:D.length+1≤1000000000) (hG:G.length≤1000000) (hc:5<cs.size):
 Calls Tryz.prog 138 #[.pointer (some ⟨mb,0,none⟩),.int .i64 (i:Int),.agg #[.int .i64 (g.l:Int),.string g.sg,.int .i64 g.r,.string g.op,.int .i64 g.z,.bool g.wt,.slice g.no g.nd.length g.nc]] w fun x w'=>sZ mb cs D nO nC fr TT P G po pc i g (Za.eN g.op.toList (TT rn) (TT zn)) (kM g.op.toList d e) w x w':=by
 rw[hr]
 have hG0:fW w w.heap.size mb 1 cs 91 D nO nC fr TT P:=⟨h.st,h.ok,fu,har,Nat.le_refl _⟩
 have hu0:=((Below.refl w.heap.size w).alloc (Nat.le_refl _) (.cells #[.int .i64 (g.l:Int),.string g.sg,.int .i64 (rn:Int),.string g.op,.int .i64 g.z,.bool g.wt,.slice g.no g.nd.length g.nc] 158)).alloc (by simp) (.cells #[.slice none 0 0,.slice none 0 0,.bool false] 189)
 have hl0:=vB (w.alloc (.cells #[.int .i64 (g.l:Int),.string g.sg,.int .i64 (rn:Int),.string g.op,.int .i64 g.z,.bool g.wt,.slice g.no g.nd.length g.nc] 158))
 rw[World.size_alloc]at hl0
 have r0:=(Below.heap_alloc (w.alloc (.cells #[.int .i64 (g.l:Int),.string g.sg,.int .i64 (rn:Int),.string g.op,.int .i64 g.z,.bool g.wt,.slice g.no g.nd.length g.nc] 158)) (.cells #[.slice none 0 0,.slice none 0 0,.bool false] 189) w.heap.size (by simp)).trans (heap_alloc_new w (.cells #[.int .i64 (g.l:Int),.string g.sg,.int .i64 (rn:Int),.string g.op,.int .i64 g.z,.bool g.wt,.slice g.no g.nd.length g.nc] 158))
 obtain⟨ka,hka⟩:=h.ok.hop rn hrl
 have va:=hG0.pC hrl hd
 have vx:∀n,n<D.length→∀x,TT n= .v x→x=([],fr n):=fun n hn x hx=>by
  obtain⟨dn,q1,q2,q3,q4,q5⟩:=hG0.node hn
  by_cases k1:dn.k=1
  ·rw[q4 k1]at hx;injection hx with hx;exact hx.symm
  ·obtain⟨_,_,_,_,q⟩:=q5 k1
   rw[q]at hx;cases hx
 have vD:∀v∈(Za.Wn.none.bI (TT rn)).wt,v<D.length:=I7 h.ok hrl (fun v hv=>by simp[Za.Wn.none]at hv) (vx rn hrl)
 have WA:=hide (fun W (hu:Below (w.heap.size+2) _ W)=>lK W (w.heap.size+1) mb 1 cs 91 D nO nC _ [] [] false rn (fr rn) ka d (TT rn) (hG0.at (hu0.trans (hu.mono (by omega)))) hka hd va.2 (fun q=>Bool.eq_false_iff.2 fun r=>q (va.1.2 r)) (hl0.below (hu.mono (by simp))) (by simp))
 have G6:=hide (show (Za.Wn.none.bI (TT rn)).wt.length≤100000000 from Nat.le_trans (Za.Wn.jA _ _) (by simp[Za.Wn.none]))
 have WB:=hide (show∀(W:World) (R:Nat→Prop),Below w.heap.size w W→cT W (w.heap.size+1) [] (Za.Wn.none.bI (TT rn)).wt false R→Calls Tryz.prog 162 #[.pointer (some ⟨w.heap.size+1,0,none⟩),.pointer (some ⟨mb,1,none⟩),.int .i64 g.z] W fun e w'=>e= .returned (.tuple #[])∧∃R',cT w' (w.heap.size+1) [] (Za.eN g.op.toList (TT rn) (TT zn)).wt false R'∧aj R R' W w' from fun W R hu hlo=>by
  by_cases ho:g.op.toList=[]
  ·rw[hz0 ho]
   refine(Fx W (w.heap.size+1) mb 1 cs 91 D nO nC R [] _ false (hG0.at hu) hlo).mono ?_
   rintro x w' ⟨h1,h2,h3⟩
   refine⟨h1,R,?_,h3⟩
   unfold Za.eN
   rw[if_pos ho]
   exact h2
  ·obtain⟨q1,q2,q3⟩:=hz ho
   rw[q1]
   obtain⟨kb,hkb⟩:=h.ok.hop zn q2
   have vb:=hG0.pC q2 q3
   refine(lK W (w.heap.size+1) mb 1 cs 91 D nO nC R [] _ false zn (fr zn) kb e (TT zn) (hG0.at hu) hkb q3 vb.2 (fun q=>Bool.eq_false_iff.2 fun r=>q (vb.1.2 r)) hlo (ae G6)).mono ?_
   rintro x w' ⟨h1,R',h2,h3⟩
   refine⟨h1,R',?_,h3⟩
   unfold Za.eN
   rw[if_neg ho]
   have e1:Za.Wn.mk (Za.Wn.none.bI (TT rn)).wt false=Za.Wn.none.bI (TT rn):=by cases TT rn<;>rfl
   rw[e1]at h2
   exact h2)
 have Cg:=hide (show∀v∈(Za.eN g.op.toList (TT rn) (TT zn)).wt,v<D.length from fun v hv=>by
  unfold Za.eN at hv
  split at hv
  ·exact vD v hv
  ·rename_i ho
   exact I7 h.ok (hz ho).2.1 vD (vx zn (hz ho).2.1) v hv)
 have Xa:=hide (show (Za.eN g.op.toList (TT rn) (TT zn)).wt.length≤2 by
  have q1:=Za.Wn.jA Za.Wn.none (TT rn)
  have q2:=Za.Wn.jA (Za.Wn.none.bI (TT rn)) (TT zn)
  have q3:Za.Wn.none.wt.length=0:=rfl
  unfold Za.eN
  split<;>omega)
 generalize Za.eN g.op.toList (TT rn) (TT zn)=W2 at*
 have IV:=hide (fun W (hu:Below w.heap.size w W)=>I1 W mb cs 91 D nO nC fr g.l g.sg rn g.op g.z g.wt g.no g.nd.length g.nc d e (h.st.below hu) h.ok hrl hd (fun q=>⟨zn,hz q⟩) sd se)
 have IWT:=hide (fun W (hu:Below w.heap.size w W) (no:Option Addr) (nc:Nat) (hn:W.ownsRow 0 3 1 (.slice no W2.wt.length nc) W2.wt.length (W2.wt.map aI))=>BW W mb cs D nO nC fr G po pc i g W2.wt no nc (h.below hu) hi fQ hn (ae Cg) (by have:=ae Xa;omega))
 have IFL:=hide (fun W (hu:Below w.heap.size w W)=>vN W mb cs 5 (h.st.below hu).blk hc)
 have IAD:=hide (fun(x:Int) W (hu:Below w.heap.size w W)=>OA P (W.alloc (.cells #[.slice none 0 0] 93)) mb 1 cs 91 W.heap.size D [] nO nC none 0 x ⟨h.st.below (hu.alloc hu.size _),⟨heap_alloc_new W _,World.ownsRow_nil _ _ _ _⟩,by decide,by decide,(har.below (hu.alloc hu.size _)).keep fun g _ hp hg=>⟨hg,hp,fun⟨_,q,_⟩=>by cases q⟩⟩ (fun g hg=>hP g (by rw[World.size_alloc]at hg;have:=hu.size;omega)) (by decide) hD)
 have IEQ:=hide (show∀(x:Int) (W W':World) (no':Option Addr) (nc':Nat),Below w.heap.size w W→fD P W' mb 1 (cs.setIfInBounds 1 (.slice no' (D.length+1) nc')) 91 W.heap.size (D++[gm x D.length]) [] no' nc' none 0→aj (bU mb nO W.heap.size none) (bU mb no' W.heap.size none) (W.alloc (.cells #[.slice none 0 0] 93)) W'→W2.wt=[]→kM g.op.toList d e=some x→Calls Tryz.prog 137 #[.pointer (some ⟨mb,0,none⟩),.int .i64 (i:Int),.int .i64 (g.l:Int),.int .i64 (D.length:Int)] W' fun y w'=>sZ mb cs D nO nC fr TT P G po pc i g W2 (kM g.op.toList d e) w y w' from fun x W W' no' nc' hu had hf hw hv=>by
  have ok:=h.ok.MZ (B6 x D.length)
  obtain⟨T2,hS,he⟩:=I6 h.ok fu (B6 x D.length)
  have hu':=hu.alloc hu.size (.cells #[.slice none 0 0] 93)
  rw[←uk (x:=x)]at had
  have hm:=(h.below hu').added (P:=P) ⟨heap_alloc_new W _,World.ownsRow_nil _ _ _ _⟩ (V:=[]) (vo:=none) (vc:=0) (fun _ _ _ _ ⟨_,q,_⟩=>by cases q) had ok (by simp) hf
  have yI:aW W' (D++[gm x D.length]) P:=had.args.keep fun g _ hp hg=>⟨hg,hp.1⟩
  refine(xu W' mb _ (D++[gm x D.length]) no' nc' fr T2 P G po pc i g.l D.length hm yI hS (by rw[uk];omega) (by rw[uk];omega) (by rw[uk];exact hD) hG (by simpa using hc)).mono ?_
  intro y w' hq
  refine Or.inr (Or.inr ⟨hw,x,no',nc',T2,W',hv,ok,hS,he,FE ok hS,hm,yI,?_,hq⟩)
  refine(aj.new (X:=cm mb nO) (R':=bU mb no' W.heap.size none) (aj.of_below hu') hf ?_).less (fun k q=> ?_)
  ·rintro k (q | q | q | ⟨_,q,_⟩)
   ·exact Or.inl (Or.inl q)
   ·exact Or.inl (Or.inr q)
   ·right;rw[q];exact hu.size
   ·cases q
  ·rcases q with q | q
   ·exact Or.inl q
   ·exact Or.inr (Or.inl q))
 have mz:=af h.st.blk
 have gF:=hide (show¬rowOf nO w.heap.size from fun⟨p,hp,hk⟩=>by have:=(h.st.own.lt w.heap.size (by rw[hp,hk];rfl)).2;omega)
 have QK:=hide (fun W (hu:Below w.heap.size w W)=>au (h.st.below hu).blk 5 (.int .i64 5))
 have jL:=hide r0
 have uV:=hide hl0
 have wW:=hide hu0
 clear hG0 r0 hl0 hu0 hd va hka h har hP fu fQ hz0 hz sd se vx vD Cg
 obtain⟨l,sg,r,op,z,wt,no,nc,nd⟩:=g
 dsimp only at*
 generalize kM op.toList d e=val at*
 go_enter Tryz.func138,Tryz.ntmps138
 go_wp2_with fail
 go_region_with (go_at_call 162;refine(ae WA _ (by first | exact Below.refl _ _ | exact(Below.refl _ _).drew | exact(Below.refl _ _).drew.drew | exact(Below.refl _ _).drew.drew.drew)).mono ?_;rintro y w2 ⟨rfl,R2,h2,fr2⟩)
 all_goals
  have hb2:=(ae uV).under ((aj.of_below (by first | exact Below.refl _ _ | exact(Below.refl _ _).drew | exact(Below.refl _ _).drew.drew)).trans fr2) (ae wW) (by omega)
  have q2:=(((aj.of_below (by first | exact Below.refl _ _ | exact(Below.refl _ _).drew | exact(Below.refl _ _).drew.drew)).trans fr2).block w.heap.size (by simp only[World.size_alloc];omega) (pM (by omega))).trans (ae jL)
  have n2:=fr2.not (k:=w.heap.size) (by simp only[World.size_drew,World.size_alloc];omega) (pM (by omega))
  change cT w2 _ _ (Za.Wn.none.bI (TT rn)).wt _ _ at h2
  have d2:=ag q2 4
  have sz2:=af q2
  simp only[List.getElem?_toArray,List.getElem?_cons_zero,List.getElem?_cons_succ]at d2
  have uQ:=hide q2
  have sI:=hide n2
  have aX:=hide hb2
  have H2:=hide h2
  clear q2 n2 hb2 h2 fr2 jL uV wW WA
  have WB2:=hide (fun W (hb:Below w2.heap.size w2 W)=>ae WB W R2 ((ae aX).trans (hb.mono (ae aX).size)) ((ae H2).below hb))
  clear WB
  go_wp2_with fail
  go_region_with (go_at_call 162;refine(ae WB2 _ (by first | exact Below.refl _ _ | exact(Below.refl _ _).drew | exact(Below.refl _ _).drew.drew | exact(Below.refl _ _).drew.drew.drew)).mono ?_;rintro y w4 ⟨rfl,R4,h4,fr4⟩)
  have hb4:=(ae H2).under ((aj.of_below (by first | exact Below.refl _ _ | exact(Below.refl _ _).drew | exact(Below.refl _ _).drew.drew)).trans fr4) (ae aX) (by omega)
  have q4:=(((aj.of_below (by first | exact Below.refl _ _ | exact(Below.refl _ _).drew | exact(Below.refl _ _).drew.drew)).trans fr4).block w.heap.size sz2 (ae sI)).trans (ae uQ)
  obtain⟨xo,xc,wo,wc,lob,rfl⟩:=h4
  have c0:=ag q4 0
  have c1:=ag q4 1
  have c2:=ag q4 2
  have c3:=ag q4 3
  have c4:=ag q4 4
  have c5:=ag q4 5
  have c6:=ag q4 6
  have e1:=ag lob.blk 1
  have lz:=af lob.blk
  have gz:=af q4
  simp only[List.getElem?_toArray,List.getElem?_cons_zero,List.getElem?_cons_succ]at c0 c1 c2 c3 c4 c5 c6 e1
  have cR:=hide hb4
  have HOW:=hide lob.wown
  have mz4:mb<w4.heap.size:=Nat.lt_of_lt_of_le mz hb4.size
  clear hb4 q4 lob fr4 uQ sI aX H2 WB2 d2
  by_cases hw:W2.wt=[]
  ·have t1:decide (0<W2.wt.length)=false:=by rw[hw];rfl
   have HW:=hide hw
   have IEQ2:=hide (fun x W W' no' nc' h1 h2 h3 h4=>ae IEQ x W W' no' nc' h1 h2 h3 hw h4)
   clear hw IWT IEQ HOW
   go_wp2_with fail
   refine(ae IV _ (ae cR)).mono ?_
   rintro y w5 ⟨x,b,rfl,M5,bu⟩
   have c0':=(bu.cell (p:=⟨w.heap.size,0,none⟩) gz).trans c0
   have gz5:w.heap.size<w5.heap.size:=Nat.lt_of_lt_of_le gz bu.size
   have mz5:mb<w5.heap.size:=Nat.lt_of_lt_of_le mz4 bu.size
   have gA:=(ae cR).trans (bu.mono (ae cR).size)
   have iA:=hide gA
   clear bu gA IV cR c0 c1 c2 c3 c4 c5 c6 e1
   cases b with
   | true=>
    have hv:val=some x:=by
     rcases M5 with⟨_,q⟩ | ⟨q,_⟩
     ·exact q
     ·cases q
    have HV:=hide hv
    clear M5 hv
    go_wp2_with fail
    refine(ae IAD x _ (ae iA)).mono ?_
    rintro y w7 ⟨rfl,no',nc',ad7,fr7⟩
    have gne:¬bU mb nO w5.heap.size none w.heap.size:=by
     rintro(q | q | q | ⟨_,q,_⟩)
     ·omega
     ·exact ae gF q
     ·omega
     ·cases q
    have c7:=(fr7.cell (p:=⟨w.heap.size,0,none⟩) (by simp only[World.size_alloc];omega) gne).trans ((World.cell?_alloc_past _ _ _ gz5).trans c0')
    have gz7:w.heap.size<w7.heap.size:=by have:=fr7.size;simp only[World.size_alloc]at this;omega
    have IE:=hide (ae IEQ2 x w5 w7 no' nc' (ae iA) ad7 fr7 (ae HV))
    clear ad7 fr7 c0' gne IEQ2 IAD iA
    go_wp2_with fail
    refine(ae IE).mono ?_
    intro y w8 h8
    obtain⟨z8,rfl⟩:=h8.int
    have H8:=hide h8
    clear h8 IE
    go_wp2_with fail
    go_ret
    exact ae H8
   | false=>
    have hv:val=none:=by
     rcases M5 with⟨q,_⟩ | ⟨_,q⟩
     ·cases q
     ·exact q
    have HV:=hide hv
    clear M5 hv
    go_wp2_with fail
    refine(ae IFL _ (ae iA)).mono ?_
    rintro y w7 ⟨rfl,rfl⟩
    go_wp2_with fail
    go_ret
    refine Or.inr (Or.inl ⟨ae HW,ae HV,rfl,ae QK _ (ae iA),?_⟩)
    exact(aj.of_below (ae iA)).trans ⟨rfl,rfl,rfl,by rw[cC];exact Nat.le_refl _,fun k _ hr=>aF _ _ _ _ (fun e=>hr e),fun _ q=>Or.inl q⟩
  ·have t1:decide (0<W2.wt.length)=true:=by
    have:0<W2.wt.length:=List.length_pos_iff.2 hw
    simpa using this
   have HW:=hide hw
   have IW:=hide (ae IWT _ (ae cR) wo wc (bZ (ae HOW) (Nat.zero_le _)))
   clear hw IWT IV IFL IAD IEQ
   go_wp2_with fail
   refine(ae IW).mono ?_
   rintro y w5 ⟨rfl,mc5,fr5⟩
   have Xb:=hide mc5
   have ME:=hide fr5
   clear mc5 fr5 IW
   go_wp2_with fail
   go_ret
   exact Or.inl ⟨ae HW,wo,wc,rfl,ae Xb,(aj.of_below (ae cR)).trans (ae ME),fun k ⟨p,hp,hk⟩=>by have:=((ae HOW).lt k (by rw[hp,hk];rfl)).1;omega⟩
end Go.Proofs.YthfjnfcekeknlaaGreatDoor
