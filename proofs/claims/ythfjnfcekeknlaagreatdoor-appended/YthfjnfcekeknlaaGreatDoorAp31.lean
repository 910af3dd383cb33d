import Derived.Test.YthfjnfcekeknlaaGreatDoorAp30
import Derived.Deep.LoopGhost
set_option maxHeartbeats 8000000
set_option maxRecDepth 100000
namespace Go.Proofs.YthfjnfcekeknlaaGreatDoor
open Go.RowKit
theorem Dv (w:World) (p:Int):
 Calls Tryz.prog 44 #[.int .i64 p,.int .i64 0] w fun e w'=>e= .returned (.int .i64 0)∧w'=w:=by
 go_enter Tryz.func44,Tryz.ntmps44
 go_wp2_with fail
 go_ret
 exact⟨rfl,rfl⟩
def dA (p:Int) (n:Nat):Nat:=if n=0 then 0 else(p % (n:Int)).toNat
theorem zO (w:World) (p:Int) (n:Nat) (hl:n≤1000000000) (h1: -9223372036854775808≤p) (h2:p≤9223372036854775807):
 Calls Tryz.prog 44 #[.int .i64 p,.int .i64 (n:Int)] w fun e w'=>e= .returned (.int .i64 (dA p n:Int))∧w'=w:=by
 by_cases q:n=0
 ·subst q
  refine(Dv w p).mono ?_
  rintro e w' ⟨rfl,rfl⟩
  exact⟨rfl,rfl⟩
 ·refine(xD w p n (by omega) hl h1 h2).mono ?_
  rintro e w' ⟨rfl,rfl⟩
  unfold dA
  rw[if_neg q,Int.toNat_of_nonneg (Int.emod_nonneg p (show (n:Int)≠0 by omega))]
  exact⟨rfl,rfl⟩
theorem tX (p:Int) (n:Nat) (h:0<n):dA p n<n:=by
 unfold dA
 rw[if_neg (by omega)]
 have b1:=Int.emod_nonneg p (show (n:Int)≠0 by omega)
 have b2:=Int.emod_lt_of_pos p (show (0:Int)<(n:Int)by omega)
 omega
theorem nR.from {P:Nat→Prop} {mb:Nat} {cs:Array Value} {D:List Ng} {nO:Option Addr} {fr:Nat→Nat} {TT:Nat→Za.U} {G:List Gl} {po:Option Addr} {pc:Nat} {cls:List Za.aL} {own:List Nat} {bg n i:Nat} {gi:Gl} {w w1:World} {e:Ending} {w':World} (hb:Below w.heap.size w w1) (h:nR P mb cs D nO fr TT G po pc cls own bg n i gi w1 e w'):nR P mb cs D nO fr TT G po pc cls own bg n i gi w e w':=by
 rcases h with⟨rs,c,V,F,T2,ws,E,F',no',nc',T',Gn,po',pc',h1,h2,h3,h4,h5,h6,h7,h8,h9,h10,h11,h12,h13,h14,h15,h16,h17,h18⟩ | ⟨rs,h1,h2,h3,h4,h5,h6⟩ | ⟨rs,E,no1,nc1,T1,oo,oc,h1,h2,h3,h4,h5,h6,h7,h8,h9,h10,h11,h12⟩
 ·exact Or.inl ⟨rs,c,V,F,T2,ws,E,F',no',nc',T',Gn,po',pc',h1,h2,h3,h4,h5,h6,h7,h8,h9,h10,h11,h12,h13,h14,h15,h16,h17,(au.aw hb).trans h18⟩
 ·exact Or.inr (Or.inl ⟨rs,h1,h2,h3,h4,h5,(au.aw hb).trans h6⟩)
 ·exact Or.inr (Or.inr ⟨rs,E,no1,nc1,T1,oo,oc,h1,h2,h3,h4,h5,h6,h7,h8,h9,h10,fun k q=>Nat.le_trans hb.size (h11 k q),(au.aw hb).trans h12⟩)
theorem Oc {cls:List Za.aL} {tx:List UInt8} {m j:Nat}:∀x∈Za.cr cls tx m j,x<cls.length:=fun x hx=>by
 have:=(List.mem_filter.1 hx).2
 cases q:cls[x]? with
 | none=>rw[q]at this;cases this
 | some c=>exact(List.getElem?_eq_some_iff.1 q).1
theorem nR.int {P:Nat→Prop} {mb:Nat} {cs:Array Value} {D:List Ng} {nO:Option Addr} {fr:Nat→Nat} {TT:Nat→Za.U} {G:List Gl} {po:Option Addr} {pc:Nat} {cls:List Za.aL} {own:List Nat} {bg n i:Nat} {gi:Gl} {w:World} {e:Ending} {w':World} (h:nR P mb cs D nO fr TT G po pc cls own bg n i gi w e w'):∃z:Int,e= .returned (.int .i64 z):=by
 rcases h with⟨_,_,_,_,_,_,_,_,_,_,_,_,_,_,_,_,_,_,rfl,_⟩ | ⟨_,_,_,_,rfl,_⟩ | ⟨_,_,_,_,_,_,_,_,_,_,rfl,_⟩
 ·exact⟨_,rfl⟩
 ·exact⟨_,rfl⟩
 ·exact⟨_,rfl⟩
theorem Lb (w:World) (mb:Nat) (cs:Array Value) (D:List Ng) (nO:Option Addr) (nC:Nat) (fr:Nat→Nat) (TT:Nat→Za.U) (P:Nat→Prop) (G:List Gl) (po:Option Addr) (pc:Nat) (cls:List Za.aL) (clo:Option Addr) (clc n:Nat) (d:Ng) (i:Nat) (gi:Gl) (p:Int) (hm:cN w mb cs D nO nC fr G po pc) (bA:a8 w D P) (fz:Za.dD (aY D) fr TT) (hP:∀g,w.heap.size≤g→P g) (h0:cs[0]?=some (.slice clo cls.length clc)) (gh:cX w clo cls.length cls) (mQ:∀c∈cls,Za.jH c) (hcc:cls.length≤12) (hi:i<G.length) (gV:G[i]=gi) (hn:n<D.length) (hd:D[fr n]?=some d) (hk:d.k=3) (hsz:Za.size (TT n)≤300) (oq: -9223372036854775808≤p) (vI:p≤9223372036854775807) (hD:D.length+6000000≤1000000000) (hGl:G.length≤1000000) (xx:5<cs.size):
 Calls Tryz.prog 140 #[.pointer (some ⟨mb,0,none⟩),.int .i64 (i:Int),.int .i64 (n:Int),.int .i64 p] w fun e w'=>nR P mb cs D nO fr TT G po pc cls (Za.cr cls d.tx.toList d.args.length cls.length) (dA p (Za.cr cls d.tx.toList d.args.length cls.length).length) n i gi w e w':=by
 have IQ:=af (Af w mb cs D nO nC fr n d cls clo clc hm.st hm.ok hn hd hk h0 gh (fun c hc=>(mQ c hc).hk) hcc)
 have Uf:=Za.Cp cls d.tx.toList d.args.length cls.length
 have hlt:=Oc (cls:=cls) (tx:=d.tx.toList) (m:=d.args.length) (j:=cls.length)
 generalize Za.cr cls d.tx.toList d.args.length cls.length=own at*
 have Vt:own.length≤12:=by omega
 have hbg:=tX p own.length
 have IB:=af (fun W=>zO W p own.length (by omega) oq vI)
 generalize dA p own.length=bg at*
 clear hd hk d
 have Vu:=af hlt
 have H0:=af h0
 have HM:=af hm
 have nX:=af bA
 have QD:=af fz
 have HP:=af hP
 have vF:=af gh
 have QE:=af mQ
 have Xc:=af gV
 have HN:=af hn
 have jV:=af hsz
 have HD:=af hD
 have mz:=ag hm.st.blk
 have Ug:=af (show∀g∈G,∀k,rowOf g.no k→k<w.heap.size from fun g hg k hk=>(b9 (hm.nds g hg) hk).2)
 clear hlt hm bA fz hP gh mQ gV hn hsz oq vI hD Uf h0
 go_enter Tryz.func140,Tryz.ntmps140
 go_wp2_with fail
 refine(ae IQ).mono ?_
 rintro e w1 ⟨yo,yc,rfl,ow1,hb1⟩
 have z1:=hb1.size
 have Lc:=af ow1
 have bj:=af hb1
 have HST:=af (show Ud P w1 mb cs D nO fr TT G po pc cls own bg n own.length (.bool false) (.slice none 0 0) (.int .i64 0) w1 from by
  have Pe:=(ae HM).below hb1
  refine⟨[],[],nO,nC,TT,none,0,by simp,rfl,rfl,rfl,⟨by simpa [Za.cC] using World.ownsRow_nil _ _ _ _,(fun t r hr=>by simp at hr),?_,?_,by simpa using ae QD,fun _ _=>rfl,(fun i d hd=>by simp at hd),by simp,(fun v hv=>by simp[Za.cC]at hv),by simp[Za.cC],⟨rfl,rfl,rfl,Nat.le_refl _,fun _ _ _=>rfl,fun k q=> ?_⟩⟩⟩
  ·rw[List.append_nil,lV Pe.st.cel];exact Pe
  ·rw[List.append_nil]
   exact((ae nX).below hb1).keep fun g _ hp hg=>⟨hg,hp,fun⟨_,q,_⟩=>by cases q⟩
  ·rcases q with q | ⟨_,q,_⟩
   ·exact Or.inl q
   ·cases q)
 clear ow1 hb1 IQ
 go_wp2_with fail
 refine(ae IB _).mono ?_
 rintro e w1 ⟨rfl,rfl⟩
 go_wp2_with fail
 go_loopg [11,12,25] own.length (fun k wv av iv wr=>Ud P w1 mb cs D nO fr TT G po pc cls own bg n k wv av iv wr)
 case atStart=>exact ae HST
 case round=>
  clear HST IB
  obtain⟨rs,E,no1,nc1,T1,oo,oc,hkj,rfl,rfl,rfl,fo⟩:=hrel
  by_cases hlt:rs.length<own.length
  ·have hbl:bg<own.length:=hbg (by omega)
   have t0:decide (rs.length<own.length)=true:=by simpa using hlt
   have FQ:(bg+rs.length) % own.length<own.length:=Nat.mod_lt _ (by omega)
   have vG:own[(bg+rs.length) % own.length]<cls.length:=ae Vu _ (List.getElem_mem FQ)
   have QF:ir own bg rs.length=own[(bg+rs.length) % own.length]:=by unfold ir;rw[List.getElem?_eq_getElem FQ];rfl
   have MJ:ed w1 wr:=fun g ys S hg hS=>((ae HM).below (ae bj)).st.rF fo.fg hg (by rcases hS with q | q | q<;>(rw[q];decide)) (by rcases hS with q | q | q<;>(rw[q];decide))
   have Ld:cX wr clo cls.length cls:=MJ.cls ((ed.below (ae bj)).cls (ae vF))
   obtain⟨g,hg⟩:∃g,yo=some ⟨g,0,none⟩:=by
    rcases(ae Lc).2 with⟨q,q2⟩ | ⟨g,cp,cur,q,_⟩
    ·omega
    ·simp only[Value.slice.injEq]at q
     exact⟨g,q.1⟩
   subst hg
   have FR:wr.ownsRow w.heap.size 3 1 (.slice (some ⟨g,0,none⟩) own.length yc) own.length (own.map aM):=ai (ae Lc) fun k q=>by
    obtain⟨cur,qd⟩:=aK (ae Lc) (aI q)
    exact(((ae HM).below (ae bj)).st.rF fo.fg qd (by decide) (by decide)).trans qd.symm
   have X4:=af FR
   have gz:=(FR.lt g rfl).2
   have fq:wr.cell? ⟨g,(bg+rs.length) % own.length,none⟩=some (.int .i64 (own[(bg+rs.length) % own.length]:Int)):=by
    rw[FR.cellAt _ (by omega),List.getElem?_map,List.getElem?_eq_getElem FQ]
    rfl
   have IC:=af (fun W=>xD W ((bg:Int)+(rs.length:Int)) own.length (by omega) (by omega) (by omega) (by omega))
   have e0:((bg:Int)+(rs.length:Int)) % (own.length:Int)=(((bg+rs.length) % own.length:Nat):Int):=by rw[Int.natCast_emod,Int.natCast_add]
   rw[e0]at IC
   generalize hq:(bg+rs.length) % own.length=q at*
   generalize Ei:own[q]=which at*
   obtain⟨gc,vs,ca,QG,hcb,Ej,FT⟩:=Ld.2 (fun e=>by rw[e]at vG;simp at vG)
   have kG:which<vs.length:=by have:=FT.length;omega
   have fc:∀i,i<6→wr.cell? ⟨gc,which*6+i,none⟩=(n9 vs[which])[i]?:=fun i hi=>by
    rw[ah hcb,←Array.getElem?_toList,←B7 kG i hi,←Ej,List.getElem?_take_of_lt (by omega)]
   have f0:=fc 0 (by omega)
   have f1:=fc 1 (by omega)
   have f2:=fc 2 (by omega)
   have f3:=fc 3 (by omega)
   have f4:=fc 4 (by omega)
   have f5:=fc 5 (by omega)
   simp only[n9,List.getElem?_cons_zero,List.getElem?_cons_succ,Nat.add_zero]at f0 f1 f2 f3 f4 f5
   have gcz:=ag hcb
   have zL:ej wr vs[which].a vs[which].o1 vs[which].n1 vs[which].o2 vs[which].n2 cls[which]:=FT.at which kG vG
   have hDE:(D++E).length+5000000≤1000000000:=by
    have h1:=fo.el
    have h2:=ae HD
    have h3:rs.length*78732≤12*78732:=Nat.mul_le_mul_right _ (by omega)
    rw[List.length_append]
    omega
   have hT1:T1 n=TT n:=fo.old n (ae HN)
   have hnDE:n<(D++E).length:=Nat.lt_of_lt_of_le (ae HN) (dQ _ _)
   have IA:=af (fun W (hu:Below wr.heap.size wr W)=>(La W mb (cs.setIfInBounds 1 (.slice no1 (D++E).length nc1)) (D++E) no1 nc1 fr T1 (fun g=>P g∧¬rowOf oo g) vs[which].a vs[which].o1 vs[which].o2 vs[which].n1 vs[which].c1 vs[which].n2 vs[which].c2 n cls[which] ⟨fo.mc.st.below hu,fo.mc.ok,fo.to,fo.ar.below hu,Nat.le_refl _⟩ (fun g hg=>⟨ae HP g (by have:=hu.size;have:=fo.fg.size;omega),fun q=>by have:=(b9 fo.ow q).2;have:=hu.size;omega⟩) (zL.keep (aT.below hu)) (ae QE _ (List.getElem_mem vG)) hnDE (by rw[hT1];exact ae jV) (by omega)).mono (fun e w' q=>q.base hu))
   have m0:wr.cell? ⟨mb,0,none⟩=some (.slice clo cls.length clc):=(ah fo.mc.st.blk 0).trans (by rw[Array.getElem?_setIfInBounds_ne (by omega)];exact ae H0)
   have mzr:=ag fo.mc.st.blk
   rw[QG]at m0
   generalize vs[which]=v at*
   obtain⟨⟨ak0,av0,ax0,ao0,an0,ac0⟩,o1,n1,c1,o2,n2,c2⟩:=v
   dsimp only at f0 f1 f2 f3 f4 f5 IA
   have i0:(0:Int)≤(q:Int):=by omega
   have i1:(q:Int)<(own.length:Int):=by omega
   have k0:(0:Int)≤(which:Int):=by omega
   have k1:(which:Int)<(cls.length:Int):=by omega
   have iL:=af fo
   have Vv:=af Ld
   have Cu:=af vG
   have QH:=af QF
   have Xd:=af hDE
   have bp:=af hlt
   have bf:=af hkj
   have Pq:=af hT1
   have DM:=af QG
   have e9:rs.length≤12:=by omega
   clear fo Ld MJ FR hcb Ej FT kG fc zL hDE hT1 hnDE QF hlt hkj QG e0 hq Ei FQ
   go_wp2_with fail
   refine(ae IC _).mono ?_
   rintro e wr ⟨rfl,rfl⟩
   go_wp2_with fail
   go_region_with (go_at_call 182;refine(ae IA _ (by first | exact Below.refl _ _ | exact(Below.refl _ _).drew | exact((Below.refl _ _).alloc (Nat.le_refl _) _).drew | exact(Below.refl _ _).alloc (Nat.le_refl _) _ | exact(Below.refl _ _).drew.alloc (Nat.le_refl _) _)).mono ?_;rintro y w2 ⟨⟨says,ws,xo,xc,vo2,vl,vc2,E2,V,F,no2,nc2,T2,rfl,Uh,qD,Le,QI,QJ,FU,FV,FW,Lf,Lg,QK,Lh,B8⟩,R9,hfgW⟩;first | (have ab:=((ae iL).mc.st.below (by first | exact((Below.refl _ _).alloc (Nat.le_refl _) _).drew | exact(Below.refl _ _).alloc (Nat.le_refl _) _)).rF hfgW (heap_alloc_new wr _) (by decide) (by decide);have b0:=ah ab 0;have b1:=ah ab 1;have b2:=ah ab 2;have y0:=ay ab 0;have y1:=ay ab 1;have y2:=ay ab 2;have abz:=ag ab;simp only[List.getElem?_toArray,List.getElem?_cons_zero,List.getElem?_cons_succ]at b0 b1 b2) | skip)
   all_goals
    first
     | (have tk:=sA.KU ab (.int .i64 (says:Int)) (.slice xo ws.length xc) (.slice vo2 vl vc2)
        have hab:=aA (aA (aA ab 0 (.int .i64 (says:Int))) 1 (.slice xo ws.length xc)) 2 (.slice vo2 vl vc2)
        have zP:=((Lh.eC (Nat.le_refl _) 0 (.int .i64 (says:Int))).eC (Nat.le_refl _) 1 (.slice xo ws.length xc)).eC (Nat.le_refl _) 2 (.slice vo2 vl vc2)
        clear ab b0 b1 b2 y0 y1 y2 abz
        generalize (((w2.setCell ⟨wr.heap.size,0,none⟩ (.int .i64 (says:Int))).setCell ⟨wr.heap.size,1,none⟩ (.slice xo ws.length xc)).setCell ⟨wr.heap.size,2,none⟩ (.slice vo2 vl vc2))=w9 at*)
     | (have tk:=sA.alloc w2 (.cells #[.int .i64 (says:Int),.slice xo ws.length xc,.slice vo2 vl vc2] 245)
        have hab:=heap_alloc_new w2 (.cells #[.int .i64 (says:Int),.slice xo ws.length xc,.slice vo2 vl vc2] 245)
        have zP:=Lh.trans (au.aw ((Below.refl _ _).alloc (Nat.le_refl _) (.cells #[.int .i64 (says:Int),.slice xo ws.length xc,.slice vo2 vl vc2] 245)))
        generalize w2.alloc (.cells #[.int .i64 (says:Int),.slice xo ws.length xc,.slice vo2 vl vc2] 245)=w9 at*)
    have c0:=ah hab 0
    have c1:=ah hab 1
    have c2:=ah hab 2
    have abz:=ag hab
    simp only[List.getElem?_toArray,List.getElem?_cons_zero,List.getElem?_cons_succ,List.setIfInBounds_toArray,List.set_cons_zero,List.set_cons_succ]at c0 c1 c2
    have st9:=tk.st QJ
    have ar9:=tk.args QK
    have xo9:=tk.row Uh (by decide)
    have Xe:=af Le
    have jY:=af (show says≠1→∀(oo':Option Addr) (oc':Nat) (w':World),w'.ownsRow w1.heap.size 3 1 (.slice oo' (Za.cC (rs++[(says,ws)])).length oc') (Za.cC (rs++[(says,ws)])).length ((Za.cC (rs++[(says,ws)])).map aM)→w9.grownBy w' (Value.slice oo (Za.cC rs).length oc).ownBlock→(∀k,rowOf oo' k→rowOf oo k∨w9.heap.size≤k)→Ct P w1 mb cs D nO fr TT G po pc cls own bg n (E++E2) no2 nc2 T2 (rs++[(says,ws)]) oo' oc' w' from fun hs1 oo' oc' w' k1 k2 k3=>(ae iL).next (fun g hg k hk=>Nat.lt_of_lt_of_le (ae Ug g hg k hk) z1) (by rw[ae QH];exact List.getElem?_eq_getElem (ae Cu)) qD (ae HN) hs1 Le QI st9 FU FV FW Lf Lg ar9 zP (Below.refl _ _) k1 k2 k3)
    have zQ:=af (show w9.ownsRow w1.heap.size 3 1 (.slice oo (Za.cC rs).length oc) (Za.cC rs).length ((Za.cC rs).map aM)from ai (ae iL).ow fun k q=>by
     obtain⟨cur,qd⟩:=aK (ae iL).ow (aI q)
     exact((ae iL).mc.st.rF zP qd (by decide) (by decide)).trans qd.symm)
    have QL:=af xo9
    have Ui:=af (show w1.heap.size≤w9.heap.size from Nat.le_trans (ae iL).fg.size zP.size)
    have MM:=af (show says=1→vl=(V++F).length∧Calls Tryz.prog 183 #[.pointer (some ⟨mb,0,none⟩),.int .i64 (i:Int),.int .i64 (which:Int),.agg #[.slice vo2 vl vc2]] w9 fun e w'=>nR P mb cs D nO fr TT G po pc cls own bg n i gi w e w' from fun hs1=>by
     subst hs1
     obtain⟨j1,rfl,j3,j4,j5,j6,j7⟩:=B8 rfl
     refine⟨rfl,?_⟩
     have Xf:=(ae iL).mc.asked st9 FU (dQ _ _) zP
     have Vw:ed wr w9:=fun g ys S hg hS=>(ae iL).mc.st.rF zP hg (by rcases hS with q | q | q<;>(rw[q];decide)) (by rcases hS with q | q | q<;>(rw[q];decide))
     have Vx:=FM w9 mb _ ((D++E)++E2) (V++F) no2 nc2 vo2 vc2 fr T2 P G po pc i which cls clo clc Xf (ar9.keep fun g _ hp hg=>⟨hg,hp.1.1,hp.2⟩) FV (tk.row j3 (by decide)) j5 (fun x hx k hk hk2=>by
      have q1:=ae Ug x hx k hk
      rcases j4 k hk2 with(e | e) | e
      ·obtain⟨cur,qd⟩:=aK ((ae iL).mc.nds x hx) hk
       rw[e,(ae iL).mc.st.blk]at qd
       simp only[Option.some.injEq,Obj.cells.injEq]at qd
       exact absurd qd.2.1 (by decide)
      ·obtain⟨cur,qd⟩:=aK ((ae iL).mc.nds x hx) hk
       exact aQ (ae iL).mc.st.own qd (by decide) e
      ·have:=(ae iL).fg.size;omega) (fun g hg=>ae HP g (by have:=ae Ui;omega)) (by rw[set_set,Array.getElem?_setIfInBounds_ne (by omega)];exact ae H0) (Vw.cls (ae Vv)) (ae Cu) hcc (ae QE _ (List.getElem_mem (ae Cu))) j6 (by have:=ae Xd;have hq:(D++E++E2).length=(D++E).length+E2.length:=List.length_append;omega) hGl
     refine Vx.mono fun e w' hp=> ?_
     have ho:=ae QH
     exact((ae iL).fin (ae bp) Vt (by rw[ho];exact List.getElem?_eq_getElem (ae Cu)) qD (ae HN) FU FV FW Lf Lg zP j4 j5 j7 (by rw[ho];exact hp)).from (ae bj))
    have hs3:says=1∨says=2∨says=3:=by
     rcases qD with⟨_,q,_⟩ | ⟨_,_,_,_,_,q,_⟩
     ·rw[q];exact Aw _
     ·rw[q];exact Aw _
    clear st9 ar9 xo9 tk QJ QK Uh zP Lh hfgW qD Le QI FU FV FW Lf Lg B8 hab
    rcases hs3 with rfl | rfl | rfl
    ·have hcm:=(ae MM rfl).2
     have IM:=af hcm
     clear hcm MM jY zQ QL
     go_wp2_with fail
     refine(ae IM).mono ?_
     intro y w10 h10
     obtain⟨z10,rfl⟩:=h10.int
     have xN:=af h10
     clear h10 IM
     go_wp2_with fail
     go_ret
     exact ae xN
    ·have dx:Za.cC (rs++[(2,ws)])=Za.cC rs:=by rw[Za.qc];simp
     have I4:Za.l9 (rs++[(2,ws)])=Za.l9 rs:=by rw[Za.zN];simp
     have I5:=ae jY (by omega) oo oc w9 (by rw[dx];exact ae zQ) (World.grownBy.refl _ _) (fun k q=>Or.inl q)
     have QM:=af I5
     have D4:=af dx
     have QN:=af I4
     clear I5 dx I4 MM jY zQ QL
     go_wp2_with fail
     go_roundg (gk - 1)
     case measure=>have:=ae bf;have:=ae bp;omega
     case rel=>exact⟨rs++[(2,ws)],_,_,_,_,_,_,by have:=ae bf;have:=ae bp;simp;omega,by rw[List.length_append];go_num,by rw[ae QN],by rw[ae D4],ae QM⟩
    ·have dx:Za.cC (rs++[(3,ws)])=Za.cC rs++ws:=by rw[Za.qc];simp
     have I4:Za.l9 (rs++[(3,ws)])=true:=by rw[Za.zN];simp
     have oX:(Za.cC rs).length+ws.length≤1000000000:=by
      have h1:=(ae iL).ln
      have h2:rs.length*12000000≤12*12000000:=Nat.mul_le_mul_right _ e9
      have h3:=ae Xe
      omega
     have D4:=af dx
     have QN:=af I4
     have jA:=af oX
     clear dx I4 oX MM
     go_wp2_with (at_builtin;go_must (refine qy rfl (.tmp 61) (.tmp 63) rfl w1.heap.size wr.heap.size (.slice oo (Za.cC rs).length oc) (Za.cC rs).length (Za.cC rs) rfl (ae zQ) xo ws.length xc ws rfl (ae QL) (ae jA) (ae Ui) ?_);go_must (intro v' w12 hown' hgrow hat;obtain⟨oo',oc',hv'⟩:=gC hown';subst hv';have Vy:=af (show w12.ownsRow w1.heap.size 3 1 (.slice oo' (Za.cC (rs++[(3,ws)])).length oc') (Za.cC (rs++[(3,ws)])).length ((Za.cC (rs++[(3,ws)])).map aM)from by rw[ae D4,List.length_append];exact hown');have QM:=af (ae jY (by omega) oo' oc' w12 (ae Vy) hgrow (fun k q=>by rcases hat with e | e;exact Or.inl (aI (by rw[←e];obtain⟨pp,hp,hk⟩:=q;rw[hp,hk];rfl));(right;obtain⟨pp,hp,hk⟩:=q;rw[hp]at e;have e2:pp.block=w9.heap.size:=(by simpa [Value.ownBlock] using e);omega)));clear hown' hgrow hat))
     go_roundg (gk - 1)
     case measure=>have:=ae bf;have:=ae bp;omega
     case rel=>exact⟨rs++[(3,ws)],_,_,_,_,_,_,by have:=ae bf;have:=ae bp;simp;omega,by rw[List.length_append];go_num,by rw[ae QN],by rw[ae D4,List.length_append],ae QM⟩
  ·have e9:rs.length=own.length:=by omega
   have t0:decide (rs.length<own.length)=false:=by simp;omega
   have iL:=af fo
   have xO:=af e9
   cases FX:Za.l9 rs with
   | false=>
    have IFL:=af (wm wr mb _ 4 fo.mc.st.blk (by simpa using xx))
    have QO:=af (aA fo.mc.st.blk 5 (.int .i64 4))
    have Li:=af FX
    clear fo hkj hlt e9 FX
    go_wp2_with fail
    refine(ae IFL).mono ?_
    rintro y w3 ⟨rfl,rfl⟩
    go_wp2_with fail
    go_ret
    refine(Or.inr (Or.inl ⟨rs,ae xO,(ae iL).tr,ae Li,rfl,⟨_,ae QO,no1,_,nc1,rfl⟩,?_⟩):nR P mb cs D nO fr TT G po pc cls own bg n i gi w _ _)
    have hf:=(ae iL).fg
    have hz:=(ae bj).size
    refine(au.aw (ae bj)).trans ⟨hf.os,hf.tape,hf.output,by rw[cI];exact hf.size,fun k hk hr=> ?_,fun k q=>Or.inl (Or.inl q)⟩
    rw[aJ _ _ _ _ (fun e=>hr (Or.inl e)),hf.block k hk hr]
   | true=>
    have hD2:(Za.cC rs).length≤1000000000:=by
     have h1:=fo.ln
     have h2:rs.length*12000000≤12*12000000:=Nat.mul_le_mul_right _ (by omega)
     omega
    have IW:=af (Cf wr mb _ (D++E) no1 nc1 fr G po pc i gi (Za.cC rs) oo oc fo.mc hi (ae Xc) (cf fo.ow (Nat.zero_le _)) fo.lt hD2)
    have Li:=af FX
    clear fo hkj hlt e9 FX hD2
    go_wp2_with fail
    refine(ae IW).mono ?_
    rintro y w3 ⟨rfl,mc3,fr3⟩
    have Qj:=af mc3
    have vA:=af fr3
    clear mc3 fr3 IW
    go_wp2_with fail
    go_ret
    have hf:=(ae iL).fg
    have Xg:=(ae iL).mc
    have fy:=(ae iL).el
    have h12:rs.length*78732≤12*78732:=Nat.mul_le_mul_right _ (by have:=ae xO;omega)
    refine(Or.inr (Or.inr ⟨rs,E,no1,nc1,T1,oo,oc,ae xO,(ae iL).tr,ae Li,rfl,ae Qj,?_,(ae iL).to,(ae iL).old,(ae iL).nd,by omega,fun k q=>Nat.le_trans (ae bj).size (b9 (ae iL).ow q).1,?_⟩):nR P mb cs D nO fr TT G po pc cls own bg n i gi w _ _)
    ·exact(ae iL).ar.keep fun g _ hp hg=>⟨((ae vA).block g (ag hg) (aQ Xg.pool hg (by decide))).trans hg,hp.1⟩
    ·refine(au.aw (ae bj)).trans ⟨(ae vA).os.trans hf.os,(ae vA).tape.trans hf.tape,(ae vA).output.trans hf.output,Nat.le_trans hf.size (ae vA).size,fun k hk hr=> ?_,fun k q=> ?_⟩
     ·rw[(ae vA).block k (Nat.lt_of_lt_of_le hk hf.size) (fun e=>hr (Or.inr e)),hf.block k hk (fun e=>hr (Or.inl e))]
     ·rcases q with q | q
      ·rcases hf.row k (Or.inl q)with e | e
       ·exact Or.inl (Or.inl e)
       ·exact Or.inr e
      ·exact Or.inl (Or.inr q)
end Go.Proofs.YthfjnfcekeknlaaGreatDoor
