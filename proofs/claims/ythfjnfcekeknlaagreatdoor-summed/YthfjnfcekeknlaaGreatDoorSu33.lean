import Derived.Test.YthfjnfcekeknlaaGreatDoorSu30
import Derived.Deep.LoopGhost
set_option maxHeartbeats 8000000
set_option maxRecDepth 100000
namespace Go.Proofs.YthfjnfcekeknlaaGreatDoor
open Go.RowKit
theorem Dq (w:World) (p:Int):
 Calls Tryz.prog 44 #[.int .i64 p,.int .i64 0] w fun e w'=>e= .returned (.int .i64 0)∧w'=w:=by
 go_enter Tryz.func44,Tryz.ntmps44
 go_wp2_with fail
 go_ret
 exact⟨rfl,rfl⟩
def dL (p:Int) (n:Nat):Nat:=if n=0 then 0 else(p % (n:Int)).toNat
theorem zI (w:World) (p:Int) (n:Nat) (hl:n≤1000000000) (h1: -9223372036854775808≤p) (h2:p≤9223372036854775807):
 Calls Tryz.prog 44 #[.int .i64 p,.int .i64 (n:Int)] w fun e w'=>e= .returned (.int .i64 (dL p n:Int))∧w'=w:=by
 by_cases q:n=0
 ·subst q
  refine(Dq w p).mono ?_
  rintro e w' ⟨rfl,rfl⟩
  exact⟨rfl,rfl⟩
 ·refine(xC w p n (by omega) hl h1 h2).mono ?_
  rintro e w' ⟨rfl,rfl⟩
  unfold dL
  rw[if_neg q,Int.toNat_of_nonneg (Int.emod_nonneg p (show (n:Int)≠0 by omega))]
  exact⟨rfl,rfl⟩
theorem tX (p:Int) (n:Nat) (h:0<n):dL p n<n:=by
 unfold dL
 rw[if_neg (by omega)]
 have b1:=Int.emod_nonneg p (show (n:Int)≠0 by omega)
 have b2:=Int.emod_lt_of_pos p (show (0:Int)<(n:Int)by omega)
 omega
theorem nT.from {P:Nat→Prop} {mb:Nat} {cs:Array Value} {D:List Ng} {nO:Option Addr} {fr:Nat→Nat} {TT:Nat→Za.U} {G:List Gl} {po:Option Addr} {pc:Nat} {cls:List Za.aL} {own:List Nat} {bg n i:Nat} {gi:Gl} {w w1:World} {e:Ending} {w':World} (hb:Below w.heap.size w w1) (h:nT P mb cs D nO fr TT G po pc cls own bg n i gi w1 e w'):nT P mb cs D nO fr TT G po pc cls own bg n i gi w e w':=by
 rcases h with⟨rs,c,V,F,T2,ws,E,F',no',nc',T',Gn,po',pc',h1,h2,h3,h4,h5,h6,h7,h8,h9,h10,h11,h12,h13,h14,h15,h16,h17,h18⟩ | ⟨rs,h1,h2,h3,h4,h5,h6⟩ | ⟨rs,E,no1,nc1,T1,oo,oc,h1,h2,h3,h4,h5,h6,h7,h8,h9,h10,h11,h12⟩
 ·exact Or.inl ⟨rs,c,V,F,T2,ws,E,F',no',nc',T',Gn,po',pc',h1,h2,h3,h4,h5,h6,h7,h8,h9,h10,h11,h12,h13,h14,h15,h16,h17,(au.aw hb).trans h18⟩
 ·exact Or.inr (Or.inl ⟨rs,h1,h2,h3,h4,h5,(au.aw hb).trans h6⟩)
 ·exact Or.inr (Or.inr ⟨rs,E,no1,nc1,T1,oo,oc,h1,h2,h3,h4,h5,h6,h7,h8,h9,h10,fun k q=>Nat.le_trans hb.size (h11 k q),(au.aw hb).trans h12⟩)
theorem Ob {cls:List Za.aL} {tx:List UInt8} {m j:Nat}:∀x∈Za.cC cls tx m j,x<cls.length:=fun x hx=>by
 have:=(List.mem_filter.1 hx).2
 cases q:cls[x]? with
 | none=>rw[q]at this;cases this
 | some c=>exact(List.getElem?_eq_some_iff.1 q).1
theorem nT.int {P:Nat→Prop} {mb:Nat} {cs:Array Value} {D:List Ng} {nO:Option Addr} {fr:Nat→Nat} {TT:Nat→Za.U} {G:List Gl} {po:Option Addr} {pc:Nat} {cls:List Za.aL} {own:List Nat} {bg n i:Nat} {gi:Gl} {w:World} {e:Ending} {w':World} (h:nT P mb cs D nO fr TT G po pc cls own bg n i gi w e w'):∃z:Int,e= .returned (.int .i64 z):=by
 rcases h with⟨_,_,_,_,_,_,_,_,_,_,_,_,_,_,_,_,_,_,rfl,_⟩ | ⟨_,_,_,_,rfl,_⟩ | ⟨_,_,_,_,_,_,_,_,_,_,rfl,_⟩
 ·exact⟨_,rfl⟩
 ·exact⟨_,rfl⟩
 ·exact⟨_,rfl⟩
theorem Le (w:World) (mb:Nat) (cs:Array Value) (D:List Ng) (nO:Option Addr) (nC:Nat) (fr:Nat→Nat) (TT:Nat→Za.U) (P:Nat→Prop) (G:List Gl) (po:Option Addr) (pc:Nat) (cls:List Za.aL) (clo:Option Addr) (clc n:Nat) (d:Ng) (i:Nat) (gi:Gl) (p:Int) (hm:cP w mb cs D nO nC fr G po pc) (bC:aZ w D P) (fD:Za.dG (aX D) fr TT) (hP:∀g,w.heap.size≤g→P g) (h0:cs[0]?=some (.slice clo cls.length clc)) (gf:dh w clo cls.length cls) (mS:∀c∈cls,Za.jK c) (hcc:cls.length≤12) (hi:i<G.length) (fj:G[i]=gi) (hn:n<D.length) (hd:D[fr n]?=some d) (hk:d.k=3) (hsz:Za.size (TT n)≤300) (oC: -9223372036854775808≤p) (vN:p≤9223372036854775807) (hD:D.length+6000000≤1000000000) (hGl:G.length≤1000000) (xv:5<cs.size):
 Calls Tryz.prog 140 #[.pointer (some ⟨mb,0,none⟩),.int .i64 (i:Int),.int .i64 (n:Int),.int .i64 p] w fun e w'=>nT P mb cs D nO fr TT G po pc cls (Za.cC cls d.tx.toList d.args.length cls.length) (dL p (Za.cC cls d.tx.toList d.args.length cls.length).length) n i gi w e w':=by
 have IQ:=af (Ab w mb cs D nO nC fr n d cls clo clc hm.st hm.ok hn hd hk h0 gf (fun c hc=>(mS c hc).hk) hcc)
 have Um:=Za.Cj cls d.tx.toList d.args.length cls.length
 have hlt:=Ob (cls:=cls) (tx:=d.tx.toList) (m:=d.args.length) (j:=cls.length)
 generalize Za.cC cls d.tx.toList d.args.length cls.length=own at*
 have VB:own.length≤12:=by omega
 have hbg:=tX p own.length
 have IB:=af (fun W=>zI W p own.length (by omega) oC vN)
 generalize dL p own.length=bg at*
 clear hd hk d
 have VC:=af hlt
 have H0:=af h0
 have HM:=af hm
 have n9:=af bC
 have QJ:=af fD
 have HP:=af hP
 have vK:=af gf
 have QK:=af mS
 have Xf:=af fj
 have HN:=af hn
 have j9:=af hsz
 have HD:=af hD
 have mz:=ag hm.st.blk
 have Un:=af (show∀g∈G,∀k,rowOf g.no k→k<w.heap.size from fun g hg k hk=>(cr (hm.nds g hg) hk).2)
 clear hlt hm bC fD hP gf mS fj hn hsz oC vN hD Um h0
 go_enter Tryz.func140,Tryz.ntmps140
 go_wp2_with fail
 refine(ae IQ).mono ?_
 rintro e w1 ⟨yo,yc,rfl,ow1,hb1⟩
 have z1:=hb1.size
 have Lf:=af ow1
 have bD:=af hb1
 have HST:=af (show Uk P w1 mb cs D nO fr TT G po pc cls own bg n own.length (.bool false) (.slice none 0 0) (.int .i64 0) w1 from by
  have Pj:=(ae HM).below hb1
  refine⟨[],[],nO,nC,TT,none,0,by simp,rfl,rfl,rfl,⟨by simpa [Za.cF] using World.ownsRow_nil _ _ _ _,(fun t r hr=>by simp at hr),?_,?_,by simpa using ae QJ,fun _ _=>rfl,(fun i d hd=>by simp at hd),by simp,(fun v hv=>by simp[Za.cF]at hv),by simp[Za.cF],⟨rfl,rfl,rfl,Nat.le_refl _,fun _ _ _=>rfl,fun k q=> ?_⟩⟩⟩
  ·rw[List.append_nil,l9 Pj.st.cel];exact Pj
  ·rw[List.append_nil]
   exact((ae n9).below hb1).keep fun g _ hp hg=>⟨hg,hp,fun⟨_,q,_⟩=>by cases q⟩
  ·rcases q with q | ⟨_,q,_⟩
   ·exact Or.inl q
   ·cases q)
 clear ow1 hb1 IQ
 go_wp2_with fail
 refine(ae IB _).mono ?_
 rintro e w1 ⟨rfl,rfl⟩
 go_wp2_with fail
 go_loopg [11,12,25] own.length (fun k wv av iv wr=>Uk P w1 mb cs D nO fr TT G po pc cls own bg n k wv av iv wr)
 case atStart=>exact ae HST
 case round=>
  clear HST IB
  obtain⟨rs,E,no1,nc1,T1,oo,oc,hkj,rfl,rfl,rfl,fu⟩:=hrel
  by_cases hlt:rs.length<own.length
  ·have hbl:bg<own.length:=hbg (by omega)
   have t0:decide (rs.length<own.length)=true:=by simpa using hlt
   have FR:(bg+rs.length) % own.length<own.length:=Nat.mod_lt _ (by omega)
   have vL:own[(bg+rs.length) % own.length]<cls.length:=ae VC _ (List.getElem_mem FR)
   have QL:gY own bg rs.length=own[(bg+rs.length) % own.length]:=by unfold gY;rw[List.getElem?_eq_getElem FR];rfl
   have MK:eG w1 wr:=fun g ys S hg hS=>((ae HM).below (ae bD)).st.rC fu.fg hg (by rcases hS with q | q | q<;>(rw[q];decide)) (by rcases hS with q | q | q<;>(rw[q];decide))
   have Lg:dh wr clo cls.length cls:=MK.cls ((eG.below (ae bD)).cls (ae vK))
   obtain⟨g,hg⟩:∃g,yo=some ⟨g,0,none⟩:=by
    rcases(ae Lf).2 with⟨q,q2⟩ | ⟨g,cp,cur,q,_⟩
    ·omega
    ·simp only[Value.slice.injEq]at q
     exact⟨g,q.1⟩
   subst hg
   have FT:wr.ownsRow w.heap.size 3 1 (.slice (some ⟨g,0,none⟩) own.length yc) own.length (own.map aM):=ai (ae Lf) fun k q=>by
    obtain⟨cur,qh⟩:=aK (ae Lf) (aI q)
    exact(((ae HM).below (ae bD)).st.rC fu.fg qh (by decide) (by decide)).trans qh.symm
   have Ye:=af FT
   have gz:=(FT.lt g rfl).2
   have fq:wr.cell? ⟨g,(bg+rs.length) % own.length,none⟩=some (.int .i64 (own[(bg+rs.length) % own.length]:Int)):=by
    rw[FT.cellAt _ (by omega),List.getElem?_map,List.getElem?_eq_getElem FR]
    rfl
   have IC:=af (fun W=>xC W ((bg:Int)+(rs.length:Int)) own.length (by omega) (by omega) (by omega) (by omega))
   have e0:((bg:Int)+(rs.length:Int)) % (own.length:Int)=(((bg+rs.length) % own.length:Nat):Int):=by rw[Int.natCast_emod,Int.natCast_add]
   rw[e0]at IC
   generalize hq:(bg+rs.length) % own.length=q at*
   generalize Ee:own[q]=which at*
   obtain⟨gc,vs,ca,QM,hcb,Ef,FU⟩:=Lg.2 (fun e=>by rw[e]at vL;simp at vL)
   have kL:which<vs.length:=by have:=FU.length;omega
   have fc:∀i,i<6→wr.cell? ⟨gc,which*6+i,none⟩=(oz vs[which])[i]?:=fun i hi=>by
    rw[ah hcb,←Array.getElem?_toList,←B1 kL i hi,←Ef,List.getElem?_take_of_lt (by omega)]
   have f0:=fc 0 (by omega)
   have f1:=fc 1 (by omega)
   have f2:=fc 2 (by omega)
   have f3:=fc 3 (by omega)
   have f4:=fc 4 (by omega)
   have f5:=fc 5 (by omega)
   simp only[oz,List.getElem?_cons_zero,List.getElem?_cons_succ,Nat.add_zero]at f0 f1 f2 f3 f4 f5
   have gcz:=ag hcb
   have zF:eJ wr vs[which].a vs[which].o1 vs[which].n1 vs[which].o2 vs[which].n2 cls[which]:=FU.at which kL vL
   have hDE:(D++E).length+5000000≤1000000000:=by
    have h1:=fu.el
    have h2:=ae HD
    have h3:rs.length*78732≤12*78732:=Nat.mul_le_mul_right _ (by omega)
    rw[List.length_append]
    omega
   have hT1:T1 n=TT n:=fu.old n (ae HN)
   have hnDE:n<(D++E).length:=Nat.lt_of_lt_of_le (ae HN) (dW _ _)
   have IA:=af (fun W (hu:Below wr.heap.size wr W)=>(Lb W mb (cs.setIfInBounds 1 (.slice no1 (D++E).length nc1)) (D++E) no1 nc1 fr T1 (fun g=>P g∧¬rowOf oo g) vs[which].a vs[which].o1 vs[which].o2 vs[which].n1 vs[which].c1 vs[which].n2 vs[which].c2 n cls[which] ⟨fu.mc.st.below hu,fu.mc.ok,fu.to,fu.ar.below hu,Nat.le_refl _⟩ (fun g hg=>⟨ae HP g (by have:=hu.size;have:=fu.fg.size;omega),fun q=>by have:=(cr fu.ow q).2;have:=hu.size;omega⟩) (zF.keep (aU.below hu)) (ae QK _ (List.getElem_mem vL)) hnDE (by rw[hT1];exact ae j9) (by omega)).mono (fun e w' q=>q.base hu))
   have m0:wr.cell? ⟨mb,0,none⟩=some (.slice clo cls.length clc):=(ah fu.mc.st.blk 0).trans (by rw[Array.getElem?_setIfInBounds_ne (by omega)];exact ae H0)
   have mzr:=ag fu.mc.st.blk
   rw[QM]at m0
   generalize vs[which]=v at*
   obtain⟨⟨ak0,av0,ax0,ao0,an0,ac0⟩,o1,n1,c1,o2,n2,c2⟩:=v
   dsimp only at f0 f1 f2 f3 f4 f5 IA
   have i0:(0:Int)≤(q:Int):=by omega
   have i1:(q:Int)<(own.length:Int):=by omega
   have k0:(0:Int)≤(which:Int):=by omega
   have k1:(which:Int)<(cls.length:Int):=by omega
   have iU:=af fu
   have VD:=af Lg
   have Cm:=af vL
   have QN:=af QL
   have Xg:=af hDE
   have bh:=af hlt
   have aT:=af hkj
   have Pv:=af hT1
   have DJ:=af QM
   have fy:rs.length≤12:=by omega
   clear fu Lg MK FT hcb Ef FU kL fc zF hDE hT1 hnDE QL hlt hkj QM e0 hq Ee FR
   go_wp2_with fail
   refine(ae IC _).mono ?_
   rintro e wr ⟨rfl,rfl⟩
   go_wp2_with fail
   go_region_with (go_at_call 182;refine(ae IA _ (by first | exact Below.refl _ _ | exact(Below.refl _ _).drew | exact((Below.refl _ _).alloc (Nat.le_refl _) _).drew | exact(Below.refl _ _).alloc (Nat.le_refl _) _ | exact(Below.refl _ _).drew.alloc (Nat.le_refl _) _)).mono ?_;rintro y w2 ⟨⟨says,ws,xo,xc,vo2,vl,vc2,E2,V,F,no2,nc2,T2,rfl,Uo,qC,Lh,QO,QP,FV,FW,FX,Li,Lj,QQ,Lk,B2⟩,R9,hfgW⟩;first | (have ab:=((ae iU).mc.st.below (by first | exact((Below.refl _ _).alloc (Nat.le_refl _) _).drew | exact(Below.refl _ _).alloc (Nat.le_refl _) _)).rC hfgW (heap_alloc_new wr _) (by decide) (by decide);have b0:=ah ab 0;have b1:=ah ab 1;have b2:=ah ab 2;have y0:=ay ab 0;have y1:=ay ab 1;have y2:=ay ab 2;have abz:=ag ab;simp only[List.getElem?_toArray,List.getElem?_cons_zero,List.getElem?_cons_succ]at b0 b1 b2) | skip)
   all_goals
    first
     | (have tk:=sw.KV ab (.int .i64 (says:Int)) (.slice xo ws.length xc) (.slice vo2 vl vc2)
        have hab:=aA (aA (aA ab 0 (.int .i64 (says:Int))) 1 (.slice xo ws.length xc)) 2 (.slice vo2 vl vc2)
        have zJ:=((Lk.eO (Nat.le_refl _) 0 (.int .i64 (says:Int))).eO (Nat.le_refl _) 1 (.slice xo ws.length xc)).eO (Nat.le_refl _) 2 (.slice vo2 vl vc2)
        clear ab b0 b1 b2 y0 y1 y2 abz
        generalize (((w2.setCell ⟨wr.heap.size,0,none⟩ (.int .i64 (says:Int))).setCell ⟨wr.heap.size,1,none⟩ (.slice xo ws.length xc)).setCell ⟨wr.heap.size,2,none⟩ (.slice vo2 vl vc2))=w9 at*)
     | (have tk:=sw.alloc w2 (.cells #[.int .i64 (says:Int),.slice xo ws.length xc,.slice vo2 vl vc2] 245)
        have hab:=heap_alloc_new w2 (.cells #[.int .i64 (says:Int),.slice xo ws.length xc,.slice vo2 vl vc2] 245)
        have zJ:=Lk.trans (au.aw ((Below.refl _ _).alloc (Nat.le_refl _) (.cells #[.int .i64 (says:Int),.slice xo ws.length xc,.slice vo2 vl vc2] 245)))
        generalize w2.alloc (.cells #[.int .i64 (says:Int),.slice xo ws.length xc,.slice vo2 vl vc2] 245)=w9 at*)
    have c0:=ah hab 0
    have c1:=ah hab 1
    have c2:=ah hab 2
    have abz:=ag hab
    simp only[List.getElem?_toArray,List.getElem?_cons_zero,List.getElem?_cons_succ,List.setIfInBounds_toArray,List.set_cons_zero,List.set_cons_succ]at c0 c1 c2
    have st9:=tk.st QP
    have ar9:=tk.args QQ
    have xo9:=tk.row Uo (by decide)
    have Xh:=af Lh
    have jx:=af (show says≠1→∀(oo':Option Addr) (oc':Nat) (w':World),w'.ownsRow w1.heap.size 3 1 (.slice oo' (Za.cF (rs++[(says,ws)])).length oc') (Za.cF (rs++[(says,ws)])).length ((Za.cF (rs++[(says,ws)])).map aM)→w9.grownBy w' (Value.slice oo (Za.cF rs).length oc).ownBlock→(∀k,rowOf oo' k→rowOf oo k∨w9.heap.size≤k)→Cl P w1 mb cs D nO fr TT G po pc cls own bg n (E++E2) no2 nc2 T2 (rs++[(says,ws)]) oo' oc' w' from fun hs1 oo' oc' w' k1 k2 k3=>(ae iU).next (fun g hg k hk=>Nat.lt_of_lt_of_le (ae Un g hg k hk) z1) (by rw[ae QN];exact List.getElem?_eq_getElem (ae Cm)) qC (ae HN) hs1 Lh QO st9 FV FW FX Li Lj ar9 zJ (Below.refl _ _) k1 k2 k3)
    have zK:=af (show w9.ownsRow w1.heap.size 3 1 (.slice oo (Za.cF rs).length oc) (Za.cF rs).length ((Za.cF rs).map aM)from ai (ae iU).ow fun k q=>by
     obtain⟨cur,qh⟩:=aK (ae iU).ow (aI q)
     exact((ae iU).mc.st.rC zJ qh (by decide) (by decide)).trans qh.symm)
    have QR:=af xo9
    have Up:=af (show w1.heap.size≤w9.heap.size from Nat.le_trans (ae iU).fg.size zJ.size)
    have MN:=af (show says=1→vl=(V++F).length∧Calls Tryz.prog 183 #[.pointer (some ⟨mb,0,none⟩),.int .i64 (i:Int),.int .i64 (which:Int),.agg #[.slice vo2 vl vc2]] w9 fun e w'=>nT P mb cs D nO fr TT G po pc cls own bg n i gi w e w' from fun hs1=>by
     subst hs1
     obtain⟨j1,rfl,j3,j4,j5,j6,j7⟩:=B2 rfl
     refine⟨rfl,?_⟩
     have Xi:=(ae iU).mc.asked st9 FV (dW _ _) zJ
     have VE:eG wr w9:=fun g ys S hg hS=>(ae iU).mc.st.rC zJ hg (by rcases hS with q | q | q<;>(rw[q];decide)) (by rcases hS with q | q | q<;>(rw[q];decide))
     have VG:=FO w9 mb _ ((D++E)++E2) (V++F) no2 nc2 vo2 vc2 fr T2 P G po pc i which cls clo clc Xi (ar9.keep fun g _ hp hg=>⟨hg,hp.1.1,hp.2⟩) FW (tk.row j3 (by decide)) j5 (fun x hx k hk hk2=>by
      have q1:=ae Un x hx k hk
      rcases j4 k hk2 with(e | e) | e
      ·obtain⟨cur,qh⟩:=aK ((ae iU).mc.nds x hx) hk
       rw[e,(ae iU).mc.st.blk]at qh
       simp only[Option.some.injEq,Obj.cells.injEq]at qh
       exact absurd qh.2.1 (by decide)
      ·obtain⟨cur,qh⟩:=aK ((ae iU).mc.nds x hx) hk
       exact aR (ae iU).mc.st.own qh (by decide) e
      ·have:=(ae iU).fg.size;omega) (fun g hg=>ae HP g (by have:=ae Up;omega)) (by rw[set_set,Array.getElem?_setIfInBounds_ne (by omega)];exact ae H0) (VE.cls (ae VD)) (ae Cm) hcc (ae QK _ (List.getElem_mem (ae Cm))) j6 (by have:=ae Xg;have hq:(D++E++E2).length=(D++E).length+E2.length:=List.length_append;omega) hGl
     refine VG.mono fun e w' hp=> ?_
     have ho:=ae QN
     exact((ae iU).fin (ae bh) VB (by rw[ho];exact List.getElem?_eq_getElem (ae Cm)) qC (ae HN) FV FW FX Li Lj zJ j4 j5 j7 (by rw[ho];exact hp)).from (ae bD))
    have hs3:says=1∨says=2∨says=3:=by
     rcases qC with⟨_,q,_⟩ | ⟨_,_,_,_,_,q,_⟩
     ·rw[q];exact Ap _
     ·rw[q];exact Ap _
    clear st9 ar9 xo9 tk QP QQ Uo zJ Lk hfgW qC Lh QO FV FW FX Li Lj B2 hab
    rcases hs3 with rfl | rfl | rfl
    ·have hcm:=(ae MN rfl).2
     have IM:=af hcm
     clear hcm MN jx zK QR
     go_wp2_with fail
     refine(ae IM).mono ?_
     intro y w10 h10
     obtain⟨z10,rfl⟩:=h10.int
     have xM:=af h10
     clear h10 IM
     go_wp2_with fail
     go_ret
     exact ae xM
    ·have dC:Za.cF (rs++[(2,ws)])=Za.cF rs:=by rw[Za.qg];simp
     have Ja:Za.mj (rs++[(2,ws)])=Za.mj rs:=by rw[Za.zG];simp
     have Jb:=ae jx (by omega) oo oc w9 (by rw[dC];exact ae zK) (World.grownBy.refl _ _) (fun k q=>Or.inl q)
     have QT:=af Jb
     have DZ:=af dC
     have QU:=af Ja
     clear Jb dC Ja MN jx zK QR
     go_wp2_with fail
     go_roundg (gk - 1)
     case measure=>have:=ae aT;have:=ae bh;omega
     case rel=>exact⟨rs++[(2,ws)],_,_,_,_,_,_,by have:=ae aT;have:=ae bh;simp;omega,by rw[List.length_append];go_num,by rw[ae QU],by rw[ae DZ],ae QT⟩
    ·have dC:Za.cF (rs++[(3,ws)])=Za.cF rs++ws:=by rw[Za.qg];simp
     have Ja:Za.mj (rs++[(3,ws)])=true:=by rw[Za.zG];simp
     have o7:(Za.cF rs).length+ws.length≤1000000000:=by
      have h1:=(ae iU).ln
      have h2:rs.length*12000000≤12*12000000:=Nat.mul_le_mul_right _ fy
      have h3:=ae Xh
      omega
     have DZ:=af dC
     have QU:=af Ja
     have jD:=af o7
     clear dC Ja o7 MN
     go_wp2_with (at_builtin;go_must (refine Dp rfl (.tmp 61) (.tmp 63) rfl w1.heap.size wr.heap.size (.slice oo (Za.cF rs).length oc) (Za.cF rs).length (Za.cF rs) rfl (ae zK) xo ws.length xc ws rfl (ae QR) (ae jD) (ae Up) ?_);go_must (intro v' w12 hown' hgrow hat;obtain⟨oo',oc',hv'⟩:=gG hown';subst hv';have VH:=af (show w12.ownsRow w1.heap.size 3 1 (.slice oo' (Za.cF (rs++[(3,ws)])).length oc') (Za.cF (rs++[(3,ws)])).length ((Za.cF (rs++[(3,ws)])).map aM)from by rw[ae DZ,List.length_append];exact hown');have QT:=af (ae jx (by omega) oo' oc' w12 (ae VH) hgrow (fun k q=>by rcases hat with e | e;exact Or.inl (aI (by rw[←e];obtain⟨pp,hp,hk⟩:=q;rw[hp,hk];rfl));(right;obtain⟨pp,hp,hk⟩:=q;rw[hp]at e;have e2:pp.block=w9.heap.size:=(by simpa [Value.ownBlock] using e);omega)));clear hown' hgrow hat))
     go_roundg (gk - 1)
     case measure=>have:=ae aT;have:=ae bh;omega
     case rel=>exact⟨rs++[(3,ws)],_,_,_,_,_,_,by have:=ae aT;have:=ae bh;simp;omega,by rw[List.length_append];go_num,by rw[ae QU],by rw[ae DZ,List.length_append],ae QT⟩
  ·have fy:rs.length=own.length:=by omega
   have t0:decide (rs.length<own.length)=false:=by simp;omega
   have iU:=af fu
   have xN:=af fy
   cases FY:Za.mj rs with
   | false=>
    have IFL:=af (wB wr mb _ 4 fu.mc.st.blk (by simpa using xv))
    have QW:=af (aA fu.mc.st.blk 5 (.int .i64 4))
    have Ll:=af FY
    clear fu hkj hlt fy FY
    go_wp2_with fail
    refine(ae IFL).mono ?_
    rintro y w3 ⟨rfl,rfl⟩
    go_wp2_with fail
    go_ret
    refine(Or.inr (Or.inl ⟨rs,ae xN,(ae iU).tr,ae Ll,rfl,⟨_,ae QW,no1,_,nc1,rfl⟩,?_⟩):nT P mb cs D nO fr TT G po pc cls own bg n i gi w _ _)
    have hf:=(ae iU).fg
    have hz:=(ae bD).size
    refine(au.aw (ae bD)).trans ⟨hf.os,hf.tape,hf.output,by rw[cL];exact hf.size,fun k hk hr=> ?_,fun k q=>Or.inl (Or.inl q)⟩
    rw[aJ _ _ _ _ (fun e=>hr (Or.inl e)),hf.block k hk hr]
   | true=>
    have hD2:(Za.cF rs).length≤1000000000:=by
     have h1:=fu.ln
     have h2:rs.length*12000000≤12*12000000:=Nat.mul_le_mul_right _ (by omega)
     omega
    have IW:=af (B8 wr mb _ (D++E) no1 nc1 fr G po pc i gi (Za.cF rs) oo oc fu.mc hi (ae Xf) (ct fu.ow (Nat.zero_le _)) fu.lt hD2)
    have Ll:=af FY
    clear fu hkj hlt fy FY hD2
    go_wp2_with fail
    refine(ae IW).mono ?_
    rintro y w3 ⟨rfl,mc3,fr3⟩
    have Qo:=af mc3
    have vE:=af fr3
    clear mc3 fr3 IW
    go_wp2_with fail
    go_ret
    have hf:=(ae iU).fg
    have Xj:=(ae iU).mc
    have fC:=(ae iU).el
    have h12:rs.length*78732≤12*78732:=Nat.mul_le_mul_right _ (by have:=ae xN;omega)
    refine(Or.inr (Or.inr ⟨rs,E,no1,nc1,T1,oo,oc,ae xN,(ae iU).tr,ae Ll,rfl,ae Qo,?_,(ae iU).to,(ae iU).old,(ae iU).nd,by omega,fun k q=>Nat.le_trans (ae bD).size (cr (ae iU).ow q).1,?_⟩):nT P mb cs D nO fr TT G po pc cls own bg n i gi w _ _)
    ·exact(ae iU).ar.keep fun g _ hp hg=>⟨((ae vE).block g (ag hg) (aR Xj.pool hg (by decide))).trans hg,hp.1⟩
    ·refine(au.aw (ae bD)).trans ⟨(ae vE).os.trans hf.os,(ae vE).tape.trans hf.tape,(ae vE).output.trans hf.output,Nat.le_trans hf.size (ae vE).size,fun k hk hr=> ?_,fun k q=> ?_⟩
     ·rw[(ae vE).block k (Nat.lt_of_lt_of_le hk hf.size) (fun e=>hr (Or.inr e)),hf.block k hk (fun e=>hr (Or.inl e))]
     ·rcases q with q | q
      ·rcases hf.row k (Or.inl q)with e | e
       ·exact Or.inl (Or.inl e)
       ·exact Or.inr e
      ·exact Or.inl (Or.inr q)
end Go.Proofs.YthfjnfcekeknlaaGreatDoor
