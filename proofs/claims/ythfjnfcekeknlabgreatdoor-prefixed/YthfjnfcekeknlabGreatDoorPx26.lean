import Derived.Test.YthfjnfcekeknlabGreatDoorPx25
import Derived.Deep.LoopGhost
set_option maxHeartbeats 8000000
set_option maxRecDepth 100000
set_option linter.unusedSimpArgs false
namespace Go.Proofs.YthfjnfcekeknlabGreatDoor
open Go.RowKit af
variable {TT:Nat->af.U} {gi:Gl} {G:List Gl} {n i mb bg pc j m:Nat} {cls:List af.dE} {nO po:Option Addr} {fr:Nat->Nat} {e:Ending} {w1 w' w:World} {D:List Ng} {cs:Array Value} {P:Nat->Prop} {own:List Nat} {tx:List UInt8}
theorem Bz (w:World) (p:Int):
 Calls Tryz.prog 36 #[.int .i64 p,.int .i64 0] w fun e w'=>e= .returned (.int .i64 0)/\w'=w:=by
 go_enter Tryz.func36,Tryz.ntmps36;go_wp2_with fail;go_ret;exact⟨rfl,rfl⟩
def jX (p:Int) (n:Nat):Nat:=if n=0 then 0 else(p % (n:Int)).toNat
theorem vM (w:World) (p:Int) (n:Nat) (hl:n<=1000000000) (h1: -9223372036854775808<=p) (h2:p<=9223372036854775807):
 Calls Tryz.prog 36 #[.int .i64 p,.int .i64 (n:Int)] w fun e w'=>e= .returned (.int .i64 (jX p n:Int))/\w'=w:=by
 by_cases q:n=0
 ·subst q;refine(Bz w p).mono ?_;rintro e w' ⟨rfl,rfl⟩;exact⟨rfl,rfl⟩
 ·refine(tO w p n (by omega) hl h1 h2).mono ?_;rintro e w' ⟨rfl,rfl⟩;unfold jX;rw[aG q,jz (gN p (show (n:Int)≠0 by omega))]
  exact⟨rfl,rfl⟩
theorem C3 (p:Int) (n:Nat) (h:0<n):jX p n<n:=by
 unfold jX;rw[aG (by omega)];have b1:=gN p (show (n:Int)≠0 by omega)
 have b2:=jV p (show (0:Int)<(n:Int)by omega)
 omega
theorem rl.from (hb:Below w.heap.size w w1) (h:rl P mb cs D nO fr TT G po pc cls own bg n i gi w1 e w'):rl P mb cs D nO fr TT G po pc cls own bg n i gi w e w':=by
 rcases h with⟨rs,c,V,F,T2,ws,E,F',no',nc',T',Gn,po',pc',h1,h2,h3,h4,h5,h6,h7,h8,h9,h10,h11,h12,h13,h14,h15,h16,h17,h18⟩ | ⟨rs,h1,h2,h3,h4,h5,h6⟩ | ⟨rs,E,no1,nc1,T1,oo,oc,h1,h2,h3,h4,h5,h6,h7,h8,h9,h10,h11,h12⟩
 ·exact ay ⟨rs,c,V,F,T2,ws,E,F',no',nc',T',Gn,po',pc',h1,h2,h3,h4,h5,h6,h7,h8,h9,h10,h11,h12,h13,h14,h15,h16,h17,(bZ.aX hb).trans h18⟩
 ·exact aw (ay ⟨rs,h1,h2,h3,h4,h5,(bZ.aX hb).trans h6⟩)
 ·exact aw (aw ⟨rs,E,no1,nc1,T1,oo,oc,h1,h2,h3,h4,h5,h6,h7,h8,h9,h10,fun k q=>aW hb.size (h11 k q),(bZ.aX hb).trans h12⟩)
theorem KV:∀x∈eW cls tx m j,x<cls.length:=fun x hx=>by
 have:=(gL.1 hx).2;cases q:cls[x]? with
 | none=>rw[q]at this;cases this
 | some c=>exact(bl.1 q).1
theorem rl.int {P:Nat->Prop} {mb:Nat} {cs:Array Value} {D:List Ng} {nO:Option Addr} {fr:Nat->Nat} {TT:Nat->af.U} {G:List Gl} {po:Option Addr} {pc:Nat} {cls:List af.dE} {own:List Nat} {bg n i:Nat} {gi:Gl} {w:World} {e:Ending} {w':World} (h:rl P mb cs D nO fr TT G po pc cls own bg n i gi w e w'):∃z:Int,e= .returned (.int .i64 z):=by
 rcases h with⟨_,_,_,_,_,_,_,_,_,_,_,_,_,_,_,_,_,_,rfl,_⟩ | ⟨_,_,_,_,rfl,_⟩ | ⟨_,_,_,_,_,_,_,_,_,_,rfl,_⟩
 ·exact⟨_,rfl⟩
 ·exact⟨_,rfl⟩
 ·exact⟨_,rfl⟩
theorem Jh (w:World) (mb:Nat) (cs:Array Value) (D:List Ng) (nO:Option Addr) (nC:Nat) (fr:Nat->Nat) (TT:Nat->af.U) (P:Nat->Prop) (G:List Gl) (po:Option Addr) (pc:Nat) (cls:List af.dE) (clo:Option Addr) (clc n:Nat) (d:Ng) (i:Nat) (gi:Gl) (p:Int) (hm:jh w mb cs D nO nC fr G po pc) (har:di w D P) (hto:kx (e8 D) fr TT) (hP:∀g,w.heap.size<=g->P g) (h0:cs[0]?=some (.slice clo cls.length clc)) (hcl:ek w clo cls.length cls) (hokc:∀c∈cls,pV c) (hcc:cls.length<=12) (hi:i<G.length) (hgi:G[i]=gi) (hn:n<D.length) (hd:D[fr n]?=some d) (hk:d.k=3) (hsz:af.size (TT n)<=300) (hp1: -9223372036854775808<=p) (hp2:p<=9223372036854775807) (hD:D.length+6000000<=1000000000) (hGl:G.length<=1000000) (hc5:5<cs.size):
 Calls Tryz.prog 119 #[.pointer (some ⟨mb,0,none⟩),.int .i64 (i:Int),.int .i64 (n:Int),.int .i64 p] w fun e w'=>rl P mb cs D nO fr TT G po pc cls (eW cls d.tx.toList d.args.length cls.length) (jX p (eW cls d.tx.toList d.args.length cls.length).length) n i gi w e w':=by
 have IQ:=ah (uA w mb cs D nO nC fr n d cls clo clc hm.st hm.ok hn hd hk h0 hcl (fun c hc=>(hokc c hc).hk) hcc);have hol:=AK cls d.tx.toList d.args.length cls.length;have hlt:=KV (cls:=cls) (tx:=d.tx.toList) (m:=d.args.length) (j:=cls.length);generalize eW cls d.tx.toList d.args.length cls.length=own at*;have hol':own.length<=12:=by omega
 have hbg:=C3 p own.length;have IB:=ah (fun W=>vM W p own.length (by omega) hp1 hp2);generalize jX p own.length=bg at*;clear hd hk d;have HOLT:=ah hlt;have H0:=ah h0;have HM:=ah hm;have HAR:=ah har;have HTO:=ah hto;have HP:=ah hP;have HCL:=ah hcl;have HOKC:=ah hokc;have HGI:=ah hgi;have HN:=ah hn;have HSZ:=ah hsz;have HD:=ah hD;have mz:=aD hm.st.blk;have HGN:=ah (show∀g∈G,∀k,rowOf g.no k->k<w.heap.size from fun g hg k hk=>(dx (hm.pf g hg) hk).2)
 clear hlt hm har hto hP hcl hokc hgi hn hsz hp1 hp2 hD hol h0;go_enter Tryz.func119,Tryz.ntmps119;go_wp2_with fail;refine(ae IQ).mono ?_;rintro e w1 ⟨yo,yc,rfl,ow1,hb1⟩;have z1:=hb1.size;have HOW1:=ah ow1;have HB1:=ah hb1;have HST:=ah (show P5 P w1 mb cs D nO fr TT G po pc cls own bg n own.length (.bool false) (.slice none 0 0) (.int .i64 0) w1 from by
  have hm1:=(ae HM).below hb1;refine⟨[],[],nO,nC,TT,none,0,by simp,rfl,rfl,rfl,⟨by simpa [fE] using bD _ _ _ _,(fun t r hr=>by simp at hr),?_,?_,by simpa using ae HTO,fun _ _=>rfl,(fun i d hd=>by simp at hd),by simp,(fun v hv=>by simp[fE]at hv),by simp[fE],⟨rfl,rfl,rfl,Qw,fun _ _ _=>rfl,fun k q=> ?_⟩⟩⟩
  ·rw[br,mg hm1.st.qF];exact hm1
  ·rw[br];exact((ae HAR).below hb1).keep fun g _ hp hg=>⟨hg,hp,fun⟨_,q,_⟩=>by cases q⟩
  ·rcases q with q | ⟨_,q,_⟩
   ·exact ay q
   ·cases q)
 clear ow1 hb1 IQ;go_wp2_with fail;refine(ae IB _).mono ?_;rintro e w1 ⟨rfl,rfl⟩;go_wp2_with fail;go_loopg [11,12,25] own.length (fun k wv av iv wr=>P5 P w1 mb cs D nO fr TT G po pc cls own bg n k wv av iv wr)
 case atStart=>exact ae HST
 case round=>
  clear HST IB;obtain⟨rs,E,no1,nc1,T1,oo,oc,hkj,rfl,rfl,rfl,hca⟩:=hrel;by_cases hlt:rs.length<own.length
  ·have hbl:bg<own.length:=hbg (by omega);have t0:decide (rs.length<own.length)=true:=by simpa using hlt
   have hmod:(bg+rs.length) % own.length<own.length:=J1 _ (by omega);have hwl:own[(bg+rs.length) % own.length]<cls.length:=ae HOLT _ (aL hmod);have hord:jp own bg rs.length=own[(bg+rs.length) % own.length]:=by unfold jp;rw[aj hmod];rfl
   have hkp:gE w1 wr:=fun g ys S hg hS=>((ae HM).below (ae HB1)).st.o0 hca.fg hg (by rcases hS with q | q | q<;>(rw[q];decide)) (by rcases hS with q | q | q<;>(rw[q];decide));have hclr:ek wr clo cls.length cls:=hkp.cls ((gE.below (ae HB1)).cls (ae HCL));obtain⟨g,hg⟩:∃g,yo=some ⟨g,0,none⟩:=by
    rcases(ae HOW1).2 with⟨q,q2⟩ | ⟨g,cp,cur,q,_⟩
    ·omega
    ·simp only[aS]at q;exact⟨g,q.1⟩
   subst hg;have howr:wr.ownsRow w.heap.size 3 1 (.slice (some ⟨g,0,none⟩) own.length yc) own.length (own.map cN):=aO (ae HOW1) fun k q=>by obtain⟨cur,hcu⟩:=bL (ae HOW1) (bP q);exact(((ae HM).below (ae HB1)).st.o0 hca.fg hcu (by decide) (by decide)).trans hcu.symm
   have HOWR:=ah howr;have gz:=(howr.lt g rfl).2;have fq:wr.cell? ⟨g,(bg+rs.length) % own.length,none⟩=some (.int .i64 (own[(bg+rs.length) % own.length]:Int)):=by rw[howr.cellAt _ (by omega),bC,aj hmod];rfl
   have IC:=ah (fun W=>tO W ((bg:Int)+(rs.length:Int)) own.length (by omega) (by omega) (by omega) (by omega));have e0:((bg:Int)+(rs.length:Int)) % (own.length:Int)=(((bg+rs.length) % own.length:Nat):Int):=by rw[Int.natCast_emod,Int.natCast_add]
   rw[e0]at IC;generalize hq:(bg+rs.length) % own.length=q at*;generalize hwh:own[q]=which at*;obtain⟨gc,vs,ca,hco,hcb,hct,hcall⟩:=hclr.2 (fun e=>by rw[e]at hwl;simp at hwl);have hjv:which<vs.length:=by have:=hcall.length;omega
   have fc:∀i,i<6->wr.cell? ⟨gc,which*6+i,none⟩=(B4 vs[which])[i]?:=fun i hi=>by rw[aN hcb,<-ci,<-Cn hjv i hi,<-hct,cr (by omega)]
   have f0:=fc 0 (by omega);have f1:=fc 1 (by omega);have f2:=fc 2 (by omega);have f3:=fc 3 (by omega);have f4:=fc 4 (by omega);have f5:=fc 5 (by omega);simp only[B4,aq,aA,dJ]at f0 f1 f2 f3 f4 f5;have gcz:=aD hcb;have hcq:fJ wr vs[which].a vs[which].o1 vs[which].n1 vs[which].o2 vs[which].n2 cls[which]:=hcall.at which hjv hwl;have hDE:(D++E).length+5000000<=1000000000:=by have h1:=hca.el;have h2:=ae HD;have h3:rs.length*78732<=12*78732:=bY _ (by omega);rw[au];omega
   have hT1:T1 n=TT n:=hca.old n (ae HN);have hnDE:n<(D++E).length:=aJ (ae HN) (eX _ _);have IA:=ah (fun W (hu:Below wr.heap.size wr W)=>(Jq W mb (cs.setIfInBounds 1 (.slice no1 (D++E).length nc1)) (D++E) no1 nc1 fr T1 (fun g=>P g/\¬rowOf oo g) vs[which].a vs[which].o1 vs[which].o2 vs[which].n1 vs[which].c1 vs[which].n2 vs[which].c2 n cls[which] ⟨hca.mc.st.below hu,hca.mc.ok,hca.to,hca.ar.below hu,Qw⟩ (fun g hg=>⟨ae HP g (by have:=hu.size;have:=hca.fg.size;omega),fun q=>by have:=(dx hca.ow q).2;have:=hu.size;omega⟩) (hcq.keep (cK.below hu)) (ae HOKC _ (aL hwl)) hnDE (by rw[hT1];exact ae HSZ) (by omega)).mono (fun e w' q=>q.base hu));have m0:wr.cell? ⟨mb,0,none⟩=some (.slice clo cls.length clc):=(aN hca.mc.st.blk 0).trans (by rw[dp (by omega)];exact ae H0);have mzr:=aD hca.mc.st.blk;rw[hco]at m0;generalize vs[which]=v at*;obtain⟨⟨ak0,av0,ax0,ao0,an0,ac0⟩,o1,n1,c1,o2,n2,c2⟩:=v;dsimp only at f0 f1 f2 f3 f4 f5 IA;have i0:(0:Int)<=(q:Int):=by omega
   have i1:(q:Int)<(own.length:Int):=by omega
   have k0:(0:Int)<=(which:Int):=by omega
   have k1:(which:Int)<(cls.length:Int):=by omega
   have HCA:=ah hca;have HCLR:=ah hclr;have HWL:=ah hwl;have HORD:=ah hord;have HDE:=ah hDE;have HLT:=ah hlt;have HKJ:=ah hkj;have HT1:=ah hT1;have HCO:=ah hco;have hrl:rs.length<=12:=by omega
   clear hca hclr hkp howr hcb hct hcall hjv fc hcq hDE hT1 hnDE hord hlt hkj hco e0 hq hwh hmod;go_wp2_with fail;refine(ae IC _).mono ?_;rintro e wr ⟨rfl,rfl⟩;go_wp2_with fail;go_region_with (go_at_call 159;refine(ae IA _ (by first | exact Qx | exact Qx.drew | exact(Qx.alloc Qw _).drew | exact Qx.alloc Qw _ | exact Qx.drew.alloc Qw _)).mono ?_;rintro y w2 ⟨⟨says,ws,xo,xc,vo2,vl,vc2,E2,V,F,no2,nc2,T2,rfl,hxo,hans,hwl2,hwlt,hst2,hok2,hto2,hold2,hnd2,hel2,har2,hfg2,hyes⟩,R9,hfgW⟩;first | (have ab:=((ae HCA).mc.st.below (by first | exact(Qx.alloc Qw _).drew | exact Qx.alloc Qw _)).o0 hfgW (aB wr _) (by decide) (by decide);have b0:=aN ab 0;have b1:=aN ab 1;have b2:=aN ab 2;have y0:=bI ab 0;have y1:=bI ab 1;have y2:=bI ab 2;have abz:=aD ab;simp only[aE,aq,aA]at b0 b1 b2) | skip)
   all_goals
    first
     | (have tk:=FW.MX ab (.int .i64 (says:Int)) (.slice xo ws.length xc) (.slice vo2 vl vc2)
        have hab:=bB (bB (bB ab 0 (.int .i64 (says:Int))) 1 (.slice xo ws.length xc)) 2 (.slice vo2 vl vc2);have hf9:=((hfg2.iG Qw 0 (.int .i64 (says:Int))).iG Qw 1 (.slice xo ws.length xc)).iG Qw 2 (.slice vo2 vl vc2);clear ab b0 b1 b2 y0 y1 y2 abz;generalize (((w2.setCell ⟨wr.heap.size,0,none⟩ (.int .i64 (says:Int))).setCell ⟨wr.heap.size,1,none⟩ (.slice xo ws.length xc)).setCell ⟨wr.heap.size,2,none⟩ (.slice vo2 vl vc2))=w9 at*)
     | (have tk:=FW.alloc w2 (.cells #[.int .i64 (says:Int),.slice xo ws.length xc,.slice vo2 vl vc2] 224)
        have hab:=aB w2 (.cells #[.int .i64 (says:Int),.slice xo ws.length xc,.slice vo2 vl vc2] 224);have hf9:=hfg2.trans (bZ.aX (Qx.alloc Qw (.cells #[.int .i64 (says:Int),.slice xo ws.length xc,.slice vo2 vl vc2] 224)));generalize w2.alloc (.cells #[.int .i64 (says:Int),.slice xo ws.length xc,.slice vo2 vl vc2] 224)=w9 at*)
    have c0:=aN hab 0;have c1:=aN hab 1;have c2:=aN hab 2;have abz:=aD hab;simp only[aE,aq,aA,ef,ec,ed]at c0 c1 c2;have st9:=tk.st hst2;have ar9:=tk.args har2;have xo9:=tk.row hxo (by decide);have HWS:=ah hwl2;have HNX:=ah (show says≠1->∀(oo':Option Addr) (oc':Nat) (w':World),w'.ownsRow w1.heap.size 3 1 (.slice oo' (fE (rs++[(says,ws)])).length oc') (fE (rs++[(says,ws)])).length ((fE (rs++[(says,ws)])).map cN)->w9.grownBy w' (Value.slice oo (fE rs).length oc).ownBlock->(∀k,rowOf oo' k->rowOf oo k\/w9.heap.size<=k)->NY P w1 mb cs D nO fr TT G po pc cls own bg n (E++E2) no2 nc2 T2 (rs++[(says,ws)]) oo' oc' w' from fun hs1 oo' oc' w' k1 k2 k3=>(ae HCA).next (fun g hg k hk=>aJ (ae HGN g hg k hk) z1) (by rw[ae HORD];exact aj (ae HWL)) hans (ae HN) hs1 hwl2 hwlt st9 hok2 hto2 hold2 hnd2 hel2 ar9 hf9 Qx k1 k2 k3)
    have HRN:=ah (show w9.ownsRow w1.heap.size 3 1 (.slice oo (fE rs).length oc) (fE rs).length ((fE rs).map cN)from aO (ae HCA).ow fun k q=>by obtain⟨cur,hcu⟩:=bL (ae HCA).ow (bP q);exact((ae HCA).mc.st.o0 hf9 hcu (by decide) (by decide)).trans hcu.symm)
    have HXO:=ah xo9;have HZ9:=ah (show w1.heap.size<=w9.heap.size from aW (ae HCA).fg.size hf9.size)
    have HCM:=ah (show says=1->vl=(V++F).length/\Calls Tryz.prog 160 #[.pointer (some ⟨mb,0,none⟩),.int .i64 (i:Int),.int .i64 (which:Int),.agg #[.slice vo2 vl vc2]] w9 fun e w'=>rl P mb cs D nO fr TT G po pc cls own bg n i gi w e w' from fun hs1=>by
     subst hs1;obtain⟨j1,rfl,j3,j4,j5,j6,j7⟩:=hyes rfl;refine⟨rfl,?_⟩;have hm9:=(ae HCA).mc.asked st9 hok2 (eX _ _) hf9;have hkp9:gE wr w9:=fun g ys S hg hS=>(ae HCA).mc.st.o0 hf9 hg (by rcases hS with q | q | q<;>(rw[q];decide)) (by rcases hS with q | q | q<;>(rw[q];decide));have hcom:=CV w9 mb _ ((D++E)++E2) (V++F) no2 nc2 vo2 vc2 fr T2 P G po pc i which cls clo clc hm9 (ar9.keep fun g _ hp hg=>⟨hg,hp.1.1,hp.2⟩) hto2 (tk.row j3 (by decide)) j5 (fun x hx k hk hk2=>by
      have q1:=ae HGN x hx k hk;rcases j4 k hk2 with(e | e) | e
      ·obtain⟨cur,hcu⟩:=bL ((ae HCA).mc.pf x hx) hk;rw[e,(ae HCA).mc.st.blk]at hcu;simp only[aM,aR]at hcu;exact absurd hcu.2.1 (by decide)
      ·obtain⟨cur,hcu⟩:=bL ((ae HCA).mc.pf x hx) hk;exact cm (ae HCA).mc.st.own hcu (by decide) e
      ·have:=(ae HCA).fg.size;omega) (fun g hg=>ae HP g (by have:=ae HZ9;omega)) (by rw[set_set,dp (by omega)];exact ae H0) (hkp9.cls (ae HCLR)) (ae HWL) hcc (ae HOKC _ (aL (ae HWL))) j6 (by have:=ae HDE;have hq:(D++E++E2).length=(D++E).length+E2.length:=au;omega) hGl
     refine hcom.mono fun e w' hp=> ?_;have ho:=ae HORD;exact((ae HCA).fin (ae HLT) hol' (by rw[ho];exact aj (ae HWL)) hans (ae HN) hok2 hto2 hold2 hnd2 hel2 hf9 j4 j5 j7 (by rw[ho];exact hp)).from (ae HB1))
    have hs3:says=1\/says=2\/says=3:=by
     rcases hans with⟨_,q,_⟩ | ⟨_,_,_,_,_,q,_⟩
     ·rw[q];exact DF _
     ·rw[q];exact DF _
    clear st9 ar9 xo9 tk hst2 har2 hxo hf9 hfg2 hfgW hans hwl2 hwlt hok2 hto2 hold2 hnd2 hel2 hyes hab;rcases hs3 with rfl | rfl | rfl
    ·have hcm:=(ae HCM rfl).2;have IM:=ah hcm;clear hcm HCM HNX HRN HXO;go_wp2_with fail;refine(ae IM).mono ?_;intro y w10 h10;obtain⟨z10,rfl⟩:=h10.int;have H10:=ah h10;clear h10 IM;go_wp2_with fail;go_ret;exact ae H10
    ·have hnd:fE (rs++[(2,ws)])=fE rs:=by rw[nK];simp
     have han:pL (rs++[(2,ws)])=pL rs:=by rw[vT];simp
     have hnx:=ae HNX (by omega) oo oc w9 (by rw[hnd];exact ae HRN) (World.grownBy.refl _ _) (fun k q=>ay q);have HN9:=ah hnx;have HND:=ah hnd;have HAN:=ah han;clear hnx hnd han HCM HNX HRN HXO;go_wp2_with fail;go_roundg (gk - 1)
     case measure=>have:=ae HKJ;have:=ae HLT;omega
     case rel=>exact⟨rs++[(2,ws)],_,_,_,_,_,_,by have:=ae HKJ;have:=ae HLT;simp;omega,by rw[au];go_num,by rw[ae HAN],by rw[ae HND],ae HN9⟩
    ·have hnd:fE (rs++[(3,ws)])=fE rs++ws:=by rw[nK];simp
     have han:pL (rs++[(3,ws)])=true:=by rw[vT];simp
     have hnn:(fE rs).length+ws.length<=1000000000:=by have h1:=(ae HCA).ln;have h2:rs.length*12000000<=12*12000000:=bY _ hrl;have h3:=ae HWS;omega
     have HND:=ah hnd;have HAN:=ah han;have HNN:=ah hnn;clear hnd han hnn HCM;go_wp2_with (at_builtin;go_must (refine BM rfl (.tmp 61) (.tmp 63) rfl w1.heap.size wr.heap.size (.slice oo (fE rs).length oc) (fE rs).length (fE rs) rfl (ae HRN) xo ws.length xc ws rfl (ae HXO) (ae HNN) (ae HZ9) ?_);go_must (intro v' w12 hown' hgrow hat;obtain⟨oo',oc',hv'⟩:=gI hown';subst hv';have HO12:=ah (show w12.ownsRow w1.heap.size 3 1 (.slice oo' (fE (rs++[(3,ws)])).length oc') (fE (rs++[(3,ws)])).length ((fE (rs++[(3,ws)])).map cN)from by rw[ae HND,au];exact hown');have HN9:=ah (ae HNX (by omega) oo' oc' w12 (ae HO12) hgrow (fun k q=>by rcases hat with e | e;exact ay (bP (by rw[<-e];obtain⟨pp,hp,hk⟩:=q;rw[hp,hk];rfl));(right;obtain⟨pp,hp,hk⟩:=q;rw[hp]at e;have e2:pp.block=w9.heap.size:=(by simpa [Value.ownBlock] using e);omega)));clear hown' hgrow hat))
     go_roundg (gk - 1)
     case measure=>have:=ae HKJ;have:=ae HLT;omega
     case rel=>exact⟨rs++[(3,ws)],_,_,_,_,_,_,by have:=ae HKJ;have:=ae HLT;simp;omega,by rw[au];go_num,by rw[ae HAN],by rw[ae HND,au],ae HN9⟩
  ·have hrl:rs.length=own.length:=by omega
   have t0:decide (rs.length<own.length)=false:=by simp;omega
   have HCA:=ah hca;have HRL:=ah hrl;cases hany:pL rs with
   | false=>have IFL:=ah (tF wr mb _ 4 hca.mc.st.blk (by simpa using hc5));have HBK:=ah (bB hca.mc.st.blk 5 (.int .i64 4));have HANY:=ah hany;clear hca hkj hlt hrl hany;go_wp2_with fail;refine(ae IFL).mono ?_;rintro y w3 ⟨rfl,rfl⟩;go_wp2_with fail;go_ret;refine(aw (ay ⟨rs,ae HRL,(ae HCA).tr,ae HANY,rfl,⟨_,ae HBK,no1,_,nc1,rfl⟩,?_⟩):rl P mb cs D nO fr TT G po pc cls own bg n i gi w _ _);have hf:=(ae HCA).fg;have hz:=(ae HB1).size;refine(bZ.aX (ae HB1)).trans ⟨hf.os,hf.tape,hf.output,by rw[fj];exact hf.size,fun k hk hr=> ?_,fun k q=>ay (ay q)⟩;rw[b6 _ _ _ _ (fun e=>hr (ay e)),hf.block k hk hr]
   | true=>
    have hD2:(fE rs).length<=1000000000:=by have h1:=hca.ln;have h2:rs.length*12000000<=12*12000000:=bY _ (by omega);omega
    have IW:=ah (xS wr mb _ (D++E) no1 nc1 fr G po pc i gi (fE rs) oo oc hca.mc hi (ae HGI) (dh hca.ow (cI _)) hca.lt hD2);have HANY:=ah hany;clear hca hkj hlt hrl hany hD2;go_wp2_with fail;refine(ae IW).mono ?_;rintro y w3 ⟨rfl,mc3,fr3⟩;have HM3:=ah mc3;have HF3:=ah fr3;clear mc3 fr3 IW;go_wp2_with fail;go_ret;have hf:=(ae HCA).fg;have hpo:=(ae HCA).mc;have hel:=(ae HCA).el;have h12:rs.length*78732<=12*78732:=bY _ (by have:=ae HRL;omega);refine(aw (aw ⟨rs,E,no1,nc1,T1,oo,oc,ae HRL,(ae HCA).tr,ae HANY,rfl,ae HM3,?_,(ae HCA).to,(ae HCA).old,(ae HCA).nd,by omega,fun k q=>aW (ae HB1).size (dx (ae HCA).ow q).1,?_⟩):rl P mb cs D nO fr TT G po pc cls own bg n i gi w _ _)
    ·exact(ae HCA).ar.keep fun g _ hp hg=>⟨((ae HF3).block g (aD hg) (cm hpo.fp hg (by decide))).trans hg,hp.1⟩
    ·refine(bZ.aX (ae HB1)).trans ⟨(ae HF3).os.trans hf.os,(ae HF3).tape.trans hf.tape,(ae HF3).output.trans hf.output,aW hf.size (ae HF3).size,fun k hk hr=> ?_,fun k q=> ?_⟩
     ·rw[(ae HF3).block k (aJ hk hf.size) (fun e=>hr (aw e)),hf.block k hk (fun e=>hr (ay e))]
     ·rcases q with q | q
      ·rcases hf.row k (ay q)with e | e
       ·exact ay (ay e)
       ·exact aw e
      ·exact ay (aw q)
