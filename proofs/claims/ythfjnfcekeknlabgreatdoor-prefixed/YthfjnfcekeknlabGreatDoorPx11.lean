import Derived.Test.YthfjnfcekeknlabGreatDoorPx03
import Derived.Test.YthfjnfcekeknlabGreatDoorPx08
import Derived.Test.YthfjnfcekeknlabGreatDoorPx10
import Derived.Deep.LoopGhost
set_option maxHeartbeats 8000000
set_option maxRecDepth 100000
set_option linter.unusedSimpArgs false
namespace Go.Proofs.YthfjnfcekeknlabGreatDoor
open Go.RowKit af
variable {l:Wn} {so wo no:Option Addr} {S:List Int} {w W u:World} {sc wc lb n k sb lb' nc:Nat} {fr:Nat->Nat} {Ty:TypeId} {cs:Array Value} {P:Nat->Prop} {T:Nat->af.U} {D:List Ng}
def tX (l:Wn) (w:World) (e:Ending) (w':World):Prop:=
 ∃so sn sc wo wc,e= .returned (.agg #[.slice so sn sc,.slice wo l.wt.length wc,.bool l.no])/\w'.ownsRow w.heap.size 3 1 (.slice wo l.wt.length wc) l.wt.length (l.wt.map cN)/\Below w.heap.size w w'
theorem uZ (l:Wn):(if l.no=true then 2 else if l.wt=[]then 1 else 3:Int)=(l.says:Int):=by
 unfold Wn.says;split
 ·rfl
 ·split<;>rfl
theorem rV (h:tY W lb S l.wt l.no so sc wo wc) (hl:w.heap.size<lb) (hb:Below w.heap.size w W):tX l w (.returned (.agg #[.slice so S.length sc,.slice wo l.wt.length wc,.bool l.no])) (((W.setCell ⟨w.heap.size,0,none⟩ (.slice so S.length sc)).setCell ⟨w.heap.size,1,none⟩ (.slice wo l.wt.length wc)).setCell ⟨w.heap.size,2,none⟩ (.bool l.no)):=by
 have hkeep:∀g,g≠w.heap.size->(((W.setCell ⟨w.heap.size,0,none⟩ (.slice so S.length sc)).setCell ⟨w.heap.size,1,none⟩ (.slice wo l.wt.length wc)).setCell ⟨w.heap.size,2,none⟩ (.bool l.no)).heap[g]?=W.heap[g]?:=fun g hg=>by rw[b6 _ _ _ _ hg,b6 _ _ _ _ hg,b6 _ _ _ _ hg]
 refine⟨so,S.length,sc,wo,wc,rfl,dh (aO h.lh (fun g q=>hkeep g fun e=> ?_)) (by omega),hb.os,hb.tape,hb.output,by simp only[fj];exact hb.size,fun k hk=>(hkeep k (by omega)).trans (hb.block k hk)⟩;have:=(h.lh.lt g q).1;omega
theorem BH (h:W.ownsRow (w.heap.size+1) 3 1 (.slice wo l.wt.length wc) l.wt.length (l.wt.map cN)) (hb:Below w.heap.size w W):tX l w (.returned (.agg #[.slice so n sc,.slice wo l.wt.length wc,.bool l.no])) (((W.setCell ⟨w.heap.size,0,none⟩ (.slice so n sc)).setCell ⟨w.heap.size,1,none⟩ (.slice wo l.wt.length wc)).setCell ⟨w.heap.size,2,none⟩ (.bool l.no)):=by
 have hkeep:∀g,g≠w.heap.size->(((W.setCell ⟨w.heap.size,0,none⟩ (.slice so n sc)).setCell ⟨w.heap.size,1,none⟩ (.slice wo l.wt.length wc)).setCell ⟨w.heap.size,2,none⟩ (.bool l.no)).heap[g]?=W.heap[g]?:=fun g hg=>by rw[b6 _ _ _ _ hg,b6 _ _ _ _ hg,b6 _ _ _ _ hg]
 refine⟨so,n,sc,wo,wc,rfl,dh (aO h (fun g q=>hkeep g fun e=> ?_)) (by omega),hb.os,hb.tape,hb.output,by simp only[fj];exact hb.size,fun k hk=>(hkeep k (by omega)).trans (hb.block k hk)⟩;have:=(h.lt g q).1;omega
theorem Ek (hb:Below w.heap.size w W) (hl:l.wt=[]:=by rfl):tX l w (.returned (.agg #[.slice none 0 0,.slice none 0 0,.bool l.no])) (((W.setCell ⟨w.heap.size,0,none⟩ (.slice none 0 0)).setCell ⟨w.heap.size,1,none⟩ (.slice none 0 0)).setCell ⟨w.heap.size,2,none⟩ (.bool l.no)):=by obtain⟨wt,no⟩:=l;subst hl;exact BH (l:=⟨[],no⟩) (bD _ _ _ _) hb
theorem iV (h:k≠lb):¬gW lb none none k:=by
 rintro(e | ⟨p,e,_⟩ | ⟨p,e,_⟩)
 ·exact h e
 ·cases e
 ·cases e
theorem mH.up {so:Nat} (h:mH u lb sb so cs Ty D no nc fr T P) (hl:u.heap.size<=lb'):mH u lb' sb so cs Ty D no nc fr T P:=⟨h.st,h.ok,h.to,h.ar,hl⟩
theorem mH.on {so:Nat} (h:mH u lb sb so cs Ty D no nc fr T P) (hb:Below u.heap.size u w):mH w w.heap.size sb so cs Ty D no nc fr T P:=⟨h.st.below hb,h.ok,h.to,h.ar.below hb,Qw⟩
theorem qX (w:World) (sb so:Nat) (cs:Array Value) (Ty:TypeId) (D:List Ng) (no:Option Addr) (nc:Nat) (fr:Nat->Nat) (T:Nat->af.U) (P:Nat->Prop) (a b:Nat) (hG:mH w w.heap.size sb so cs Ty D no nc fr T P) (ha:a<D.length) (hb:b<D.length) (hs:af.size (T a)<=1000000):
 Calls Tryz.prog 204 #[.pointer (some ⟨sb,so,none⟩),.int .i64 (a:Int),.int .i64 (b:Int)] w fun e w'=>tX (fZ (T a) (T b)) w e w':=by
 have hl0:=jK (w.alloc (.cells #[.slice none 0 0,.slice none 0 0,.bool false] 102));rw[aF]at hl0;have hu0:=((al w.heap.size w).alloc Qw (.cells #[.slice none 0 0,.slice none 0 0,.bool false] 102)).alloc (by simp) (.cells #[.slice none 0 0,.slice none 0 0,.bool false] 102);have IC:=ah (xq _ w _ (w.heap.size+1) sb so cs Ty D no nc fr T P _ [] a b Wn.none (hG.up (by omega)) hu0 hl0 ha hb Qw (by simp only[Wn.none,ct];omega));have r0:=(aZ (w.alloc (.cells #[.slice none 0 0,.slice none 0 0,.bool false] 102)) (.cells #[.slice none 0 0,.slice none 0 0,.bool false] 102) w.heap.size (by simp)).trans (aB w (.cells #[.slice none 0 0,.slice none 0 0,.bool false] 102));have HR0:=ah r0;have HL0:=ah hl0;have HU0:=ah hu0;clear hG hs r0 hl0 hu0;go_enter Tryz.func204,Tryz.ntmps204;go_wp2_with fail;refine(ae IC).mono ?_;rintro e w2 ⟨rfl,R2,h2,fr2⟩;have hb2:=(ae HL0).under fr2 (ae HU0) (by omega);have q2:=(fr2.block w.heap.size (by simp only[aF];omega) (iV (by omega))).trans (ae HR0);change iR w2 _ _ (fZ (T a) (T b)).wt (fZ (T a) (T b)).no _ at h2;generalize hL:fZ (T a) (T b)=l at*;have HLL:=ah hL;clear hL;obtain⟨xo,xc,yo,yc,h2,rfl⟩:=h2;have HB2:=ah hb2;have c0:=aN h2.blk 0;have c1:=aN h2.blk 1;have c2:=aN h2.blk 2;have cz:=aD h2.blk;have d0:=aN q2;have x0:=bI q2;have dz:=aD q2;simp only[aE,aq,aA]at c0 c1 c2;have H2:=ah h2;clear h2 hb2 fr2 q2 IC;go_wp2_with fail;refine aI (v:= .agg #[.slice xo ([]:List Int).length xc,.slice yo l.wt.length yc,.bool l.no]) (by simp[results,Tryz.results204,go_sem,d0]) rfl ?_;rw[ae HLL];exact rV (ae H2) (by omega) (ae HB2)
theorem oZ (w:World) (lb:Nat) (W:List Nat) (no:Bool) (so:Option Addr) (sn sc:Nat) (wo:Option Addr) (wc:Nat) (h:w.heap[lb]?=some (.cells #[.slice so sn sc,.slice wo W.length wc,.bool no] 102 (0,0))):
 Calls Tryz.prog 47 #[.pointer (some ⟨lb,0,none⟩)] w fun e w'=>e= .returned (.int .i64 (if no=true then 2 else if W=[]then 1 else 3))/\w'=w:=by
 have s1:=aN h 1;have s2:=aN h 2;have sz:=aD h;simp only[aE,aq,aA]at s1 s2;clear h;cases no with
 | true=>go_enter Tryz.func47,Tryz.ntmps47;go_wp2_with fail;go_ret;exact⟨rfl,rfl⟩
 | false=>
  cases W with
  | nil=>go_enter Tryz.func47,Tryz.ntmps47;go_wp2_with fail;go_ret;exact⟨rfl,rfl⟩
  | cons x W=>
   have t1:decide (0<W.length+1)=true:=by simp
   have t2:decide ((0:Int)<(W.length:Int)+1)=true:=by simp
   go_enter Tryz.func47,Tryz.ntmps47;go_wp2_with fail;go_ret;exact⟨by simp,rfl⟩
theorem xx (w:World) (sb so:Nat) (cs:Array Value) (Ty:TypeId) (D:List Ng) (no:Option Addr) (nc:Nat) (fr:Nat->Nat) (T:Nat->af.U) (P:Nat->Prop) (a b:Nat) (hG:mH w w.heap.size sb so cs Ty D no nc fr T P) (ha:a<D.length) (hb:b<D.length) (hs:af.size (T a)<=1000000):
 Calls Tryz.prog 205 #[.pointer (some ⟨sb,so,none⟩),.int .i64 (a:Int),.int .i64 (b:Int)] w fun e w'=>tX (jA (T a) (T b)) w e w':=by
 have hu0:=(al w.heap.size w).alloc Qw (.cells #[.slice none 0 0,.slice none 0 0,.bool false] 102);have IC:=ah (qX (w.alloc (.cells #[.slice none 0 0,.slice none 0 0,.bool false] 102)) sb so cs Ty D no nc fr T P a b (hG.on hu0) ha hb hs);have HR0:=ah (aB w (.cells #[.slice none 0 0,.slice none 0 0,.bool false] 102));have HU0:=ah hu0;have HT:=ah (show jA (T a) (T b)=if(fZ (T a) (T b)).says=1 then⟨[],true⟩else if(fZ (T a) (T b)).says=2 then Wn.none else fZ (T a) (T b)from rfl)
 clear hG hs hu0;go_enter Tryz.func205,Tryz.ntmps205;go_wp2_with fail;refine(ae IC).mono ?_;rintro e w2 ⟨xo,xn,xc,yo,yc,rfl,own2,hb2⟩;generalize hL:fZ (T a) (T b)=l at*;have z2:=hb2.size;rw[aF]at z2 own2 hb2;have hB3:=(((ae HU0).trans (hb2.mono (by omega))).alloc (by omega) (.cells #[.slice xo xn xc,.slice yo l.wt.length yc,.bool l.no] 102));have hR3:=aQ ((hb2.block w.heap.size (by omega)).trans (ae HR0)) (.cells #[.slice xo xn xc,.slice yo l.wt.length yc,.bool l.no] 102);have hN3:=aB w2 (.cells #[.slice xo xn xc,.slice yo l.wt.length yc,.bool l.no] 102);have own3:=aO own2 (w':=w2.alloc (.cells #[.slice xo xn xc,.slice yo l.wt.length yc,.bool l.no] 102)) (fun g q=>aZ _ _ _ (own2.lt g q).2);have HSY:=ah (oZ (w2.alloc (.cells #[.slice xo xn xc,.slice yo l.wt.length yc,.bool l.no] 102)) w2.heap.size l.wt l.no xo xn xc yo yc hN3);rw[uZ]at HSY;go_wp2_with fail;generalize hW:w2.alloc (.cells #[.slice xo xn xc,.slice yo l.wt.length yc,.bool l.no] 102)=w3 at*;have hz3:w3.heap.size=w2.heap.size+1:=by rw[<-hW];simp
 have HB3:=ah hB3;have HOW:=ah own3;have d0:=aN hR3;have x0:=bI hR3;have dz:=aD hR3;have c0:=aN hN3 0;have c1:=aN hN3 1;have c2:=aN hN3 2;have cz:=aD hN3;simp only[aE,aq,aA]at c0 c1 c2;clear hW hL own2 hb2 IC hB3 own3 hR3 hN3;refine(ae HSY).mono ?_;rintro e w4 ⟨rfl,rfl⟩;have h3:l.says=1\/l.says=2\/l.says=3:=by
  unfold Wn.says;split
  ·exact aw (ay rfl)
  ·split
   ·exact ay rfl
   ·exact aw (aw rfl)
 rcases h3 with h3 | h3 | h3
 ·rw[h3,aH rfl]at HT;rw[h3]at HSY⊢;clear h3;go_wp2_with fail;refine aI (v:= .agg #[.slice none 0 0,.slice none 0 0,.bool true]) (by simp[results,Tryz.results205,go_sem,d0]) rfl ?_;rw[ae HT];exact Ek (ae HB3)
 ·rw[h3,aG (by decide),aH rfl]at HT;rw[h3]at HSY⊢;clear h3;go_wp2_with fail;refine aI (v:= .agg #[.slice none 0 0,.slice none 0 0,.bool false]) (by simp[results,Tryz.results205,go_sem,d0]) rfl ?_;rw[ae HT];exact Ek (l:=Wn.none) (ae HB3)
 ·rw[h3,aG (by decide),aG (by decide)]at HT;rw[h3]at HSY⊢;clear h3;go_wp2_with fail;refine aI (v:= .agg #[.slice xo xn xc,.slice yo l.wt.length yc,.bool l.no]) (by simp[results,Tryz.results205,go_sem,d0]) rfl ?_;rw[ae HT];exact BH (ae HOW) (ae HB3)
end Go.Proofs.YthfjnfcekeknlabGreatDoor
namespace af
theorem LX (u v:U):((Wn.none.fh u).fh v).no=false:=by rw[Wn.iO,Wn.iO];rfl
theorem Jp {u v:U} (h:((Wn.none.fh u).fh v).wt=[]):uz u=false/\uz v=false:=by
 cases u with
 | v x=>
  cases v with
  | v y=>exfalso;simp only[Wn.fh,Wn.wait,Wn.none,gA,cC,if_false,cG,a8]at h;split at h<;>simp at h
  | n k tx num ss=>simp[Wn.fh,Wn.wait,Wn.none,gA]at h
 | n k tx num ss=>
  cases v with
  | v y=>simp[Wn.fh,Wn.wait,Wn.none,gA]at h
  | n k' tx' num' ss'=>exact⟨rfl,rfl⟩
end af
namespace Go.Proofs.YthfjnfcekeknlabGreatDoor
open Go.RowKit af
variable {T:Nat->af.U} {so wo xo yo:Option Addr} {S:List Int} {w W:World} {sc wc lb xc yc kb a b ka len m:Nat} {no eq:Bool} {xb xa:List UInt8} {da db d:Ng} {ib ia:Int}
theorem tY.DD {T:List Nat} (h:tY w lb S T no so sc wo wc) (x:Bool):tY (w.setCell ⟨lb,2,none⟩ (.bool x)) lb S T x so sc wo wc/\bZ (gW lb so wo) (gW lb so wo) w (w.setCell ⟨lb,2,none⟩ (.bool x)):=by refine⟨⟨?_,aO h.lH (fun g q=>b6 _ _ _ _ (by have:=(h.lH.lt g q).1;omega)),aO h.lh (fun g q=>b6 _ _ _ _ (by have:=(h.lh.lt g q).1;omega)),h.apart⟩,rfl,rfl,rfl,by rw[fj];exact Qw,fun k _ hr=>b6 _ _ _ _ (fun e=>hr (ay e)),fun _ q=>ay q⟩;have:=bB h.blk 2 (.bool x);simpa using this
theorem tX.alloc {l:Wn} {w W:World} {e:Ending} (h:tX l w e W) (X:Obj):tX l w e (W.alloc X):=by obtain⟨so,sn,sc,wo,wc,h1,h2,h3⟩:=h;exact⟨so,sn,sc,wo,wc,h1,aO h2 (fun g q=>aZ _ _ _ (h2.lt g q).2),h3.alloc h3.size X⟩
theorem es (h:tY W (w.heap.size+1) S [] false xo xc yo yc) (hb:Below w.heap.size w W) (x:Bool) (X:Obj):tX ⟨[],x⟩ w (.returned (.agg #[.slice xo S.length xc,.slice yo 0 yc,.bool x])) (((((W.setCell ⟨w.heap.size+1,2,none⟩ (.bool x)).setCell ⟨w.heap.size,0,none⟩ (.slice xo S.length xc)).setCell ⟨w.heap.size,1,none⟩ (.slice yo 0 yc)).setCell ⟨w.heap.size,2,none⟩ (.bool x)).alloc X):=
 (rV (l:=⟨[],x⟩) (h.DD x).1 (pP _) (hb.setCell (bS _) _)).alloc _
def MW (eq:Bool):ByteArray:=if eq=true then⟨#[61,60]⟩else⟨#[60]⟩
theorem KX (_oa:jw len da) (_ob:jw len db) (k1:da.k≠1) (k2:db.k≠1) (la:im da=some (ka,xa,ia)) (ea:T a= .n ka xa ia (da.args.map T)) (lb:im db=some (kb,xb,ib)) (eb:T b= .n kb xb ib (db.args.map T)):ut eq (T a) (T b)=(decide (da.k=2)&&decide (db.k=2)&&(decide (da.val<db.val)||(eq&&decide (da.val=db.val)))):=by
 rw[ea,eb];unfold im at la lb;rw[aG k1]at la;rw[aG k2]at lb;by_cases h1:da.k=2
 ·rw[aH h1]at la;injection la with la;injection la with u1 la;injection la with u2 u3;subst u1 u2 u3;by_cases h2:db.k=2
  ·rw[aH h2]at lb;injection lb with lb;injection lb with v1 lb;injection lb with v2 v3;subst v1 v2 v3;simp[ut,isNum,h1,h2]
  ·rw[aG h2]at lb;injection lb with lb;injection lb with v1 lb;subst v1;simp[ut,isNum,h1,h2]
 ·rw[aG h1]at la;injection la with la;injection la with u1 la;subst u1;simp[ut,isNum,h1]
theorem xA (w:World) (sb so:Nat) (cs:Array Value) (Ty:TypeId) (D:List Ng) (no:Option Addr) (nc:Nat) (fr:Nat->Nat) (T:Nat->af.U) (P:Nat->Prop) (a b:Nat) (eq:Bool) (hG:mH w w.heap.size sb so cs Ty D no nc fr T P) (ha:a<D.length) (hb:b<D.length):
 Calls Tryz.prog 206 #[.pointer (some ⟨sb,so,none⟩),.int .i64 (a:Int),.string (MW eq),.int .i64 (b:Int)] w fun e w'=>tX (eZ eq (T a) (T b)) w e w':=by
 have hl0:=jK (w.alloc (.cells #[.slice none 0 0,.slice none 0 0,.bool false] 102));rw[aF]at hl0;have hu0:=((al w.heap.size w).alloc Qw (.cells #[.slice none 0 0,.slice none 0 0,.bool false] 102)).alloc (by simp) (.cells #[.slice none 0 0,.slice none 0 0,.bool false] 102);have r0:=(aZ (w.alloc (.cells #[.slice none 0 0,.slice none 0 0,.bool false] 102)) (.cells #[.slice none 0 0,.slice none 0 0,.bool false] 102) w.heap.size (by simp)).trans (aB w (.cells #[.slice none 0 0,.slice none 0 0,.bool false] 102));obtain⟨ka,hka⟩:=hG.ok.hop a ha;obtain⟨kb,hkb⟩:=hG.ok.hop b hb;obtain⟨da,hda,oa,_,_,na⟩:=hG.node ha;obtain⟨db,hdb,ob,_,_,nb⟩:=hG.node hb;have va:=hG.uz ha hda;have vb:=hG.uz hb hdb;have LA:=ah (fun W (hu:Below w.heap.size w W)=>fd W sb so cs Ty D no nc a (fr a) ka da (hG.at hu) hka hda);have LB:=ah (fun W (hu:Below w.heap.size w W)=>fd W sb so cs Ty D no nc b (fr b) kb db (hG.at hu) hkb hdb);have WA:=ah (jR _ (w.heap.size+1) sb so cs Ty D no nc _ [] [] false a (fr a) ka da (T a) (hG.at hu0) hka hda va.2 (fun q=>dY.2 fun r=>q (va.1.2 r)) hl0 (by simp));have WB:=ah (fun W (k:Wn) R (hu:Below w.heap.size w W) (h:iR W (w.heap.size+1) [] k.wt false R) (hl:k.wt.length<=100000000)=>jR W (w.heap.size+1) sb so cs Ty D no nc R [] k.wt false b (fr b) kb db (T b) (hG.at hu) hkb hdb vb.2 (fun q=>dY.2 fun r=>q (vb.1.2 r)) h hl);have HR0:=ah r0;have HL0:=ah hl0;have HU0:=ah hu0;have HO:=ah (show ((Wn.none.fh (T a)).fh (T b)).wt=[]->da.k≠1/\db.k≠1/\ut eq (T a) (T b)=(decide (da.k=2)&&decide (db.k=2)&&(decide (da.val<db.val)||(eq&&decide (da.val=db.val))))from fun q=>by
  obtain⟨q1,q2⟩:=Jp q;have k1:da.k≠1:=fun e=>by have:=va.1.1 e;rw[q1]at this;cases this
  have k2:db.k≠1:=fun e=>by have:=vb.1.1 e;rw[q2]at this;cases this
  obtain⟨_,_,_,la,ea⟩:=na k1;obtain⟨_,_,_,lb,eb⟩:=nb k2;exact⟨k1,k2,KX oa ob k1 k2 la ea lb eb⟩)
 have HL1:=ah (show (Wn.none.fh (T a)).wt.length<=100000000 from aW (Wn.jB _ _) (by simp[Wn.none]))
 have HKS:=ah (cP oa.ks ob.ks);have HS2:=ah (show ((Wn.mk (Wn.none.fh (T a)).wt false).fh (T b)).wt=((Wn.none.fh (T a)).fh (T b)).wt by
  have:Wn.mk (Wn.none.fh (T a)).wt false=Wn.none.fh (T a):=by cases T a<;>rfl
  rw[this])
 have HTS:=ah (show eZ eq (T a) (T b)=if((Wn.none.fh (T a)).fh (T b)).wt=[]then⟨[],!(ut eq (T a) (T b))⟩else(Wn.none.fh (T a)).fh (T b)from rfl)
 have HNO:=ah (LX (T a) (T b));clear hG r0 hl0 hu0 hda hdb oa ob na nb va vb hka hkb;go_enter Tryz.func206,Tryz.ntmps206;go_wp2_with fail;refine(ae WA).mono ?_;rintro e w2 ⟨rfl,R2,h2,fr2⟩;have hb2:=(ae HL0).under fr2 (ae HU0) (by omega);have q2:=(fr2.block w.heap.size (by simp only[aF];omega) (iV (by omega))).trans (ae HR0);have n2:=fr2.not (k:=w.heap.size) (by simp only[aF];omega) (iV (by omega));change iR w2 _ _ (Wn.none.fh (T a)).wt _ _ at h2;have HQ2:=ah q2;have HN2:=ah n2;have HB2:=ah hb2;have H2:=ah h2;clear q2 n2 hb2 h2 fr2;go_wp2_with fail;refine(ae WB _ (Wn.none.fh (T a)) _ (ae HB2) (ae H2) (ae HL1)).mono ?_;rintro e w3 ⟨rfl,R3,h3,fr3⟩;have hb3:=(ae H2).under fr3 (ae HB2) (by omega);have q3:=(fr3.block w.heap.size (aD (ae HQ2)) (ae HN2)).trans (ae HQ2);rw[ae HS2]at h3;generalize hL:(Wn.none.fh (T a)).fh (T b)=l at*;obtain⟨lw,ln⟩:=l;obtain rfl:ln=false:=ae HNO;clear hL HNO HS2 HL1 WA WB HL0 HU0 H2 HB2 HN2 HQ2 fr3;dsimp only at h3 HO HTS;obtain⟨xo,xc,yo,yc,h3,rfl⟩:=h3;have HB3:=ah hb3;have c0:=aN h3.blk 0;have c1:=aN h3.blk 1;have c2:=aN h3.blk 2;have cf:=bI h3.blk 2;have cz:=aD h3.blk;have d0:=aN q3;have x0:=bI q3;have dz:=aD q3;simp only[aE,aq,aA]at c0 c1 c2;have H3:=ah h3;have HQ3:=ah q3;clear h3 hb3 q3;cases lw with
 | cons x lw=>
  have t1:decide (0<lw.length+1)=true:=by simp
  have t2:decide ((0:Int)<(lw.length:Int)+1)=true:=by simp
  rw[aG (by simp)]at HTS;go_wp2_with fail;refine aI (v:= .agg #[.slice xo ([]:List Int).length xc,.slice yo (x :: lw).length yc,.bool false]) (by simp[results,Tryz.results206,go_sem,d0]) rfl ?_;rw[ae HTS];exact rV (l:=⟨x :: lw,false⟩) (ae H3) (by omega) (ae HB3)
 | nil=>
  obtain⟨k1,k2,ho⟩:=ae HO rfl;rw[aH rfl,ho]at HTS;clear ho HO;go_wp2_with fail;refine(ae LA _ (ae HB3)).mono ?_;rintro e w4 ⟨rfl,hb4⟩;have z4:=hb4.size;have HB4:=ah ((ae HB3).trans (hb4.mono (ae HB3).size));have HX4:=ah hb4;have g4:w.heap.size<=w4.heap.size:=(ae HB4).size;clear hb4 c0 c1 c2 cf d0 x0;go_wp2_with fail;refine(ae LB _ ((ae HB4).alloc g4 _)).mono ?_;rintro e w5 ⟨rfl,hb5⟩;have z5:=hb5.size;rw[aF]at z5;have zz:w4.heap.size<w5.heap.size:=z5;have f0:=(hb5.cell (p:=⟨w4.heap.size,0,none⟩) (by simp)).trans (aN (aB w4 _) 0);have f1:=(hb5.cell (p:=⟨w4.heap.size,1,none⟩) (by simp)).trans (aN (aB w4 _) 1);simp only[aE,aq,aA]at f0 f1;have hb35:=((ae HX4).alloc z4 (.cells #[.int .i64 da.k,.int .i64 da.val,.string da.tx,.int .i64 (da.cnt:Int)] 144)).trans (hb5.mono (by rw[aF];omega));have h5:=(ae H3).keep (w':=w5) (fun k q=>hb35.block k ((ae H3).rows k q).2);have q5:=(hb35.block _ dz).trans (ae HQ3);have HB5:=ah ((ae HB3).trans (hb35.mono (ae HB3).size));have c0:=aN h5.blk 0;have c1:=aN h5.blk 1;have c2:=aN h5.blk 2;have cf:=bI h5.blk 2;have cz5:=aD h5.blk;have d0:=aN q5;have x0:=bI q5;have dz5:=aD q5;simp only[aE,aq,aA]at c0 c1 c2;have H5:=ah h5;clear h5 q5 hb35 hb5 HX4 HB4 HB3 H3 HQ3 LA LB;obtain⟨ak,av,ax,ac,ao,ap,ag,an,am⟩:=da;obtain⟨bk,bv,bx,bc,bo,bp,bg,bn,bm⟩:=db;dsimp only at k1 k2 HTS HKS f0 f1;have hk1:ak=2\/ak=3:=(ae HKS).1.resolve_left k1;have hk2:bk=2\/bk=3:=(ae HKS).2.resolve_left k2;have hc:(av<bv)\/(av=bv)\/(bv<av):=by omega
  have he:eq=true\/eq=false:=by cases eq<;>simp
  clear k1 k2 HKS;rcases he with rfl | rfl
  ·simp only[MW];rcases hk1 with rfl | rfl
   ·rcases hk2 with rfl | rfl
    ·rcases hc with hc | rfl | hc
     ·have t1:decide (av<bv)=true:=by simpa using hc
      have hx:=ah (show eZ true (T a) (T b)=⟨[],false⟩by rw[ae HTS];simp[hc])
      clear hc HTS;go_wp2_with fail;refine aI (v:= .agg #[.slice xo 0 xc,.slice yo 0 yc,.bool false]) (by simp[results,Tryz.results206,go_sem,d0,dz5,aC]) rfl ?_;rw[ae hx];exact es (ae H5) (ae HB5) _ _
     ·have t1:decide (av<av)=false:=by simp
      have hx:=ah (show eZ true (T a) (T b)=⟨[],false⟩by rw[ae HTS];simp)
      clear HTS;go_wp2_with fail;refine aI (v:= .agg #[.slice xo 0 xc,.slice yo 0 yc,.bool false]) (by simp[results,Tryz.results206,go_sem,d0,dz5,aC]) rfl ?_;rw[ae hx];exact es (ae H5) (ae HB5) _ _
     ·have t1:decide (av<bv)=false:=by(simp;omega)
      have t2:(av == bv)=false:=by(simp;omega)
      have hx:=ah (show eZ true (T a) (T b)=⟨[],true⟩by rw[ae HTS];simp[show¬av<bv by omega,show¬av=bv by omega])
      clear hc HTS;go_wp2_with fail;refine aI (v:= .agg #[.slice xo 0 xc,.slice yo 0 yc,.bool true]) (by simp[results,Tryz.results206,go_sem,d0,dz5,aC]) rfl ?_;rw[ae hx];exact es (ae H5) (ae HB5) _ _
    ·rcases hc with hc | rfl | hc
     ·have t1:decide (av<bv)=true:=by simpa using hc
      have hx:=ah (show eZ true (T a) (T b)=⟨[],true⟩by rw[ae HTS];simp)
      clear hc HTS;go_wp2_with fail;refine aI (v:= .agg #[.slice xo 0 xc,.slice yo 0 yc,.bool true]) (by simp[results,Tryz.results206,go_sem,d0,dz5,aC]) rfl ?_;rw[ae hx];exact es (ae H5) (ae HB5) _ _
     ·have t1:decide (av<av)=false:=by simp
      have hx:=ah (show eZ true (T a) (T b)=⟨[],true⟩by rw[ae HTS];simp)
      clear HTS;go_wp2_with fail;refine aI (v:= .agg #[.slice xo 0 xc,.slice yo 0 yc,.bool true]) (by simp[results,Tryz.results206,go_sem,d0,dz5,aC]) rfl ?_;rw[ae hx];exact es (ae H5) (ae HB5) _ _
     ·have t1:decide (av<bv)=false:=by(simp;omega)
      have t2:(av == bv)=false:=by(simp;omega)
      have hx:=ah (show eZ true (T a) (T b)=⟨[],true⟩by rw[ae HTS];simp)
      clear hc HTS;go_wp2_with fail;refine aI (v:= .agg #[.slice xo 0 xc,.slice yo 0 yc,.bool true]) (by simp[results,Tryz.results206,go_sem,d0,dz5,aC]) rfl ?_;rw[ae hx];exact es (ae H5) (ae HB5) _ _
   ·rcases hk2 with rfl | rfl
    ·rcases hc with hc | rfl | hc
     ·have t1:decide (av<bv)=true:=by simpa using hc
      have hx:=ah (show eZ true (T a) (T b)=⟨[],true⟩by rw[ae HTS];simp)
      clear hc HTS;go_wp2_with fail;refine aI (v:= .agg #[.slice xo 0 xc,.slice yo 0 yc,.bool true]) (by simp[results,Tryz.results206,go_sem,d0,dz5,aC]) rfl ?_;rw[ae hx];exact es (ae H5) (ae HB5) _ _
     ·have t1:decide (av<av)=false:=by simp
      have hx:=ah (show eZ true (T a) (T b)=⟨[],true⟩by rw[ae HTS];simp)
      clear HTS;go_wp2_with fail;refine aI (v:= .agg #[.slice xo 0 xc,.slice yo 0 yc,.bool true]) (by simp[results,Tryz.results206,go_sem,d0,dz5,aC]) rfl ?_;rw[ae hx];exact es (ae H5) (ae HB5) _ _
     ·have t1:decide (av<bv)=false:=by(simp;omega)
      have t2:(av == bv)=false:=by(simp;omega)
      have hx:=ah (show eZ true (T a) (T b)=⟨[],true⟩by rw[ae HTS];simp)
      clear hc HTS;go_wp2_with fail;refine aI (v:= .agg #[.slice xo 0 xc,.slice yo 0 yc,.bool true]) (by simp[results,Tryz.results206,go_sem,d0,dz5,aC]) rfl ?_;rw[ae hx];exact es (ae H5) (ae HB5) _ _
    ·rcases hc with hc | rfl | hc
     ·have t1:decide (av<bv)=true:=by simpa using hc
      have hx:=ah (show eZ true (T a) (T b)=⟨[],true⟩by rw[ae HTS];simp)
      clear hc HTS;go_wp2_with fail;refine aI (v:= .agg #[.slice xo 0 xc,.slice yo 0 yc,.bool true]) (by simp[results,Tryz.results206,go_sem,d0,dz5,aC]) rfl ?_;rw[ae hx];exact es (ae H5) (ae HB5) _ _
     ·have t1:decide (av<av)=false:=by simp
      have hx:=ah (show eZ true (T a) (T b)=⟨[],true⟩by rw[ae HTS];simp)
      clear HTS;go_wp2_with fail;refine aI (v:= .agg #[.slice xo 0 xc,.slice yo 0 yc,.bool true]) (by simp[results,Tryz.results206,go_sem,d0,dz5,aC]) rfl ?_;rw[ae hx];exact es (ae H5) (ae HB5) _ _
     ·have t1:decide (av<bv)=false:=by(simp;omega)
      have t2:(av == bv)=false:=by(simp;omega)
      have hx:=ah (show eZ true (T a) (T b)=⟨[],true⟩by rw[ae HTS];simp)
      clear hc HTS;go_wp2_with fail;refine aI (v:= .agg #[.slice xo 0 xc,.slice yo 0 yc,.bool true]) (by simp[results,Tryz.results206,go_sem,d0,dz5,aC]) rfl ?_;rw[ae hx];exact es (ae H5) (ae HB5) _ _
  ·simp only[MW];rcases hk1 with rfl | rfl
   ·rcases hk2 with rfl | rfl
    ·rcases hc with hc | rfl | hc
     ·have t1:decide (av<bv)=true:=by simpa using hc
      have hx:=ah (show eZ false (T a) (T b)=⟨[],false⟩by rw[ae HTS];simp[hc])
      clear hc HTS;go_wp2_with fail;refine aI (v:= .agg #[.slice xo 0 xc,.slice yo 0 yc,.bool false]) (by simp[results,Tryz.results206,go_sem,d0,dz5,aC]) rfl ?_;rw[ae hx];exact es (ae H5) (ae HB5) _ _
     ·have t1:decide (av<av)=false:=by simp
      have hx:=ah (show eZ false (T a) (T b)=⟨[],true⟩by rw[ae HTS];simp)
      clear HTS;go_wp2_with fail;refine aI (v:= .agg #[.slice xo 0 xc,.slice yo 0 yc,.bool true]) (by simp[results,Tryz.results206,go_sem,d0,dz5,aC]) rfl ?_;rw[ae hx];exact es (ae H5) (ae HB5) _ _
     ·have t1:decide (av<bv)=false:=by(simp;omega)
      have t2:(av == bv)=false:=by(simp;omega)
      have hx:=ah (show eZ false (T a) (T b)=⟨[],true⟩by rw[ae HTS];simp[show¬av<bv by omega,show¬av=bv by omega])
      clear hc HTS;go_wp2_with fail;refine aI (v:= .agg #[.slice xo 0 xc,.slice yo 0 yc,.bool true]) (by simp[results,Tryz.results206,go_sem,d0,dz5,aC]) rfl ?_;rw[ae hx];exact es (ae H5) (ae HB5) _ _
    ·rcases hc with hc | rfl | hc
     ·have t1:decide (av<bv)=true:=by simpa using hc
      have hx:=ah (show eZ false (T a) (T b)=⟨[],true⟩by rw[ae HTS];simp)
      clear hc HTS;go_wp2_with fail;refine aI (v:= .agg #[.slice xo 0 xc,.slice yo 0 yc,.bool true]) (by simp[results,Tryz.results206,go_sem,d0,dz5,aC]) rfl ?_;rw[ae hx];exact es (ae H5) (ae HB5) _ _
     ·have t1:decide (av<av)=false:=by simp
      have hx:=ah (show eZ false (T a) (T b)=⟨[],true⟩by rw[ae HTS];simp)
      clear HTS;go_wp2_with fail;refine aI (v:= .agg #[.slice xo 0 xc,.slice yo 0 yc,.bool true]) (by simp[results,Tryz.results206,go_sem,d0,dz5,aC]) rfl ?_;rw[ae hx];exact es (ae H5) (ae HB5) _ _
     ·have t1:decide (av<bv)=false:=by(simp;omega)
      have t2:(av == bv)=false:=by(simp;omega)
      have hx:=ah (show eZ false (T a) (T b)=⟨[],true⟩by rw[ae HTS];simp)
      clear hc HTS;go_wp2_with fail;refine aI (v:= .agg #[.slice xo 0 xc,.slice yo 0 yc,.bool true]) (by simp[results,Tryz.results206,go_sem,d0,dz5,aC]) rfl ?_;rw[ae hx];exact es (ae H5) (ae HB5) _ _
   ·rcases hk2 with rfl | rfl
    ·rcases hc with hc | rfl | hc
     ·have t1:decide (av<bv)=true:=by simpa using hc
      have hx:=ah (show eZ false (T a) (T b)=⟨[],true⟩by rw[ae HTS];simp)
      clear hc HTS;go_wp2_with fail;refine aI (v:= .agg #[.slice xo 0 xc,.slice yo 0 yc,.bool true]) (by simp[results,Tryz.results206,go_sem,d0,dz5,aC]) rfl ?_;rw[ae hx];exact es (ae H5) (ae HB5) _ _
     ·have t1:decide (av<av)=false:=by simp
      have hx:=ah (show eZ false (T a) (T b)=⟨[],true⟩by rw[ae HTS];simp)
      clear HTS;go_wp2_with fail;refine aI (v:= .agg #[.slice xo 0 xc,.slice yo 0 yc,.bool true]) (by simp[results,Tryz.results206,go_sem,d0,dz5,aC]) rfl ?_;rw[ae hx];exact es (ae H5) (ae HB5) _ _
     ·have t1:decide (av<bv)=false:=by(simp;omega)
      have t2:(av == bv)=false:=by(simp;omega)
      have hx:=ah (show eZ false (T a) (T b)=⟨[],true⟩by rw[ae HTS];simp)
      clear hc HTS;go_wp2_with fail;refine aI (v:= .agg #[.slice xo 0 xc,.slice yo 0 yc,.bool true]) (by simp[results,Tryz.results206,go_sem,d0,dz5,aC]) rfl ?_;rw[ae hx];exact es (ae H5) (ae HB5) _ _
    ·rcases hc with hc | rfl | hc
     ·have t1:decide (av<bv)=true:=by simpa using hc
      have hx:=ah (show eZ false (T a) (T b)=⟨[],true⟩by rw[ae HTS];simp)
      clear hc HTS;go_wp2_with fail;refine aI (v:= .agg #[.slice xo 0 xc,.slice yo 0 yc,.bool true]) (by simp[results,Tryz.results206,go_sem,d0,dz5,aC]) rfl ?_;rw[ae hx];exact es (ae H5) (ae HB5) _ _
     ·have t1:decide (av<av)=false:=by simp
      have hx:=ah (show eZ false (T a) (T b)=⟨[],true⟩by rw[ae HTS];simp)
      clear HTS;go_wp2_with fail;refine aI (v:= .agg #[.slice xo 0 xc,.slice yo 0 yc,.bool true]) (by simp[results,Tryz.results206,go_sem,d0,dz5,aC]) rfl ?_;rw[ae hx];exact es (ae H5) (ae HB5) _ _
     ·have t1:decide (av<bv)=false:=by(simp;omega)
      have t2:(av == bv)=false:=by(simp;omega)
      have hx:=ah (show eZ false (T a) (T b)=⟨[],true⟩by rw[ae HTS];simp)
      clear hc HTS;go_wp2_with fail;refine aI (v:= .agg #[.slice xo 0 xc,.slice yo 0 yc,.bool true]) (by simp[results,Tryz.results206,go_sem,d0,dz5,aC]) rfl ?_;rw[ae hx];exact es (ae H5) (ae HB5) _ _
def PY (w:World) (l:Wn) (k:Nat) (iv:Value) (wr:World):Prop:=
 ∃(j:Nat) (W:List Nat) (b:Bool) (R:Nat->Prop),k+j=1/\iv= .int .i64 (j:Int)/\((j=0/\W=[]/\b=false)\/(j=1/\W=l.wt/\b=l.no))/\iR wr (w.heap.size+1) [] W b R/\Below w.heap.size w wr/\wr.heap[w.heap.size]?=some (.cells #[.slice none 0 0,.slice none 0 0,.bool false] 102 (0,0))/\¬R w.heap.size
theorem Ge (od:jw len d) (hv:d.k=1->T a= .v ([],m)) (hn:d.k≠1->∃k tx num,im d=some (k,tx,num)/\T a= .n k tx num (d.args.map T)):(jD (T a)).wt=((Wn.mk [] false).fh (T a)).wt/\(jD (T a)).no=(d.k == 3):=by
 rcases od.ks with q | q | q
 ·rw[hv q,q];exact⟨rfl,rfl⟩
 ·obtain⟨k,tx,num,h1,h2⟩:=hn (by omega);unfold im at h1;rw[aG (by omega),aH q]at h1;injection h1 with h1;injection h1 with h1 _;subst h1;rw[h2,q];exact⟨rfl,rfl⟩
 ·obtain⟨k,tx,num,h1,h2⟩:=hn (by omega);unfold im at h1;rw[aG (by omega),aG (by omega)]at h1;injection h1 with h1;injection h1 with h1 _;subst h1;rw[h2,q];exact⟨rfl,rfl⟩
theorem C7 (w:World) (sb so:Nat) (cs:Array Value) (Ty:TypeId) (D:List Ng) (no:Option Addr) (nc:Nat) (fr:Nat->Nat) (T:Nat->af.U) (P:Nat->Prop) (n a:Nat) (d:Ng) (hG:mH w w.heap.size sb so cs Ty D no nc fr T P) (hn:n<D.length) (hd:D[fr n]?=some d) (hda:d.args=[a]):
 Calls Tryz.prog 203 #[.pointer (some ⟨sb,so,none⟩),.int .i64 (n:Int)] w fun e w'=>tX (jD (T a)) w e w':=by
 have hl0:=jK (w.alloc (.cells #[.slice none 0 0,.slice none 0 0,.bool false] 102));rw[aF]at hl0;have hu0:=((al w.heap.size w).alloc Qw (.cells #[.slice none 0 0,.slice none 0 0,.bool false] 102)).alloc (by simp) (.cells #[.slice none 0 0,.slice none 0 0,.bool false] 102);have r0:=(aZ (w.alloc (.cells #[.slice none 0 0,.slice none 0 0,.bool false] 102)) (.cells #[.slice none 0 0,.slice none 0 0,.bool false] 102) w.heap.size (by simp)).trans (aB w (.cells #[.slice none 0 0,.slice none 0 0,.bool false] 102));obtain⟨kn,hkn⟩:=hG.ok.hop n hn;obtain⟨_,e1,od,md,_,_⟩:=hG.node hn;rw[hd]at e1;cases e1;have ha:a<D.length:=od.A7 a (by rw[hda];simp);obtain⟨ka,hka⟩:=hG.ok.hop a ha;obtain⟨da,hdd,oa,_,v1,v2⟩:=hG.node ha;have va:=hG.uz ha hdd;obtain⟨w1,w2'⟩:=Ge (a:=a) oa v1 v2;have HA:=ah (lC _ sb so cs Ty D no nc n (fr n) kn d (hG.at hu0) hkn hd);obtain⟨g,hg,gz,gc⟩:=hG.ar.at md (by rw[hda];simp);have gc0:=gc 0 (by rw[hda];simp);simp only[hda,List.getElem_cons_zero]at gc0;rw[hda,hg]at HA;simp only[aT,ct]at HA;have HC:=ah (fun W (hu:Below w.heap.size w W)=>(hu.cell (p:=⟨g,0,none⟩) gz).trans gc0);have LA:=ah (fun W (hu:Below w.heap.size w W)=>fd W sb so cs Ty D no nc a (fr a) ka da (hG.at hu) hka hdd);have WA:=ah (fun W R (hu:Below w.heap.size w W) (h:iR W (w.heap.size+1) [] [] false R)=>jR W (w.heap.size+1) sb so cs Ty D no nc R [] [] false a (fr a) ka da (T a) (hG.at hu) hka hdd va.2 (fun q=>dY.2 fun r=>q (va.1.2 r)) h (by simp));generalize hL:jD (T a)=l at*;rw[<-w1]at WA;have HL:=ah hL;have HNO:=ah w2';have HST:=ah (show PY w l 1 (.int .i64 0) _ from ⟨0,[],false,_,rfl,rfl,ay ⟨rfl,rfl,rfl⟩,hl0,hu0,r0,iV (by omega)⟩)
 clear hG hn hd hda hl0 hu0 r0 hkn od md ha hka hdd oa v1 v2 va w1 w2' hg gc gc0 hL;obtain⟨ak,av,ax,ac,ao,ap,ag,an,am⟩:=da;dsimp only at LA HNO;go_enter Tryz.func203,Tryz.ntmps203;go_wp2_with fail;refine(ae HA).mono ?_;rintro e w2 ⟨rfl,rfl⟩;go_wp2_with fail;go_loopg [13] 1 (fun k iv wr=>PY w l k iv wr)
 case atStart=>exact ae HST
 case round=>
  clear HST HA;obtain⟨j,W,b,R,hkj,rfl,hj,hlo,hur,hrr,hnr⟩:=hrel;have gz':g<wr.heap.size:=aJ gz hur.size;rcases hj with⟨rfl,rfl,rfl⟩ | ⟨rfl,rfl,rfl⟩
  ·have g0:=ae HC wr hur;have L1:=ah (ae LA wr hur);have HLO:=ah hlo;have HUR:=ah hur;have HRR:=ah hrr;have HNR:=ah hnr;have zr:=aD hrr;have HKJ:=ah hkj;clear hlo hur hrr hnr hkj;go_wp2_with fail;refine(ae L1).mono ?_;rintro e w3 ⟨rfl,hb3⟩;have z3:=hb3.size;have hB3:=(ae HUR).trans (hb3.mono (ae HUR).size);have hR3:=(hb3.block w.heap.size zr).trans (ae HRR);have nr3:¬R w3.heap.size:=fun q=>by have:=((ae HLO).rows _ q).2;omega
   have W4:=ah (ae WA (w3.alloc (.cells #[.int .i64 ak,.int .i64 av,.string ax,.int .i64 (ac:Int)] 144)) R (hB3.alloc hB3.size _) ((ae HLO).below (hb3.alloc z3 _)));have HR3:=ah (aQ hR3 (.cells #[.int .i64 ak,.int .i64 av,.string ax,.int .i64 (ac:Int)] 144));have HB3:=ah (hB3.alloc hB3.size (.cells #[.int .i64 ak,.int .i64 av,.string ax,.int .i64 (ac:Int)] 144));have HLO3:=ah ((ae HLO).below (hb3.alloc z3 (.cells #[.int .i64 ak,.int .i64 av,.string ax,.int .i64 (ac:Int)] 144)));clear hB3 hR3 hb3;go_wp2_with fail;refine(ae W4).mono ?_;rintro e w4 ⟨rfl,R4,h4,fr4⟩;have f0:=(fr4.cell (p:=⟨w3.heap.size,0,none⟩) (by simp) nr3).trans (aN (aB w3 _) 0);simp only[aE,aq]at f0;have z4:=fr4.size;rw[aF]at z4;have zz:w3.heap.size<w4.heap.size:=z4;have zr3:w.heap.size<(w3.alloc (.cells #[.int .i64 ak,.int .i64 av,.string ax,.int .i64 (ac:Int)] 144)).heap.size:=by rw[aF];omega
   have HR4:=ah ((fr4.block w.heap.size zr3 (ae HNR)).trans (ae HR3));have HN4:=ah (fr4.not zr3 (ae HNR));have HB4:=ah ((ae HLO3).under fr4 (ae HB3) (by omega));obtain⟨xo,xc,yo,yc,h4,rfl⟩:=h4;have c2:=aN h4.blk 2;have cf:=bI h4.blk 2;have cz:=aD h4.blk;simp only[aE,aq,aA]at c2;have H4:=ah h4;clear h4 fr4 W4 nr3 zr3;go_wp2_with fail;go_roundg (gk - 1)
   case measure=>have:=ae HKJ;omega
   case rel=>rw[<-ae HNO];refine⟨1,l.wt,l.no,_,by have:=ae HKJ;omega,rfl,aw ⟨rfl,rfl,rfl⟩,⟨xo,xc,yo,yc,((ae H4).DD l.no).1,rfl⟩,(ae HB4).setCell (bS _) _,?_,ae HN4⟩;exact(b6 _ _ _ _ (by omega)).trans (ae HR4)
  ·obtain⟨xo,xc,yo,yc,h3,rfl⟩:=hlo;have HB3:=ah hur;have c0:=aN h3.blk 0;have c1:=aN h3.blk 1;have c2:=aN h3.blk 2;have cz:=aD h3.blk;have d0:=aN hrr;have x0:=bI hrr;have dz:=aD hrr;simp only[aE,aq,aA]at c0 c1 c2;have H3:=ah h3;clear h3 hur hrr hnr hkj;go_wp2_with fail;refine aI (v:= .agg #[.slice xo ([]:List Int).length xc,.slice yo l.wt.length yc,.bool l.no]) (by simp[results,Tryz.results203,go_sem,d0]) rfl ?_;exact rV (ae H3) (by omega) (ae HB3)
def Pt (lb:Nat) (S:List Int) (W X:List Nat) (no:Bool) (R:Nat->Prop) (w:World) (k:Nat) (iv:Value) (wr:World):Prop:=
 ∃(j:Nat) (R':Nat->Prop),k+j=X.length/\iv= .int .i64 (j:Int)/\iR wr lb S ((X.take j).foldl gA W) no R'/\bZ R R' w wr
theorem JB (w:World) (lb:Nat) (S:List Int) (W X:List Nat) (no nb:Bool) (R:Nat->Prop) (so wo:Option Addr) (sn sc wc base:Nat) (h:iR w lb S W no R) (hx:w.ownsRow base 3 1 (.slice wo X.length wc) X.length (X.map cN)) (hr:∀g,rowOf wo g->¬R g) (hl:W.length+X.length<=100000000):
 Calls Tryz.prog 193 #[.pointer (some ⟨lb,0,none⟩),.agg #[.slice so sn sc,.slice wo X.length wc,.bool nb]] w fun e w'=>e= .returned (.tuple #[])/\∃R',iR w' lb S (X.foldl gA W) (no||nb) R'/\bZ R R' w w':=by
 have hb1:=(al w.heap.size w).alloc Qw (.cells #[.slice so sn sc,.slice wo X.length wc,.bool nb] 102);obtain⟨po,pc,qo,qc,h1,e1⟩:=h.below hb1;have e0:iR w lb S W no R:=h;have c2:=aN h1.blk 2;have cf:=bI h1.blk 2;have cz:=aD h1.blk;have ce:lb≠w.heap.size:=fun e=>by obtain⟨_,_,_,_,h0,_⟩:=h;have:=aD h0.blk;omega
 simp only[aE,aq,aA]at c2;have HST:=ah (show Pt lb S W X (no||nb) R w X.length (.int .i64 0) ((w.alloc (.cells #[.slice so sn sc,.slice wo X.length wc,.bool nb] 102)).setCell ⟨lb,2,none⟩ (.bool (no||nb)))from ⟨0,R,by omega,rfl,by simpa using ⟨po,pc,qo,qc,(h1.DD (no||nb)).1,e1⟩,e1 ▸ (bZ.aX hb1).trans (h1.DD (no||nb)).2⟩)
 have HX:=ah hx;have HR:=ah hr;clear h hx hr h1 e1 e0 hb1;cases no with
 | false=>
  go_enter Tryz.func193,Tryz.ntmps193;go_wp2_with fail;go_loopg [20] X.length (fun k iv wr=>Pt lb S W X (false||nb) R w k iv wr)
  case atStart=>exact ae HST
  case round=>
   clear HST c2 cf cz;obtain⟨j,R',hkj,rfl,hlo,hfr⟩:=hrel;by_cases hlt:j<X.length
   ·obtain⟨g,hg⟩:∃g,wo=some ⟨g,0,none⟩:=by
     rcases(ae HX).2 with⟨q,q2⟩ | ⟨g,cp,cur,q,_⟩
     ·omega
     ·simp only[aS]at q;exact⟨g,q.1⟩
    subst hg;have gz0:=((ae HX).lt g rfl).2;have f0:wr.cell? ⟨g,j,none⟩=some (.int .i64 (X[j]:Int)):=by rw[hfr.cell (p:=⟨g,j,none⟩) gz0 (ae HR g ⟨_,rfl,rfl⟩),(ae HX).cellAt j (by omega),bC,aj hlt];rfl
    have gz:g<wr.heap.size:=aJ gz0 hfr.size;have i0:(0:Int)<=(j:Int):=by omega
    have i1:(j:Int)<(X.length:Int):=by omega
    have hln:((X.take j).foldl gA W).length<=100000000:=by have q1:=nT (X.take j) W;rw[df]at q1;omega
    have hstep:(X.take (j+1)).foldl gA W=FL ((X.take j).foldl gA W) X[j]:=by rw[bR,aj hlt];simp only[Option.toList,cT,bF,List.foldl_nil];rfl
    have IW:=ah (pZ wr lb S ((X.take j).foldl gA W) (false||nb) R' X[j] hlo hln);rw[<-hstep]at IW;have HFR:=ah hfr;have HKJ:=ah hkj;have HLT:=ah hlt;generalize X[j]=x at*;clear hlo hfr hkj hlt hln hstep gz0;go_wp2_with fail;refine(ae IW).mono ?_;rintro e w6 ⟨rfl,R6,h6,fr6⟩;have H6:=ah h6;have HF6:=ah ((ae HFR).trans fr6);clear h6 fr6 IW;go_wp2_with fail;go_roundg (gk - 1)
    case measure=>have:=ae HKJ;have:=ae HLT;omega
    case rel=>exact⟨j+1,R6,by have:=ae HKJ;have:=ae HLT;omega,by go_num,ae H6,ae HF6⟩
   ·have HFR:=ah hfr;rw[cV (by omega)]at hlo;have HLO:=ah hlo;obtain rfl:j=X.length:=by omega
    clear hlo hfr hkj hlt;go_wp2_with fail;go_end0;exact⟨rfl,R',ae HLO,ae HFR⟩
 | true=>
  go_enter Tryz.func193,Tryz.ntmps193;go_wp2_with fail;go_loopg [20] X.length (fun k iv wr=>Pt lb S W X (true||nb) R w k iv wr)
  case atStart=>exact ae HST
  case round=>
   clear HST c2 cf cz;obtain⟨j,R',hkj,rfl,hlo,hfr⟩:=hrel;by_cases hlt:j<X.length
   ·obtain⟨g,hg⟩:∃g,wo=some ⟨g,0,none⟩:=by
     rcases(ae HX).2 with⟨q,q2⟩ | ⟨g,cp,cur,q,_⟩
     ·omega
     ·simp only[aS]at q;exact⟨g,q.1⟩
    subst hg;have gz0:=((ae HX).lt g rfl).2;have f0:wr.cell? ⟨g,j,none⟩=some (.int .i64 (X[j]:Int)):=by rw[hfr.cell (p:=⟨g,j,none⟩) gz0 (ae HR g ⟨_,rfl,rfl⟩),(ae HX).cellAt j (by omega),bC,aj hlt];rfl
    have gz:g<wr.heap.size:=aJ gz0 hfr.size;have i0:(0:Int)<=(j:Int):=by omega
    have i1:(j:Int)<(X.length:Int):=by omega
    have hln:((X.take j).foldl gA W).length<=100000000:=by have q1:=nT (X.take j) W;rw[df]at q1;omega
    have hstep:(X.take (j+1)).foldl gA W=FL ((X.take j).foldl gA W) X[j]:=by rw[bR,aj hlt];simp only[Option.toList,cT,bF,List.foldl_nil];rfl
    have IW:=ah (pZ wr lb S ((X.take j).foldl gA W) (true||nb) R' X[j] hlo hln);rw[<-hstep]at IW;have HFR:=ah hfr;have HKJ:=ah hkj;have HLT:=ah hlt;generalize X[j]=x at*;clear hlo hfr hkj hlt hln hstep gz0;go_wp2_with fail;refine(ae IW).mono ?_;rintro e w6 ⟨rfl,R6,h6,fr6⟩;have H6:=ah h6;have HF6:=ah ((ae HFR).trans fr6);clear h6 fr6 IW;go_wp2_with fail;go_roundg (gk - 1)
    case measure=>have:=ae HKJ;have:=ae HLT;omega
    case rel=>exact⟨j+1,R6,by have:=ae HKJ;have:=ae HLT;omega,by go_num,ae H6,ae HF6⟩
   ·have HFR:=ah hfr;rw[cV (by omega)]at hlo;have HLO:=ah hlo;obtain rfl:j=X.length:=by omega
    clear hlo hfr hkj hlt;go_wp2_with fail;go_end0;exact⟨rfl,R',ae HLO,ae HFR⟩
end Go.Proofs.YthfjnfcekeknlabGreatDoor
namespace af
def ug (V:List Nat) (h:Nat) (W:List Nat):List Nat:=W.filter fun n=> !decide (n∈V.drop h)
theorem Ib (V:List Nat) (h:Nat) (W:List Nat) (j:Nat) (hj:j<W.length):ug V h (W.take (j+1))=ug V h (W.take j)++(if W[j]∈V.drop h then []else [W[j]]):=by unfold ug;rw[bR,aj hj,xJ];congr 1;simp only[Option.toList,Dh,FS];by_cases q:W[j]∈V.drop h<;>simp[q]
end af
namespace Go.Proofs.YthfjnfcekeknlabGreatDoor
open Go.RowKit af
theorem C4 (w:World) (base:Nat) (V:List Nat) (vo:Option Addr) (vc n h:Nat) (hv:w.ownsRow base 3 1 (.slice vo V.length vc) V.length (V.map cN)) (hl:V.length<=100000000):
 Calls Tryz.prog 207 #[.int .i64 (n:Int),.agg #[.slice vo V.length vc],.int .i64 (h:Int)] w fun e w'=>e= .returned (.bool (decide (n∈V.drop h)))/\Below w.heap.size w w':=by
 have HV:=ah hv;have hb0:=(al w.heap.size w).alloc Qw (.cells #[.slice vo V.length vc] 90);have HB0:=ah hb0;clear hv hb0;go_enter Tryz.func207,Tryz.ntmps207;go_wp2_with fail;go_loopg [12] V.length (fun k iv wr=>∃j:Nat,k+j=V.length/\iv= .int .i64 (j:Int)/\Below w.heap.size w wr/\n∉(V.take j).drop h)
 case atStart=>exact⟨0,by omega,rfl,ae HB0,by simp⟩
 case round=>
  clear HB0;obtain⟨j,hkj,rfl,hbe,hno⟩:=hrel;by_cases hlt:j<V.length
  ·obtain⟨g,hg⟩:∃g,vo=some ⟨g,0,none⟩:=by
    rcases(ae HV).2 with⟨q,q2⟩ | ⟨g,cp,cur,q,_⟩
    ·omega
    ·simp only[aS]at q;exact⟨g,q.1⟩
   subst hg;have gz0:=((ae HV).lt g rfl).2;have f0:wr.cell? ⟨g,j,none⟩=some (.int .i64 (V[j]:Int)):=by rw[hbe.cell (p:=⟨g,j,none⟩) gz0,(ae HV).cellAt j (by omega),bC,aj hlt];rfl
   have gz:g<wr.heap.size:=aJ gz0 hbe.size;have i0:(0:Int)<=(j:Int):=by omega
   have i1:(j:Int)<(V.length:Int):=by omega
   have hst:V.take (j+1)=V.take j++[V[j]]:=by rw[bR,aj hlt];rfl
   have hlj:(V.take j).length=j:=by rw[df];omega
   by_cases hh:h<=j
   ·have t1:decide ((j:Int)≥(h:Int))=true:=by simp;omega
    have t1':decide ((h:Int)<=(j:Int))=true:=by simp;omega
    by_cases he:V[j]=n
    ·have HIN:=ah (show n∈V.drop h from by
      rw[List.mem_iff_getElem];exact⟨j - h,by rw[Dg];omega,by rw[List.getElem_drop];rw[<-he];congr 1;omega⟩)
     have HBE:=ah hbe;rw[he]at f0;clear he hno hkj hst hbe;go_wp2_with fail;go_ret;exact⟨by rw[eN (ae HIN)];rfl,ae HBE⟩
    ·have HNO:=ah (show n∉(V.take (j+1)).drop h by
      rw[hst,List.drop_append_of_le_length (by omega)];simp only[bA,a8,not_or];exact⟨hno,fun q=>he q.symm⟩)
     have HLT:=ah hlt;have HKJ:=ah hkj;have HBE:=ah hbe;have t2:(((V[j]:Nat):Int) == ((n:Nat):Int))=false:=by simp;omega
     generalize V[j]=m at*;clear he hno hkj hst hbe;go_wp2_with fail;go_roundg (gk - 1)
     case measure=>have:=ae HKJ;have:=ae HLT;omega
     case rel=>exact⟨j+1,by have:=ae HKJ;have:=ae HLT;omega,by go_num,ae HBE,ae HNO⟩
   ·have t1:decide ((j:Int)≥(h:Int))=false:=by simp;omega
    have t1':decide ((h:Int)<=(j:Int))=false:=by simp;omega
    have HNO:=ah (show n∉(V.take (j+1)).drop h by rw[List.drop_of_length_le (by rw[df];omega)];simp)
    have HLT:=ah hlt;have HKJ:=ah hkj;have HBE:=ah hbe;generalize V[j]=m at*;clear hno hkj hst hbe;go_wp2_with fail;go_roundg (gk - 1)
    case measure=>have:=ae HKJ;have:=ae HLT;omega
    case rel=>exact⟨j+1,by have:=ae HKJ;have:=ae HLT;omega,by go_num,ae HBE,ae HNO⟩
  ·have HNO:=ah (show n∉V.drop h by rwa [cV (by omega)]at hno)
   have HBE:=ah hbe;clear hno hbe;obtain rfl:j=V.length:=by omega
   go_wp2_with fail;go_ret;exact⟨by rw[dK (ae HNO)];rfl,ae HBE⟩
def Qs (w:World) (V:List Nat) (h:Nat) (W:List Nat) (C:Array Value) (k:Nat) (av iv:Value) (wr:World):Prop:=
 ∃j:Nat,k+j=W.length/\iv= .int .i64 (j:Int)/\wr.ownsRow (w.heap.size+1) 3 1 av (ug V h (W.take j)).length ((ug V h (W.take j)).map cN)/\Below w.heap.size w wr/\wr.heap[w.heap.size]?=some (.cells C 90 (0,0))
theorem sH (w:World) (b1 b2:Nat) (W V:List Nat) (wo vo:Option Addr) (wc vc h:Nat) (hw:w.ownsRow b1 3 1 (.slice wo W.length wc) W.length (W.map cN)) (hv:w.ownsRow b2 3 1 (.slice vo V.length vc) V.length (V.map cN)) (hlw:W.length<=100000000) (hlv:V.length<=100000000):
 Calls Tryz.prog 194 #[.slice wo W.length wc,.agg #[.slice vo V.length vc],.int .i64 (h:Int)] w fun e w'=>∃oo oc,e= .returned (.slice oo (ug V h W).length oc)/\w'.ownsRow w.heap.size 3 1 (.slice oo (ug V h W).length oc) (ug V h W).length ((ug V h W).map cN)/\Below w.heap.size w w':=by
 have HW:=ah hw;have HV:=ah hv;obtain⟨tj,hj,hy0,hy1,hy2⟩:=dH kO;clear hw hv;go_enter Tryz.func194,Tryz.ntmps194;go_wp2_with fail;go_loopg [7,12] W.length (fun k av iv wr=>Qs w V h W #[.slice vo V.length vc] k av iv wr)
 case atStart=>exact⟨0,by omega,rfl,by simpa [ug] using bD _ _ _ _,Qx.alloc Qw _,aB w _⟩
 case round=>
  obtain⟨j,hkj,rfl,how,hbe,hbx⟩:=hrel;obtain⟨oo,oc,rfl⟩:=gI how;have zx:=aD hbx;have x0:=aN hbx 0;simp only[aE,aq]at x0;by_cases hlt:j<W.length
  ·obtain⟨g,hg⟩:∃g,wo=some ⟨g,0,none⟩:=by
    rcases(ae HW).2 with⟨q,q2⟩ | ⟨g,cp,cur,q,_⟩
    ·omega
    ·simp only[aS]at q;exact⟨g,q.1⟩
   subst hg;have gz0:=((ae HW).lt g rfl).2;have f0:wr.cell? ⟨g,j,none⟩=some (.int .i64 (W[j]:Int)):=by rw[hbe.cell (p:=⟨g,j,none⟩) gz0,(ae HW).cellAt j (by omega),bC,aj hlt];rfl
   have gz:g<wr.heap.size:=aJ gz0 hbe.size;have i0:(0:Int)<=(j:Int):=by omega
   have i1:(j:Int)<(W.length:Int):=by omega
   have HSTEP:=ah (Ib V h W j hlt);have IB:=ah (C4 wr b2 V vo vc W[j] h (aO (ae HV) (fun k q=>hbe.block k ((ae HV).lt k q).2)) hlv);have HOW:=ah how;have HBE:=ah hbe;have HBX:=ah hbx;have HKJ:=ah hkj;have HLT:=ah hlt;have hle:(ug V h (W.take j)).length<=100000000:=by have q:=ly (fun n=> !decide (n∈V.drop h)) (W.take j);rw[df]at q;unfold ug;omega
   generalize W[j]=v at*;generalize ug V h (W.take j)=Z at*;clear how hbe hbx hkj hlt;by_cases hm:v∈V.drop h
   ·rw[eN hm]at IB;rw[aH hm,br]at HSTEP;clear hm;go_wp2_with fail;refine(ae IB).mono ?_;rintro e w5 ⟨rfl,hb5⟩;have HB5:=ah hb5;clear hb5;go_wp2_with fail;go_roundg (gk - 1)
    case measure=>have:=ae HKJ;have:=ae HLT;omega
    case rel=>exact⟨j+1,by have:=ae HKJ;have:=ae HLT;omega,by go_num,by rw[ae HSTEP];exact aO (ae HOW) (fun k q=>(ae HB5).block k ((ae HOW).lt k q).2),(ae HBE).trans ((ae HB5).mono (ae HBE).size),((ae HB5).block _ zx).trans (ae HBX)⟩
   ·rw[dK hm]at IB;rw[aG hm]at HSTEP;clear hm;go_wp2_with fail;refine(ae IB).mono ?_;rintro e w5 ⟨rfl,hb5⟩;have z5:=hb5.size;have HOW5:=ah (aO (ae HOW) (fun k q=>hb5.block k ((ae HOW).lt k q).2));have HBE5:=ah ((ae HBE).trans (hb5.mono (ae HBE).size));have HBX5:=ah ((hb5.block _ zx).trans (ae HBX));have zx5:=aD (ae HBX5);clear hb5;go_wp2_with (at_builtin;go_must (refine wpList_append_own_at _ rfl (.tmp 21) (.tmp 23) 25 rfl (w.heap.size+1) 3 tj (.int .i64 0) 1 8 Tryz.underlying25 hj hy0 hy1 hy2 rfl (by decide) _ Z.length (Z.map cN) rfl ((ae HOW5).alloc _) ⟨w5.heap.size,0,none⟩ 1 1 [.int .i64 (v:Int)] rfl rfl (lq _ _ _ _ rfl) (by simp[Value.oneCell']) (by unfold maxLen;omega) (by omega) (by simp;omega) ?_);go_must (intro v' w7 hown' hgrow _ _;have HO7:=ah hown';have HB7:=ah (((ae HBE5).alloc (ae HBE5).size _).grown hgrow (by simp;omega) (fun k q=>by have:=((ae HOW5).lt k q).1;omega));have HX7:=ah ((hgrow.block w.heap.size (by simp;omega) (fun q=>by have:=((ae HOW5).lt _ q.symm).1;omega)).trans ((aZ _ _ _ zx5).trans (ae HBX5)));clear hown' hgrow));go_roundg (gk - 1)
    case measure=>have:=ae HKJ;have:=ae HLT;omega
    case rel=>exact⟨j+1,by have:=ae HKJ;have:=ae HLT;omega,by go_num,by rw[ae HSTEP];have:=ae HO7;simpa [cN] using this,ae HB7,ae HX7⟩
  ·obtain rfl:j=W.length:=by omega
   rw[dM]at how;have HOW:=ah how;have HBE:=ah hbe;clear how hbe hbx hkj;go_wp2_with fail;go_ret;exact⟨oo,oc,by first | rfl | (rw[dM];rfl),by have:=dh (ae HOW) (bS _);exact this,ae HBE⟩
def PO (w:World) (V:List Nat) (k:Nat) (iv:Value) (wr:World):Prop:=
 ∃(j:Nat) (oo:Option Addr) (oc:Nat),k+j=V.length/\iv= .int .i64 (j:Int)/\wr.ownsRow (w.heap.size+2) 3 1 (.slice oo (V.take j).length oc) (V.take j).length ((V.take j).map cN)/\Below w.heap.size w wr/\wr.heap[w.heap.size]?=some (.cells #[.slice none 0 0] 90 (0,0))/\wr.heap[w.heap.size+1]?=some (.cells #[.slice oo (V.take j).length oc] 90 (0,0))
theorem An (w:World) (base:Nat) (V:List Nat) (vo:Option Addr) (vc:Nat) (hv:w.ownsRow base 3 1 (.slice vo V.length vc) V.length (V.map cN)) (hlv:V.length<=100000000):
 Calls Tryz.prog 191 #[.slice vo V.length vc] w fun e w'=>∃oo oc,e= .returned (.agg #[.slice oo V.length oc])/\w'.ownsRow w.heap.size 3 1 (.slice oo V.length oc) V.length (V.map cN)/\Below w.heap.size w w':=by
 have HV:=ah hv;obtain⟨tj,hj,hy0,hy1,hy2⟩:=dH kO;have HST:=ah (show PO w V V.length (.int .i64 0) ((w.alloc (.cells #[.slice none 0 0] 90)).alloc (.cells #[.slice none 0 0] 90))from ⟨0,none,0,by omega,rfl,by simpa using bD _ _ _ _,(Qx.alloc Qw _).alloc (by simp) _,(aZ _ _ _ (by simp)).trans (aB w _),by have:=aB (w.alloc (.cells #[.slice none 0 0] 90)) (.cells #[.slice none 0 0] 90);rw[aF]at this;simpa using this⟩)
 clear hv;go_enter Tryz.func191,Tryz.ntmps191;go_wp2_with fail;go_loopg [8] V.length (fun k iv wr=>PO w V k iv wr)
 case atStart=>exact ae HST
 case round=>
  clear HST;obtain⟨j,oo,oc,hkj,rfl,how,hbe,hb0,hb1⟩:=hrel;have z0:=aD hb0;have z1:=aD hb1;have x1:=aN hb1 0;have xf:=bI hb1 0;simp only[aE,aq]at x1;by_cases hlt:j<V.length
  ·obtain⟨g,hg⟩:∃g,vo=some ⟨g,0,none⟩:=by
    rcases(ae HV).2 with⟨q,q2⟩ | ⟨g,cp,cur,q,_⟩
    ·omega
    ·simp only[aS]at q;exact⟨g,q.1⟩
   subst hg;have gz0:=((ae HV).lt g rfl).2;have f0:wr.cell? ⟨g,j,none⟩=some (.int .i64 (V[j]:Int)):=by rw[hbe.cell (p:=⟨g,j,none⟩) gz0,(ae HV).cellAt j (by omega),bC,aj hlt];rfl
   have gz:g<wr.heap.size:=aJ gz0 hbe.size;have i0:(0:Int)<=(j:Int):=by omega
   have i1:(j:Int)<(V.length:Int):=by omega
   have HSTEP:=ah (show V.take (j+1)=V.take j++[V[j]]by rw[bR,aj hlt];rfl)
   have HOW:=ah how;have HBE:=ah hbe;have HB0:=ah hb0;have HB1:=ah hb1;have HKJ:=ah hkj;have HLT:=ah hlt;have hle:(V.take j).length<=100000000:=by rw[df];omega
   have HNS:=ah (show some (w.heap.size+1)≠(Value.slice oo (V.take j).length oc).ownBlock from fun q=>by have:=(how.lt _ q.symm).1;omega)
   generalize V[j]=v at*;generalize V.take j=Z at*;clear how hbe hb0 hb1 hkj hlt;go_wp2_with (at_builtin;go_must (refine wpList_append_own_at _ rfl (.tmp 13) (.tmp 15) 25 rfl (w.heap.size+2) 3 tj (.int .i64 0) 1 8 Tryz.underlying25 hj hy0 hy1 hy2 rfl (by decide) _ Z.length (Z.map cN) rfl ((ae HOW).alloc _) ⟨wr.heap.size,0,none⟩ 1 1 [.int .i64 (v:Int)] rfl rfl (lq _ _ _ _ rfl) (by simp[Value.oneCell']) (by unfold maxLen;omega) (by omega) (by simp;omega) ?_);go_must (intro v' w7 hown' hgrow _ _;obtain⟨g',cap',hv'⟩:=qi hown';subst hv';have HO7:=ah hown';have HB7:=ah (((ae HBE).alloc (ae HBE).size _).grown hgrow (by simp;omega) (fun k q=>by have:=((ae HOW).lt k q).1;omega));have HX7:=ah ((hgrow.block w.heap.size (by simp;omega) (fun q=>by have:=((ae HOW).lt _ q.symm).1;omega)).trans ((aZ _ _ _ z0).trans (ae HB0)));have hy7:=(hgrow.block (w.heap.size+1) (by simp;omega) (ae HNS)).trans ((aZ _ _ _ z1).trans (ae HB1));have HY7:=ah hy7;have k0:=aN hy7 0;have kf:=bI hy7 0;have zz7:=aD hy7;simp only[aE,aq]at k0;clear hown' hgrow hy7));go_roundg (gk - 1)
   case measure=>have:=ae HKJ;have:=ae HLT;omega
   case rel=>
    refine⟨j+1,some ⟨g',0,none⟩,cap',by have:=ae HKJ;have:=ae HLT;omega,by go_num,?_,(ae HB7).setCell (bS _) _,(b6 _ _ _ _ (by omega)).trans (ae HX7),?_⟩
    ·rw[ae HSTEP];have:=aO (ae HO7) (w':=w7.setCell ⟨w.heap.size+1,0,none⟩ (.slice (some ⟨g',0,none⟩) (Z.length+1) cap')) (fun k q=>b6 _ _ _ _ (by have:=((ae HO7).lt k q).1;omega));simpa [cN] using this
    ·rw[ae HSTEP];have:=bB (ae HY7) 0 (.slice (some ⟨g',0,none⟩) (Z.length+1) cap');simpa using this
  ·obtain rfl:j=V.length:=by omega
   rw[dM]at how x1;have d0:=aN hb0;have y0:=bI hb0;have HOW:=ah how;have HBE:=ah hbe;clear how hbe hb0 hb1 hkj;go_wp2_with fail;refine aI (v:= .agg #[.slice oo V.length oc]) (by simp[results,Tryz.results191,go_sem,d0]) rfl ?_;exact⟨oo,oc,rfl,aO (dh (ae HOW) (by omega)) (fun k q=>b6 _ _ _ _ (by have:=((ae HOW).lt k q).1;omega)),(ae HBE).setCell Qw _⟩
