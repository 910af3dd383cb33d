import Derived.Test.YthfjnfcekeknlabGreatDoorPx03
import Derived.Test.YthfjnfcekeknlabGreatDoorPx05
import Derived.Test.YthfjnfcekeknlabGreatDoorPx06
import Derived.Test.YthfjnfcekeknlabGreatDoorPx07
import Derived.Deep.LoopGhost
import Derived.Deep.RegionHeld3
import Derived.Deep.RegionWith
set_option maxHeartbeats 8000000
set_option maxRecDepth 100000
set_option linter.unusedSimpArgs false
namespace Go.Proofs.YthfjnfcekeknlabGreatDoor
open Go.RowKit af
structure mH (u:World) (lb sb so:Nat) (cs:Array Value) (Ty:TypeId) (D:List Ng) (no:Option Addr) (nc:Nat) (fr:Nat->Nat) (T:Nat->af.U) (P:Nat->Prop):Prop where
 st:fS u sb so cs Ty D no nc
 ok:g8 D fr
 to:kx (e8 D) fr T
 ar:di u D P
 lt:u.heap.size<=lb
section
variable {u:World} {lb sb so:Nat} {cs:Array Value} {Ty:TypeId} {D:List Ng} {no:Option Addr} {nc:Nat} {fr:Nat->Nat} {T:Nat->af.U} {P:Nat->Prop}
theorem mH.at (h:mH u lb sb so cs Ty D no nc fr T P) {w:World} (hb:Below u.heap.size u w):fS w sb so cs Ty D no nc:=h.st.below hb
theorem mH.node (h:mH u lb sb so cs Ty D no nc fr T P) {n:Nat} (hn:n<D.length):∃d,D[fr n]?=some d/\jw D.length d/\d∈D/\(d.k=1->T n= .v ([],fr n))/\(d.k≠1->∃k tx num,im d=some (k,tx,num)/\T n= .n k tx num (d.args.map T)):=by
 obtain⟨d,h1,h2,h3,h4,h5⟩:=OG h.ok hn;refine⟨d,h1,h2,h5,fun hk=>h.to.var (by rw[h3];exact h2.nQ.2 hk),fun hk=> ?_⟩;obtain⟨p,hp⟩:∃p,im d=some p:=by
  cases q:im d with
  | none=>exact absurd (h2.nQ.1 q) hk
  | some p=>exact⟨p,rfl⟩
 obtain⟨k,tx,num⟩:=p;refine⟨k,tx,num,hp,?_⟩;rw[h.to.reads.front n,h.to.reads.node (fr n) k tx num (by rw[h3,hp]),h4]
theorem mH.uz (h:mH u lb sb so cs Ty D no nc fr T P) {n:Nat} (hn:n<D.length) {d:Ng} (hd:D[fr n]?=some d):(d.k=1↔af.uz (T n)=true)/\(d.k=1->T n= .v ([],fr n)):=by
 obtain⟨d',h1,h2,h3,h4,h5⟩:=h.node hn;rw[hd]at h1;cases h1;refine⟨⟨fun q=>by rw[h4 q];rfl,fun q=> ?_⟩,h4⟩;by_cases hk:d.k=1
 ·exact hk
 ·obtain⟨k,tx,num,_,e⟩:=h5 hk;rw[e]at q;cases q
end
theorem jR (w:World) (lb sb so:Nat) (cs:Array Value) (Ty:TypeId) (D:List Ng) (no:Option Addr) (nc:Nat) (R:Nat->Prop) (S:List Int) (W:List Nat) (nb:Bool) (n m k:Nat) (d:Ng) (u:af.U) (hs:fS w sb so cs Ty D no nc) (hop:Hop D n m k) (hd:D[m]?=some d) (hk:d.k=1->u= .v ([],m)) (hk':d.k≠1->af.uz u=false) (h:iR w lb S W nb R) (hl:W.length<=100000000):
 Calls Tryz.prog 81 #[.pointer (some ⟨lb,0,none⟩),.pointer (some ⟨sb,so,none⟩),.int .i64 (n:Int)] w fun e w'=>e= .returned (.tuple #[])/\∃R',iR w' lb S ((Wn.mk W nb).fh u).wt nb R'/\bZ R R' w w':=by
 have HL:=ah (fd w sb so cs Ty D no nc n m k d hs hop hd);have HF:=ah (fun w' (hb:Below w.heap.size w w')=>fw w' sb so cs Ty D no nc n m k (hs.below hb) hop);have H:=ah h;clear hs hop hd h;obtain⟨dk,val,tx,cnt,ao,cp,ar,nx,qs⟩:=d;dsimp only at HL hk hk';by_cases hk1:dk=1
 ·rw[hk hk1];subst hk1;show Calls _ _ _ _ fun e w'=>e= .returned (.tuple #[])/\∃R',iR w' lb S (FL W m) nb R'/\bZ R R' w w';clear hk hk';go_enter Tryz.func81,Tryz.ntmps81;go_wp2_with fail;refine(ae HL).mono ?_;rintro e w2 ⟨rfl,hb2⟩;have HB2:=ah hb2;have z2:=hb2.size;clear hb2;go_wp2_with fail;refine(ae HF _ ((ae HB2).alloc z2 _)).mono ?_;rintro e w3 ⟨rfl,rfl⟩;unfold cN;go_wp2_with fail;refine(pZ _ lb S W nb R m ((ae H).below ((ae HB2).alloc z2 _)) hl).mono ?_;rintro e w6 ⟨rfl,R6,h6,fr6⟩;have H6:=ah h6;have HF6:=ah fr6;clear h6 fr6;go_wp2_with fail;go_end0;exact⟨rfl,R6,ae H6,(bZ.aX ((ae HB2).alloc z2 _)).trans (ae HF6)⟩
 ·have t1:(dk == 1)=false:=by simpa using hk1
  have HE:=ah (show ((Wn.mk W nb).fh u).wt=W by
   have:=hk' hk1;cases u with
   | v x=>cases this
   | n k tx num ss=>rfl)
  rw[ae HE];clear hk1 hk hk';go_enter Tryz.func81,Tryz.ntmps81;go_wp2_with fail;refine(ae HL).mono ?_;rintro e w2 ⟨rfl,hb2⟩;have HB2:=ah hb2;have z2:=hb2.size;clear hb2;go_wp2_with fail;go_end0;exact⟨rfl,R,(ae H).below ((ae HB2).alloc z2 _),bZ.aX ((ae HB2).alloc z2 _)⟩
def OR (lb:Nat) (S:List Int) (l:Wn) (R:Nat->Prop) (w:World) (e:Ending) (w':World):Prop:=
 e= .returned (.tuple #[])/\∃R',iR w' lb S l.wt l.no R'/\bZ R R' w w'
def JX (s:Nat):Prop:=∀(u w:World) (lb sb so:Nat) (cs:Array Value) (Ty:TypeId) (D:List Ng) (no:Option Addr) (nc:Nat) (fr:Nat->Nat) (T:Nat->af.U) (P R:Nat->Prop) (S:List Int) (a b:Nat) (l:Wn),mH u lb sb so cs Ty D no nc fr T P->Below u.heap.size u w->iR w lb S l.wt l.no R->a<D.length->b<D.length->af.size (T a)<=s->l.wt.length+2*af.size (T a)<=100000000->
 Calls Tryz.prog 124 #[.pointer (some ⟨lb,0,none⟩),.pointer (some ⟨sb,so,none⟩),.int .i64 (a:Int),.int .i64 (b:Int)] w fun e w'=>OR lb S (gh (T a) (T b) l) R w e w'
theorem II (u w:World) (lb sb so:Nat) (cs:Array Value) (Ty:TypeId) (D:List Ng) (no:Option Addr) (nc:Nat) (fr:Nat->Nat) (T:Nat->af.U) (P R:Nat->Prop) (S:List Int) (a b:Nat) (l:Wn) (hG:mH u lb sb so cs Ty D no nc fr T P) (hu:Below u.heap.size u w) (h:iR w lb S l.wt l.no R) (ha:a<D.length) (hb:b<D.length) (he:fr a=fr b):
 Calls Tryz.prog 124 #[.pointer (some ⟨lb,0,none⟩),.pointer (some ⟨sb,so,none⟩),.int .i64 (a:Int),.int .i64 (b:Int)] w fun e w'=>OR lb S (gh (T a) (T b) l) R w e w':=by
 have hT:T a=T b:=by rw[hG.to.reads.front a,hG.to.reads.front b,he]
 rw[hT,vK];obtain⟨ka,hka⟩:=hG.ok.hop a ha;obtain⟨kb,hkb⟩:=hG.ok.hop b hb;rw[<-he]at hkb;have FA:=ah (fw w sb so cs Ty D no nc a (fr a) ka (hG.at hu) hka);have FB:=ah (fw w sb so cs Ty D no nc b (fr a) kb (hG.at hu) hkb);have H:=ah h;clear hG hu h ha hb hka hkb hT he;generalize fr a=p at*;go_enter Tryz.func124,Tryz.ntmps124;go_wp2_with fail;refine(ae FA).mono ?_;rintro e w2 ⟨rfl,rfl⟩;unfold cN at FB⊢;go_wp2_with fail;refine(ae FB).mono ?_;rintro e w2 ⟨rfl,rfl⟩;go_wp2_with fail;go_end0;exact⟨rfl,R,ae H,bZ.aX Qx⟩
end Go.Proofs.YthfjnfcekeknlabGreatDoor
namespace Go.Proofs.YthfjnfcekeknlabGreatDoor
open Go.RowKit af
variable {d:Ng} {w:World} {P:Nat->Prop} {D:List Ng} {s i n f k len:Nat} {TT:Nat->af.U} {S:List Int} {M:List (List UInt8)} {st:List (List UInt8×af.U)} {t:af.U} {x tx:List UInt8} {a:AV} {num:Int} {p:Tm}
theorem Eh (u w:World) (lb sb so:Nat) (cs:Array Value) (Ty:TypeId) (D:List Ng) (no:Option Addr) (nc:Nat) (fr:Nat->Nat) (T:Nat->af.U) (P R:Nat->Prop) (S:List Int) (a b:Nat) (l:Wn) (hG:mH u lb sb so cs Ty D no nc fr T P) (hu:Below u.heap.size u w) (h:iR w lb S l.wt l.no R) (ha:a<D.length) (hb:b<D.length) (he:fr a≠fr b) (hl:l.wt.length+2*af.size (T a)<=100000000) (da db:Ng) (hda:D[fr a]?=some da) (hdb:D[fr b]?=some db) (hv:da.k=1\/db.k=1):
 Calls Tryz.prog 124 #[.pointer (some ⟨lb,0,none⟩),.pointer (some ⟨sb,so,none⟩),.int .i64 (a:Int),.int .i64 (b:Int)] w fun e w'=>OR lb S (gh (T a) (T b) l) R w e w':=by
 obtain⟨ka,hka⟩:=hG.ok.hop a ha;obtain⟨kb,hkb⟩:=hG.ok.hop b hb;obtain⟨ja,hja⟩:=hG.ok.wZ ha;obtain⟨jb,hjb⟩:=hG.ok.wZ hb;have va:=hG.uz ha hda;have vb:=hG.uz hb hdb;have FA:=ah (fun W (hu:Below u.heap.size u W)=>fw W sb so cs Ty D no nc a (fr a) ka (hG.at hu) hka);have FB:=ah (fun W (hu:Below u.heap.size u W)=>fw W sb so cs Ty D no nc b (fr b) kb (hG.at hu) hkb);have LA:=ah (fun W (hu:Below u.heap.size u W)=>fd W sb so cs Ty D no nc (fr a) (fr a) ja da (hG.at hu) hja hda);have LB:=ah (fun W (hu:Below u.heap.size u W)=>fd W sb so cs Ty D no nc (fr b) (fr b) jb db (hG.at hu) hjb hdb);have WA:=ah (fun W (k:Wn) R (hu:Below u.heap.size u W) (h:iR W lb S k.wt k.no R) (hl:k.wt.length<=100000000)=>jR W lb sb so cs Ty D no nc R S k.wt k.no (fr a) (fr a) ja da (T a) (hG.at hu) hja hda va.2 (fun q=>dY.2 fun r=>q (va.1.2 r)) h hl);have WB:=ah (fun W (k:Wn) R (hu:Below u.heap.size u W) (h:iR W lb S k.wt k.no R) (hl:k.wt.length<=100000000)=>jR W lb sb so cs Ty D no nc R S k.wt k.no (fr b) (fr b) jb db (T b) (hG.at hu) hjb hdb vb.2 (fun q=>dY.2 fun r=>q (vb.1.2 r)) h hl);have hps:=size_pos (T a);have hl0:l.wt.length+2<=100000000:=by omega
 have t0:(((fr a:Nat):Int) == ((fr b:Nat):Int))=false:=by simp;omega
 have HG:=ah hG;have HU:=ah hu;have H:=ah h;have HS:=ah (show gh (T a) (T b) l=(l.fh (T a)).fh (T b)from I5 l (hv.imp va.1.1 vb.1.1) (fun x q r=>he (by have k1:=va.1.2 (by rw[q];rfl);have k2:=vb.1.2 (by rw[r];rfl);have e1:=va.2 k1;have e2:=vb.2 k2;rw[q]at e1;rw[r]at e2;rw[e1]at e2;injection e2 with e2;injection e2)))
 obtain⟨kd,vd,xd,cd,od,pd,gd,nd,md⟩:=da;obtain⟨kd',vd',xd',cd',od',pd',gd',nd',md'⟩:=db;dsimp only at LA LB hv;clear hG hu h ha hb he hl hda hdb hka hkb hja hjb va vb hps;generalize fr a=p at*;generalize fr b=q at*;by_cases k1:kd=1
 ·subst k1;clear hv;go_enter Tryz.func124,Tryz.ntmps124;go_wp2_with fail;refine(ae FA _ (ae HU)).mono ?_;rintro e w2 ⟨rfl,rfl⟩;unfold cN;go_wp2_with fail;refine(ae FB _ (ae HU)).mono ?_;rintro e w2 ⟨rfl,rfl⟩;unfold cN;go_wp2_with fail;refine(ae LA _ (ae HU)).mono ?_;rintro e w3 ⟨rfl,hb3⟩;have HB3:=ah hb3;have HU3:=ah ((ae HU).trans (hb3.mono (ae HU).size));clear hb3;go_wp2_with fail;refine(ae LB _ ((ae HU3).alloc (aW (ae HU).size (ae HB3).size) _)).mono ?_;rintro e w4 ⟨rfl,hb4⟩;have f0:=(hb4.cell (p:=⟨w3.heap.size,0,none⟩) (by simp)).trans (aN (aB w3 _) 0);have f1:=(hb4.cell (p:=⟨w3.heap.size,1,none⟩) (by simp)).trans (aN (aB w3 _) 1);have f2:=(hb4.cell (p:=⟨w3.heap.size,2,none⟩) (by simp)).trans (aN (aB w3 _) 2);have f3:=(hb4.cell (p:=⟨w3.heap.size,3,none⟩) (by simp)).trans (aN (aB w3 _) 3);simp only[aE,aq,aA]at f0 f1 f2 f3;have z3:=(ae HB3).size;have z4:=hb4.size;rw[aF]at z4;have z5:w3.heap.size<w4.heap.size:=by omega
  have HB4:=ah ((((ae HB3).alloc (ae HB3).size _).trans (hb4.mono (by rw[aF];omega))));clear hb4;go_wp2_with fail;have HR:=ah (ae H).rows;have d0:=aN (aB w4 (.cells #[.int .i64 kd',.int .i64 vd',.string xd',.int .i64 (cd':Int)] 144)) 0;have d1:=aN (aB w4 (.cells #[.int .i64 kd',.int .i64 vd',.string xd',.int .i64 (cd':Int)] 144)) 1;have d2:=aN (aB w4 (.cells #[.int .i64 kd',.int .i64 vd',.string xd',.int .i64 (cd':Int)] 144)) 2;have d3:=aN (aB w4 (.cells #[.int .i64 kd',.int .i64 vd',.string xd',.int .i64 (cd':Int)] 144)) 3;simp only[aE,aq,aA]at d0 d1 d2 d3;have HB5:=ah ((ae HB4).alloc (by omega) (.cells #[.int .i64 kd',.int .i64 vd',.string xd',.int .i64 (cd':Int)] 144));have HU5:=ah ((ae HU).trans ((ae HB5).mono (ae HU).size));refine(ae WA _ l R (ae HU5) ((ae H).below (ae HB5)) (by omega)).mono ?_;rintro e w6 ⟨rfl,R6,h6,fr6⟩;have HU6:=ah (((ae H).below (ae HB5)).under fr6 (ae HU5) (ae HG).lt);have HFR6:=ah ((bZ.aX (ae HB5)).trans fr6);have H6:=ah h6;have z6:=fr6.size;rw[aF]at z6;have r3:¬R w3.heap.size:=fun q=>by have:=(ae HR _ q).2;omega
  have r4:¬R w4.heap.size:=fun q=>by have:=(ae HR _ q).2;omega
  have g0:=(fr6.cell (p:=⟨w3.heap.size,0,none⟩) (by rw[aF];dsimp only;omega) r3).trans ((aC _ _ _ z5).trans f0);have g1:=(fr6.cell (p:=⟨w3.heap.size,1,none⟩) (by rw[aF];dsimp only;omega) r3).trans ((aC _ _ _ z5).trans f1);have g2:=(fr6.cell (p:=⟨w3.heap.size,2,none⟩) (by rw[aF];dsimp only;omega) r3).trans ((aC _ _ _ z5).trans f2);have g3:=(fr6.cell (p:=⟨w3.heap.size,3,none⟩) (by rw[aF];dsimp only;omega) r3).trans ((aC _ _ _ z5).trans f3);have k0:=(fr6.cell (p:=⟨w4.heap.size,0,none⟩) (by rw[aF];dsimp only;omega) r4).trans d0;have k1:=(fr6.cell (p:=⟨w4.heap.size,1,none⟩) (by rw[aF];dsimp only;omega) r4).trans d1;have k2:=(fr6.cell (p:=⟨w4.heap.size,2,none⟩) (by rw[aF];dsimp only;omega) r4).trans d2;have k3:=(fr6.cell (p:=⟨w4.heap.size,3,none⟩) (by rw[aF];dsimp only;omega) r4).trans d3;have HN3:=ah (fr6.not (k:=w3.heap.size) (by rw[aF];omega) r3);have HN4:=ah (fr6.not (k:=w4.heap.size) (by rw[aF];omega) r4);clear h6 fr6 f0 f1 f2 f3 d0 d1 d2 d3 r3 r4;have z63:w3.heap.size<w6.heap.size:=by omega
  have z64:w4.heap.size<w6.heap.size:=by omega
  go_wp2_with fail;refine(ae WB _ (l.fh (T a)) R6 (ae HU6) (by rw[Wn.iO];exact ae H6) (by have:=l.jB (T a);omega)).mono ?_;rintro e w7 ⟨rfl,R7,h7,fr7⟩;have h7:iR w7 lb S ((l.fh (T a)).fh (T b)).wt (l.fh (T a)).no R7:=h7;rw[show (l.fh (T a)).no=l.no from Wn.iO _ _]at h7;have HU7:=ah ((ae H6).under fr7 (ae HU6) (ae HG).lt);have HFR7:=ah ((ae HFR6).trans fr7);have H7:=ah (show iR w7 lb S ((l.fh (T a)).fh (T b)).wt l.no R7 from h7)
  have z7:=fr7.size;have f0:=(fr7.cell (p:=⟨w3.heap.size,0,none⟩) z63 (ae HN3)).trans g0;have f1:=(fr7.cell (p:=⟨w3.heap.size,1,none⟩) z63 (ae HN3)).trans g1;have f2:=(fr7.cell (p:=⟨w3.heap.size,2,none⟩) z63 (ae HN3)).trans g2;have f3:=(fr7.cell (p:=⟨w3.heap.size,3,none⟩) z63 (ae HN3)).trans g3;have d0:=(fr7.cell (p:=⟨w4.heap.size,0,none⟩) z64 (ae HN4)).trans k0;have d1:=(fr7.cell (p:=⟨w4.heap.size,1,none⟩) z64 (ae HN4)).trans k1;have d2:=(fr7.cell (p:=⟨w4.heap.size,2,none⟩) z64 (ae HN4)).trans k2;have d3:=(fr7.cell (p:=⟨w4.heap.size,3,none⟩) z64 (ae HN4)).trans k3;have z73:w3.heap.size<w7.heap.size:=by omega
  have z74:w4.heap.size<w7.heap.size:=by omega
  clear h7 fr7 g0 g1 g2 g3 k0 k1 k2 k3 HN3 HN4 HR;go_wp2_with fail;go_end0;rw[ae HS];exact⟨rfl,R7,by rw[Wn.iO,Wn.iO];exact ae H7,ae HFR7⟩
 ·have k2:kd'=1:=hv.resolve_left k1;subst k2;have t1:(kd == 1)=false:=by simpa using k1
  clear hv k1;go_enter Tryz.func124,Tryz.ntmps124;go_wp2_with fail;refine(ae FA _ (ae HU)).mono ?_;rintro e w2 ⟨rfl,rfl⟩;unfold cN;go_wp2_with fail;refine(ae FB _ (ae HU)).mono ?_;rintro e w2 ⟨rfl,rfl⟩;unfold cN;go_wp2_with fail;refine(ae LA _ (ae HU)).mono ?_;rintro e w3 ⟨rfl,hb3⟩;have HB3:=ah hb3;have HU3:=ah ((ae HU).trans (hb3.mono (ae HU).size));clear hb3;go_wp2_with fail;refine(ae LB _ ((ae HU3).alloc (aW (ae HU).size (ae HB3).size) _)).mono ?_;rintro e w4 ⟨rfl,hb4⟩;have f0:=(hb4.cell (p:=⟨w3.heap.size,0,none⟩) (by simp)).trans (aN (aB w3 _) 0);have f1:=(hb4.cell (p:=⟨w3.heap.size,1,none⟩) (by simp)).trans (aN (aB w3 _) 1);have f2:=(hb4.cell (p:=⟨w3.heap.size,2,none⟩) (by simp)).trans (aN (aB w3 _) 2);have f3:=(hb4.cell (p:=⟨w3.heap.size,3,none⟩) (by simp)).trans (aN (aB w3 _) 3);simp only[aE,aq,aA]at f0 f1 f2 f3;have z3:=(ae HB3).size;have z4:=hb4.size;rw[aF]at z4;have z5:w3.heap.size<w4.heap.size:=by omega
  have HB4:=ah ((((ae HB3).alloc (ae HB3).size _).trans (hb4.mono (by rw[aF];omega))));clear hb4;go_wp2_with fail;have HR:=ah (ae H).rows;have d0:=aN (aB w4 (.cells #[.int .i64 1,.int .i64 vd',.string xd',.int .i64 (cd':Int)] 144)) 0;have d1:=aN (aB w4 (.cells #[.int .i64 1,.int .i64 vd',.string xd',.int .i64 (cd':Int)] 144)) 1;have d2:=aN (aB w4 (.cells #[.int .i64 1,.int .i64 vd',.string xd',.int .i64 (cd':Int)] 144)) 2;have d3:=aN (aB w4 (.cells #[.int .i64 1,.int .i64 vd',.string xd',.int .i64 (cd':Int)] 144)) 3;simp only[aE,aq,aA]at d0 d1 d2 d3;have HB5:=ah ((ae HB4).alloc (by omega) (.cells #[.int .i64 1,.int .i64 vd',.string xd',.int .i64 (cd':Int)] 144));have HU5:=ah ((ae HU).trans ((ae HB5).mono (ae HU).size));refine(ae WA _ l R (ae HU5) ((ae H).below (ae HB5)) (by omega)).mono ?_;rintro e w6 ⟨rfl,R6,h6,fr6⟩;have HU6:=ah (((ae H).below (ae HB5)).under fr6 (ae HU5) (ae HG).lt);have HFR6:=ah ((bZ.aX (ae HB5)).trans fr6);have H6:=ah h6;have z6:=fr6.size;rw[aF]at z6;have r3:¬R w3.heap.size:=fun q=>by have:=(ae HR _ q).2;omega
  have r4:¬R w4.heap.size:=fun q=>by have:=(ae HR _ q).2;omega
  have g0:=(fr6.cell (p:=⟨w3.heap.size,0,none⟩) (by rw[aF];dsimp only;omega) r3).trans ((aC _ _ _ z5).trans f0);have g1:=(fr6.cell (p:=⟨w3.heap.size,1,none⟩) (by rw[aF];dsimp only;omega) r3).trans ((aC _ _ _ z5).trans f1);have g2:=(fr6.cell (p:=⟨w3.heap.size,2,none⟩) (by rw[aF];dsimp only;omega) r3).trans ((aC _ _ _ z5).trans f2);have g3:=(fr6.cell (p:=⟨w3.heap.size,3,none⟩) (by rw[aF];dsimp only;omega) r3).trans ((aC _ _ _ z5).trans f3);have k0:=(fr6.cell (p:=⟨w4.heap.size,0,none⟩) (by rw[aF];dsimp only;omega) r4).trans d0;have k1:=(fr6.cell (p:=⟨w4.heap.size,1,none⟩) (by rw[aF];dsimp only;omega) r4).trans d1;have k2:=(fr6.cell (p:=⟨w4.heap.size,2,none⟩) (by rw[aF];dsimp only;omega) r4).trans d2;have k3:=(fr6.cell (p:=⟨w4.heap.size,3,none⟩) (by rw[aF];dsimp only;omega) r4).trans d3;have HN3:=ah (fr6.not (k:=w3.heap.size) (by rw[aF];omega) r3);have HN4:=ah (fr6.not (k:=w4.heap.size) (by rw[aF];omega) r4);clear h6 fr6 f0 f1 f2 f3 d0 d1 d2 d3 r3 r4;have z63:w3.heap.size<w6.heap.size:=by omega
  have z64:w4.heap.size<w6.heap.size:=by omega
  go_wp2_with fail;refine(ae WB _ (l.fh (T a)) R6 (ae HU6) (by rw[Wn.iO];exact ae H6) (by have:=l.jB (T a);omega)).mono ?_;rintro e w7 ⟨rfl,R7,h7,fr7⟩;have h7:iR w7 lb S ((l.fh (T a)).fh (T b)).wt (l.fh (T a)).no R7:=h7;rw[show (l.fh (T a)).no=l.no from Wn.iO _ _]at h7;have HU7:=ah ((ae H6).under fr7 (ae HU6) (ae HG).lt);have HFR7:=ah ((ae HFR6).trans fr7);have H7:=ah (show iR w7 lb S ((l.fh (T a)).fh (T b)).wt l.no R7 from h7)
  have z7:=fr7.size;have f0:=(fr7.cell (p:=⟨w3.heap.size,0,none⟩) z63 (ae HN3)).trans g0;have f1:=(fr7.cell (p:=⟨w3.heap.size,1,none⟩) z63 (ae HN3)).trans g1;have f2:=(fr7.cell (p:=⟨w3.heap.size,2,none⟩) z63 (ae HN3)).trans g2;have f3:=(fr7.cell (p:=⟨w3.heap.size,3,none⟩) z63 (ae HN3)).trans g3;have d0:=(fr7.cell (p:=⟨w4.heap.size,0,none⟩) z64 (ae HN4)).trans k0;have d1:=(fr7.cell (p:=⟨w4.heap.size,1,none⟩) z64 (ae HN4)).trans k1;have d2:=(fr7.cell (p:=⟨w4.heap.size,2,none⟩) z64 (ae HN4)).trans k2;have d3:=(fr7.cell (p:=⟨w4.heap.size,3,none⟩) z64 (ae HN4)).trans k3;have z73:w3.heap.size<w7.heap.size:=by omega
  have z74:w4.heap.size<w7.heap.size:=by omega
  clear h7 fr7 g0 g1 g2 g3 k0 k1 k2 k3 HN3 HN4 HR;go_wp2_with fail;go_end0;rw[ae HS];exact⟨rfl,R7,by rw[Wn.iO,Wn.iO];exact ae H7,ae HFR7⟩
theorem LR (u w:World) (lb sb so:Nat) (cs:Array Value) (Ty:TypeId) (D:List Ng) (no:Option Addr) (nc:Nat) (fr:Nat->Nat) (T:Nat->af.U) (P R:Nat->Prop) (S:List Int) (a b:Nat) (l:Wn) (hG:mH u lb sb so cs Ty D no nc fr T P) (hu:Below u.heap.size u w) (h:iR w lb S l.wt l.no R) (ha:a<D.length) (hb:b<D.length) (he:fr a≠fr b) (hl:l.wt.length+2*af.size (T a)<=100000000) (da db:Ng) (hda:D[fr a]?=some da) (hdb:D[fr b]?=some db) (k1:da.k≠1) (k2:db.k≠1) (hx:¬(da.k=db.k/\da.val=db.val/\da.tx=db.tx/\da.cnt=db.cnt)):
 Calls Tryz.prog 124 #[.pointer (some ⟨lb,0,none⟩),.pointer (some ⟨sb,so,none⟩),.int .i64 (a:Int),.int .i64 (b:Int)] w fun e w'=>OR lb S (gh (T a) (T b) l) R w e w':=by
 obtain⟨ka,hka⟩:=hG.ok.hop a ha;obtain⟨kb,hkb⟩:=hG.ok.hop b hb;obtain⟨ja,hja⟩:=hG.ok.wZ ha;obtain⟨jb,hjb⟩:=hG.ok.wZ hb;have va:=hG.uz ha hda;have vb:=hG.uz hb hdb;have FA:=ah (fun W (hu:Below u.heap.size u W)=>fw W sb so cs Ty D no nc a (fr a) ka (hG.at hu) hka);have FB:=ah (fun W (hu:Below u.heap.size u W)=>fw W sb so cs Ty D no nc b (fr b) kb (hG.at hu) hkb);have LA:=ah (fun W (hu:Below u.heap.size u W)=>fd W sb so cs Ty D no nc (fr a) (fr a) ja da (hG.at hu) hja hda);have LB:=ah (fun W (hu:Below u.heap.size u W)=>fd W sb so cs Ty D no nc (fr b) (fr b) jb db (hG.at hu) hjb hdb);have WA:=ah (fun W (k:Wn) R (hu:Below u.heap.size u W) (h:iR W lb S k.wt k.no R) (hl:k.wt.length<=100000000)=>jR W lb sb so cs Ty D no nc R S k.wt k.no (fr a) (fr a) ja da (T a) (hG.at hu) hja hda va.2 (fun q=>dY.2 fun r=>q (va.1.2 r)) h hl);have WB:=ah (fun W (k:Wn) R (hu:Below u.heap.size u W) (h:iR W lb S k.wt k.no R) (hl:k.wt.length<=100000000)=>jR W lb sb so cs Ty D no nc R S k.wt k.no (fr b) (fr b) jb db (T b) (hG.at hu) hjb hdb vb.2 (fun q=>dY.2 fun r=>q (vb.1.2 r)) h hl);have hps:=size_pos (T a);have hl0:l.wt.length+2<=100000000:=by omega
 have t0:(((fr a:Nat):Int) == ((fr b:Nat):Int))=false:=by simp;omega
 have HG:=ah hG;have HU:=ah hu;have H:=ah h;obtain⟨_,e1,oa,ma,_,na⟩:=hG.node ha;rw[hda]at e1;cases e1;obtain⟨_,e2,ob,mb,_,nb⟩:=hG.node hb;rw[hdb]at e2;cases e2;obtain⟨ua,xa,ia,la,ea⟩:=na k1;obtain⟨ub,xb,ib,lb',eb⟩:=nb k2;have HAT:=ah (show ((l.fh (T a)).fh (T b)).wt=l.wt by rw[ea,eb];rfl)
 have HS:=ah (show gh (T a) (T b) l=l.bad by
  rw[ea,eb];refine I6 l fun q=>hx ((rO oa ob k1 k2).1 ⟨?_,?_⟩)
  ·rw[la,lb',q.1,q.2.1,q.2.2.1]
  ·have:=q.2.2.2;rw[bj,bj]at this;exact this)
 have HT3:=ah hx;have t1:(da.k == 1)=false:=by simpa using k1
 have t2:(db.k == 1)=false:=by simpa using k2
 obtain⟨kd,vd,xd,cd,od,pd,gd,nd,md⟩:=da;obtain⟨kd',vd',xd',cd',od',pd',gd',nd',md'⟩:=db;dsimp only at LA LB t1 t2 HT3;clear hG hu h ha hb he hl hda hdb hka hkb hja hjb va vb hps oa ob ma mb na nb la lb' ea eb k1 k2 hx;generalize fr a=p at*;generalize fr b=q at*;go_enter Tryz.func124,Tryz.ntmps124;go_wp2_with fail;refine(ae FA _ (ae HU)).mono ?_;rintro e w2 ⟨rfl,rfl⟩;unfold cN;go_wp2_with fail;refine(ae FB _ (ae HU)).mono ?_;rintro e w2 ⟨rfl,rfl⟩;unfold cN;go_wp2_with fail;refine(ae LA _ (ae HU)).mono ?_;rintro e w3 ⟨rfl,hb3⟩;have HB3:=ah hb3;have HU3:=ah ((ae HU).trans (hb3.mono (ae HU).size));clear hb3;go_wp2_with fail;refine(ae LB _ ((ae HU3).alloc (aW (ae HU).size (ae HB3).size) _)).mono ?_;rintro e w4 ⟨rfl,hb4⟩;have f0:=(hb4.cell (p:=⟨w3.heap.size,0,none⟩) (by simp)).trans (aN (aB w3 _) 0);have f1:=(hb4.cell (p:=⟨w3.heap.size,1,none⟩) (by simp)).trans (aN (aB w3 _) 1);have f2:=(hb4.cell (p:=⟨w3.heap.size,2,none⟩) (by simp)).trans (aN (aB w3 _) 2);have f3:=(hb4.cell (p:=⟨w3.heap.size,3,none⟩) (by simp)).trans (aN (aB w3 _) 3);simp only[aE,aq,aA]at f0 f1 f2 f3;have z3:=(ae HB3).size;have z4:=hb4.size;rw[aF]at z4;have z5:w3.heap.size<w4.heap.size:=by omega
 have HB4:=ah ((((ae HB3).alloc (ae HB3).size _).trans (hb4.mono (by rw[aF];omega))));clear hb4;go_wp2_with fail;have HR:=ah (ae H).rows;have d0:=aN (aB w4 (.cells #[.int .i64 kd',.int .i64 vd',.string xd',.int .i64 (cd':Int)] 144)) 0;have d1:=aN (aB w4 (.cells #[.int .i64 kd',.int .i64 vd',.string xd',.int .i64 (cd':Int)] 144)) 1;have d2:=aN (aB w4 (.cells #[.int .i64 kd',.int .i64 vd',.string xd',.int .i64 (cd':Int)] 144)) 2;have d3:=aN (aB w4 (.cells #[.int .i64 kd',.int .i64 vd',.string xd',.int .i64 (cd':Int)] 144)) 3;simp only[aE,aq,aA]at d0 d1 d2 d3;have HB5:=ah ((ae HB4).alloc (by omega) (.cells #[.int .i64 kd',.int .i64 vd',.string xd',.int .i64 (cd':Int)] 144));have HU5:=ah ((ae HU).trans ((ae HB5).mono (ae HU).size));refine(ae WA _ l R (ae HU5) ((ae H).below (ae HB5)) (by omega)).mono ?_;rintro e w6 ⟨rfl,R6,h6,fr6⟩;have HU6:=ah (((ae H).below (ae HB5)).under fr6 (ae HU5) (ae HG).lt);have HFR6:=ah ((bZ.aX (ae HB5)).trans fr6);have H6:=ah h6;have z6:=fr6.size;rw[aF]at z6;have r3:¬R w3.heap.size:=fun q=>by have:=(ae HR _ q).2;omega
 have r4:¬R w4.heap.size:=fun q=>by have:=(ae HR _ q).2;omega
 have g0:=(fr6.cell (p:=⟨w3.heap.size,0,none⟩) (by rw[aF];dsimp only;omega) r3).trans ((aC _ _ _ z5).trans f0);have g1:=(fr6.cell (p:=⟨w3.heap.size,1,none⟩) (by rw[aF];dsimp only;omega) r3).trans ((aC _ _ _ z5).trans f1);have g2:=(fr6.cell (p:=⟨w3.heap.size,2,none⟩) (by rw[aF];dsimp only;omega) r3).trans ((aC _ _ _ z5).trans f2);have g3:=(fr6.cell (p:=⟨w3.heap.size,3,none⟩) (by rw[aF];dsimp only;omega) r3).trans ((aC _ _ _ z5).trans f3);have k0:=(fr6.cell (p:=⟨w4.heap.size,0,none⟩) (by rw[aF];dsimp only;omega) r4).trans d0;have k1:=(fr6.cell (p:=⟨w4.heap.size,1,none⟩) (by rw[aF];dsimp only;omega) r4).trans d1;have k2:=(fr6.cell (p:=⟨w4.heap.size,2,none⟩) (by rw[aF];dsimp only;omega) r4).trans d2;have k3:=(fr6.cell (p:=⟨w4.heap.size,3,none⟩) (by rw[aF];dsimp only;omega) r4).trans d3;have HN3:=ah (fr6.not (k:=w3.heap.size) (by rw[aF];omega) r3);have HN4:=ah (fr6.not (k:=w4.heap.size) (by rw[aF];omega) r4);clear h6 fr6 f0 f1 f2 f3 d0 d1 d2 d3 r3 r4;have z63:w3.heap.size<w6.heap.size:=by omega
 have z64:w4.heap.size<w6.heap.size:=by omega
 go_wp2_with fail;refine(ae WB _ (l.fh (T a)) R6 (ae HU6) (by rw[Wn.iO];exact ae H6) (by have:=l.jB (T a);omega)).mono ?_;rintro e w7 ⟨rfl,R7,h7,fr7⟩;have h7:iR w7 lb S ((l.fh (T a)).fh (T b)).wt (l.fh (T a)).no R7:=h7;rw[show (l.fh (T a)).no=l.no from Wn.iO _ _]at h7;have HU7:=ah ((ae H6).under fr7 (ae HU6) (ae HG).lt);have HFR7:=ah ((ae HFR6).trans fr7);have H7:=ah (show iR w7 lb S ((l.fh (T a)).fh (T b)).wt l.no R7 from h7)
 have z7:=fr7.size;have f0:=(fr7.cell (p:=⟨w3.heap.size,0,none⟩) z63 (ae HN3)).trans g0;have f1:=(fr7.cell (p:=⟨w3.heap.size,1,none⟩) z63 (ae HN3)).trans g1;have f2:=(fr7.cell (p:=⟨w3.heap.size,2,none⟩) z63 (ae HN3)).trans g2;have f3:=(fr7.cell (p:=⟨w3.heap.size,3,none⟩) z63 (ae HN3)).trans g3;have d0:=(fr7.cell (p:=⟨w4.heap.size,0,none⟩) z64 (ae HN4)).trans k0;have d1:=(fr7.cell (p:=⟨w4.heap.size,1,none⟩) z64 (ae HN4)).trans k1;have d2:=(fr7.cell (p:=⟨w4.heap.size,2,none⟩) z64 (ae HN4)).trans k2;have d3:=(fr7.cell (p:=⟨w4.heap.size,3,none⟩) z64 (ae HN4)).trans k3;have z73:w3.heap.size<w7.heap.size:=by omega
 have z74:w4.heap.size<w7.heap.size:=by omega
 clear h7 fr7 g0 g1 g2 g3 k0 k1 k2 k3 HN3 HN4 HR;rw[ae HAT]at H7;obtain⟨so',sc,wo,wc,hlo,rfl⟩:=(ae H7);have s2:=aN hlo.blk 2;have sf:=bI hlo.blk 2;have sz:=aD hlo.blk;simp only[aE,aq,aA]at s2;have HLO:=ah hlo;clear hlo HAT;go_wp2_with fail
 all_goals first
  | (exfalso;exact ae HT3 ⟨by assumption,by assumption,toList_inj (by assumption),by omega⟩)
  | (go_end0;rw[ae HS];exact⟨rfl,_,⟨so',sc,wo,wc,(ae HLO).bad.1,rfl⟩,(ae HFR7).trans (ae HLO).bad.2⟩)
def P0 (lb:Nat) (S:List Int) (T:Nat->af.U) (ga gb:List Nat) (l:Wn) (R:Nat->Prop) (w:World) (k:Nat) (iv:Value) (wr:World):Prop:=
 ∃(j:Nat) (R':Nat->Prop),k+j=ga.length/\iv= .int .i64 (j:Int)/\iR wr lb S (gD ((ga.map T).take j) ((gb.map T).take j) l).wt (gD ((ga.map T).take j) ((gb.map T).take j) l).no R'/\bZ R R' w wr
theorem di.at (h:di w D P) (hd:d∈D) (hn:d.args≠[]):∃g,d.ao=some ⟨g,0,none⟩/\g<w.heap.size/\∀i (hi:i<d.args.length),w.cell? ⟨g,i,none⟩=some (.int .i64 (d.args[i]:Int)):=by obtain⟨g,cs,h1,_,h3,h4⟩:=h d hd hn;refine⟨g,h1,aD h3,fun i hi=> ?_⟩;rw[aN h3,<-ci,<-cr hi,h4,bC,aj hi];rfl
theorem IK (IH:JX s) (u w:World) (lb sb so:Nat) (cs:Array Value) (Ty:TypeId) (D:List Ng) (no:Option Addr) (nc:Nat) (fr:Nat->Nat) (T:Nat->af.U) (P R:Nat->Prop) (S:List Int) (a b:Nat) (l:Wn) (hG:mH u lb sb so cs Ty D no nc fr T P) (hu:Below u.heap.size u w) (h:iR w lb S l.wt l.no R) (ha:a<D.length) (hb:b<D.length) (he:fr a≠fr b) (hl:l.wt.length+2*af.size (T a)<=100000000) (da db:Ng) (hda:D[fr a]?=some da) (hdb:D[fr b]?=some db) (hsz:af.size (T a)<=s+1) (k1:da.k≠1) (k2:db.k≠1) (hx:da.k=db.k/\da.val=db.val/\da.tx=db.tx/\da.cnt=db.cnt):
 Calls Tryz.prog 124 #[.pointer (some ⟨lb,0,none⟩),.pointer (some ⟨sb,so,none⟩),.int .i64 (a:Int),.int .i64 (b:Int)] w fun e w'=>OR lb S (gh (T a) (T b) l) R w e w':=by
 obtain⟨ka,hka⟩:=hG.ok.hop a ha;obtain⟨kb,hkb⟩:=hG.ok.hop b hb;obtain⟨ja,hja⟩:=hG.ok.wZ ha;obtain⟨jb,hjb⟩:=hG.ok.wZ hb;have va:=hG.uz ha hda;have vb:=hG.uz hb hdb;have FA:=ah (fun W (hu:Below u.heap.size u W)=>fw W sb so cs Ty D no nc a (fr a) ka (hG.at hu) hka);have FB:=ah (fun W (hu:Below u.heap.size u W)=>fw W sb so cs Ty D no nc b (fr b) kb (hG.at hu) hkb);have LA:=ah (fun W (hu:Below u.heap.size u W)=>fd W sb so cs Ty D no nc (fr a) (fr a) ja da (hG.at hu) hja hda);have LB:=ah (fun W (hu:Below u.heap.size u W)=>fd W sb so cs Ty D no nc (fr b) (fr b) jb db (hG.at hu) hjb hdb);have WA:=ah (fun W (k:Wn) R (hu:Below u.heap.size u W) (h:iR W lb S k.wt k.no R) (hl:k.wt.length<=100000000)=>jR W lb sb so cs Ty D no nc R S k.wt k.no (fr a) (fr a) ja da (T a) (hG.at hu) hja hda va.2 (fun q=>dY.2 fun r=>q (va.1.2 r)) h hl);have WB:=ah (fun W (k:Wn) R (hu:Below u.heap.size u W) (h:iR W lb S k.wt k.no R) (hl:k.wt.length<=100000000)=>jR W lb sb so cs Ty D no nc R S k.wt k.no (fr b) (fr b) jb db (T b) (hG.at hu) hjb hdb vb.2 (fun q=>dY.2 fun r=>q (vb.1.2 r)) h hl);have hps:=size_pos (T a);have hl0:l.wt.length+2<=100000000:=by omega
 have t0:(((fr a:Nat):Int) == ((fr b:Nat):Int))=false:=by simp;omega
 have HG:=ah hG;have HU:=ah hu;have H:=ah h;obtain⟨_,e1,oa,ma,_,na⟩:=hG.node ha;rw[hda]at e1;cases e1;obtain⟨_,e2,ob,mb,_,nb⟩:=hG.node hb;rw[hdb]at e2;cases e2;obtain⟨ua,xa,ia,la,ea⟩:=na k1;obtain⟨ub,xb,ib,lb',eb⟩:=nb k2;have HAT:=ah (show ((l.fh (T a)).fh (T b)).wt=l.wt by rw[ea,eb];rfl)
 obtain⟨le,ll⟩:=(rO oa ob k1 k2).2 hx;have HS:=ah (show gh (T a) (T b) l=gD (da.args.map T) (db.args.map T) l by rw[la,lb']at le;injection le with le;injection le with u1 le;injection le with u2 u3;subst u1 u2 u3;rw[ea,eb];exact Fy l (by rw[bj,bj];exact ll))
 have hsum:af.size (T a)=1+b8 (da.args.map T):=by rw[ea,af.size];try omega
 have AA:=ah (fun W (hu:Below u.heap.size u W)=>lC W sb so cs Ty D no nc (fr a) (fr a) ja da (hG.at hu) hja hda);have AB:=ah (fun W (hu:Below u.heap.size u W)=>lC W sb so cs Ty D no nc (fr b) (fr b) jb db (hG.at hu) hjb hdb);have CA:=ah (fun q=>hG.ar.at ma q);have CB:=ah (fun q=>hG.ar.at mb q);have IA:=ah oa.A7;have IB:=ah ob.A7;have h3:da.args.length<=3:=oa.few;have H3:=ah h3;have t1:(da.k == 1)=false:=by simpa using k1
 have t2:(db.k == 1)=false:=by simpa using k2
 have HX:=ah hx;obtain⟨kd,vd,xd,cd,od,pd,gd,nd,md⟩:=da;obtain⟨kd',vd',xd',cd',od',pd',gd',nd',md'⟩:=db;dsimp only at LA LB t1 t2 hx AA AB CA CB IA IB HS ll hsum H3;obtain⟨rfl,rfl,rfl,rfl⟩:=hx;rw[<-ll]at AB;have HLL:=ah ll;have HSUM:=ah hsum;have HSZ:=ah hsz;have HL:=ah hl;have I:=ah IH;clear hG hu h ha hb he hl hda hdb hka hkb hja hjb va vb hps oa ob ma mb na nb la lb' ea eb k1 k2 h3 ll le hsum hsz IH HX;generalize fr a=p at*;generalize fr b=q at*;go_enter Tryz.func124,Tryz.ntmps124;go_wp2_with fail;refine(ae FA _ (ae HU)).mono ?_;rintro e w2 ⟨rfl,rfl⟩;unfold cN;go_wp2_with fail;refine(ae FB _ (ae HU)).mono ?_;rintro e w2 ⟨rfl,rfl⟩;unfold cN;go_wp2_with fail;refine(ae LA _ (ae HU)).mono ?_;rintro e w3 ⟨rfl,hb3⟩;have HB3:=ah hb3;have HU3:=ah ((ae HU).trans (hb3.mono (ae HU).size));clear hb3;go_wp2_with fail;refine(ae LB _ ((ae HU3).alloc (aW (ae HU).size (ae HB3).size) _)).mono ?_;rintro e w4 ⟨rfl,hb4⟩;have f0:=(hb4.cell (p:=⟨w3.heap.size,0,none⟩) (by simp)).trans (aN (aB w3 _) 0);have f1:=(hb4.cell (p:=⟨w3.heap.size,1,none⟩) (by simp)).trans (aN (aB w3 _) 1);have f2:=(hb4.cell (p:=⟨w3.heap.size,2,none⟩) (by simp)).trans (aN (aB w3 _) 2);have f3:=(hb4.cell (p:=⟨w3.heap.size,3,none⟩) (by simp)).trans (aN (aB w3 _) 3);simp only[aE,aq,aA]at f0 f1 f2 f3;have z3:=(ae HB3).size;have z4:=hb4.size;rw[aF]at z4;have z5:w3.heap.size<w4.heap.size:=by omega
 have HB4:=ah ((((ae HB3).alloc (ae HB3).size _).trans (hb4.mono (by rw[aF];omega))));clear hb4;go_wp2_with fail;have HR:=ah (ae H).rows;have d0:=aN (aB w4 (.cells #[.int .i64 kd,.int .i64 vd,.string xd,.int .i64 (cd:Int)] 144)) 0;have d1:=aN (aB w4 (.cells #[.int .i64 kd,.int .i64 vd,.string xd,.int .i64 (cd:Int)] 144)) 1;have d2:=aN (aB w4 (.cells #[.int .i64 kd,.int .i64 vd,.string xd,.int .i64 (cd:Int)] 144)) 2;have d3:=aN (aB w4 (.cells #[.int .i64 kd,.int .i64 vd,.string xd,.int .i64 (cd:Int)] 144)) 3;simp only[aE,aq,aA]at d0 d1 d2 d3;have HB5:=ah ((ae HB4).alloc (by omega) (.cells #[.int .i64 kd,.int .i64 vd,.string xd,.int .i64 (cd:Int)] 144));have HU5:=ah ((ae HU).trans ((ae HB5).mono (ae HU).size));refine(ae WA _ l R (ae HU5) ((ae H).below (ae HB5)) (by omega)).mono ?_;rintro e w6 ⟨rfl,R6,h6,fr6⟩;have HU6:=ah (((ae H).below (ae HB5)).under fr6 (ae HU5) (ae HG).lt);have HFR6:=ah ((bZ.aX (ae HB5)).trans fr6);have H6:=ah h6;have z6:=fr6.size;rw[aF]at z6;have r3:¬R w3.heap.size:=fun q=>by have:=(ae HR _ q).2;omega
 have r4:¬R w4.heap.size:=fun q=>by have:=(ae HR _ q).2;omega
 have g0:=(fr6.cell (p:=⟨w3.heap.size,0,none⟩) (by rw[aF];dsimp only;omega) r3).trans ((aC _ _ _ z5).trans f0);have g1:=(fr6.cell (p:=⟨w3.heap.size,1,none⟩) (by rw[aF];dsimp only;omega) r3).trans ((aC _ _ _ z5).trans f1);have g2:=(fr6.cell (p:=⟨w3.heap.size,2,none⟩) (by rw[aF];dsimp only;omega) r3).trans ((aC _ _ _ z5).trans f2);have g3:=(fr6.cell (p:=⟨w3.heap.size,3,none⟩) (by rw[aF];dsimp only;omega) r3).trans ((aC _ _ _ z5).trans f3);have k0:=(fr6.cell (p:=⟨w4.heap.size,0,none⟩) (by rw[aF];dsimp only;omega) r4).trans d0;have k1:=(fr6.cell (p:=⟨w4.heap.size,1,none⟩) (by rw[aF];dsimp only;omega) r4).trans d1;have k2:=(fr6.cell (p:=⟨w4.heap.size,2,none⟩) (by rw[aF];dsimp only;omega) r4).trans d2;have k3:=(fr6.cell (p:=⟨w4.heap.size,3,none⟩) (by rw[aF];dsimp only;omega) r4).trans d3;have HN3:=ah (fr6.not (k:=w3.heap.size) (by rw[aF];omega) r3);have HN4:=ah (fr6.not (k:=w4.heap.size) (by rw[aF];omega) r4);clear h6 fr6 f0 f1 f2 f3 d0 d1 d2 d3 r3 r4;have z63:w3.heap.size<w6.heap.size:=by omega
 have z64:w4.heap.size<w6.heap.size:=by omega
 go_wp2_with fail;refine(ae WB _ (l.fh (T a)) R6 (ae HU6) (by rw[Wn.iO];exact ae H6) (by have:=l.jB (T a);omega)).mono ?_;rintro e w7 ⟨rfl,R7,h7,fr7⟩;have h7:iR w7 lb S ((l.fh (T a)).fh (T b)).wt (l.fh (T a)).no R7:=h7;rw[show (l.fh (T a)).no=l.no from Wn.iO _ _]at h7;have HU7:=ah ((ae H6).under fr7 (ae HU6) (ae HG).lt);have HFR7:=ah ((ae HFR6).trans fr7);have H7:=ah (show iR w7 lb S ((l.fh (T a)).fh (T b)).wt l.no R7 from h7)
 have z7:=fr7.size;have f0:=(fr7.cell (p:=⟨w3.heap.size,0,none⟩) z63 (ae HN3)).trans g0;have f1:=(fr7.cell (p:=⟨w3.heap.size,1,none⟩) z63 (ae HN3)).trans g1;have f2:=(fr7.cell (p:=⟨w3.heap.size,2,none⟩) z63 (ae HN3)).trans g2;have f3:=(fr7.cell (p:=⟨w3.heap.size,3,none⟩) z63 (ae HN3)).trans g3;have d0:=(fr7.cell (p:=⟨w4.heap.size,0,none⟩) z64 (ae HN4)).trans k0;have d1:=(fr7.cell (p:=⟨w4.heap.size,1,none⟩) z64 (ae HN4)).trans k1;have d2:=(fr7.cell (p:=⟨w4.heap.size,2,none⟩) z64 (ae HN4)).trans k2;have d3:=(fr7.cell (p:=⟨w4.heap.size,3,none⟩) z64 (ae HN4)).trans k3;have z73:w3.heap.size<w7.heap.size:=by omega
 have z74:w4.heap.size<w7.heap.size:=by omega
 clear h7 fr7 g0 g1 g2 g3 k0 k1 k2 k3 HN3 HN4 HR;rw[ae HAT]at H7;go_wp2_with fail;have HST:=ah (show P0 lb S T gd gd' l R w2 gd.length (.int .i64 0) w7 from ⟨0,R7,by omega,rfl,by simpa [gD] using ae H7,ae HFR7⟩)
 clear f0 f1 f2 f3 d0 d1 d2 d3 z3 z4 z5 HB3 HU3 HB4 FA FB LA LB WA WB HAT t0 t1 t2;refine(ae AA _ (ae HU7)).mono ?_;rintro e w9 ⟨rfl,rfl⟩;go_wp2_with fail;refine(ae AB _ (ae HU7)).mono ?_;rintro e w9 ⟨rfl,rfl⟩;go_wp2_with fail;clear AA AB HB5 HU5 HU6 HFR6 H6 HFR7 H7;go_loopg [14] gd.length (fun k iv wr=>P0 lb S T gd gd' l R w2 k iv wr)
 case atStart=>exact ae HST
 case round=>
  clear HST;obtain⟨j,R',hkj,rfl,hlo,hfr⟩:=hrel;have hur:=(ae H).under hfr (ae HU) (ae HG).lt;by_cases hlt:j<gd.length
  ·have hjb:j<gd'.length:=by have:=ae HLL;omega
   obtain⟨pA,eA,zA,cA⟩:=ae CA (fun q=>by rw[q]at hlt;simp at hlt);obtain⟨pB,eB,zB,cB⟩:=ae CB (fun q=>by rw[q]at hjb;simp at hjb);subst eA eB;have f0:=(hur.cell (p:=⟨pA,j,none⟩) zA).trans (cA j hlt);have f1:=(hur.cell (p:=⟨pB,j,none⟩) zB).trans (cB j hjb);have HF0:=ah (show∀w',Below u.heap.size u w'->w'.cell? ⟨pA,j,none⟩=some (.int .i64 (gd[j]:Int))/\w'.cell? ⟨pB,j,none⟩=some (.int .i64 (gd'[j]:Int))from fun w' hb=>⟨(hb.cell (p:=⟨pA,j,none⟩) zA).trans (cA j hlt),(hb.cell (p:=⟨pB,j,none⟩) zB).trans (cB j hjb)⟩)
   have hla:j<(gd.map T).length:=by rw[bj];exact hlt
   have hlb:j<(gd'.map T).length:=by rw[bj];exact hjb
   have q1:=Fz ((gd.map T).take j) ((gd'.map T).take j) l;have q2:=qO (gd.map T) hla;have q3:=mS (gd.map T) (j+1);rw[fy]at q2;have IC:=ah (ae I u wr.drew lb sb so cs Ty D no nc fr T P R' S gd[j] gd'[j] (gD ((gd.map T).take j) ((gd'.map T).take j) l) (ae HG) hur.drew (hlo.below Qx.drew) (ae IA _ (aL hlt)) (ae IB _ (aL hjb)) (by have:=ae HSUM;have:=ae HSZ;omega) (by have:=ae HSUM;have:=ae HL;omega));have hst:=tN (gd.map T) (gd'.map T) l hla hlb;rw[fy,fy]at hst;rw[<-hst]at IC;have HFR:=ah hfr;have HUR:=ah hur;have HLO:=ah hlo;have HKJ:=ah hkj;have HLT:=ah hlt;generalize gd[j]=na at*;generalize gd'[j]=nb at*;have zr:u.heap.size<=wr.heap.size:=hur.size;have zA':pA<wr.heap.size:=by omega
   have zB':pB<wr.heap.size:=by omega
   have hj3:j<=3:=by have:=ae H3;omega
   have i0:(0:Int)<=(j:Int):=by omega
   have i1:(j:Int)<(gd.length:Int):=by omega
   clear hlo hfr hur hkj hlt hjb cA cB q1 q2 q3 hst hla hlb;go_wp2_with fail;go_region_held3 (fun w'=>w'.cell? ⟨pA,j,none⟩=some (.int .i64 (na:Int))/\w'.cell? ⟨pB,j,none⟩=some (.int .i64 (nb:Int))) (go_keep) (first
    | (go_at_call 124;refine(ae IC).mono ?_;rintro e w8 ⟨rfl,R8,h8,fr8⟩;have HFR8:=ah ((ae HFR).trans ((bZ.aX Qx.drew).trans fr8));obtain⟨k0,k1⟩:=ae HF0 w8 ((ae HLO).under ((bZ.aX Qx.drew).trans fr8) (ae HUR) (ae HG).lt);have H8:=ah h8;clear h8 fr8))
   all_goals
    go_wp2_with fail;go_roundg (gk - 1)
    case measure=>have:=ae HKJ;have:=ae HLT;omega
    case rel=>exact⟨j+1,R8,by have:=ae HKJ;have:=ae HLT;omega,by go_num,ae H8,ae HFR8⟩
  ·obtain rfl:j=gd.length:=by omega
   have HLO:=ah hlo;have HFR:=ah hfr;clear hlo hfr hur hkj;go_wp2_with fail;go_end0;rw[ae HS];have q1:=ae HLO;rw[cV (by rw[bj];exact Qw),cV (by rw[bj];have:=ae HLL;omega)]at q1;exact⟨rfl,R',q1,ae HFR⟩
theorem xq:∀s,JX s
 | 0=>fun _ _ _ _ _ _ _ _ _ _ _ T _ _ _ a _ _ _ _ _ _ _ hs=>by have:=size_pos (T a);omega
 | s+1=>fun u w lb sb so cs Ty D no nc fr T P R S a b l hG hu h ha hb hs hl=>by
  by_cases he:fr a=fr b
  ·exact II u w lb sb so cs Ty D no nc fr T P R S a b l hG hu h ha hb he
  ·obtain⟨da,hda,_⟩:=hG.node ha;obtain⟨db,hdb,_⟩:=hG.node hb;by_cases k1:da.k=1
   ·exact Eh u w lb sb so cs Ty D no nc fr T P R S a b l hG hu h ha hb he hl da db hda hdb (ay k1)
   ·by_cases k2:db.k=1
    ·exact Eh u w lb sb so cs Ty D no nc fr T P R S a b l hG hu h ha hb he hl da db hda hdb (aw k2)
    ·by_cases hx:da.k=db.k/\da.val=db.val/\da.tx=db.tx/\da.cnt=db.cnt
     ·exact IK (xq s) u w lb sb so cs Ty D no nc fr T P R S a b l hG hu h ha hb he hl da db hda hdb hs k1 k2 hx
     ·exact LR u w lb sb so cs Ty D no nc fr T P R S a b l hG hu h ha hb he hl da db hda hdb k1 k2 hx
structure xL (D:List Ng) (TT:Nat->af.U) (M:List (List UInt8)) (S:List Int) (st:List (List UInt8×af.U)):Prop where
 un:∀(i:Nat) (x:List UInt8),M[i]?=some x->st.find? (fun q=>q.1 == x)=none->S[i]?=none\/S[i]?=some (-1)
 kn:∀(i:Nat) (x:List UInt8) (q:List UInt8×af.U),M[i]?=some x->st.find? (fun q=>q.1 == x)=some q->∃n:Nat,S[i]?=some (n:Int)/\n<D.length/\TT n=q.2
theorem xL.room (h:xL D TT M S st):xL D TT M (S++[-1]) st:=by
 refine⟨fun i x hx hs=> ?_,fun i x q hx hs=> ?_⟩
 ·rcases h.un i x hx hs with e | e
  ·have:=List.getElem?_eq_none_iff.1 e;rcases xI this with q | q
   ·left;simp;omega
   ·right;rw[<-q];simp
  ·right;rw[cg (bl.1 e).1];exact e
 ·obtain⟨n,e,k⟩:=h.kn i x q hx hs;refine⟨n,?_,k⟩;rw[cg (bl.1 e).1];exact e
theorem xL.put (h:xL D TT M S st) (hM:M.Nodup) (hx:M[i]?=some x) (hi:i<S.length) (hs:st.find? (fun q=>q.1 == x)=none) (hn:n<D.length) (hw:TT n=t):xL D TT M (S.set i (n:Int)) (st++[(x,t)]):=by
 have inj:∀(k:Nat) (y:List UInt8),M[k]?=some y->k≠i->y≠x:=fun k y hy hk e=>by
  subst e;obtain⟨h1,h3⟩:=bl.1 hx;obtain⟨h2,h4⟩:=bl.1 hy;have hp:=dQ.1 hM;rcases Nat.lt_or_gt_of_ne hk with q | q
  ·exact hp _ _ h2 h1 q (h4.trans h3.symm)
  ·exact hp _ _ h1 h2 q (h3.trans h4.symm)
 refine⟨fun k y hy hk=> ?_,fun k y q hy hk=> ?_⟩
 ·rw[List.find?_append]at hk
  have hk1:st.find? (fun q=>q.1 == y)=none:=by
   cases e:st.find? (fun q=>q.1 == y)with
   | none=>rfl
   | some q=>rw[e]at hk;cases hk
  rw[hk1]at hk;by_cases e:k=i
  ·subst e;rw[hx]at hy;cases hy;simp at hk
  ·rw[List.getElem?_set_ne (de e)];exact h.un k y hy hk1
 ·rw[List.find?_append]at hk;by_cases e:k=i
  ·subst e;rw[hx]at hy;cases hy;rw[hs]at hk;simp at hk;subst hk;exact⟨n,by simp[hi],hn,hw⟩
  ·rw[List.getElem?_set_ne (de e)];refine h.kn k y q hy ?_;cases e2:st.find? (fun q=>q.1 == y)with
   | some r=>rw[e2]at hk;exact hk
   | none=>rw[e2]at hk;have:=inj k y hy e;simp at hk;exact absurd hk.1.symm this
def Ob (lb:Nat) (D:List Ng) (TT:Nat->af.U) (M:List (List UInt8)) (l:fO) (R:Nat->Prop) (w:World) (e:Ending) (w':World):Prop:=
 e= .returned (.tuple #[])/\∃S' R',iR w' lb S' l.w.wt l.w.no R'/\xL D TT M S' l.st/\S'.length<=M.length/\bZ R R' w w'
def PR (lb:Nat) (D:List Ng) (TT:Nat->af.U) (M:List (List UInt8)) (l:fO) (R:Nat->Prop) (w:World) (i:Nat) (k:Nat) (wr:World):Prop:=
 ∃(S':List Int) (R':Nat->Prop),k=i+1 - S'.length/\iR wr lb S' l.w.wt l.w.no R'/\xL D TT M S' l.st/\S'.length<=M.length/\bZ R R' w wr
theorem Oy (u w:World) (lb sb sq:Nat) (cS:Array Value) (Ty:TypeId) (D:List Ng) (nO:Option Addr) (nC:Nat) (fr:Nat->Nat) (TT:Nat->af.U) (PP R:Nat->Prop) (M:List (List UInt8)) (S:List Int) (i n:Nat) (x:List UInt8) (l:fO) (B:Nat) (hG:mH u lb sb sq cS Ty D nO nC fr TT PP) (hu:Below u.heap.size u w) (h:iR w lb S l.w.wt l.w.no R) (hs:xL D TT M S l.st) (hS:S.length<=M.length) (hM:M.Nodup) (hML:M.length<=100000) (hx:M[i]?=some x) (hn:n<D.length) (hw:l.sm B) (hl:l.w.wt.length+2*B<=100000000):
 Calls Tryz.prog 79 #[.pointer (some ⟨lb,0,none⟩),.pointer (some ⟨sb,sq,none⟩),.int .i64 (i:Int),.int .i64 (n:Int)] w fun e w'=>Ob lb D TT M (l.meet x (TT n)) R w e w':=by
 have HST:=ah (show PR lb D TT M l R w i (i+1 - S.length) w from ⟨S,R,rfl,h,hs,hS,bZ.aX Qx⟩)
 have hiM:i<M.length:=(bl.1 hx).1;have HG:=ah hG;have HU:=ah hu;have H:=ah h;have HM:=ah hM;have HX:=ah hx;have HN:=ah hn;have HW:=ah hw;have HL:=ah hl;have t2:decide ((i:Int)<0)=false:=by simp
 obtain⟨tj,hj,hy0,hy1,hy2⟩:=dH kO;clear hG hu h hs hS hM hx hn hw hl;go_enter Tryz.func79,Tryz.ntmps79;go_wp2_with fail;go_loopg [] (i+1 - S.length) (fun k wr=>PR lb D TT M l R w i k wr)
 case atStart=>exact ae HST
 case round=>
  clear HST;obtain⟨S',R',rfl,hlo,hst,hS',hfr⟩:=hrel;have hur:=(ae H).under hfr (ae HU) (ae HG).lt;obtain⟨so,sc,wo,wc,hlb,rfl⟩:=hlo;have s0:=aN hlb.blk 0;have sf:=bI hlb.blk 0;have sz:=aD hlb.blk;simp only[aE,aq]at s0;have HLB:=ah hlb;have HST:=ah hst;have HS':=ah hS';have HFR:=ah hfr;have HUR:=ah hur;by_cases hlt:S'.length<=i
  ·have t1:decide ((S'.length:Int)<=(i:Int))=true:=by simp;omega
   have HNS:=ah (show some lb≠(Value.slice so S'.length sc).ownBlock from fun q=>by have:=(hlb.lH.lt lb q.symm).1;omega)
   have HLT:=ah hlt;clear hlb hst hS' hfr hur hlt;have hSl:S'.length<=100000:=by have:=ae HS';omega
   go_wp2_with (at_builtin;go_must (refine wpList_append_own_at _ rfl (.tmp 20) (.tmp 21) 25 rfl (lb+1) 3 tj (.int .i64 0) 1 8 Tryz.underlying25 hj hy0 hy1 hy2 rfl (by decide) _ S'.length (S'.map jI) rfl ((ae HLB).lH.alloc _) ⟨wr.heap.size,0,none⟩ 1 1 [.int .i64 (-1)] rfl rfl (lq _ _ _ _ rfl) (by simp[Value.oneCell']) (by unfold maxLen;omega) (by omega) (by simp;omega) ?_);go_must (intro v' w7 hown' hgrow _ hat;obtain⟨g',cap',hv'⟩:=qi hown';subst hv';have HN:=ah ((ae HLB).MT (Qx.alloc Qw _) (n:= -1) hown' hgrow (by rcases hat with q | q;exact ay q.symm;(right;simp[Value.ownBlock]at q;omega)));have k1:=(hgrow.cell_far ⟨lb,0,none⟩ (by simp;omega) (ae HNS)).trans ((aC _ _ _ sz).trans s0);have k3:w7.frozen? ⟨lb,0,none⟩=false:=(by have:=bI (ae HN).1.blk 0;rwa [cH]at this);have zz7:lb<w7.heap.size:=(by have:=aD (ae HN).1.blk;rwa [fj]at this);clear hown' hgrow hat));go_roundg (i+1 - (S'.length+1))
   case measure=>have:=ae HLT;omega
   case rel=>exact⟨S'++[-1],_,by simp,⟨_,_,_,_,(ae HN).1,rfl⟩,(ae HST).room,by have:=ae HLT;simp;omega,(ae HFR).trans (ae HN).2⟩
  ·have hlt':i<S'.length:=by omega
   have t1:decide ((S'.length:Int)<=(i:Int))=false:=by simp;omega
   obtain⟨g,hg⟩:∃g,so=some ⟨g,0,none⟩:=by
    rcases hlb.lH.2 with⟨q,q2⟩ | ⟨g,cp,cur,q,_⟩
    ·omega
    ·simp only[aS]at q;exact⟨g,q.1⟩
   subst hg;have gz:=(hlb.lH.lt g rfl).2;have f0:wr.cell? ⟨g,i,none⟩=some (.int .i64 S'[i]):=by rw[hlb.lH.cellAt i (by omega),bC,aj hlt'];rfl
   have i0:(0:Int)<=(i:Int):=by omega
   have i1:(i:Int)<(S'.length:Int):=by omega
   cases hfd:l.st.find? (fun q=>q.1 == x)with
   | none=>
    have hv:S'[i]= -1:=by
     rcases hst.un i x (ae HX) hfd with e | e
     ·rw[aj hlt']at e;cases e
     ·rw[aj hlt']at e;exact cF e
    rw[hv]at f0;have ff:wr.frozen? ⟨g,i,none⟩=false:=by
     rcases hlb.lH.2 with⟨q,q2⟩ | ⟨g',cp,cur,q,_,q3,_⟩
     ·omega
     ·simp only[aS,aM,qK]at q;obtain⟨⟨rfl,_⟩,_⟩:=q;exact bI q3 i
    have HS:=ah (show l.meet x (TT n)=⟨l.st++[(x,TT n)],l.w⟩by unfold fO.meet;rw[hfd])
    have HP:=ah (hlb.put hlt' (n:Int));have HPS:=ah (hst.put (ae HM) (ae HX) hlt' hfd (ae HN) rfl);clear hlb hst hS' hfr hur hlt hv hfd hlt';go_wp2_with fail;go_end0;rw[ae HS];exact⟨rfl,_,_,⟨_,_,_,_,(ae HP).1,rfl⟩,ae HPS,by rw[jN];exact ae HS',(ae HFR).trans (ae HP).2⟩
   | some q=>
    obtain⟨m,e,hm,hmw⟩:=hst.kn i x q (ae HX) hfd;have hv:S'[i]=(m:Int):=by rw[aj hlt']at e;exact cF e
    rw[hv]at f0;have t3:((m:Int) == -1)=false:=by simp
    have HS:=ah (show l.meet x (TT n)=⟨l.st,gh (TT m) (TT n) l.w⟩by unfold fO.meet;rw[hfd,hmw])
    have IC:=ah (xq (af.size (TT m)) u wr lb sb sq cS Ty D nO nC fr TT PP _ S' m n l.w (ae HG) hur ⟨_,_,_,_,hlb,rfl⟩ hm (ae HN) Qw (by have:=ae HW q (cR hfd);rw[<-hmw]at this;have:=ae HL;omega));clear hlb hst hS' hfr hur hlt hv hfd hlt' e hm hmw;go_wp2_with fail;refine(ae IC).mono ?_;rintro e w8 ⟨rfl,R8,h8,fr8⟩;have H8:=ah h8;have HFR8:=ah fr8;clear h8 fr8;go_wp2_with fail;go_end0;rw[ae HS];exact⟨rfl,S',R8,ae H8,ae HST,ae HS',(ae HFR).trans (ae HFR8)⟩
def JS (f:Nat):Prop:=∀(P:Nat->Prop) (u w:World) (lb sb sq:Nat) (cS:Array Value) (Ty:TypeId) (D:List Ng) (nO:Option Addr) (nC:Nat) (fr:Nat->Nat) (TT:Nat->af.U) (PP R:Nat->Prop) (M:List (List UInt8)) (S:List Int) (a:AV) (n:Nat) (p:Tm) (l:fO) (B:Nat),mH u lb sb sq cS Ty D nO nC fr TT PP->Below u.heap.size u w->iR w lb S l.w.wt l.w.no R->xL D TT M S l.st->S.length<=M.length->M.Nodup->M.length<=100000->RA f M P u a p->iE f p->n<D.length->af.size (TT n)<=B->l.sm B->l.w.wt.length+2*B*3 ^ f+2*B<=100000000->
 Calls Tryz.prog 46 #[.pointer (some ⟨lb,0,none⟩),.pointer (some ⟨sb,sq,none⟩),.agg #[.int .i64 a.k,.int .i64 a.val,.string a.tx,.slice a.ao a.n a.cap],.int .i64 (n:Int)] w fun e w'=>Ob lb D TT M (dB f p (TT n) l) R w e w'
theorem AZ (ha:nt M a p) (wp:iE (f+1) p) (kp:p.kind≠3) (hd:jw len d) (hk:d.k≠1) (hl:im d=some (k,tx,num)):
 (jl p=(k,tx,num)/\p.args.length=d.args.length)↔(a.k=d.k/\mC a=d.val/\a.tx=d.tx/\a.n=d.cnt):=by
 obtain⟨h1,h2,_,h4,h5,h6,_,_⟩:=ha;have d23:d.k=2\/d.k=3:=hd.ks.resolve_left hk;rcases h6 with e | e | e
 ·have a3:a.k=3:=by rw[h1,e];rfl
  have lv:mC a=0:=by unfold mC;rw[aG (by omega)]
  have rp:jl p=(1,p.text.toList,0):=by unfold jl;rw[aG (by omega)]
  rw[rp,lv,h5 e,h2,a3];rcases d23 with q | q
  ·have:im d=some (3,[],d.val):=by unfold im;rw[aG hk,aH q]
   rw[hl]at this;injection this with this;injection this with u1 _;subst u1;constructor
   ·rintro⟨r,_⟩;injection r with r;exact absurd r (by decide)
   ·rintro⟨r,_⟩;omega
  ·have:im d=some (1,d.tx.toList,0):=by unfold im;rw[aG hk,aG (by omega)]
   rw[hl]at this;injection this with this;injection this with u1 this;injection this with u2 u3;subst u1 u2 u3;obtain⟨c1,c2,_⟩:=hd.c q;constructor
   ·rintro⟨r,s⟩;injection r with _ r;injection r with r _;exact⟨q.symm,c1.symm,toList_inj r,by rw[c2,s]⟩
   ·rintro⟨_,_,r,s⟩;exact⟨by rw[r],by rw[s,c2]⟩
 ·exact absurd e kp
 ·have a2:a.k=2:=by rw[h1,e];rfl
  have lv:mC a=a.val:=by unfold mC;rw[aH a2]
  have rp:jl p=(3,[],(numOf p.text:Int)):=by unfold jl;rw[aH e]
  obtain⟨v1,_,v3⟩:=h4 e;have pa:p.args=[]:=wp.2.1 (by omega);rw[rp,lv,v1,v3,h2,a2,pa];rcases d23 with q | q
  ·have:im d=some (3,[],d.val):=by unfold im;rw[aG hk,aH q]
   rw[hl]at this;injection this with this;injection this with u1 this;injection this with u2 u3;subst u1 u2 u3;obtain⟨c1,c2,c3⟩:=hd.m q;constructor
   ·rintro⟨r,_⟩;injection r with _ r;injection r with _ r;exact⟨q.symm,r,c1.symm,by rw[c2];rfl⟩
   ·rintro⟨_,r,_,_⟩;exact⟨by rw[r],by rw[c3];rfl⟩
  ·have:im d=some (1,d.tx.toList,0):=by unfold im;rw[aG hk,aG (by omega)]
   rw[hl]at this;injection this with this;injection this with u1 _;subst u1;constructor
   ·rintro⟨r,_⟩;injection r with r;exact absurd r (by decide)
   ·rintro⟨r,_⟩;omega
theorem Hs (f:Nat) (u w:World) (lb sb sq:Nat) (cS:Array Value) (Ty:TypeId) (D:List Ng) (nO:Option Addr) (nC:Nat) (fr:Nat->Nat) (TT:Nat->af.U) (PP R:Nat->Prop) (M:List (List UInt8)) (S:List Int) (a:AV) (n:Nat) (p:Tm) (l:fO) (B:Nat) (hG:mH u lb sb sq cS Ty D nO nC fr TT PP) (hu:Below u.heap.size u w) (h:iR w lb S l.w.wt l.w.no R) (hs:xL D TT M S l.st) (hS:S.length<=M.length) (hM:M.Nodup) (hML:M.length<=100000) (ha:nt M a p) (hn:n<D.length) (hsm:l.sm B) (hl:l.w.wt.length+2*B<=100000000) (kp:p.kind=3):
 Calls Tryz.prog 46 #[.pointer (some ⟨lb,0,none⟩),.pointer (some ⟨sb,sq,none⟩),.agg #[.int .i64 a.k,.int .i64 a.val,.string a.tx,.slice a.ao a.n a.cap],.int .i64 (n:Int)] w fun e w'=>Ob lb D TT M (dB (f+1) p (TT n) l) R w e w':=by
 obtain⟨h1,h2,h3,h4,h5,h6,h7,h8⟩:=ha;obtain⟨h9,h10⟩:=h3 kp;obtain⟨k,val,tx,ao,m,cp⟩:=a;dsimp only at h1 h2 h10⊢;have e1:ak p.kind=1:=by rw[kp];rfl
 rw[e1]at h1;subst h1 h10;have hx:M[M.idxOf p.text.toList]?=some p.text.toList:=by rw[aj (bW h9),jU]
 have HS:=ah (show dB (f+1) p (TT n) l=l.meet p.text.toList (TT n)from jJ _ l kp)
 have HB:=ah ((al w.heap.size w).alloc Qw (.cells #[.int .i64 1,.int .i64 (M.idxOf p.text.toList:Int),.string tx,.slice ao m cp] 74));have HM:=ah (Oy u (w.alloc (.cells #[.int .i64 1,.int .i64 (M.idxOf p.text.toList:Int),.string tx,.slice ao m cp] 74)) lb sb sq cS Ty D nO nC fr TT PP R M S (M.idxOf p.text.toList) n p.text.toList l B hG (hu.trans ((ae HB).mono hu.size)) (h.below (ae HB)) hs hS hM hML hx hn hsm hl);clear hG hu h hs hS hM hn hsm hl h2 h3 h4 h5 h6 h7 h8 h9 hx e1 kp;generalize M.idxOf p.text.toList=ix at*;go_enter Tryz.func46,Tryz.ntmps46;go_wp2_with fail;refine(ae HM).mono ?_;rintro e w2 ⟨rfl,S2,R2,h2,s2,l2,fr2⟩;have H2:=ah h2;have HS2:=ah s2;have HL2:=ah l2;have HF2:=ah fr2;clear h2 s2 l2 fr2;go_wp2_with fail;go_end0;rw[ae HS];exact⟨rfl,S2,R2,ae H2,ae HS2,ae HL2,(bZ.aX (ae HB)).trans (ae HF2)⟩
theorem Hr (f:Nat) (u w:World) (lb sb sq:Nat) (cS:Array Value) (Ty:TypeId) (D:List Ng) (nO:Option Addr) (nC:Nat) (fr:Nat->Nat) (TT:Nat->af.U) (PP R:Nat->Prop) (M:List (List UInt8)) (S:List Int) (a:AV) (n:Nat) (p:Tm) (l:fO) (hG:mH u lb sb sq cS Ty D nO nC fr TT PP) (hu:Below u.heap.size u w) (h:iR w lb S l.w.wt l.w.no R) (hs:xL D TT M S l.st) (hS:S.length<=M.length) (ha:nt M a p) (hn:n<D.length) (hl:l.w.wt.length<=100000000) (kp:p.kind≠3) (d:Ng) (hd:D[fr n]?=some d) (kt:d.k=1):
 Calls Tryz.prog 46 #[.pointer (some ⟨lb,0,none⟩),.pointer (some ⟨sb,sq,none⟩),.agg #[.int .i64 a.k,.int .i64 a.val,.string a.tx,.slice a.ao a.n a.cap],.int .i64 (n:Int)] w fun e w'=>Ob lb D TT M (dB (f+1) p (TT n) l) R w e w':=by
 obtain⟨k,val,tx,ao,m,cp⟩:=a;have hk:(k == 1)=false:=by have h1:=ha.1;dsimp only at h1;rw[h1];rcases ha.2.2.2.2.2.1 with e | e | e<;>first | exact absurd e kp | (rw[e];decide)
 have HB:=ah ((al w.heap.size w).alloc Qw (.cells #[.int .i64 k,.int .i64 val,.string tx,.slice ao m cp] 74));have HU:=ah (hu.trans ((ae HB).mono hu.size));have HU0:=ah hu;have HG:=ah hG;have H:=ah h;have HST:=ah hs;have HSL:=ah hS;obtain⟨kh,hop⟩:=hG.ok.hop n hn;have vv:=hG.uz hn hd;have HL:=ah (fd _ sb sq cS Ty D nO nC n (fr n) kh d (hG.at (ae HU)) hop hd);have HAW:=ah (fun W R (hu:Below u.heap.size u W) (h:iR W lb S l.w.wt l.w.no R) (hl:l.w.wt.length<=100000000)=>jR W lb sb sq cS Ty D nO nC R S l.w.wt l.w.no n (fr n) kh d (TT n) (hG.at hu) hop hd vv.2 (fun q=>absurd kt q) h hl);have HS:=ah (show dB (f+1) p (TT n) l=⟨l.st,l.w.fh (TT n)⟩by rw[vv.2 kt,jr _ l kp];rfl)
 obtain⟨kb,vb,xb,cb',ob,pb,gb,nb,mb⟩:=d;dsimp only at HL kt;subst kt;clear hG hu h hs hS hn ha kp hop hd vv;go_enter Tryz.func46,Tryz.ntmps46;go_wp2_with fail;refine(ae HL).mono ?_;rintro e w3 ⟨rfl,hb3⟩;have f0:=(hb3.cell (p:=⟨w.heap.size,0,none⟩) (by simp)).trans (aN (aB w _) 0);have f1:=(hb3.cell (p:=⟨w.heap.size,1,none⟩) (by simp)).trans (aN (aB w _) 1);have f2:=(hb3.cell (p:=⟨w.heap.size,2,none⟩) (by simp)).trans (aN (aB w _) 2);have f3:=(hb3.cell (p:=⟨w.heap.size,3,none⟩) (by simp)).trans (aN (aB w _) 3);simp only[aE,aq,aA]at f0 f1 f2 f3;have z3:=hb3.size;rw[aF]at z3;have z5:w.heap.size<w3.heap.size:=by omega
 have HB3:=ah ((ae HB).trans (hb3.mono (by rw[aF];omega)));have HU3:=ah ((ae HU).trans (hb3.mono (ae HU).size));have HBX3:=ah ((hb3.block w.heap.size (by simp)).trans (aB w _));clear hb3;go_wp2_with fail;have HB4:=ah ((ae HB3).alloc (by omega) (.cells #[.int .i64 1,.int .i64 vb,.string xb,.int .i64 (cb':Int)] 144));have HU4:=ah ((ae HU3).alloc (aW (ae HU0).size (by omega)) (.cells #[.int .i64 1,.int .i64 vb,.string xb,.int .i64 (cb':Int)] 144));refine(ae HAW _ R (ae HU4) ((ae H).below (ae HB4)) hl).mono ?_;rintro e w6 ⟨rfl,R6,h6,fr6⟩;have H6:=ah h6;have HF6:=ah fr6;clear h6 fr6;go_wp2_with fail;go_end0;rw[ae HS];exact⟨rfl,S,R6,by show iR w6 lb S (l.w.fh (TT n)).wt (l.w.fh (TT n)).no R6;rw[Wn.iO];exact ae H6,ae HST,ae HSL,(bZ.aX (ae HB4)).trans (ae HF6)⟩
theorem Ld (f:Nat) (u w:World) (lb sb sq:Nat) (cS:Array Value) (Ty:TypeId) (D:List Ng) (nO:Option Addr) (nC:Nat) (fr:Nat->Nat) (TT:Nat->af.U) (PP R:Nat->Prop) (M:List (List UInt8)) (S:List Int) (a:AV) (n:Nat) (p:Tm) (l:fO) (hG:mH u lb sb sq cS Ty D nO nC fr TT PP) (hu:Below u.heap.size u w) (h:iR w lb S l.w.wt l.w.no R) (hs:xL D TT M S l.st) (hS:S.length<=M.length) (ha:nt M a p) (wp:iE (f+1) p) (hn:n<D.length) (kp:p.kind≠3) (d:Ng) (hd:D[fr n]?=some d) (kt:d.k≠1) (hk2:¬(a.k=d.k/\mC a=d.val/\a.tx=d.tx/\a.n=d.cnt)):
 Calls Tryz.prog 46 #[.pointer (some ⟨lb,0,none⟩),.pointer (some ⟨sb,sq,none⟩),.agg #[.int .i64 a.k,.int .i64 a.val,.string a.tx,.slice a.ao a.n a.cap],.int .i64 (n:Int)] w fun e w'=>Ob lb D TT M (dB (f+1) p (TT n) l) R w e w':=by
 obtain⟨k,val,tx,ao,m,cp⟩:=a;have hk:(k == 1)=false:=by have h1:=ha.1;dsimp only at h1;rw[h1];rcases ha.2.2.2.2.2.1 with e | e | e<;>first | exact absurd e kp | (rw[e];decide)
 have HB:=ah ((al w.heap.size w).alloc Qw (.cells #[.int .i64 k,.int .i64 val,.string tx,.slice ao m cp] 74));have HU:=ah (hu.trans ((ae HB).mono hu.size));have HU0:=ah hu;have HG:=ah hG;have H:=ah h;have HST:=ah hs;have HSL:=ah hS;obtain⟨kh,hop⟩:=hG.ok.hop n hn;obtain⟨_,e1,od,_,_,nd⟩:=hG.node hn;rw[hd]at e1;cases e1;obtain⟨ku,tu,iu,lu,eu⟩:=nd kt;have HL:=ah (fd _ sb sq cS Ty D nO nC n (fr n) kh d (hG.at (ae HU)) hop hd);have HS:=ah (show dB (f+1) p (TT n) l=⟨l.st,l.w.bad⟩by rw[eu];exact kM l kp (fun q=>hk2 ((AZ ha wp kp od kt lu).1 (by rw[bj]at q;exact q))))
 have t2:(d.k == 1)=false:=by simpa using kt
 have hlab:=fun w=>pn w ⟨k,val,tx,ao,m,cp⟩;have t3:=hk2;dsimp only at t3;obtain⟨kb,vb,xb,cb',ob,pb,gb,nb,mb⟩:=d;dsimp only at HL t2 t3;generalize mC ⟨k,val,tx,ao,m,cp⟩=lv at*;dsimp only at hlab;have LA:=ah hlab;have hc:(¬k=kb)\/(k=kb/\¬lv=vb)\/(k=kb/\lv=vb/\¬tx.toList=xb.toList)\/(k=kb/\lv=vb/\tx=xb/\¬(m:Int)=(cb':Int)):=by
  by_cases q1:k=kb
  ·by_cases q2:lv=vb
   ·by_cases q3:tx=xb
    ·exact aw (aw (aw ⟨q1,q2,q3,fun q4=>t3 ⟨q1,q2,q3,by omega⟩⟩))
    ·exact aw (aw (ay ⟨q1,q2,fun q=>q3 (toList_inj q)⟩))
   ·exact aw (ay ⟨q1,q2⟩)
  ·exact ay q1
 clear hG hu h hs hS hn ha wp kp kt hk2 t3 hop hd od nd lu eu;rcases hc with hc | ⟨rfl,hc⟩ | ⟨rfl,rfl,hc⟩ | ⟨rfl,rfl,rfl,hc⟩
 all_goals
  clear hlab;go_enter Tryz.func46,Tryz.ntmps46;go_wp2_with fail;refine(ae HL).mono ?_;rintro e w3 ⟨rfl,hb3⟩;have f0:=(hb3.cell (p:=⟨w.heap.size,0,none⟩) (by simp)).trans (aN (aB w _) 0);have f1:=(hb3.cell (p:=⟨w.heap.size,1,none⟩) (by simp)).trans (aN (aB w _) 1);have f2:=(hb3.cell (p:=⟨w.heap.size,2,none⟩) (by simp)).trans (aN (aB w _) 2);have f3:=(hb3.cell (p:=⟨w.heap.size,3,none⟩) (by simp)).trans (aN (aB w _) 3);simp only[aE,aq,aA]at f0 f1 f2 f3;have z3:=hb3.size;rw[aF]at z3;have z5:w.heap.size<w3.heap.size:=by omega
  have HB3:=ah ((ae HB).trans (hb3.mono (by rw[aF];omega)));have HU3:=ah ((ae HU).trans (hb3.mono (ae HU).size));have HBX3:=ah ((hb3.block w.heap.size (by simp)).trans (aB w _));clear hb3;go_wp2_with fail;go_region_with (go_at_call 78;refine(ae LA _).mono ?_;rintro e w5 ⟨rfl,hb5⟩;have g0:=(hb5.cell (p:=⟨w3.heap.size,0,none⟩) (iM w3 _)).trans (aN (aB w3 _) 0);have g1:=(hb5.cell (p:=⟨w3.heap.size,1,none⟩) (iM w3 _)).trans (aN (aB w3 _) 1);have g2:=(hb5.cell (p:=⟨w3.heap.size,2,none⟩) (iM w3 _)).trans (aN (aB w3 _) 2);have g3:=(hb5.cell (p:=⟨w3.heap.size,3,none⟩) (iM w3 _)).trans (aN (aB w3 _) 3);simp only[aE,aq,aA]at g0 g1 g2 g3;have HB5:=ah (((ae HB3).alloc (by omega) _).trans (((Qx.drew).trans hb5).mono (aW (by omega) (mJ (iM w3 _)))));clear hb5)
  all_goals
   obtain⟨so,sc,wo,wc,hlo,rfl⟩:=(ae H).below (ae HB5);have s2:=aN hlo.blk 2;have sf:=bI hlo.blk 2;have sz:=aD hlo.blk;simp only[aE,aq,aA]at s2;have HLO:=ah hlo;clear hlo;go_wp2_with fail;go_end0;rw[ae HS];exact⟨rfl,S,_,⟨so,sc,wo,wc,(ae HLO).bad.1,rfl⟩,ae HST,ae HSL,(bZ.aX (ae HB5)).trans (ae HLO).bad.2⟩
def PV (lb:Nat) (D:List Ng) (TT:Nat->af.U) (M:List (List UInt8)) (f:Nat) (p:Tm) (us:List af.U) (l:fO) (R:Nat->Prop) (w:World) (C:Array Value) (k:Nat) (iv:Value) (wr:World):Prop:=
 ∃(j:Nat) (S':List Int) (R':Nat->Prop),k+j=p.args.length/\iv= .int .i64 (j:Int)/\iR wr lb S' (fN (dB f) (p.args.take j) (us.take j) l).w.wt (fN (dB f) (p.args.take j) (us.take j) l).w.no R'/\xL D TT M S' (fN (dB f) (p.args.take j) (us.take j) l).st/\S'.length<=M.length/\bZ R R' w wr/\wr.heap[w.heap.size]?=some (.cells C 74 (0,0))/\¬R' w.heap.size
theorem Ht (IH:JS f) (P:Nat->Prop) (u w:World) (lb sb sq:Nat) (cS:Array Value) (Ty:TypeId) (D:List Ng) (nO:Option Addr) (nC:Nat) (fr:Nat->Nat) (TT:Nat->af.U) (PP R:Nat->Prop) (M:List (List UInt8)) (S:List Int) (a:AV) (n:Nat) (p:Tm) (l:fO) (B:Nat) (hG:mH u lb sb sq cS Ty D nO nC fr TT PP) (hu:Below u.heap.size u w) (h:iR w lb S l.w.wt l.w.no R) (hs:xL D TT M S l.st) (hS:S.length<=M.length) (hM:M.Nodup) (hML:M.length<=100000) (hr:RA (f+1) M P u a p) (wp:iE (f+1) p) (hn:n<D.length) (hsz:af.size (TT n)<=B) (hsm:l.sm B) (hl:l.w.wt.length+2*B*3 ^ (f+1)+2*B<=100000000) (kp:p.kind≠3) (d:Ng) (hd:D[fr n]?=some d) (kt:d.k≠1) (hk2:a.k=d.k/\mC a=d.val/\a.tx=d.tx/\a.n=d.cnt):
 Calls Tryz.prog 46 #[.pointer (some ⟨lb,0,none⟩),.pointer (some ⟨sb,sq,none⟩),.agg #[.int .i64 a.k,.int .i64 a.val,.string a.tx,.slice a.ao a.n a.cap],.int .i64 (n:Int)] w fun e w'=>Ob lb D TT M (dB (f+1) p (TT n) l) R w e w':=by
 obtain⟨ha,hrow⟩:=hr;obtain⟨k,val,tx,ao,m,cp⟩:=a;have hk:(k == 1)=false:=by have h1:=ha.1;dsimp only at h1;rw[h1];rcases ha.2.2.2.2.2.1 with e | e | e<;>first | exact absurd e kp | (rw[e];decide)
 have HB:=ah ((al w.heap.size w).alloc Qw (.cells #[.int .i64 k,.int .i64 val,.string tx,.slice ao m cp] 74));have HU:=ah (hu.trans ((ae HB).mono hu.size));have HU0:=ah hu;have HG:=ah hG;have H:=ah h;have HST:=ah hs;have HSL:=ah hS;obtain⟨kh,hop⟩:=hG.ok.hop n hn;obtain⟨_,e1,od,md,_,nd⟩:=hG.node hn;rw[hd]at e1;cases e1;obtain⟨ku,tu,iu,lu,eu⟩:=nd kt;have HL:=ah (fd _ sb sq cS Ty D nO nC n (fr n) kh d (hG.at (ae HU)) hop hd);have hrt:=(AZ ha wp kp od kt lu).2 hk2;have HS:=ah (show dB (f+1) p (TT n) l=fN (dB f) p.args (d.args.map TT) l by rw[eu];exact gf l kp (by rw[bj];exact hrt))
 have hsum:1+b8 (d.args.map TT)<=B:=by rw[eu,af.size]at hsz;omega
 have hlab:=fun w=>pn w ⟨k,val,tx,ao,m,cp⟩;have hal:=hrt.2;have HAb:=ah (fun W (hu:Below u.heap.size u W)=>lC W sb sq cS Ty D nO nC n (fr n) kh d (hG.at hu) hop hd);have HCb:=ah (fun q=>hG.ar.at md q);have HIN:=ah od.A7;obtain⟨kb,vb,xb,cb',ob,pb,gb,nb,mb⟩:=d;obtain⟨q1,q2,q3,q4⟩:=hk2;have h2:=ha.2.1;dsimp only at h2 q1 q2 q3 q4 hrow HAb HCb HIN HL hal HS hsum;rw[<-hal]at HAb;generalize mC ⟨k,val,tx,ao,m,cp⟩=lv at*;dsimp only at hlab;subst q1 q2 q3 q4 h2;have LA:=ah hlab;have HROW:=ah hrow;have HAL:=ah hal;have HWp:=ah wp.2.2.2;have HW3:=ah wp.2.2.1;have HLL:=ah hl;have HMN:=ah hM;have HSM:=ah hsm;have HSUM:=ah hsum;have I:=ah IH;clear hG hu h hs hS hM hn ha kp kt hlab hrow hal wp hl IH hop hd od md nd lu eu hrt hsz hsm hsum;go_enter Tryz.func46,Tryz.ntmps46;go_wp2_with fail;refine(ae HL).mono ?_;rintro e w3 ⟨rfl,hb3⟩;have f0:=(hb3.cell (p:=⟨w.heap.size,0,none⟩) (by simp)).trans (aN (aB w _) 0);have f1:=(hb3.cell (p:=⟨w.heap.size,1,none⟩) (by simp)).trans (aN (aB w _) 1);have f2:=(hb3.cell (p:=⟨w.heap.size,2,none⟩) (by simp)).trans (aN (aB w _) 2);have f3:=(hb3.cell (p:=⟨w.heap.size,3,none⟩) (by simp)).trans (aN (aB w _) 3);simp only[aE,aq,aA]at f0 f1 f2 f3;have z3:=hb3.size;rw[aF]at z3;have z5:w.heap.size<w3.heap.size:=by omega
 have HB3:=ah ((ae HB).trans (hb3.mono (by rw[aF];omega)));have HU3:=ah ((ae HU).trans (hb3.mono (ae HU).size));have HBX3:=ah ((hb3.block w.heap.size (by simp)).trans (aB w _));clear hb3;go_wp2_with fail;have e0:=aN (aB w3 (.cells #[.int .i64 k,.int .i64 lv,.string tx,.int .i64 (p.args.length:Int)] 144)) 0;have e1:=aN (aB w3 (.cells #[.int .i64 k,.int .i64 lv,.string tx,.int .i64 (p.args.length:Int)] 144)) 1;have e2:=aN (aB w3 (.cells #[.int .i64 k,.int .i64 lv,.string tx,.int .i64 (p.args.length:Int)] 144)) 2;have e3:=aN (aB w3 (.cells #[.int .i64 k,.int .i64 lv,.string tx,.int .i64 (p.args.length:Int)] 144)) 3;simp only[aE,aq,aA]at e0 e1 e2 e3;go_region_held3 (fun w'=>w'.cell? ⟨w.heap.size,0,none⟩=some (.int .i64 k)/\w'.cell? ⟨w.heap.size,1,none⟩=some (.int .i64 val)/\w'.cell? ⟨w.heap.size,2,none⟩=some (.string tx)/\w'.cell? ⟨w.heap.size,3,none⟩=some (.slice ao p.args.length cp)/\w'.cell? ⟨w3.heap.size,0,none⟩=some (.int .i64 k)/\w'.cell? ⟨w3.heap.size,1,none⟩=some (.int .i64 lv)/\w'.cell? ⟨w3.heap.size,2,none⟩=some (.string tx)/\w'.cell? ⟨w3.heap.size,3,none⟩=some (.int .i64 (p.args.length:Int))) (go_keep) (first
  | (go_at_call 78;refine(ae LA _).mono ?_;rintro e w5 ⟨rfl,hb5⟩;have g0:=(hb5.cell (p:=⟨w3.heap.size,0,none⟩) (iM w3 _)).trans e0;have g1:=(hb5.cell (p:=⟨w3.heap.size,1,none⟩) (iM w3 _)).trans e1;have g2:=(hb5.cell (p:=⟨w3.heap.size,2,none⟩) (iM w3 _)).trans e2;have g3:=(hb5.cell (p:=⟨w3.heap.size,3,none⟩) (iM w3 _)).trans e3;have y0:=(hb5.cell (p:=⟨w.heap.size,0,none⟩) (qL z5 (iM w3 _))).trans ((aC _ _ _ z5).trans f0);have y1:=(hb5.cell (p:=⟨w.heap.size,1,none⟩) (qL z5 (iM w3 _))).trans ((aC _ _ _ z5).trans f1);have y2:=(hb5.cell (p:=⟨w.heap.size,2,none⟩) (qL z5 (iM w3 _))).trans ((aC _ _ _ z5).trans f2);have y3:=(hb5.cell (p:=⟨w.heap.size,3,none⟩) (qL z5 (iM w3 _))).trans ((aC _ _ _ z5).trans f3);have HB5:=ah (((ae HB3).alloc (by omega) _).trans (((Qx.drew).trans hb5).mono (aW (by omega) (mJ (iM w3 _)))));have HBX5:=ah ((hb5.block w.heap.size (qL z5 (iM w3 _))).trans ((aZ _ _ _ z5).trans (ae HBX3)));clear hb5))
 go_wp2_with fail;have HST0:=ah (show PV lb D TT M f p (gb.map TT) l R w #[.int .i64 k,.int .i64 val,.string tx,.slice ao p.args.length cp] p.args.length (.int .i64 0) w5 from ⟨0,S,R,by omega,rfl,by simpa [fN] using (ae H).below (ae HB5),by simpa [fN] using ae HST,ae HSL,bZ.aX (ae HB5),ae HBX5,fun q=>by have:=((ae H).rows _ q).2;omega⟩)
 refine(ae HAb _ ((ae HU0).trans ((ae HB5).mono (ae HU0).size))).mono ?_;rintro e w6 ⟨rfl,rfl⟩;clear e0 e1 e2 e3 f0 f1 f2 f3 g0 g1 g2 g3 y0 y1 y2 y3 HB HU HL HB3 HU3 HBX3 HB5 HBX5 HAb LA z3 z5 hk;go_wp2_with fail;go_loopg [10] p.args.length (fun k' iv wr=>PV lb D TT M f p (gb.map TT) l R w #[.int .i64 k,.int .i64 val,.string tx,.slice ao p.args.length cp] k' iv wr)
 case atStart=>exact ae HST0
 case round=>
  clear HST0;obtain⟨j,S',R',hkj,rfl,hlo,hst,hsl,hfr,hbx,hbr⟩:=hrel;have hur:=(ae H).under hfr (ae HU0) (ae HG).lt;have x3:=aN hbx 3;simp only[aE,aq,aA]at x3;have zx:=aD hbx;by_cases hlt:j<p.args.length
  ·have hjb:j<gb.length:=by have:=ae HAL;omega
   have hlt':j<(gb.map TT).length:=by rw[bj];exact hjb
   obtain⟨g,us,ca,hao,_,hca,hta,haa⟩:=ae HROW (fun q=>by rw[q]at hlt;simp at hlt);subst hao;obtain⟨pB,eB,zB,cB⟩:=ae HCb (fun q=>by rw[q]at hjb;simp at hjb);subst eB;have hju:j<us.length:=by have:=haa.length;omega
   have fc:∀w',Below u.heap.size u w'->∀i,i<4->w'.cell? ⟨g,j*4+i,none⟩=(oq us[j])[i]?:=fun w' hb i hi=>by rw[hb.cell (p:=⟨g,j*4+i,none⟩) (aD hca),aN hca,<-ci,<-LZ hju i hi,<-hta,cr (by omega)]
   have HF0:=ah (show∀w',Below u.heap.size u w'->w'.cell? ⟨g,j*4,none⟩=some (.int .i64 us[j].k)/\w'.cell? ⟨g,j*4+1,none⟩=some (.int .i64 us[j].val)/\w'.cell? ⟨g,j*4+2,none⟩=some (.string us[j].tx)/\w'.cell? ⟨g,j*4+3,none⟩=some (.slice us[j].ao us[j].n us[j].cap)/\w'.cell? ⟨pB,j,none⟩=some (.int .i64 (gb[j]:Int))from fun w' hb=>by have a0:=fc w' hb 0 (by omega);have a1:=fc w' hb 1 (by omega);have a2:=fc w' hb 2 (by omega);have a3:=fc w' hb 3 (by omega);simp only[oq,aq,aA,dJ]at a0 a1 a2 a3;exact⟨a0,a1,a2,a3,(hb.cell (p:=⟨pB,j,none⟩) zB).trans (cB j hjb)⟩)
   have hB1:1<=B:=by have:=ae HSUM;omega
   obtain⟨sm1,sm2⟩:=wj (g:=dB f) (B:=B) (c:=2*B*3 ^ f) (p.args.take j) ((gb.map TT).take j) l (fun q hq v hv l' hl'=>rN f q v l' (ae HWp q (eg hq)) (by have:=fP (eg hv);have:=ae HSUM;omega) hB1 hl') (ae HSM);rw[df,Nat.min_eq_left (by omega)]at sm2;have hcap:(fN (dB f) (p.args.take j) ((gb.map TT).take j) l).w.wt.length+2*B*3 ^ f+2*B<=100000000:=by
    have q1:=ae HLL;have q2:2*B*3 ^ (f+1)=3*(2*B*3 ^ f):=by rw[fU];rw[<-fB,gQ]
    have q3:j*(2*B*3 ^ f)<=2*(2*B*3 ^ f):=bY _ (by have:=ae HW3;omega);omega
   have hszj:af.size (TT gb[j])<=B:=by have:=fP (du (f:=TT) (aL hjb));have:=ae HSUM;omega
   have IC:=ah (ae I P u wr.drew lb sb sq cS Ty D nO nC fr TT PP R' M S' us[j] gb[j] p.args[j] (fN (dB f) (p.args.take j) ((gb.map TT).take j) l) B (ae HG) hur.drew (hlo.below Qx.drew) hst hsl (ae HMN) hML (haa.ui j hju hlt) (ae HWp _ (aL hlt)) (ae HIN _ (aL hjb)) hszj sm1 hcap);have hstp:=uM (dB f) p.args (gb.map TT) l hlt hlt';rw[fy]at hstp;rw[<-hstp]at IC;obtain⟨a0,a1,a2,a3,a4⟩:=ae HF0 wr hur;have HFR:=ah hfr;have HUR:=ah hur;have HLO:=ah hlo;have HKJ:=ah hkj;have HLT:=ah hlt;have HBX:=ah hbx;have HBR:=ah hbr;generalize us[j]=v6 at*;generalize gb[j]=nb at*;have zr:u.heap.size<=wr.heap.size:=hur.size;have zA':g<wr.heap.size:=by have:=aD hca;omega
   have zB':pB<wr.heap.size:=by omega
   have hj3:j<=3:=by have:=ae HW3;omega
   have i0:(0:Int)<=(j:Int):=by omega
   have i1:(j:Int)<(p.args.length:Int):=by omega
   clear hlo hst hsl hfr hur hkj hlt hlt' hjb hju cB sm1 sm2 hcap hszj hstp hB1 hbx hbr fc hca hta haa;go_wp2_with fail;go_region_held3 (fun w'=>w'.cell? ⟨w.heap.size,3,none⟩=some (.slice (some ⟨g,0,none⟩) p.args.length cp)/\w'.cell? ⟨g,j*4,none⟩=some (.int .i64 v6.k)/\w'.cell? ⟨g,j*4+1,none⟩=some (.int .i64 v6.val)/\w'.cell? ⟨g,j*4+2,none⟩=some (.string v6.tx)/\w'.cell? ⟨g,j*4+3,none⟩=some (.slice v6.ao v6.n v6.cap)/\w'.cell? ⟨pB,j,none⟩=some (.int .i64 (nb:Int))) (go_keep) (first
    | (go_at_call 46;refine(ae IC).mono ?_;rintro e w8 ⟨rfl,S8,R8,h8,s8,l8,fr8⟩;have HFR8:=ah ((ae HFR).trans ((bZ.aX Qx.drew).trans fr8));obtain⟨k0,k1,k2,k3,k4⟩:=ae HF0 w8 ((ae HLO).under ((bZ.aX Qx.drew).trans fr8) (ae HUR) (ae HG).lt);have k9:=(fr8.cell (p:=⟨w.heap.size,3,none⟩) zx (ae HBR)).trans x3;have HBX8:=ah ((fr8.block w.heap.size zx (ae HBR)).trans (ae HBX));have HBR8:=ah (fr8.not (k:=w.heap.size) zx (ae HBR));have H8:=ah h8;have HS8:=ah s8;have HL8:=ah l8;clear h8 s8 l8 fr8))
   all_goals
    go_wp2_with fail;go_roundg (gk - 1)
    case measure=>have:=ae HKJ;have:=ae HLT;omega
    case rel=>exact⟨j+1,S8,R8,by have:=ae HKJ;have:=ae HLT;omega,by go_num,ae H8,ae HS8,ae HL8,ae HFR8,ae HBX8,ae HBR8⟩
  ·obtain rfl:j=p.args.length:=by omega
   have HLO:=ah hlo;have HSTT:=ah hst;have HSLL:=ah hsl;have HFR:=ah hfr;clear hlo hst hsl hfr hur hkj hbx hbr;go_wp2_with fail;go_end0;rw[ae HS];have q1:=ae HLO;have q3:=ae HSTT;rw[dM,cV (by rw[bj];have:=ae HAL;omega)]at q1 q3;exact⟨rfl,S',R',q1,q3,ae HSLL,ae HFR⟩
theorem rM:∀f,JS f
 | 0=>fun P u w lb sb sq cS Ty D nO nC fr TT PP R M S a n p l B hG hu h hs hS hM hML hr _ _ _ _ _=>hr.elim
 | f+1=>fun P u w lb sb sq cS Ty D nO nC fr TT PP R M S a n p l B hG hu h hs hS hM hML hr wp hn hsz hsm hl=>by
  by_cases kp:p.kind=3
  ·exact Hs f u w lb sb sq cS Ty D nO nC fr TT PP R M S a n p l B hG hu h hs hS hM hML hr.1 hn hsm (by omega) kp
  ·obtain⟨d,hd,_⟩:=hG.node hn;by_cases kt:d.k=1
   ·exact Hr f u w lb sb sq cS Ty D nO nC fr TT PP R M S a n p l hG hu h hs hS hr.1 hn (by omega) kp d hd kt
   ·by_cases hk:a.k=d.k/\mC a=d.val/\a.tx=d.tx/\a.n=d.cnt
    ·exact Ht (rM f) P u w lb sb sq cS Ty D nO nC fr TT PP R M S a n p l B hG hu h hs hS hM hML hr wp hn hsz hsm hl kp d hd kt hk
    ·exact Ld f u w lb sb sq cS Ty D nO nC fr TT PP R M S a n p l hG hu h hs hS hr.1 wp hn kp d hd kt hk
