import Derived.Test.YthfjnfcekeknlaaGreatDoorAp03
import Derived.Test.YthfjnfcekeknlaaGreatDoorAp05
import Derived.Test.YthfjnfcekeknlaaGreatDoorAp06
import Derived.Deep.LoopGhost
import Derived.Deep.RegionHeld3
set_option maxHeartbeats 8000000
set_option maxRecDepth 100000
namespace Go.Proofs.YthfjnfcekeknlaaGreatDoor
open Go.RowKit
structure gq (u:World) (lb sb so:Nat) (cs:Array Value) (Ty:TypeId) (D:List Ng) (no:Option Addr) (nc:Nat) (fr:Nat→Nat) (T:Nat→Za.U) (P:Nat→Prop):Prop where
 st:bG u sb so cs Ty D no nc
 ok:bW D fr
 to:Za.dD (aY D) fr T
 ar:a8 u D P
 lt:u.heap.size≤lb
section
variable {u:World} {lb sb so:Nat} {cs:Array Value} {Ty:TypeId} {D:List Ng} {no:Option Addr} {nc:Nat} {fr:Nat→Nat} {T:Nat→Za.U} {P:Nat→Prop}
theorem gq.at (h:gq u lb sb so cs Ty D no nc fr T P) {w:World} (hb:Below u.heap.size u w):bG w sb so cs Ty D no nc:=h.st.below hb
theorem gq.node (h:gq u lb sb so cs Ty D no nc fr T P) {n:Nat} (hn:n<D.length):∃d,D[fr n]?=some d∧gD D.length d∧d∈D∧(d.k=1→T n= .v ([],fr n))∧(d.k≠1→∃k tx num,fj d=some (k,tx,num)∧T n= .n k tx num (d.args.map T)):=by
 obtain⟨d,h1,h2,h3,h4,h5⟩:=G3 h.ok hn
 refine⟨d,h1,h2,h5,fun hk=>h.to.var (by rw[h3];exact h2.fT.2 hk),fun hk=> ?_⟩
 obtain⟨p,hp⟩:∃p,fj d=some p:=by
  cases q:fj d with
  | none=>exact absurd (h2.fT.1 q) hk
  | some p=>exact⟨p,rfl⟩
 obtain⟨k,tx,num⟩:=p
 refine⟨k,tx,num,hp,?_⟩
 rw[h.to.reads.front n,h.to.reads.node (fr n) k tx num (by rw[h3,hp]),h4]
theorem gq.pH (h:gq u lb sb so cs Ty D no nc fr T P) {n:Nat} (hn:n<D.length) {d:Ng} (hd:D[fr n]?=some d):(d.k=1↔Za.pH (T n)=true)∧(d.k=1→T n= .v ([],fr n)):=by
 obtain⟨d',h1,h2,h3,h4,h5⟩:=h.node hn
 rw[hd]at h1
 cases h1
 refine⟨⟨fun q=>by rw[h4 q];rfl,fun q=> ?_⟩,h4⟩
 by_cases hk:d.k=1
 ·exact hk
 ·obtain⟨k,tx,num,_,e⟩:=h5 hk
  rw[e]at q
  cases q
end
theorem lR (w:World) (lb sb so:Nat) (cs:Array Value) (Ty:TypeId) (D:List Ng) (no:Option Addr) (nc:Nat) (R:Nat→Prop) (S:List Int) (W:List Nat) (nb:Bool) (n m k:Nat) (d:Ng) (u:Za.U) (hs:bG w sb so cs Ty D no nc) (hop:Hop D n m k) (hd:D[m]?=some d) (hk:d.k=1→u= .v ([],m)) (fZ:d.k≠1→Za.pH u=false) (h:cZ w lb S W nb R) (hl:W.length≤100000000):
 Calls Tryz.prog 162 #[.pointer (some ⟨lb,0,none⟩),.pointer (some ⟨sb,so,none⟩),.int .i64 (n:Int)] w fun e w'=>e= .returned (.tuple #[])∧∃R',cZ w' lb S ((Za.Wn.mk W nb).bN u).wt nb R'∧au R R' w w':=by
 have HL:=af (eK w sb so cs Ty D no nc n m k d hs hop hd)
 have HF:=af (fun w' (hb:Below w.heap.size w w')=>dO w' sb so cs Ty D no nc n m k (hs.below hb) hop)
 have H:=af h
 clear hs hop hd h
 obtain⟨dk,val,tx,cnt,ao,cp,ar,nx,mrk⟩:=d
 dsimp only at HL hk fZ
 by_cases fh:dk=1
 ·rw[hk fh]
  subst fh
  show Calls _ _ _ _ fun e w'=>e= .returned (.tuple #[])∧∃R',cZ w' lb S (Fb W m) nb R'∧au R R' w w'
  clear hk fZ
  go_enter Tryz.func162,Tryz.ntmps162
  go_wp2_with fail
  refine(ae HL).mono ?_
  rintro e w2 ⟨rfl,hb2⟩
  have aZ:=af hb2
  have z2:=hb2.size
  clear hb2
  go_wp2_with fail
  refine(ae HF _ ((ae aZ).alloc z2 _)).mono ?_
  rintro e w3 ⟨rfl,rfl⟩
  unfold aM
  go_wp2_with fail
  refine(GY _ lb S W nb R m ((ae H).below ((ae aZ).alloc z2 _)) hl).mono ?_
  rintro e w6 ⟨rfl,R6,h6,fr6⟩
  have H6:=af h6
  have Pf:=af fr6
  clear h6 fr6
  go_wp2_with fail
  go_end0
  exact⟨rfl,R6,ae H6,(au.aw ((ae aZ).alloc z2 _)).trans (ae Pf)⟩
 ·have t1:(dk == 1)=false:=by simpa using fh
  have HE:=af (show ((Za.Wn.mk W nb).bN u).wt=W by
   have:=fZ fh
   cases u with
   | v x=>cases this
   | n k tx num ss=>rfl)
  rw[ae HE]
  clear fh hk fZ
  go_enter Tryz.func162,Tryz.ntmps162
  go_wp2_with fail
  refine(ae HL).mono ?_
  rintro e w2 ⟨rfl,hb2⟩
  have aZ:=af hb2
  have z2:=hb2.size
  clear hb2
  go_wp2_with fail
  go_end0
  exact⟨rfl,R,(ae H).below ((ae aZ).alloc z2 _),au.aw ((ae aZ).alloc z2 _)⟩
def Hd (lb:Nat) (S:List Int) (l:Za.Wn) (R:Nat→Prop) (w:World) (e:Ending) (w':World):Prop:=
 e= .returned (.tuple #[])∧∃R',cZ w' lb S l.wt l.no R'∧au R R' w w'
def He (s:Nat):Prop:=∀(u w:World) (lb sb so:Nat) (cs:Array Value) (Ty:TypeId) (D:List Ng) (no:Option Addr) (nc:Nat) (fr:Nat→Nat) (T:Nat→Za.U) (P R:Nat→Prop) (S:List Int) (a b:Nat) (l:Za.Wn),gq u lb sb so cs Ty D no nc fr T P→Below u.heap.size u w→cZ w lb S l.wt l.no R→a<D.length→b<D.length→Za.size (T a)≤s→l.wt.length+2*Za.size (T a)≤100000000→
 Calls Tryz.prog 188 #[.pointer (some ⟨lb,0,none⟩),.pointer (some ⟨sb,so,none⟩),.int .i64 (a:Int),.int .i64 (b:Int)] w fun e w'=>Hd lb S (Za.cmpU (T a) (T b) l) R w e w'
theorem Kj (u w:World) (lb sb so:Nat) (cs:Array Value) (Ty:TypeId) (D:List Ng) (no:Option Addr) (nc:Nat) (fr:Nat→Nat) (T:Nat→Za.U) (P R:Nat→Prop) (S:List Int) (a b:Nat) (l:Za.Wn) (hG:gq u lb sb so cs Ty D no nc fr T P) (hu:Below u.heap.size u w) (h:cZ w lb S l.wt l.no R) (ha:a<D.length) (hb:b<D.length) (he:fr a=fr b):
 Calls Tryz.prog 188 #[.pointer (some ⟨lb,0,none⟩),.pointer (some ⟨sb,so,none⟩),.int .i64 (a:Int),.int .i64 (b:Int)] w fun e w'=>Hd lb S (Za.cmpU (T a) (T b) l) R w e w':=by
 have hT:T a=T b:=by rw[hG.to.reads.front a,hG.to.reads.front b,he]
 rw[hT,Za.cmpU_self]
 obtain⟨ka,hka⟩:=hG.ok.hop a ha
 obtain⟨kb,hkb⟩:=hG.ok.hop b hb
 rw[←he]at hkb
 have FA:=af (dO w sb so cs Ty D no nc a (fr a) ka (hG.at hu) hka)
 have FB:=af (dO w sb so cs Ty D no nc b (fr a) kb (hG.at hu) hkb)
 have H:=af h
 clear hG hu h ha hb hka hkb hT he
 generalize fr a=p at*
 go_enter Tryz.func188,Tryz.ntmps188
 go_wp2_with fail
 refine(ae FA).mono ?_
 rintro e w2 ⟨rfl,rfl⟩
 unfold aM at FB⊢
 go_wp2_with fail
 refine(ae FB).mono ?_
 rintro e w2 ⟨rfl,rfl⟩
 go_wp2_with fail
 go_end0
 exact⟨rfl,R,ae H,au.aw (Below.refl _ _)⟩
end Go.Proofs.YthfjnfcekeknlaaGreatDoor
namespace Go.Proofs.YthfjnfcekeknlaaGreatDoor
open Go.RowKit
theorem DT (u w:World) (lb sb so:Nat) (cs:Array Value) (Ty:TypeId) (D:List Ng) (no:Option Addr) (nc:Nat) (fr:Nat→Nat) (T:Nat→Za.U) (P R:Nat→Prop) (S:List Int) (a b:Nat) (l:Za.Wn) (hG:gq u lb sb so cs Ty D no nc fr T P) (hu:Below u.heap.size u w) (h:cZ w lb S l.wt l.no R) (ha:a<D.length) (hb:b<D.length) (he:fr a≠fr b) (hl:l.wt.length+2*Za.size (T a)≤100000000) (da db:Ng) (gT:D[fr a]?=some da) (gU:D[fr b]?=some db) (hv:da.k=1∨db.k=1):
 Calls Tryz.prog 188 #[.pointer (some ⟨lb,0,none⟩),.pointer (some ⟨sb,so,none⟩),.int .i64 (a:Int),.int .i64 (b:Int)] w fun e w'=>Hd lb S (Za.cmpU (T a) (T b) l) R w e w':=by
 obtain⟨ka,hka⟩:=hG.ok.hop a ha
 obtain⟨kb,hkb⟩:=hG.ok.hop b hb
 obtain⟨ja,ly⟩:=hG.ok.rB ha
 obtain⟨jb,hjb⟩:=hG.ok.rB hb
 have va:=hG.pH ha gT
 have vb:=hG.pH hb gU
 have FA:=af (fun W (hu:Below u.heap.size u W)=>dO W sb so cs Ty D no nc a (fr a) ka (hG.at hu) hka)
 have FB:=af (fun W (hu:Below u.heap.size u W)=>dO W sb so cs Ty D no nc b (fr b) kb (hG.at hu) hkb)
 have LA:=af (fun W (hu:Below u.heap.size u W)=>eK W sb so cs Ty D no nc (fr a) (fr a) ja da (hG.at hu) ly gT)
 have LB:=af (fun W (hu:Below u.heap.size u W)=>eK W sb so cs Ty D no nc (fr b) (fr b) jb db (hG.at hu) hjb gU)
 have WA:=af (fun W (k:Za.Wn) R (hu:Below u.heap.size u W) (h:cZ W lb S k.wt k.no R) (hl:k.wt.length≤100000000)=>lR W lb sb so cs Ty D no nc R S k.wt k.no (fr a) (fr a) ja da (T a) (hG.at hu) ly gT va.2 (fun q=>Bool.eq_false_iff.2 fun r=>q (va.1.2 r)) h hl)
 have WB:=af (fun W (k:Za.Wn) R (hu:Below u.heap.size u W) (h:cZ W lb S k.wt k.no R) (hl:k.wt.length≤100000000)=>lR W lb sb so cs Ty D no nc R S k.wt k.no (fr b) (fr b) jb db (T b) (hG.at hu) hjb gU vb.2 (fun q=>Bool.eq_false_iff.2 fun r=>q (vb.1.2 r)) h hl)
 have xq:=Za.size_pos (T a)
 have hl0:l.wt.length+2≤100000000:=by omega
 have t0:(((fr a:Nat):Int) == ((fr b:Nat):Int))=false:=by simp;omega
 have HG:=af hG
 have HU:=af hu
 have H:=af h
 have HS:=af (show Za.cmpU (T a) (T b) l=(l.bN (T a)).bN (T b)from Za.J3 l (hv.imp va.1.1 vb.1.1) (fun x q r=>he (by
  have k1:=va.1.2 (by rw[q];rfl)
  have k2:=vb.1.2 (by rw[r];rfl)
  have e1:=va.2 k1
  have e2:=vb.2 k2
  rw[q]at e1
  rw[r]at e2
  rw[e1]at e2
  injection e2 with e2
  injection e2)))
 obtain⟨kd,vd,xd,cd,od,pd,gd,nd,md⟩:=da
 obtain⟨kd',vd',xd',cd',od',pd',gd',nd',md'⟩:=db
 dsimp only at LA LB hv
 clear hG hu h ha hb he hl gT gU hka hkb ly hjb va vb xq
 generalize fr a=p at*
 generalize fr b=q at*
 by_cases k1:kd=1
 ·subst k1
  clear hv
  go_enter Tryz.func188,Tryz.ntmps188
  go_wp2_with fail
  refine(ae FA _ (ae HU)).mono ?_
  rintro e w2 ⟨rfl,rfl⟩
  unfold aM
  go_wp2_with fail
  refine(ae FB _ (ae HU)).mono ?_
  rintro e w2 ⟨rfl,rfl⟩
  unfold aM
  go_wp2_with fail
  refine(ae LA _ (ae HU)).mono ?_
  rintro e w3 ⟨rfl,hb3⟩
  have bQ:=af hb3
  have qP:=af ((ae HU).trans (hb3.mono (ae HU).size))
  clear hb3
  go_wp2_with fail
  refine(ae LB _ ((ae qP).alloc (Nat.le_trans (ae HU).size (ae bQ).size) _)).mono ?_
  rintro e w4 ⟨rfl,hb4⟩
  have f0:=(hb4.cell (p:=⟨w3.heap.size,0,none⟩) (by simp)).trans (ah (heap_alloc_new w3 _) 0)
  have f1:=(hb4.cell (p:=⟨w3.heap.size,1,none⟩) (by simp)).trans (ah (heap_alloc_new w3 _) 1)
  have f2:=(hb4.cell (p:=⟨w3.heap.size,2,none⟩) (by simp)).trans (ah (heap_alloc_new w3 _) 2)
  have f3:=(hb4.cell (p:=⟨w3.heap.size,3,none⟩) (by simp)).trans (ah (heap_alloc_new w3 _) 3)
  simp only[List.getElem?_toArray,List.getElem?_cons_zero,List.getElem?_cons_succ]at f0 f1 f2 f3
  have z3:=(ae bQ).size
  have z4:=hb4.size
  rw[World.size_alloc]at z4
  have z5:w3.heap.size<w4.heap.size:=by omega
  have cK:=af ((((ae bQ).alloc (ae bQ).size _).trans (hb4.mono (by rw[World.size_alloc];omega))))
  clear hb4
  go_wp2_with fail
  have HR:=af (ae H).rows
  have d0:=ah (heap_alloc_new w4 (.cells #[.int .i64 kd',.int .i64 vd',.string xd',.int .i64 (cd':Int)] 177)) 0
  have d1:=ah (heap_alloc_new w4 (.cells #[.int .i64 kd',.int .i64 vd',.string xd',.int .i64 (cd':Int)] 177)) 1
  have d2:=ah (heap_alloc_new w4 (.cells #[.int .i64 kd',.int .i64 vd',.string xd',.int .i64 (cd':Int)] 177)) 2
  have d3:=ah (heap_alloc_new w4 (.cells #[.int .i64 kd',.int .i64 vd',.string xd',.int .i64 (cd':Int)] 177)) 3
  simp only[List.getElem?_toArray,List.getElem?_cons_zero,List.getElem?_cons_succ]at d0 d1 d2 d3
  have bH:=af ((ae cK).alloc (by omega) (.cells #[.int .i64 kd',.int .i64 vd',.string xd',.int .i64 (cd':Int)] 177))
  have rX:=af ((ae HU).trans ((ae bH).mono (ae HU).size))
  refine(ae WA _ l R (ae rX) ((ae H).below (ae bH)) (by omega)).mono ?_
  rintro e w6 ⟨rfl,R6,h6,fr6⟩
  have rY:=af (((ae H).below (ae bH)).under fr6 (ae rX) (ae HG).lt)
  have tq:=af ((au.aw (ae bH)).trans fr6)
  have H6:=af h6
  have z6:=fr6.size
  rw[World.size_alloc]at z6
  have r3:¬R w3.heap.size:=fun q=>by have:=(ae HR _ q).2;omega
  have r4:¬R w4.heap.size:=fun q=>by have:=(ae HR _ q).2;omega
  have g0:=(fr6.cell (p:=⟨w3.heap.size,0,none⟩) (by rw[World.size_alloc];dsimp only;omega) r3).trans ((World.cell?_alloc_past _ _ _ z5).trans f0)
  have g1:=(fr6.cell (p:=⟨w3.heap.size,1,none⟩) (by rw[World.size_alloc];dsimp only;omega) r3).trans ((World.cell?_alloc_past _ _ _ z5).trans f1)
  have g2:=(fr6.cell (p:=⟨w3.heap.size,2,none⟩) (by rw[World.size_alloc];dsimp only;omega) r3).trans ((World.cell?_alloc_past _ _ _ z5).trans f2)
  have g3:=(fr6.cell (p:=⟨w3.heap.size,3,none⟩) (by rw[World.size_alloc];dsimp only;omega) r3).trans ((World.cell?_alloc_past _ _ _ z5).trans f3)
  have k0:=(fr6.cell (p:=⟨w4.heap.size,0,none⟩) (by rw[World.size_alloc];dsimp only;omega) r4).trans d0
  have k1:=(fr6.cell (p:=⟨w4.heap.size,1,none⟩) (by rw[World.size_alloc];dsimp only;omega) r4).trans d1
  have k2:=(fr6.cell (p:=⟨w4.heap.size,2,none⟩) (by rw[World.size_alloc];dsimp only;omega) r4).trans d2
  have k3:=(fr6.cell (p:=⟨w4.heap.size,3,none⟩) (by rw[World.size_alloc];dsimp only;omega) r4).trans d3
  have iI:=af (fr6.not (k:=w3.heap.size) (by rw[World.size_alloc];omega) r3)
  have jd:=af (fr6.not (k:=w4.heap.size) (by rw[World.size_alloc];omega) r4)
  clear h6 fr6 f0 f1 f2 f3 d0 d1 d2 d3 r3 r4
  have z63:w3.heap.size<w6.heap.size:=by omega
  have z64:w4.heap.size<w6.heap.size:=by omega
  go_wp2_with fail
  refine(ae WB _ (l.bN (T a)) R6 (ae rY) (by rw[Za.Wn.iF];exact ae H6) (by have:=l.jL (T a);omega)).mono ?_
  rintro e w7 ⟨rfl,R7,h7,fr7⟩
  have h7:cZ w7 lb S ((l.bN (T a)).bN (T b)).wt (l.bN (T a)).no R7:=h7
  rw[show (l.bN (T a)).no=l.no from Za.Wn.iF _ _]at h7
  have Hf:=af ((ae H6).under fr7 (ae rY) (ae HG).lt)
  have tz:=af ((ae tq).trans fr7)
  have H7:=af (show cZ w7 lb S ((l.bN (T a)).bN (T b)).wt l.no R7 from h7)
  have z7:=fr7.size
  have f0:=(fr7.cell (p:=⟨w3.heap.size,0,none⟩) z63 (ae iI)).trans g0
  have f1:=(fr7.cell (p:=⟨w3.heap.size,1,none⟩) z63 (ae iI)).trans g1
  have f2:=(fr7.cell (p:=⟨w3.heap.size,2,none⟩) z63 (ae iI)).trans g2
  have f3:=(fr7.cell (p:=⟨w3.heap.size,3,none⟩) z63 (ae iI)).trans g3
  have d0:=(fr7.cell (p:=⟨w4.heap.size,0,none⟩) z64 (ae jd)).trans k0
  have d1:=(fr7.cell (p:=⟨w4.heap.size,1,none⟩) z64 (ae jd)).trans k1
  have d2:=(fr7.cell (p:=⟨w4.heap.size,2,none⟩) z64 (ae jd)).trans k2
  have d3:=(fr7.cell (p:=⟨w4.heap.size,3,none⟩) z64 (ae jd)).trans k3
  have z73:w3.heap.size<w7.heap.size:=by omega
  have z74:w4.heap.size<w7.heap.size:=by omega
  clear h7 fr7 g0 g1 g2 g3 k0 k1 k2 k3 iI jd HR
  go_wp2_with fail
  go_end0
  rw[ae HS]
  exact⟨rfl,R7,by rw[Za.Wn.iF,Za.Wn.iF];exact ae H7,ae tz⟩
 ·have k2:kd'=1:=hv.resolve_left k1
  subst k2
  have t1:(kd == 1)=false:=by simpa using k1
  clear hv k1
  go_enter Tryz.func188,Tryz.ntmps188
  go_wp2_with fail
  refine(ae FA _ (ae HU)).mono ?_
  rintro e w2 ⟨rfl,rfl⟩
  unfold aM
  go_wp2_with fail
  refine(ae FB _ (ae HU)).mono ?_
  rintro e w2 ⟨rfl,rfl⟩
  unfold aM
  go_wp2_with fail
  refine(ae LA _ (ae HU)).mono ?_
  rintro e w3 ⟨rfl,hb3⟩
  have bQ:=af hb3
  have qP:=af ((ae HU).trans (hb3.mono (ae HU).size))
  clear hb3
  go_wp2_with fail
  refine(ae LB _ ((ae qP).alloc (Nat.le_trans (ae HU).size (ae bQ).size) _)).mono ?_
  rintro e w4 ⟨rfl,hb4⟩
  have f0:=(hb4.cell (p:=⟨w3.heap.size,0,none⟩) (by simp)).trans (ah (heap_alloc_new w3 _) 0)
  have f1:=(hb4.cell (p:=⟨w3.heap.size,1,none⟩) (by simp)).trans (ah (heap_alloc_new w3 _) 1)
  have f2:=(hb4.cell (p:=⟨w3.heap.size,2,none⟩) (by simp)).trans (ah (heap_alloc_new w3 _) 2)
  have f3:=(hb4.cell (p:=⟨w3.heap.size,3,none⟩) (by simp)).trans (ah (heap_alloc_new w3 _) 3)
  simp only[List.getElem?_toArray,List.getElem?_cons_zero,List.getElem?_cons_succ]at f0 f1 f2 f3
  have z3:=(ae bQ).size
  have z4:=hb4.size
  rw[World.size_alloc]at z4
  have z5:w3.heap.size<w4.heap.size:=by omega
  have cK:=af ((((ae bQ).alloc (ae bQ).size _).trans (hb4.mono (by rw[World.size_alloc];omega))))
  clear hb4
  go_wp2_with fail
  have HR:=af (ae H).rows
  have d0:=ah (heap_alloc_new w4 (.cells #[.int .i64 1,.int .i64 vd',.string xd',.int .i64 (cd':Int)] 177)) 0
  have d1:=ah (heap_alloc_new w4 (.cells #[.int .i64 1,.int .i64 vd',.string xd',.int .i64 (cd':Int)] 177)) 1
  have d2:=ah (heap_alloc_new w4 (.cells #[.int .i64 1,.int .i64 vd',.string xd',.int .i64 (cd':Int)] 177)) 2
  have d3:=ah (heap_alloc_new w4 (.cells #[.int .i64 1,.int .i64 vd',.string xd',.int .i64 (cd':Int)] 177)) 3
  simp only[List.getElem?_toArray,List.getElem?_cons_zero,List.getElem?_cons_succ]at d0 d1 d2 d3
  have bH:=af ((ae cK).alloc (by omega) (.cells #[.int .i64 1,.int .i64 vd',.string xd',.int .i64 (cd':Int)] 177))
  have rX:=af ((ae HU).trans ((ae bH).mono (ae HU).size))
  refine(ae WA _ l R (ae rX) ((ae H).below (ae bH)) (by omega)).mono ?_
  rintro e w6 ⟨rfl,R6,h6,fr6⟩
  have rY:=af (((ae H).below (ae bH)).under fr6 (ae rX) (ae HG).lt)
  have tq:=af ((au.aw (ae bH)).trans fr6)
  have H6:=af h6
  have z6:=fr6.size
  rw[World.size_alloc]at z6
  have r3:¬R w3.heap.size:=fun q=>by have:=(ae HR _ q).2;omega
  have r4:¬R w4.heap.size:=fun q=>by have:=(ae HR _ q).2;omega
  have g0:=(fr6.cell (p:=⟨w3.heap.size,0,none⟩) (by rw[World.size_alloc];dsimp only;omega) r3).trans ((World.cell?_alloc_past _ _ _ z5).trans f0)
  have g1:=(fr6.cell (p:=⟨w3.heap.size,1,none⟩) (by rw[World.size_alloc];dsimp only;omega) r3).trans ((World.cell?_alloc_past _ _ _ z5).trans f1)
  have g2:=(fr6.cell (p:=⟨w3.heap.size,2,none⟩) (by rw[World.size_alloc];dsimp only;omega) r3).trans ((World.cell?_alloc_past _ _ _ z5).trans f2)
  have g3:=(fr6.cell (p:=⟨w3.heap.size,3,none⟩) (by rw[World.size_alloc];dsimp only;omega) r3).trans ((World.cell?_alloc_past _ _ _ z5).trans f3)
  have k0:=(fr6.cell (p:=⟨w4.heap.size,0,none⟩) (by rw[World.size_alloc];dsimp only;omega) r4).trans d0
  have k1:=(fr6.cell (p:=⟨w4.heap.size,1,none⟩) (by rw[World.size_alloc];dsimp only;omega) r4).trans d1
  have k2:=(fr6.cell (p:=⟨w4.heap.size,2,none⟩) (by rw[World.size_alloc];dsimp only;omega) r4).trans d2
  have k3:=(fr6.cell (p:=⟨w4.heap.size,3,none⟩) (by rw[World.size_alloc];dsimp only;omega) r4).trans d3
  have iI:=af (fr6.not (k:=w3.heap.size) (by rw[World.size_alloc];omega) r3)
  have jd:=af (fr6.not (k:=w4.heap.size) (by rw[World.size_alloc];omega) r4)
  clear h6 fr6 f0 f1 f2 f3 d0 d1 d2 d3 r3 r4
  have z63:w3.heap.size<w6.heap.size:=by omega
  have z64:w4.heap.size<w6.heap.size:=by omega
  go_wp2_with fail
  refine(ae WB _ (l.bN (T a)) R6 (ae rY) (by rw[Za.Wn.iF];exact ae H6) (by have:=l.jL (T a);omega)).mono ?_
  rintro e w7 ⟨rfl,R7,h7,fr7⟩
  have h7:cZ w7 lb S ((l.bN (T a)).bN (T b)).wt (l.bN (T a)).no R7:=h7
  rw[show (l.bN (T a)).no=l.no from Za.Wn.iF _ _]at h7
  have Hf:=af ((ae H6).under fr7 (ae rY) (ae HG).lt)
  have tz:=af ((ae tq).trans fr7)
  have H7:=af (show cZ w7 lb S ((l.bN (T a)).bN (T b)).wt l.no R7 from h7)
  have z7:=fr7.size
  have f0:=(fr7.cell (p:=⟨w3.heap.size,0,none⟩) z63 (ae iI)).trans g0
  have f1:=(fr7.cell (p:=⟨w3.heap.size,1,none⟩) z63 (ae iI)).trans g1
  have f2:=(fr7.cell (p:=⟨w3.heap.size,2,none⟩) z63 (ae iI)).trans g2
  have f3:=(fr7.cell (p:=⟨w3.heap.size,3,none⟩) z63 (ae iI)).trans g3
  have d0:=(fr7.cell (p:=⟨w4.heap.size,0,none⟩) z64 (ae jd)).trans k0
  have d1:=(fr7.cell (p:=⟨w4.heap.size,1,none⟩) z64 (ae jd)).trans k1
  have d2:=(fr7.cell (p:=⟨w4.heap.size,2,none⟩) z64 (ae jd)).trans k2
  have d3:=(fr7.cell (p:=⟨w4.heap.size,3,none⟩) z64 (ae jd)).trans k3
  have z73:w3.heap.size<w7.heap.size:=by omega
  have z74:w4.heap.size<w7.heap.size:=by omega
  clear h7 fr7 g0 g1 g2 g3 k0 k1 k2 k3 iI jd HR
  go_wp2_with fail
  go_end0
  rw[ae HS]
  exact⟨rfl,R7,by rw[Za.Wn.iF,Za.Wn.iF];exact ae H7,ae tz⟩
theorem NS (u w:World) (lb sb so:Nat) (cs:Array Value) (Ty:TypeId) (D:List Ng) (no:Option Addr) (nc:Nat) (fr:Nat→Nat) (T:Nat→Za.U) (P R:Nat→Prop) (S:List Int) (a b:Nat) (l:Za.Wn) (hG:gq u lb sb so cs Ty D no nc fr T P) (hu:Below u.heap.size u w) (h:cZ w lb S l.wt l.no R) (ha:a<D.length) (hb:b<D.length) (he:fr a≠fr b) (hl:l.wt.length+2*Za.size (T a)≤100000000) (da db:Ng) (gT:D[fr a]?=some da) (gU:D[fr b]?=some db) (k1:da.k≠1) (k2:db.k≠1) (hx:¬(da.k=db.k∧da.val=db.val∧da.tx=db.tx∧da.cnt=db.cnt)):
 Calls Tryz.prog 188 #[.pointer (some ⟨lb,0,none⟩),.pointer (some ⟨sb,so,none⟩),.int .i64 (a:Int),.int .i64 (b:Int)] w fun e w'=>Hd lb S (Za.cmpU (T a) (T b) l) R w e w':=by
 obtain⟨ka,hka⟩:=hG.ok.hop a ha
 obtain⟨kb,hkb⟩:=hG.ok.hop b hb
 obtain⟨ja,ly⟩:=hG.ok.rB ha
 obtain⟨jb,hjb⟩:=hG.ok.rB hb
 have va:=hG.pH ha gT
 have vb:=hG.pH hb gU
 have FA:=af (fun W (hu:Below u.heap.size u W)=>dO W sb so cs Ty D no nc a (fr a) ka (hG.at hu) hka)
 have FB:=af (fun W (hu:Below u.heap.size u W)=>dO W sb so cs Ty D no nc b (fr b) kb (hG.at hu) hkb)
 have LA:=af (fun W (hu:Below u.heap.size u W)=>eK W sb so cs Ty D no nc (fr a) (fr a) ja da (hG.at hu) ly gT)
 have LB:=af (fun W (hu:Below u.heap.size u W)=>eK W sb so cs Ty D no nc (fr b) (fr b) jb db (hG.at hu) hjb gU)
 have WA:=af (fun W (k:Za.Wn) R (hu:Below u.heap.size u W) (h:cZ W lb S k.wt k.no R) (hl:k.wt.length≤100000000)=>lR W lb sb so cs Ty D no nc R S k.wt k.no (fr a) (fr a) ja da (T a) (hG.at hu) ly gT va.2 (fun q=>Bool.eq_false_iff.2 fun r=>q (va.1.2 r)) h hl)
 have WB:=af (fun W (k:Za.Wn) R (hu:Below u.heap.size u W) (h:cZ W lb S k.wt k.no R) (hl:k.wt.length≤100000000)=>lR W lb sb so cs Ty D no nc R S k.wt k.no (fr b) (fr b) jb db (T b) (hG.at hu) hjb gU vb.2 (fun q=>Bool.eq_false_iff.2 fun r=>q (vb.1.2 r)) h hl)
 have xq:=Za.size_pos (T a)
 have hl0:l.wt.length+2≤100000000:=by omega
 have t0:(((fr a:Nat):Int) == ((fr b:Nat):Int))=false:=by simp;omega
 have HG:=af hG
 have HU:=af hu
 have H:=af h
 obtain⟨_,e1,oa,ma,_,na⟩:=hG.node ha
 rw[gT]at e1
 cases e1
 obtain⟨_,e2,ob,mb,_,nb⟩:=hG.node hb
 rw[gU]at e2
 cases e2
 obtain⟨ua,xa,ia,la,ea⟩:=na k1
 obtain⟨ub,xb,ib,lb',eb⟩:=nb k2
 have rZ:=af (show ((l.bN (T a)).bN (T b)).wt=l.wt by rw[ea,eb];rfl)
 have HS:=af (show Za.cmpU (T a) (T b) l=l.bad by
  rw[ea,eb]
  refine Za.J4 l fun q=>hx ((uF oa ob k1 k2).1 ⟨?_,?_⟩)
  ·rw[la,lb',q.1,q.2.1,q.2.2.1]
  ·have:=q.2.2.2;rw[List.length_map,List.length_map]at this;exact this)
 have Tj:=af hx
 have t1:(da.k == 1)=false:=by simpa using k1
 have t2:(db.k == 1)=false:=by simpa using k2
 obtain⟨kd,vd,xd,cd,od,pd,gd,nd,md⟩:=da
 obtain⟨kd',vd',xd',cd',od',pd',gd',nd',md'⟩:=db
 dsimp only at LA LB t1 t2 Tj
 clear hG hu h ha hb he hl gT gU hka hkb ly hjb va vb xq oa ob ma mb na nb la lb' ea eb k1 k2 hx
 generalize fr a=p at*
 generalize fr b=q at*
 go_enter Tryz.func188,Tryz.ntmps188
 go_wp2_with fail
 refine(ae FA _ (ae HU)).mono ?_
 rintro e w2 ⟨rfl,rfl⟩
 unfold aM
 go_wp2_with fail
 refine(ae FB _ (ae HU)).mono ?_
 rintro e w2 ⟨rfl,rfl⟩
 unfold aM
 go_wp2_with fail
 refine(ae LA _ (ae HU)).mono ?_
 rintro e w3 ⟨rfl,hb3⟩
 have bQ:=af hb3
 have qP:=af ((ae HU).trans (hb3.mono (ae HU).size))
 clear hb3
 go_wp2_with fail
 refine(ae LB _ ((ae qP).alloc (Nat.le_trans (ae HU).size (ae bQ).size) _)).mono ?_
 rintro e w4 ⟨rfl,hb4⟩
 have f0:=(hb4.cell (p:=⟨w3.heap.size,0,none⟩) (by simp)).trans (ah (heap_alloc_new w3 _) 0)
 have f1:=(hb4.cell (p:=⟨w3.heap.size,1,none⟩) (by simp)).trans (ah (heap_alloc_new w3 _) 1)
 have f2:=(hb4.cell (p:=⟨w3.heap.size,2,none⟩) (by simp)).trans (ah (heap_alloc_new w3 _) 2)
 have f3:=(hb4.cell (p:=⟨w3.heap.size,3,none⟩) (by simp)).trans (ah (heap_alloc_new w3 _) 3)
 simp only[List.getElem?_toArray,List.getElem?_cons_zero,List.getElem?_cons_succ]at f0 f1 f2 f3
 have z3:=(ae bQ).size
 have z4:=hb4.size
 rw[World.size_alloc]at z4
 have z5:w3.heap.size<w4.heap.size:=by omega
 have cK:=af ((((ae bQ).alloc (ae bQ).size _).trans (hb4.mono (by rw[World.size_alloc];omega))))
 clear hb4
 go_wp2_with fail
 have HR:=af (ae H).rows
 have d0:=ah (heap_alloc_new w4 (.cells #[.int .i64 kd',.int .i64 vd',.string xd',.int .i64 (cd':Int)] 177)) 0
 have d1:=ah (heap_alloc_new w4 (.cells #[.int .i64 kd',.int .i64 vd',.string xd',.int .i64 (cd':Int)] 177)) 1
 have d2:=ah (heap_alloc_new w4 (.cells #[.int .i64 kd',.int .i64 vd',.string xd',.int .i64 (cd':Int)] 177)) 2
 have d3:=ah (heap_alloc_new w4 (.cells #[.int .i64 kd',.int .i64 vd',.string xd',.int .i64 (cd':Int)] 177)) 3
 simp only[List.getElem?_toArray,List.getElem?_cons_zero,List.getElem?_cons_succ]at d0 d1 d2 d3
 have bH:=af ((ae cK).alloc (by omega) (.cells #[.int .i64 kd',.int .i64 vd',.string xd',.int .i64 (cd':Int)] 177))
 have rX:=af ((ae HU).trans ((ae bH).mono (ae HU).size))
 refine(ae WA _ l R (ae rX) ((ae H).below (ae bH)) (by omega)).mono ?_
 rintro e w6 ⟨rfl,R6,h6,fr6⟩
 have rY:=af (((ae H).below (ae bH)).under fr6 (ae rX) (ae HG).lt)
 have tq:=af ((au.aw (ae bH)).trans fr6)
 have H6:=af h6
 have z6:=fr6.size
 rw[World.size_alloc]at z6
 have r3:¬R w3.heap.size:=fun q=>by have:=(ae HR _ q).2;omega
 have r4:¬R w4.heap.size:=fun q=>by have:=(ae HR _ q).2;omega
 have g0:=(fr6.cell (p:=⟨w3.heap.size,0,none⟩) (by rw[World.size_alloc];dsimp only;omega) r3).trans ((World.cell?_alloc_past _ _ _ z5).trans f0)
 have g1:=(fr6.cell (p:=⟨w3.heap.size,1,none⟩) (by rw[World.size_alloc];dsimp only;omega) r3).trans ((World.cell?_alloc_past _ _ _ z5).trans f1)
 have g2:=(fr6.cell (p:=⟨w3.heap.size,2,none⟩) (by rw[World.size_alloc];dsimp only;omega) r3).trans ((World.cell?_alloc_past _ _ _ z5).trans f2)
 have g3:=(fr6.cell (p:=⟨w3.heap.size,3,none⟩) (by rw[World.size_alloc];dsimp only;omega) r3).trans ((World.cell?_alloc_past _ _ _ z5).trans f3)
 have k0:=(fr6.cell (p:=⟨w4.heap.size,0,none⟩) (by rw[World.size_alloc];dsimp only;omega) r4).trans d0
 have k1:=(fr6.cell (p:=⟨w4.heap.size,1,none⟩) (by rw[World.size_alloc];dsimp only;omega) r4).trans d1
 have k2:=(fr6.cell (p:=⟨w4.heap.size,2,none⟩) (by rw[World.size_alloc];dsimp only;omega) r4).trans d2
 have k3:=(fr6.cell (p:=⟨w4.heap.size,3,none⟩) (by rw[World.size_alloc];dsimp only;omega) r4).trans d3
 have iI:=af (fr6.not (k:=w3.heap.size) (by rw[World.size_alloc];omega) r3)
 have jd:=af (fr6.not (k:=w4.heap.size) (by rw[World.size_alloc];omega) r4)
 clear h6 fr6 f0 f1 f2 f3 d0 d1 d2 d3 r3 r4
 have z63:w3.heap.size<w6.heap.size:=by omega
 have z64:w4.heap.size<w6.heap.size:=by omega
 go_wp2_with fail
 refine(ae WB _ (l.bN (T a)) R6 (ae rY) (by rw[Za.Wn.iF];exact ae H6) (by have:=l.jL (T a);omega)).mono ?_
 rintro e w7 ⟨rfl,R7,h7,fr7⟩
 have h7:cZ w7 lb S ((l.bN (T a)).bN (T b)).wt (l.bN (T a)).no R7:=h7
 rw[show (l.bN (T a)).no=l.no from Za.Wn.iF _ _]at h7
 have Hf:=af ((ae H6).under fr7 (ae rY) (ae HG).lt)
 have tz:=af ((ae tq).trans fr7)
 have H7:=af (show cZ w7 lb S ((l.bN (T a)).bN (T b)).wt l.no R7 from h7)
 have z7:=fr7.size
 have f0:=(fr7.cell (p:=⟨w3.heap.size,0,none⟩) z63 (ae iI)).trans g0
 have f1:=(fr7.cell (p:=⟨w3.heap.size,1,none⟩) z63 (ae iI)).trans g1
 have f2:=(fr7.cell (p:=⟨w3.heap.size,2,none⟩) z63 (ae iI)).trans g2
 have f3:=(fr7.cell (p:=⟨w3.heap.size,3,none⟩) z63 (ae iI)).trans g3
 have d0:=(fr7.cell (p:=⟨w4.heap.size,0,none⟩) z64 (ae jd)).trans k0
 have d1:=(fr7.cell (p:=⟨w4.heap.size,1,none⟩) z64 (ae jd)).trans k1
 have d2:=(fr7.cell (p:=⟨w4.heap.size,2,none⟩) z64 (ae jd)).trans k2
 have d3:=(fr7.cell (p:=⟨w4.heap.size,3,none⟩) z64 (ae jd)).trans k3
 have z73:w3.heap.size<w7.heap.size:=by omega
 have z74:w4.heap.size<w7.heap.size:=by omega
 clear h7 fr7 g0 g1 g2 g3 k0 k1 k2 k3 iI jd HR
 rw[ae rZ]at H7
 obtain⟨so',sc,wo,wc,fQ,rfl⟩:=(ae H7)
 have s2:=ah fQ.blk 2
 have sf:=ay fQ.blk 2
 have sz:=ag fQ.blk
 simp only[List.getElem?_toArray,List.getElem?_cons_zero,List.getElem?_cons_succ]at s2
 have qQ:=af fQ
 clear fQ rZ
 go_wp2_with fail
 all_goals first
  | (exfalso;exact ae Tj ⟨by assumption,by assumption,toList_inj (by assumption),by omega⟩)
  | (go_end0;rw[ae HS];exact⟨rfl,_,⟨so',sc,wo,wc,(ae qQ).bad.1,rfl⟩,(ae tz).trans (ae qQ).bad.2⟩)
def Tl (lb:Nat) (S:List Int) (T:Nat→Za.U) (ga gb:List Nat) (l:Za.Wn) (R:Nat→Prop) (w:World) (k:Nat) (iv:Value) (wr:World):Prop:=
 ∃(j:Nat) (R':Nat→Prop),k+j=ga.length∧iv= .int .i64 (j:Int)∧cZ wr lb S (Za.cmpUL ((ga.map T).take j) ((gb.map T).take j) l).wt (Za.cmpUL ((ga.map T).take j) ((gb.map T).take j) l).no R'∧au R R' w wr
theorem a8.at {w:World} {D:List Ng} {P:Nat→Prop} (h:a8 w D P) {d:Ng} (hd:d∈D) (hn:d.args≠[]):∃g,d.ao=some ⟨g,0,none⟩∧g<w.heap.size∧∀i (hi:i<d.args.length),w.cell? ⟨g,i,none⟩=some (.int .i64 (d.args[i]:Int)):=by
 obtain⟨g,cs,h1,_,h3,h4⟩:=h d hd hn
 refine⟨g,h1,ag h3,fun i hi=> ?_⟩
 rw[ah h3,←Array.getElem?_toList,←List.getElem?_take_of_lt hi,h4,List.getElem?_map,List.getElem?_eq_getElem hi]
 rfl
theorem Kk {s:Nat} (IH:He s) (u w:World) (lb sb so:Nat) (cs:Array Value) (Ty:TypeId) (D:List Ng) (no:Option Addr) (nc:Nat) (fr:Nat→Nat) (T:Nat→Za.U) (P R:Nat→Prop) (S:List Int) (a b:Nat) (l:Za.Wn) (hG:gq u lb sb so cs Ty D no nc fr T P) (hu:Below u.heap.size u w) (h:cZ w lb S l.wt l.no R) (ha:a<D.length) (hb:b<D.length) (he:fr a≠fr b) (hl:l.wt.length+2*Za.size (T a)≤100000000) (da db:Ng) (gT:D[fr a]?=some da) (gU:D[fr b]?=some db) (hsz:Za.size (T a)≤s+1) (k1:da.k≠1) (k2:db.k≠1) (hx:da.k=db.k∧da.val=db.val∧da.tx=db.tx∧da.cnt=db.cnt):
 Calls Tryz.prog 188 #[.pointer (some ⟨lb,0,none⟩),.pointer (some ⟨sb,so,none⟩),.int .i64 (a:Int),.int .i64 (b:Int)] w fun e w'=>Hd lb S (Za.cmpU (T a) (T b) l) R w e w':=by
 obtain⟨ka,hka⟩:=hG.ok.hop a ha
 obtain⟨kb,hkb⟩:=hG.ok.hop b hb
 obtain⟨ja,ly⟩:=hG.ok.rB ha
 obtain⟨jb,hjb⟩:=hG.ok.rB hb
 have va:=hG.pH ha gT
 have vb:=hG.pH hb gU
 have FA:=af (fun W (hu:Below u.heap.size u W)=>dO W sb so cs Ty D no nc a (fr a) ka (hG.at hu) hka)
 have FB:=af (fun W (hu:Below u.heap.size u W)=>dO W sb so cs Ty D no nc b (fr b) kb (hG.at hu) hkb)
 have LA:=af (fun W (hu:Below u.heap.size u W)=>eK W sb so cs Ty D no nc (fr a) (fr a) ja da (hG.at hu) ly gT)
 have LB:=af (fun W (hu:Below u.heap.size u W)=>eK W sb so cs Ty D no nc (fr b) (fr b) jb db (hG.at hu) hjb gU)
 have WA:=af (fun W (k:Za.Wn) R (hu:Below u.heap.size u W) (h:cZ W lb S k.wt k.no R) (hl:k.wt.length≤100000000)=>lR W lb sb so cs Ty D no nc R S k.wt k.no (fr a) (fr a) ja da (T a) (hG.at hu) ly gT va.2 (fun q=>Bool.eq_false_iff.2 fun r=>q (va.1.2 r)) h hl)
 have WB:=af (fun W (k:Za.Wn) R (hu:Below u.heap.size u W) (h:cZ W lb S k.wt k.no R) (hl:k.wt.length≤100000000)=>lR W lb sb so cs Ty D no nc R S k.wt k.no (fr b) (fr b) jb db (T b) (hG.at hu) hjb gU vb.2 (fun q=>Bool.eq_false_iff.2 fun r=>q (vb.1.2 r)) h hl)
 have xq:=Za.size_pos (T a)
 have hl0:l.wt.length+2≤100000000:=by omega
 have t0:(((fr a:Nat):Int) == ((fr b:Nat):Int))=false:=by simp;omega
 have HG:=af hG
 have HU:=af hu
 have H:=af h
 obtain⟨_,e1,oa,ma,_,na⟩:=hG.node ha
 rw[gT]at e1
 cases e1
 obtain⟨_,e2,ob,mb,_,nb⟩:=hG.node hb
 rw[gU]at e2
 cases e2
 obtain⟨ua,xa,ia,la,ea⟩:=na k1
 obtain⟨ub,xb,ib,lb',eb⟩:=nb k2
 have rZ:=af (show ((l.bN (T a)).bN (T b)).wt=l.wt by rw[ea,eb];rfl)
 obtain⟨le,ll⟩:=(uF oa ob k1 k2).2 hx
 have HS:=af (show Za.cmpU (T a) (T b) l=Za.cmpUL (da.args.map T) (db.args.map T) l by
  rw[la,lb']at le
  injection le with le
  injection le with u1 le
  injection le with u2 u3
  subst u1 u2 u3
  rw[ea,eb]
  exact Za.GC l (by rw[List.length_map,List.length_map];exact ll))
 have qq:Za.size (T a)=1+Za.sizeL (da.args.map T):=by rw[ea,Za.size];try omega
 have AA:=af (fun W (hu:Below u.heap.size u W)=>lQ W sb so cs Ty D no nc (fr a) (fr a) ja da (hG.at hu) ly gT)
 have AB:=af (fun W (hu:Below u.heap.size u W)=>lQ W sb so cs Ty D no nc (fr b) (fr b) jb db (hG.at hu) hjb gU)
 have CA:=af (fun q=>hG.ar.at ma q)
 have CB:=af (fun q=>hG.ar.at mb q)
 have IA:=af oa.inn
 have IB:=af ob.inn
 have h3:da.args.length≤3:=oa.few
 have H3:=af h3
 have t1:(da.k == 1)=false:=by simpa using k1
 have t2:(db.k == 1)=false:=by simpa using k2
 have HX:=af hx
 obtain⟨kd,vd,xd,cd,od,pd,gd,nd,md⟩:=da
 obtain⟨kd',vd',xd',cd',od',pd',gd',nd',md'⟩:=db
 dsimp only at LA LB t1 t2 hx AA AB CA CB IA IB HS ll qq H3
 obtain⟨rfl,rfl,rfl,rfl⟩:=hx
 rw[←ll]at AB
 have Bv:=af ll
 have yf:=af qq
 have jV:=af hsz
 have HL:=af hl
 have I:=af IH
 clear hG hu h ha hb he hl gT gU hka hkb ly hjb va vb xq oa ob ma mb na nb la lb' ea eb k1 k2 h3 ll le qq hsz IH HX
 generalize fr a=p at*
 generalize fr b=q at*
 go_enter Tryz.func188,Tryz.ntmps188
 go_wp2_with fail
 refine(ae FA _ (ae HU)).mono ?_
 rintro e w2 ⟨rfl,rfl⟩
 unfold aM
 go_wp2_with fail
 refine(ae FB _ (ae HU)).mono ?_
 rintro e w2 ⟨rfl,rfl⟩
 unfold aM
 go_wp2_with fail
 refine(ae LA _ (ae HU)).mono ?_
 rintro e w3 ⟨rfl,hb3⟩
 have bQ:=af hb3
 have qP:=af ((ae HU).trans (hb3.mono (ae HU).size))
 clear hb3
 go_wp2_with fail
 refine(ae LB _ ((ae qP).alloc (Nat.le_trans (ae HU).size (ae bQ).size) _)).mono ?_
 rintro e w4 ⟨rfl,hb4⟩
 have f0:=(hb4.cell (p:=⟨w3.heap.size,0,none⟩) (by simp)).trans (ah (heap_alloc_new w3 _) 0)
 have f1:=(hb4.cell (p:=⟨w3.heap.size,1,none⟩) (by simp)).trans (ah (heap_alloc_new w3 _) 1)
 have f2:=(hb4.cell (p:=⟨w3.heap.size,2,none⟩) (by simp)).trans (ah (heap_alloc_new w3 _) 2)
 have f3:=(hb4.cell (p:=⟨w3.heap.size,3,none⟩) (by simp)).trans (ah (heap_alloc_new w3 _) 3)
 simp only[List.getElem?_toArray,List.getElem?_cons_zero,List.getElem?_cons_succ]at f0 f1 f2 f3
 have z3:=(ae bQ).size
 have z4:=hb4.size
 rw[World.size_alloc]at z4
 have z5:w3.heap.size<w4.heap.size:=by omega
 have cK:=af ((((ae bQ).alloc (ae bQ).size _).trans (hb4.mono (by rw[World.size_alloc];omega))))
 clear hb4
 go_wp2_with fail
 have HR:=af (ae H).rows
 have d0:=ah (heap_alloc_new w4 (.cells #[.int .i64 kd,.int .i64 vd,.string xd,.int .i64 (cd:Int)] 177)) 0
 have d1:=ah (heap_alloc_new w4 (.cells #[.int .i64 kd,.int .i64 vd,.string xd,.int .i64 (cd:Int)] 177)) 1
 have d2:=ah (heap_alloc_new w4 (.cells #[.int .i64 kd,.int .i64 vd,.string xd,.int .i64 (cd:Int)] 177)) 2
 have d3:=ah (heap_alloc_new w4 (.cells #[.int .i64 kd,.int .i64 vd,.string xd,.int .i64 (cd:Int)] 177)) 3
 simp only[List.getElem?_toArray,List.getElem?_cons_zero,List.getElem?_cons_succ]at d0 d1 d2 d3
 have bH:=af ((ae cK).alloc (by omega) (.cells #[.int .i64 kd,.int .i64 vd,.string xd,.int .i64 (cd:Int)] 177))
 have rX:=af ((ae HU).trans ((ae bH).mono (ae HU).size))
 refine(ae WA _ l R (ae rX) ((ae H).below (ae bH)) (by omega)).mono ?_
 rintro e w6 ⟨rfl,R6,h6,fr6⟩
 have rY:=af (((ae H).below (ae bH)).under fr6 (ae rX) (ae HG).lt)
 have tq:=af ((au.aw (ae bH)).trans fr6)
 have H6:=af h6
 have z6:=fr6.size
 rw[World.size_alloc]at z6
 have r3:¬R w3.heap.size:=fun q=>by have:=(ae HR _ q).2;omega
 have r4:¬R w4.heap.size:=fun q=>by have:=(ae HR _ q).2;omega
 have g0:=(fr6.cell (p:=⟨w3.heap.size,0,none⟩) (by rw[World.size_alloc];dsimp only;omega) r3).trans ((World.cell?_alloc_past _ _ _ z5).trans f0)
 have g1:=(fr6.cell (p:=⟨w3.heap.size,1,none⟩) (by rw[World.size_alloc];dsimp only;omega) r3).trans ((World.cell?_alloc_past _ _ _ z5).trans f1)
 have g2:=(fr6.cell (p:=⟨w3.heap.size,2,none⟩) (by rw[World.size_alloc];dsimp only;omega) r3).trans ((World.cell?_alloc_past _ _ _ z5).trans f2)
 have g3:=(fr6.cell (p:=⟨w3.heap.size,3,none⟩) (by rw[World.size_alloc];dsimp only;omega) r3).trans ((World.cell?_alloc_past _ _ _ z5).trans f3)
 have k0:=(fr6.cell (p:=⟨w4.heap.size,0,none⟩) (by rw[World.size_alloc];dsimp only;omega) r4).trans d0
 have k1:=(fr6.cell (p:=⟨w4.heap.size,1,none⟩) (by rw[World.size_alloc];dsimp only;omega) r4).trans d1
 have k2:=(fr6.cell (p:=⟨w4.heap.size,2,none⟩) (by rw[World.size_alloc];dsimp only;omega) r4).trans d2
 have k3:=(fr6.cell (p:=⟨w4.heap.size,3,none⟩) (by rw[World.size_alloc];dsimp only;omega) r4).trans d3
 have iI:=af (fr6.not (k:=w3.heap.size) (by rw[World.size_alloc];omega) r3)
 have jd:=af (fr6.not (k:=w4.heap.size) (by rw[World.size_alloc];omega) r4)
 clear h6 fr6 f0 f1 f2 f3 d0 d1 d2 d3 r3 r4
 have z63:w3.heap.size<w6.heap.size:=by omega
 have z64:w4.heap.size<w6.heap.size:=by omega
 go_wp2_with fail
 refine(ae WB _ (l.bN (T a)) R6 (ae rY) (by rw[Za.Wn.iF];exact ae H6) (by have:=l.jL (T a);omega)).mono ?_
 rintro e w7 ⟨rfl,R7,h7,fr7⟩
 have h7:cZ w7 lb S ((l.bN (T a)).bN (T b)).wt (l.bN (T a)).no R7:=h7
 rw[show (l.bN (T a)).no=l.no from Za.Wn.iF _ _]at h7
 have Hf:=af ((ae H6).under fr7 (ae rY) (ae HG).lt)
 have tz:=af ((ae tq).trans fr7)
 have H7:=af (show cZ w7 lb S ((l.bN (T a)).bN (T b)).wt l.no R7 from h7)
 have z7:=fr7.size
 have f0:=(fr7.cell (p:=⟨w3.heap.size,0,none⟩) z63 (ae iI)).trans g0
 have f1:=(fr7.cell (p:=⟨w3.heap.size,1,none⟩) z63 (ae iI)).trans g1
 have f2:=(fr7.cell (p:=⟨w3.heap.size,2,none⟩) z63 (ae iI)).trans g2
 have f3:=(fr7.cell (p:=⟨w3.heap.size,3,none⟩) z63 (ae iI)).trans g3
 have d0:=(fr7.cell (p:=⟨w4.heap.size,0,none⟩) z64 (ae jd)).trans k0
 have d1:=(fr7.cell (p:=⟨w4.heap.size,1,none⟩) z64 (ae jd)).trans k1
 have d2:=(fr7.cell (p:=⟨w4.heap.size,2,none⟩) z64 (ae jd)).trans k2
 have d3:=(fr7.cell (p:=⟨w4.heap.size,3,none⟩) z64 (ae jd)).trans k3
 have z73:w3.heap.size<w7.heap.size:=by omega
 have z74:w4.heap.size<w7.heap.size:=by omega
 clear h7 fr7 g0 g1 g2 g3 k0 k1 k2 k3 iI jd HR
 rw[ae rZ]at H7
 go_wp2_with fail
 have HST:=af (show Tl lb S T gd gd' l R w2 gd.length (.int .i64 0) w7 from ⟨0,R7,by omega,rfl,by simpa [Za.cmpUL] using ae H7,ae tz⟩)
 clear f0 f1 f2 f3 d0 d1 d2 d3 z3 z4 z5 bQ qP cK FA FB LA LB WA WB rZ t0 t1 t2
 refine(ae AA _ (ae Hf)).mono ?_
 rintro e w9 ⟨rfl,rfl⟩
 go_wp2_with fail
 refine(ae AB _ (ae Hf)).mono ?_
 rintro e w9 ⟨rfl,rfl⟩
 go_wp2_with fail
 clear AA AB bH rX rY tq H6 tz H7
 go_loopg [14] gd.length (fun k iv wr=>Tl lb S T gd gd' l R w2 k iv wr)
 case atStart=>exact ae HST
 case round=>
  clear HST
  obtain⟨j,R',hkj,rfl,fQ,cU⟩:=hrel
  have lA:=(ae H).under cU (ae HU) (ae HG).lt
  by_cases hlt:j<gd.length
  ·have hjb:j<gd'.length:=by have:=ae Bv;omega
   obtain⟨pA,eA,zA,cA⟩:=ae CA (fun q=>by rw[q]at hlt;simp at hlt)
   obtain⟨pB,eB,zB,cB⟩:=ae CB (fun q=>by rw[q]at hjb;simp at hjb)
   subst eA eB
   have f0:=(lA.cell (p:=⟨pA,j,none⟩) zA).trans (cA j hlt)
   have f1:=(lA.cell (p:=⟨pB,j,none⟩) zB).trans (cB j hjb)
   have DL:=af (show∀w',Below u.heap.size u w'→w'.cell? ⟨pA,j,none⟩=some (.int .i64 (gd[j]:Int))∧w'.cell? ⟨pB,j,none⟩=some (.int .i64 (gd'[j]:Int))from fun w' hb=>⟨(hb.cell (p:=⟨pA,j,none⟩) zA).trans (cA j hlt),(hb.cell (p:=⟨pB,j,none⟩) zB).trans (cB j hjb)⟩)
   have DU:j<(gd.map T).length:=by rw[List.length_map];exact hlt
   have dS:j<(gd'.map T).length:=by rw[List.length_map];exact hjb
   have q1:=Za.GA ((gd.map T).take j) ((gd'.map T).take j) l
   have q2:=Za.sizeL_takeR (gd.map T) DU
   have q3:=Za.sizeL_take_leR (gd.map T) (j+1)
   rw[List.getElem_map]at q2
   have IC:=af (ae I u wr.drew lb sb so cs Ty D no nc fr T P R' S gd[j] gd'[j] (Za.cmpUL ((gd.map T).take j) ((gd'.map T).take j) l) (ae HG) lA.drew (fQ.below (Below.refl _ _).drew) (ae IA _ (List.getElem_mem hlt)) (ae IB _ (List.getElem_mem hjb)) (by have:=ae yf;have:=ae jV;omega) (by have:=ae yf;have:=ae HL;omega))
   have hst:=Za.cmpUL_take (gd.map T) (gd'.map T) l DU dS
   rw[List.getElem_map,List.getElem_map]at hst
   rw[←hst]at IC
   have i7:=af cU
   have Mp:=af lA
   have qQ:=af fQ
   have bf:=af hkj
   have bp:=af hlt
   generalize gd[j]=na at*
   generalize gd'[j]=nb at*
   have zr:u.heap.size≤wr.heap.size:=lA.size
   have zA':pA<wr.heap.size:=by omega
   have zB':pB<wr.heap.size:=by omega
   have Pg:j≤3:=by have:=ae H3;omega
   have i0:(0:Int)≤(j:Int):=by omega
   have i1:(j:Int)<(gd.length:Int):=by omega
   clear fQ cU lA hkj hlt hjb cA cB q1 q2 q3 hst DU dS
   go_wp2_with fail
   go_region_held3 (fun w'=>w'.cell? ⟨pA,j,none⟩=some (.int .i64 (na:Int))∧w'.cell? ⟨pB,j,none⟩=some (.int .i64 (nb:Int))) (go_keep) (first
    | (go_at_call 188;refine(ae IC).mono ?_;rintro e w8 ⟨rfl,R8,h8,fr8⟩;have nN:=af ((ae i7).trans ((au.aw (Below.refl _ _).drew).trans fr8));obtain⟨k0,k1⟩:=ae DL w8 ((ae qQ).under ((au.aw (Below.refl _ _).drew).trans fr8) (ae Mp) (ae HG).lt);have H8:=af h8;clear h8 fr8))
   all_goals
    go_wp2_with fail
    go_roundg (gk - 1)
    case measure=>have:=ae bf;have:=ae bp;omega
    case rel=>exact⟨j+1,R8,by have:=ae bf;have:=ae bp;omega,by go_num,ae H8,ae nN⟩
  ·obtain rfl:j=gd.length:=by omega
   have qQ:=af fQ
   have i7:=af cU
   clear fQ cU lA hkj
   go_wp2_with fail
   go_end0
   rw[ae HS]
   have q1:=ae qQ
   rw[List.take_of_length_le (by rw[List.length_map];exact Nat.le_refl _),List.take_of_length_le (by rw[List.length_map];have:=ae Bv;omega)]at q1
   exact⟨rfl,R',q1,ae i7⟩
theorem cpG_all:∀s,He s
 | 0=>fun _ _ _ _ _ _ _ _ _ _ _ T _ _ _ a _ _ _ _ _ _ _ hs=>by have:=Za.size_pos (T a);omega
 | s+1=>fun u w lb sb so cs Ty D no nc fr T P R S a b l hG hu h ha hb hs hl=>by
  by_cases he:fr a=fr b
  ·exact Kj u w lb sb so cs Ty D no nc fr T P R S a b l hG hu h ha hb he
  ·obtain⟨da,gT,_⟩:=hG.node ha
   obtain⟨db,gU,_⟩:=hG.node hb
   by_cases k1:da.k=1
   ·exact DT u w lb sb so cs Ty D no nc fr T P R S a b l hG hu h ha hb he hl da db gT gU (Or.inl k1)
   ·by_cases k2:db.k=1
    ·exact DT u w lb sb so cs Ty D no nc fr T P R S a b l hG hu h ha hb he hl da db gT gU (Or.inr k2)
    ·by_cases hx:da.k=db.k∧da.val=db.val∧da.tx=db.tx∧da.cnt=db.cnt
     ·exact Kk (cpG_all s) u w lb sb so cs Ty D no nc fr T P R S a b l hG hu h ha hb he hl da db gT gU hs k1 k2 hx
     ·exact NS u w lb sb so cs Ty D no nc fr T P R S a b l hG hu h ha hb he hl da db gT gU k1 k2 hx
end Go.Proofs.YthfjnfcekeknlaaGreatDoor
