import Derived.Test.YthfjnfcekeknlaaGreatDoorSt03
import Derived.Test.YthfjnfcekeknlaaGreatDoorSt06
import Derived.Test.YthfjnfcekeknlaaGreatDoorSt07
import Derived.Deep.LoopGhost
import Derived.Deep.RegionHeld3
import Derived.Deep.RegionWith
set_option maxHeartbeats 8000000
set_option maxRecDepth 100000
namespace Go.Proofs.YthfjnfcekeknlaaGreatDoor
open Go.RowKit
structure fW (u:World) (lb sb so:Nat) (cs:Array Value) (Ty:TypeId) (D:List Ng) (no:Option Addr) (nc:Nat) (fr:Nat→Nat) (T:Nat→Za.U) (P:Nat→Prop):Prop where
 st:bt u sb so cs Ty D no nc
 ok:bR D fr
 to:Za.dw (aV D) fr T
 ar:aW u D P
 lt:u.heap.size≤lb
section
variable {u:World} {lb sb so:Nat} {cs:Array Value} {Ty:TypeId} {D:List Ng} {no:Option Addr} {nc:Nat} {fr:Nat→Nat} {T:Nat→Za.U} {P:Nat→Prop}
theorem fW.at (h:fW u lb sb so cs Ty D no nc fr T P) {w:World} (hb:Below u.heap.size u w):bt w sb so cs Ty D no nc:=h.st.below hb
theorem fW.node (h:fW u lb sb so cs Ty D no nc fr T P) {n:Nat} (hn:n<D.length):∃d,D[fr n]?=some d∧gf D.length d∧d∈D∧(d.k=1→T n= .v ([],fr n))∧(d.k≠1→∃k tx num,eQ d=some (k,tx,num)∧T n= .n k tx num (d.args.map T)):=by
 obtain⟨d,h1,h2,h3,h4,h5⟩:=G7 h.ok hn
 refine⟨d,h1,h2,h5,fun hk=>h.to.var (by rw[h3];exact h2.lab.2 hk),fun hk=> ?_⟩
 obtain⟨p,hp⟩:∃p,eQ d=some p:=by
  cases q:eQ d with
  | none=>exact absurd (h2.lab.1 q) hk
  | some p=>exact⟨p,rfl⟩
 obtain⟨k,tx,num⟩:=p
 refine⟨k,tx,num,hp,?_⟩
 rw[h.to.reads.front n,h.to.reads.node (fr n) k tx num (by rw[h3,hp]),h4]
theorem fW.pC (h:fW u lb sb so cs Ty D no nc fr T P) {n:Nat} (hn:n<D.length) {d:Ng} (hd:D[fr n]?=some d):(d.k=1↔Za.pC (T n)=true)∧(d.k=1→T n= .v ([],fr n)):=by
 obtain⟨d',h1,h2,h3,h4,h5⟩:=h.node hn
 rw[hd]at h1
 cases h1
 refine⟨⟨fun q=>by rw[h4 q];rfl,fun q=> ?_⟩,h4⟩
 by_cases hk:d.k=1
 ·exact hk
 ·obtain⟨k,tx,num,_,e⟩:=h5 hk
  rw[e]at q
  cases q
end
theorem lK (w:World) (lb sb so:Nat) (cs:Array Value) (Ty:TypeId) (D:List Ng) (no:Option Addr) (nc:Nat) (R:Nat→Prop) (S:List Int) (W:List Nat) (nb:Bool) (n m k:Nat) (d:Ng) (u:Za.U) (hs:bt w sb so cs Ty D no nc) (hop:Hop D n m k) (hd:D[m]?=some d) (hk:d.k=1→u= .v ([],m)) (hk':d.k≠1→Za.pC u=false) (h:cT w lb S W nb R) (hl:W.length≤100000000):
 Calls Tryz.prog 162 #[.pointer (some ⟨lb,0,none⟩),.pointer (some ⟨sb,so,none⟩),.int .i64 (n:Int)] w fun e w'=>e= .returned (.tuple #[])∧∃R',cT w' lb S ((Za.Wn.mk W nb).bI u).wt nb R'∧aj R R' w w':=by
 have HL:=hide (eo w sb so cs Ty D no nc n m k d hs hop hd)
 have HF:=hide (fun w' (hb:Below w.heap.size w w')=>dJ w' sb so cs Ty D no nc n m k (hs.below hb) hop)
 have H:=hide h
 clear hs hop hd h
 obtain⟨dk,val,tx,cnt,ao,cp,ar,nx,mrk⟩:=d
 dsimp only at HL hk hk'
 by_cases hk1:dk=1
 ·rw[hk hk1]
  subst hk1
  show Calls _ _ _ _ fun e w'=>e= .returned (.tuple #[])∧∃R',cT w' lb S (E5 W m) nb R'∧aj R R' w w'
  clear hk hk'
  go_enter Tryz.func162,Tryz.ntmps162
  go_wp2_with fail
  refine(ae HL).mono ?_
  rintro e w2 ⟨rfl,hb2⟩
  have aX:=hide hb2
  have z2:=hb2.size
  clear hb2
  go_wp2_with fail
  refine(ae HF _ ((ae aX).alloc z2 _)).mono ?_
  rintro e w3 ⟨rfl,rfl⟩
  unfold aI
  go_wp2_with fail
  refine(Hh _ lb S W nb R m ((ae H).below ((ae aX).alloc z2 _)) hl).mono ?_
  rintro e w6 ⟨rfl,R6,h6,fr6⟩
  have H6:=hide h6
  have PD:=hide fr6
  clear h6 fr6
  go_wp2_with fail
  go_end0
  exact⟨rfl,R6,ae H6,(aj.of_below ((ae aX).alloc z2 _)).trans (ae PD)⟩
 ·have t1:(dk == 1)=false:=by simpa using hk1
  have HE:=hide (show ((Za.Wn.mk W nb).bI u).wt=W by
   have:=hk' hk1
   cases u with
   | v x=>cases this
   | n k tx num ss=>rfl)
  rw[ae HE]
  clear hk1 hk hk'
  go_enter Tryz.func162,Tryz.ntmps162
  go_wp2_with fail
  refine(ae HL).mono ?_
  rintro e w2 ⟨rfl,hb2⟩
  have aX:=hide hb2
  have z2:=hb2.size
  clear hb2
  go_wp2_with fail
  go_end0
  exact⟨rfl,R,(ae H).below ((ae aX).alloc z2 _),aj.of_below ((ae aX).alloc z2 _)⟩
def Hl (lb:Nat) (S:List Int) (l:Za.Wn) (R:Nat→Prop) (w:World) (e:Ending) (w':World):Prop:=
 e= .returned (.tuple #[])∧∃R',cT w' lb S l.wt l.no R'∧aj R R' w w'
def Hm (s:Nat):Prop:=∀(u w:World) (lb sb so:Nat) (cs:Array Value) (Ty:TypeId) (D:List Ng) (no:Option Addr) (nc:Nat) (fr:Nat→Nat) (T:Nat→Za.U) (P R:Nat→Prop) (S:List Int) (a b:Nat) (l:Za.Wn),fW u lb sb so cs Ty D no nc fr T P→Below u.heap.size u w→cT w lb S l.wt l.no R→a<D.length→b<D.length→Za.size (T a)≤s→l.wt.length+2*Za.size (T a)≤100000000→
 Calls Tryz.prog 188 #[.pointer (some ⟨lb,0,none⟩),.pointer (some ⟨sb,so,none⟩),.int .i64 (a:Int),.int .i64 (b:Int)] w fun e w'=>Hl lb S (Za.cmpU (T a) (T b) l) R w e w'
theorem Kp (u w:World) (lb sb so:Nat) (cs:Array Value) (Ty:TypeId) (D:List Ng) (no:Option Addr) (nc:Nat) (fr:Nat→Nat) (T:Nat→Za.U) (P R:Nat→Prop) (S:List Int) (a b:Nat) (l:Za.Wn) (hG:fW u lb sb so cs Ty D no nc fr T P) (hu:Below u.heap.size u w) (h:cT w lb S l.wt l.no R) (ha:a<D.length) (hb:b<D.length) (he:fr a=fr b):
 Calls Tryz.prog 188 #[.pointer (some ⟨lb,0,none⟩),.pointer (some ⟨sb,so,none⟩),.int .i64 (a:Int),.int .i64 (b:Int)] w fun e w'=>Hl lb S (Za.cmpU (T a) (T b) l) R w e w':=by
 have hT:T a=T b:=by rw[hG.to.reads.front a,hG.to.reads.front b,he]
 rw[hT,Za.cmpU_self]
 obtain⟨ka,hka⟩:=hG.ok.hop a ha
 obtain⟨kb,hkb⟩:=hG.ok.hop b hb
 rw[←he]at hkb
 have FA:=hide (dJ w sb so cs Ty D no nc a (fr a) ka (hG.at hu) hka)
 have FB:=hide (dJ w sb so cs Ty D no nc b (fr a) kb (hG.at hu) hkb)
 have H:=hide h
 clear hG hu h ha hb hka hkb hT he
 generalize fr a=p at*
 go_enter Tryz.func188,Tryz.ntmps188
 go_wp2_with fail
 refine(ae FA).mono ?_
 rintro e w2 ⟨rfl,rfl⟩
 unfold aI at FB⊢
 go_wp2_with fail
 refine(ae FB).mono ?_
 rintro e w2 ⟨rfl,rfl⟩
 go_wp2_with fail
 go_end0
 exact⟨rfl,R,ae H,aj.of_below (Below.refl _ _)⟩
end Go.Proofs.YthfjnfcekeknlaaGreatDoor
namespace Go.Proofs.YthfjnfcekeknlaaGreatDoor
open Go.RowKit
theorem DV (u w:World) (lb sb so:Nat) (cs:Array Value) (Ty:TypeId) (D:List Ng) (no:Option Addr) (nc:Nat) (fr:Nat→Nat) (T:Nat→Za.U) (P R:Nat→Prop) (S:List Int) (a b:Nat) (l:Za.Wn) (hG:fW u lb sb so cs Ty D no nc fr T P) (hu:Below u.heap.size u w) (h:cT w lb S l.wt l.no R) (ha:a<D.length) (hb:b<D.length) (he:fr a≠fr b) (hl:l.wt.length+2*Za.size (T a)≤100000000) (da db:Ng) (gL:D[fr a]?=some da) (gM:D[fr b]?=some db) (hv:da.k=1∨db.k=1):
 Calls Tryz.prog 188 #[.pointer (some ⟨lb,0,none⟩),.pointer (some ⟨sb,so,none⟩),.int .i64 (a:Int),.int .i64 (b:Int)] w fun e w'=>Hl lb S (Za.cmpU (T a) (T b) l) R w e w':=by
 obtain⟨ka,hka⟩:=hG.ok.hop a ha
 obtain⟨kb,hkb⟩:=hG.ok.hop b hb
 obtain⟨ja,kY⟩:=hG.ok.qR ha
 obtain⟨jb,hjb⟩:=hG.ok.qR hb
 have va:=hG.pC ha gL
 have vb:=hG.pC hb gM
 have FA:=hide (fun W (hu:Below u.heap.size u W)=>dJ W sb so cs Ty D no nc a (fr a) ka (hG.at hu) hka)
 have FB:=hide (fun W (hu:Below u.heap.size u W)=>dJ W sb so cs Ty D no nc b (fr b) kb (hG.at hu) hkb)
 have LA:=hide (fun W (hu:Below u.heap.size u W)=>eo W sb so cs Ty D no nc (fr a) (fr a) ja da (hG.at hu) kY gL)
 have LB:=hide (fun W (hu:Below u.heap.size u W)=>eo W sb so cs Ty D no nc (fr b) (fr b) jb db (hG.at hu) hjb gM)
 have WA:=hide (fun W (k:Za.Wn) R (hu:Below u.heap.size u W) (h:cT W lb S k.wt k.no R) (hl:k.wt.length≤100000000)=>lK W lb sb so cs Ty D no nc R S k.wt k.no (fr a) (fr a) ja da (T a) (hG.at hu) kY gL va.2 (fun q=>Bool.eq_false_iff.2 fun r=>q (va.1.2 r)) h hl)
 have WB:=hide (fun W (k:Za.Wn) R (hu:Below u.heap.size u W) (h:cT W lb S k.wt k.no R) (hl:k.wt.length≤100000000)=>lK W lb sb so cs Ty D no nc R S k.wt k.no (fr b) (fr b) jb db (T b) (hG.at hu) hjb gM vb.2 (fun q=>Bool.eq_false_iff.2 fun r=>q (vb.1.2 r)) h hl)
 have hps:=Za.size_pos (T a)
 have hl0:l.wt.length+2≤100000000:=by omega
 have t0:(((fr a:Nat):Int) == ((fr b:Nat):Int))=false:=by simp;omega
 have HG:=hide hG
 have HU:=hide hu
 have H:=hide h
 have HS:=hide (show Za.cmpU (T a) (T b) l=(l.bI (T a)).bI (T b)from Za.J7 l (hv.imp va.1.1 vb.1.1) (fun x q r=>he (by
  have k1:=va.1.2 (by rw[q];rfl)
  have k2:=vb.1.2 (by rw[r];rfl)
  have e1:=va.2 k1
  have e2:=vb.2 k2
  rw[q]at e1
  rw[r]at e2
  rw[e1]at e2
  injection e2 with e2
  injection e2)))
 obtain⟨kd,vd,xd,cd,od,pd,gd,nd,md⟩:=da
 obtain⟨kd',vd',xd',cd',od',pd',gd',nd',md'⟩:=db
 dsimp only at LA LB hv
 clear hG hu h ha hb he hl gL gM hka hkb kY hjb va vb hps
 generalize fr a=p at*
 generalize fr b=q at*
 by_cases k1:kd=1
 ·subst k1
  clear hv
  go_enter Tryz.func188,Tryz.ntmps188
  go_wp2_with fail
  refine(ae FA _ (ae HU)).mono ?_
  rintro e w2 ⟨rfl,rfl⟩
  unfold aI
  go_wp2_with fail
  refine(ae FB _ (ae HU)).mono ?_
  rintro e w2 ⟨rfl,rfl⟩
  unfold aI
  go_wp2_with fail
  refine(ae LA _ (ae HU)).mono ?_
  rintro e w3 ⟨rfl,hb3⟩
  have bH:=hide hb3
  have qB:=hide ((ae HU).trans (hb3.mono (ae HU).size))
  clear hb3
  go_wp2_with fail
  refine(ae LB _ ((ae qB).alloc (Nat.le_trans (ae HU).size (ae bH).size) _)).mono ?_
  rintro e w4 ⟨rfl,hb4⟩
  have f0:=(hb4.cell (p:=⟨w3.heap.size,0,none⟩) (by simp)).trans (ag (heap_alloc_new w3 _) 0)
  have f1:=(hb4.cell (p:=⟨w3.heap.size,1,none⟩) (by simp)).trans (ag (heap_alloc_new w3 _) 1)
  have f2:=(hb4.cell (p:=⟨w3.heap.size,2,none⟩) (by simp)).trans (ag (heap_alloc_new w3 _) 2)
  have f3:=(hb4.cell (p:=⟨w3.heap.size,3,none⟩) (by simp)).trans (ag (heap_alloc_new w3 _) 3)
  simp only[List.getElem?_toArray,List.getElem?_cons_zero,List.getElem?_cons_succ]at f0 f1 f2 f3
  have z3:=(ae bH).size
  have z4:=hb4.size
  rw[World.size_alloc]at z4
  have z5:w3.heap.size<w4.heap.size:=by omega
  have cR:=hide ((((ae bH).alloc (ae bH).size _).trans (hb4.mono (by rw[World.size_alloc];omega))))
  clear hb4
  go_wp2_with fail
  have HR:=hide (ae H).rows
  have d0:=ag (heap_alloc_new w4 (.cells #[.int .i64 kd',.int .i64 vd',.string xd',.int .i64 (cd':Int)] 177)) 0
  have d1:=ag (heap_alloc_new w4 (.cells #[.int .i64 kd',.int .i64 vd',.string xd',.int .i64 (cd':Int)] 177)) 1
  have d2:=ag (heap_alloc_new w4 (.cells #[.int .i64 kd',.int .i64 vd',.string xd',.int .i64 (cd':Int)] 177)) 2
  have d3:=ag (heap_alloc_new w4 (.cells #[.int .i64 kd',.int .i64 vd',.string xd',.int .i64 (cd':Int)] 177)) 3
  simp only[List.getElem?_toArray,List.getElem?_cons_zero,List.getElem?_cons_succ]at d0 d1 d2 d3
  have bS:=hide ((ae cR).alloc (by omega) (.cells #[.int .i64 kd',.int .i64 vd',.string xd',.int .i64 (cd':Int)] 177))
  have rG:=hide ((ae HU).trans ((ae bS).mono (ae HU).size))
  refine(ae WA _ l R (ae rG) ((ae H).below (ae bS)) (by omega)).mono ?_
  rintro e w6 ⟨rfl,R6,h6,fr6⟩
  have rH:=hide (((ae H).below (ae bS)).under fr6 (ae rG) (ae HG).lt)
  have sG:=hide ((aj.of_below (ae bS)).trans fr6)
  have H6:=hide h6
  have z6:=fr6.size
  rw[World.size_alloc]at z6
  have r3:¬R w3.heap.size:=fun q=>by have:=(ae HR _ q).2;omega
  have r4:¬R w4.heap.size:=fun q=>by have:=(ae HR _ q).2;omega
  have g0:=(fr6.cell (p:=⟨w3.heap.size,0,none⟩) (by rw[World.size_alloc];dsimp only;omega) r3).trans ((World.cell?_alloc_past _ _ _ z5).trans f0)
  have g1:=(fr6.cell (p:=⟨w3.heap.size,1,none⟩) (by rw[World.size_alloc];dsimp only;omega) r3).trans ((World.cell?_alloc_past _ _ _ z5).trans f1)
  have g2:=(fr6.cell (p:=⟨w3.heap.size,2,none⟩) (by rw[World.size_alloc];dsimp only;omega) r3).trans ((World.cell?_alloc_past _ _ _ z5).trans f2)
  have g3:=(fr6.cell (p:=⟨w3.heap.size,3,none⟩) (by rw[World.size_alloc];dsimp only;omega) r3).trans ((World.cell?_alloc_past _ _ _ z5).trans f3)
  have k0:=(fr6.cell (p:=⟨w4.heap.size,0,none⟩) (by rw[World.size_alloc];dsimp only;omega) r4).trans d0
  have k1:=(fr6.cell (p:=⟨w4.heap.size,1,none⟩) (by rw[World.size_alloc];dsimp only;omega) r4).trans d1
  have k2:=(fr6.cell (p:=⟨w4.heap.size,2,none⟩) (by rw[World.size_alloc];dsimp only;omega) r4).trans d2
  have k3:=(fr6.cell (p:=⟨w4.heap.size,3,none⟩) (by rw[World.size_alloc];dsimp only;omega) r4).trans d3
  have iy:=hide (fr6.not (k:=w3.heap.size) (by rw[World.size_alloc];omega) r3)
  have iW:=hide (fr6.not (k:=w4.heap.size) (by rw[World.size_alloc];omega) r4)
  clear h6 fr6 f0 f1 f2 f3 d0 d1 d2 d3 r3 r4
  have z63:w3.heap.size<w6.heap.size:=by omega
  have z64:w4.heap.size<w6.heap.size:=by omega
  go_wp2_with fail
  refine(ae WB _ (l.bI (T a)) R6 (ae rH) (by rw[Za.Wn.iq];exact ae H6) (by have:=l.jA (T a);omega)).mono ?_
  rintro e w7 ⟨rfl,R7,h7,fr7⟩
  have h7:cT w7 lb S ((l.bI (T a)).bI (T b)).wt (l.bI (T a)).no R7:=h7
  rw[show (l.bI (T a)).no=l.no from Za.Wn.iq _ _]at h7
  have Hn:=hide ((ae H6).under fr7 (ae rH) (ae HG).lt)
  have sH:=hide ((ae sG).trans fr7)
  have H7:=hide (show cT w7 lb S ((l.bI (T a)).bI (T b)).wt l.no R7 from h7)
  have z7:=fr7.size
  have f0:=(fr7.cell (p:=⟨w3.heap.size,0,none⟩) z63 (ae iy)).trans g0
  have f1:=(fr7.cell (p:=⟨w3.heap.size,1,none⟩) z63 (ae iy)).trans g1
  have f2:=(fr7.cell (p:=⟨w3.heap.size,2,none⟩) z63 (ae iy)).trans g2
  have f3:=(fr7.cell (p:=⟨w3.heap.size,3,none⟩) z63 (ae iy)).trans g3
  have d0:=(fr7.cell (p:=⟨w4.heap.size,0,none⟩) z64 (ae iW)).trans k0
  have d1:=(fr7.cell (p:=⟨w4.heap.size,1,none⟩) z64 (ae iW)).trans k1
  have d2:=(fr7.cell (p:=⟨w4.heap.size,2,none⟩) z64 (ae iW)).trans k2
  have d3:=(fr7.cell (p:=⟨w4.heap.size,3,none⟩) z64 (ae iW)).trans k3
  have z73:w3.heap.size<w7.heap.size:=by omega
  have z74:w4.heap.size<w7.heap.size:=by omega
  clear h7 fr7 g0 g1 g2 g3 k0 k1 k2 k3 iy iW HR
  go_wp2_with fail
  go_end0
  rw[ae HS]
  exact⟨rfl,R7,by rw[Za.Wn.iq,Za.Wn.iq];exact ae H7,ae sH⟩
 ·have k2:kd'=1:=hv.resolve_left k1
  subst k2
  have t1:(kd == 1)=false:=by simpa using k1
  clear hv k1
  go_enter Tryz.func188,Tryz.ntmps188
  go_wp2_with fail
  refine(ae FA _ (ae HU)).mono ?_
  rintro e w2 ⟨rfl,rfl⟩
  unfold aI
  go_wp2_with fail
  refine(ae FB _ (ae HU)).mono ?_
  rintro e w2 ⟨rfl,rfl⟩
  unfold aI
  go_wp2_with fail
  refine(ae LA _ (ae HU)).mono ?_
  rintro e w3 ⟨rfl,hb3⟩
  have bH:=hide hb3
  have qB:=hide ((ae HU).trans (hb3.mono (ae HU).size))
  clear hb3
  go_wp2_with fail
  refine(ae LB _ ((ae qB).alloc (Nat.le_trans (ae HU).size (ae bH).size) _)).mono ?_
  rintro e w4 ⟨rfl,hb4⟩
  have f0:=(hb4.cell (p:=⟨w3.heap.size,0,none⟩) (by simp)).trans (ag (heap_alloc_new w3 _) 0)
  have f1:=(hb4.cell (p:=⟨w3.heap.size,1,none⟩) (by simp)).trans (ag (heap_alloc_new w3 _) 1)
  have f2:=(hb4.cell (p:=⟨w3.heap.size,2,none⟩) (by simp)).trans (ag (heap_alloc_new w3 _) 2)
  have f3:=(hb4.cell (p:=⟨w3.heap.size,3,none⟩) (by simp)).trans (ag (heap_alloc_new w3 _) 3)
  simp only[List.getElem?_toArray,List.getElem?_cons_zero,List.getElem?_cons_succ]at f0 f1 f2 f3
  have z3:=(ae bH).size
  have z4:=hb4.size
  rw[World.size_alloc]at z4
  have z5:w3.heap.size<w4.heap.size:=by omega
  have cR:=hide ((((ae bH).alloc (ae bH).size _).trans (hb4.mono (by rw[World.size_alloc];omega))))
  clear hb4
  go_wp2_with fail
  have HR:=hide (ae H).rows
  have d0:=ag (heap_alloc_new w4 (.cells #[.int .i64 1,.int .i64 vd',.string xd',.int .i64 (cd':Int)] 177)) 0
  have d1:=ag (heap_alloc_new w4 (.cells #[.int .i64 1,.int .i64 vd',.string xd',.int .i64 (cd':Int)] 177)) 1
  have d2:=ag (heap_alloc_new w4 (.cells #[.int .i64 1,.int .i64 vd',.string xd',.int .i64 (cd':Int)] 177)) 2
  have d3:=ag (heap_alloc_new w4 (.cells #[.int .i64 1,.int .i64 vd',.string xd',.int .i64 (cd':Int)] 177)) 3
  simp only[List.getElem?_toArray,List.getElem?_cons_zero,List.getElem?_cons_succ]at d0 d1 d2 d3
  have bS:=hide ((ae cR).alloc (by omega) (.cells #[.int .i64 1,.int .i64 vd',.string xd',.int .i64 (cd':Int)] 177))
  have rG:=hide ((ae HU).trans ((ae bS).mono (ae HU).size))
  refine(ae WA _ l R (ae rG) ((ae H).below (ae bS)) (by omega)).mono ?_
  rintro e w6 ⟨rfl,R6,h6,fr6⟩
  have rH:=hide (((ae H).below (ae bS)).under fr6 (ae rG) (ae HG).lt)
  have sG:=hide ((aj.of_below (ae bS)).trans fr6)
  have H6:=hide h6
  have z6:=fr6.size
  rw[World.size_alloc]at z6
  have r3:¬R w3.heap.size:=fun q=>by have:=(ae HR _ q).2;omega
  have r4:¬R w4.heap.size:=fun q=>by have:=(ae HR _ q).2;omega
  have g0:=(fr6.cell (p:=⟨w3.heap.size,0,none⟩) (by rw[World.size_alloc];dsimp only;omega) r3).trans ((World.cell?_alloc_past _ _ _ z5).trans f0)
  have g1:=(fr6.cell (p:=⟨w3.heap.size,1,none⟩) (by rw[World.size_alloc];dsimp only;omega) r3).trans ((World.cell?_alloc_past _ _ _ z5).trans f1)
  have g2:=(fr6.cell (p:=⟨w3.heap.size,2,none⟩) (by rw[World.size_alloc];dsimp only;omega) r3).trans ((World.cell?_alloc_past _ _ _ z5).trans f2)
  have g3:=(fr6.cell (p:=⟨w3.heap.size,3,none⟩) (by rw[World.size_alloc];dsimp only;omega) r3).trans ((World.cell?_alloc_past _ _ _ z5).trans f3)
  have k0:=(fr6.cell (p:=⟨w4.heap.size,0,none⟩) (by rw[World.size_alloc];dsimp only;omega) r4).trans d0
  have k1:=(fr6.cell (p:=⟨w4.heap.size,1,none⟩) (by rw[World.size_alloc];dsimp only;omega) r4).trans d1
  have k2:=(fr6.cell (p:=⟨w4.heap.size,2,none⟩) (by rw[World.size_alloc];dsimp only;omega) r4).trans d2
  have k3:=(fr6.cell (p:=⟨w4.heap.size,3,none⟩) (by rw[World.size_alloc];dsimp only;omega) r4).trans d3
  have iy:=hide (fr6.not (k:=w3.heap.size) (by rw[World.size_alloc];omega) r3)
  have iW:=hide (fr6.not (k:=w4.heap.size) (by rw[World.size_alloc];omega) r4)
  clear h6 fr6 f0 f1 f2 f3 d0 d1 d2 d3 r3 r4
  have z63:w3.heap.size<w6.heap.size:=by omega
  have z64:w4.heap.size<w6.heap.size:=by omega
  go_wp2_with fail
  refine(ae WB _ (l.bI (T a)) R6 (ae rH) (by rw[Za.Wn.iq];exact ae H6) (by have:=l.jA (T a);omega)).mono ?_
  rintro e w7 ⟨rfl,R7,h7,fr7⟩
  have h7:cT w7 lb S ((l.bI (T a)).bI (T b)).wt (l.bI (T a)).no R7:=h7
  rw[show (l.bI (T a)).no=l.no from Za.Wn.iq _ _]at h7
  have Hn:=hide ((ae H6).under fr7 (ae rH) (ae HG).lt)
  have sH:=hide ((ae sG).trans fr7)
  have H7:=hide (show cT w7 lb S ((l.bI (T a)).bI (T b)).wt l.no R7 from h7)
  have z7:=fr7.size
  have f0:=(fr7.cell (p:=⟨w3.heap.size,0,none⟩) z63 (ae iy)).trans g0
  have f1:=(fr7.cell (p:=⟨w3.heap.size,1,none⟩) z63 (ae iy)).trans g1
  have f2:=(fr7.cell (p:=⟨w3.heap.size,2,none⟩) z63 (ae iy)).trans g2
  have f3:=(fr7.cell (p:=⟨w3.heap.size,3,none⟩) z63 (ae iy)).trans g3
  have d0:=(fr7.cell (p:=⟨w4.heap.size,0,none⟩) z64 (ae iW)).trans k0
  have d1:=(fr7.cell (p:=⟨w4.heap.size,1,none⟩) z64 (ae iW)).trans k1
  have d2:=(fr7.cell (p:=⟨w4.heap.size,2,none⟩) z64 (ae iW)).trans k2
  have d3:=(fr7.cell (p:=⟨w4.heap.size,3,none⟩) z64 (ae iW)).trans k3
  have z73:w3.heap.size<w7.heap.size:=by omega
  have z74:w4.heap.size<w7.heap.size:=by omega
  clear h7 fr7 g0 g1 g2 g3 k0 k1 k2 k3 iy iW HR
  go_wp2_with fail
  go_end0
  rw[ae HS]
  exact⟨rfl,R7,by rw[Za.Wn.iq,Za.Wn.iq];exact ae H7,ae sH⟩
theorem Ol (u w:World) (lb sb so:Nat) (cs:Array Value) (Ty:TypeId) (D:List Ng) (no:Option Addr) (nc:Nat) (fr:Nat→Nat) (T:Nat→Za.U) (P R:Nat→Prop) (S:List Int) (a b:Nat) (l:Za.Wn) (hG:fW u lb sb so cs Ty D no nc fr T P) (hu:Below u.heap.size u w) (h:cT w lb S l.wt l.no R) (ha:a<D.length) (hb:b<D.length) (he:fr a≠fr b) (hl:l.wt.length+2*Za.size (T a)≤100000000) (da db:Ng) (gL:D[fr a]?=some da) (gM:D[fr b]?=some db) (k1:da.k≠1) (k2:db.k≠1) (hx:¬(da.k=db.k∧da.val=db.val∧da.tx=db.tx∧da.cnt=db.cnt)):
 Calls Tryz.prog 188 #[.pointer (some ⟨lb,0,none⟩),.pointer (some ⟨sb,so,none⟩),.int .i64 (a:Int),.int .i64 (b:Int)] w fun e w'=>Hl lb S (Za.cmpU (T a) (T b) l) R w e w':=by
 obtain⟨ka,hka⟩:=hG.ok.hop a ha
 obtain⟨kb,hkb⟩:=hG.ok.hop b hb
 obtain⟨ja,kY⟩:=hG.ok.qR ha
 obtain⟨jb,hjb⟩:=hG.ok.qR hb
 have va:=hG.pC ha gL
 have vb:=hG.pC hb gM
 have FA:=hide (fun W (hu:Below u.heap.size u W)=>dJ W sb so cs Ty D no nc a (fr a) ka (hG.at hu) hka)
 have FB:=hide (fun W (hu:Below u.heap.size u W)=>dJ W sb so cs Ty D no nc b (fr b) kb (hG.at hu) hkb)
 have LA:=hide (fun W (hu:Below u.heap.size u W)=>eo W sb so cs Ty D no nc (fr a) (fr a) ja da (hG.at hu) kY gL)
 have LB:=hide (fun W (hu:Below u.heap.size u W)=>eo W sb so cs Ty D no nc (fr b) (fr b) jb db (hG.at hu) hjb gM)
 have WA:=hide (fun W (k:Za.Wn) R (hu:Below u.heap.size u W) (h:cT W lb S k.wt k.no R) (hl:k.wt.length≤100000000)=>lK W lb sb so cs Ty D no nc R S k.wt k.no (fr a) (fr a) ja da (T a) (hG.at hu) kY gL va.2 (fun q=>Bool.eq_false_iff.2 fun r=>q (va.1.2 r)) h hl)
 have WB:=hide (fun W (k:Za.Wn) R (hu:Below u.heap.size u W) (h:cT W lb S k.wt k.no R) (hl:k.wt.length≤100000000)=>lK W lb sb so cs Ty D no nc R S k.wt k.no (fr b) (fr b) jb db (T b) (hG.at hu) hjb gM vb.2 (fun q=>Bool.eq_false_iff.2 fun r=>q (vb.1.2 r)) h hl)
 have hps:=Za.size_pos (T a)
 have hl0:l.wt.length+2≤100000000:=by omega
 have t0:(((fr a:Nat):Int) == ((fr b:Nat):Int))=false:=by simp;omega
 have HG:=hide hG
 have HU:=hide hu
 have H:=hide h
 obtain⟨_,e1,oa,ma,_,na⟩:=hG.node ha
 rw[gL]at e1
 cases e1
 obtain⟨_,e2,ob,mb,_,nb⟩:=hG.node hb
 rw[gM]at e2
 cases e2
 obtain⟨ua,xa,ia,la,ea⟩:=na k1
 obtain⟨ub,xb,ib,lb',eb⟩:=nb k2
 have rI:=hide (show ((l.bI (T a)).bI (T b)).wt=l.wt by rw[ea,eb];rfl)
 have HS:=hide (show Za.cmpU (T a) (T b) l=l.bad by
  rw[ea,eb]
  refine Za.J9 l fun q=>hx ((tZ oa ob k1 k2).1 ⟨?_,?_⟩)
  ·rw[la,lb',q.1,q.2.1,q.2.2.1]
  ·have:=q.2.2.2;rw[List.length_map,List.length_map]at this;exact this)
 have TH:=hide hx
 have t1:(da.k == 1)=false:=by simpa using k1
 have t2:(db.k == 1)=false:=by simpa using k2
 obtain⟨kd,vd,xd,cd,od,pd,gd,nd,md⟩:=da
 obtain⟨kd',vd',xd',cd',od',pd',gd',nd',md'⟩:=db
 dsimp only at LA LB t1 t2 TH
 clear hG hu h ha hb he hl gL gM hka hkb kY hjb va vb hps oa ob ma mb na nb la lb' ea eb k1 k2 hx
 generalize fr a=p at*
 generalize fr b=q at*
 go_enter Tryz.func188,Tryz.ntmps188
 go_wp2_with fail
 refine(ae FA _ (ae HU)).mono ?_
 rintro e w2 ⟨rfl,rfl⟩
 unfold aI
 go_wp2_with fail
 refine(ae FB _ (ae HU)).mono ?_
 rintro e w2 ⟨rfl,rfl⟩
 unfold aI
 go_wp2_with fail
 refine(ae LA _ (ae HU)).mono ?_
 rintro e w3 ⟨rfl,hb3⟩
 have bH:=hide hb3
 have qB:=hide ((ae HU).trans (hb3.mono (ae HU).size))
 clear hb3
 go_wp2_with fail
 refine(ae LB _ ((ae qB).alloc (Nat.le_trans (ae HU).size (ae bH).size) _)).mono ?_
 rintro e w4 ⟨rfl,hb4⟩
 have f0:=(hb4.cell (p:=⟨w3.heap.size,0,none⟩) (by simp)).trans (ag (heap_alloc_new w3 _) 0)
 have f1:=(hb4.cell (p:=⟨w3.heap.size,1,none⟩) (by simp)).trans (ag (heap_alloc_new w3 _) 1)
 have f2:=(hb4.cell (p:=⟨w3.heap.size,2,none⟩) (by simp)).trans (ag (heap_alloc_new w3 _) 2)
 have f3:=(hb4.cell (p:=⟨w3.heap.size,3,none⟩) (by simp)).trans (ag (heap_alloc_new w3 _) 3)
 simp only[List.getElem?_toArray,List.getElem?_cons_zero,List.getElem?_cons_succ]at f0 f1 f2 f3
 have z3:=(ae bH).size
 have z4:=hb4.size
 rw[World.size_alloc]at z4
 have z5:w3.heap.size<w4.heap.size:=by omega
 have cR:=hide ((((ae bH).alloc (ae bH).size _).trans (hb4.mono (by rw[World.size_alloc];omega))))
 clear hb4
 go_wp2_with fail
 have HR:=hide (ae H).rows
 have d0:=ag (heap_alloc_new w4 (.cells #[.int .i64 kd',.int .i64 vd',.string xd',.int .i64 (cd':Int)] 177)) 0
 have d1:=ag (heap_alloc_new w4 (.cells #[.int .i64 kd',.int .i64 vd',.string xd',.int .i64 (cd':Int)] 177)) 1
 have d2:=ag (heap_alloc_new w4 (.cells #[.int .i64 kd',.int .i64 vd',.string xd',.int .i64 (cd':Int)] 177)) 2
 have d3:=ag (heap_alloc_new w4 (.cells #[.int .i64 kd',.int .i64 vd',.string xd',.int .i64 (cd':Int)] 177)) 3
 simp only[List.getElem?_toArray,List.getElem?_cons_zero,List.getElem?_cons_succ]at d0 d1 d2 d3
 have bS:=hide ((ae cR).alloc (by omega) (.cells #[.int .i64 kd',.int .i64 vd',.string xd',.int .i64 (cd':Int)] 177))
 have rG:=hide ((ae HU).trans ((ae bS).mono (ae HU).size))
 refine(ae WA _ l R (ae rG) ((ae H).below (ae bS)) (by omega)).mono ?_
 rintro e w6 ⟨rfl,R6,h6,fr6⟩
 have rH:=hide (((ae H).below (ae bS)).under fr6 (ae rG) (ae HG).lt)
 have sG:=hide ((aj.of_below (ae bS)).trans fr6)
 have H6:=hide h6
 have z6:=fr6.size
 rw[World.size_alloc]at z6
 have r3:¬R w3.heap.size:=fun q=>by have:=(ae HR _ q).2;omega
 have r4:¬R w4.heap.size:=fun q=>by have:=(ae HR _ q).2;omega
 have g0:=(fr6.cell (p:=⟨w3.heap.size,0,none⟩) (by rw[World.size_alloc];dsimp only;omega) r3).trans ((World.cell?_alloc_past _ _ _ z5).trans f0)
 have g1:=(fr6.cell (p:=⟨w3.heap.size,1,none⟩) (by rw[World.size_alloc];dsimp only;omega) r3).trans ((World.cell?_alloc_past _ _ _ z5).trans f1)
 have g2:=(fr6.cell (p:=⟨w3.heap.size,2,none⟩) (by rw[World.size_alloc];dsimp only;omega) r3).trans ((World.cell?_alloc_past _ _ _ z5).trans f2)
 have g3:=(fr6.cell (p:=⟨w3.heap.size,3,none⟩) (by rw[World.size_alloc];dsimp only;omega) r3).trans ((World.cell?_alloc_past _ _ _ z5).trans f3)
 have k0:=(fr6.cell (p:=⟨w4.heap.size,0,none⟩) (by rw[World.size_alloc];dsimp only;omega) r4).trans d0
 have k1:=(fr6.cell (p:=⟨w4.heap.size,1,none⟩) (by rw[World.size_alloc];dsimp only;omega) r4).trans d1
 have k2:=(fr6.cell (p:=⟨w4.heap.size,2,none⟩) (by rw[World.size_alloc];dsimp only;omega) r4).trans d2
 have k3:=(fr6.cell (p:=⟨w4.heap.size,3,none⟩) (by rw[World.size_alloc];dsimp only;omega) r4).trans d3
 have iy:=hide (fr6.not (k:=w3.heap.size) (by rw[World.size_alloc];omega) r3)
 have iW:=hide (fr6.not (k:=w4.heap.size) (by rw[World.size_alloc];omega) r4)
 clear h6 fr6 f0 f1 f2 f3 d0 d1 d2 d3 r3 r4
 have z63:w3.heap.size<w6.heap.size:=by omega
 have z64:w4.heap.size<w6.heap.size:=by omega
 go_wp2_with fail
 refine(ae WB _ (l.bI (T a)) R6 (ae rH) (by rw[Za.Wn.iq];exact ae H6) (by have:=l.jA (T a);omega)).mono ?_
 rintro e w7 ⟨rfl,R7,h7,fr7⟩
 have h7:cT w7 lb S ((l.bI (T a)).bI (T b)).wt (l.bI (T a)).no R7:=h7
 rw[show (l.bI (T a)).no=l.no from Za.Wn.iq _ _]at h7
 have Hn:=hide ((ae H6).under fr7 (ae rH) (ae HG).lt)
 have sH:=hide ((ae sG).trans fr7)
 have H7:=hide (show cT w7 lb S ((l.bI (T a)).bI (T b)).wt l.no R7 from h7)
 have z7:=fr7.size
 have f0:=(fr7.cell (p:=⟨w3.heap.size,0,none⟩) z63 (ae iy)).trans g0
 have f1:=(fr7.cell (p:=⟨w3.heap.size,1,none⟩) z63 (ae iy)).trans g1
 have f2:=(fr7.cell (p:=⟨w3.heap.size,2,none⟩) z63 (ae iy)).trans g2
 have f3:=(fr7.cell (p:=⟨w3.heap.size,3,none⟩) z63 (ae iy)).trans g3
 have d0:=(fr7.cell (p:=⟨w4.heap.size,0,none⟩) z64 (ae iW)).trans k0
 have d1:=(fr7.cell (p:=⟨w4.heap.size,1,none⟩) z64 (ae iW)).trans k1
 have d2:=(fr7.cell (p:=⟨w4.heap.size,2,none⟩) z64 (ae iW)).trans k2
 have d3:=(fr7.cell (p:=⟨w4.heap.size,3,none⟩) z64 (ae iW)).trans k3
 have z73:w3.heap.size<w7.heap.size:=by omega
 have z74:w4.heap.size<w7.heap.size:=by omega
 clear h7 fr7 g0 g1 g2 g3 k0 k1 k2 k3 iy iW HR
 rw[ae rI]at H7
 obtain⟨so',sc,wo,wc,hlo,rfl⟩:=(ae H7)
 have s2:=ag hlo.blk 2
 have sf:=aq hlo.blk 2
 have sz:=af hlo.blk
 simp only[List.getElem?_toArray,List.getElem?_cons_zero,List.getElem?_cons_succ]at s2
 have qC:=hide hlo
 clear hlo rI
 go_wp2_with fail
 all_goals first
  | (exfalso;exact ae TH ⟨by assumption,by assumption,toList_inj (by assumption),by omega⟩)
  | (go_end0;rw[ae HS];exact⟨rfl,_,⟨so',sc,wo,wc,(ae qC).bad.1,rfl⟩,(ae sH).trans (ae qC).bad.2⟩)
def TI (lb:Nat) (S:List Int) (T:Nat→Za.U) (ga gb:List Nat) (l:Za.Wn) (R:Nat→Prop) (w:World) (k:Nat) (iv:Value) (wr:World):Prop:=
 ∃(j:Nat) (R':Nat→Prop),k+j=ga.length∧iv= .int .i64 (j:Int)∧cT wr lb S (Za.cmpUL ((ga.map T).take j) ((gb.map T).take j) l).wt (Za.cmpUL ((ga.map T).take j) ((gb.map T).take j) l).no R'∧aj R R' w wr
theorem aW.at {w:World} {D:List Ng} {P:Nat→Prop} (h:aW w D P) {d:Ng} (hd:d∈D) (hn:d.args≠[]):∃g,d.ao=some ⟨g,0,none⟩∧g<w.heap.size∧∀i (hi:i<d.args.length),w.cell? ⟨g,i,none⟩=some (.int .i64 (d.args[i]:Int)):=by
 obtain⟨g,cs,h1,_,h3,h4⟩:=h d hd hn
 refine⟨g,h1,af h3,fun i hi=> ?_⟩
 rw[ag h3,←Array.getElem?_toList,←List.getElem?_take_of_lt hi,h4,List.getElem?_map,List.getElem?_eq_getElem hi]
 rfl
theorem Kq {s:Nat} (IH:Hm s) (u w:World) (lb sb so:Nat) (cs:Array Value) (Ty:TypeId) (D:List Ng) (no:Option Addr) (nc:Nat) (fr:Nat→Nat) (T:Nat→Za.U) (P R:Nat→Prop) (S:List Int) (a b:Nat) (l:Za.Wn) (hG:fW u lb sb so cs Ty D no nc fr T P) (hu:Below u.heap.size u w) (h:cT w lb S l.wt l.no R) (ha:a<D.length) (hb:b<D.length) (he:fr a≠fr b) (hl:l.wt.length+2*Za.size (T a)≤100000000) (da db:Ng) (gL:D[fr a]?=some da) (gM:D[fr b]?=some db) (hsz:Za.size (T a)≤s+1) (k1:da.k≠1) (k2:db.k≠1) (hx:da.k=db.k∧da.val=db.val∧da.tx=db.tx∧da.cnt=db.cnt):
 Calls Tryz.prog 188 #[.pointer (some ⟨lb,0,none⟩),.pointer (some ⟨sb,so,none⟩),.int .i64 (a:Int),.int .i64 (b:Int)] w fun e w'=>Hl lb S (Za.cmpU (T a) (T b) l) R w e w':=by
 obtain⟨ka,hka⟩:=hG.ok.hop a ha
 obtain⟨kb,hkb⟩:=hG.ok.hop b hb
 obtain⟨ja,kY⟩:=hG.ok.qR ha
 obtain⟨jb,hjb⟩:=hG.ok.qR hb
 have va:=hG.pC ha gL
 have vb:=hG.pC hb gM
 have FA:=hide (fun W (hu:Below u.heap.size u W)=>dJ W sb so cs Ty D no nc a (fr a) ka (hG.at hu) hka)
 have FB:=hide (fun W (hu:Below u.heap.size u W)=>dJ W sb so cs Ty D no nc b (fr b) kb (hG.at hu) hkb)
 have LA:=hide (fun W (hu:Below u.heap.size u W)=>eo W sb so cs Ty D no nc (fr a) (fr a) ja da (hG.at hu) kY gL)
 have LB:=hide (fun W (hu:Below u.heap.size u W)=>eo W sb so cs Ty D no nc (fr b) (fr b) jb db (hG.at hu) hjb gM)
 have WA:=hide (fun W (k:Za.Wn) R (hu:Below u.heap.size u W) (h:cT W lb S k.wt k.no R) (hl:k.wt.length≤100000000)=>lK W lb sb so cs Ty D no nc R S k.wt k.no (fr a) (fr a) ja da (T a) (hG.at hu) kY gL va.2 (fun q=>Bool.eq_false_iff.2 fun r=>q (va.1.2 r)) h hl)
 have WB:=hide (fun W (k:Za.Wn) R (hu:Below u.heap.size u W) (h:cT W lb S k.wt k.no R) (hl:k.wt.length≤100000000)=>lK W lb sb so cs Ty D no nc R S k.wt k.no (fr b) (fr b) jb db (T b) (hG.at hu) hjb gM vb.2 (fun q=>Bool.eq_false_iff.2 fun r=>q (vb.1.2 r)) h hl)
 have hps:=Za.size_pos (T a)
 have hl0:l.wt.length+2≤100000000:=by omega
 have t0:(((fr a:Nat):Int) == ((fr b:Nat):Int))=false:=by simp;omega
 have HG:=hide hG
 have HU:=hide hu
 have H:=hide h
 obtain⟨_,e1,oa,ma,_,na⟩:=hG.node ha
 rw[gL]at e1
 cases e1
 obtain⟨_,e2,ob,mb,_,nb⟩:=hG.node hb
 rw[gM]at e2
 cases e2
 obtain⟨ua,xa,ia,la,ea⟩:=na k1
 obtain⟨ub,xb,ib,lb',eb⟩:=nb k2
 have rI:=hide (show ((l.bI (T a)).bI (T b)).wt=l.wt by rw[ea,eb];rfl)
 obtain⟨le,ll⟩:=(tZ oa ob k1 k2).2 hx
 have HS:=hide (show Za.cmpU (T a) (T b) l=Za.cmpUL (da.args.map T) (db.args.map T) l by
  rw[la,lb']at le
  injection le with le
  injection le with u1 le
  injection le with u2 u3
  subst u1 u2 u3
  rw[ea,eb]
  exact Za.GH l (by rw[List.length_map,List.length_map];exact ll))
 have qc:Za.size (T a)=1+Za.sizeL (da.args.map T):=by rw[ea,Za.size];try omega
 have AA:=hide (fun W (hu:Below u.heap.size u W)=>lJ W sb so cs Ty D no nc (fr a) (fr a) ja da (hG.at hu) kY gL)
 have AB:=hide (fun W (hu:Below u.heap.size u W)=>lJ W sb so cs Ty D no nc (fr b) (fr b) jb db (hG.at hu) hjb gM)
 have CA:=hide (fun q=>hG.ar.at ma q)
 have CB:=hide (fun q=>hG.ar.at mb q)
 have IA:=hide oa.inn
 have IB:=hide ob.inn
 have h3:da.args.length≤3:=oa.few
 have H3:=hide h3
 have t1:(da.k == 1)=false:=by simpa using k1
 have t2:(db.k == 1)=false:=by simpa using k2
 have HX:=hide hx
 obtain⟨kd,vd,xd,cd,od,pd,gd,nd,md⟩:=da
 obtain⟨kd',vd',xd',cd',od',pd',gd',nd',md'⟩:=db
 dsimp only at LA LB t1 t2 hx AA AB CA CB IA IB HS ll qc H3
 obtain⟨rfl,rfl,rfl,rfl⟩:=hx
 rw[←ll]at AB
 have Bg:=hide ll
 have xZ:=hide qc
 have jJ:=hide hsz
 have HL:=hide hl
 have I:=hide IH
 clear hG hu h ha hb he hl gL gM hka hkb kY hjb va vb hps oa ob ma mb na nb la lb' ea eb k1 k2 h3 ll le qc hsz IH HX
 generalize fr a=p at*
 generalize fr b=q at*
 go_enter Tryz.func188,Tryz.ntmps188
 go_wp2_with fail
 refine(ae FA _ (ae HU)).mono ?_
 rintro e w2 ⟨rfl,rfl⟩
 unfold aI
 go_wp2_with fail
 refine(ae FB _ (ae HU)).mono ?_
 rintro e w2 ⟨rfl,rfl⟩
 unfold aI
 go_wp2_with fail
 refine(ae LA _ (ae HU)).mono ?_
 rintro e w3 ⟨rfl,hb3⟩
 have bH:=hide hb3
 have qB:=hide ((ae HU).trans (hb3.mono (ae HU).size))
 clear hb3
 go_wp2_with fail
 refine(ae LB _ ((ae qB).alloc (Nat.le_trans (ae HU).size (ae bH).size) _)).mono ?_
 rintro e w4 ⟨rfl,hb4⟩
 have f0:=(hb4.cell (p:=⟨w3.heap.size,0,none⟩) (by simp)).trans (ag (heap_alloc_new w3 _) 0)
 have f1:=(hb4.cell (p:=⟨w3.heap.size,1,none⟩) (by simp)).trans (ag (heap_alloc_new w3 _) 1)
 have f2:=(hb4.cell (p:=⟨w3.heap.size,2,none⟩) (by simp)).trans (ag (heap_alloc_new w3 _) 2)
 have f3:=(hb4.cell (p:=⟨w3.heap.size,3,none⟩) (by simp)).trans (ag (heap_alloc_new w3 _) 3)
 simp only[List.getElem?_toArray,List.getElem?_cons_zero,List.getElem?_cons_succ]at f0 f1 f2 f3
 have z3:=(ae bH).size
 have z4:=hb4.size
 rw[World.size_alloc]at z4
 have z5:w3.heap.size<w4.heap.size:=by omega
 have cR:=hide ((((ae bH).alloc (ae bH).size _).trans (hb4.mono (by rw[World.size_alloc];omega))))
 clear hb4
 go_wp2_with fail
 have HR:=hide (ae H).rows
 have d0:=ag (heap_alloc_new w4 (.cells #[.int .i64 kd,.int .i64 vd,.string xd,.int .i64 (cd:Int)] 177)) 0
 have d1:=ag (heap_alloc_new w4 (.cells #[.int .i64 kd,.int .i64 vd,.string xd,.int .i64 (cd:Int)] 177)) 1
 have d2:=ag (heap_alloc_new w4 (.cells #[.int .i64 kd,.int .i64 vd,.string xd,.int .i64 (cd:Int)] 177)) 2
 have d3:=ag (heap_alloc_new w4 (.cells #[.int .i64 kd,.int .i64 vd,.string xd,.int .i64 (cd:Int)] 177)) 3
 simp only[List.getElem?_toArray,List.getElem?_cons_zero,List.getElem?_cons_succ]at d0 d1 d2 d3
 have bS:=hide ((ae cR).alloc (by omega) (.cells #[.int .i64 kd,.int .i64 vd,.string xd,.int .i64 (cd:Int)] 177))
 have rG:=hide ((ae HU).trans ((ae bS).mono (ae HU).size))
 refine(ae WA _ l R (ae rG) ((ae H).below (ae bS)) (by omega)).mono ?_
 rintro e w6 ⟨rfl,R6,h6,fr6⟩
 have rH:=hide (((ae H).below (ae bS)).under fr6 (ae rG) (ae HG).lt)
 have sG:=hide ((aj.of_below (ae bS)).trans fr6)
 have H6:=hide h6
 have z6:=fr6.size
 rw[World.size_alloc]at z6
 have r3:¬R w3.heap.size:=fun q=>by have:=(ae HR _ q).2;omega
 have r4:¬R w4.heap.size:=fun q=>by have:=(ae HR _ q).2;omega
 have g0:=(fr6.cell (p:=⟨w3.heap.size,0,none⟩) (by rw[World.size_alloc];dsimp only;omega) r3).trans ((World.cell?_alloc_past _ _ _ z5).trans f0)
 have g1:=(fr6.cell (p:=⟨w3.heap.size,1,none⟩) (by rw[World.size_alloc];dsimp only;omega) r3).trans ((World.cell?_alloc_past _ _ _ z5).trans f1)
 have g2:=(fr6.cell (p:=⟨w3.heap.size,2,none⟩) (by rw[World.size_alloc];dsimp only;omega) r3).trans ((World.cell?_alloc_past _ _ _ z5).trans f2)
 have g3:=(fr6.cell (p:=⟨w3.heap.size,3,none⟩) (by rw[World.size_alloc];dsimp only;omega) r3).trans ((World.cell?_alloc_past _ _ _ z5).trans f3)
 have k0:=(fr6.cell (p:=⟨w4.heap.size,0,none⟩) (by rw[World.size_alloc];dsimp only;omega) r4).trans d0
 have k1:=(fr6.cell (p:=⟨w4.heap.size,1,none⟩) (by rw[World.size_alloc];dsimp only;omega) r4).trans d1
 have k2:=(fr6.cell (p:=⟨w4.heap.size,2,none⟩) (by rw[World.size_alloc];dsimp only;omega) r4).trans d2
 have k3:=(fr6.cell (p:=⟨w4.heap.size,3,none⟩) (by rw[World.size_alloc];dsimp only;omega) r4).trans d3
 have iy:=hide (fr6.not (k:=w3.heap.size) (by rw[World.size_alloc];omega) r3)
 have iW:=hide (fr6.not (k:=w4.heap.size) (by rw[World.size_alloc];omega) r4)
 clear h6 fr6 f0 f1 f2 f3 d0 d1 d2 d3 r3 r4
 have z63:w3.heap.size<w6.heap.size:=by omega
 have z64:w4.heap.size<w6.heap.size:=by omega
 go_wp2_with fail
 refine(ae WB _ (l.bI (T a)) R6 (ae rH) (by rw[Za.Wn.iq];exact ae H6) (by have:=l.jA (T a);omega)).mono ?_
 rintro e w7 ⟨rfl,R7,h7,fr7⟩
 have h7:cT w7 lb S ((l.bI (T a)).bI (T b)).wt (l.bI (T a)).no R7:=h7
 rw[show (l.bI (T a)).no=l.no from Za.Wn.iq _ _]at h7
 have Hn:=hide ((ae H6).under fr7 (ae rH) (ae HG).lt)
 have sH:=hide ((ae sG).trans fr7)
 have H7:=hide (show cT w7 lb S ((l.bI (T a)).bI (T b)).wt l.no R7 from h7)
 have z7:=fr7.size
 have f0:=(fr7.cell (p:=⟨w3.heap.size,0,none⟩) z63 (ae iy)).trans g0
 have f1:=(fr7.cell (p:=⟨w3.heap.size,1,none⟩) z63 (ae iy)).trans g1
 have f2:=(fr7.cell (p:=⟨w3.heap.size,2,none⟩) z63 (ae iy)).trans g2
 have f3:=(fr7.cell (p:=⟨w3.heap.size,3,none⟩) z63 (ae iy)).trans g3
 have d0:=(fr7.cell (p:=⟨w4.heap.size,0,none⟩) z64 (ae iW)).trans k0
 have d1:=(fr7.cell (p:=⟨w4.heap.size,1,none⟩) z64 (ae iW)).trans k1
 have d2:=(fr7.cell (p:=⟨w4.heap.size,2,none⟩) z64 (ae iW)).trans k2
 have d3:=(fr7.cell (p:=⟨w4.heap.size,3,none⟩) z64 (ae iW)).trans k3
 have z73:w3.heap.size<w7.heap.size:=by omega
 have z74:w4.heap.size<w7.heap.size:=by omega
 clear h7 fr7 g0 g1 g2 g3 k0 k1 k2 k3 iy iW HR
 rw[ae rI]at H7
 go_wp2_with fail
 have HST:=hide (show TI lb S T gd gd' l R w2 gd.length (.int .i64 0) w7 from ⟨0,R7,by omega,rfl,by simpa [Za.cmpUL] using ae H7,ae sH⟩)
 clear f0 f1 f2 f3 d0 d1 d2 d3 z3 z4 z5 bH qB cR FA FB LA LB WA WB rI t0 t1 t2
 refine(ae AA _ (ae Hn)).mono ?_
 rintro e w9 ⟨rfl,rfl⟩
 go_wp2_with fail
 refine(ae AB _ (ae Hn)).mono ?_
 rintro e w9 ⟨rfl,rfl⟩
 go_wp2_with fail
 clear AA AB bS rG rH sG H6 sH H7
 go_loopg [14] gd.length (fun k iv wr=>TI lb S T gd gd' l R w2 k iv wr)
 case atStart=>exact ae HST
 case round=>
  clear HST
  obtain⟨j,R',hkj,rfl,hlo,cL⟩:=hrel
  have kZ:=(ae H).under cL (ae HU) (ae HG).lt
  by_cases hlt:j<gd.length
  ·have hjb:j<gd'.length:=by have:=ae Bg;omega
   obtain⟨pA,eA,zA,cA⟩:=ae CA (fun q=>by rw[q]at hlt;simp at hlt)
   obtain⟨pB,eB,zB,cB⟩:=ae CB (fun q=>by rw[q]at hjb;simp at hjb)
   subst eA eB
   have f0:=(kZ.cell (p:=⟨pA,j,none⟩) zA).trans (cA j hlt)
   have f1:=(kZ.cell (p:=⟨pB,j,none⟩) zB).trans (cB j hjb)
   have DR:=hide (show∀w',Below u.heap.size u w'→w'.cell? ⟨pA,j,none⟩=some (.int .i64 (gd[j]:Int))∧w'.cell? ⟨pB,j,none⟩=some (.int .i64 (gd'[j]:Int))from fun w' hb=>⟨(hb.cell (p:=⟨pA,j,none⟩) zA).trans (cA j hlt),(hb.cell (p:=⟨pB,j,none⟩) zB).trans (cB j hjb)⟩)
   have DW:j<(gd.map T).length:=by rw[List.length_map];exact hlt
   have hlb:j<(gd'.map T).length:=by rw[List.length_map];exact hjb
   have q1:=Za.GF ((gd.map T).take j) ((gd'.map T).take j) l
   have q2:=Za.sizeL_takeR (gd.map T) DW
   have q3:=Za.sizeL_take_leR (gd.map T) (j+1)
   rw[List.getElem_map]at q2
   have IC:=hide (ae I u wr.drew lb sb so cs Ty D no nc fr T P R' S gd[j] gd'[j] (Za.cmpUL ((gd.map T).take j) ((gd'.map T).take j) l) (ae HG) kZ.drew (hlo.below (Below.refl _ _).drew) (ae IA _ (List.getElem_mem hlt)) (ae IB _ (List.getElem_mem hjb)) (by have:=ae xZ;have:=ae jJ;omega) (by have:=ae xZ;have:=ae HL;omega))
   have hst:=Za.cmpUL_take (gd.map T) (gd'.map T) l DW hlb
   rw[List.getElem_map,List.getElem_map]at hst
   rw[←hst]at IC
   have iU:=hide cL
   have MJ:=hide kZ
   have qC:=hide hlo
   have aP:=hide hkj
   have aY:=hide hlt
   generalize gd[j]=na at*
   generalize gd'[j]=nb at*
   have zr:u.heap.size≤wr.heap.size:=kZ.size
   have zA':pA<wr.heap.size:=by omega
   have zB':pB<wr.heap.size:=by omega
   have PE:j≤3:=by have:=ae H3;omega
   have i0:(0:Int)≤(j:Int):=by omega
   have i1:(j:Int)<(gd.length:Int):=by omega
   clear hlo cL kZ hkj hlt hjb cA cB q1 q2 q3 hst DW hlb
   go_wp2_with fail
   go_region_held3 (fun w'=>w'.cell? ⟨pA,j,none⟩=some (.int .i64 (na:Int))∧w'.cell? ⟨pB,j,none⟩=some (.int .i64 (nb:Int))) (go_keep) (first
    | (go_at_call 188;refine(ae IC).mono ?_;rintro e w8 ⟨rfl,R8,h8,fr8⟩;have nG:=hide ((ae iU).trans ((aj.of_below (Below.refl _ _).drew).trans fr8));obtain⟨k0,k1⟩:=ae DR w8 ((ae qC).under ((aj.of_below (Below.refl _ _).drew).trans fr8) (ae MJ) (ae HG).lt);have H8:=hide h8;clear h8 fr8))
   all_goals
    go_wp2_with fail
    go_roundg (gk - 1)
    case measure=>have:=ae aP;have:=ae aY;omega
    case rel=>exact⟨j+1,R8,by have:=ae aP;have:=ae aY;omega,by go_num,ae H8,ae nG⟩
  ·obtain rfl:j=gd.length:=by omega
   have qC:=hide hlo
   have iU:=hide cL
   clear hlo cL kZ hkj
   go_wp2_with fail
   go_end0
   rw[ae HS]
   have q1:=ae qC
   rw[List.take_of_length_le (by rw[List.length_map];exact Nat.le_refl _),List.take_of_length_le (by rw[List.length_map];have:=ae Bg;omega)]at q1
   exact⟨rfl,R',q1,ae iU⟩
theorem cpG_all:∀s,Hm s
 | 0=>fun _ _ _ _ _ _ _ _ _ _ _ T _ _ _ a _ _ _ _ _ _ _ hs=>by have:=Za.size_pos (T a);omega
 | s+1=>fun u w lb sb so cs Ty D no nc fr T P R S a b l hG hu h ha hb hs hl=>by
  by_cases he:fr a=fr b
  ·exact Kp u w lb sb so cs Ty D no nc fr T P R S a b l hG hu h ha hb he
  ·obtain⟨da,gL,_⟩:=hG.node ha
   obtain⟨db,gM,_⟩:=hG.node hb
   by_cases k1:da.k=1
   ·exact DV u w lb sb so cs Ty D no nc fr T P R S a b l hG hu h ha hb he hl da db gL gM (Or.inl k1)
   ·by_cases k2:db.k=1
    ·exact DV u w lb sb so cs Ty D no nc fr T P R S a b l hG hu h ha hb he hl da db gL gM (Or.inr k2)
    ·by_cases hx:da.k=db.k∧da.val=db.val∧da.tx=db.tx∧da.cnt=db.cnt
     ·exact Kq (cpG_all s) u w lb sb so cs Ty D no nc fr T P R S a b l hG hu h ha hb he hl da db gL gM hs k1 k2 hx
     ·exact Ol u w lb sb so cs Ty D no nc fr T P R S a b l hG hu h ha hb he hl da db gL gM k1 k2 hx
structure mi (D:List Ng) (TT:Nat→Za.U) (M:List (List UInt8)) (S:List Int) (st:List (List UInt8×Za.U)):Prop where
 un:∀(i:Nat) (x:List UInt8),M[i]?=some x→st.find? (fun q=>q.1 == x)=none→S[i]?=none∨S[i]?=some (-1)
 kn:∀(i:Nat) (x:List UInt8) (q:List UInt8×Za.U),M[i]?=some x→st.find? (fun q=>q.1 == x)=some q→∃n:Nat,S[i]?=some (n:Int)∧n<D.length∧TT n=q.2
theorem mi.room {D:List Ng} {TT:Nat→Za.U} {M:List (List UInt8)} {S:List Int} {st:List (List UInt8×Za.U)} (h:mi D TT M S st):mi D TT M (S++[-1]) st:=by
 refine⟨fun i x hx hs=> ?_,fun i x q hx hs=> ?_⟩
 ·rcases h.un i x hx hs with e | e
  ·have:=List.getElem?_eq_none_iff.1 e
   rcases Nat.lt_or_eq_of_le this with q | q
   ·left;simp;omega
   ·right;rw[←q];simp
  ·right
   rw[List.getElem?_append_left (List.getElem?_eq_some_iff.1 e).1]
   exact e
 ·obtain⟨n,e,k⟩:=h.kn i x q hx hs
  refine⟨n,?_,k⟩
  rw[List.getElem?_append_left (List.getElem?_eq_some_iff.1 e).1]
  exact e
theorem mi.put {D:List Ng} {TT:Nat→Za.U} {M:List (List UInt8)} {S:List Int} {st:List (List UInt8×Za.U)} (h:mi D TT M S st) (hM:M.Nodup) {i n:Nat} {x:List UInt8} {t:Za.U} (hx:M[i]?=some x) (hi:i<S.length) (hs:st.find? (fun q=>q.1 == x)=none) (hn:n<D.length) (hw:TT n=t):mi D TT M (S.set i (n:Int)) (st++[(x,t)]):=by
 have inj:∀(k:Nat) (y:List UInt8),M[k]?=some y→k≠i→y≠x:=fun k y hy hk e=>by
  subst e
  obtain⟨h1,h3⟩:=List.getElem?_eq_some_iff.1 hx
  obtain⟨h2,h4⟩:=List.getElem?_eq_some_iff.1 hy
  have hp:=List.pairwise_iff_getElem.1 hM
  rcases Nat.lt_or_gt_of_ne hk with q | q
  ·exact hp _ _ h2 h1 q (h4.trans h3.symm)
  ·exact hp _ _ h1 h2 q (h3.trans h4.symm)
 refine⟨fun k y hy hk=> ?_,fun k y q hy hk=> ?_⟩
 ·rw[List.find?_append]at hk
  have hk1:st.find? (fun q=>q.1 == y)=none:=by
   cases e:st.find? (fun q=>q.1 == y)with
   | none=>rfl
   | some q=>rw[e]at hk;cases hk
  rw[hk1]at hk
  by_cases e:k=i
  ·subst e
   rw[hx]at hy
   cases hy
   simp at hk
  ·rw[List.getElem?_set_ne (Ne.symm e)]
   exact h.un k y hy hk1
 ·rw[List.find?_append]at hk
  by_cases e:k=i
  ·subst e
   rw[hx]at hy
   cases hy
   rw[hs]at hk
   simp at hk
   subst hk
   exact⟨n,by simp[hi],hn,hw⟩
  ·rw[List.getElem?_set_ne (Ne.symm e)]
   refine h.kn k y q hy ?_
   cases e2:st.find? (fun q=>q.1 == y)with
   | some r=>rw[e2]at hk;exact hk
   | none=>
    rw[e2]at hk
    have:=inj k y hy e
    simp at hk
    exact absurd hk.1.symm this
def DX (lb:Nat) (D:List Ng) (TT:Nat→Za.U) (M:List (List UInt8)) (l:Za.bF) (R:Nat→Prop) (w:World) (e:Ending) (w':World):Prop:=
 e= .returned (.tuple #[])∧∃S' R',cT w' lb S' l.w.wt l.w.no R'∧mi D TT M S' l.st∧S'.length≤M.length∧aj R R' w w'
def TJ (lb:Nat) (D:List Ng) (TT:Nat→Za.U) (M:List (List UInt8)) (l:Za.bF) (R:Nat→Prop) (w:World) (i:Nat) (k:Nat) (wr:World):Prop:=
 ∃(S':List Int) (R':Nat→Prop),k=i+1 - S'.length∧cT wr lb S' l.w.wt l.w.no R'∧mi D TT M S' l.st∧S'.length≤M.length∧aj R R' w wr
theorem SZ (u w:World) (lb sb sq:Nat) (cS:Array Value) (Ty:TypeId) (D:List Ng) (nO:Option Addr) (nC:Nat) (fr:Nat→Nat) (TT:Nat→Za.U) (PP R:Nat→Prop) (M:List (List UInt8)) (S:List Int) (i n:Nat) (x:List UInt8) (l:Za.bF) (B:Nat) (hG:fW u lb sb sq cS Ty D nO nC fr TT PP) (hu:Below u.heap.size u w) (h:cT w lb S l.w.wt l.w.no R) (hs:mi D TT M S l.st) (hS:S.length≤M.length) (hM:M.Nodup) (hML:M.length≤100000) (hx:M[i]?=some x) (hn:n<D.length) (hw:l.sm B) (hl:l.w.wt.length+2*B≤100000000):
 Calls Tryz.prog 161 #[.pointer (some ⟨lb,0,none⟩),.pointer (some ⟨sb,sq,none⟩),.int .i64 (i:Int),.int .i64 (n:Int)] w fun e w'=>DX lb D TT M (l.meet x (TT n)) R w e w':=by
 have HST:=hide (show TJ lb D TT M l R w i (i+1 - S.length) w from ⟨S,R,rfl,h,hs,hS,aj.of_below (Below.refl _ _)⟩)
 have hiM:i<M.length:=(List.getElem?_eq_some_iff.1 hx).1
 have HG:=hide hG
 have HU:=hide hu
 have H:=hide h
 have HM:=hide hM
 have HX:=hide hx
 have HN:=hide hn
 have HW:=hide hw
 have HL:=hide hl
 have t2:decide ((i:Int)<0)=false:=by simp
 obtain⟨tj,hj,hy0,hy1,hy2⟩:=info_parts infoIn
 clear hG hu h hs hS hM hx hn hw hl
 go_enter Tryz.func161,Tryz.ntmps161
 go_wp2_with fail
 go_loopg [] (i+1 - S.length) (fun k wr=>TJ lb D TT M l R w i k wr)
 case atStart=>exact ae HST
 case round=>
  clear HST
  obtain⟨S',R',rfl,hlo,hst,hS',cL⟩:=hrel
  have kZ:=(ae H).under cL (ae HU) (ae HG).lt
  obtain⟨so,sc,wo,wc,hlb,rfl⟩:=hlo
  have s0:=ag hlb.blk 0
  have sf:=aq hlb.blk 0
  have sz:=af hlb.blk
  simp only[List.getElem?_toArray,List.getElem?_cons_zero]at s0
  have y7:=hide hlb
  have HST:=hide hst
  have HS':=hide hS'
  have iU:=hide cL
  have MJ:=hide kZ
  by_cases hlt:S'.length≤i
  ·have t1:decide ((S'.length:Int)≤(i:Int))=true:=by simp;omega
   have sF:=hide (show some lb≠(Value.slice so S'.length sc).ownBlock from fun q=>by have:=(hlb.sown.lt lb q.symm).1;omega)
   have aY:=hide hlt
   clear hlb hst hS' cL kZ hlt
   have hSl:S'.length≤100000:=by have:=ae HS';omega
   go_wp2_with (at_builtin;go_must (refine wpList_append_own_at _ rfl (.tmp 20) (.tmp 21) 25 rfl (lb+1) 3 tj (.int .i64 0) 1 8 Tryz.underlying25 hj hy0 hy1 hy2 rfl (by decide) _ S'.length (S'.map fO) rfl ((ae y7).sown.alloc _) ⟨wr.heap.size,0,none⟩ 1 1 [.int .i64 (-1)] rfl rfl (ie _ _ _ _ rfl) (by simp[Value.oneCell']) (by unfold maxLen;omega) (by omega) (by simp;omega) ?_);go_must (intro v' w7 hown' hgrow _ hat;obtain⟨g',cap',hv'⟩:=su hown';subst hv';have HN:=hide ((ae y7).PC ((Below.refl _ _).alloc (Nat.le_refl _) _) (n:= -1) hown' hgrow (by rcases hat with q | q;exact Or.inl q.symm;(right;simp[Value.ownBlock]at q;omega)));have k1:=(hgrow.cell_far ⟨lb,0,none⟩ (by simp;omega) (ae sF)).trans ((World.cell?_alloc_past _ _ _ sz).trans s0);have k3:w7.frozen? ⟨lb,0,none⟩=false:=(by have:=aq (ae HN).1.blk 0;rwa [World.frozen?_setCell]at this);have zz7:lb<w7.heap.size:=(by have:=af (ae HN).1.blk;rwa [cC]at this);clear hown' hgrow hat))
   go_roundg (i+1 - (S'.length+1))
   case measure=>have:=ae aY;omega
   case rel=>exact⟨S'++[-1],_,by simp,⟨_,_,_,_,(ae HN).1,rfl⟩,(ae HST).room,by have:=ae aY;simp;omega,(ae iU).trans (ae HN).2⟩
  ·have hlt':i<S'.length:=by omega
   have t1:decide ((S'.length:Int)≤(i:Int))=false:=by simp;omega
   obtain⟨g,hg⟩:∃g,so=some ⟨g,0,none⟩:=by
    rcases hlb.sown.2 with⟨q,q2⟩ | ⟨g,cp,cur,q,_⟩
    ·omega
    ·simp only[Value.slice.injEq]at q
     exact⟨g,q.1⟩
   subst hg
   have gz:=(hlb.sown.lt g rfl).2
   have f0:wr.cell? ⟨g,i,none⟩=some (.int .i64 S'[i]):=by
    rw[hlb.sown.cellAt i (by omega),List.getElem?_map,List.getElem?_eq_getElem hlt']
    rfl
   have i0:(0:Int)≤(i:Int):=by omega
   have i1:(i:Int)<(S'.length:Int):=by omega
   cases pJ:l.st.find? (fun q=>q.1 == x)with
   | none=>
    have hv:S'[i]= -1:=by
     rcases hst.un i x (ae HX) pJ with e | e
     ·rw[List.getElem?_eq_getElem hlt']at e;cases e
     ·rw[List.getElem?_eq_getElem hlt']at e;exact Option.some.inj e
    rw[hv]at f0
    have ff:wr.frozen? ⟨g,i,none⟩=false:=by
     rcases hlb.sown.2 with⟨q,q2⟩ | ⟨g',cp,cur,q,_,q3,_⟩
     ·omega
     ·simp only[Value.slice.injEq,Option.some.injEq,Addr.mk.injEq]at q
      obtain⟨⟨rfl,_⟩,_⟩:=q
      exact aq q3 i
    have HS:=hide (show l.meet x (TT n)=⟨l.st++[(x,TT n)],l.w⟩by unfold Za.bF.meet;rw[pJ])
    have HP:=hide (hlb.put hlt' (n:Int))
    have y8:=hide (hst.put (ae HM) (ae HX) hlt' pJ (ae HN) rfl)
    clear hlb hst hS' cL kZ hlt hv pJ hlt'
    go_wp2_with fail
    go_end0
    rw[ae HS]
    exact⟨rfl,_,_,⟨_,_,_,_,(ae HP).1,rfl⟩,ae y8,by rw[List.length_set];exact ae HS',(ae iU).trans (ae HP).2⟩
   | some q=>
    obtain⟨m,e,hm,PF⟩:=hst.kn i x q (ae HX) pJ
    have hv:S'[i]=(m:Int):=by
     rw[List.getElem?_eq_getElem hlt']at e;exact Option.some.inj e
    rw[hv]at f0
    have t3:((m:Int) == -1)=false:=by simp
    have HS:=hide (show l.meet x (TT n)=⟨l.st,Za.cmpU (TT m) (TT n) l.w⟩by unfold Za.bF.meet;rw[pJ,PF])
    have IC:=hide (cpG_all (Za.size (TT m)) u wr lb sb sq cS Ty D nO nC fr TT PP _ S' m n l.w (ae HG) kZ ⟨_,_,_,_,hlb,rfl⟩ hm (ae HN) (Nat.le_refl _) (by have:=ae HW q (List.mem_of_find?_eq_some pJ);rw[←PF]at this;have:=ae HL;omega))
    clear hlb hst hS' cL kZ hlt hv pJ hlt' e hm PF
    go_wp2_with fail
    refine(ae IC).mono ?_
    rintro e w8 ⟨rfl,R8,h8,fr8⟩
    have H8:=hide h8
    have nG:=hide fr8
    clear h8 fr8
    go_wp2_with fail
    go_end0
    rw[ae HS]
    exact⟨rfl,S',R8,ae H8,ae HST,ae HS',(ae iU).trans (ae nG)⟩
def Ho (f:Nat):Prop:=∀(P:Nat→Prop) (u w:World) (lb sb sq:Nat) (cS:Array Value) (Ty:TypeId) (D:List Ng) (nO:Option Addr) (nC:Nat) (fr:Nat→Nat) (TT:Nat→Za.U) (PP R:Nat→Prop) (M:List (List UInt8)) (S:List Int) (a:AV) (n:Nat) (p:Za.Tm) (l:Za.bF) (B:Nat),fW u lb sb sq cS Ty D nO nC fr TT PP→Below u.heap.size u w→cT w lb S l.w.wt l.w.no R→mi D TT M S l.st→S.length≤M.length→M.Nodup→M.length≤100000→RA f M P u a p→Za.wfK f p→n<D.length→Za.size (TT n)≤B→l.sm B→l.w.wt.length+2*B*3 ^ f+2*B≤100000000→
 Calls Tryz.prog 109 #[.pointer (some ⟨lb,0,none⟩),.pointer (some ⟨sb,sq,none⟩),.agg #[.int .i64 a.k,.int .i64 a.val,.string a.tx,.slice a.ao a.n a.cap],.int .i64 (n:Int)] w fun e w'=>DX lb D TT M (Za.matU f p (TT n) l) R w e w'
theorem Bh {M:List (List UInt8)} {len f:Nat} {a:AV} {p:Za.Tm} {d:Ng} {k:Nat} {tx:List UInt8} {num:Int} (ha:lG M a p) (wp:Za.wfK (f+1) p) (kp:p.kind≠3) (hd:gf len d) (hk:d.k≠1) (hl:eQ d=some (k,tx,num)):
 (Za.gJ p=(k,tx,num)∧p.args.length=d.args.length)↔(a.k=d.k∧jd a=d.val∧a.tx=d.tx∧a.n=d.cnt):=by
 obtain⟨h1,h2,_,h4,h5,h6,_,_⟩:=ha
 have d23:d.k=2∨d.k=3:=hd.ks.resolve_left hk
 rcases h6 with e | e | e
 ·have a3:a.k=3:=by rw[h1,e];rfl
  have lv:jd a=0:=by unfold jd;rw[if_neg (by omega)]
  have rp:Za.gJ p=(1,p.text.toList,0):=by unfold Za.gJ;rw[if_neg (by omega)]
  rw[rp,lv,h5 e,h2,a3]
  rcases d23 with q | q
  ·have:eQ d=some (3,[],d.val):=by unfold eQ;rw[if_neg hk,if_pos q]
   rw[hl]at this
   injection this with this
   injection this with u1 _
   subst u1
   constructor
   ·rintro⟨r,_⟩
    injection r with r
    exact absurd r (by decide)
   ·rintro⟨r,_⟩
    omega
  ·have:eQ d=some (1,d.tx.toList,0):=by unfold eQ;rw[if_neg hk,if_neg (by omega)]
   rw[hl]at this
   injection this with this
   injection this with u1 this
   injection this with u2 u3
   subst u1 u2 u3
   obtain⟨c1,c2,_⟩:=hd.c q
   constructor
   ·rintro⟨r,s⟩
    injection r with _ r
    injection r with r _
    exact⟨q.symm,c1.symm,toList_inj r,by rw[c2,s]⟩
   ·rintro⟨_,_,r,s⟩
    exact⟨by rw[r],by rw[s,c2]⟩
 ·exact absurd e kp
 ·have a2:a.k=2:=by rw[h1,e];rfl
  have lv:jd a=a.val:=by unfold jd;rw[if_pos a2]
  have rp:Za.gJ p=(3,[],(Za.numOf p.text:Int)):=by unfold Za.gJ;rw[if_pos e]
  obtain⟨v1,_,v3⟩:=h4 e
  have pa:p.args=[]:=wp.2.1 (by omega)
  rw[rp,lv,v1,v3,h2,a2,pa]
  rcases d23 with q | q
  ·have:eQ d=some (3,[],d.val):=by unfold eQ;rw[if_neg hk,if_pos q]
   rw[hl]at this
   injection this with this
   injection this with u1 this
   injection this with u2 u3
   subst u1 u2 u3
   obtain⟨c1,c2,c3⟩:=hd.m q
   constructor
   ·rintro⟨r,_⟩
    injection r with _ r
    injection r with _ r
    exact⟨q.symm,r,c1.symm,by rw[c2];rfl⟩
   ·rintro⟨_,r,_,_⟩
    exact⟨by rw[r],by rw[c3];rfl⟩
  ·have:eQ d=some (1,d.tx.toList,0):=by unfold eQ;rw[if_neg hk,if_neg (by omega)]
   rw[hl]at this
   injection this with this
   injection this with u1 _
   subst u1
   constructor
   ·rintro⟨r,_⟩
    injection r with r
    exact absurd r (by decide)
   ·rintro⟨r,_⟩
    omega
theorem Kr (f:Nat) (u w:World) (lb sb sq:Nat) (cS:Array Value) (Ty:TypeId) (D:List Ng) (nO:Option Addr) (nC:Nat) (fr:Nat→Nat) (TT:Nat→Za.U) (PP R:Nat→Prop) (M:List (List UInt8)) (S:List Int) (a:AV) (n:Nat) (p:Za.Tm) (l:Za.bF) (B:Nat) (hG:fW u lb sb sq cS Ty D nO nC fr TT PP) (hu:Below u.heap.size u w) (h:cT w lb S l.w.wt l.w.no R) (hs:mi D TT M S l.st) (hS:S.length≤M.length) (hM:M.Nodup) (hML:M.length≤100000) (ha:lG M a p) (hn:n<D.length) (hsm:l.sm B) (hl:l.w.wt.length+2*B≤100000000) (kp:p.kind=3):
 Calls Tryz.prog 109 #[.pointer (some ⟨lb,0,none⟩),.pointer (some ⟨sb,sq,none⟩),.agg #[.int .i64 a.k,.int .i64 a.val,.string a.tx,.slice a.ao a.n a.cap],.int .i64 (n:Int)] w fun e w'=>DX lb D TT M (Za.matU (f+1) p (TT n) l) R w e w':=by
 obtain⟨h1,h2,h3,h4,h5,h6,h7,h8⟩:=ha
 obtain⟨h9,h10⟩:=h3 kp
 obtain⟨k,val,tx,ao,m,cp⟩:=a
 dsimp only at h1 h2 h10⊢
 have e1:ak p.kind=1:=by rw[kp];rfl
 rw[e1]at h1
 subst h1 h10
 have hx:M[M.idxOf p.text.toList]?=some p.text.toList:=by
  rw[List.getElem?_eq_getElem (List.idxOf_lt_length_of_mem h9),List.getElem_idxOf]
 have HS:=hide (show Za.matU (f+1) p (TT n) l=l.meet p.text.toList (TT n)from Za.mD _ l kp)
 have HB:=hide ((Below.refl w.heap.size w).alloc (Nat.le_refl _) (.cells #[.int .i64 1,.int .i64 (M.idxOf p.text.toList:Int),.string tx,.slice ao m cp] 76))
 have HM:=hide (SZ u (w.alloc (.cells #[.int .i64 1,.int .i64 (M.idxOf p.text.toList:Int),.string tx,.slice ao m cp] 76)) lb sb sq cS Ty D nO nC fr TT PP R M S (M.idxOf p.text.toList) n p.text.toList l B hG (hu.trans ((ae HB).mono hu.size)) (h.below (ae HB)) hs hS hM hML hx hn hsm hl)
 clear hG hu h hs hS hM hn hsm hl h2 h3 h4 h5 h6 h7 h8 h9 hx e1 kp
 generalize M.idxOf p.text.toList=ix at*
 go_enter Tryz.func109,Tryz.ntmps109
 go_wp2_with fail
 refine(ae HM).mono ?_
 rintro e w2 ⟨rfl,S2,R2,h2,s2,l2,fr2⟩
 have H2:=hide h2
 have bV:=hide s2
 have rJ:=hide l2
 have uN:=hide fr2
 clear h2 s2 l2 fr2
 go_wp2_with fail
 go_end0
 rw[ae HS]
 exact⟨rfl,S2,R2,ae H2,ae bV,ae rJ,(aj.of_below (ae HB)).trans (ae uN)⟩
theorem Ks (f:Nat) (u w:World) (lb sb sq:Nat) (cS:Array Value) (Ty:TypeId) (D:List Ng) (nO:Option Addr) (nC:Nat) (fr:Nat→Nat) (TT:Nat→Za.U) (PP R:Nat→Prop) (M:List (List UInt8)) (S:List Int) (a:AV) (n:Nat) (p:Za.Tm) (l:Za.bF) (hG:fW u lb sb sq cS Ty D nO nC fr TT PP) (hu:Below u.heap.size u w) (h:cT w lb S l.w.wt l.w.no R) (hs:mi D TT M S l.st) (hS:S.length≤M.length) (ha:lG M a p) (hn:n<D.length) (hl:l.w.wt.length≤100000000) (kp:p.kind≠3) (d:Ng) (hd:D[fr n]?=some d) (kt:d.k=1):
 Calls Tryz.prog 109 #[.pointer (some ⟨lb,0,none⟩),.pointer (some ⟨sb,sq,none⟩),.agg #[.int .i64 a.k,.int .i64 a.val,.string a.tx,.slice a.ao a.n a.cap],.int .i64 (n:Int)] w fun e w'=>DX lb D TT M (Za.matU (f+1) p (TT n) l) R w e w':=by
 obtain⟨k,val,tx,ao,m,cp⟩:=a
 have hk:(k == 1)=false:=by
  have h1:=ha.1
  dsimp only at h1
  rw[h1]
  rcases ha.2.2.2.2.2.1 with e | e | e<;>first | exact absurd e kp | (rw[e];decide)
 have HB:=hide ((Below.refl w.heap.size w).alloc (Nat.le_refl _) (.cells #[.int .i64 k,.int .i64 val,.string tx,.slice ao m cp] 76))
 have HU:=hide (hu.trans ((ae HB).mono hu.size))
 have wW:=hide hu
 have HG:=hide hG
 have H:=hide h
 have HST:=hide hs
 have uO:=hide hS
 obtain⟨kh,hop⟩:=hG.ok.hop n hn
 have vv:=hG.pC hn hd
 have HL:=hide (eo _ sb sq cS Ty D nO nC n (fr n) kh d (hG.at (ae HU)) hop hd)
 have Wt:=hide (fun W R (hu:Below u.heap.size u W) (h:cT W lb S l.w.wt l.w.no R) (hl:l.w.wt.length≤100000000)=>lK W lb sb sq cS Ty D nO nC R S l.w.wt l.w.no n (fr n) kh d (TT n) (hG.at hu) hop hd vv.2 (fun q=>absurd kt q) h hl)
 have HS:=hide (show Za.matU (f+1) p (TT n) l=⟨l.st,l.w.bI (TT n)⟩by rw[vv.2 kt,Za.kW _ l kp];rfl)
 obtain⟨kb,vb,xb,cb',ob,pb,gb,nb,mb⟩:=d
 dsimp only at HL kt
 subst kt
 clear hG hu h hs hS hn ha kp hop hd vv
 go_enter Tryz.func109,Tryz.ntmps109
 go_wp2_with fail
 refine(ae HL).mono ?_
 rintro e w3 ⟨rfl,hb3⟩
 have f0:=(hb3.cell (p:=⟨w.heap.size,0,none⟩) (by simp)).trans (ag (heap_alloc_new w _) 0)
 have f1:=(hb3.cell (p:=⟨w.heap.size,1,none⟩) (by simp)).trans (ag (heap_alloc_new w _) 1)
 have f2:=(hb3.cell (p:=⟨w.heap.size,2,none⟩) (by simp)).trans (ag (heap_alloc_new w _) 2)
 have f3:=(hb3.cell (p:=⟨w.heap.size,3,none⟩) (by simp)).trans (ag (heap_alloc_new w _) 3)
 simp only[List.getElem?_toArray,List.getElem?_cons_zero,List.getElem?_cons_succ]at f0 f1 f2 f3
 have z3:=hb3.size
 rw[World.size_alloc]at z3
 have z5:w.heap.size<w3.heap.size:=by omega
 have bH:=hide ((ae HB).trans (hb3.mono (by rw[World.size_alloc];omega)))
 have qB:=hide ((ae HU).trans (hb3.mono (ae HU).size))
 have E6:=hide ((hb3.block w.heap.size (by simp)).trans (heap_alloc_new w _))
 clear hb3
 go_wp2_with fail
 have cR:=hide ((ae bH).alloc (by omega) (.cells #[.int .i64 1,.int .i64 vb,.string xb,.int .i64 (cb':Int)] 177))
 have Wu:=hide ((ae qB).alloc (Nat.le_trans (ae wW).size (by omega)) (.cells #[.int .i64 1,.int .i64 vb,.string xb,.int .i64 (cb':Int)] 177))
 refine(ae Wt _ R (ae Wu) ((ae H).below (ae cR)) hl).mono ?_
 rintro e w6 ⟨rfl,R6,h6,fr6⟩
 have H6:=hide h6
 have PD:=hide fr6
 clear h6 fr6
 go_wp2_with fail
 go_end0
 rw[ae HS]
 exact⟨rfl,S,R6,by show cT w6 lb S (l.w.bI (TT n)).wt (l.w.bI (TT n)).no R6;rw[Za.Wn.iq];exact ae H6,ae HST,ae uO,(aj.of_below (ae cR)).trans (ae PD)⟩
theorem Om (f:Nat) (u w:World) (lb sb sq:Nat) (cS:Array Value) (Ty:TypeId) (D:List Ng) (nO:Option Addr) (nC:Nat) (fr:Nat→Nat) (TT:Nat→Za.U) (PP R:Nat→Prop) (M:List (List UInt8)) (S:List Int) (a:AV) (n:Nat) (p:Za.Tm) (l:Za.bF) (hG:fW u lb sb sq cS Ty D nO nC fr TT PP) (hu:Below u.heap.size u w) (h:cT w lb S l.w.wt l.w.no R) (hs:mi D TT M S l.st) (hS:S.length≤M.length) (ha:lG M a p) (wp:Za.wfK (f+1) p) (hn:n<D.length) (kp:p.kind≠3) (d:Ng) (hd:D[fr n]?=some d) (kt:d.k≠1) (hk2:¬(a.k=d.k∧jd a=d.val∧a.tx=d.tx∧a.n=d.cnt)):
 Calls Tryz.prog 109 #[.pointer (some ⟨lb,0,none⟩),.pointer (some ⟨sb,sq,none⟩),.agg #[.int .i64 a.k,.int .i64 a.val,.string a.tx,.slice a.ao a.n a.cap],.int .i64 (n:Int)] w fun e w'=>DX lb D TT M (Za.matU (f+1) p (TT n) l) R w e w':=by
 obtain⟨k,val,tx,ao,m,cp⟩:=a
 have hk:(k == 1)=false:=by
  have h1:=ha.1
  dsimp only at h1
  rw[h1]
  rcases ha.2.2.2.2.2.1 with e | e | e<;>first | exact absurd e kp | (rw[e];decide)
 have HB:=hide ((Below.refl w.heap.size w).alloc (Nat.le_refl _) (.cells #[.int .i64 k,.int .i64 val,.string tx,.slice ao m cp] 76))
 have HU:=hide (hu.trans ((ae HB).mono hu.size))
 have wW:=hide hu
 have HG:=hide hG
 have H:=hide h
 have HST:=hide hs
 have uO:=hide hS
 obtain⟨kh,hop⟩:=hG.ok.hop n hn
 obtain⟨_,e1,od,_,_,nd⟩:=hG.node hn
 rw[hd]at e1
 cases e1
 obtain⟨ku,tu,iu,lu,eu⟩:=nd kt
 have HL:=hide (eo _ sb sq cS Ty D nO nC n (fr n) kh d (hG.at (ae HU)) hop hd)
 have HS:=hide (show Za.matU (f+1) p (TT n) l=⟨l.st,l.w.bad⟩by rw[eu];exact Za.mE l kp (fun q=>hk2 ((Bh ha wp kp od kt lu).1 (by rw[List.length_map]at q;exact q))))
 have t2:(d.k == 1)=false:=by simpa using kt
 have hlab:=fun w=>qw w ⟨k,val,tx,ao,m,cp⟩
 have t3:=hk2
 dsimp only at t3
 obtain⟨kb,vb,xb,cb',ob,pb,gb,nb,mb⟩:=d
 dsimp only at HL t2 t3
 generalize jd ⟨k,val,tx,ao,m,cp⟩=lv at*
 dsimp only at hlab
 have LA:=hide hlab
 have hc:(¬k=kb)∨(k=kb∧¬lv=vb)∨(k=kb∧lv=vb∧¬tx.toList=xb.toList)∨(k=kb∧lv=vb∧tx=xb∧¬(m:Int)=(cb':Int)):=by
  by_cases q1:k=kb
  ·by_cases q2:lv=vb
   ·by_cases q3:tx=xb
    ·exact Or.inr (Or.inr (Or.inr ⟨q1,q2,q3,fun q4=>t3 ⟨q1,q2,q3,by omega⟩⟩))
    ·exact Or.inr (Or.inr (Or.inl ⟨q1,q2,fun q=>q3 (toList_inj q)⟩))
   ·exact Or.inr (Or.inl ⟨q1,q2⟩)
  ·exact Or.inl q1
 clear hG hu h hs hS hn ha wp kp kt hk2 t3 hop hd od nd lu eu
 rcases hc with hc | ⟨rfl,hc⟩ | ⟨rfl,rfl,hc⟩ | ⟨rfl,rfl,rfl,hc⟩
 all_goals
  clear hlab
  go_enter Tryz.func109,Tryz.ntmps109
  go_wp2_with fail
  refine(ae HL).mono ?_
  rintro e w3 ⟨rfl,hb3⟩
  have f0:=(hb3.cell (p:=⟨w.heap.size,0,none⟩) (by simp)).trans (ag (heap_alloc_new w _) 0)
  have f1:=(hb3.cell (p:=⟨w.heap.size,1,none⟩) (by simp)).trans (ag (heap_alloc_new w _) 1)
  have f2:=(hb3.cell (p:=⟨w.heap.size,2,none⟩) (by simp)).trans (ag (heap_alloc_new w _) 2)
  have f3:=(hb3.cell (p:=⟨w.heap.size,3,none⟩) (by simp)).trans (ag (heap_alloc_new w _) 3)
  simp only[List.getElem?_toArray,List.getElem?_cons_zero,List.getElem?_cons_succ]at f0 f1 f2 f3
  have z3:=hb3.size
  rw[World.size_alloc]at z3
  have z5:w.heap.size<w3.heap.size:=by omega
  have bH:=hide ((ae HB).trans (hb3.mono (by rw[World.size_alloc];omega)))
  have qB:=hide ((ae HU).trans (hb3.mono (ae HU).size))
  have E6:=hide ((hb3.block w.heap.size (by simp)).trans (heap_alloc_new w _))
  clear hb3
  go_wp2_with fail
  go_region_with (go_at_call 95;refine(ae LA _).mono ?_;rintro e w5 ⟨rfl,bu⟩;have g0:=(bu.cell (p:=⟨w3.heap.size,0,none⟩) (gI w3 _)).trans (ag (heap_alloc_new w3 _) 0);have g1:=(bu.cell (p:=⟨w3.heap.size,1,none⟩) (gI w3 _)).trans (ag (heap_alloc_new w3 _) 1);have g2:=(bu.cell (p:=⟨w3.heap.size,2,none⟩) (gI w3 _)).trans (ag (heap_alloc_new w3 _) 2);have g3:=(bu.cell (p:=⟨w3.heap.size,3,none⟩) (gI w3 _)).trans (ag (heap_alloc_new w3 _) 3);simp only[List.getElem?_toArray,List.getElem?_cons_zero,List.getElem?_cons_succ]at g0 g1 g2 g3;have bS:=hide (((ae bH).alloc (by omega) _).trans ((((Below.refl _ _).drew).trans bu).mono (Nat.le_trans (by omega) (Nat.le_of_lt (gI w3 _)))));clear bu)
  all_goals
   obtain⟨so,sc,wo,wc,hlo,rfl⟩:=(ae H).below (ae bS)
   have s2:=ag hlo.blk 2
   have sf:=aq hlo.blk 2
   have sz:=af hlo.blk
   simp only[List.getElem?_toArray,List.getElem?_cons_zero,List.getElem?_cons_succ]at s2
   have qC:=hide hlo
   clear hlo
   go_wp2_with fail
   go_end0
   rw[ae HS]
   exact⟨rfl,S,_,⟨so,sc,wo,wc,(ae qC).bad.1,rfl⟩,ae HST,ae uO,(aj.of_below (ae bS)).trans (ae qC).bad.2⟩
def TK (lb:Nat) (D:List Ng) (TT:Nat→Za.U) (M:List (List UInt8)) (f:Nat) (p:Za.Tm) (us:List Za.U) (l:Za.bF) (R:Nat→Prop) (w:World) (C:Array Value) (k:Nat) (iv:Value) (wr:World):Prop:=
 ∃(j:Nat) (S':List Int) (R':Nat→Prop),k+j=p.args.length∧iv= .int .i64 (j:Int)∧cT wr lb S' (Za.cF (Za.matU f) (p.args.take j) (us.take j) l).w.wt (Za.cF (Za.matU f) (p.args.take j) (us.take j) l).w.no R'∧mi D TT M S' (Za.cF (Za.matU f) (p.args.take j) (us.take j) l).st∧S'.length≤M.length∧aj R R' w wr∧wr.heap[w.heap.size]?=some (.cells C 76 (0,0))∧¬R' w.heap.size
theorem Kt {f:Nat} (IH:Ho f) (P:Nat→Prop) (u w:World) (lb sb sq:Nat) (cS:Array Value) (Ty:TypeId) (D:List Ng) (nO:Option Addr) (nC:Nat) (fr:Nat→Nat) (TT:Nat→Za.U) (PP R:Nat→Prop) (M:List (List UInt8)) (S:List Int) (a:AV) (n:Nat) (p:Za.Tm) (l:Za.bF) (B:Nat) (hG:fW u lb sb sq cS Ty D nO nC fr TT PP) (hu:Below u.heap.size u w) (h:cT w lb S l.w.wt l.w.no R) (hs:mi D TT M S l.st) (hS:S.length≤M.length) (hM:M.Nodup) (hML:M.length≤100000) (hr:RA (f+1) M P u a p) (wp:Za.wfK (f+1) p) (hn:n<D.length) (hsz:Za.size (TT n)≤B) (hsm:l.sm B) (hl:l.w.wt.length+2*B*3 ^ (f+1)+2*B≤100000000) (kp:p.kind≠3) (d:Ng) (hd:D[fr n]?=some d) (kt:d.k≠1) (hk2:a.k=d.k∧jd a=d.val∧a.tx=d.tx∧a.n=d.cnt):
 Calls Tryz.prog 109 #[.pointer (some ⟨lb,0,none⟩),.pointer (some ⟨sb,sq,none⟩),.agg #[.int .i64 a.k,.int .i64 a.val,.string a.tx,.slice a.ao a.n a.cap],.int .i64 (n:Int)] w fun e w'=>DX lb D TT M (Za.matU (f+1) p (TT n) l) R w e w':=by
 obtain⟨ha,hrow⟩:=hr
 obtain⟨k,val,tx,ao,m,cp⟩:=a
 have hk:(k == 1)=false:=by
  have h1:=ha.1
  dsimp only at h1
  rw[h1]
  rcases ha.2.2.2.2.2.1 with e | e | e<;>first | exact absurd e kp | (rw[e];decide)
 have HB:=hide ((Below.refl w.heap.size w).alloc (Nat.le_refl _) (.cells #[.int .i64 k,.int .i64 val,.string tx,.slice ao m cp] 76))
 have HU:=hide (hu.trans ((ae HB).mono hu.size))
 have wW:=hide hu
 have HG:=hide hG
 have H:=hide h
 have HST:=hide hs
 have uO:=hide hS
 obtain⟨kh,hop⟩:=hG.ok.hop n hn
 obtain⟨_,e1,od,md,_,nd⟩:=hG.node hn
 rw[hd]at e1
 cases e1
 obtain⟨ku,tu,iu,lu,eu⟩:=nd kt
 have HL:=hide (eo _ sb sq cS Ty D nO nC n (fr n) kh d (hG.at (ae HU)) hop hd)
 have hrt:=(Bh ha wp kp od kt lu).2 hk2
 have HS:=hide (show Za.matU (f+1) p (TT n) l=Za.cF (Za.matU f) p.args (d.args.map TT) l by rw[eu];exact Za.kX l kp (by rw[List.length_map];exact hrt))
 have qc:1+Za.sizeL (d.args.map TT)≤B:=by rw[eu,Za.size]at hsz;omega
 have hlab:=fun w=>qw w ⟨k,val,tx,ao,m,cp⟩
 have hal:=hrt.2
 have HAb:=hide (fun W (hu:Below u.heap.size u W)=>lJ W sb sq cS Ty D nO nC n (fr n) kh d (hG.at hu) hop hd)
 have HCb:=hide (fun q=>hG.ar.at md q)
 have oP:=hide od.inn
 obtain⟨kb,vb,xb,cb',ob,pb,gb,nb,mb⟩:=d
 obtain⟨q1,q2,q3,q4⟩:=hk2
 have h2:=ha.2.1
 dsimp only at h2 q1 q2 q3 q4 hrow HAb HCb oP HL hal HS qc
 rw[←hal]at HAb
 generalize jd ⟨k,val,tx,ao,m,cp⟩=lv at*
 dsimp only at hlab
 subst q1 q2 q3 q4 h2
 have LA:=hide hlab
 have kK:=hide hrow
 have TL:=hide hal
 have HWp:=hide wp.2.2.2
 have TM:=hide wp.2.2.1
 have Bg:=hide hl
 have Wv:=hide hM
 have iV:=hide hsm
 have xZ:=hide qc
 have I:=hide IH
 clear hG hu h hs hS hM hn ha kp kt hlab hrow hal wp hl IH hop hd od md nd lu eu hrt hsz hsm qc
 go_enter Tryz.func109,Tryz.ntmps109
 go_wp2_with fail
 refine(ae HL).mono ?_
 rintro e w3 ⟨rfl,hb3⟩
 have f0:=(hb3.cell (p:=⟨w.heap.size,0,none⟩) (by simp)).trans (ag (heap_alloc_new w _) 0)
 have f1:=(hb3.cell (p:=⟨w.heap.size,1,none⟩) (by simp)).trans (ag (heap_alloc_new w _) 1)
 have f2:=(hb3.cell (p:=⟨w.heap.size,2,none⟩) (by simp)).trans (ag (heap_alloc_new w _) 2)
 have f3:=(hb3.cell (p:=⟨w.heap.size,3,none⟩) (by simp)).trans (ag (heap_alloc_new w _) 3)
 simp only[List.getElem?_toArray,List.getElem?_cons_zero,List.getElem?_cons_succ]at f0 f1 f2 f3
 have z3:=hb3.size
 rw[World.size_alloc]at z3
 have z5:w.heap.size<w3.heap.size:=by omega
 have bH:=hide ((ae HB).trans (hb3.mono (by rw[World.size_alloc];omega)))
 have qB:=hide ((ae HU).trans (hb3.mono (ae HU).size))
 have E6:=hide ((hb3.block w.heap.size (by simp)).trans (heap_alloc_new w _))
 clear hb3
 go_wp2_with fail
 have e0:=ag (heap_alloc_new w3 (.cells #[.int .i64 k,.int .i64 lv,.string tx,.int .i64 (p.args.length:Int)] 177)) 0
 have e1:=ag (heap_alloc_new w3 (.cells #[.int .i64 k,.int .i64 lv,.string tx,.int .i64 (p.args.length:Int)] 177)) 1
 have e2:=ag (heap_alloc_new w3 (.cells #[.int .i64 k,.int .i64 lv,.string tx,.int .i64 (p.args.length:Int)] 177)) 2
 have e3:=ag (heap_alloc_new w3 (.cells #[.int .i64 k,.int .i64 lv,.string tx,.int .i64 (p.args.length:Int)] 177)) 3
 simp only[List.getElem?_toArray,List.getElem?_cons_zero,List.getElem?_cons_succ]at e0 e1 e2 e3
 go_region_held3 (fun w'=>w'.cell? ⟨w.heap.size,0,none⟩=some (.int .i64 k)∧w'.cell? ⟨w.heap.size,1,none⟩=some (.int .i64 val)∧w'.cell? ⟨w.heap.size,2,none⟩=some (.string tx)∧w'.cell? ⟨w.heap.size,3,none⟩=some (.slice ao p.args.length cp)∧w'.cell? ⟨w3.heap.size,0,none⟩=some (.int .i64 k)∧w'.cell? ⟨w3.heap.size,1,none⟩=some (.int .i64 lv)∧w'.cell? ⟨w3.heap.size,2,none⟩=some (.string tx)∧w'.cell? ⟨w3.heap.size,3,none⟩=some (.int .i64 (p.args.length:Int))) (go_keep) (first
  | (go_at_call 95;refine(ae LA _).mono ?_;rintro e w5 ⟨rfl,bu⟩;have g0:=(bu.cell (p:=⟨w3.heap.size,0,none⟩) (gI w3 _)).trans e0;have g1:=(bu.cell (p:=⟨w3.heap.size,1,none⟩) (gI w3 _)).trans e1;have g2:=(bu.cell (p:=⟨w3.heap.size,2,none⟩) (gI w3 _)).trans e2;have g3:=(bu.cell (p:=⟨w3.heap.size,3,none⟩) (gI w3 _)).trans e3;have y0:=(bu.cell (p:=⟨w.heap.size,0,none⟩) (Nat.lt_trans z5 (gI w3 _))).trans ((World.cell?_alloc_past _ _ _ z5).trans f0);have y1:=(bu.cell (p:=⟨w.heap.size,1,none⟩) (Nat.lt_trans z5 (gI w3 _))).trans ((World.cell?_alloc_past _ _ _ z5).trans f1);have y2:=(bu.cell (p:=⟨w.heap.size,2,none⟩) (Nat.lt_trans z5 (gI w3 _))).trans ((World.cell?_alloc_past _ _ _ z5).trans f2);have y3:=(bu.cell (p:=⟨w.heap.size,3,none⟩) (Nat.lt_trans z5 (gI w3 _))).trans ((World.cell?_alloc_past _ _ _ z5).trans f3);have bS:=hide (((ae bH).alloc (by omega) _).trans ((((Below.refl _ _).drew).trans bu).mono (Nat.le_trans (by omega) (Nat.le_of_lt (gI w3 _)))));have Bi:=hide ((bu.block w.heap.size (Nat.lt_trans z5 (gI w3 _))).trans ((Below.heap_alloc _ _ _ z5).trans (ae E6)));clear bu))
 go_wp2_with fail
 have PG:=hide (show TK lb D TT M f p (gb.map TT) l R w #[.int .i64 k,.int .i64 val,.string tx,.slice ao p.args.length cp] p.args.length (.int .i64 0) w5 from ⟨0,S,R,by omega,rfl,by simpa [Za.cF] using (ae H).below (ae bS),by simpa [Za.cF] using ae HST,ae uO,aj.of_below (ae bS),ae Bi,fun q=>by have:=((ae H).rows _ q).2;omega⟩)
 refine(ae HAb _ ((ae wW).trans ((ae bS).mono (ae wW).size))).mono ?_
 rintro e w6 ⟨rfl,rfl⟩
 clear e0 e1 e2 e3 f0 f1 f2 f3 g0 g1 g2 g3 y0 y1 y2 y3 HB HU HL bH qB E6 bS Bi HAb LA z3 z5 hk
 go_wp2_with fail
 go_loopg [10] p.args.length (fun k' iv wr=>TK lb D TT M f p (gb.map TT) l R w #[.int .i64 k,.int .i64 val,.string tx,.slice ao p.args.length cp] k' iv wr)
 case atStart=>exact ae PG
 case round=>
  clear PG
  obtain⟨j,S',R',hkj,rfl,hlo,hst,hsl,cL,dC,hbr⟩:=hrel
  have kZ:=(ae H).under cL (ae wW) (ae HG).lt
  have x3:=ag dC 3
  simp only[List.getElem?_toArray,List.getElem?_cons_zero,List.getElem?_cons_succ]at x3
  have zx:=af dC
  by_cases hlt:j<p.args.length
  ·have hjb:j<gb.length:=by have:=ae TL;omega
   have hlt':j<(gb.map TT).length:=by rw[List.length_map];exact hjb
   obtain⟨g,us,ca,hao,_,fe,lL,mf⟩:=ae kK (fun q=>by rw[q]at hlt;simp at hlt)
   subst hao
   obtain⟨pB,eB,zB,cB⟩:=ae HCb (fun q=>by rw[q]at hjb;simp at hjb)
   subst eB
   have DU:j<us.length:=by have:=mf.length;omega
   have fc:∀w',Below u.heap.size u w'→∀i,i<4→w'.cell? ⟨g,j*4+i,none⟩=(gq us[j])[i]?:=fun w' hb i hi=>by
    rw[hb.cell (p:=⟨g,j*4+i,none⟩) (af fe),ag fe,←Array.getElem?_toList,←Oc DU i hi,←lL,List.getElem?_take_of_lt (by omega)]
   have DR:=hide (show∀w',Below u.heap.size u w'→w'.cell? ⟨g,j*4,none⟩=some (.int .i64 us[j].k)∧w'.cell? ⟨g,j*4+1,none⟩=some (.int .i64 us[j].val)∧w'.cell? ⟨g,j*4+2,none⟩=some (.string us[j].tx)∧w'.cell? ⟨g,j*4+3,none⟩=some (.slice us[j].ao us[j].n us[j].cap)∧w'.cell? ⟨pB,j,none⟩=some (.int .i64 (gb[j]:Int))from fun w' hb=>by
    have a0:=fc w' hb 0 (by omega)
    have a1:=fc w' hb 1 (by omega)
    have a2:=fc w' hb 2 (by omega)
    have a3:=fc w' hb 3 (by omega)
    simp only[gq,List.getElem?_cons_zero,List.getElem?_cons_succ,Nat.add_zero]at a0 a1 a2 a3
    exact⟨a0,a1,a2,a3,(hb.cell (p:=⟨pB,j,none⟩) zB).trans (cB j hjb)⟩)
   have hB1:1≤B:=by have:=ae xZ;omega
   obtain⟨sm1,sm2⟩:=Za.xV (g:=Za.matU f) (B:=B) (c:=2*B*3 ^ f) (p.args.take j) ((gb.map TT).take j) l (fun q hq v hv l' hl'=>Za.tW f q v l' (ae HWp q (List.mem_of_mem_take hq)) (by have:=Za.iG (List.mem_of_mem_take hv);have:=ae xZ;omega) hB1 hl') (ae iV)
   rw[List.length_take,Nat.min_eq_left (by omega)]at sm2
   have hcap:(Za.cF (Za.matU f) (p.args.take j) ((gb.map TT).take j) l).w.wt.length+2*B*3 ^ f+2*B≤100000000:=by
    have q1:=ae Bg
    have q2:2*B*3 ^ (f+1)=3*(2*B*3 ^ f):=by rw[Nat.pow_succ];rw[←Nat.mul_assoc,Nat.mul_comm]
    have q3:j*(2*B*3 ^ f)≤2*(2*B*3 ^ f):=Nat.mul_le_mul_right _ (by have:=ae TM;omega)
    omega
   have Bj:Za.size (TT gb[j])≤B:=by have:=Za.iG (List.mem_map_of_mem (f:=TT) (List.getElem_mem hjb));have:=ae xZ;omega
   have IC:=hide (ae I P u wr.drew lb sb sq cS Ty D nO nC fr TT PP R' M S' us[j] gb[j] p.args[j] (Za.cF (Za.matU f) (p.args.take j) ((gb.map TT).take j) l) B (ae HG) kZ.drew (hlo.below (Below.refl _ _).drew) hst hsl (ae Wv) hML (mf.jm j DU hlt) (ae HWp _ (List.getElem_mem hlt)) (ae oP _ (List.getElem_mem hjb)) Bj sm1 hcap)
   have Ku:=Za.yQ (Za.matU f) p.args (gb.map TT) l hlt hlt'
   rw[List.getElem_map]at Ku
   rw[←Ku]at IC
   obtain⟨a0,a1,a2,a3,a4⟩:=ae DR wr kZ
   have iU:=hide cL
   have MJ:=hide kZ
   have qC:=hide hlo
   have aP:=hide hkj
   have aY:=hide hlt
   have nQ:=hide dC
   have PH:=hide hbr
   generalize us[j]=v6 at*
   generalize gb[j]=nb at*
   have zr:u.heap.size≤wr.heap.size:=kZ.size
   have zA':g<wr.heap.size:=by have:=af fe;omega
   have zB':pB<wr.heap.size:=by omega
   have PE:j≤3:=by have:=ae TM;omega
   have i0:(0:Int)≤(j:Int):=by omega
   have i1:(j:Int)<(p.args.length:Int):=by omega
   clear hlo hst hsl cL kZ hkj hlt hlt' hjb DU cB sm1 sm2 hcap Bj Ku hB1 dC hbr fc fe lL mf
   go_wp2_with fail
   go_region_held3 (fun w'=>w'.cell? ⟨w.heap.size,3,none⟩=some (.slice (some ⟨g,0,none⟩) p.args.length cp)∧w'.cell? ⟨g,j*4,none⟩=some (.int .i64 v6.k)∧w'.cell? ⟨g,j*4+1,none⟩=some (.int .i64 v6.val)∧w'.cell? ⟨g,j*4+2,none⟩=some (.string v6.tx)∧w'.cell? ⟨g,j*4+3,none⟩=some (.slice v6.ao v6.n v6.cap)∧w'.cell? ⟨pB,j,none⟩=some (.int .i64 (nb:Int))) (go_keep) (first
    | (go_at_call 109;refine(ae IC).mono ?_;rintro e w8 ⟨rfl,S8,R8,h8,s8,l8,fr8⟩;have nG:=hide ((ae iU).trans ((aj.of_below (Below.refl _ _).drew).trans fr8));obtain⟨k0,k1,k2,k3,k4⟩:=ae DR w8 ((ae qC).under ((aj.of_below (Below.refl _ _).drew).trans fr8) (ae MJ) (ae HG).lt);have k9:=(fr8.cell (p:=⟨w.heap.size,3,none⟩) zx (ae PH)).trans x3;have U3:=hide ((fr8.block w.heap.size zx (ae PH)).trans (ae nQ));have U4:=hide (fr8.not (k:=w.heap.size) zx (ae PH));have H8:=hide h8;have Ww:=hide s8;have Wx:=hide l8;clear h8 s8 l8 fr8))
   all_goals
    go_wp2_with fail
    go_roundg (gk - 1)
    case measure=>have:=ae aP;have:=ae aY;omega
    case rel=>exact⟨j+1,S8,R8,by have:=ae aP;have:=ae aY;omega,by go_num,ae H8,ae Ww,ae Wx,ae nG,ae U3,ae U4⟩
  ·obtain rfl:j=p.args.length:=by omega
   have qC:=hide hlo
   have U5:=hide hst
   have U6:=hide hsl
   have iU:=hide cL
   clear hlo hst hsl cL kZ hkj dC hbr
   go_wp2_with fail
   go_end0
   rw[ae HS]
   have q1:=ae qC
   have q3:=ae U5
   rw[List.take_length,List.take_of_length_le (by rw[List.length_map];have:=ae TL;omega)]at q1 q3
   exact⟨rfl,S',R',q1,q3,ae U6,ae iU⟩
theorem muG_all:∀f,Ho f
 | 0=>fun P u w lb sb sq cS Ty D nO nC fr TT PP R M S a n p l B hG hu h hs hS hM hML hr _ _ _ _ _=>hr.elim
 | f+1=>fun P u w lb sb sq cS Ty D nO nC fr TT PP R M S a n p l B hG hu h hs hS hM hML hr wp hn hsz hsm hl=>by
  by_cases kp:p.kind=3
  ·exact Kr f u w lb sb sq cS Ty D nO nC fr TT PP R M S a n p l B hG hu h hs hS hM hML hr.1 hn hsm (by omega) kp
  ·obtain⟨d,hd,_⟩:=hG.node hn
   by_cases kt:d.k=1
   ·exact Ks f u w lb sb sq cS Ty D nO nC fr TT PP R M S a n p l hG hu h hs hS hr.1 hn (by omega) kp d hd kt
   ·by_cases hk:a.k=d.k∧jd a=d.val∧a.tx=d.tx∧a.n=d.cnt
    ·exact Kt (muG_all f) P u w lb sb sq cS Ty D nO nC fr TT PP R M S a n p l B hG hu h hs hS hM hML hr wp hn hsz hsm hl kp d hd kt hk
    ·exact Om f u w lb sb sq cS Ty D nO nC fr TT PP R M S a n p l hG hu h hs hS hr.1 wp hn kp d hd kt hk
end Go.Proofs.YthfjnfcekeknlaaGreatDoor
