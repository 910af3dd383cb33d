import Derived.Test.YthfjnfcekeknlabGreatDoorGu03
import Derived.Test.YthfjnfcekeknlabGreatDoorGu05
import Derived.Test.YthfjnfcekeknlabGreatDoorGu06
import Derived.Deep.LoopGhost
import Derived.Deep.RegionHeld3
set_option maxHeartbeats 8000000
set_option maxRecDepth 100000
namespace Go.Proofs.YthfjnfcekeknlabGreatDoor
open Go.RowKit
structure gj (u:World) (lb sb so:Nat) (cs:Array Value) (Ty:TypeId) (D:List Ng) (no:Option Addr) (nc:Nat) (fr:Nat→Nat) (T:Nat→Zf.U) (P:Nat→Prop):Prop where
 st:bG u sb so cs Ty D no nc
 ok:bZ D fr
 to:Zf.dI (aX D) fr T
 ar:aY u D P
 lt:u.heap.size≤lb
section
variable {u:World} {lb sb so:Nat} {cs:Array Value} {Ty:TypeId} {D:List Ng} {no:Option Addr} {nc:Nat} {fr:Nat→Nat} {T:Nat→Zf.U} {P:Nat→Prop}
theorem gj.at (h:gj u lb sb so cs Ty D no nc fr T P) {w:World} (hb:Below u.heap.size u w):bG w sb so cs Ty D no nc:=h.st.below hb
theorem gj.node (h:gj u lb sb so cs Ty D no nc fr T P) {n:Nat} (hn:n<D.length):∃d,D[fr n]?=some d∧fU D.length d∧d∈D∧(d.k=1→T n= .v ([],fr n))∧(d.k≠1→∃k tx num,eJ d=some (k,tx,num)∧T n= .n k tx num (d.args.map T)):=by
 obtain⟨d,h1,h2,h3,h4,h5⟩:=Hx h.ok hn
 refine⟨d,h1,h2,h5,fun hk=>h.to.var (by rw[h3];exact h2.lab.2 hk),fun hk=> ?_⟩
 obtain⟨p,hp⟩:∃p,eJ d=some p:=by
  cases q:eJ d with
  | none=>exact absurd (h2.lab.1 q) hk
  | some p=>exact⟨p,rfl⟩
 obtain⟨k,tx,num⟩:=p
 refine⟨k,tx,num,hp,?_⟩
 rw[h.to.reads.front n,h.to.reads.node (fr n) k tx num (by rw[h3,hp]),h4]
theorem gj.lW (h:gj u lb sb so cs Ty D no nc fr T P) {n:Nat} (hn:n<D.length) {d:Ng} (hd:D[fr n]?=some d):(d.k=1↔Zf.lW (T n)=true)∧(d.k=1→T n= .v ([],fr n)):=by
 obtain⟨d',h1,h2,h3,h4,h5⟩:=h.node hn
 rw[hd]at h1
 cases h1
 refine⟨⟨fun q=>by rw[h4 q];rfl,fun q=> ?_⟩,h4⟩
 by_cases hk:d.k=1
 ·exact hk
 ·obtain⟨k,tx,num,_,e⟩:=h5 hk
  rw[e]at q
  cases q
end
theorem jF (w:World) (lb sb so:Nat) (cs:Array Value) (Ty:TypeId) (D:List Ng) (no:Option Addr) (nc:Nat) (R:Nat→Prop) (S:List Int) (W:List Nat) (nb:Bool) (n m k:Nat) (d:Ng) (u:Zf.U) (hs:bG w sb so cs Ty D no nc) (hop:Hop D n m k) (hd:D[m]?=some d) (hk:d.k=1→u= .v ([],m)) (hk':d.k≠1→Zf.lW u=false) (h:cO w lb S W nb R) (hl:W.length≤100000000):
 Calls Tryz.prog 81 #[.pointer (some ⟨lb,0,none⟩),.pointer (some ⟨sb,so,none⟩),.int .i64 (n:Int)] w fun e w'=>e= .returned (.tuple #[])∧∃R',cO w' lb S ((Zf.Wn.mk W nb).aU u).wt nb R'∧aq R R' w w':=by
 have HL:=hide (dS w sb so cs Ty D no nc n m k d hs hop hd)
 have HF:=hide (fun w' (hb:Below w.heap.size w w')=>dR w' sb so cs Ty D no nc n m k (hs.below hb) hop)
 have H:=hide h
 clear hs hop hd h
 obtain⟨dk,val,tx,cnt,ao,cp,ar,nx,mrk⟩:=d
 dsimp only at HL hk hk'
 by_cases hk1:dk=1
 ·rw[hk hk1]
  subst hk1
  show Calls _ _ _ _ fun e w'=>e= .returned (.tuple #[])∧∃R',cO w' lb S (yj W m) nb R'∧aq R R' w w'
  clear hk hk'
  go_enter Tryz.func81,Tryz.ntmps81
  go_wp2_with fail
  refine(ae HL).mono ?_
  rintro e w2 ⟨rfl,hb2⟩
  have aP:=hide hb2
  have z2:=hb2.size
  clear hb2
  go_wp2_with fail
  refine(ae HF _ ((ae aP).alloc z2 _)).mono ?_
  rintro e w3 ⟨rfl,rfl⟩
  unfold aJ
  go_wp2_with fail
  refine(sO _ lb S W nb R m ((ae H).below ((ae aP).alloc z2 _)) hl).mono ?_
  rintro e w6 ⟨rfl,R6,h6,fr6⟩
  have H6:=hide h6
  have BH:=hide fr6
  clear h6 fr6
  go_wp2_with fail
  go_end0
  exact⟨rfl,R6,ae H6,(aq.of_below ((ae aP).alloc z2 _)).trans (ae BH)⟩
 ·have t1:(dk == 1)=false:=by simpa using hk1
  have HE:=hide (show ((Zf.Wn.mk W nb).aU u).wt=W by
   have:=hk' hk1
   cases u with
   | v x=>cases this
   | n k tx num ss=>rfl)
  rw[ae HE]
  clear hk1 hk hk'
  go_enter Tryz.func81,Tryz.ntmps81
  go_wp2_with fail
  refine(ae HL).mono ?_
  rintro e w2 ⟨rfl,hb2⟩
  have aP:=hide hb2
  have z2:=hb2.size
  clear hb2
  go_wp2_with fail
  go_end0
  exact⟨rfl,R,(ae H).below ((ae aP).alloc z2 _),aq.of_below ((ae aP).alloc z2 _)⟩
def Ih (lb:Nat) (S:List Int) (l:Zf.Wn) (R:Nat→Prop) (w:World) (e:Ending) (w':World):Prop:=
 e= .returned (.tuple #[])∧∃R',cO w' lb S l.wt l.no R'∧aq R R' w w'
def Ii (s:Nat):Prop:=∀(u w:World) (lb sb so:Nat) (cs:Array Value) (Ty:TypeId) (D:List Ng) (no:Option Addr) (nc:Nat) (fr:Nat→Nat) (T:Nat→Zf.U) (P R:Nat→Prop) (S:List Int) (a b:Nat) (l:Zf.Wn),gj u lb sb so cs Ty D no nc fr T P→Below u.heap.size u w→cO w lb S l.wt l.no R→a<D.length→b<D.length→Zf.size (T a)≤s→l.wt.length+2*Zf.size (T a)≤100000000→
 Calls Tryz.prog 124 #[.pointer (some ⟨lb,0,none⟩),.pointer (some ⟨sb,so,none⟩),.int .i64 (a:Int),.int .i64 (b:Int)] w fun e w'=>Ih lb S (Zf.cmpU (T a) (T b) l) R w e w'
theorem KX (u w:World) (lb sb so:Nat) (cs:Array Value) (Ty:TypeId) (D:List Ng) (no:Option Addr) (nc:Nat) (fr:Nat→Nat) (T:Nat→Zf.U) (P R:Nat→Prop) (S:List Int) (a b:Nat) (l:Zf.Wn) (hG:gj u lb sb so cs Ty D no nc fr T P) (hu:Below u.heap.size u w) (h:cO w lb S l.wt l.no R) (ha:a<D.length) (hb:b<D.length) (he:fr a=fr b):
 Calls Tryz.prog 124 #[.pointer (some ⟨lb,0,none⟩),.pointer (some ⟨sb,so,none⟩),.int .i64 (a:Int),.int .i64 (b:Int)] w fun e w'=>Ih lb S (Zf.cmpU (T a) (T b) l) R w e w':=by
 have hT:T a=T b:=by rw[hG.to.reads.front a,hG.to.reads.front b,he]
 rw[hT,Zf.cmpU_self]
 obtain⟨ka,hka⟩:=hG.ok.hop a ha
 obtain⟨kb,hkb⟩:=hG.ok.hop b hb
 rw[←he]at hkb
 have FA:=hide (dR w sb so cs Ty D no nc a (fr a) ka (hG.at hu) hka)
 have FB:=hide (dR w sb so cs Ty D no nc b (fr a) kb (hG.at hu) hkb)
 have H:=hide h
 clear hG hu h ha hb hka hkb hT he
 generalize fr a=p at*
 go_enter Tryz.func124,Tryz.ntmps124
 go_wp2_with fail
 refine(ae FA).mono ?_
 rintro e w2 ⟨rfl,rfl⟩
 unfold aJ at FB⊢
 go_wp2_with fail
 refine(ae FB).mono ?_
 rintro e w2 ⟨rfl,rfl⟩
 go_wp2_with fail
 go_end0
 exact⟨rfl,R,ae H,aq.of_below (Below.refl _ _)⟩
end Go.Proofs.YthfjnfcekeknlabGreatDoor
namespace Go.Proofs.YthfjnfcekeknlabGreatDoor
open Go.RowKit
theorem Ed (u w:World) (lb sb so:Nat) (cs:Array Value) (Ty:TypeId) (D:List Ng) (no:Option Addr) (nc:Nat) (fr:Nat→Nat) (T:Nat→Zf.U) (P R:Nat→Prop) (S:List Int) (a b:Nat) (l:Zf.Wn) (hG:gj u lb sb so cs Ty D no nc fr T P) (hu:Below u.heap.size u w) (h:cO w lb S l.wt l.no R) (ha:a<D.length) (hb:b<D.length) (he:fr a≠fr b) (hl:l.wt.length+2*Zf.size (T a)≤100000000) (da db:Ng) (fV:D[fr a]?=some da) (fW:D[fr b]?=some db) (hv:da.k=1∨db.k=1):
 Calls Tryz.prog 124 #[.pointer (some ⟨lb,0,none⟩),.pointer (some ⟨sb,so,none⟩),.int .i64 (a:Int),.int .i64 (b:Int)] w fun e w'=>Ih lb S (Zf.cmpU (T a) (T b) l) R w e w':=by
 obtain⟨ka,hka⟩:=hG.ok.hop a ha
 obtain⟨kb,hkb⟩:=hG.ok.hop b hb
 obtain⟨ja,lL⟩:=hG.ok.qX ha
 obtain⟨jb,hjb⟩:=hG.ok.qX hb
 have va:=hG.lW ha fV
 have vb:=hG.lW hb fW
 have FA:=hide (fun W (hu:Below u.heap.size u W)=>dR W sb so cs Ty D no nc a (fr a) ka (hG.at hu) hka)
 have FB:=hide (fun W (hu:Below u.heap.size u W)=>dR W sb so cs Ty D no nc b (fr b) kb (hG.at hu) hkb)
 have LA:=hide (fun W (hu:Below u.heap.size u W)=>dS W sb so cs Ty D no nc (fr a) (fr a) ja da (hG.at hu) lL fV)
 have LB:=hide (fun W (hu:Below u.heap.size u W)=>dS W sb so cs Ty D no nc (fr b) (fr b) jb db (hG.at hu) hjb fW)
 have WA:=hide (fun W (k:Zf.Wn) R (hu:Below u.heap.size u W) (h:cO W lb S k.wt k.no R) (hl:k.wt.length≤100000000)=>jF W lb sb so cs Ty D no nc R S k.wt k.no (fr a) (fr a) ja da (T a) (hG.at hu) lL fV va.2 (fun q=>Bool.eq_false_iff.2 fun r=>q (va.1.2 r)) h hl)
 have WB:=hide (fun W (k:Zf.Wn) R (hu:Below u.heap.size u W) (h:cO W lb S k.wt k.no R) (hl:k.wt.length≤100000000)=>jF W lb sb so cs Ty D no nc R S k.wt k.no (fr b) (fr b) jb db (T b) (hG.at hu) hjb fW vb.2 (fun q=>Bool.eq_false_iff.2 fun r=>q (vb.1.2 r)) h hl)
 have hps:=Zf.size_pos (T a)
 have hl0:l.wt.length+2≤100000000:=by omega
 have t0:(((fr a:Nat):Int) == ((fr b:Nat):Int))=false:=by simp;omega
 have HG:=hide hG
 have HU:=hide hu
 have H:=hide h
 have HS:=hide (show Zf.cmpU (T a) (T b) l=(l.aU (T a)).aU (T b)from Zf.KH l (hv.imp va.1.1 vb.1.1) (fun x q r=>he (by
  have k1:=va.1.2 (by rw[q];rfl)
  have k2:=vb.1.2 (by rw[r];rfl)
  have e1:=va.2 k1
  have e2:=vb.2 k2
  rw[q]at e1
  rw[r]at e2
  rw[e1]at e2
  injection e2 with e2
  injection e2)))
 obtain⟨kd,vd,xd,cd,od,pd,gd,nd,md⟩:=da
 obtain⟨kd',vd',xd',cd',od',pd',gd',nd',md'⟩:=db
 dsimp only at LA LB hv
 clear hG hu h ha hb he hl fV fW hka hkb lL hjb va vb hps
 generalize fr a=p at*
 generalize fr b=q at*
 by_cases k1:kd=1
 ·subst k1
  clear hv
  go_enter Tryz.func124,Tryz.ntmps124
  go_wp2_with fail
  refine(ae FA _ (ae HU)).mono ?_
  rintro e w2 ⟨rfl,rfl⟩
  unfold aJ
  go_wp2_with fail
  refine(ae FB _ (ae HU)).mono ?_
  rintro e w2 ⟨rfl,rfl⟩
  unfold aJ
  go_wp2_with fail
  refine(ae LA _ (ae HU)).mono ?_
  rintro e w3 ⟨rfl,hb3⟩
  have bu:=hide hb3
  have qF:=hide ((ae HU).trans (hb3.mono (ae HU).size))
  clear hb3
  go_wp2_with fail
  refine(ae LB _ ((ae qF).alloc (Nat.le_trans (ae HU).size (ae bu).size) _)).mono ?_
  rintro e w4 ⟨rfl,hb4⟩
  have f0:=(hb4.cell (p:=⟨w3.heap.size,0,none⟩) (by simp)).trans (ah (heap_alloc_new w3 _) 0)
  have f1:=(hb4.cell (p:=⟨w3.heap.size,1,none⟩) (by simp)).trans (ah (heap_alloc_new w3 _) 1)
  have f2:=(hb4.cell (p:=⟨w3.heap.size,2,none⟩) (by simp)).trans (ah (heap_alloc_new w3 _) 2)
  have f3:=(hb4.cell (p:=⟨w3.heap.size,3,none⟩) (by simp)).trans (ah (heap_alloc_new w3 _) 3)
  simp only[List.getElem?_toArray,List.getElem?_cons_zero,List.getElem?_cons_succ]at f0 f1 f2 f3
  have z3:=(ae bu).size
  have z4:=hb4.size
  rw[World.size_alloc]at z4
  have z5:w3.heap.size<w4.heap.size:=by omega
  have cu:=hide ((((ae bu).alloc (ae bu).size _).trans (hb4.mono (by rw[World.size_alloc];omega))))
  clear hb4
  go_wp2_with fail
  have HR:=hide (ae H).rows
  have d0:=ah (heap_alloc_new w4 (.cells #[.int .i64 kd',.int .i64 vd',.string xd',.int .i64 (cd':Int)] 144)) 0
  have d1:=ah (heap_alloc_new w4 (.cells #[.int .i64 kd',.int .i64 vd',.string xd',.int .i64 (cd':Int)] 144)) 1
  have d2:=ah (heap_alloc_new w4 (.cells #[.int .i64 kd',.int .i64 vd',.string xd',.int .i64 (cd':Int)] 144)) 2
  have d3:=ah (heap_alloc_new w4 (.cells #[.int .i64 kd',.int .i64 vd',.string xd',.int .i64 (cd':Int)] 144)) 3
  simp only[List.getElem?_toArray,List.getElem?_cons_zero,List.getElem?_cons_succ]at d0 d1 d2 d3
  have bj:=hide ((ae cu).alloc (by omega) (.cells #[.int .i64 kd',.int .i64 vd',.string xd',.int .i64 (cd':Int)] 144))
  have rP:=hide ((ae HU).trans ((ae bj).mono (ae HU).size))
  refine(ae WA _ l R (ae rP) ((ae H).below (ae bj)) (by omega)).mono ?_
  rintro e w6 ⟨rfl,R6,h6,fr6⟩
  have rQ:=hide (((ae H).below (ae bj)).under fr6 (ae rP) (ae HG).lt)
  have sW:=hide ((aq.of_below (ae bj)).trans fr6)
  have H6:=hide h6
  have z6:=fr6.size
  rw[World.size_alloc]at z6
  have r3:¬R w3.heap.size:=fun q=>by have:=(ae HR _ q).2;omega
  have r4:¬R w4.heap.size:=fun q=>by have:=(ae HR _ q).2;omega
  have g0:=(fr6.cell (p:=⟨w3.heap.size,0,none⟩) (by rw[World.size_alloc];dsimp only;omega) r3).trans ((World.cell?_alloc_past _ _ _ z5).trans f0)
  have g1:=(fr6.cell (p:=⟨w3.heap.size,1,none⟩) (by rw[World.size_alloc];dsimp only;omega) r3).trans ((World.cell?_alloc_past _ _ _ z5).trans f1)
  have g2:=(fr6.cell (p:=⟨w3.heap.size,2,none⟩) (by rw[World.size_alloc];dsimp only;omega) r3).trans ((World.cell?_alloc_past _ _ _ z5).trans f2)
  have g3:=(fr6.cell (p:=⟨w3.heap.size,3,none⟩) (by rw[World.size_alloc];dsimp only;omega) r3).trans ((World.cell?_alloc_past _ _ _ z5).trans f3)
  have k0:=(fr6.cell (p:=⟨w4.heap.size,0,none⟩) (by rw[World.size_alloc];dsimp only;omega) r4).trans d0
  have k1:=(fr6.cell (p:=⟨w4.heap.size,1,none⟩) (by rw[World.size_alloc];dsimp only;omega) r4).trans d1
  have k2:=(fr6.cell (p:=⟨w4.heap.size,2,none⟩) (by rw[World.size_alloc];dsimp only;omega) r4).trans d2
  have k3:=(fr6.cell (p:=⟨w4.heap.size,3,none⟩) (by rw[World.size_alloc];dsimp only;omega) r4).trans d3
  have iJ:=hide (fr6.not (k:=w3.heap.size) (by rw[World.size_alloc];omega) r3)
  have jg:=hide (fr6.not (k:=w4.heap.size) (by rw[World.size_alloc];omega) r4)
  clear h6 fr6 f0 f1 f2 f3 d0 d1 d2 d3 r3 r4
  have z63:w3.heap.size<w6.heap.size:=by omega
  have z64:w4.heap.size<w6.heap.size:=by omega
  go_wp2_with fail
  refine(ae WB _ (l.aU (T a)) R6 (ae rQ) (by rw[Zf.Wn.gT];exact ae H6) (by have:=l.jm (T a);omega)).mono ?_
  rintro e w7 ⟨rfl,R7,h7,fr7⟩
  have h7:cO w7 lb S ((l.aU (T a)).aU (T b)).wt (l.aU (T a)).no R7:=h7
  rw[show (l.aU (T a)).no=l.no from Zf.Wn.gT _ _]at h7
  have Ij:=hide ((ae H6).under fr7 (ae rQ) (ae HG).lt)
  have sX:=hide ((ae sW).trans fr7)
  have H7:=hide (show cO w7 lb S ((l.aU (T a)).aU (T b)).wt l.no R7 from h7)
  have z7:=fr7.size
  have f0:=(fr7.cell (p:=⟨w3.heap.size,0,none⟩) z63 (ae iJ)).trans g0
  have f1:=(fr7.cell (p:=⟨w3.heap.size,1,none⟩) z63 (ae iJ)).trans g1
  have f2:=(fr7.cell (p:=⟨w3.heap.size,2,none⟩) z63 (ae iJ)).trans g2
  have f3:=(fr7.cell (p:=⟨w3.heap.size,3,none⟩) z63 (ae iJ)).trans g3
  have d0:=(fr7.cell (p:=⟨w4.heap.size,0,none⟩) z64 (ae jg)).trans k0
  have d1:=(fr7.cell (p:=⟨w4.heap.size,1,none⟩) z64 (ae jg)).trans k1
  have d2:=(fr7.cell (p:=⟨w4.heap.size,2,none⟩) z64 (ae jg)).trans k2
  have d3:=(fr7.cell (p:=⟨w4.heap.size,3,none⟩) z64 (ae jg)).trans k3
  have z73:w3.heap.size<w7.heap.size:=by omega
  have z74:w4.heap.size<w7.heap.size:=by omega
  clear h7 fr7 g0 g1 g2 g3 k0 k1 k2 k3 iJ jg HR
  go_wp2_with fail
  go_end0
  rw[ae HS]
  exact⟨rfl,R7,by rw[Zf.Wn.gT,Zf.Wn.gT];exact ae H7,ae sX⟩
 ·have k2:kd'=1:=hv.resolve_left k1
  subst k2
  have t1:(kd == 1)=false:=by simpa using k1
  clear hv k1
  go_enter Tryz.func124,Tryz.ntmps124
  go_wp2_with fail
  refine(ae FA _ (ae HU)).mono ?_
  rintro e w2 ⟨rfl,rfl⟩
  unfold aJ
  go_wp2_with fail
  refine(ae FB _ (ae HU)).mono ?_
  rintro e w2 ⟨rfl,rfl⟩
  unfold aJ
  go_wp2_with fail
  refine(ae LA _ (ae HU)).mono ?_
  rintro e w3 ⟨rfl,hb3⟩
  have bu:=hide hb3
  have qF:=hide ((ae HU).trans (hb3.mono (ae HU).size))
  clear hb3
  go_wp2_with fail
  refine(ae LB _ ((ae qF).alloc (Nat.le_trans (ae HU).size (ae bu).size) _)).mono ?_
  rintro e w4 ⟨rfl,hb4⟩
  have f0:=(hb4.cell (p:=⟨w3.heap.size,0,none⟩) (by simp)).trans (ah (heap_alloc_new w3 _) 0)
  have f1:=(hb4.cell (p:=⟨w3.heap.size,1,none⟩) (by simp)).trans (ah (heap_alloc_new w3 _) 1)
  have f2:=(hb4.cell (p:=⟨w3.heap.size,2,none⟩) (by simp)).trans (ah (heap_alloc_new w3 _) 2)
  have f3:=(hb4.cell (p:=⟨w3.heap.size,3,none⟩) (by simp)).trans (ah (heap_alloc_new w3 _) 3)
  simp only[List.getElem?_toArray,List.getElem?_cons_zero,List.getElem?_cons_succ]at f0 f1 f2 f3
  have z3:=(ae bu).size
  have z4:=hb4.size
  rw[World.size_alloc]at z4
  have z5:w3.heap.size<w4.heap.size:=by omega
  have cu:=hide ((((ae bu).alloc (ae bu).size _).trans (hb4.mono (by rw[World.size_alloc];omega))))
  clear hb4
  go_wp2_with fail
  have HR:=hide (ae H).rows
  have d0:=ah (heap_alloc_new w4 (.cells #[.int .i64 1,.int .i64 vd',.string xd',.int .i64 (cd':Int)] 144)) 0
  have d1:=ah (heap_alloc_new w4 (.cells #[.int .i64 1,.int .i64 vd',.string xd',.int .i64 (cd':Int)] 144)) 1
  have d2:=ah (heap_alloc_new w4 (.cells #[.int .i64 1,.int .i64 vd',.string xd',.int .i64 (cd':Int)] 144)) 2
  have d3:=ah (heap_alloc_new w4 (.cells #[.int .i64 1,.int .i64 vd',.string xd',.int .i64 (cd':Int)] 144)) 3
  simp only[List.getElem?_toArray,List.getElem?_cons_zero,List.getElem?_cons_succ]at d0 d1 d2 d3
  have bj:=hide ((ae cu).alloc (by omega) (.cells #[.int .i64 1,.int .i64 vd',.string xd',.int .i64 (cd':Int)] 144))
  have rP:=hide ((ae HU).trans ((ae bj).mono (ae HU).size))
  refine(ae WA _ l R (ae rP) ((ae H).below (ae bj)) (by omega)).mono ?_
  rintro e w6 ⟨rfl,R6,h6,fr6⟩
  have rQ:=hide (((ae H).below (ae bj)).under fr6 (ae rP) (ae HG).lt)
  have sW:=hide ((aq.of_below (ae bj)).trans fr6)
  have H6:=hide h6
  have z6:=fr6.size
  rw[World.size_alloc]at z6
  have r3:¬R w3.heap.size:=fun q=>by have:=(ae HR _ q).2;omega
  have r4:¬R w4.heap.size:=fun q=>by have:=(ae HR _ q).2;omega
  have g0:=(fr6.cell (p:=⟨w3.heap.size,0,none⟩) (by rw[World.size_alloc];dsimp only;omega) r3).trans ((World.cell?_alloc_past _ _ _ z5).trans f0)
  have g1:=(fr6.cell (p:=⟨w3.heap.size,1,none⟩) (by rw[World.size_alloc];dsimp only;omega) r3).trans ((World.cell?_alloc_past _ _ _ z5).trans f1)
  have g2:=(fr6.cell (p:=⟨w3.heap.size,2,none⟩) (by rw[World.size_alloc];dsimp only;omega) r3).trans ((World.cell?_alloc_past _ _ _ z5).trans f2)
  have g3:=(fr6.cell (p:=⟨w3.heap.size,3,none⟩) (by rw[World.size_alloc];dsimp only;omega) r3).trans ((World.cell?_alloc_past _ _ _ z5).trans f3)
  have k0:=(fr6.cell (p:=⟨w4.heap.size,0,none⟩) (by rw[World.size_alloc];dsimp only;omega) r4).trans d0
  have k1:=(fr6.cell (p:=⟨w4.heap.size,1,none⟩) (by rw[World.size_alloc];dsimp only;omega) r4).trans d1
  have k2:=(fr6.cell (p:=⟨w4.heap.size,2,none⟩) (by rw[World.size_alloc];dsimp only;omega) r4).trans d2
  have k3:=(fr6.cell (p:=⟨w4.heap.size,3,none⟩) (by rw[World.size_alloc];dsimp only;omega) r4).trans d3
  have iJ:=hide (fr6.not (k:=w3.heap.size) (by rw[World.size_alloc];omega) r3)
  have jg:=hide (fr6.not (k:=w4.heap.size) (by rw[World.size_alloc];omega) r4)
  clear h6 fr6 f0 f1 f2 f3 d0 d1 d2 d3 r3 r4
  have z63:w3.heap.size<w6.heap.size:=by omega
  have z64:w4.heap.size<w6.heap.size:=by omega
  go_wp2_with fail
  refine(ae WB _ (l.aU (T a)) R6 (ae rQ) (by rw[Zf.Wn.gT];exact ae H6) (by have:=l.jm (T a);omega)).mono ?_
  rintro e w7 ⟨rfl,R7,h7,fr7⟩
  have h7:cO w7 lb S ((l.aU (T a)).aU (T b)).wt (l.aU (T a)).no R7:=h7
  rw[show (l.aU (T a)).no=l.no from Zf.Wn.gT _ _]at h7
  have Ij:=hide ((ae H6).under fr7 (ae rQ) (ae HG).lt)
  have sX:=hide ((ae sW).trans fr7)
  have H7:=hide (show cO w7 lb S ((l.aU (T a)).aU (T b)).wt l.no R7 from h7)
  have z7:=fr7.size
  have f0:=(fr7.cell (p:=⟨w3.heap.size,0,none⟩) z63 (ae iJ)).trans g0
  have f1:=(fr7.cell (p:=⟨w3.heap.size,1,none⟩) z63 (ae iJ)).trans g1
  have f2:=(fr7.cell (p:=⟨w3.heap.size,2,none⟩) z63 (ae iJ)).trans g2
  have f3:=(fr7.cell (p:=⟨w3.heap.size,3,none⟩) z63 (ae iJ)).trans g3
  have d0:=(fr7.cell (p:=⟨w4.heap.size,0,none⟩) z64 (ae jg)).trans k0
  have d1:=(fr7.cell (p:=⟨w4.heap.size,1,none⟩) z64 (ae jg)).trans k1
  have d2:=(fr7.cell (p:=⟨w4.heap.size,2,none⟩) z64 (ae jg)).trans k2
  have d3:=(fr7.cell (p:=⟨w4.heap.size,3,none⟩) z64 (ae jg)).trans k3
  have z73:w3.heap.size<w7.heap.size:=by omega
  have z74:w4.heap.size<w7.heap.size:=by omega
  clear h7 fr7 g0 g1 g2 g3 k0 k1 k2 k3 iJ jg HR
  go_wp2_with fail
  go_end0
  rw[ae HS]
  exact⟨rfl,R7,by rw[Zf.Wn.gT,Zf.Wn.gT];exact ae H7,ae sX⟩
theorem O0 (u w:World) (lb sb so:Nat) (cs:Array Value) (Ty:TypeId) (D:List Ng) (no:Option Addr) (nc:Nat) (fr:Nat→Nat) (T:Nat→Zf.U) (P R:Nat→Prop) (S:List Int) (a b:Nat) (l:Zf.Wn) (hG:gj u lb sb so cs Ty D no nc fr T P) (hu:Below u.heap.size u w) (h:cO w lb S l.wt l.no R) (ha:a<D.length) (hb:b<D.length) (he:fr a≠fr b) (hl:l.wt.length+2*Zf.size (T a)≤100000000) (da db:Ng) (fV:D[fr a]?=some da) (fW:D[fr b]?=some db) (k1:da.k≠1) (k2:db.k≠1) (hx:¬(da.k=db.k∧da.val=db.val∧da.tx=db.tx∧da.cnt=db.cnt)):
 Calls Tryz.prog 124 #[.pointer (some ⟨lb,0,none⟩),.pointer (some ⟨sb,so,none⟩),.int .i64 (a:Int),.int .i64 (b:Int)] w fun e w'=>Ih lb S (Zf.cmpU (T a) (T b) l) R w e w':=by
 obtain⟨ka,hka⟩:=hG.ok.hop a ha
 obtain⟨kb,hkb⟩:=hG.ok.hop b hb
 obtain⟨ja,lL⟩:=hG.ok.qX ha
 obtain⟨jb,hjb⟩:=hG.ok.qX hb
 have va:=hG.lW ha fV
 have vb:=hG.lW hb fW
 have FA:=hide (fun W (hu:Below u.heap.size u W)=>dR W sb so cs Ty D no nc a (fr a) ka (hG.at hu) hka)
 have FB:=hide (fun W (hu:Below u.heap.size u W)=>dR W sb so cs Ty D no nc b (fr b) kb (hG.at hu) hkb)
 have LA:=hide (fun W (hu:Below u.heap.size u W)=>dS W sb so cs Ty D no nc (fr a) (fr a) ja da (hG.at hu) lL fV)
 have LB:=hide (fun W (hu:Below u.heap.size u W)=>dS W sb so cs Ty D no nc (fr b) (fr b) jb db (hG.at hu) hjb fW)
 have WA:=hide (fun W (k:Zf.Wn) R (hu:Below u.heap.size u W) (h:cO W lb S k.wt k.no R) (hl:k.wt.length≤100000000)=>jF W lb sb so cs Ty D no nc R S k.wt k.no (fr a) (fr a) ja da (T a) (hG.at hu) lL fV va.2 (fun q=>Bool.eq_false_iff.2 fun r=>q (va.1.2 r)) h hl)
 have WB:=hide (fun W (k:Zf.Wn) R (hu:Below u.heap.size u W) (h:cO W lb S k.wt k.no R) (hl:k.wt.length≤100000000)=>jF W lb sb so cs Ty D no nc R S k.wt k.no (fr b) (fr b) jb db (T b) (hG.at hu) hjb fW vb.2 (fun q=>Bool.eq_false_iff.2 fun r=>q (vb.1.2 r)) h hl)
 have hps:=Zf.size_pos (T a)
 have hl0:l.wt.length+2≤100000000:=by omega
 have t0:(((fr a:Nat):Int) == ((fr b:Nat):Int))=false:=by simp;omega
 have HG:=hide hG
 have HU:=hide hu
 have H:=hide h
 obtain⟨_,e1,oa,ma,_,na⟩:=hG.node ha
 rw[fV]at e1
 cases e1
 obtain⟨_,e2,ob,mb,_,nb⟩:=hG.node hb
 rw[fW]at e2
 cases e2
 obtain⟨ua,xa,ia,la,ea⟩:=na k1
 obtain⟨ub,xb,ib,lb',eb⟩:=nb k2
 have rR:=hide (show ((l.aU (T a)).aU (T b)).wt=l.wt by rw[ea,eb];rfl)
 have HS:=hide (show Zf.cmpU (T a) (T b) l=l.bad by
  rw[ea,eb]
  refine Zf.KI l fun q=>hx ((ux oa ob k1 k2).1 ⟨?_,?_⟩)
  ·rw[la,lb',q.1,q.2.1,q.2.2.1]
  ·have:=q.2.2.2;rw[List.length_map,List.length_map]at this;exact this)
 have Uh:=hide hx
 have t1:(da.k == 1)=false:=by simpa using k1
 have t2:(db.k == 1)=false:=by simpa using k2
 obtain⟨kd,vd,xd,cd,od,pd,gd,nd,md⟩:=da
 obtain⟨kd',vd',xd',cd',od',pd',gd',nd',md'⟩:=db
 dsimp only at LA LB t1 t2 Uh
 clear hG hu h ha hb he hl fV fW hka hkb lL hjb va vb hps oa ob ma mb na nb la lb' ea eb k1 k2 hx
 generalize fr a=p at*
 generalize fr b=q at*
 go_enter Tryz.func124,Tryz.ntmps124
 go_wp2_with fail
 refine(ae FA _ (ae HU)).mono ?_
 rintro e w2 ⟨rfl,rfl⟩
 unfold aJ
 go_wp2_with fail
 refine(ae FB _ (ae HU)).mono ?_
 rintro e w2 ⟨rfl,rfl⟩
 unfold aJ
 go_wp2_with fail
 refine(ae LA _ (ae HU)).mono ?_
 rintro e w3 ⟨rfl,hb3⟩
 have bu:=hide hb3
 have qF:=hide ((ae HU).trans (hb3.mono (ae HU).size))
 clear hb3
 go_wp2_with fail
 refine(ae LB _ ((ae qF).alloc (Nat.le_trans (ae HU).size (ae bu).size) _)).mono ?_
 rintro e w4 ⟨rfl,hb4⟩
 have f0:=(hb4.cell (p:=⟨w3.heap.size,0,none⟩) (by simp)).trans (ah (heap_alloc_new w3 _) 0)
 have f1:=(hb4.cell (p:=⟨w3.heap.size,1,none⟩) (by simp)).trans (ah (heap_alloc_new w3 _) 1)
 have f2:=(hb4.cell (p:=⟨w3.heap.size,2,none⟩) (by simp)).trans (ah (heap_alloc_new w3 _) 2)
 have f3:=(hb4.cell (p:=⟨w3.heap.size,3,none⟩) (by simp)).trans (ah (heap_alloc_new w3 _) 3)
 simp only[List.getElem?_toArray,List.getElem?_cons_zero,List.getElem?_cons_succ]at f0 f1 f2 f3
 have z3:=(ae bu).size
 have z4:=hb4.size
 rw[World.size_alloc]at z4
 have z5:w3.heap.size<w4.heap.size:=by omega
 have cu:=hide ((((ae bu).alloc (ae bu).size _).trans (hb4.mono (by rw[World.size_alloc];omega))))
 clear hb4
 go_wp2_with fail
 have HR:=hide (ae H).rows
 have d0:=ah (heap_alloc_new w4 (.cells #[.int .i64 kd',.int .i64 vd',.string xd',.int .i64 (cd':Int)] 144)) 0
 have d1:=ah (heap_alloc_new w4 (.cells #[.int .i64 kd',.int .i64 vd',.string xd',.int .i64 (cd':Int)] 144)) 1
 have d2:=ah (heap_alloc_new w4 (.cells #[.int .i64 kd',.int .i64 vd',.string xd',.int .i64 (cd':Int)] 144)) 2
 have d3:=ah (heap_alloc_new w4 (.cells #[.int .i64 kd',.int .i64 vd',.string xd',.int .i64 (cd':Int)] 144)) 3
 simp only[List.getElem?_toArray,List.getElem?_cons_zero,List.getElem?_cons_succ]at d0 d1 d2 d3
 have bj:=hide ((ae cu).alloc (by omega) (.cells #[.int .i64 kd',.int .i64 vd',.string xd',.int .i64 (cd':Int)] 144))
 have rP:=hide ((ae HU).trans ((ae bj).mono (ae HU).size))
 refine(ae WA _ l R (ae rP) ((ae H).below (ae bj)) (by omega)).mono ?_
 rintro e w6 ⟨rfl,R6,h6,fr6⟩
 have rQ:=hide (((ae H).below (ae bj)).under fr6 (ae rP) (ae HG).lt)
 have sW:=hide ((aq.of_below (ae bj)).trans fr6)
 have H6:=hide h6
 have z6:=fr6.size
 rw[World.size_alloc]at z6
 have r3:¬R w3.heap.size:=fun q=>by have:=(ae HR _ q).2;omega
 have r4:¬R w4.heap.size:=fun q=>by have:=(ae HR _ q).2;omega
 have g0:=(fr6.cell (p:=⟨w3.heap.size,0,none⟩) (by rw[World.size_alloc];dsimp only;omega) r3).trans ((World.cell?_alloc_past _ _ _ z5).trans f0)
 have g1:=(fr6.cell (p:=⟨w3.heap.size,1,none⟩) (by rw[World.size_alloc];dsimp only;omega) r3).trans ((World.cell?_alloc_past _ _ _ z5).trans f1)
 have g2:=(fr6.cell (p:=⟨w3.heap.size,2,none⟩) (by rw[World.size_alloc];dsimp only;omega) r3).trans ((World.cell?_alloc_past _ _ _ z5).trans f2)
 have g3:=(fr6.cell (p:=⟨w3.heap.size,3,none⟩) (by rw[World.size_alloc];dsimp only;omega) r3).trans ((World.cell?_alloc_past _ _ _ z5).trans f3)
 have k0:=(fr6.cell (p:=⟨w4.heap.size,0,none⟩) (by rw[World.size_alloc];dsimp only;omega) r4).trans d0
 have k1:=(fr6.cell (p:=⟨w4.heap.size,1,none⟩) (by rw[World.size_alloc];dsimp only;omega) r4).trans d1
 have k2:=(fr6.cell (p:=⟨w4.heap.size,2,none⟩) (by rw[World.size_alloc];dsimp only;omega) r4).trans d2
 have k3:=(fr6.cell (p:=⟨w4.heap.size,3,none⟩) (by rw[World.size_alloc];dsimp only;omega) r4).trans d3
 have iJ:=hide (fr6.not (k:=w3.heap.size) (by rw[World.size_alloc];omega) r3)
 have jg:=hide (fr6.not (k:=w4.heap.size) (by rw[World.size_alloc];omega) r4)
 clear h6 fr6 f0 f1 f2 f3 d0 d1 d2 d3 r3 r4
 have z63:w3.heap.size<w6.heap.size:=by omega
 have z64:w4.heap.size<w6.heap.size:=by omega
 go_wp2_with fail
 refine(ae WB _ (l.aU (T a)) R6 (ae rQ) (by rw[Zf.Wn.gT];exact ae H6) (by have:=l.jm (T a);omega)).mono ?_
 rintro e w7 ⟨rfl,R7,h7,fr7⟩
 have h7:cO w7 lb S ((l.aU (T a)).aU (T b)).wt (l.aU (T a)).no R7:=h7
 rw[show (l.aU (T a)).no=l.no from Zf.Wn.gT _ _]at h7
 have Ij:=hide ((ae H6).under fr7 (ae rQ) (ae HG).lt)
 have sX:=hide ((ae sW).trans fr7)
 have H7:=hide (show cO w7 lb S ((l.aU (T a)).aU (T b)).wt l.no R7 from h7)
 have z7:=fr7.size
 have f0:=(fr7.cell (p:=⟨w3.heap.size,0,none⟩) z63 (ae iJ)).trans g0
 have f1:=(fr7.cell (p:=⟨w3.heap.size,1,none⟩) z63 (ae iJ)).trans g1
 have f2:=(fr7.cell (p:=⟨w3.heap.size,2,none⟩) z63 (ae iJ)).trans g2
 have f3:=(fr7.cell (p:=⟨w3.heap.size,3,none⟩) z63 (ae iJ)).trans g3
 have d0:=(fr7.cell (p:=⟨w4.heap.size,0,none⟩) z64 (ae jg)).trans k0
 have d1:=(fr7.cell (p:=⟨w4.heap.size,1,none⟩) z64 (ae jg)).trans k1
 have d2:=(fr7.cell (p:=⟨w4.heap.size,2,none⟩) z64 (ae jg)).trans k2
 have d3:=(fr7.cell (p:=⟨w4.heap.size,3,none⟩) z64 (ae jg)).trans k3
 have z73:w3.heap.size<w7.heap.size:=by omega
 have z74:w4.heap.size<w7.heap.size:=by omega
 clear h7 fr7 g0 g1 g2 g3 k0 k1 k2 k3 iJ jg HR
 rw[ae rR]at H7
 obtain⟨so',sc,wo,wc,hlo,rfl⟩:=(ae H7)
 have s2:=ah hlo.blk 2
 have sf:=au hlo.blk 2
 have sz:=af hlo.blk
 simp only[List.getElem?_toArray,List.getElem?_cons_zero,List.getElem?_cons_succ]at s2
 have lM:=hide hlo
 clear hlo rR
 go_wp2_with fail
 all_goals first
  | (exfalso;exact ae Uh ⟨by assumption,by assumption,toList_inj (by assumption),by omega⟩)
  | (go_end0;rw[ae HS];exact⟨rfl,_,⟨so',sc,wo,wc,(ae lM).bad.1,rfl⟩,(ae sX).trans (ae lM).bad.2⟩)
def Ui (lb:Nat) (S:List Int) (T:Nat→Zf.U) (ga gb:List Nat) (l:Zf.Wn) (R:Nat→Prop) (w:World) (k:Nat) (iv:Value) (wr:World):Prop:=
 ∃(j:Nat) (R':Nat→Prop),k+j=ga.length∧iv= .int .i64 (j:Int)∧cO wr lb S (Zf.cmpUL ((ga.map T).take j) ((gb.map T).take j) l).wt (Zf.cmpUL ((ga.map T).take j) ((gb.map T).take j) l).no R'∧aq R R' w wr
theorem aY.at {w:World} {D:List Ng} {P:Nat→Prop} (h:aY w D P) {d:Ng} (hd:d∈D) (hn:d.args≠[]):∃g,d.ao=some ⟨g,0,none⟩∧g<w.heap.size∧∀i (hi:i<d.args.length),w.cell? ⟨g,i,none⟩=some (.int .i64 (d.args[i]:Int)):=by
 obtain⟨g,cs,h1,_,h3,h4⟩:=h d hd hn
 refine⟨g,h1,af h3,fun i hi=> ?_⟩
 rw[ah h3,←Array.getElem?_toList,←List.getElem?_take_of_lt hi,h4,List.getElem?_map,List.getElem?_eq_getElem hi]
 rfl
theorem KY {s:Nat} (IH:Ii s) (u w:World) (lb sb so:Nat) (cs:Array Value) (Ty:TypeId) (D:List Ng) (no:Option Addr) (nc:Nat) (fr:Nat→Nat) (T:Nat→Zf.U) (P R:Nat→Prop) (S:List Int) (a b:Nat) (l:Zf.Wn) (hG:gj u lb sb so cs Ty D no nc fr T P) (hu:Below u.heap.size u w) (h:cO w lb S l.wt l.no R) (ha:a<D.length) (hb:b<D.length) (he:fr a≠fr b) (hl:l.wt.length+2*Zf.size (T a)≤100000000) (da db:Ng) (fV:D[fr a]?=some da) (fW:D[fr b]?=some db) (hsz:Zf.size (T a)≤s+1) (k1:da.k≠1) (k2:db.k≠1) (hx:da.k=db.k∧da.val=db.val∧da.tx=db.tx∧da.cnt=db.cnt):
 Calls Tryz.prog 124 #[.pointer (some ⟨lb,0,none⟩),.pointer (some ⟨sb,so,none⟩),.int .i64 (a:Int),.int .i64 (b:Int)] w fun e w'=>Ih lb S (Zf.cmpU (T a) (T b) l) R w e w':=by
 obtain⟨ka,hka⟩:=hG.ok.hop a ha
 obtain⟨kb,hkb⟩:=hG.ok.hop b hb
 obtain⟨ja,lL⟩:=hG.ok.qX ha
 obtain⟨jb,hjb⟩:=hG.ok.qX hb
 have va:=hG.lW ha fV
 have vb:=hG.lW hb fW
 have FA:=hide (fun W (hu:Below u.heap.size u W)=>dR W sb so cs Ty D no nc a (fr a) ka (hG.at hu) hka)
 have FB:=hide (fun W (hu:Below u.heap.size u W)=>dR W sb so cs Ty D no nc b (fr b) kb (hG.at hu) hkb)
 have LA:=hide (fun W (hu:Below u.heap.size u W)=>dS W sb so cs Ty D no nc (fr a) (fr a) ja da (hG.at hu) lL fV)
 have LB:=hide (fun W (hu:Below u.heap.size u W)=>dS W sb so cs Ty D no nc (fr b) (fr b) jb db (hG.at hu) hjb fW)
 have WA:=hide (fun W (k:Zf.Wn) R (hu:Below u.heap.size u W) (h:cO W lb S k.wt k.no R) (hl:k.wt.length≤100000000)=>jF W lb sb so cs Ty D no nc R S k.wt k.no (fr a) (fr a) ja da (T a) (hG.at hu) lL fV va.2 (fun q=>Bool.eq_false_iff.2 fun r=>q (va.1.2 r)) h hl)
 have WB:=hide (fun W (k:Zf.Wn) R (hu:Below u.heap.size u W) (h:cO W lb S k.wt k.no R) (hl:k.wt.length≤100000000)=>jF W lb sb so cs Ty D no nc R S k.wt k.no (fr b) (fr b) jb db (T b) (hG.at hu) hjb fW vb.2 (fun q=>Bool.eq_false_iff.2 fun r=>q (vb.1.2 r)) h hl)
 have hps:=Zf.size_pos (T a)
 have hl0:l.wt.length+2≤100000000:=by omega
 have t0:(((fr a:Nat):Int) == ((fr b:Nat):Int))=false:=by simp;omega
 have HG:=hide hG
 have HU:=hide hu
 have H:=hide h
 obtain⟨_,e1,oa,ma,_,na⟩:=hG.node ha
 rw[fV]at e1
 cases e1
 obtain⟨_,e2,ob,mb,_,nb⟩:=hG.node hb
 rw[fW]at e2
 cases e2
 obtain⟨ua,xa,ia,la,ea⟩:=na k1
 obtain⟨ub,xb,ib,lb',eb⟩:=nb k2
 have rR:=hide (show ((l.aU (T a)).aU (T b)).wt=l.wt by rw[ea,eb];rfl)
 obtain⟨le,ll⟩:=(ux oa ob k1 k2).2 hx
 have HS:=hide (show Zf.cmpU (T a) (T b) l=Zf.cmpUL (da.args.map T) (db.args.map T) l by
  rw[la,lb']at le
  injection le with le
  injection le with u1 le
  injection le with u2 u3
  subst u1 u2 u3
  rw[ea,eb]
  exact Zf.Hc l (by rw[List.length_map,List.length_map];exact ll))
 have ql:Zf.size (T a)=1+Zf.sizeL (da.args.map T):=by rw[ea,Zf.size];try omega
 have AA:=hide (fun W (hu:Below u.heap.size u W)=>mg W sb so cs Ty D no nc (fr a) (fr a) ja da (hG.at hu) lL fV)
 have AB:=hide (fun W (hu:Below u.heap.size u W)=>mg W sb so cs Ty D no nc (fr b) (fr b) jb db (hG.at hu) hjb fW)
 have CA:=hide (fun q=>hG.ar.at ma q)
 have CB:=hide (fun q=>hG.ar.at mb q)
 have IA:=hide oa.inn
 have IB:=hide ob.inn
 have h3:da.args.length≤3:=oa.few
 have H3:=hide h3
 have t1:(da.k == 1)=false:=by simpa using k1
 have t2:(db.k == 1)=false:=by simpa using k2
 have HX:=hide hx
 obtain⟨kd,vd,xd,cd,od,pd,gd,nd,md⟩:=da
 obtain⟨kd',vd',xd',cd',od',pd',gd',nd',md'⟩:=db
 dsimp only at LA LB t1 t2 hx AA AB CA CB IA IB HS ll ql H3
 obtain⟨rfl,rfl,rfl,rfl⟩:=hx
 rw[←ll]at AB
 have xj:=hide ll
 have yq:=hide ql
 have jv:=hide hsz
 have HL:=hide hl
 have I:=hide IH
 clear hG hu h ha hb he hl fV fW hka hkb lL hjb va vb hps oa ob ma mb na nb la lb' ea eb k1 k2 h3 ll le ql hsz IH HX
 generalize fr a=p at*
 generalize fr b=q at*
 go_enter Tryz.func124,Tryz.ntmps124
 go_wp2_with fail
 refine(ae FA _ (ae HU)).mono ?_
 rintro e w2 ⟨rfl,rfl⟩
 unfold aJ
 go_wp2_with fail
 refine(ae FB _ (ae HU)).mono ?_
 rintro e w2 ⟨rfl,rfl⟩
 unfold aJ
 go_wp2_with fail
 refine(ae LA _ (ae HU)).mono ?_
 rintro e w3 ⟨rfl,hb3⟩
 have bu:=hide hb3
 have qF:=hide ((ae HU).trans (hb3.mono (ae HU).size))
 clear hb3
 go_wp2_with fail
 refine(ae LB _ ((ae qF).alloc (Nat.le_trans (ae HU).size (ae bu).size) _)).mono ?_
 rintro e w4 ⟨rfl,hb4⟩
 have f0:=(hb4.cell (p:=⟨w3.heap.size,0,none⟩) (by simp)).trans (ah (heap_alloc_new w3 _) 0)
 have f1:=(hb4.cell (p:=⟨w3.heap.size,1,none⟩) (by simp)).trans (ah (heap_alloc_new w3 _) 1)
 have f2:=(hb4.cell (p:=⟨w3.heap.size,2,none⟩) (by simp)).trans (ah (heap_alloc_new w3 _) 2)
 have f3:=(hb4.cell (p:=⟨w3.heap.size,3,none⟩) (by simp)).trans (ah (heap_alloc_new w3 _) 3)
 simp only[List.getElem?_toArray,List.getElem?_cons_zero,List.getElem?_cons_succ]at f0 f1 f2 f3
 have z3:=(ae bu).size
 have z4:=hb4.size
 rw[World.size_alloc]at z4
 have z5:w3.heap.size<w4.heap.size:=by omega
 have cu:=hide ((((ae bu).alloc (ae bu).size _).trans (hb4.mono (by rw[World.size_alloc];omega))))
 clear hb4
 go_wp2_with fail
 have HR:=hide (ae H).rows
 have d0:=ah (heap_alloc_new w4 (.cells #[.int .i64 kd,.int .i64 vd,.string xd,.int .i64 (cd:Int)] 144)) 0
 have d1:=ah (heap_alloc_new w4 (.cells #[.int .i64 kd,.int .i64 vd,.string xd,.int .i64 (cd:Int)] 144)) 1
 have d2:=ah (heap_alloc_new w4 (.cells #[.int .i64 kd,.int .i64 vd,.string xd,.int .i64 (cd:Int)] 144)) 2
 have d3:=ah (heap_alloc_new w4 (.cells #[.int .i64 kd,.int .i64 vd,.string xd,.int .i64 (cd:Int)] 144)) 3
 simp only[List.getElem?_toArray,List.getElem?_cons_zero,List.getElem?_cons_succ]at d0 d1 d2 d3
 have bj:=hide ((ae cu).alloc (by omega) (.cells #[.int .i64 kd,.int .i64 vd,.string xd,.int .i64 (cd:Int)] 144))
 have rP:=hide ((ae HU).trans ((ae bj).mono (ae HU).size))
 refine(ae WA _ l R (ae rP) ((ae H).below (ae bj)) (by omega)).mono ?_
 rintro e w6 ⟨rfl,R6,h6,fr6⟩
 have rQ:=hide (((ae H).below (ae bj)).under fr6 (ae rP) (ae HG).lt)
 have sW:=hide ((aq.of_below (ae bj)).trans fr6)
 have H6:=hide h6
 have z6:=fr6.size
 rw[World.size_alloc]at z6
 have r3:¬R w3.heap.size:=fun q=>by have:=(ae HR _ q).2;omega
 have r4:¬R w4.heap.size:=fun q=>by have:=(ae HR _ q).2;omega
 have g0:=(fr6.cell (p:=⟨w3.heap.size,0,none⟩) (by rw[World.size_alloc];dsimp only;omega) r3).trans ((World.cell?_alloc_past _ _ _ z5).trans f0)
 have g1:=(fr6.cell (p:=⟨w3.heap.size,1,none⟩) (by rw[World.size_alloc];dsimp only;omega) r3).trans ((World.cell?_alloc_past _ _ _ z5).trans f1)
 have g2:=(fr6.cell (p:=⟨w3.heap.size,2,none⟩) (by rw[World.size_alloc];dsimp only;omega) r3).trans ((World.cell?_alloc_past _ _ _ z5).trans f2)
 have g3:=(fr6.cell (p:=⟨w3.heap.size,3,none⟩) (by rw[World.size_alloc];dsimp only;omega) r3).trans ((World.cell?_alloc_past _ _ _ z5).trans f3)
 have k0:=(fr6.cell (p:=⟨w4.heap.size,0,none⟩) (by rw[World.size_alloc];dsimp only;omega) r4).trans d0
 have k1:=(fr6.cell (p:=⟨w4.heap.size,1,none⟩) (by rw[World.size_alloc];dsimp only;omega) r4).trans d1
 have k2:=(fr6.cell (p:=⟨w4.heap.size,2,none⟩) (by rw[World.size_alloc];dsimp only;omega) r4).trans d2
 have k3:=(fr6.cell (p:=⟨w4.heap.size,3,none⟩) (by rw[World.size_alloc];dsimp only;omega) r4).trans d3
 have iJ:=hide (fr6.not (k:=w3.heap.size) (by rw[World.size_alloc];omega) r3)
 have jg:=hide (fr6.not (k:=w4.heap.size) (by rw[World.size_alloc];omega) r4)
 clear h6 fr6 f0 f1 f2 f3 d0 d1 d2 d3 r3 r4
 have z63:w3.heap.size<w6.heap.size:=by omega
 have z64:w4.heap.size<w6.heap.size:=by omega
 go_wp2_with fail
 refine(ae WB _ (l.aU (T a)) R6 (ae rQ) (by rw[Zf.Wn.gT];exact ae H6) (by have:=l.jm (T a);omega)).mono ?_
 rintro e w7 ⟨rfl,R7,h7,fr7⟩
 have h7:cO w7 lb S ((l.aU (T a)).aU (T b)).wt (l.aU (T a)).no R7:=h7
 rw[show (l.aU (T a)).no=l.no from Zf.Wn.gT _ _]at h7
 have Ij:=hide ((ae H6).under fr7 (ae rQ) (ae HG).lt)
 have sX:=hide ((ae sW).trans fr7)
 have H7:=hide (show cO w7 lb S ((l.aU (T a)).aU (T b)).wt l.no R7 from h7)
 have z7:=fr7.size
 have f0:=(fr7.cell (p:=⟨w3.heap.size,0,none⟩) z63 (ae iJ)).trans g0
 have f1:=(fr7.cell (p:=⟨w3.heap.size,1,none⟩) z63 (ae iJ)).trans g1
 have f2:=(fr7.cell (p:=⟨w3.heap.size,2,none⟩) z63 (ae iJ)).trans g2
 have f3:=(fr7.cell (p:=⟨w3.heap.size,3,none⟩) z63 (ae iJ)).trans g3
 have d0:=(fr7.cell (p:=⟨w4.heap.size,0,none⟩) z64 (ae jg)).trans k0
 have d1:=(fr7.cell (p:=⟨w4.heap.size,1,none⟩) z64 (ae jg)).trans k1
 have d2:=(fr7.cell (p:=⟨w4.heap.size,2,none⟩) z64 (ae jg)).trans k2
 have d3:=(fr7.cell (p:=⟨w4.heap.size,3,none⟩) z64 (ae jg)).trans k3
 have z73:w3.heap.size<w7.heap.size:=by omega
 have z74:w4.heap.size<w7.heap.size:=by omega
 clear h7 fr7 g0 g1 g2 g3 k0 k1 k2 k3 iJ jg HR
 rw[ae rR]at H7
 go_wp2_with fail
 have HST:=hide (show Ui lb S T gd gd' l R w2 gd.length (.int .i64 0) w7 from ⟨0,R7,by omega,rfl,by simpa [Zf.cmpUL] using ae H7,ae sX⟩)
 clear f0 f1 f2 f3 d0 d1 d2 d3 z3 z4 z5 bu qF cu FA FB LA LB WA WB rR t0 t1 t2
 refine(ae AA _ (ae Ij)).mono ?_
 rintro e w9 ⟨rfl,rfl⟩
 go_wp2_with fail
 refine(ae AB _ (ae Ij)).mono ?_
 rintro e w9 ⟨rfl,rfl⟩
 go_wp2_with fail
 clear AA AB bj rP rQ sW H6 sX H7
 go_loopg [14] gd.length (fun k iv wr=>Ui lb S T gd gd' l R w2 k iv wr)
 case atStart=>exact ae HST
 case round=>
  clear HST
  obtain⟨j,R',hkj,rfl,hlo,ct⟩:=hrel
  have lN:=(ae H).under ct (ae HU) (ae HG).lt
  by_cases hlt:j<gd.length
  ·have hjb:j<gd'.length:=by have:=ae xj;omega
   obtain⟨pA,eA,zA,cA⟩:=ae CA (fun q=>by rw[q]at hlt;simp at hlt)
   obtain⟨pB,eB,zB,cB⟩:=ae CB (fun q=>by rw[q]at hjb;simp at hjb)
   subst eA eB
   have f0:=(lN.cell (p:=⟨pA,j,none⟩) zA).trans (cA j hlt)
   have f1:=(lN.cell (p:=⟨pB,j,none⟩) zB).trans (cB j hjb)
   have Ea:=hide (show∀w',Below u.heap.size u w'→w'.cell? ⟨pA,j,none⟩=some (.int .i64 (gd[j]:Int))∧w'.cell? ⟨pB,j,none⟩=some (.int .i64 (gd'[j]:Int))from fun w' hb=>⟨(hb.cell (p:=⟨pA,j,none⟩) zA).trans (cA j hlt),(hb.cell (p:=⟨pB,j,none⟩) zB).trans (cB j hjb)⟩)
   have Qe:j<(gd.map T).length:=by rw[List.length_map];exact hlt
   have hlb:j<(gd'.map T).length:=by rw[List.length_map];exact hjb
   have q1:=Zf.Hb ((gd.map T).take j) ((gd'.map T).take j) l
   have q2:=Zf.sizeL_takeR (gd.map T) Qe
   have q3:=Zf.sizeL_take_leR (gd.map T) (j+1)
   rw[List.getElem_map]at q2
   have IC:=hide (ae I u wr.drew lb sb so cs Ty D no nc fr T P R' S gd[j] gd'[j] (Zf.cmpUL ((gd.map T).take j) ((gd'.map T).take j) l) (ae HG) lN.drew (hlo.below (Below.refl _ _).drew) (ae IA _ (List.getElem_mem hlt)) (ae IB _ (List.getElem_mem hjb)) (by have:=ae yq;have:=ae jv;omega) (by have:=ae yq;have:=ae HL;omega))
   have hst:=Zf.cmpUL_take (gd.map T) (gd'.map T) l Qe hlb
   rw[List.getElem_map,List.getElem_map]at hst
   rw[←hst]at IC
   have gB:=hide ct
   have Nh:=hide lN
   have lM:=hide hlo
   have aW:=hide hkj
   have ba:=hide hlt
   generalize gd[j]=na at*
   generalize gd'[j]=nb at*
   have zr:u.heap.size≤wr.heap.size:=lN.size
   have zA':pA<wr.heap.size:=by omega
   have zB':pB<wr.heap.size:=by omega
   have Qf:j≤3:=by have:=ae H3;omega
   have i0:(0:Int)≤(j:Int):=by omega
   have i1:(j:Int)<(gd.length:Int):=by omega
   clear hlo ct lN hkj hlt hjb cA cB q1 q2 q3 hst Qe hlb
   go_wp2_with fail
   go_region_held3 (fun w'=>w'.cell? ⟨pA,j,none⟩=some (.int .i64 (na:Int))∧w'.cell? ⟨pB,j,none⟩=some (.int .i64 (nb:Int))) (go_keep) (first
    | (go_at_call 124;refine(ae IC).mono ?_;rintro e w8 ⟨rfl,R8,h8,fr8⟩;have nQ:=hide ((ae gB).trans ((aq.of_below (Below.refl _ _).drew).trans fr8));obtain⟨k0,k1⟩:=ae Ea w8 ((ae lM).under ((aq.of_below (Below.refl _ _).drew).trans fr8) (ae Nh) (ae HG).lt);have H8:=hide h8;clear h8 fr8))
   all_goals
    go_wp2_with fail
    go_roundg (gk - 1)
    case measure=>have:=ae aW;have:=ae ba;omega
    case rel=>exact⟨j+1,R8,by have:=ae aW;have:=ae ba;omega,by go_num,ae H8,ae nQ⟩
  ·obtain rfl:j=gd.length:=by omega
   have lM:=hide hlo
   have gB:=hide ct
   clear hlo ct lN hkj
   go_wp2_with fail
   go_end0
   rw[ae HS]
   have q1:=ae lM
   rw[List.take_of_length_le (by rw[List.length_map];exact Nat.le_refl _),List.take_of_length_le (by rw[List.length_map];have:=ae xj;omega)]at q1
   exact⟨rfl,R',q1,ae gB⟩
theorem cpG_all:∀s,Ii s
 | 0=>fun _ _ _ _ _ _ _ _ _ _ _ T _ _ _ a _ _ _ _ _ _ _ hs=>by have:=Zf.size_pos (T a);omega
 | s+1=>fun u w lb sb so cs Ty D no nc fr T P R S a b l hG hu h ha hb hs hl=>by
  by_cases he:fr a=fr b
  ·exact KX u w lb sb so cs Ty D no nc fr T P R S a b l hG hu h ha hb he
  ·obtain⟨da,fV,_⟩:=hG.node ha
   obtain⟨db,fW,_⟩:=hG.node hb
   by_cases k1:da.k=1
   ·exact Ed u w lb sb so cs Ty D no nc fr T P R S a b l hG hu h ha hb he hl da db fV fW (Or.inl k1)
   ·by_cases k2:db.k=1
    ·exact Ed u w lb sb so cs Ty D no nc fr T P R S a b l hG hu h ha hb he hl da db fV fW (Or.inr k2)
    ·by_cases hx:da.k=db.k∧da.val=db.val∧da.tx=db.tx∧da.cnt=db.cnt
     ·exact KY (cpG_all s) u w lb sb so cs Ty D no nc fr T P R S a b l hG hu h ha hb he hl da db fV fW hs k1 k2 hx
     ·exact O0 u w lb sb so cs Ty D no nc fr T P R S a b l hG hu h ha hb he hl da db fV fW k1 k2 hx
structure mG (D:List Ng) (TT:Nat→Zf.U) (M:List (List UInt8)) (S:List Int) (st:List (List UInt8×Zf.U)):Prop where
 un:∀(i:Nat) (x:List UInt8),M[i]?=some x→st.find? (fun q=>q.1 == x)=none→S[i]?=none∨S[i]?=some (-1)
 kn:∀(i:Nat) (x:List UInt8) (q:List UInt8×Zf.U),M[i]?=some x→st.find? (fun q=>q.1 == x)=some q→∃n:Nat,S[i]?=some (n:Int)∧n<D.length∧TT n=q.2
theorem mG.room {D:List Ng} {TT:Nat→Zf.U} {M:List (List UInt8)} {S:List Int} {st:List (List UInt8×Zf.U)} (h:mG D TT M S st):mG D TT M (S++[-1]) st:=by
 refine⟨fun i x hx hs=> ?_,fun i x q hx hs=> ?_⟩
 ·rcases h.un i x hx hs with e | e
  ·have:=List.getElem?_eq_none_iff.1 e
   rcases Nat.lt_or_eq_of_le this with q | q
   ·left;simp;omega
   ·right;rw[←q];simp
  ·right
   rw[List.getElem?_append_left (List.getElem?_eq_some_iff.1 e).1]
   exact e
 ·obtain⟨n,e,k⟩:=h.kn i x q hx hs
  refine⟨n,?_,k⟩
  rw[List.getElem?_append_left (List.getElem?_eq_some_iff.1 e).1]
  exact e
theorem mG.put {D:List Ng} {TT:Nat→Zf.U} {M:List (List UInt8)} {S:List Int} {st:List (List UInt8×Zf.U)} (h:mG D TT M S st) (hM:M.Nodup) {i n:Nat} {x:List UInt8} {t:Zf.U} (hx:M[i]?=some x) (hi:i<S.length) (hs:st.find? (fun q=>q.1 == x)=none) (hn:n<D.length) (hw:TT n=t):mG D TT M (S.set i (n:Int)) (st++[(x,t)]):=by
 have inj:∀(k:Nat) (y:List UInt8),M[k]?=some y→k≠i→y≠x:=fun k y hy hk e=>by
  subst e
  obtain⟨h1,h3⟩:=List.getElem?_eq_some_iff.1 hx
  obtain⟨h2,h4⟩:=List.getElem?_eq_some_iff.1 hy
  have hp:=List.pairwise_iff_getElem.1 hM
  rcases Nat.lt_or_gt_of_ne hk with q | q
  ·exact hp _ _ h2 h1 q (h4.trans h3.symm)
  ·exact hp _ _ h1 h2 q (h3.trans h4.symm)
 refine⟨fun k y hy hk=> ?_,fun k y q hy hk=> ?_⟩
 ·rw[List.find?_append]at hk
  have hk1:st.find? (fun q=>q.1 == y)=none:=by
   cases e:st.find? (fun q=>q.1 == y)with
   | none=>rfl
   | some q=>rw[e]at hk;cases hk
  rw[hk1]at hk
  by_cases e:k=i
  ·subst e
   rw[hx]at hy
   cases hy
   simp at hk
  ·rw[List.getElem?_set_ne (Ne.symm e)]
   exact h.un k y hy hk1
 ·rw[List.find?_append]at hk
  by_cases e:k=i
  ·subst e
   rw[hx]at hy
   cases hy
   rw[hs]at hk
   simp at hk
   subst hk
   exact⟨n,by simp[hi],hn,hw⟩
  ·rw[List.getElem?_set_ne (Ne.symm e)]
   refine h.kn k y q hy ?_
   cases e2:st.find? (fun q=>q.1 == y)with
   | some r=>rw[e2]at hk;exact hk
   | none=>
    rw[e2]at hk
    have:=inj k y hy e
    simp at hk
    exact absurd hk.1.symm this
def Ee (lb:Nat) (D:List Ng) (TT:Nat→Zf.U) (M:List (List UInt8)) (l:Zf.bQ) (R:Nat→Prop) (w:World) (e:Ending) (w':World):Prop:=
 e= .returned (.tuple #[])∧∃S' R',cO w' lb S' l.w.wt l.w.no R'∧mG D TT M S' l.st∧S'.length≤M.length∧aq R R' w w'
def Uj (lb:Nat) (D:List Ng) (TT:Nat→Zf.U) (M:List (List UInt8)) (l:Zf.bQ) (R:Nat→Prop) (w:World) (i:Nat) (k:Nat) (wr:World):Prop:=
 ∃(S':List Int) (R':Nat→Prop),k=i+1 - S'.length∧cO wr lb S' l.w.wt l.w.no R'∧mG D TT M S' l.st∧S'.length≤M.length∧aq R R' w wr
theorem TF (u w:World) (lb sb sq:Nat) (cS:Array Value) (Ty:TypeId) (D:List Ng) (nO:Option Addr) (nC:Nat) (fr:Nat→Nat) (TT:Nat→Zf.U) (PP R:Nat→Prop) (M:List (List UInt8)) (S:List Int) (i n:Nat) (x:List UInt8) (l:Zf.bQ) (B:Nat) (hG:gj u lb sb sq cS Ty D nO nC fr TT PP) (hu:Below u.heap.size u w) (h:cO w lb S l.w.wt l.w.no R) (hs:mG D TT M S l.st) (hS:S.length≤M.length) (hM:M.Nodup) (hML:M.length≤100000) (hx:M[i]?=some x) (hn:n<D.length) (hw:l.sm B) (hl:l.w.wt.length+2*B≤100000000):
 Calls Tryz.prog 79 #[.pointer (some ⟨lb,0,none⟩),.pointer (some ⟨sb,sq,none⟩),.int .i64 (i:Int),.int .i64 (n:Int)] w fun e w'=>Ee lb D TT M (l.meet x (TT n)) R w e w':=by
 have HST:=hide (show Uj lb D TT M l R w i (i+1 - S.length) w from ⟨S,R,rfl,h,hs,hS,aq.of_below (Below.refl _ _)⟩)
 have hiM:i<M.length:=(List.getElem?_eq_some_iff.1 hx).1
 have HG:=hide hG
 have HU:=hide hu
 have H:=hide h
 have HM:=hide hM
 have HX:=hide hx
 have HN:=hide hn
 have HW:=hide hw
 have HL:=hide hl
 have t2:decide ((i:Int)<0)=false:=by simp
 obtain⟨tj,hj,hy0,hy1,hy2⟩:=info_parts infoIn
 clear hG hu h hs hS hM hx hn hw hl
 go_enter Tryz.func79,Tryz.ntmps79
 go_wp2_with fail
 go_loopg [] (i+1 - S.length) (fun k wr=>Uj lb D TT M l R w i k wr)
 case atStart=>exact ae HST
 case round=>
  clear HST
  obtain⟨S',R',rfl,hlo,hst,hS',ct⟩:=hrel
  have lN:=(ae H).under ct (ae HU) (ae HG).lt
  obtain⟨so,sc,wo,wc,hlb,rfl⟩:=hlo
  have s0:=ah hlb.blk 0
  have sf:=au hlb.blk 0
  have sz:=af hlb.blk
  simp only[List.getElem?_toArray,List.getElem?_cons_zero]at s0
  have Ef:=hide hlb
  have HST:=hide hst
  have HS':=hide hS'
  have gB:=hide ct
  have Nh:=hide lN
  by_cases hlt:S'.length≤i
  ·have t1:decide ((S'.length:Int)≤(i:Int))=true:=by simp;omega
   have sP:=hide (show some lb≠(Value.slice so S'.length sc).ownBlock from fun q=>by have:=(hlb.sown.lt lb q.symm).1;omega)
   have ba:=hide hlt
   clear hlb hst hS' ct lN hlt
   have hSl:S'.length≤100000:=by have:=ae HS';omega
   go_wp2_with (at_builtin;go_must (refine wpList_append_own_at _ rfl (.tmp 20) (.tmp 21) 25 rfl (lb+1) 3 tj (.int .i64 0) 1 8 Tryz.underlying25 hj hy0 hy1 hy2 rfl (by decide) _ S'.length (S'.map fT) rfl ((ae Ef).sown.alloc _) ⟨wr.heap.size,0,none⟩ 1 1 [.int .i64 (-1)] rfl rfl (ju _ _ _ _ rfl) (by simp[Value.oneCell']) (by unfold maxLen;omega) (by omega) (by simp;omega) ?_);go_must (intro v' w7 hown' hgrow _ hat;obtain⟨g',cap',hv'⟩:=sN hown';subst hv';have HN:=hide ((ae Ef).P5 ((Below.refl _ _).alloc (Nat.le_refl _) _) (n:= -1) hown' hgrow (by rcases hat with q | q;exact Or.inl q.symm;(right;simp[Value.ownBlock]at q;omega)));have k1:=(hgrow.cell_far ⟨lb,0,none⟩ (by simp;omega) (ae sP)).trans ((World.cell?_alloc_past _ _ _ sz).trans s0);have k3:w7.frozen? ⟨lb,0,none⟩=false:=(by have:=au (ae HN).1.blk 0;rwa [World.frozen?_setCell]at this);have zz7:lb<w7.heap.size:=(by have:=af (ae HN).1.blk;rwa [bS]at this);clear hown' hgrow hat))
   go_roundg (i+1 - (S'.length+1))
   case measure=>have:=ae ba;omega
   case rel=>exact⟨S'++[-1],_,by simp,⟨_,_,_,_,(ae HN).1,rfl⟩,(ae HST).room,by have:=ae ba;simp;omega,(ae gB).trans (ae HN).2⟩
  ·have hlt':i<S'.length:=by omega
   have t1:decide ((S'.length:Int)≤(i:Int))=false:=by simp;omega
   obtain⟨g,hg⟩:∃g,so=some ⟨g,0,none⟩:=by
    rcases hlb.sown.2 with⟨q,q2⟩ | ⟨g,cp,cur,q,_⟩
    ·omega
    ·simp only[Value.slice.injEq]at q
     exact⟨g,q.1⟩
   subst hg
   have gz:=(hlb.sown.lt g rfl).2
   have f0:wr.cell? ⟨g,i,none⟩=some (.int .i64 S'[i]):=by
    rw[hlb.sown.cellAt i (by omega),List.getElem?_map,List.getElem?_eq_getElem hlt']
    rfl
   have i0:(0:Int)≤(i:Int):=by omega
   have i1:(i:Int)<(S'.length:Int):=by omega
   cases pR:l.st.find? (fun q=>q.1 == x)with
   | none=>
    have hv:S'[i]= -1:=by
     rcases hst.un i x (ae HX) pR with e | e
     ·rw[List.getElem?_eq_getElem hlt']at e;cases e
     ·rw[List.getElem?_eq_getElem hlt']at e;exact Option.some.inj e
    rw[hv]at f0
    have ff:wr.frozen? ⟨g,i,none⟩=false:=by
     rcases hlb.sown.2 with⟨q,q2⟩ | ⟨g',cp,cur,q,_,q3,_⟩
     ·omega
     ·simp only[Value.slice.injEq,Option.some.injEq,Addr.mk.injEq]at q
      obtain⟨⟨rfl,_⟩,_⟩:=q
      exact au q3 i
    have HS:=hide (show l.meet x (TT n)=⟨l.st++[(x,TT n)],l.w⟩by unfold Zf.bQ.meet;rw[pR])
    have HP:=hide (hlb.put hlt' (n:Int))
    have zq:=hide (hst.put (ae HM) (ae HX) hlt' pR (ae HN) rfl)
    clear hlb hst hS' ct lN hlt hv pR hlt'
    go_wp2_with fail
    go_end0
    rw[ae HS]
    exact⟨rfl,_,_,⟨_,_,_,_,(ae HP).1,rfl⟩,ae zq,by rw[List.length_set];exact ae HS',(ae gB).trans (ae HP).2⟩
   | some q=>
    obtain⟨m,e,hm,Qg⟩:=hst.kn i x q (ae HX) pR
    have hv:S'[i]=(m:Int):=by
     rw[List.getElem?_eq_getElem hlt']at e;exact Option.some.inj e
    rw[hv]at f0
    have t3:((m:Int) == -1)=false:=by simp
    have HS:=hide (show l.meet x (TT n)=⟨l.st,Zf.cmpU (TT m) (TT n) l.w⟩by unfold Zf.bQ.meet;rw[pR,Qg])
    have IC:=hide (cpG_all (Zf.size (TT m)) u wr lb sb sq cS Ty D nO nC fr TT PP _ S' m n l.w (ae HG) lN ⟨_,_,_,_,hlb,rfl⟩ hm (ae HN) (Nat.le_refl _) (by have:=ae HW q (List.mem_of_find?_eq_some pR);rw[←Qg]at this;have:=ae HL;omega))
    clear hlb hst hS' ct lN hlt hv pR hlt' e hm Qg
    go_wp2_with fail
    refine(ae IC).mono ?_
    rintro e w8 ⟨rfl,R8,h8,fr8⟩
    have H8:=hide h8
    have nQ:=hide fr8
    clear h8 fr8
    go_wp2_with fail
    go_end0
    rw[ae HS]
    exact⟨rfl,S',R8,ae H8,ae HST,ae HS',(ae gB).trans (ae nQ)⟩
end Go.Proofs.YthfjnfcekeknlabGreatDoor
