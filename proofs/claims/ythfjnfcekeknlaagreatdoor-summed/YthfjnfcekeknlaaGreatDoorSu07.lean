import Derived.Test.YthfjnfcekeknlaaGreatDoorSu03
import Derived.Test.YthfjnfcekeknlaaGreatDoorSu05
import Derived.Test.YthfjnfcekeknlaaGreatDoorSu06
import Derived.Deep.LoopGhost
import Derived.Deep.RegionHeld3
set_option maxHeartbeats 8000000
set_option maxRecDepth 100000
namespace Go.Proofs.YthfjnfcekeknlaaGreatDoor
open Go.RowKit
structure gA (u:World) (lb sb so:Nat) (cs:Array Value) (Ty:TypeId) (D:List Ng) (no:Option Addr) (nc:Nat) (fr:Nat→Nat) (T:Nat→Za.U) (P:Nat→Prop):Prop where
 st:bI u sb so cs Ty D no nc
 ok:b6 D fr
 to:Za.dG (aX D) fr T
 ar:aZ u D P
 lt:u.heap.size≤lb
section
variable {u:World} {lb sb so:Nat} {cs:Array Value} {Ty:TypeId} {D:List Ng} {no:Option Addr} {nc:Nat} {fr:Nat→Nat} {T:Nat→Za.U} {P:Nat→Prop}
theorem gA.at (h:gA u lb sb so cs Ty D no nc fr T P) {w:World} (hb:Below u.heap.size u w):bI w sb so cs Ty D no nc:=h.st.below hb
theorem gA.node (h:gA u lb sb so cs Ty D no nc fr T P) {n:Nat} (hn:n<D.length):∃d,D[fr n]?=some d∧gH D.length d∧d∈D∧(d.k=1→T n= .v ([],fr n))∧(d.k≠1→∃k tx num,fp d=some (k,tx,num)∧T n= .n k tx num (d.args.map T)):=by
 obtain⟨d,h1,h2,h3,h4,h5⟩:=G8 h.ok hn
 refine⟨d,h1,h2,h5,fun hk=>h.to.var (by rw[h3];exact h2.fY.2 hk),fun hk=> ?_⟩
 obtain⟨p,hp⟩:∃p,fp d=some p:=by
  cases q:fp d with
  | none=>exact absurd (h2.fY.1 q) hk
  | some p=>exact⟨p,rfl⟩
 obtain⟨k,tx,num⟩:=p
 refine⟨k,tx,num,hp,?_⟩
 rw[h.to.reads.front n,h.to.reads.node (fr n) k tx num (by rw[h3,hp]),h4]
theorem gA.pL (h:gA u lb sb so cs Ty D no nc fr T P) {n:Nat} (hn:n<D.length) {d:Ng} (hd:D[fr n]?=some d):(d.k=1↔Za.pL (T n)=true)∧(d.k=1→T n= .v ([],fr n)):=by
 obtain⟨d',h1,h2,h3,h4,h5⟩:=h.node hn
 rw[hd]at h1
 cases h1
 refine⟨⟨fun q=>by rw[h4 q];rfl,fun q=> ?_⟩,h4⟩
 by_cases hk:d.k=1
 ·exact hk
 ·obtain⟨k,tx,num,_,e⟩:=h5 hk
  rw[e]at q
  cases q
end
theorem lX (w:World) (lb sb so:Nat) (cs:Array Value) (Ty:TypeId) (D:List Ng) (no:Option Addr) (nc:Nat) (R:Nat→Prop) (S:List Int) (W:List Nat) (nb:Bool) (n m k:Nat) (d:Ng) (u:Za.U) (hs:bI w sb so cs Ty D no nc) (hop:Hop D n m k) (hd:D[m]?=some d) (hk:d.k=1→u= .v ([],m)) (fI:d.k≠1→Za.pL u=false) (h:dp w lb S W nb R) (hl:W.length≤100000000):
 Calls Tryz.prog 162 #[.pointer (some ⟨lb,0,none⟩),.pointer (some ⟨sb,so,none⟩),.int .i64 (n:Int)] w fun e w'=>e= .returned (.tuple #[])∧∃R',dp w' lb S ((Za.Wn.mk W nb).bP u).wt nb R'∧au R R' w w':=by
 have HL:=af (eY w sb so cs Ty D no nc n m k d hs hop hd)
 have HF:=af (fun w' (hb:Below w.heap.size w w')=>dU w' sb so cs Ty D no nc n m k (hs.below hb) hop)
 have H:=af h
 clear hs hop hd h
 obtain⟨dk,val,tx,cnt,ao,cp,ar,nx,mrk⟩:=d
 dsimp only at HL hk fI
 by_cases fo:dk=1
 ·rw[hk fo]
  subst fo
  show Calls _ _ _ _ fun e w'=>e= .returned (.tuple #[])∧∃R',dp w' lb S (Fc W m) nb R'∧au R R' w w'
  clear hk fI
  go_enter Tryz.func162,Tryz.ntmps162
  go_wp2_with fail
  refine(ae HL).mono ?_
  rintro e w2 ⟨rfl,hb2⟩
  have bf:=af hb2
  have z2:=hb2.size
  clear hb2
  go_wp2_with fail
  refine(ae HF _ ((ae bf).alloc z2 _)).mono ?_
  rintro e w3 ⟨rfl,rfl⟩
  unfold aM
  go_wp2_with fail
  refine(G3 _ lb S W nb R m ((ae H).below ((ae bf).alloc z2 _)) hl).mono ?_
  rintro e w6 ⟨rfl,R6,h6,fr6⟩
  have H6:=af h6
  have Pk:=af fr6
  clear h6 fr6
  go_wp2_with fail
  go_end0
  exact⟨rfl,R6,ae H6,(au.aw ((ae bf).alloc z2 _)).trans (ae Pk)⟩
 ·have t1:(dk == 1)=false:=by simpa using fo
  have HE:=af (show ((Za.Wn.mk W nb).bP u).wt=W by
   have:=fI fo
   cases u with
   | v x=>cases this
   | n k tx num ss=>rfl)
  rw[ae HE]
  clear fo hk fI
  go_enter Tryz.func162,Tryz.ntmps162
  go_wp2_with fail
  refine(ae HL).mono ?_
  rintro e w2 ⟨rfl,hb2⟩
  have bf:=af hb2
  have z2:=hb2.size
  clear hb2
  go_wp2_with fail
  go_end0
  exact⟨rfl,R,(ae H).below ((ae bf).alloc z2 _),au.aw ((ae bf).alloc z2 _)⟩
def Hi (lb:Nat) (S:List Int) (l:Za.Wn) (R:Nat→Prop) (w:World) (e:Ending) (w':World):Prop:=
 e= .returned (.tuple #[])∧∃R',dp w' lb S l.wt l.no R'∧au R R' w w'
def Hj (s:Nat):Prop:=∀(u w:World) (lb sb so:Nat) (cs:Array Value) (Ty:TypeId) (D:List Ng) (no:Option Addr) (nc:Nat) (fr:Nat→Nat) (T:Nat→Za.U) (P R:Nat→Prop) (S:List Int) (a b:Nat) (l:Za.Wn),gA u lb sb so cs Ty D no nc fr T P→Below u.heap.size u w→dp w lb S l.wt l.no R→a<D.length→b<D.length→Za.size (T a)≤s→l.wt.length+2*Za.size (T a)≤100000000→
 Calls Tryz.prog 188 #[.pointer (some ⟨lb,0,none⟩),.pointer (some ⟨sb,so,none⟩),.int .i64 (a:Int),.int .i64 (b:Int)] w fun e w'=>Hi lb S (Za.cmpU (T a) (T b) l) R w e w'
theorem Kk (u w:World) (lb sb so:Nat) (cs:Array Value) (Ty:TypeId) (D:List Ng) (no:Option Addr) (nc:Nat) (fr:Nat→Nat) (T:Nat→Za.U) (P R:Nat→Prop) (S:List Int) (a b:Nat) (l:Za.Wn) (hG:gA u lb sb so cs Ty D no nc fr T P) (hu:Below u.heap.size u w) (h:dp w lb S l.wt l.no R) (ha:a<D.length) (hb:b<D.length) (he:fr a=fr b):
 Calls Tryz.prog 188 #[.pointer (some ⟨lb,0,none⟩),.pointer (some ⟨sb,so,none⟩),.int .i64 (a:Int),.int .i64 (b:Int)] w fun e w'=>Hi lb S (Za.cmpU (T a) (T b) l) R w e w':=by
 have hT:T a=T b:=by rw[hG.to.reads.front a,hG.to.reads.front b,he]
 rw[hT,Za.cmpU_self]
 obtain⟨ka,hka⟩:=hG.ok.hop a ha
 obtain⟨kb,hkb⟩:=hG.ok.hop b hb
 rw[←he]at hkb
 have FA:=af (dU w sb so cs Ty D no nc a (fr a) ka (hG.at hu) hka)
 have FB:=af (dU w sb so cs Ty D no nc b (fr a) kb (hG.at hu) hkb)
 have H:=af h
 clear hG hu h ha hb hka hkb hT he
 generalize fr a=p at*
 go_enter Tryz.func188,Tryz.ntmps188
 go_wp2_with fail
 refine(ae FA).mono ?_
 rintro e w2 ⟨rfl,rfl⟩
 unfold aM at FB⊢
 go_wp2_with fail
 refine(ae FB).mono ?_
 rintro e w2 ⟨rfl,rfl⟩
 go_wp2_with fail
 go_end0
 exact⟨rfl,R,ae H,au.aw (Below.refl _ _)⟩
end Go.Proofs.YthfjnfcekeknlaaGreatDoor
namespace Go.Proofs.YthfjnfcekeknlaaGreatDoor
open Go.RowKit
theorem DM (u w:World) (lb sb so:Nat) (cs:Array Value) (Ty:TypeId) (D:List Ng) (no:Option Addr) (nc:Nat) (fr:Nat→Nat) (T:Nat→Za.U) (P R:Nat→Prop) (S:List Int) (a b:Nat) (l:Za.Wn) (hG:gA u lb sb so cs Ty D no nc fr T P) (hu:Below u.heap.size u w) (h:dp w lb S l.wt l.no R) (ha:a<D.length) (hb:b<D.length) (he:fr a≠fr b) (hl:l.wt.length+2*Za.size (T a)≤100000000) (da db:Ng) (gU:D[fr a]?=some da) (gV:D[fr b]?=some db) (hv:da.k=1∨db.k=1):
 Calls Tryz.prog 188 #[.pointer (some ⟨lb,0,none⟩),.pointer (some ⟨sb,so,none⟩),.int .i64 (a:Int),.int .i64 (b:Int)] w fun e w'=>Hi lb S (Za.cmpU (T a) (T b) l) R w e w':=by
 obtain⟨ka,hka⟩:=hG.ok.hop a ha
 obtain⟨kb,hkb⟩:=hG.ok.hop b hb
 obtain⟨ja,lF⟩:=hG.ok.rq ha
 obtain⟨jb,hjb⟩:=hG.ok.rq hb
 have va:=hG.pL ha gU
 have vb:=hG.pL hb gV
 have FA:=af (fun W (hu:Below u.heap.size u W)=>dU W sb so cs Ty D no nc a (fr a) ka (hG.at hu) hka)
 have FB:=af (fun W (hu:Below u.heap.size u W)=>dU W sb so cs Ty D no nc b (fr b) kb (hG.at hu) hkb)
 have LA:=af (fun W (hu:Below u.heap.size u W)=>eY W sb so cs Ty D no nc (fr a) (fr a) ja da (hG.at hu) lF gU)
 have LB:=af (fun W (hu:Below u.heap.size u W)=>eY W sb so cs Ty D no nc (fr b) (fr b) jb db (hG.at hu) hjb gV)
 have WA:=af (fun W (k:Za.Wn) R (hu:Below u.heap.size u W) (h:dp W lb S k.wt k.no R) (hl:k.wt.length≤100000000)=>lX W lb sb so cs Ty D no nc R S k.wt k.no (fr a) (fr a) ja da (T a) (hG.at hu) lF gU va.2 (fun q=>Bool.eq_false_iff.2 fun r=>q (va.1.2 r)) h hl)
 have WB:=af (fun W (k:Za.Wn) R (hu:Below u.heap.size u W) (h:dp W lb S k.wt k.no R) (hl:k.wt.length≤100000000)=>lX W lb sb so cs Ty D no nc R S k.wt k.no (fr b) (fr b) jb db (T b) (hG.at hu) hjb gV vb.2 (fun q=>Bool.eq_false_iff.2 fun r=>q (vb.1.2 r)) h hl)
 have rU:=Za.size_pos (T a)
 have hl0:l.wt.length+2≤100000000:=by omega
 have t0:(((fr a:Nat):Int) == ((fr b:Nat):Int))=false:=by simp;omega
 have HG:=af hG
 have HU:=af hu
 have H:=af h
 have HS:=af (show Za.cmpU (T a) (T b) l=(l.bP (T a)).bP (T b)from Za.J5 l (hv.imp va.1.1 vb.1.1) (fun x q r=>he (by
  have k1:=va.1.2 (by rw[q];rfl)
  have k2:=vb.1.2 (by rw[r];rfl)
  have e1:=va.2 k1
  have e2:=vb.2 k2
  rw[q]at e1
  rw[r]at e2
  rw[e1]at e2
  injection e2 with e2
  injection e2)))
 obtain⟨kd,vd,xd,cd,od,pd,gd,nd,md⟩:=da
 obtain⟨kd',vd',xd',cd',od',pd',gd',nd',md'⟩:=db
 dsimp only at LA LB hv
 clear hG hu h ha hb he hl gU gV hka hkb lF hjb va vb rU
 generalize fr a=p at*
 generalize fr b=q at*
 by_cases k1:kd=1
 ·subst k1
  clear hv
  go_enter Tryz.func188,Tryz.ntmps188
  go_wp2_with fail
  refine(ae FA _ (ae HU)).mono ?_
  rintro e w2 ⟨rfl,rfl⟩
  unfold aM
  go_wp2_with fail
  refine(ae FB _ (ae HU)).mono ?_
  rintro e w2 ⟨rfl,rfl⟩
  unfold aM
  go_wp2_with fail
  refine(ae LA _ (ae HU)).mono ?_
  rintro e w3 ⟨rfl,hb3⟩
  have bQ:=af hb3
  have qN:=af ((ae HU).trans (hb3.mono (ae HU).size))
  clear hb3
  go_wp2_with fail
  refine(ae LB _ ((ae qN).alloc (Nat.le_trans (ae HU).size (ae bQ).size) _)).mono ?_
  rintro e w4 ⟨rfl,hb4⟩
  have f0:=(hb4.cell (p:=⟨w3.heap.size,0,none⟩) (by simp)).trans (ah (heap_alloc_new w3 _) 0)
  have f1:=(hb4.cell (p:=⟨w3.heap.size,1,none⟩) (by simp)).trans (ah (heap_alloc_new w3 _) 1)
  have f2:=(hb4.cell (p:=⟨w3.heap.size,2,none⟩) (by simp)).trans (ah (heap_alloc_new w3 _) 2)
  have f3:=(hb4.cell (p:=⟨w3.heap.size,3,none⟩) (by simp)).trans (ah (heap_alloc_new w3 _) 3)
  simp only[List.getElem?_toArray,List.getElem?_cons_zero,List.getElem?_cons_succ]at f0 f1 f2 f3
  have z3:=(ae bQ).size
  have z4:=hb4.size
  rw[World.size_alloc]at z4
  have z5:w3.heap.size<w4.heap.size:=by omega
  have dr:=af ((((ae bQ).alloc (ae bQ).size _).trans (hb4.mono (by rw[World.size_alloc];omega))))
  clear hb4
  go_wp2_with fail
  have HR:=af (ae H).rows
  have d0:=ah (heap_alloc_new w4 (.cells #[.int .i64 kd',.int .i64 vd',.string xd',.int .i64 (cd':Int)] 177)) 0
  have d1:=ah (heap_alloc_new w4 (.cells #[.int .i64 kd',.int .i64 vd',.string xd',.int .i64 (cd':Int)] 177)) 1
  have d2:=ah (heap_alloc_new w4 (.cells #[.int .i64 kd',.int .i64 vd',.string xd',.int .i64 (cd':Int)] 177)) 2
  have d3:=ah (heap_alloc_new w4 (.cells #[.int .i64 kd',.int .i64 vd',.string xd',.int .i64 (cd':Int)] 177)) 3
  simp only[List.getElem?_toArray,List.getElem?_cons_zero,List.getElem?_cons_succ]at d0 d1 d2 d3
  have bO:=af ((ae dr).alloc (by omega) (.cells #[.int .i64 kd',.int .i64 vd',.string xd',.int .i64 (cd':Int)] 177))
  have rV:=af ((ae HU).trans ((ae bO).mono (ae HU).size))
  refine(ae WA _ l R (ae rV) ((ae H).below (ae bO)) (by omega)).mono ?_
  rintro e w6 ⟨rfl,R6,h6,fr6⟩
  have rW:=af (((ae H).below (ae bO)).under fr6 (ae rV) (ae HG).lt)
  have tz:=af ((au.aw (ae bO)).trans fr6)
  have H6:=af h6
  have z6:=fr6.size
  rw[World.size_alloc]at z6
  have r3:¬R w3.heap.size:=fun q=>by have:=(ae HR _ q).2;omega
  have r4:¬R w4.heap.size:=fun q=>by have:=(ae HR _ q).2;omega
  have g0:=(fr6.cell (p:=⟨w3.heap.size,0,none⟩) (by rw[World.size_alloc];dsimp only;omega) r3).trans ((World.cell?_alloc_past _ _ _ z5).trans f0)
  have g1:=(fr6.cell (p:=⟨w3.heap.size,1,none⟩) (by rw[World.size_alloc];dsimp only;omega) r3).trans ((World.cell?_alloc_past _ _ _ z5).trans f1)
  have g2:=(fr6.cell (p:=⟨w3.heap.size,2,none⟩) (by rw[World.size_alloc];dsimp only;omega) r3).trans ((World.cell?_alloc_past _ _ _ z5).trans f2)
  have g3:=(fr6.cell (p:=⟨w3.heap.size,3,none⟩) (by rw[World.size_alloc];dsimp only;omega) r3).trans ((World.cell?_alloc_past _ _ _ z5).trans f3)
  have k0:=(fr6.cell (p:=⟨w4.heap.size,0,none⟩) (by rw[World.size_alloc];dsimp only;omega) r4).trans d0
  have k1:=(fr6.cell (p:=⟨w4.heap.size,1,none⟩) (by rw[World.size_alloc];dsimp only;omega) r4).trans d1
  have k2:=(fr6.cell (p:=⟨w4.heap.size,2,none⟩) (by rw[World.size_alloc];dsimp only;omega) r4).trans d2
  have k3:=(fr6.cell (p:=⟨w4.heap.size,3,none⟩) (by rw[World.size_alloc];dsimp only;omega) r4).trans d3
  have iP:=af (fr6.not (k:=w3.heap.size) (by rw[World.size_alloc];omega) r3)
  have jk:=af (fr6.not (k:=w4.heap.size) (by rw[World.size_alloc];omega) r4)
  clear h6 fr6 f0 f1 f2 f3 d0 d1 d2 d3 r3 r4
  have z63:w3.heap.size<w6.heap.size:=by omega
  have z64:w4.heap.size<w6.heap.size:=by omega
  go_wp2_with fail
  refine(ae WB _ (l.bP (T a)) R6 (ae rW) (by rw[Za.Wn.iJ];exact ae H6) (by have:=l.jQ (T a);omega)).mono ?_
  rintro e w7 ⟨rfl,R7,h7,fr7⟩
  have h7:dp w7 lb S ((l.bP (T a)).bP (T b)).wt (l.bP (T a)).no R7:=h7
  rw[show (l.bP (T a)).no=l.no from Za.Wn.iJ _ _]at h7
  have Hk:=af ((ae H6).under fr7 (ae rW) (ae HG).lt)
  have tA:=af ((ae tz).trans fr7)
  have H7:=af (show dp w7 lb S ((l.bP (T a)).bP (T b)).wt l.no R7 from h7)
  have z7:=fr7.size
  have f0:=(fr7.cell (p:=⟨w3.heap.size,0,none⟩) z63 (ae iP)).trans g0
  have f1:=(fr7.cell (p:=⟨w3.heap.size,1,none⟩) z63 (ae iP)).trans g1
  have f2:=(fr7.cell (p:=⟨w3.heap.size,2,none⟩) z63 (ae iP)).trans g2
  have f3:=(fr7.cell (p:=⟨w3.heap.size,3,none⟩) z63 (ae iP)).trans g3
  have d0:=(fr7.cell (p:=⟨w4.heap.size,0,none⟩) z64 (ae jk)).trans k0
  have d1:=(fr7.cell (p:=⟨w4.heap.size,1,none⟩) z64 (ae jk)).trans k1
  have d2:=(fr7.cell (p:=⟨w4.heap.size,2,none⟩) z64 (ae jk)).trans k2
  have d3:=(fr7.cell (p:=⟨w4.heap.size,3,none⟩) z64 (ae jk)).trans k3
  have z73:w3.heap.size<w7.heap.size:=by omega
  have z74:w4.heap.size<w7.heap.size:=by omega
  clear h7 fr7 g0 g1 g2 g3 k0 k1 k2 k3 iP jk HR
  go_wp2_with fail
  go_end0
  rw[ae HS]
  exact⟨rfl,R7,by rw[Za.Wn.iJ,Za.Wn.iJ];exact ae H7,ae tA⟩
 ·have k2:kd'=1:=hv.resolve_left k1
  subst k2
  have t1:(kd == 1)=false:=by simpa using k1
  clear hv k1
  go_enter Tryz.func188,Tryz.ntmps188
  go_wp2_with fail
  refine(ae FA _ (ae HU)).mono ?_
  rintro e w2 ⟨rfl,rfl⟩
  unfold aM
  go_wp2_with fail
  refine(ae FB _ (ae HU)).mono ?_
  rintro e w2 ⟨rfl,rfl⟩
  unfold aM
  go_wp2_with fail
  refine(ae LA _ (ae HU)).mono ?_
  rintro e w3 ⟨rfl,hb3⟩
  have bQ:=af hb3
  have qN:=af ((ae HU).trans (hb3.mono (ae HU).size))
  clear hb3
  go_wp2_with fail
  refine(ae LB _ ((ae qN).alloc (Nat.le_trans (ae HU).size (ae bQ).size) _)).mono ?_
  rintro e w4 ⟨rfl,hb4⟩
  have f0:=(hb4.cell (p:=⟨w3.heap.size,0,none⟩) (by simp)).trans (ah (heap_alloc_new w3 _) 0)
  have f1:=(hb4.cell (p:=⟨w3.heap.size,1,none⟩) (by simp)).trans (ah (heap_alloc_new w3 _) 1)
  have f2:=(hb4.cell (p:=⟨w3.heap.size,2,none⟩) (by simp)).trans (ah (heap_alloc_new w3 _) 2)
  have f3:=(hb4.cell (p:=⟨w3.heap.size,3,none⟩) (by simp)).trans (ah (heap_alloc_new w3 _) 3)
  simp only[List.getElem?_toArray,List.getElem?_cons_zero,List.getElem?_cons_succ]at f0 f1 f2 f3
  have z3:=(ae bQ).size
  have z4:=hb4.size
  rw[World.size_alloc]at z4
  have z5:w3.heap.size<w4.heap.size:=by omega
  have dr:=af ((((ae bQ).alloc (ae bQ).size _).trans (hb4.mono (by rw[World.size_alloc];omega))))
  clear hb4
  go_wp2_with fail
  have HR:=af (ae H).rows
  have d0:=ah (heap_alloc_new w4 (.cells #[.int .i64 1,.int .i64 vd',.string xd',.int .i64 (cd':Int)] 177)) 0
  have d1:=ah (heap_alloc_new w4 (.cells #[.int .i64 1,.int .i64 vd',.string xd',.int .i64 (cd':Int)] 177)) 1
  have d2:=ah (heap_alloc_new w4 (.cells #[.int .i64 1,.int .i64 vd',.string xd',.int .i64 (cd':Int)] 177)) 2
  have d3:=ah (heap_alloc_new w4 (.cells #[.int .i64 1,.int .i64 vd',.string xd',.int .i64 (cd':Int)] 177)) 3
  simp only[List.getElem?_toArray,List.getElem?_cons_zero,List.getElem?_cons_succ]at d0 d1 d2 d3
  have bO:=af ((ae dr).alloc (by omega) (.cells #[.int .i64 1,.int .i64 vd',.string xd',.int .i64 (cd':Int)] 177))
  have rV:=af ((ae HU).trans ((ae bO).mono (ae HU).size))
  refine(ae WA _ l R (ae rV) ((ae H).below (ae bO)) (by omega)).mono ?_
  rintro e w6 ⟨rfl,R6,h6,fr6⟩
  have rW:=af (((ae H).below (ae bO)).under fr6 (ae rV) (ae HG).lt)
  have tz:=af ((au.aw (ae bO)).trans fr6)
  have H6:=af h6
  have z6:=fr6.size
  rw[World.size_alloc]at z6
  have r3:¬R w3.heap.size:=fun q=>by have:=(ae HR _ q).2;omega
  have r4:¬R w4.heap.size:=fun q=>by have:=(ae HR _ q).2;omega
  have g0:=(fr6.cell (p:=⟨w3.heap.size,0,none⟩) (by rw[World.size_alloc];dsimp only;omega) r3).trans ((World.cell?_alloc_past _ _ _ z5).trans f0)
  have g1:=(fr6.cell (p:=⟨w3.heap.size,1,none⟩) (by rw[World.size_alloc];dsimp only;omega) r3).trans ((World.cell?_alloc_past _ _ _ z5).trans f1)
  have g2:=(fr6.cell (p:=⟨w3.heap.size,2,none⟩) (by rw[World.size_alloc];dsimp only;omega) r3).trans ((World.cell?_alloc_past _ _ _ z5).trans f2)
  have g3:=(fr6.cell (p:=⟨w3.heap.size,3,none⟩) (by rw[World.size_alloc];dsimp only;omega) r3).trans ((World.cell?_alloc_past _ _ _ z5).trans f3)
  have k0:=(fr6.cell (p:=⟨w4.heap.size,0,none⟩) (by rw[World.size_alloc];dsimp only;omega) r4).trans d0
  have k1:=(fr6.cell (p:=⟨w4.heap.size,1,none⟩) (by rw[World.size_alloc];dsimp only;omega) r4).trans d1
  have k2:=(fr6.cell (p:=⟨w4.heap.size,2,none⟩) (by rw[World.size_alloc];dsimp only;omega) r4).trans d2
  have k3:=(fr6.cell (p:=⟨w4.heap.size,3,none⟩) (by rw[World.size_alloc];dsimp only;omega) r4).trans d3
  have iP:=af (fr6.not (k:=w3.heap.size) (by rw[World.size_alloc];omega) r3)
  have jk:=af (fr6.not (k:=w4.heap.size) (by rw[World.size_alloc];omega) r4)
  clear h6 fr6 f0 f1 f2 f3 d0 d1 d2 d3 r3 r4
  have z63:w3.heap.size<w6.heap.size:=by omega
  have z64:w4.heap.size<w6.heap.size:=by omega
  go_wp2_with fail
  refine(ae WB _ (l.bP (T a)) R6 (ae rW) (by rw[Za.Wn.iJ];exact ae H6) (by have:=l.jQ (T a);omega)).mono ?_
  rintro e w7 ⟨rfl,R7,h7,fr7⟩
  have h7:dp w7 lb S ((l.bP (T a)).bP (T b)).wt (l.bP (T a)).no R7:=h7
  rw[show (l.bP (T a)).no=l.no from Za.Wn.iJ _ _]at h7
  have Hk:=af ((ae H6).under fr7 (ae rW) (ae HG).lt)
  have tA:=af ((ae tz).trans fr7)
  have H7:=af (show dp w7 lb S ((l.bP (T a)).bP (T b)).wt l.no R7 from h7)
  have z7:=fr7.size
  have f0:=(fr7.cell (p:=⟨w3.heap.size,0,none⟩) z63 (ae iP)).trans g0
  have f1:=(fr7.cell (p:=⟨w3.heap.size,1,none⟩) z63 (ae iP)).trans g1
  have f2:=(fr7.cell (p:=⟨w3.heap.size,2,none⟩) z63 (ae iP)).trans g2
  have f3:=(fr7.cell (p:=⟨w3.heap.size,3,none⟩) z63 (ae iP)).trans g3
  have d0:=(fr7.cell (p:=⟨w4.heap.size,0,none⟩) z64 (ae jk)).trans k0
  have d1:=(fr7.cell (p:=⟨w4.heap.size,1,none⟩) z64 (ae jk)).trans k1
  have d2:=(fr7.cell (p:=⟨w4.heap.size,2,none⟩) z64 (ae jk)).trans k2
  have d3:=(fr7.cell (p:=⟨w4.heap.size,3,none⟩) z64 (ae jk)).trans k3
  have z73:w3.heap.size<w7.heap.size:=by omega
  have z74:w4.heap.size<w7.heap.size:=by omega
  clear h7 fr7 g0 g1 g2 g3 k0 k1 k2 k3 iP jk HR
  go_wp2_with fail
  go_end0
  rw[ae HS]
  exact⟨rfl,R7,by rw[Za.Wn.iJ,Za.Wn.iJ];exact ae H7,ae tA⟩
theorem NS (u w:World) (lb sb so:Nat) (cs:Array Value) (Ty:TypeId) (D:List Ng) (no:Option Addr) (nc:Nat) (fr:Nat→Nat) (T:Nat→Za.U) (P R:Nat→Prop) (S:List Int) (a b:Nat) (l:Za.Wn) (hG:gA u lb sb so cs Ty D no nc fr T P) (hu:Below u.heap.size u w) (h:dp w lb S l.wt l.no R) (ha:a<D.length) (hb:b<D.length) (he:fr a≠fr b) (hl:l.wt.length+2*Za.size (T a)≤100000000) (da db:Ng) (gU:D[fr a]?=some da) (gV:D[fr b]?=some db) (k1:da.k≠1) (k2:db.k≠1) (hx:¬(da.k=db.k∧da.val=db.val∧da.tx=db.tx∧da.cnt=db.cnt)):
 Calls Tryz.prog 188 #[.pointer (some ⟨lb,0,none⟩),.pointer (some ⟨sb,so,none⟩),.int .i64 (a:Int),.int .i64 (b:Int)] w fun e w'=>Hi lb S (Za.cmpU (T a) (T b) l) R w e w':=by
 obtain⟨ka,hka⟩:=hG.ok.hop a ha
 obtain⟨kb,hkb⟩:=hG.ok.hop b hb
 obtain⟨ja,lF⟩:=hG.ok.rq ha
 obtain⟨jb,hjb⟩:=hG.ok.rq hb
 have va:=hG.pL ha gU
 have vb:=hG.pL hb gV
 have FA:=af (fun W (hu:Below u.heap.size u W)=>dU W sb so cs Ty D no nc a (fr a) ka (hG.at hu) hka)
 have FB:=af (fun W (hu:Below u.heap.size u W)=>dU W sb so cs Ty D no nc b (fr b) kb (hG.at hu) hkb)
 have LA:=af (fun W (hu:Below u.heap.size u W)=>eY W sb so cs Ty D no nc (fr a) (fr a) ja da (hG.at hu) lF gU)
 have LB:=af (fun W (hu:Below u.heap.size u W)=>eY W sb so cs Ty D no nc (fr b) (fr b) jb db (hG.at hu) hjb gV)
 have WA:=af (fun W (k:Za.Wn) R (hu:Below u.heap.size u W) (h:dp W lb S k.wt k.no R) (hl:k.wt.length≤100000000)=>lX W lb sb so cs Ty D no nc R S k.wt k.no (fr a) (fr a) ja da (T a) (hG.at hu) lF gU va.2 (fun q=>Bool.eq_false_iff.2 fun r=>q (va.1.2 r)) h hl)
 have WB:=af (fun W (k:Za.Wn) R (hu:Below u.heap.size u W) (h:dp W lb S k.wt k.no R) (hl:k.wt.length≤100000000)=>lX W lb sb so cs Ty D no nc R S k.wt k.no (fr b) (fr b) jb db (T b) (hG.at hu) hjb gV vb.2 (fun q=>Bool.eq_false_iff.2 fun r=>q (vb.1.2 r)) h hl)
 have rU:=Za.size_pos (T a)
 have hl0:l.wt.length+2≤100000000:=by omega
 have t0:(((fr a:Nat):Int) == ((fr b:Nat):Int))=false:=by simp;omega
 have HG:=af hG
 have HU:=af hu
 have H:=af h
 obtain⟨_,e1,oa,ma,_,na⟩:=hG.node ha
 rw[gU]at e1
 cases e1
 obtain⟨_,e2,ob,mb,_,nb⟩:=hG.node hb
 rw[gV]at e2
 cases e2
 obtain⟨ua,xa,ia,la,ea⟩:=na k1
 obtain⟨ub,xb,ib,lb',eb⟩:=nb k2
 have rX:=af (show ((l.bP (T a)).bP (T b)).wt=l.wt by rw[ea,eb];rfl)
 have HS:=af (show Za.cmpU (T a) (T b) l=l.bad by
  rw[ea,eb]
  refine Za.J6 l fun q=>hx ((uG oa ob k1 k2).1 ⟨?_,?_⟩)
  ·rw[la,lb',q.1,q.2.1,q.2.2.1]
  ·have:=q.2.2.2;rw[List.length_map,List.length_map]at this;exact this)
 have Tv:=af hx
 have t1:(da.k == 1)=false:=by simpa using k1
 have t2:(db.k == 1)=false:=by simpa using k2
 obtain⟨kd,vd,xd,cd,od,pd,gd,nd,md⟩:=da
 obtain⟨kd',vd',xd',cd',od',pd',gd',nd',md'⟩:=db
 dsimp only at LA LB t1 t2 Tv
 clear hG hu h ha hb he hl gU gV hka hkb lF hjb va vb rU oa ob ma mb na nb la lb' ea eb k1 k2 hx
 generalize fr a=p at*
 generalize fr b=q at*
 go_enter Tryz.func188,Tryz.ntmps188
 go_wp2_with fail
 refine(ae FA _ (ae HU)).mono ?_
 rintro e w2 ⟨rfl,rfl⟩
 unfold aM
 go_wp2_with fail
 refine(ae FB _ (ae HU)).mono ?_
 rintro e w2 ⟨rfl,rfl⟩
 unfold aM
 go_wp2_with fail
 refine(ae LA _ (ae HU)).mono ?_
 rintro e w3 ⟨rfl,hb3⟩
 have bQ:=af hb3
 have qN:=af ((ae HU).trans (hb3.mono (ae HU).size))
 clear hb3
 go_wp2_with fail
 refine(ae LB _ ((ae qN).alloc (Nat.le_trans (ae HU).size (ae bQ).size) _)).mono ?_
 rintro e w4 ⟨rfl,hb4⟩
 have f0:=(hb4.cell (p:=⟨w3.heap.size,0,none⟩) (by simp)).trans (ah (heap_alloc_new w3 _) 0)
 have f1:=(hb4.cell (p:=⟨w3.heap.size,1,none⟩) (by simp)).trans (ah (heap_alloc_new w3 _) 1)
 have f2:=(hb4.cell (p:=⟨w3.heap.size,2,none⟩) (by simp)).trans (ah (heap_alloc_new w3 _) 2)
 have f3:=(hb4.cell (p:=⟨w3.heap.size,3,none⟩) (by simp)).trans (ah (heap_alloc_new w3 _) 3)
 simp only[List.getElem?_toArray,List.getElem?_cons_zero,List.getElem?_cons_succ]at f0 f1 f2 f3
 have z3:=(ae bQ).size
 have z4:=hb4.size
 rw[World.size_alloc]at z4
 have z5:w3.heap.size<w4.heap.size:=by omega
 have dr:=af ((((ae bQ).alloc (ae bQ).size _).trans (hb4.mono (by rw[World.size_alloc];omega))))
 clear hb4
 go_wp2_with fail
 have HR:=af (ae H).rows
 have d0:=ah (heap_alloc_new w4 (.cells #[.int .i64 kd',.int .i64 vd',.string xd',.int .i64 (cd':Int)] 177)) 0
 have d1:=ah (heap_alloc_new w4 (.cells #[.int .i64 kd',.int .i64 vd',.string xd',.int .i64 (cd':Int)] 177)) 1
 have d2:=ah (heap_alloc_new w4 (.cells #[.int .i64 kd',.int .i64 vd',.string xd',.int .i64 (cd':Int)] 177)) 2
 have d3:=ah (heap_alloc_new w4 (.cells #[.int .i64 kd',.int .i64 vd',.string xd',.int .i64 (cd':Int)] 177)) 3
 simp only[List.getElem?_toArray,List.getElem?_cons_zero,List.getElem?_cons_succ]at d0 d1 d2 d3
 have bO:=af ((ae dr).alloc (by omega) (.cells #[.int .i64 kd',.int .i64 vd',.string xd',.int .i64 (cd':Int)] 177))
 have rV:=af ((ae HU).trans ((ae bO).mono (ae HU).size))
 refine(ae WA _ l R (ae rV) ((ae H).below (ae bO)) (by omega)).mono ?_
 rintro e w6 ⟨rfl,R6,h6,fr6⟩
 have rW:=af (((ae H).below (ae bO)).under fr6 (ae rV) (ae HG).lt)
 have tz:=af ((au.aw (ae bO)).trans fr6)
 have H6:=af h6
 have z6:=fr6.size
 rw[World.size_alloc]at z6
 have r3:¬R w3.heap.size:=fun q=>by have:=(ae HR _ q).2;omega
 have r4:¬R w4.heap.size:=fun q=>by have:=(ae HR _ q).2;omega
 have g0:=(fr6.cell (p:=⟨w3.heap.size,0,none⟩) (by rw[World.size_alloc];dsimp only;omega) r3).trans ((World.cell?_alloc_past _ _ _ z5).trans f0)
 have g1:=(fr6.cell (p:=⟨w3.heap.size,1,none⟩) (by rw[World.size_alloc];dsimp only;omega) r3).trans ((World.cell?_alloc_past _ _ _ z5).trans f1)
 have g2:=(fr6.cell (p:=⟨w3.heap.size,2,none⟩) (by rw[World.size_alloc];dsimp only;omega) r3).trans ((World.cell?_alloc_past _ _ _ z5).trans f2)
 have g3:=(fr6.cell (p:=⟨w3.heap.size,3,none⟩) (by rw[World.size_alloc];dsimp only;omega) r3).trans ((World.cell?_alloc_past _ _ _ z5).trans f3)
 have k0:=(fr6.cell (p:=⟨w4.heap.size,0,none⟩) (by rw[World.size_alloc];dsimp only;omega) r4).trans d0
 have k1:=(fr6.cell (p:=⟨w4.heap.size,1,none⟩) (by rw[World.size_alloc];dsimp only;omega) r4).trans d1
 have k2:=(fr6.cell (p:=⟨w4.heap.size,2,none⟩) (by rw[World.size_alloc];dsimp only;omega) r4).trans d2
 have k3:=(fr6.cell (p:=⟨w4.heap.size,3,none⟩) (by rw[World.size_alloc];dsimp only;omega) r4).trans d3
 have iP:=af (fr6.not (k:=w3.heap.size) (by rw[World.size_alloc];omega) r3)
 have jk:=af (fr6.not (k:=w4.heap.size) (by rw[World.size_alloc];omega) r4)
 clear h6 fr6 f0 f1 f2 f3 d0 d1 d2 d3 r3 r4
 have z63:w3.heap.size<w6.heap.size:=by omega
 have z64:w4.heap.size<w6.heap.size:=by omega
 go_wp2_with fail
 refine(ae WB _ (l.bP (T a)) R6 (ae rW) (by rw[Za.Wn.iJ];exact ae H6) (by have:=l.jQ (T a);omega)).mono ?_
 rintro e w7 ⟨rfl,R7,h7,fr7⟩
 have h7:dp w7 lb S ((l.bP (T a)).bP (T b)).wt (l.bP (T a)).no R7:=h7
 rw[show (l.bP (T a)).no=l.no from Za.Wn.iJ _ _]at h7
 have Hk:=af ((ae H6).under fr7 (ae rW) (ae HG).lt)
 have tA:=af ((ae tz).trans fr7)
 have H7:=af (show dp w7 lb S ((l.bP (T a)).bP (T b)).wt l.no R7 from h7)
 have z7:=fr7.size
 have f0:=(fr7.cell (p:=⟨w3.heap.size,0,none⟩) z63 (ae iP)).trans g0
 have f1:=(fr7.cell (p:=⟨w3.heap.size,1,none⟩) z63 (ae iP)).trans g1
 have f2:=(fr7.cell (p:=⟨w3.heap.size,2,none⟩) z63 (ae iP)).trans g2
 have f3:=(fr7.cell (p:=⟨w3.heap.size,3,none⟩) z63 (ae iP)).trans g3
 have d0:=(fr7.cell (p:=⟨w4.heap.size,0,none⟩) z64 (ae jk)).trans k0
 have d1:=(fr7.cell (p:=⟨w4.heap.size,1,none⟩) z64 (ae jk)).trans k1
 have d2:=(fr7.cell (p:=⟨w4.heap.size,2,none⟩) z64 (ae jk)).trans k2
 have d3:=(fr7.cell (p:=⟨w4.heap.size,3,none⟩) z64 (ae jk)).trans k3
 have z73:w3.heap.size<w7.heap.size:=by omega
 have z74:w4.heap.size<w7.heap.size:=by omega
 clear h7 fr7 g0 g1 g2 g3 k0 k1 k2 k3 iP jk HR
 rw[ae rX]at H7
 obtain⟨so',sc,wo,wc,fQ,rfl⟩:=(ae H7)
 have s2:=ah fQ.blk 2
 have sf:=ay fQ.blk 2
 have sz:=ag fQ.blk
 simp only[List.getElem?_toArray,List.getElem?_cons_zero,List.getElem?_cons_succ]at s2
 have qO:=af fQ
 clear fQ rX
 go_wp2_with fail
 all_goals first
  | (exfalso;exact ae Tv ⟨by assumption,by assumption,toList_inj (by assumption),by omega⟩)
  | (go_end0;rw[ae HS];exact⟨rfl,_,⟨so',sc,wo,wc,(ae qO).bad.1,rfl⟩,(ae tA).trans (ae qO).bad.2⟩)
def Tw (lb:Nat) (S:List Int) (T:Nat→Za.U) (ga gb:List Nat) (l:Za.Wn) (R:Nat→Prop) (w:World) (k:Nat) (iv:Value) (wr:World):Prop:=
 ∃(j:Nat) (R':Nat→Prop),k+j=ga.length∧iv= .int .i64 (j:Int)∧dp wr lb S (Za.cmpUL ((ga.map T).take j) ((gb.map T).take j) l).wt (Za.cmpUL ((ga.map T).take j) ((gb.map T).take j) l).no R'∧au R R' w wr
theorem aZ.at {w:World} {D:List Ng} {P:Nat→Prop} (h:aZ w D P) {d:Ng} (hd:d∈D) (hn:d.args≠[]):∃g,d.ao=some ⟨g,0,none⟩∧g<w.heap.size∧∀i (hi:i<d.args.length),w.cell? ⟨g,i,none⟩=some (.int .i64 (d.args[i]:Int)):=by
 obtain⟨g,cs,h1,_,h3,h4⟩:=h d hd hn
 refine⟨g,h1,ag h3,fun i hi=> ?_⟩
 rw[ah h3,←Array.getElem?_toList,←List.getElem?_take_of_lt hi,h4,List.getElem?_map,List.getElem?_eq_getElem hi]
 rfl
theorem Kl {s:Nat} (IH:Hj s) (u w:World) (lb sb so:Nat) (cs:Array Value) (Ty:TypeId) (D:List Ng) (no:Option Addr) (nc:Nat) (fr:Nat→Nat) (T:Nat→Za.U) (P R:Nat→Prop) (S:List Int) (a b:Nat) (l:Za.Wn) (hG:gA u lb sb so cs Ty D no nc fr T P) (hu:Below u.heap.size u w) (h:dp w lb S l.wt l.no R) (ha:a<D.length) (hb:b<D.length) (he:fr a≠fr b) (hl:l.wt.length+2*Za.size (T a)≤100000000) (da db:Ng) (gU:D[fr a]?=some da) (gV:D[fr b]?=some db) (hsz:Za.size (T a)≤s+1) (k1:da.k≠1) (k2:db.k≠1) (hx:da.k=db.k∧da.val=db.val∧da.tx=db.tx∧da.cnt=db.cnt):
 Calls Tryz.prog 188 #[.pointer (some ⟨lb,0,none⟩),.pointer (some ⟨sb,so,none⟩),.int .i64 (a:Int),.int .i64 (b:Int)] w fun e w'=>Hi lb S (Za.cmpU (T a) (T b) l) R w e w':=by
 obtain⟨ka,hka⟩:=hG.ok.hop a ha
 obtain⟨kb,hkb⟩:=hG.ok.hop b hb
 obtain⟨ja,lF⟩:=hG.ok.rq ha
 obtain⟨jb,hjb⟩:=hG.ok.rq hb
 have va:=hG.pL ha gU
 have vb:=hG.pL hb gV
 have FA:=af (fun W (hu:Below u.heap.size u W)=>dU W sb so cs Ty D no nc a (fr a) ka (hG.at hu) hka)
 have FB:=af (fun W (hu:Below u.heap.size u W)=>dU W sb so cs Ty D no nc b (fr b) kb (hG.at hu) hkb)
 have LA:=af (fun W (hu:Below u.heap.size u W)=>eY W sb so cs Ty D no nc (fr a) (fr a) ja da (hG.at hu) lF gU)
 have LB:=af (fun W (hu:Below u.heap.size u W)=>eY W sb so cs Ty D no nc (fr b) (fr b) jb db (hG.at hu) hjb gV)
 have WA:=af (fun W (k:Za.Wn) R (hu:Below u.heap.size u W) (h:dp W lb S k.wt k.no R) (hl:k.wt.length≤100000000)=>lX W lb sb so cs Ty D no nc R S k.wt k.no (fr a) (fr a) ja da (T a) (hG.at hu) lF gU va.2 (fun q=>Bool.eq_false_iff.2 fun r=>q (va.1.2 r)) h hl)
 have WB:=af (fun W (k:Za.Wn) R (hu:Below u.heap.size u W) (h:dp W lb S k.wt k.no R) (hl:k.wt.length≤100000000)=>lX W lb sb so cs Ty D no nc R S k.wt k.no (fr b) (fr b) jb db (T b) (hG.at hu) hjb gV vb.2 (fun q=>Bool.eq_false_iff.2 fun r=>q (vb.1.2 r)) h hl)
 have rU:=Za.size_pos (T a)
 have hl0:l.wt.length+2≤100000000:=by omega
 have t0:(((fr a:Nat):Int) == ((fr b:Nat):Int))=false:=by simp;omega
 have HG:=af hG
 have HU:=af hu
 have H:=af h
 obtain⟨_,e1,oa,ma,_,na⟩:=hG.node ha
 rw[gU]at e1
 cases e1
 obtain⟨_,e2,ob,mb,_,nb⟩:=hG.node hb
 rw[gV]at e2
 cases e2
 obtain⟨ua,xa,ia,la,ea⟩:=na k1
 obtain⟨ub,xb,ib,lb',eb⟩:=nb k2
 have rX:=af (show ((l.bP (T a)).bP (T b)).wt=l.wt by rw[ea,eb];rfl)
 obtain⟨le,ll⟩:=(uG oa ob k1 k2).2 hx
 have HS:=af (show Za.cmpU (T a) (T b) l=Za.cmpUL (da.args.map T) (db.args.map T) l by
  rw[la,lb']at le
  injection le with le
  injection le with u1 le
  injection le with u2 u3
  subst u1 u2 u3
  rw[ea,eb]
  exact Za.GJ l (by rw[List.length_map,List.length_map];exact ll))
 have qu:Za.size (T a)=1+Za.sizeL (da.args.map T):=by rw[ea,Za.size];try omega
 have AA:=af (fun W (hu:Below u.heap.size u W)=>lW W sb so cs Ty D no nc (fr a) (fr a) ja da (hG.at hu) lF gU)
 have AB:=af (fun W (hu:Below u.heap.size u W)=>lW W sb so cs Ty D no nc (fr b) (fr b) jb db (hG.at hu) hjb gV)
 have CA:=af (fun q=>hG.ar.at ma q)
 have CB:=af (fun q=>hG.ar.at mb q)
 have IA:=af oa.inn
 have IB:=af ob.inn
 have h3:da.args.length≤3:=oa.few
 have H3:=af h3
 have t1:(da.k == 1)=false:=by simpa using k1
 have t2:(db.k == 1)=false:=by simpa using k2
 have HX:=af hx
 obtain⟨kd,vd,xd,cd,od,pd,gd,nd,md⟩:=da
 obtain⟨kd',vd',xd',cd',od',pd',gd',nd',md'⟩:=db
 dsimp only at LA LB t1 t2 hx AA AB CA CB IA IB HS ll qu H3
 obtain⟨rfl,rfl,rfl,rfl⟩:=hx
 rw[←ll]at AB
 have Bo:=af ll
 have yf:=af qu
 have j9:=af hsz
 have HL:=af hl
 have I:=af IH
 clear hG hu h ha hb he hl gU gV hka hkb lF hjb va vb rU oa ob ma mb na nb la lb' ea eb k1 k2 h3 ll le qu hsz IH HX
 generalize fr a=p at*
 generalize fr b=q at*
 go_enter Tryz.func188,Tryz.ntmps188
 go_wp2_with fail
 refine(ae FA _ (ae HU)).mono ?_
 rintro e w2 ⟨rfl,rfl⟩
 unfold aM
 go_wp2_with fail
 refine(ae FB _ (ae HU)).mono ?_
 rintro e w2 ⟨rfl,rfl⟩
 unfold aM
 go_wp2_with fail
 refine(ae LA _ (ae HU)).mono ?_
 rintro e w3 ⟨rfl,hb3⟩
 have bQ:=af hb3
 have qN:=af ((ae HU).trans (hb3.mono (ae HU).size))
 clear hb3
 go_wp2_with fail
 refine(ae LB _ ((ae qN).alloc (Nat.le_trans (ae HU).size (ae bQ).size) _)).mono ?_
 rintro e w4 ⟨rfl,hb4⟩
 have f0:=(hb4.cell (p:=⟨w3.heap.size,0,none⟩) (by simp)).trans (ah (heap_alloc_new w3 _) 0)
 have f1:=(hb4.cell (p:=⟨w3.heap.size,1,none⟩) (by simp)).trans (ah (heap_alloc_new w3 _) 1)
 have f2:=(hb4.cell (p:=⟨w3.heap.size,2,none⟩) (by simp)).trans (ah (heap_alloc_new w3 _) 2)
 have f3:=(hb4.cell (p:=⟨w3.heap.size,3,none⟩) (by simp)).trans (ah (heap_alloc_new w3 _) 3)
 simp only[List.getElem?_toArray,List.getElem?_cons_zero,List.getElem?_cons_succ]at f0 f1 f2 f3
 have z3:=(ae bQ).size
 have z4:=hb4.size
 rw[World.size_alloc]at z4
 have z5:w3.heap.size<w4.heap.size:=by omega
 have dr:=af ((((ae bQ).alloc (ae bQ).size _).trans (hb4.mono (by rw[World.size_alloc];omega))))
 clear hb4
 go_wp2_with fail
 have HR:=af (ae H).rows
 have d0:=ah (heap_alloc_new w4 (.cells #[.int .i64 kd,.int .i64 vd,.string xd,.int .i64 (cd:Int)] 177)) 0
 have d1:=ah (heap_alloc_new w4 (.cells #[.int .i64 kd,.int .i64 vd,.string xd,.int .i64 (cd:Int)] 177)) 1
 have d2:=ah (heap_alloc_new w4 (.cells #[.int .i64 kd,.int .i64 vd,.string xd,.int .i64 (cd:Int)] 177)) 2
 have d3:=ah (heap_alloc_new w4 (.cells #[.int .i64 kd,.int .i64 vd,.string xd,.int .i64 (cd:Int)] 177)) 3
 simp only[List.getElem?_toArray,List.getElem?_cons_zero,List.getElem?_cons_succ]at d0 d1 d2 d3
 have bO:=af ((ae dr).alloc (by omega) (.cells #[.int .i64 kd,.int .i64 vd,.string xd,.int .i64 (cd:Int)] 177))
 have rV:=af ((ae HU).trans ((ae bO).mono (ae HU).size))
 refine(ae WA _ l R (ae rV) ((ae H).below (ae bO)) (by omega)).mono ?_
 rintro e w6 ⟨rfl,R6,h6,fr6⟩
 have rW:=af (((ae H).below (ae bO)).under fr6 (ae rV) (ae HG).lt)
 have tz:=af ((au.aw (ae bO)).trans fr6)
 have H6:=af h6
 have z6:=fr6.size
 rw[World.size_alloc]at z6
 have r3:¬R w3.heap.size:=fun q=>by have:=(ae HR _ q).2;omega
 have r4:¬R w4.heap.size:=fun q=>by have:=(ae HR _ q).2;omega
 have g0:=(fr6.cell (p:=⟨w3.heap.size,0,none⟩) (by rw[World.size_alloc];dsimp only;omega) r3).trans ((World.cell?_alloc_past _ _ _ z5).trans f0)
 have g1:=(fr6.cell (p:=⟨w3.heap.size,1,none⟩) (by rw[World.size_alloc];dsimp only;omega) r3).trans ((World.cell?_alloc_past _ _ _ z5).trans f1)
 have g2:=(fr6.cell (p:=⟨w3.heap.size,2,none⟩) (by rw[World.size_alloc];dsimp only;omega) r3).trans ((World.cell?_alloc_past _ _ _ z5).trans f2)
 have g3:=(fr6.cell (p:=⟨w3.heap.size,3,none⟩) (by rw[World.size_alloc];dsimp only;omega) r3).trans ((World.cell?_alloc_past _ _ _ z5).trans f3)
 have k0:=(fr6.cell (p:=⟨w4.heap.size,0,none⟩) (by rw[World.size_alloc];dsimp only;omega) r4).trans d0
 have k1:=(fr6.cell (p:=⟨w4.heap.size,1,none⟩) (by rw[World.size_alloc];dsimp only;omega) r4).trans d1
 have k2:=(fr6.cell (p:=⟨w4.heap.size,2,none⟩) (by rw[World.size_alloc];dsimp only;omega) r4).trans d2
 have k3:=(fr6.cell (p:=⟨w4.heap.size,3,none⟩) (by rw[World.size_alloc];dsimp only;omega) r4).trans d3
 have iP:=af (fr6.not (k:=w3.heap.size) (by rw[World.size_alloc];omega) r3)
 have jk:=af (fr6.not (k:=w4.heap.size) (by rw[World.size_alloc];omega) r4)
 clear h6 fr6 f0 f1 f2 f3 d0 d1 d2 d3 r3 r4
 have z63:w3.heap.size<w6.heap.size:=by omega
 have z64:w4.heap.size<w6.heap.size:=by omega
 go_wp2_with fail
 refine(ae WB _ (l.bP (T a)) R6 (ae rW) (by rw[Za.Wn.iJ];exact ae H6) (by have:=l.jQ (T a);omega)).mono ?_
 rintro e w7 ⟨rfl,R7,h7,fr7⟩
 have h7:dp w7 lb S ((l.bP (T a)).bP (T b)).wt (l.bP (T a)).no R7:=h7
 rw[show (l.bP (T a)).no=l.no from Za.Wn.iJ _ _]at h7
 have Hk:=af ((ae H6).under fr7 (ae rW) (ae HG).lt)
 have tA:=af ((ae tz).trans fr7)
 have H7:=af (show dp w7 lb S ((l.bP (T a)).bP (T b)).wt l.no R7 from h7)
 have z7:=fr7.size
 have f0:=(fr7.cell (p:=⟨w3.heap.size,0,none⟩) z63 (ae iP)).trans g0
 have f1:=(fr7.cell (p:=⟨w3.heap.size,1,none⟩) z63 (ae iP)).trans g1
 have f2:=(fr7.cell (p:=⟨w3.heap.size,2,none⟩) z63 (ae iP)).trans g2
 have f3:=(fr7.cell (p:=⟨w3.heap.size,3,none⟩) z63 (ae iP)).trans g3
 have d0:=(fr7.cell (p:=⟨w4.heap.size,0,none⟩) z64 (ae jk)).trans k0
 have d1:=(fr7.cell (p:=⟨w4.heap.size,1,none⟩) z64 (ae jk)).trans k1
 have d2:=(fr7.cell (p:=⟨w4.heap.size,2,none⟩) z64 (ae jk)).trans k2
 have d3:=(fr7.cell (p:=⟨w4.heap.size,3,none⟩) z64 (ae jk)).trans k3
 have z73:w3.heap.size<w7.heap.size:=by omega
 have z74:w4.heap.size<w7.heap.size:=by omega
 clear h7 fr7 g0 g1 g2 g3 k0 k1 k2 k3 iP jk HR
 rw[ae rX]at H7
 go_wp2_with fail
 have HST:=af (show Tw lb S T gd gd' l R w2 gd.length (.int .i64 0) w7 from ⟨0,R7,by omega,rfl,by simpa [Za.cmpUL] using ae H7,ae tA⟩)
 clear f0 f1 f2 f3 d0 d1 d2 d3 z3 z4 z5 bQ qN dr FA FB LA LB WA WB rX t0 t1 t2
 refine(ae AA _ (ae Hk)).mono ?_
 rintro e w9 ⟨rfl,rfl⟩
 go_wp2_with fail
 refine(ae AB _ (ae Hk)).mono ?_
 rintro e w9 ⟨rfl,rfl⟩
 go_wp2_with fail
 clear AA AB bO rV rW tz H6 tA H7
 go_loopg [14] gd.length (fun k iv wr=>Tw lb S T gd gd' l R w2 k iv wr)
 case atStart=>exact ae HST
 case round=>
  clear HST
  obtain⟨j,R',hkj,rfl,fQ,cW⟩:=hrel
  have lH:=(ae H).under cW (ae HU) (ae HG).lt
  by_cases hlt:j<gd.length
  ·have hjb:j<gd'.length:=by have:=ae Bo;omega
   obtain⟨pA,eA,zA,cA⟩:=ae CA (fun q=>by rw[q]at hlt;simp at hlt)
   obtain⟨pB,eB,zB,cB⟩:=ae CB (fun q=>by rw[q]at hjb;simp at hjb)
   subst eA eB
   have f0:=(lH.cell (p:=⟨pA,j,none⟩) zA).trans (cA j hlt)
   have f1:=(lH.cell (p:=⟨pB,j,none⟩) zB).trans (cB j hjb)
   have DI:=af (show∀w',Below u.heap.size u w'→w'.cell? ⟨pA,j,none⟩=some (.int .i64 (gd[j]:Int))∧w'.cell? ⟨pB,j,none⟩=some (.int .i64 (gd'[j]:Int))from fun w' hb=>⟨(hb.cell (p:=⟨pA,j,none⟩) zA).trans (cA j hlt),(hb.cell (p:=⟨pB,j,none⟩) zB).trans (cB j hjb)⟩)
   have Pm:j<(gd.map T).length:=by rw[List.length_map];exact hlt
   have eR:j<(gd'.map T).length:=by rw[List.length_map];exact hjb
   have q1:=Za.GI ((gd.map T).take j) ((gd'.map T).take j) l
   have q2:=Za.sizeL_takeR (gd.map T) Pm
   have q3:=Za.sizeL_take_leR (gd.map T) (j+1)
   rw[List.getElem_map]at q2
   have IC:=af (ae I u wr.drew lb sb so cs Ty D no nc fr T P R' S gd[j] gd'[j] (Za.cmpUL ((gd.map T).take j) ((gd'.map T).take j) l) (ae HG) lH.drew (fQ.below (Below.refl _ _).drew) (ae IA _ (List.getElem_mem hlt)) (ae IB _ (List.getElem_mem hjb)) (by have:=ae yf;have:=ae j9;omega) (by have:=ae yf;have:=ae HL;omega))
   have hst:=Za.cmpUL_take (gd.map T) (gd'.map T) l Pm eR
   rw[List.getElem_map,List.getElem_map]at hst
   rw[←hst]at IC
   have jh:=af cW
   have Mq:=af lH
   have qO:=af fQ
   have aT:=af hkj
   have bh:=af hlt
   generalize gd[j]=na at*
   generalize gd'[j]=nb at*
   have zr:u.heap.size≤wr.heap.size:=lH.size
   have zA':pA<wr.heap.size:=by omega
   have zB':pB<wr.heap.size:=by omega
   have Pn:j≤3:=by have:=ae H3;omega
   have i0:(0:Int)≤(j:Int):=by omega
   have i1:(j:Int)<(gd.length:Int):=by omega
   clear fQ cW lH hkj hlt hjb cA cB q1 q2 q3 hst Pm eR
   go_wp2_with fail
   go_region_held3 (fun w'=>w'.cell? ⟨pA,j,none⟩=some (.int .i64 (na:Int))∧w'.cell? ⟨pB,j,none⟩=some (.int .i64 (nb:Int))) (go_keep) (first
    | (go_at_call 188;refine(ae IC).mono ?_;rintro e w8 ⟨rfl,R8,h8,fr8⟩;have nR:=af ((ae jh).trans ((au.aw (Below.refl _ _).drew).trans fr8));obtain⟨k0,k1⟩:=ae DI w8 ((ae qO).under ((au.aw (Below.refl _ _).drew).trans fr8) (ae Mq) (ae HG).lt);have H8:=af h8;clear h8 fr8))
   all_goals
    go_wp2_with fail
    go_roundg (gk - 1)
    case measure=>have:=ae aT;have:=ae bh;omega
    case rel=>exact⟨j+1,R8,by have:=ae aT;have:=ae bh;omega,by go_num,ae H8,ae nR⟩
  ·obtain rfl:j=gd.length:=by omega
   have qO:=af fQ
   have jh:=af cW
   clear fQ cW lH hkj
   go_wp2_with fail
   go_end0
   rw[ae HS]
   have q1:=ae qO
   rw[List.take_of_length_le (by rw[List.length_map];exact Nat.le_refl _),List.take_of_length_le (by rw[List.length_map];have:=ae Bo;omega)]at q1
   exact⟨rfl,R',q1,ae jh⟩
theorem cpG_all:∀s,Hj s
 | 0=>fun _ _ _ _ _ _ _ _ _ _ _ T _ _ _ a _ _ _ _ _ _ _ hs=>by have:=Za.size_pos (T a);omega
 | s+1=>fun u w lb sb so cs Ty D no nc fr T P R S a b l hG hu h ha hb hs hl=>by
  by_cases he:fr a=fr b
  ·exact Kk u w lb sb so cs Ty D no nc fr T P R S a b l hG hu h ha hb he
  ·obtain⟨da,gU,_⟩:=hG.node ha
   obtain⟨db,gV,_⟩:=hG.node hb
   by_cases k1:da.k=1
   ·exact DM u w lb sb so cs Ty D no nc fr T P R S a b l hG hu h ha hb he hl da db gU gV (Or.inl k1)
   ·by_cases k2:db.k=1
    ·exact DM u w lb sb so cs Ty D no nc fr T P R S a b l hG hu h ha hb he hl da db gU gV (Or.inr k2)
    ·by_cases hx:da.k=db.k∧da.val=db.val∧da.tx=db.tx∧da.cnt=db.cnt
     ·exact Kl (cpG_all s) u w lb sb so cs Ty D no nc fr T P R S a b l hG hu h ha hb he hl da db gU gV hs k1 k2 hx
     ·exact NS u w lb sb so cs Ty D no nc fr T P R S a b l hG hu h ha hb he hl da db gU gV k1 k2 hx
end Go.Proofs.YthfjnfcekeknlaaGreatDoor
