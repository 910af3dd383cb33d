import Derived.Test.YthfjnfcekeknlabGreatDoorGu07
import Derived.Test.YthfjnfcekeknlabGreatDoorGu08
import Derived.Deep.RegionWith
import Derived.Deep.LoopGhost
import Derived.Deep.RegionHeld3
set_option maxHeartbeats 8000000
set_option maxRecDepth 100000
namespace Go.Proofs.YthfjnfcekeknlabGreatDoor
open Go.RowKit
def Ik (f:Nat):Prop:=∀(P:Nat→Prop) (u w:World) (lb sb sq:Nat) (cS:Array Value) (Ty:TypeId) (D:List Ng) (nO:Option Addr) (nC:Nat) (fr:Nat→Nat) (TT:Nat→Zf.U) (PP R:Nat→Prop) (M:List (List UInt8)) (S:List Int) (a:AV) (n:Nat) (p:Zf.Tm) (l:Zf.bQ) (B:Nat),gj u lb sb sq cS Ty D nO nC fr TT PP→Below u.heap.size u w→cO w lb S l.w.wt l.w.no R→mG D TT M S l.st→S.length≤M.length→M.Nodup→M.length≤100000→RA f M P u a p→Zf.wfK f p→n<D.length→Zf.size (TT n)≤B→l.sm B→l.w.wt.length+2*B*3 ^ f+2*B≤100000000→
 Calls Tryz.prog 46 #[.pointer (some ⟨lb,0,none⟩),.pointer (some ⟨sb,sq,none⟩),.agg #[.int .i64 a.k,.int .i64 a.val,.string a.tx,.slice a.ao a.n a.cap],.int .i64 (n:Int)] w fun e w'=>Ee lb D TT M (Zf.matU f p (TT n) l) R w e w'
theorem BI {M:List (List UInt8)} {len f:Nat} {a:AV} {p:Zf.Tm} {d:Ng} {k:Nat} {tx:List UInt8} {num:Int} (ha:l7 M a p) (wp:Zf.wfK (f+1) p) (kp:p.kind≠3) (hd:fU len d) (hk:d.k≠1) (hl:eJ d=some (k,tx,num)):
 (Zf.jt p=(k,tx,num)∧p.args.length=d.args.length)↔(a.k=d.k∧jq a=d.val∧a.tx=d.tx∧a.n=d.cnt):=by
 obtain⟨h1,h2,_,h4,h5,h6,_,_⟩:=ha
 have d23:d.k=2∨d.k=3:=hd.ks.resolve_left hk
 rcases h6 with e | e | e
 ·have a3:a.k=3:=by rw[h1,e];rfl
  have lv:jq a=0:=by unfold jq;rw[if_neg (by omega)]
  have rp:Zf.jt p=(1,p.text.toList,0):=by unfold Zf.jt;rw[if_neg (by omega)]
  rw[rp,lv,h5 e,h2,a3]
  rcases d23 with q | q
  ·have:eJ d=some (3,[],d.val):=by unfold eJ;rw[if_neg hk,if_pos q]
   rw[hl]at this
   injection this with this
   injection this with u1 _
   subst u1
   constructor
   ·rintro⟨r,_⟩
    injection r with r
    exact absurd r (by decide)
   ·rintro⟨r,_⟩
    omega
  ·have:eJ d=some (1,d.tx.toList,0):=by unfold eJ;rw[if_neg hk,if_neg (by omega)]
   rw[hl]at this
   injection this with this
   injection this with u1 this
   injection this with u2 u3
   subst u1 u2 u3
   obtain⟨c1,c2,_⟩:=hd.c q
   constructor
   ·rintro⟨r,s⟩
    injection r with _ r
    injection r with r _
    exact⟨q.symm,c1.symm,toList_inj r,by rw[c2,s]⟩
   ·rintro⟨_,_,r,s⟩
    exact⟨by rw[r],by rw[s,c2]⟩
 ·exact absurd e kp
 ·have a2:a.k=2:=by rw[h1,e];rfl
  have lv:jq a=a.val:=by unfold jq;rw[if_pos a2]
  have rp:Zf.jt p=(3,[],(Zf.numOf p.text:Int)):=by unfold Zf.jt;rw[if_pos e]
  obtain⟨v1,_,v3⟩:=h4 e
  have pa:p.args=[]:=wp.2.1 (by omega)
  rw[rp,lv,v1,v3,h2,a2,pa]
  rcases d23 with q | q
  ·have:eJ d=some (3,[],d.val):=by unfold eJ;rw[if_neg hk,if_pos q]
   rw[hl]at this
   injection this with this
   injection this with u1 this
   injection this with u2 u3
   subst u1 u2 u3
   obtain⟨c1,c2,c3⟩:=hd.m q
   constructor
   ·rintro⟨r,_⟩
    injection r with _ r
    injection r with _ r
    exact⟨q.symm,r,c1.symm,by rw[c2];rfl⟩
   ·rintro⟨_,r,_,_⟩
    exact⟨by rw[r],by rw[c3];rfl⟩
  ·have:eJ d=some (1,d.tx.toList,0):=by unfold eJ;rw[if_neg hk,if_neg (by omega)]
   rw[hl]at this
   injection this with this
   injection this with u1 _
   subst u1
   constructor
   ·rintro⟨r,_⟩
    injection r with r
    exact absurd r (by decide)
   ·rintro⟨r,_⟩
    omega
theorem KZ (f:Nat) (u w:World) (lb sb sq:Nat) (cS:Array Value) (Ty:TypeId) (D:List Ng) (nO:Option Addr) (nC:Nat) (fr:Nat→Nat) (TT:Nat→Zf.U) (PP R:Nat→Prop) (M:List (List UInt8)) (S:List Int) (a:AV) (n:Nat) (p:Zf.Tm) (l:Zf.bQ) (B:Nat) (hG:gj u lb sb sq cS Ty D nO nC fr TT PP) (hu:Below u.heap.size u w) (h:cO w lb S l.w.wt l.w.no R) (hs:mG D TT M S l.st) (hS:S.length≤M.length) (hM:M.Nodup) (hML:M.length≤100000) (ha:l7 M a p) (hn:n<D.length) (hsm:l.sm B) (hl:l.w.wt.length+2*B≤100000000) (kp:p.kind=3):
 Calls Tryz.prog 46 #[.pointer (some ⟨lb,0,none⟩),.pointer (some ⟨sb,sq,none⟩),.agg #[.int .i64 a.k,.int .i64 a.val,.string a.tx,.slice a.ao a.n a.cap],.int .i64 (n:Int)] w fun e w'=>Ee lb D TT M (Zf.matU (f+1) p (TT n) l) R w e w':=by
 obtain⟨h1,h2,h3,h4,h5,h6,h7,h8⟩:=ha
 obtain⟨h9,h10⟩:=h3 kp
 obtain⟨k,val,tx,ao,m,cp⟩:=a
 dsimp only at h1 h2 h10⊢
 have e1:ak p.kind=1:=by rw[kp];rfl
 rw[e1]at h1
 subst h1 h10
 have hx:M[M.idxOf p.text.toList]?=some p.text.toList:=by
  rw[List.getElem?_eq_getElem (List.idxOf_lt_length_of_mem h9),List.getElem_idxOf]
 have HS:=hide (show Zf.matU (f+1) p (TT n) l=l.meet p.text.toList (TT n)from Zf.mQ _ l kp)
 have HB:=hide ((Below.refl w.heap.size w).alloc (Nat.le_refl _) (.cells #[.int .i64 1,.int .i64 (M.idxOf p.text.toList:Int),.string tx,.slice ao m cp] 74))
 have HM:=hide (TF u (w.alloc (.cells #[.int .i64 1,.int .i64 (M.idxOf p.text.toList:Int),.string tx,.slice ao m cp] 74)) lb sb sq cS Ty D nO nC fr TT PP R M S (M.idxOf p.text.toList) n p.text.toList l B hG (hu.trans ((ae HB).mono hu.size)) (h.below (ae HB)) hs hS hM hML hx hn hsm hl)
 clear hG hu h hs hS hM hn hsm hl h2 h3 h4 h5 h6 h7 h8 h9 hx e1 kp
 generalize M.idxOf p.text.toList=ix at*
 go_enter Tryz.func46,Tryz.ntmps46
 go_wp2_with fail
 refine(ae HM).mono ?_
 rintro e w2 ⟨rfl,S2,R2,h2,s2,l2,fr2⟩
 have H2:=hide h2
 have cm:=hide s2
 have o6:=hide l2
 have vk:=hide fr2
 clear h2 s2 l2 fr2
 go_wp2_with fail
 go_end0
 rw[ae HS]
 exact⟨rfl,S2,R2,ae H2,ae cm,ae o6,(aq.of_below (ae HB)).trans (ae vk)⟩
theorem K0 (f:Nat) (u w:World) (lb sb sq:Nat) (cS:Array Value) (Ty:TypeId) (D:List Ng) (nO:Option Addr) (nC:Nat) (fr:Nat→Nat) (TT:Nat→Zf.U) (PP R:Nat→Prop) (M:List (List UInt8)) (S:List Int) (a:AV) (n:Nat) (p:Zf.Tm) (l:Zf.bQ) (hG:gj u lb sb sq cS Ty D nO nC fr TT PP) (hu:Below u.heap.size u w) (h:cO w lb S l.w.wt l.w.no R) (hs:mG D TT M S l.st) (hS:S.length≤M.length) (ha:l7 M a p) (hn:n<D.length) (hl:l.w.wt.length≤100000000) (kp:p.kind≠3) (d:Ng) (hd:D[fr n]?=some d) (kt:d.k=1):
 Calls Tryz.prog 46 #[.pointer (some ⟨lb,0,none⟩),.pointer (some ⟨sb,sq,none⟩),.agg #[.int .i64 a.k,.int .i64 a.val,.string a.tx,.slice a.ao a.n a.cap],.int .i64 (n:Int)] w fun e w'=>Ee lb D TT M (Zf.matU (f+1) p (TT n) l) R w e w':=by
 obtain⟨k,val,tx,ao,m,cp⟩:=a
 have hk:(k == 1)=false:=by
  have h1:=ha.1
  dsimp only at h1
  rw[h1]
  rcases ha.2.2.2.2.2.1 with e | e | e<;>first | exact absurd e kp | (rw[e];decide)
 have HB:=hide ((Below.refl w.heap.size w).alloc (Nat.le_refl _) (.cells #[.int .i64 k,.int .i64 val,.string tx,.slice ao m cp] 74))
 have HU:=hide (hu.trans ((ae HB).mono hu.size))
 have rS:=hide hu
 have HG:=hide hG
 have H:=hide h
 have HST:=hide hs
 have vp:=hide hS
 obtain⟨kh,hop⟩:=hG.ok.hop n hn
 have vv:=hG.lW hn hd
 have HL:=hide (dS _ sb sq cS Ty D nO nC n (fr n) kh d (hG.at (ae HU)) hop hd)
 have Xh:=hide (fun W R (hu:Below u.heap.size u W) (h:cO W lb S l.w.wt l.w.no R) (hl:l.w.wt.length≤100000000)=>jF W lb sb sq cS Ty D nO nC R S l.w.wt l.w.no n (fr n) kh d (TT n) (hG.at hu) hop hd vv.2 (fun q=>absurd kt q) h hl)
 have HS:=hide (show Zf.matU (f+1) p (TT n) l=⟨l.st,l.w.aU (TT n)⟩by rw[vv.2 kt,Zf.lI _ l kp];rfl)
 obtain⟨kb,vb,xb,cb',ob,pb,gb,nb,mb⟩:=d
 dsimp only at HL kt
 subst kt
 clear hG hu h hs hS hn ha kp hop hd vv
 go_enter Tryz.func46,Tryz.ntmps46
 go_wp2_with fail
 refine(ae HL).mono ?_
 rintro e w3 ⟨rfl,hb3⟩
 have f0:=(hb3.cell (p:=⟨w.heap.size,0,none⟩) (by simp)).trans (ah (heap_alloc_new w _) 0)
 have f1:=(hb3.cell (p:=⟨w.heap.size,1,none⟩) (by simp)).trans (ah (heap_alloc_new w _) 1)
 have f2:=(hb3.cell (p:=⟨w.heap.size,2,none⟩) (by simp)).trans (ah (heap_alloc_new w _) 2)
 have f3:=(hb3.cell (p:=⟨w.heap.size,3,none⟩) (by simp)).trans (ah (heap_alloc_new w _) 3)
 simp only[List.getElem?_toArray,List.getElem?_cons_zero,List.getElem?_cons_succ]at f0 f1 f2 f3
 have z3:=hb3.size
 rw[World.size_alloc]at z3
 have z5:w.heap.size<w3.heap.size:=by omega
 have bu:=hide ((ae HB).trans (hb3.mono (by rw[World.size_alloc];omega)))
 have qF:=hide ((ae HU).trans (hb3.mono (ae HU).size))
 have FK:=hide ((hb3.block w.heap.size (by simp)).trans (heap_alloc_new w _))
 clear hb3
 go_wp2_with fail
 have cu:=hide ((ae bu).alloc (by omega) (.cells #[.int .i64 1,.int .i64 vb,.string xb,.int .i64 (cb':Int)] 144))
 have Xi:=hide ((ae qF).alloc (Nat.le_trans (ae rS).size (by omega)) (.cells #[.int .i64 1,.int .i64 vb,.string xb,.int .i64 (cb':Int)] 144))
 refine(ae Xh _ R (ae Xi) ((ae H).below (ae cu)) hl).mono ?_
 rintro e w6 ⟨rfl,R6,h6,fr6⟩
 have H6:=hide h6
 have BH:=hide fr6
 clear h6 fr6
 go_wp2_with fail
 go_end0
 rw[ae HS]
 exact⟨rfl,S,R6,by show cO w6 lb S (l.w.aU (TT n)).wt (l.w.aU (TT n)).no R6;rw[Zf.Wn.gT];exact ae H6,ae HST,ae vp,(aq.of_below (ae cu)).trans (ae BH)⟩
theorem O2 (f:Nat) (u w:World) (lb sb sq:Nat) (cS:Array Value) (Ty:TypeId) (D:List Ng) (nO:Option Addr) (nC:Nat) (fr:Nat→Nat) (TT:Nat→Zf.U) (PP R:Nat→Prop) (M:List (List UInt8)) (S:List Int) (a:AV) (n:Nat) (p:Zf.Tm) (l:Zf.bQ) (hG:gj u lb sb sq cS Ty D nO nC fr TT PP) (hu:Below u.heap.size u w) (h:cO w lb S l.w.wt l.w.no R) (hs:mG D TT M S l.st) (hS:S.length≤M.length) (ha:l7 M a p) (wp:Zf.wfK (f+1) p) (hn:n<D.length) (kp:p.kind≠3) (d:Ng) (hd:D[fr n]?=some d) (kt:d.k≠1) (hk2:¬(a.k=d.k∧jq a=d.val∧a.tx=d.tx∧a.n=d.cnt)):
 Calls Tryz.prog 46 #[.pointer (some ⟨lb,0,none⟩),.pointer (some ⟨sb,sq,none⟩),.agg #[.int .i64 a.k,.int .i64 a.val,.string a.tx,.slice a.ao a.n a.cap],.int .i64 (n:Int)] w fun e w'=>Ee lb D TT M (Zf.matU (f+1) p (TT n) l) R w e w':=by
 obtain⟨k,val,tx,ao,m,cp⟩:=a
 have hk:(k == 1)=false:=by
  have h1:=ha.1
  dsimp only at h1
  rw[h1]
  rcases ha.2.2.2.2.2.1 with e | e | e<;>first | exact absurd e kp | (rw[e];decide)
 have HB:=hide ((Below.refl w.heap.size w).alloc (Nat.le_refl _) (.cells #[.int .i64 k,.int .i64 val,.string tx,.slice ao m cp] 74))
 have HU:=hide (hu.trans ((ae HB).mono hu.size))
 have rS:=hide hu
 have HG:=hide hG
 have H:=hide h
 have HST:=hide hs
 have vp:=hide hS
 obtain⟨kh,hop⟩:=hG.ok.hop n hn
 obtain⟨_,e1,od,_,_,nd⟩:=hG.node hn
 rw[hd]at e1
 cases e1
 obtain⟨ku,tu,iu,lu,eu⟩:=nd kt
 have HL:=hide (dS _ sb sq cS Ty D nO nC n (fr n) kh d (hG.at (ae HU)) hop hd)
 have HS:=hide (show Zf.matU (f+1) p (TT n) l=⟨l.st,l.w.bad⟩by rw[eu];exact Zf.mR l kp (fun q=>hk2 ((BI ha wp kp od kt lu).1 (by rw[List.length_map]at q;exact q))))
 have t2:(d.k == 1)=false:=by simpa using kt
 have hlab:=fun w=>qC w ⟨k,val,tx,ao,m,cp⟩
 have t3:=hk2
 dsimp only at t3
 obtain⟨kb,vb,xb,cb',ob,pb,gb,nb,mb⟩:=d
 dsimp only at HL t2 t3
 generalize jq ⟨k,val,tx,ao,m,cp⟩=lv at*
 dsimp only at hlab
 have LA:=hide hlab
 have hc:(¬k=kb)∨(k=kb∧¬lv=vb)∨(k=kb∧lv=vb∧¬tx.toList=xb.toList)∨(k=kb∧lv=vb∧tx=xb∧¬(m:Int)=(cb':Int)):=by
  by_cases q1:k=kb
  ·by_cases q2:lv=vb
   ·by_cases q3:tx=xb
    ·exact Or.inr (Or.inr (Or.inr ⟨q1,q2,q3,fun q4=>t3 ⟨q1,q2,q3,by omega⟩⟩))
    ·exact Or.inr (Or.inr (Or.inl ⟨q1,q2,fun q=>q3 (toList_inj q)⟩))
   ·exact Or.inr (Or.inl ⟨q1,q2⟩)
  ·exact Or.inl q1
 clear hG hu h hs hS hn ha wp kp kt hk2 t3 hop hd od nd lu eu
 rcases hc with hc | ⟨rfl,hc⟩ | ⟨rfl,rfl,hc⟩ | ⟨rfl,rfl,rfl,hc⟩
 all_goals
  clear hlab
  go_enter Tryz.func46,Tryz.ntmps46
  go_wp2_with fail
  refine(ae HL).mono ?_
  rintro e w3 ⟨rfl,hb3⟩
  have f0:=(hb3.cell (p:=⟨w.heap.size,0,none⟩) (by simp)).trans (ah (heap_alloc_new w _) 0)
  have f1:=(hb3.cell (p:=⟨w.heap.size,1,none⟩) (by simp)).trans (ah (heap_alloc_new w _) 1)
  have f2:=(hb3.cell (p:=⟨w.heap.size,2,none⟩) (by simp)).trans (ah (heap_alloc_new w _) 2)
  have f3:=(hb3.cell (p:=⟨w.heap.size,3,none⟩) (by simp)).trans (ah (heap_alloc_new w _) 3)
  simp only[List.getElem?_toArray,List.getElem?_cons_zero,List.getElem?_cons_succ]at f0 f1 f2 f3
  have z3:=hb3.size
  rw[World.size_alloc]at z3
  have z5:w.heap.size<w3.heap.size:=by omega
  have bu:=hide ((ae HB).trans (hb3.mono (by rw[World.size_alloc];omega)))
  have qF:=hide ((ae HU).trans (hb3.mono (ae HU).size))
  have FK:=hide ((hb3.block w.heap.size (by simp)).trans (heap_alloc_new w _))
  clear hb3
  go_wp2_with fail
  go_region_with (go_at_call 78;refine(ae LA _).mono ?_;rintro e w5 ⟨rfl,bf⟩;have g0:=(bf.cell (p:=⟨w3.heap.size,0,none⟩) (gV w3 _)).trans (ah (heap_alloc_new w3 _) 0);have g1:=(bf.cell (p:=⟨w3.heap.size,1,none⟩) (gV w3 _)).trans (ah (heap_alloc_new w3 _) 1);have g2:=(bf.cell (p:=⟨w3.heap.size,2,none⟩) (gV w3 _)).trans (ah (heap_alloc_new w3 _) 2);have g3:=(bf.cell (p:=⟨w3.heap.size,3,none⟩) (gV w3 _)).trans (ah (heap_alloc_new w3 _) 3);simp only[List.getElem?_toArray,List.getElem?_cons_zero,List.getElem?_cons_succ]at g0 g1 g2 g3;have bj:=hide (((ae bu).alloc (by omega) _).trans ((((Below.refl _ _).drew).trans bf).mono (Nat.le_trans (by omega) (Nat.le_of_lt (gV w3 _)))));clear bf)
  all_goals
   obtain⟨so,sc,wo,wc,hlo,rfl⟩:=(ae H).below (ae bj)
   have s2:=ah hlo.blk 2
   have sf:=au hlo.blk 2
   have sz:=af hlo.blk
   simp only[List.getElem?_toArray,List.getElem?_cons_zero,List.getElem?_cons_succ]at s2
   have lM:=hide hlo
   clear hlo
   go_wp2_with fail
   go_end0
   rw[ae HS]
   exact⟨rfl,S,_,⟨so,sc,wo,wc,(ae lM).bad.1,rfl⟩,ae HST,ae vp,(aq.of_below (ae bj)).trans (ae lM).bad.2⟩
def Uk (lb:Nat) (D:List Ng) (TT:Nat→Zf.U) (M:List (List UInt8)) (f:Nat) (p:Zf.Tm) (us:List Zf.U) (l:Zf.bQ) (R:Nat→Prop) (w:World) (C:Array Value) (k:Nat) (iv:Value) (wr:World):Prop:=
 ∃(j:Nat) (S':List Int) (R':Nat→Prop),k+j=p.args.length∧iv= .int .i64 (j:Int)∧cO wr lb S' (Zf.dw (Zf.matU f) (p.args.take j) (us.take j) l).w.wt (Zf.dw (Zf.matU f) (p.args.take j) (us.take j) l).w.no R'∧mG D TT M S' (Zf.dw (Zf.matU f) (p.args.take j) (us.take j) l).st∧S'.length≤M.length∧aq R R' w wr∧wr.heap[w.heap.size]?=some (.cells C 74 (0,0))∧¬R' w.heap.size
theorem K4 {f:Nat} (IH:Ik f) (P:Nat→Prop) (u w:World) (lb sb sq:Nat) (cS:Array Value) (Ty:TypeId) (D:List Ng) (nO:Option Addr) (nC:Nat) (fr:Nat→Nat) (TT:Nat→Zf.U) (PP R:Nat→Prop) (M:List (List UInt8)) (S:List Int) (a:AV) (n:Nat) (p:Zf.Tm) (l:Zf.bQ) (B:Nat) (hG:gj u lb sb sq cS Ty D nO nC fr TT PP) (hu:Below u.heap.size u w) (h:cO w lb S l.w.wt l.w.no R) (hs:mG D TT M S l.st) (hS:S.length≤M.length) (hM:M.Nodup) (hML:M.length≤100000) (hr:RA (f+1) M P u a p) (wp:Zf.wfK (f+1) p) (hn:n<D.length) (hsz:Zf.size (TT n)≤B) (hsm:l.sm B) (hl:l.w.wt.length+2*B*3 ^ (f+1)+2*B≤100000000) (kp:p.kind≠3) (d:Ng) (hd:D[fr n]?=some d) (kt:d.k≠1) (hk2:a.k=d.k∧jq a=d.val∧a.tx=d.tx∧a.n=d.cnt):
 Calls Tryz.prog 46 #[.pointer (some ⟨lb,0,none⟩),.pointer (some ⟨sb,sq,none⟩),.agg #[.int .i64 a.k,.int .i64 a.val,.string a.tx,.slice a.ao a.n a.cap],.int .i64 (n:Int)] w fun e w'=>Ee lb D TT M (Zf.matU (f+1) p (TT n) l) R w e w':=by
 obtain⟨ha,hrow⟩:=hr
 obtain⟨k,val,tx,ao,m,cp⟩:=a
 have hk:(k == 1)=false:=by
  have h1:=ha.1
  dsimp only at h1
  rw[h1]
  rcases ha.2.2.2.2.2.1 with e | e | e<;>first | exact absurd e kp | (rw[e];decide)
 have HB:=hide ((Below.refl w.heap.size w).alloc (Nat.le_refl _) (.cells #[.int .i64 k,.int .i64 val,.string tx,.slice ao m cp] 74))
 have HU:=hide (hu.trans ((ae HB).mono hu.size))
 have rS:=hide hu
 have HG:=hide hG
 have H:=hide h
 have HST:=hide hs
 have vp:=hide hS
 obtain⟨kh,hop⟩:=hG.ok.hop n hn
 obtain⟨_,e1,od,md,_,nd⟩:=hG.node hn
 rw[hd]at e1
 cases e1
 obtain⟨ku,tu,iu,lu,eu⟩:=nd kt
 have HL:=hide (dS _ sb sq cS Ty D nO nC n (fr n) kh d (hG.at (ae HU)) hop hd)
 have hrt:=(BI ha wp kp od kt lu).2 hk2
 have HS:=hide (show Zf.matU (f+1) p (TT n) l=Zf.dw (Zf.matU f) p.args (d.args.map TT) l by rw[eu];exact Zf.lJ l kp (by rw[List.length_map];exact hrt))
 have ql:1+Zf.sizeL (d.args.map TT)≤B:=by rw[eu,Zf.size]at hsz;omega
 have hlab:=fun w=>qC w ⟨k,val,tx,ao,m,cp⟩
 have hal:=hrt.2
 have HAb:=hide (fun W (hu:Below u.heap.size u W)=>mg W sb sq cS Ty D nO nC n (fr n) kh d (hG.at hu) hop hd)
 have HCb:=hide (fun q=>hG.ar.at md q)
 have oZ:=hide od.inn
 obtain⟨kb,vb,xb,cb',ob,pb,gb,nb,mb⟩:=d
 obtain⟨q1,q2,q3,q4⟩:=hk2
 have h2:=ha.2.1
 dsimp only at h2 q1 q2 q3 q4 hrow HAb HCb oZ HL hal HS ql
 rw[←hal]at HAb
 generalize jq ⟨k,val,tx,ao,m,cp⟩=lv at*
 dsimp only at hlab
 subst q1 q2 q3 q4 h2
 have LA:=hide hlab
 have lj:=hide hrow
 have Ul:=hide hal
 have HWp:=hide wp.2.2.2
 have Um:=hide wp.2.2.1
 have xj:=hide hl
 have Xj:=hide hM
 have jf:=hide hsm
 have yq:=hide ql
 have I:=hide IH
 clear hG hu h hs hS hM hn ha kp kt hlab hrow hal wp hl IH hop hd od md nd lu eu hrt hsz hsm ql
 go_enter Tryz.func46,Tryz.ntmps46
 go_wp2_with fail
 refine(ae HL).mono ?_
 rintro e w3 ⟨rfl,hb3⟩
 have f0:=(hb3.cell (p:=⟨w.heap.size,0,none⟩) (by simp)).trans (ah (heap_alloc_new w _) 0)
 have f1:=(hb3.cell (p:=⟨w.heap.size,1,none⟩) (by simp)).trans (ah (heap_alloc_new w _) 1)
 have f2:=(hb3.cell (p:=⟨w.heap.size,2,none⟩) (by simp)).trans (ah (heap_alloc_new w _) 2)
 have f3:=(hb3.cell (p:=⟨w.heap.size,3,none⟩) (by simp)).trans (ah (heap_alloc_new w _) 3)
 simp only[List.getElem?_toArray,List.getElem?_cons_zero,List.getElem?_cons_succ]at f0 f1 f2 f3
 have z3:=hb3.size
 rw[World.size_alloc]at z3
 have z5:w.heap.size<w3.heap.size:=by omega
 have bu:=hide ((ae HB).trans (hb3.mono (by rw[World.size_alloc];omega)))
 have qF:=hide ((ae HU).trans (hb3.mono (ae HU).size))
 have FK:=hide ((hb3.block w.heap.size (by simp)).trans (heap_alloc_new w _))
 clear hb3
 go_wp2_with fail
 have e0:=ah (heap_alloc_new w3 (.cells #[.int .i64 k,.int .i64 lv,.string tx,.int .i64 (p.args.length:Int)] 144)) 0
 have e1:=ah (heap_alloc_new w3 (.cells #[.int .i64 k,.int .i64 lv,.string tx,.int .i64 (p.args.length:Int)] 144)) 1
 have e2:=ah (heap_alloc_new w3 (.cells #[.int .i64 k,.int .i64 lv,.string tx,.int .i64 (p.args.length:Int)] 144)) 2
 have e3:=ah (heap_alloc_new w3 (.cells #[.int .i64 k,.int .i64 lv,.string tx,.int .i64 (p.args.length:Int)] 144)) 3
 simp only[List.getElem?_toArray,List.getElem?_cons_zero,List.getElem?_cons_succ]at e0 e1 e2 e3
 go_region_held3 (fun w'=>w'.cell? ⟨w.heap.size,0,none⟩=some (.int .i64 k)∧w'.cell? ⟨w.heap.size,1,none⟩=some (.int .i64 val)∧w'.cell? ⟨w.heap.size,2,none⟩=some (.string tx)∧w'.cell? ⟨w.heap.size,3,none⟩=some (.slice ao p.args.length cp)∧w'.cell? ⟨w3.heap.size,0,none⟩=some (.int .i64 k)∧w'.cell? ⟨w3.heap.size,1,none⟩=some (.int .i64 lv)∧w'.cell? ⟨w3.heap.size,2,none⟩=some (.string tx)∧w'.cell? ⟨w3.heap.size,3,none⟩=some (.int .i64 (p.args.length:Int))) (go_keep) (first
  | (go_at_call 78;refine(ae LA _).mono ?_;rintro e w5 ⟨rfl,bf⟩;have g0:=(bf.cell (p:=⟨w3.heap.size,0,none⟩) (gV w3 _)).trans e0;have g1:=(bf.cell (p:=⟨w3.heap.size,1,none⟩) (gV w3 _)).trans e1;have g2:=(bf.cell (p:=⟨w3.heap.size,2,none⟩) (gV w3 _)).trans e2;have g3:=(bf.cell (p:=⟨w3.heap.size,3,none⟩) (gV w3 _)).trans e3;have y0:=(bf.cell (p:=⟨w.heap.size,0,none⟩) (Nat.lt_trans z5 (gV w3 _))).trans ((World.cell?_alloc_past _ _ _ z5).trans f0);have y1:=(bf.cell (p:=⟨w.heap.size,1,none⟩) (Nat.lt_trans z5 (gV w3 _))).trans ((World.cell?_alloc_past _ _ _ z5).trans f1);have y2:=(bf.cell (p:=⟨w.heap.size,2,none⟩) (Nat.lt_trans z5 (gV w3 _))).trans ((World.cell?_alloc_past _ _ _ z5).trans f2);have y3:=(bf.cell (p:=⟨w.heap.size,3,none⟩) (Nat.lt_trans z5 (gV w3 _))).trans ((World.cell?_alloc_past _ _ _ z5).trans f3);have bj:=hide (((ae bu).alloc (by omega) _).trans ((((Below.refl _ _).drew).trans bf).mono (Nat.le_trans (by omega) (Nat.le_of_lt (gV w3 _)))));have BJ:=hide ((bf.block w.heap.size (Nat.lt_trans z5 (gV w3 _))).trans ((Below.heap_alloc _ _ _ z5).trans (ae FK)));clear bf))
 go_wp2_with fail
 have Qh:=hide (show Uk lb D TT M f p (gb.map TT) l R w #[.int .i64 k,.int .i64 val,.string tx,.slice ao p.args.length cp] p.args.length (.int .i64 0) w5 from ⟨0,S,R,by omega,rfl,by simpa [Zf.dw] using (ae H).below (ae bj),by simpa [Zf.dw] using ae HST,ae vp,aq.of_below (ae bj),ae BJ,fun q=>by have:=((ae H).rows _ q).2;omega⟩)
 refine(ae HAb _ ((ae rS).trans ((ae bj).mono (ae rS).size))).mono ?_
 rintro e w6 ⟨rfl,rfl⟩
 clear e0 e1 e2 e3 f0 f1 f2 f3 g0 g1 g2 g3 y0 y1 y2 y3 HB HU HL bu qF FK bj BJ HAb LA z3 z5 hk
 go_wp2_with fail
 go_loopg [10] p.args.length (fun k' iv wr=>Uk lb D TT M f p (gb.map TT) l R w #[.int .i64 k,.int .i64 val,.string tx,.slice ao p.args.length cp] k' iv wr)
 case atStart=>exact ae Qh
 case round=>
  clear Qh
  obtain⟨j,S',R',hkj,rfl,hlo,hst,hsl,ct,dN,hbr⟩:=hrel
  have lN:=(ae H).under ct (ae rS) (ae HG).lt
  have x3:=ah dN 3
  simp only[List.getElem?_toArray,List.getElem?_cons_zero,List.getElem?_cons_succ]at x3
  have zx:=af dN
  by_cases hlt:j<p.args.length
  ·have hjb:j<gb.length:=by have:=ae Ul;omega
   have hlt':j<(gb.map TT).length:=by rw[List.length_map];exact hjb
   obtain⟨g,us,ca,hao,_,fw,mh,mF⟩:=ae lj (fun q=>by rw[q]at hlt;simp at hlt)
   subst hao
   obtain⟨pB,eB,zB,cB⟩:=ae HCb (fun q=>by rw[q]at hjb;simp at hjb)
   subst eB
   have Ec:j<us.length:=by have:=mF.length;omega
   have fc:∀w',Below u.heap.size u w'→∀i,i<4→w'.cell? ⟨g,j*4+i,none⟩=(gP us[j])[i]?:=fun w' hb i hi=>by
    rw[hb.cell (p:=⟨g,j*4+i,none⟩) (af fw),ah fw,←Array.getElem?_toList,←OU Ec i hi,←mh,List.getElem?_take_of_lt (by omega)]
   have Ea:=hide (show∀w',Below u.heap.size u w'→w'.cell? ⟨g,j*4,none⟩=some (.int .i64 us[j].k)∧w'.cell? ⟨g,j*4+1,none⟩=some (.int .i64 us[j].val)∧w'.cell? ⟨g,j*4+2,none⟩=some (.string us[j].tx)∧w'.cell? ⟨g,j*4+3,none⟩=some (.slice us[j].ao us[j].n us[j].cap)∧w'.cell? ⟨pB,j,none⟩=some (.int .i64 (gb[j]:Int))from fun w' hb=>by
    have a0:=fc w' hb 0 (by omega)
    have a1:=fc w' hb 1 (by omega)
    have a2:=fc w' hb 2 (by omega)
    have a3:=fc w' hb 3 (by omega)
    simp only[gP,List.getElem?_cons_zero,List.getElem?_cons_succ,Nat.add_zero]at a0 a1 a2 a3
    exact⟨a0,a1,a2,a3,(hb.cell (p:=⟨pB,j,none⟩) zB).trans (cB j hjb)⟩)
   have hB1:1≤B:=by have:=ae yq;omega
   obtain⟨sm1,sm2⟩:=Zf.yi (g:=Zf.matU f) (B:=B) (c:=2*B*3 ^ f) (p.args.take j) ((gb.map TT).take j) l (fun q hq v hv l' hl'=>Zf.uv f q v l' (ae HWp q (List.mem_of_mem_take hq)) (by have:=Zf.iO (List.mem_of_mem_take hv);have:=ae yq;omega) hB1 hl') (ae jf)
   rw[List.length_take,Nat.min_eq_left (by omega)]at sm2
   have hcap:(Zf.dw (Zf.matU f) (p.args.take j) ((gb.map TT).take j) l).w.wt.length+2*B*3 ^ f+2*B≤100000000:=by
    have q1:=ae xj
    have q2:2*B*3 ^ (f+1)=3*(2*B*3 ^ f):=by rw[Nat.pow_succ];rw[←Nat.mul_assoc,Nat.mul_comm]
    have q3:j*(2*B*3 ^ f)≤2*(2*B*3 ^ f):=Nat.mul_le_mul_right _ (by have:=ae Um;omega)
    omega
   have BK:Zf.size (TT gb[j])≤B:=by have:=Zf.iO (List.mem_map_of_mem (f:=TT) (List.getElem_mem hjb));have:=ae yq;omega
   have IC:=hide (ae I P u wr.drew lb sb sq cS Ty D nO nC fr TT PP R' M S' us[j] gb[j] p.args[j] (Zf.dw (Zf.matU f) (p.args.take j) ((gb.map TT).take j) l) B (ae HG) lN.drew (hlo.below (Below.refl _ _).drew) hst hsl (ae Xj) hML (mF.lD j Ec hlt) (ae HWp _ (List.getElem_mem hlt)) (ae oZ _ (List.getElem_mem hjb)) BK sm1 hcap)
   have K5:=Zf.y8 (Zf.matU f) p.args (gb.map TT) l hlt hlt'
   rw[List.getElem_map]at K5
   rw[←K5]at IC
   obtain⟨a0,a1,a2,a3,a4⟩:=ae Ea wr lN
   have gB:=hide ct
   have Nh:=hide lN
   have lM:=hide hlo
   have aW:=hide hkj
   have ba:=hide hlt
   have jZ:=hide dN
   have Qi:=hide hbr
   generalize us[j]=v6 at*
   generalize gb[j]=nb at*
   have zr:u.heap.size≤wr.heap.size:=lN.size
   have zA':g<wr.heap.size:=by have:=af fw;omega
   have zB':pB<wr.heap.size:=by omega
   have Qf:j≤3:=by have:=ae Um;omega
   have i0:(0:Int)≤(j:Int):=by omega
   have i1:(j:Int)<(p.args.length:Int):=by omega
   clear hlo hst hsl ct lN hkj hlt hlt' hjb Ec cB sm1 sm2 hcap BK K5 hB1 dN hbr fc fw mh mF
   go_wp2_with fail
   go_region_held3 (fun w'=>w'.cell? ⟨w.heap.size,3,none⟩=some (.slice (some ⟨g,0,none⟩) p.args.length cp)∧w'.cell? ⟨g,j*4,none⟩=some (.int .i64 v6.k)∧w'.cell? ⟨g,j*4+1,none⟩=some (.int .i64 v6.val)∧w'.cell? ⟨g,j*4+2,none⟩=some (.string v6.tx)∧w'.cell? ⟨g,j*4+3,none⟩=some (.slice v6.ao v6.n v6.cap)∧w'.cell? ⟨pB,j,none⟩=some (.int .i64 (nb:Int))) (go_keep) (first
    | (go_at_call 46;refine(ae IC).mono ?_;rintro e w8 ⟨rfl,S8,R8,h8,s8,l8,fr8⟩;have nQ:=hide ((ae gB).trans ((aq.of_below (Below.refl _ _).drew).trans fr8));obtain⟨k0,k1,k2,k3,k4⟩:=ae Ea w8 ((ae lM).under ((aq.of_below (Below.refl _ _).drew).trans fr8) (ae Nh) (ae HG).lt);have k9:=(fr8.cell (p:=⟨w.heap.size,3,none⟩) zx (ae Qi)).trans x3;have VJ:=hide ((fr8.block w.heap.size zx (ae Qi)).trans (ae jZ));have VK:=hide (fr8.not (k:=w.heap.size) zx (ae Qi));have H8:=hide h8;have Xk:=hide s8;have Xl:=hide l8;clear h8 s8 l8 fr8))
   all_goals
    go_wp2_with fail
    go_roundg (gk - 1)
    case measure=>have:=ae aW;have:=ae ba;omega
    case rel=>exact⟨j+1,S8,R8,by have:=ae aW;have:=ae ba;omega,by go_num,ae H8,ae Xk,ae Xl,ae nQ,ae VJ,ae VK⟩
  ·obtain rfl:j=p.args.length:=by omega
   have lM:=hide hlo
   have VL:=hide hst
   have VM:=hide hsl
   have gB:=hide ct
   clear hlo hst hsl ct lN hkj dN hbr
   go_wp2_with fail
   go_end0
   rw[ae HS]
   have q1:=ae lM
   have q3:=ae VL
   rw[List.take_length,List.take_of_length_le (by rw[List.length_map];have:=ae Ul;omega)]at q1 q3
   exact⟨rfl,S',R',q1,q3,ae VM,ae gB⟩
theorem muG_all:∀f,Ik f
 | 0=>fun P u w lb sb sq cS Ty D nO nC fr TT PP R M S a n p l B hG hu h hs hS hM hML hr _ _ _ _ _=>hr.elim
 | f+1=>fun P u w lb sb sq cS Ty D nO nC fr TT PP R M S a n p l B hG hu h hs hS hM hML hr wp hn hsz hsm hl=>by
  by_cases kp:p.kind=3
  ·exact KZ f u w lb sb sq cS Ty D nO nC fr TT PP R M S a n p l B hG hu h hs hS hM hML hr.1 hn hsm (by omega) kp
  ·obtain⟨d,hd,_⟩:=hG.node hn
   by_cases kt:d.k=1
   ·exact K0 f u w lb sb sq cS Ty D nO nC fr TT PP R M S a n p l hG hu h hs hS hr.1 hn (by omega) kp d hd kt
   ·by_cases hk:a.k=d.k∧jq a=d.val∧a.tx=d.tx∧a.n=d.cnt
    ·exact K4 (muG_all f) P u w lb sb sq cS Ty D nO nC fr TT PP R M S a n p l B hG hu h hs hS hM hML hr wp hn hsz hsm hl kp d hd kt hk
    ·exact O2 f u w lb sb sq cS Ty D nO nC fr TT PP R M S a n p l hG hu h hs hS hr.1 wp hn kp d hd kt hk
end Go.Proofs.YthfjnfcekeknlabGreatDoor
