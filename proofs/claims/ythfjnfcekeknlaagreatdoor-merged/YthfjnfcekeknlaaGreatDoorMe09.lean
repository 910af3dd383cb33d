import Derived.Test.YthfjnfcekeknlaaGreatDoorMe07
import Derived.Test.YthfjnfcekeknlaaGreatDoorMe08
import Derived.Deep.RegionWith
import Derived.Deep.LoopGhost
import Derived.Deep.RegionHeld3
set_option maxHeartbeats 8000000
set_option maxRecDepth 100000
namespace Go.Proofs.YthfjnfcekeknlaaGreatDoor
open Go.RowKit
def Im (f:Nat):Prop:=∀(P:Nat→Prop) (u w:World) (lb sb sq:Nat) (cS:Array Value) (Ty:TypeId) (D:List Ng) (nO:Option Addr) (nC:Nat) (fr:Nat→Nat) (TT:Nat→Zc.U) (PP R:Nat→Prop) (M:List (List UInt8)) (S:List Int) (a:AV) (n:Nat) (p:Zc.Tm) (l:Zc.bJ) (B:Nat),gB u lb sb sq cS Ty D nO nC fr TT PP→Below u.heap.size u w→dp w lb S l.w.wt l.w.no R→mJ D TT M S l.st→S.length≤M.length→M.Nodup→M.length≤100000→RA f M P u a p→Zc.wfK f p→n<D.length→Zc.size (TT n)≤B→l.sm B→l.w.wt.length+2*B*3 ^ f+2*B≤100000000→
 Calls Tryz.prog 109 #[.pointer (some ⟨lb,0,none⟩),.pointer (some ⟨sb,sq,none⟩),.agg #[.int .i64 a.k,.int .i64 a.val,.string a.tx,.slice a.ao a.n a.cap],.int .i64 (n:Int)] w fun e w'=>Eh lb D TT M (Zc.matU f p (TT n) l) R w e w'
theorem BL {M:List (List UInt8)} {len f:Nat} {a:AV} {p:Zc.Tm} {d:Ng} {k:Nat} {tx:List UInt8} {num:Int} (ha:lV M a p) (wp:Zc.wfK (f+1) p) (kp:p.kind≠3) (hd:gI len d) (hk:d.k≠1) (hl:fw d=some (k,tx,num)):
 (Zc.gm p=(k,tx,num)∧p.args.length=d.args.length)↔(a.k=d.k∧jt a=d.val∧a.tx=d.tx∧a.n=d.cnt):=by
 obtain⟨h1,h2,_,h4,h5,h6,_,_⟩:=ha
 have d23:d.k=2∨d.k=3:=hd.ks.resolve_left hk
 rcases h6 with e | e | e
 ·have a3:a.k=3:=by rw[h1,e];rfl
  have lv:jt a=0:=by unfold jt;rw[if_neg (by omega)]
  have rp:Zc.gm p=(1,p.text.toList,0):=by unfold Zc.gm;rw[if_neg (by omega)]
  rw[rp,lv,h5 e,h2,a3]
  rcases d23 with q | q
  ·have:fw d=some (3,[],d.val):=by unfold fw;rw[if_neg hk,if_pos q]
   rw[hl]at this
   injection this with this
   injection this with u1 _
   subst u1
   constructor
   ·rintro⟨r,_⟩
    injection r with r
    exact absurd r (by decide)
   ·rintro⟨r,_⟩
    omega
  ·have:fw d=some (1,d.tx.toList,0):=by unfold fw;rw[if_neg hk,if_neg (by omega)]
   rw[hl]at this
   injection this with this
   injection this with u1 this
   injection this with u2 u3
   subst u1 u2 u3
   obtain⟨c1,c2,_⟩:=hd.c q
   constructor
   ·rintro⟨r,s⟩
    injection r with _ r
    injection r with r _
    exact⟨q.symm,c1.symm,toList_inj r,by rw[c2,s]⟩
   ·rintro⟨_,_,r,s⟩
    exact⟨by rw[r],by rw[s,c2]⟩
 ·exact absurd e kp
 ·have a2:a.k=2:=by rw[h1,e];rfl
  have lv:jt a=a.val:=by unfold jt;rw[if_pos a2]
  have rp:Zc.gm p=(3,[],(Zc.numOf p.text:Int)):=by unfold Zc.gm;rw[if_pos e]
  obtain⟨v1,_,v3⟩:=h4 e
  have pa:p.args=[]:=wp.2.1 (by omega)
  rw[rp,lv,v1,v3,h2,a2,pa]
  rcases d23 with q | q
  ·have:fw d=some (3,[],d.val):=by unfold fw;rw[if_neg hk,if_pos q]
   rw[hl]at this
   injection this with this
   injection this with u1 this
   injection this with u2 u3
   subst u1 u2 u3
   obtain⟨c1,c2,c3⟩:=hd.m q
   constructor
   ·rintro⟨r,_⟩
    injection r with _ r
    injection r with _ r
    exact⟨q.symm,r,c1.symm,by rw[c2];rfl⟩
   ·rintro⟨_,r,_,_⟩
    exact⟨by rw[r],by rw[c3];rfl⟩
  ·have:fw d=some (1,d.tx.toList,0):=by unfold fw;rw[if_neg hk,if_neg (by omega)]
   rw[hl]at this
   injection this with this
   injection this with u1 _
   subst u1
   constructor
   ·rintro⟨r,_⟩
    injection r with r
    exact absurd r (by decide)
   ·rintro⟨r,_⟩
    omega
theorem KX (f:Nat) (u w:World) (lb sb sq:Nat) (cS:Array Value) (Ty:TypeId) (D:List Ng) (nO:Option Addr) (nC:Nat) (fr:Nat→Nat) (TT:Nat→Zc.U) (PP R:Nat→Prop) (M:List (List UInt8)) (S:List Int) (a:AV) (n:Nat) (p:Zc.Tm) (l:Zc.bJ) (B:Nat) (hG:gB u lb sb sq cS Ty D nO nC fr TT PP) (hu:Below u.heap.size u w) (h:dp w lb S l.w.wt l.w.no R) (hs:mJ D TT M S l.st) (hS:S.length≤M.length) (hM:M.Nodup) (hML:M.length≤100000) (ha:lV M a p) (hn:n<D.length) (hsm:l.sm B) (hl:l.w.wt.length+2*B≤100000000) (kp:p.kind=3):
 Calls Tryz.prog 109 #[.pointer (some ⟨lb,0,none⟩),.pointer (some ⟨sb,sq,none⟩),.agg #[.int .i64 a.k,.int .i64 a.val,.string a.tx,.slice a.ao a.n a.cap],.int .i64 (n:Int)] w fun e w'=>Eh lb D TT M (Zc.matU (f+1) p (TT n) l) R w e w':=by
 obtain⟨h1,h2,h3,h4,h5,h6,h7,h8⟩:=ha
 obtain⟨h9,h10⟩:=h3 kp
 obtain⟨k,val,tx,ao,m,cp⟩:=a
 dsimp only at h1 h2 h10⊢
 have e1:ak p.kind=1:=by rw[kp];rfl
 rw[e1]at h1
 subst h1 h10
 have hx:M[M.idxOf p.text.toList]?=some p.text.toList:=by
  rw[List.getElem?_eq_getElem (List.idxOf_lt_length_of_mem h9),List.getElem_idxOf]
 have HS:=af (show Zc.matU (f+1) p (TT n) l=l.meet p.text.toList (TT n)from Zc.mS _ l kp)
 have HB:=af ((Below.refl w.heap.size w).alloc (Nat.le_refl _) (.cells #[.int .i64 1,.int .i64 (M.idxOf p.text.toList:Int),.string tx,.slice ao m cp] 76))
 have HM:=af (Tq u (w.alloc (.cells #[.int .i64 1,.int .i64 (M.idxOf p.text.toList:Int),.string tx,.slice ao m cp] 76)) lb sb sq cS Ty D nO nC fr TT PP R M S (M.idxOf p.text.toList) n p.text.toList l B hG (hu.trans ((ae HB).mono hu.size)) (h.below (ae HB)) hs hS hM hML hx hn hsm hl)
 clear hG hu h hs hS hM hn hsm hl h2 h3 h4 h5 h6 h7 h8 h9 hx e1 kp
 generalize M.idxOf p.text.toList=ix at*
 go_enter Tryz.func109,Tryz.ntmps109
 go_wp2_with fail
 refine(ae HM).mono ?_
 rintro e w2 ⟨rfl,S2,R2,h2,s2,l2,fr2⟩
 have H2:=af h2
 have bZ:=af s2
 have sB:=af l2
 have vK:=af fr2
 clear h2 s2 l2 fr2
 go_wp2_with fail
 go_end0
 rw[ae HS]
 exact⟨rfl,S2,R2,ae H2,ae bZ,ae sB,(au.aw (ae HB)).trans (ae vK)⟩
theorem KY (f:Nat) (u w:World) (lb sb sq:Nat) (cS:Array Value) (Ty:TypeId) (D:List Ng) (nO:Option Addr) (nC:Nat) (fr:Nat→Nat) (TT:Nat→Zc.U) (PP R:Nat→Prop) (M:List (List UInt8)) (S:List Int) (a:AV) (n:Nat) (p:Zc.Tm) (l:Zc.bJ) (hG:gB u lb sb sq cS Ty D nO nC fr TT PP) (hu:Below u.heap.size u w) (h:dp w lb S l.w.wt l.w.no R) (hs:mJ D TT M S l.st) (hS:S.length≤M.length) (ha:lV M a p) (hn:n<D.length) (hl:l.w.wt.length≤100000000) (kp:p.kind≠3) (d:Ng) (hd:D[fr n]?=some d) (kt:d.k=1):
 Calls Tryz.prog 109 #[.pointer (some ⟨lb,0,none⟩),.pointer (some ⟨sb,sq,none⟩),.agg #[.int .i64 a.k,.int .i64 a.val,.string a.tx,.slice a.ao a.n a.cap],.int .i64 (n:Int)] w fun e w'=>Eh lb D TT M (Zc.matU (f+1) p (TT n) l) R w e w':=by
 obtain⟨k,val,tx,ao,m,cp⟩:=a
 have hk:(k == 1)=false:=by
  have h1:=ha.1
  dsimp only at h1
  rw[h1]
  rcases ha.2.2.2.2.2.1 with e | e | e<;>first | exact absurd e kp | (rw[e];decide)
 have HB:=af ((Below.refl w.heap.size w).alloc (Nat.le_refl _) (.cells #[.int .i64 k,.int .i64 val,.string tx,.slice ao m cp] 76))
 have HU:=af (hu.trans ((ae HB).mono hu.size))
 have xH:=af hu
 have HG:=af hG
 have H:=af h
 have HST:=af hs
 have tJ:=af hS
 obtain⟨kh,hop⟩:=hG.ok.hop n hn
 have vv:=hG.pN hn hd
 have HL:=af (e7 _ sb sq cS Ty D nO nC n (fr n) kh d (hG.at (ae HU)) hop hd)
 have W8:=af (fun W R (hu:Below u.heap.size u W) (h:dp W lb S l.w.wt l.w.no R) (hl:l.w.wt.length≤100000000)=>l9 W lb sb sq cS Ty D nO nC R S l.w.wt l.w.no n (fr n) kh d (TT n) (hG.at hu) hop hd vv.2 (fun q=>absurd kt q) h hl)
 have HS:=af (show Zc.matU (f+1) p (TT n) l=⟨l.st,l.w.bN (TT n)⟩by rw[vv.2 kt,Zc.lI _ l kp];rfl)
 obtain⟨kb,vb,xb,cb',ob,pb,gb,nb,mb⟩:=d
 dsimp only at HL kt
 subst kt
 clear hG hu h hs hS hn ha kp hop hd vv
 go_enter Tryz.func109,Tryz.ntmps109
 go_wp2_with fail
 refine(ae HL).mono ?_
 rintro e w3 ⟨rfl,hb3⟩
 have f0:=(hb3.cell (p:=⟨w.heap.size,0,none⟩) (by simp)).trans (ah (heap_alloc_new w _) 0)
 have f1:=(hb3.cell (p:=⟨w.heap.size,1,none⟩) (by simp)).trans (ah (heap_alloc_new w _) 1)
 have f2:=(hb3.cell (p:=⟨w.heap.size,2,none⟩) (by simp)).trans (ah (heap_alloc_new w _) 2)
 have f3:=(hb3.cell (p:=⟨w.heap.size,3,none⟩) (by simp)).trans (ah (heap_alloc_new w _) 3)
 simp only[List.getElem?_toArray,List.getElem?_cons_zero,List.getElem?_cons_succ]at f0 f1 f2 f3
 have z3:=hb3.size
 rw[World.size_alloc]at z3
 have z5:w.heap.size<w3.heap.size:=by omega
 have bu:=af ((ae HB).trans (hb3.mono (by rw[World.size_alloc];omega)))
 have qX:=af ((ae HU).trans (hb3.mono (ae HU).size))
 have FJ:=af ((hb3.block w.heap.size (by simp)).trans (heap_alloc_new w _))
 clear hb3
 go_wp2_with fail
 have cu:=af ((ae bu).alloc (by omega) (.cells #[.int .i64 1,.int .i64 vb,.string xb,.int .i64 (cb':Int)] 177))
 have W9:=af ((ae qX).alloc (Nat.le_trans (ae xH).size (by omega)) (.cells #[.int .i64 1,.int .i64 vb,.string xb,.int .i64 (cb':Int)] 177))
 refine(ae W8 _ R (ae W9) ((ae H).below (ae cu)) hl).mono ?_
 rintro e w6 ⟨rfl,R6,h6,fr6⟩
 have H6:=af h6
 have P7:=af fr6
 clear h6 fr6
 go_wp2_with fail
 go_end0
 rw[ae HS]
 exact⟨rfl,S,R6,by show dp w6 lb S (l.w.bN (TT n)).wt (l.w.bN (TT n)).no R6;rw[Zc.Wn.iP];exact ae H6,ae HST,ae tJ,(au.aw (ae cu)).trans (ae P7)⟩
theorem OD (f:Nat) (u w:World) (lb sb sq:Nat) (cS:Array Value) (Ty:TypeId) (D:List Ng) (nO:Option Addr) (nC:Nat) (fr:Nat→Nat) (TT:Nat→Zc.U) (PP R:Nat→Prop) (M:List (List UInt8)) (S:List Int) (a:AV) (n:Nat) (p:Zc.Tm) (l:Zc.bJ) (hG:gB u lb sb sq cS Ty D nO nC fr TT PP) (hu:Below u.heap.size u w) (h:dp w lb S l.w.wt l.w.no R) (hs:mJ D TT M S l.st) (hS:S.length≤M.length) (ha:lV M a p) (wp:Zc.wfK (f+1) p) (hn:n<D.length) (kp:p.kind≠3) (d:Ng) (hd:D[fr n]?=some d) (kt:d.k≠1) (hk2:¬(a.k=d.k∧jt a=d.val∧a.tx=d.tx∧a.n=d.cnt)):
 Calls Tryz.prog 109 #[.pointer (some ⟨lb,0,none⟩),.pointer (some ⟨sb,sq,none⟩),.agg #[.int .i64 a.k,.int .i64 a.val,.string a.tx,.slice a.ao a.n a.cap],.int .i64 (n:Int)] w fun e w'=>Eh lb D TT M (Zc.matU (f+1) p (TT n) l) R w e w':=by
 obtain⟨k,val,tx,ao,m,cp⟩:=a
 have hk:(k == 1)=false:=by
  have h1:=ha.1
  dsimp only at h1
  rw[h1]
  rcases ha.2.2.2.2.2.1 with e | e | e<;>first | exact absurd e kp | (rw[e];decide)
 have HB:=af ((Below.refl w.heap.size w).alloc (Nat.le_refl _) (.cells #[.int .i64 k,.int .i64 val,.string tx,.slice ao m cp] 76))
 have HU:=af (hu.trans ((ae HB).mono hu.size))
 have xH:=af hu
 have HG:=af hG
 have H:=af h
 have HST:=af hs
 have tJ:=af hS
 obtain⟨kh,hop⟩:=hG.ok.hop n hn
 obtain⟨_,e1,od,_,_,nd⟩:=hG.node hn
 rw[hd]at e1
 cases e1
 obtain⟨ku,tu,iu,lu,eu⟩:=nd kt
 have HL:=af (e7 _ sb sq cS Ty D nO nC n (fr n) kh d (hG.at (ae HU)) hop hd)
 have HS:=af (show Zc.matU (f+1) p (TT n) l=⟨l.st,l.w.bad⟩by rw[eu];exact Zc.mU l kp (fun q=>hk2 ((BL ha wp kp od kt lu).1 (by rw[List.length_map]at q;exact q))))
 have t2:(d.k == 1)=false:=by simpa using kt
 have dS:=fun w=>qU w ⟨k,val,tx,ao,m,cp⟩
 have t3:=hk2
 dsimp only at t3
 obtain⟨kb,vb,xb,cb',ob,pb,gb,nb,mb⟩:=d
 dsimp only at HL t2 t3
 generalize jt ⟨k,val,tx,ao,m,cp⟩=lv at*
 dsimp only at dS
 have LA:=af dS
 have hc:(¬k=kb)∨(k=kb∧¬lv=vb)∨(k=kb∧lv=vb∧¬tx.toList=xb.toList)∨(k=kb∧lv=vb∧tx=xb∧¬(m:Int)=(cb':Int)):=by
  by_cases q1:k=kb
  ·by_cases q2:lv=vb
   ·by_cases q3:tx=xb
    ·exact Or.inr (Or.inr (Or.inr ⟨q1,q2,q3,fun q4=>t3 ⟨q1,q2,q3,by omega⟩⟩))
    ·exact Or.inr (Or.inr (Or.inl ⟨q1,q2,fun q=>q3 (toList_inj q)⟩))
   ·exact Or.inr (Or.inl ⟨q1,q2⟩)
  ·exact Or.inl q1
 clear hG hu h hs hS hn ha wp kp kt hk2 t3 hop hd od nd lu eu
 rcases hc with hc | ⟨rfl,hc⟩ | ⟨rfl,rfl,hc⟩ | ⟨rfl,rfl,rfl,hc⟩
 all_goals
  clear dS
  go_enter Tryz.func109,Tryz.ntmps109
  go_wp2_with fail
  refine(ae HL).mono ?_
  rintro e w3 ⟨rfl,hb3⟩
  have f0:=(hb3.cell (p:=⟨w.heap.size,0,none⟩) (by simp)).trans (ah (heap_alloc_new w _) 0)
  have f1:=(hb3.cell (p:=⟨w.heap.size,1,none⟩) (by simp)).trans (ah (heap_alloc_new w _) 1)
  have f2:=(hb3.cell (p:=⟨w.heap.size,2,none⟩) (by simp)).trans (ah (heap_alloc_new w _) 2)
  have f3:=(hb3.cell (p:=⟨w.heap.size,3,none⟩) (by simp)).trans (ah (heap_alloc_new w _) 3)
  simp only[List.getElem?_toArray,List.getElem?_cons_zero,List.getElem?_cons_succ]at f0 f1 f2 f3
  have z3:=hb3.size
  rw[World.size_alloc]at z3
  have z5:w.heap.size<w3.heap.size:=by omega
  have bu:=af ((ae HB).trans (hb3.mono (by rw[World.size_alloc];omega)))
  have qX:=af ((ae HU).trans (hb3.mono (ae HU).size))
  have FJ:=af ((hb3.block w.heap.size (by simp)).trans (heap_alloc_new w _))
  clear hb3
  go_wp2_with fail
  go_region_with (go_at_call 95;refine(ae LA _).mono ?_;rintro e w5 ⟨rfl,bB⟩;have g0:=(bB.cell (p:=⟨w3.heap.size,0,none⟩) (gU w3 _)).trans (ah (heap_alloc_new w3 _) 0);have g1:=(bB.cell (p:=⟨w3.heap.size,1,none⟩) (gU w3 _)).trans (ah (heap_alloc_new w3 _) 1);have g2:=(bB.cell (p:=⟨w3.heap.size,2,none⟩) (gU w3 _)).trans (ah (heap_alloc_new w3 _) 2);have g3:=(bB.cell (p:=⟨w3.heap.size,3,none⟩) (gU w3 _)).trans (ah (heap_alloc_new w3 _) 3);simp only[List.getElem?_toArray,List.getElem?_cons_zero,List.getElem?_cons_succ]at g0 g1 g2 g3;have bM:=af (((ae bu).alloc (by omega) _).trans ((((Below.refl _ _).drew).trans bB).mono (Nat.le_trans (by omega) (Nat.le_of_lt (gU w3 _)))));clear bB)
  all_goals
   obtain⟨so,sc,wo,wc,fS,rfl⟩:=(ae H).below (ae bM)
   have s2:=ah fS.blk 2
   have sf:=ay fS.blk 2
   have sz:=ag fS.blk
   simp only[List.getElem?_toArray,List.getElem?_cons_zero,List.getElem?_cons_succ]at s2
   have qY:=af fS
   clear fS
   go_wp2_with fail
   go_end0
   rw[ae HS]
   exact⟨rfl,S,_,⟨so,sc,wo,wc,(ae qY).bad.1,rfl⟩,ae HST,ae tJ,(au.aw (ae bM)).trans (ae qY).bad.2⟩
def Ug (lb:Nat) (D:List Ng) (TT:Nat→Zc.U) (M:List (List UInt8)) (f:Nat) (p:Zc.Tm) (us:List Zc.U) (l:Zc.bJ) (R:Nat→Prop) (w:World) (C:Array Value) (k:Nat) (iv:Value) (wr:World):Prop:=
 ∃(j:Nat) (S':List Int) (R':Nat→Prop),k+j=p.args.length∧iv= .int .i64 (j:Int)∧dp wr lb S' (Zc.cJ (Zc.matU f) (p.args.take j) (us.take j) l).w.wt (Zc.cJ (Zc.matU f) (p.args.take j) (us.take j) l).w.no R'∧mJ D TT M S' (Zc.cJ (Zc.matU f) (p.args.take j) (us.take j) l).st∧S'.length≤M.length∧au R R' w wr∧wr.heap[w.heap.size]?=some (.cells C 76 (0,0))∧¬R' w.heap.size
theorem KZ {f:Nat} (IH:Im f) (P:Nat→Prop) (u w:World) (lb sb sq:Nat) (cS:Array Value) (Ty:TypeId) (D:List Ng) (nO:Option Addr) (nC:Nat) (fr:Nat→Nat) (TT:Nat→Zc.U) (PP R:Nat→Prop) (M:List (List UInt8)) (S:List Int) (a:AV) (n:Nat) (p:Zc.Tm) (l:Zc.bJ) (B:Nat) (hG:gB u lb sb sq cS Ty D nO nC fr TT PP) (hu:Below u.heap.size u w) (h:dp w lb S l.w.wt l.w.no R) (hs:mJ D TT M S l.st) (hS:S.length≤M.length) (hM:M.Nodup) (hML:M.length≤100000) (hr:RA (f+1) M P u a p) (wp:Zc.wfK (f+1) p) (hn:n<D.length) (hsz:Zc.size (TT n)≤B) (hsm:l.sm B) (hl:l.w.wt.length+2*B*3 ^ (f+1)+2*B≤100000000) (kp:p.kind≠3) (d:Ng) (hd:D[fr n]?=some d) (kt:d.k≠1) (hk2:a.k=d.k∧jt a=d.val∧a.tx=d.tx∧a.n=d.cnt):
 Calls Tryz.prog 109 #[.pointer (some ⟨lb,0,none⟩),.pointer (some ⟨sb,sq,none⟩),.agg #[.int .i64 a.k,.int .i64 a.val,.string a.tx,.slice a.ao a.n a.cap],.int .i64 (n:Int)] w fun e w'=>Eh lb D TT M (Zc.matU (f+1) p (TT n) l) R w e w':=by
 obtain⟨ha,hrow⟩:=hr
 obtain⟨k,val,tx,ao,m,cp⟩:=a
 have hk:(k == 1)=false:=by
  have h1:=ha.1
  dsimp only at h1
  rw[h1]
  rcases ha.2.2.2.2.2.1 with e | e | e<;>first | exact absurd e kp | (rw[e];decide)
 have HB:=af ((Below.refl w.heap.size w).alloc (Nat.le_refl _) (.cells #[.int .i64 k,.int .i64 val,.string tx,.slice ao m cp] 76))
 have HU:=af (hu.trans ((ae HB).mono hu.size))
 have xH:=af hu
 have HG:=af hG
 have H:=af h
 have HST:=af hs
 have tJ:=af hS
 obtain⟨kh,hop⟩:=hG.ok.hop n hn
 obtain⟨_,e1,od,md,_,nd⟩:=hG.node hn
 rw[hd]at e1
 cases e1
 obtain⟨ku,tu,iu,lu,eu⟩:=nd kt
 have HL:=af (e7 _ sb sq cS Ty D nO nC n (fr n) kh d (hG.at (ae HU)) hop hd)
 have hrt:=(BL ha wp kp od kt lu).2 hk2
 have HS:=af (show Zc.matU (f+1) p (TT n) l=Zc.cJ (Zc.matU f) p.args (d.args.map TT) l by rw[eu];exact Zc.lJ l kp (by rw[List.length_map];exact hrt))
 have qE:1+Zc.sizeL (d.args.map TT)≤B:=by rw[eu,Zc.size]at hsz;omega
 have dS:=fun w=>qU w ⟨k,val,tx,ao,m,cp⟩
 have Io:=hrt.2
 have HAb:=af (fun W (hu:Below u.heap.size u W)=>l7 W sb sq cS Ty D nO nC n (fr n) kh d (hG.at hu) hop hd)
 have HCb:=af (fun q=>hG.ar.at md q)
 have o6:=af od.inn
 obtain⟨kb,vb,xb,cb',ob,pb,gb,nb,mb⟩:=d
 obtain⟨q1,q2,q3,q4⟩:=hk2
 have h2:=ha.2.1
 dsimp only at h2 q1 q2 q3 q4 hrow HAb HCb o6 HL Io HS qE
 rw[←Io]at HAb
 generalize jt ⟨k,val,tx,ao,m,cp⟩=lv at*
 dsimp only at dS
 subst q1 q2 q3 q4 h2
 have LA:=af dS
 have lq:=af hrow
 have Uh:=af Io
 have HWp:=af wp.2.2.2
 have Ui:=af wp.2.2.1
 have BK:=af hl
 have Xa:=af hM
 have jm:=af hsm
 have yy:=af qE
 have I:=af IH
 clear hG hu h hs hS hM hn ha kp kt dS hrow Io wp hl IH hop hd od md nd lu eu hrt hsz hsm qE
 go_enter Tryz.func109,Tryz.ntmps109
 go_wp2_with fail
 refine(ae HL).mono ?_
 rintro e w3 ⟨rfl,hb3⟩
 have f0:=(hb3.cell (p:=⟨w.heap.size,0,none⟩) (by simp)).trans (ah (heap_alloc_new w _) 0)
 have f1:=(hb3.cell (p:=⟨w.heap.size,1,none⟩) (by simp)).trans (ah (heap_alloc_new w _) 1)
 have f2:=(hb3.cell (p:=⟨w.heap.size,2,none⟩) (by simp)).trans (ah (heap_alloc_new w _) 2)
 have f3:=(hb3.cell (p:=⟨w.heap.size,3,none⟩) (by simp)).trans (ah (heap_alloc_new w _) 3)
 simp only[List.getElem?_toArray,List.getElem?_cons_zero,List.getElem?_cons_succ]at f0 f1 f2 f3
 have z3:=hb3.size
 rw[World.size_alloc]at z3
 have z5:w.heap.size<w3.heap.size:=by omega
 have bu:=af ((ae HB).trans (hb3.mono (by rw[World.size_alloc];omega)))
 have qX:=af ((ae HU).trans (hb3.mono (ae HU).size))
 have FJ:=af ((hb3.block w.heap.size (by simp)).trans (heap_alloc_new w _))
 clear hb3
 go_wp2_with fail
 have e0:=ah (heap_alloc_new w3 (.cells #[.int .i64 k,.int .i64 lv,.string tx,.int .i64 (p.args.length:Int)] 177)) 0
 have e1:=ah (heap_alloc_new w3 (.cells #[.int .i64 k,.int .i64 lv,.string tx,.int .i64 (p.args.length:Int)] 177)) 1
 have e2:=ah (heap_alloc_new w3 (.cells #[.int .i64 k,.int .i64 lv,.string tx,.int .i64 (p.args.length:Int)] 177)) 2
 have e3:=ah (heap_alloc_new w3 (.cells #[.int .i64 k,.int .i64 lv,.string tx,.int .i64 (p.args.length:Int)] 177)) 3
 simp only[List.getElem?_toArray,List.getElem?_cons_zero,List.getElem?_cons_succ]at e0 e1 e2 e3
 go_region_held3 (fun w'=>w'.cell? ⟨w.heap.size,0,none⟩=some (.int .i64 k)∧w'.cell? ⟨w.heap.size,1,none⟩=some (.int .i64 val)∧w'.cell? ⟨w.heap.size,2,none⟩=some (.string tx)∧w'.cell? ⟨w.heap.size,3,none⟩=some (.slice ao p.args.length cp)∧w'.cell? ⟨w3.heap.size,0,none⟩=some (.int .i64 k)∧w'.cell? ⟨w3.heap.size,1,none⟩=some (.int .i64 lv)∧w'.cell? ⟨w3.heap.size,2,none⟩=some (.string tx)∧w'.cell? ⟨w3.heap.size,3,none⟩=some (.int .i64 (p.args.length:Int))) (go_keep) (first
  | (go_at_call 95;refine(ae LA _).mono ?_;rintro e w5 ⟨rfl,bB⟩;have g0:=(bB.cell (p:=⟨w3.heap.size,0,none⟩) (gU w3 _)).trans e0;have g1:=(bB.cell (p:=⟨w3.heap.size,1,none⟩) (gU w3 _)).trans e1;have g2:=(bB.cell (p:=⟨w3.heap.size,2,none⟩) (gU w3 _)).trans e2;have g3:=(bB.cell (p:=⟨w3.heap.size,3,none⟩) (gU w3 _)).trans e3;have y0:=(bB.cell (p:=⟨w.heap.size,0,none⟩) (Nat.lt_trans z5 (gU w3 _))).trans ((World.cell?_alloc_past _ _ _ z5).trans f0);have y1:=(bB.cell (p:=⟨w.heap.size,1,none⟩) (Nat.lt_trans z5 (gU w3 _))).trans ((World.cell?_alloc_past _ _ _ z5).trans f1);have y2:=(bB.cell (p:=⟨w.heap.size,2,none⟩) (Nat.lt_trans z5 (gU w3 _))).trans ((World.cell?_alloc_past _ _ _ z5).trans f2);have y3:=(bB.cell (p:=⟨w.heap.size,3,none⟩) (Nat.lt_trans z5 (gU w3 _))).trans ((World.cell?_alloc_past _ _ _ z5).trans f3);have bM:=af (((ae bu).alloc (by omega) _).trans ((((Below.refl _ _).drew).trans bB).mono (Nat.le_trans (by omega) (Nat.le_of_lt (gU w3 _)))));have BM:=af ((bB.block w.heap.size (Nat.lt_trans z5 (gU w3 _))).trans ((Below.heap_alloc _ _ _ z5).trans (ae FJ)));clear bB))
 go_wp2_with fail
 have Qa:=af (show Ug lb D TT M f p (gb.map TT) l R w #[.int .i64 k,.int .i64 val,.string tx,.slice ao p.args.length cp] p.args.length (.int .i64 0) w5 from ⟨0,S,R,by omega,rfl,by simpa [Zc.cJ] using (ae H).below (ae bM),by simpa [Zc.cJ] using ae HST,ae tJ,au.aw (ae bM),ae BM,fun q=>by have:=((ae H).rows _ q).2;omega⟩)
 refine(ae HAb _ ((ae xH).trans ((ae bM).mono (ae xH).size))).mono ?_
 rintro e w6 ⟨rfl,rfl⟩
 clear e0 e1 e2 e3 f0 f1 f2 f3 g0 g1 g2 g3 y0 y1 y2 y3 HB HU HL bu qX FJ bM BM HAb LA z3 z5 hk
 go_wp2_with fail
 go_loopg [10] p.args.length (fun k' iv wr=>Ug lb D TT M f p (gb.map TT) l R w #[.int .i64 k,.int .i64 val,.string tx,.slice ao p.args.length cp] k' iv wr)
 case atStart=>exact ae Qa
 case round=>
  clear Qa
  obtain⟨j,S',R',hkj,rfl,fS,hst,kN,cW,eC,hbr⟩:=hrel
  have lL:=(ae H).under cW (ae xH) (ae HG).lt
  have x3:=ah eC 3
  simp only[List.getElem?_toArray,List.getElem?_cons_zero,List.getElem?_cons_succ]at x3
  have zx:=ag eC
  by_cases hlt:j<p.args.length
  ·have hjb:j<gb.length:=by have:=ae Uh;omega
   have fY:j<(gb.map TT).length:=by rw[List.length_map];exact hjb
   obtain⟨g,us,ca,hao,_,eE,mf,mG⟩:=ae lq (fun q=>by rw[q]at hlt;simp at hlt)
   subst hao
   obtain⟨pB,eB,zB,cB⟩:=ae HCb (fun q=>by rw[q]at hjb;simp at hjb)
   subst eB
   have Ee:j<us.length:=by have:=mG.length;omega
   have fc:∀w',Below u.heap.size u w'→∀i,i<4→w'.cell? ⟨g,j*4+i,none⟩=(gN us[j])[i]?:=fun w' hb i hi=>by
    rw[hb.cell (p:=⟨g,j*4+i,none⟩) (ag eE),ah eE,←Array.getElem?_toList,←Ow Ee i hi,←mf,List.getElem?_take_of_lt (by omega)]
   have Ec:=af (show∀w',Below u.heap.size u w'→w'.cell? ⟨g,j*4,none⟩=some (.int .i64 us[j].k)∧w'.cell? ⟨g,j*4+1,none⟩=some (.int .i64 us[j].val)∧w'.cell? ⟨g,j*4+2,none⟩=some (.string us[j].tx)∧w'.cell? ⟨g,j*4+3,none⟩=some (.slice us[j].ao us[j].n us[j].cap)∧w'.cell? ⟨pB,j,none⟩=some (.int .i64 (gb[j]:Int))from fun w' hb=>by
    have a0:=fc w' hb 0 (by omega)
    have a1:=fc w' hb 1 (by omega)
    have a2:=fc w' hb 2 (by omega)
    have a3:=fc w' hb 3 (by omega)
    simp only[gN,List.getElem?_cons_zero,List.getElem?_cons_succ,Nat.add_zero]at a0 a1 a2 a3
    exact⟨a0,a1,a2,a3,(hb.cell (p:=⟨pB,j,none⟩) zB).trans (cB j hjb)⟩)
   have hB1:1≤B:=by have:=ae yy;omega
   obtain⟨sm1,sm2⟩:=Zc.yt (g:=Zc.matU f) (B:=B) (c:=2*B*3 ^ f) (p.args.take j) ((gb.map TT).take j) l (fun q hq v hv l' hl'=>Zc.uN f q v l' (ae HWp q (List.mem_of_mem_take hq)) (by have:=Zc.iZ (List.mem_of_mem_take hv);have:=ae yy;omega) hB1 hl') (ae jm)
   rw[List.length_take,Nat.min_eq_left (by omega)]at sm2
   have KH:(Zc.cJ (Zc.matU f) (p.args.take j) ((gb.map TT).take j) l).w.wt.length+2*B*3 ^ f+2*B≤100000000:=by
    have q1:=ae BK
    have q2:2*B*3 ^ (f+1)=3*(2*B*3 ^ f):=by rw[Nat.pow_succ];rw[←Nat.mul_assoc,Nat.mul_comm]
    have q3:j*(2*B*3 ^ f)≤2*(2*B*3 ^ f):=Nat.mul_le_mul_right _ (by have:=ae Ui;omega)
    omega
   have BO:Zc.size (TT gb[j])≤B:=by have:=Zc.iZ (List.mem_map_of_mem (f:=TT) (List.getElem_mem hjb));have:=ae yy;omega
   have IC:=af (ae I P u wr.drew lb sb sq cS Ty D nO nC fr TT PP R' M S' us[j] gb[j] p.args[j] (Zc.cJ (Zc.matU f) (p.args.take j) ((gb.map TT).take j) l) B (ae HG) lL.drew (fS.below (Below.refl _ _).drew) hst kN (ae Xa) hML (mG.jw j Ee hlt) (ae HWp _ (List.getElem_mem hlt)) (ae o6 _ (List.getElem_mem hjb)) BO sm1 KH)
   have K0:=Zc.zo (Zc.matU f) p.args (gb.map TT) l hlt fY
   rw[List.getElem_map]at K0
   rw[←K0]at IC
   obtain⟨a0,a1,a2,a3,a4⟩:=ae Ec wr lL
   have jl:=af cW
   have M9:=af lL
   have qY:=af fS
   have aW:=af hkj
   have bh:=af hlt
   have pZ:=af eC
   have Qb:=af hbr
   generalize us[j]=v6 at*
   generalize gb[j]=nb at*
   have zr:u.heap.size≤wr.heap.size:=lL.size
   have zA':g<wr.heap.size:=by have:=ag eE;omega
   have zB':pB<wr.heap.size:=by omega
   have P8:j≤3:=by have:=ae Ui;omega
   have i0:(0:Int)≤(j:Int):=by omega
   have i1:(j:Int)<(p.args.length:Int):=by omega
   clear fS hst kN cW lL hkj hlt fY hjb Ee cB sm1 sm2 KH BO K0 hB1 eC hbr fc eE mf mG
   go_wp2_with fail
   go_region_held3 (fun w'=>w'.cell? ⟨w.heap.size,3,none⟩=some (.slice (some ⟨g,0,none⟩) p.args.length cp)∧w'.cell? ⟨g,j*4,none⟩=some (.int .i64 v6.k)∧w'.cell? ⟨g,j*4+1,none⟩=some (.int .i64 v6.val)∧w'.cell? ⟨g,j*4+2,none⟩=some (.string v6.tx)∧w'.cell? ⟨g,j*4+3,none⟩=some (.slice v6.ao v6.n v6.cap)∧w'.cell? ⟨pB,j,none⟩=some (.int .i64 (nb:Int))) (go_keep) (first
    | (go_at_call 109;refine(ae IC).mono ?_;rintro e w8 ⟨rfl,S8,R8,h8,s8,l8,fr8⟩;have nX:=af ((ae jl).trans ((au.aw (Below.refl _ _).drew).trans fr8));obtain⟨k0,k1,k2,k3,k4⟩:=ae Ec w8 ((ae qY).under ((au.aw (Below.refl _ _).drew).trans fr8) (ae M9) (ae HG).lt);have k9:=(fr8.cell (p:=⟨w.heap.size,3,none⟩) zx (ae Qb)).trans x3;have VB:=af ((fr8.block w.heap.size zx (ae Qb)).trans (ae pZ));have VC:=af (fr8.not (k:=w.heap.size) zx (ae Qb));have H8:=af h8;have Xb:=af s8;have Xc:=af l8;clear h8 s8 l8 fr8))
   all_goals
    go_wp2_with fail
    go_roundg (gk - 1)
    case measure=>have:=ae aW;have:=ae bh;omega
    case rel=>exact⟨j+1,S8,R8,by have:=ae aW;have:=ae bh;omega,by go_num,ae H8,ae Xb,ae Xc,ae nX,ae VB,ae VC⟩
  ·obtain rfl:j=p.args.length:=by omega
   have qY:=af fS
   have VD:=af hst
   have VE:=af kN
   have jl:=af cW
   clear fS hst kN cW lL hkj eC hbr
   go_wp2_with fail
   go_end0
   rw[ae HS]
   have q1:=ae qY
   have q3:=ae VD
   rw[List.take_length,List.take_of_length_le (by rw[List.length_map];have:=ae Uh;omega)]at q1 q3
   exact⟨rfl,S',R',q1,q3,ae VE,ae jl⟩
theorem muG_all:∀f,Im f
 | 0=>fun P u w lb sb sq cS Ty D nO nC fr TT PP R M S a n p l B hG hu h hs hS hM hML hr _ _ _ _ _=>hr.elim
 | f+1=>fun P u w lb sb sq cS Ty D nO nC fr TT PP R M S a n p l B hG hu h hs hS hM hML hr wp hn hsz hsm hl=>by
  by_cases kp:p.kind=3
  ·exact KX f u w lb sb sq cS Ty D nO nC fr TT PP R M S a n p l B hG hu h hs hS hM hML hr.1 hn hsm (by omega) kp
  ·obtain⟨d,hd,_⟩:=hG.node hn
   by_cases kt:d.k=1
   ·exact KY f u w lb sb sq cS Ty D nO nC fr TT PP R M S a n p l hG hu h hs hS hr.1 hn (by omega) kp d hd kt
   ·by_cases hk:a.k=d.k∧jt a=d.val∧a.tx=d.tx∧a.n=d.cnt
    ·exact KZ (muG_all f) P u w lb sb sq cS Ty D nO nC fr TT PP R M S a n p l B hG hu h hs hS hM hML hr wp hn hsz hsm hl kp d hd kt hk
    ·exact OD f u w lb sb sq cS Ty D nO nC fr TT PP R M S a n p l hG hu h hs hS hr.1 wp hn kp d hd kt hk
def K4 (l:Zc.Wn) (w:World) (e:Ending) (w':World):Prop:=
 ∃so sn sc wo wc,e= .returned (.agg #[.slice so sn sc,.slice wo l.wt.length wc,.bool l.no])∧w'.ownsRow w.heap.size 3 1 (.slice wo l.wt.length wc) l.wt.length (l.wt.map aK)∧Below w.heap.size w w'
theorem AR (l:Zc.Wn):(if l.no=true then 2 else if l.wt=[]then 1 else 3:Int)=(l.says:Int):=by
 unfold Zc.Wn.says
 split
 ·rfl
 ·split<;>rfl
theorem p6 {lb k:Nat} (h:k≠lb):¬fJ lb none none k:=by
 rintro(e | ⟨p,e,_⟩ | ⟨p,e,_⟩)
 ·exact h e
 ·cases e
 ·cases e
theorem gB.up {u:World} {lb sb so:Nat} {cs:Array Value} {Ty:TypeId} {D:List Ng} {no:Option Addr} {nc:Nat} {fr:Nat→Nat} {T:Nat→Zc.U} {P:Nat→Prop} (h:gB u lb sb so cs Ty D no nc fr T P) {lb':Nat} (hl:u.heap.size≤lb'):gB u lb' sb so cs Ty D no nc fr T P:=⟨h.st,h.ok,h.to,h.ar,hl⟩
theorem gB.on {u:World} {lb sb so:Nat} {cs:Array Value} {Ty:TypeId} {D:List Ng} {no:Option Addr} {nc:Nat} {fr:Nat→Nat} {T:Nat→Zc.U} {P:Nat→Prop} (h:gB u lb sb so cs Ty D no nc fr T P) {w:World} (hb:Below u.heap.size u w):gB w w.heap.size sb so cs Ty D no nc fr T P:=⟨h.st.below hb,h.ok,h.to,h.ar.below hb,Nat.le_refl _⟩
theorem BP (w:World) (lb:Nat) (W:List Nat) (no:Bool) (so:Option Addr) (sn sc:Nat) (wo:Option Addr) (wc:Nat) (h:w.heap[lb]?=some (.cells #[.slice so sn sc,.slice wo W.length wc,.bool no] 189 (0,0))):
 Calls Tryz.prog 110 #[.pointer (some ⟨lb,0,none⟩)] w fun e w'=>e= .returned (.int .i64 (if no=true then 2 else if W=[]then 1 else 3))∧w'=w:=by
 have s1:=ah h 1
 have s2:=ah h 2
 have sz:=ag h
 simp only[List.getElem?_toArray,List.getElem?_cons_zero,List.getElem?_cons_succ]at s1 s2
 clear h
 cases no with
 | true=>
  go_enter Tryz.func110,Tryz.ntmps110
  go_wp2_with fail
  go_ret
  exact⟨rfl,rfl⟩
 | false=>
  cases W with
  | nil=>
   go_enter Tryz.func110,Tryz.ntmps110
   go_wp2_with fail
   go_ret
   exact⟨rfl,rfl⟩
  | cons x W=>
   have t1:decide (0<W.length+1)=true:=by simp
   have t2:decide ((0:Int)<(W.length:Int)+1)=true:=by simp
   go_enter Tryz.func110,Tryz.ntmps110
   go_wp2_with fail
   go_ret
   exact⟨by simp,rfl⟩
end Go.Proofs.YthfjnfcekeknlaaGreatDoor
