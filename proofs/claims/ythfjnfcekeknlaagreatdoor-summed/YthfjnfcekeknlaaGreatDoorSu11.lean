import Derived.Test.YthfjnfcekeknlaaGreatDoorSu09
import Derived.Test.YthfjnfcekeknlaaGreatDoorSu10
import Derived.Deep.RegionWith
import Derived.Deep.LoopGhost
import Derived.Deep.RegionHeld3
set_option maxHeartbeats 8000000
set_option maxRecDepth 100000
namespace Go.Proofs.YthfjnfcekeknlaaGreatDoor
open Go.RowKit
def Hn (f:Nat):Prop:=∀(P:Nat→Prop) (u w:World) (lb sb sq:Nat) (cS:Array Value) (Ty:TypeId) (D:List Ng) (nO:Option Addr) (nC:Nat) (fr:Nat→Nat) (TT:Nat→Za.U) (PP R:Nat→Prop) (M:List (List UInt8)) (S:List Int) (a:AV) (n:Nat) (p:Za.Tm) (l:Za.bN) (B:Nat),gA u lb sb sq cS Ty D nO nC fr TT PP→Below u.heap.size u w→dp w lb S l.w.wt l.w.no R→mC D TT M S l.st→S.length≤M.length→M.Nodup→M.length≤100000→RA f M P u a p→Za.wfK f p→n<D.length→Za.size (TT n)≤B→l.sm B→l.w.wt.length+2*B*3 ^ f+2*B≤100000000→
 Calls Tryz.prog 109 #[.pointer (some ⟨lb,0,none⟩),.pointer (some ⟨sb,sq,none⟩),.agg #[.int .i64 a.k,.int .i64 a.val,.string a.tx,.slice a.ao a.n a.cap],.int .i64 (n:Int)] w fun e w'=>DO lb D TT M (Za.matU f p (TT n) l) R w e w'
theorem Bp {M:List (List UInt8)} {len f:Nat} {a:AV} {p:Za.Tm} {d:Ng} {k:Nat} {tx:List UInt8} {num:Int} (ha:lT M a p) (wp:Za.wfK (f+1) p) (kp:p.kind≠3) (hd:gH len d) (hk:d.k≠1) (hl:fp d=some (k,tx,num)):
 (Za.iF p=(k,tx,num)∧p.args.length=d.args.length)↔(a.k=d.k∧jq a=d.val∧a.tx=d.tx∧a.n=d.cnt):=by
 obtain⟨h1,h2,_,h4,h5,h6,_,_⟩:=ha
 have d23:d.k=2∨d.k=3:=hd.ks.resolve_left hk
 rcases h6 with e | e | e
 ·have a3:a.k=3:=by rw[h1,e];rfl
  have lv:jq a=0:=by unfold jq;rw[if_neg (by omega)]
  have rp:Za.iF p=(1,p.text.toList,0):=by unfold Za.iF;rw[if_neg (by omega)]
  rw[rp,lv,h5 e,h2,a3]
  rcases d23 with q | q
  ·have:fp d=some (3,[],d.val):=by unfold fp;rw[if_neg hk,if_pos q]
   rw[hl]at this
   injection this with this
   injection this with u1 _
   subst u1
   constructor
   ·rintro⟨r,_⟩
    injection r with r
    exact absurd r (by decide)
   ·rintro⟨r,_⟩
    omega
  ·have:fp d=some (1,d.tx.toList,0):=by unfold fp;rw[if_neg hk,if_neg (by omega)]
   rw[hl]at this
   injection this with this
   injection this with u1 this
   injection this with u2 u3
   subst u1 u2 u3
   obtain⟨c1,c2,_⟩:=hd.c q
   constructor
   ·rintro⟨r,s⟩
    injection r with _ r
    injection r with r _
    exact⟨q.symm,c1.symm,toList_inj r,by rw[c2,s]⟩
   ·rintro⟨_,_,r,s⟩
    exact⟨by rw[r],by rw[s,c2]⟩
 ·exact absurd e kp
 ·have a2:a.k=2:=by rw[h1,e];rfl
  have lv:jq a=a.val:=by unfold jq;rw[if_pos a2]
  have rp:Za.iF p=(3,[],(Za.numOf p.text:Int)):=by unfold Za.iF;rw[if_pos e]
  obtain⟨v1,_,v3⟩:=h4 e
  have pa:p.args=[]:=wp.2.1 (by omega)
  rw[rp,lv,v1,v3,h2,a2,pa]
  rcases d23 with q | q
  ·have:fp d=some (3,[],d.val):=by unfold fp;rw[if_neg hk,if_pos q]
   rw[hl]at this
   injection this with this
   injection this with u1 this
   injection this with u2 u3
   subst u1 u2 u3
   obtain⟨c1,c2,c3⟩:=hd.m q
   constructor
   ·rintro⟨r,_⟩
    injection r with _ r
    injection r with _ r
    exact⟨q.symm,r,c1.symm,by rw[c2];rfl⟩
   ·rintro⟨_,r,_,_⟩
    exact⟨by rw[r],by rw[c3];rfl⟩
  ·have:fp d=some (1,d.tx.toList,0):=by unfold fp;rw[if_neg hk,if_neg (by omega)]
   rw[hl]at this
   injection this with this
   injection this with u1 _
   subst u1
   constructor
   ·rintro⟨r,_⟩
    injection r with r
    exact absurd r (by decide)
   ·rintro⟨r,_⟩
    omega
theorem Ko (f:Nat) (u w:World) (lb sb sq:Nat) (cS:Array Value) (Ty:TypeId) (D:List Ng) (nO:Option Addr) (nC:Nat) (fr:Nat→Nat) (TT:Nat→Za.U) (PP R:Nat→Prop) (M:List (List UInt8)) (S:List Int) (a:AV) (n:Nat) (p:Za.Tm) (l:Za.bN) (B:Nat) (hG:gA u lb sb sq cS Ty D nO nC fr TT PP) (hu:Below u.heap.size u w) (h:dp w lb S l.w.wt l.w.no R) (hs:mC D TT M S l.st) (hS:S.length≤M.length) (hM:M.Nodup) (hML:M.length≤100000) (ha:lT M a p) (hn:n<D.length) (hsm:l.sm B) (hl:l.w.wt.length+2*B≤100000000) (kp:p.kind=3):
 Calls Tryz.prog 109 #[.pointer (some ⟨lb,0,none⟩),.pointer (some ⟨sb,sq,none⟩),.agg #[.int .i64 a.k,.int .i64 a.val,.string a.tx,.slice a.ao a.n a.cap],.int .i64 (n:Int)] w fun e w'=>DO lb D TT M (Za.matU (f+1) p (TT n) l) R w e w':=by
 obtain⟨h1,h2,h3,h4,h5,h6,h7,h8⟩:=ha
 obtain⟨h9,h10⟩:=h3 kp
 obtain⟨k,val,tx,ao,m,cp⟩:=a
 dsimp only at h1 h2 h10⊢
 have e1:ak p.kind=1:=by rw[kp];rfl
 rw[e1]at h1
 subst h1 h10
 have hx:M[M.idxOf p.text.toList]?=some p.text.toList:=by
  rw[List.getElem?_eq_getElem (List.idxOf_lt_length_of_mem h9),List.getElem_idxOf]
 have HS:=af (show Za.matU (f+1) p (TT n) l=l.meet p.text.toList (TT n)from Za.mM _ l kp)
 have HB:=af ((Below.refl w.heap.size w).alloc (Nat.le_refl _) (.cells #[.int .i64 1,.int .i64 (M.idxOf p.text.toList:Int),.string tx,.slice ao m cp] 76))
 have HM:=af (SJ u (w.alloc (.cells #[.int .i64 1,.int .i64 (M.idxOf p.text.toList:Int),.string tx,.slice ao m cp] 76)) lb sb sq cS Ty D nO nC fr TT PP R M S (M.idxOf p.text.toList) n p.text.toList l B hG (hu.trans ((ae HB).mono hu.size)) (h.below (ae HB)) hs hS hM hML hx hn hsm hl)
 clear hG hu h hs hS hM hn hsm hl h2 h3 h4 h5 h6 h7 h8 h9 hx e1 kp
 generalize M.idxOf p.text.toList=ix at*
 go_enter Tryz.func109,Tryz.ntmps109
 go_wp2_with fail
 refine(ae HM).mono ?_
 rintro e w2 ⟨rfl,S2,R2,h2,s2,l2,fr2⟩
 have H2:=af h2
 have cg:=af s2
 have rY:=af l2
 have vC:=af fr2
 clear h2 s2 l2 fr2
 go_wp2_with fail
 go_end0
 rw[ae HS]
 exact⟨rfl,S2,R2,ae H2,ae cg,ae rY,(au.aw (ae HB)).trans (ae vC)⟩
theorem Kp (f:Nat) (u w:World) (lb sb sq:Nat) (cS:Array Value) (Ty:TypeId) (D:List Ng) (nO:Option Addr) (nC:Nat) (fr:Nat→Nat) (TT:Nat→Za.U) (PP R:Nat→Prop) (M:List (List UInt8)) (S:List Int) (a:AV) (n:Nat) (p:Za.Tm) (l:Za.bN) (hG:gA u lb sb sq cS Ty D nO nC fr TT PP) (hu:Below u.heap.size u w) (h:dp w lb S l.w.wt l.w.no R) (hs:mC D TT M S l.st) (hS:S.length≤M.length) (ha:lT M a p) (hn:n<D.length) (hl:l.w.wt.length≤100000000) (kp:p.kind≠3) (d:Ng) (hd:D[fr n]?=some d) (kt:d.k=1):
 Calls Tryz.prog 109 #[.pointer (some ⟨lb,0,none⟩),.pointer (some ⟨sb,sq,none⟩),.agg #[.int .i64 a.k,.int .i64 a.val,.string a.tx,.slice a.ao a.n a.cap],.int .i64 (n:Int)] w fun e w'=>DO lb D TT M (Za.matU (f+1) p (TT n) l) R w e w':=by
 obtain⟨k,val,tx,ao,m,cp⟩:=a
 have hk:(k == 1)=false:=by
  have h1:=ha.1
  dsimp only at h1
  rw[h1]
  rcases ha.2.2.2.2.2.1 with e | e | e<;>first | exact absurd e kp | (rw[e];decide)
 have HB:=af ((Below.refl w.heap.size w).alloc (Nat.le_refl _) (.cells #[.int .i64 k,.int .i64 val,.string tx,.slice ao m cp] 76))
 have HU:=af (hu.trans ((ae HB).mono hu.size))
 have xq:=af hu
 have HG:=af hG
 have H:=af h
 have HST:=af hs
 have vD:=af hS
 obtain⟨kh,hop⟩:=hG.ok.hop n hn
 have vv:=hG.pL hn hd
 have HL:=af (eY _ sb sq cS Ty D nO nC n (fr n) kh d (hG.at (ae HU)) hop hd)
 have Wl:=af (fun W R (hu:Below u.heap.size u W) (h:dp W lb S l.w.wt l.w.no R) (hl:l.w.wt.length≤100000000)=>lX W lb sb sq cS Ty D nO nC R S l.w.wt l.w.no n (fr n) kh d (TT n) (hG.at hu) hop hd vv.2 (fun q=>absurd kt q) h hl)
 have HS:=af (show Za.matU (f+1) p (TT n) l=⟨l.st,l.w.bP (TT n)⟩by rw[vv.2 kt,Za.lC _ l kp];rfl)
 obtain⟨kb,vb,xb,cb',ob,pb,gb,nb,mb⟩:=d
 dsimp only at HL kt
 subst kt
 clear hG hu h hs hS hn ha kp hop hd vv
 go_enter Tryz.func109,Tryz.ntmps109
 go_wp2_with fail
 refine(ae HL).mono ?_
 rintro e w3 ⟨rfl,hb3⟩
 have f0:=(hb3.cell (p:=⟨w.heap.size,0,none⟩) (by simp)).trans (ah (heap_alloc_new w _) 0)
 have f1:=(hb3.cell (p:=⟨w.heap.size,1,none⟩) (by simp)).trans (ah (heap_alloc_new w _) 1)
 have f2:=(hb3.cell (p:=⟨w.heap.size,2,none⟩) (by simp)).trans (ah (heap_alloc_new w _) 2)
 have f3:=(hb3.cell (p:=⟨w.heap.size,3,none⟩) (by simp)).trans (ah (heap_alloc_new w _) 3)
 simp only[List.getElem?_toArray,List.getElem?_cons_zero,List.getElem?_cons_succ]at f0 f1 f2 f3
 have z3:=hb3.size
 rw[World.size_alloc]at z3
 have z5:w.heap.size<w3.heap.size:=by omega
 have bQ:=af ((ae HB).trans (hb3.mono (by rw[World.size_alloc];omega)))
 have qN:=af ((ae HU).trans (hb3.mono (ae HU).size))
 have Ff:=af ((hb3.block w.heap.size (by simp)).trans (heap_alloc_new w _))
 clear hb3
 go_wp2_with fail
 have dr:=af ((ae bQ).alloc (by omega) (.cells #[.int .i64 1,.int .i64 vb,.string xb,.int .i64 (cb':Int)] 177))
 have Wm:=af ((ae qN).alloc (Nat.le_trans (ae xq).size (by omega)) (.cells #[.int .i64 1,.int .i64 vb,.string xb,.int .i64 (cb':Int)] 177))
 refine(ae Wl _ R (ae Wm) ((ae H).below (ae dr)) hl).mono ?_
 rintro e w6 ⟨rfl,R6,h6,fr6⟩
 have H6:=af h6
 have Pk:=af fr6
 clear h6 fr6
 go_wp2_with fail
 go_end0
 rw[ae HS]
 exact⟨rfl,S,R6,by show dp w6 lb S (l.w.bP (TT n)).wt (l.w.bP (TT n)).no R6;rw[Za.Wn.iJ];exact ae H6,ae HST,ae vD,(au.aw (ae dr)).trans (ae Pk)⟩
theorem NU (f:Nat) (u w:World) (lb sb sq:Nat) (cS:Array Value) (Ty:TypeId) (D:List Ng) (nO:Option Addr) (nC:Nat) (fr:Nat→Nat) (TT:Nat→Za.U) (PP R:Nat→Prop) (M:List (List UInt8)) (S:List Int) (a:AV) (n:Nat) (p:Za.Tm) (l:Za.bN) (hG:gA u lb sb sq cS Ty D nO nC fr TT PP) (hu:Below u.heap.size u w) (h:dp w lb S l.w.wt l.w.no R) (hs:mC D TT M S l.st) (hS:S.length≤M.length) (ha:lT M a p) (wp:Za.wfK (f+1) p) (hn:n<D.length) (kp:p.kind≠3) (d:Ng) (hd:D[fr n]?=some d) (kt:d.k≠1) (hk2:¬(a.k=d.k∧jq a=d.val∧a.tx=d.tx∧a.n=d.cnt)):
 Calls Tryz.prog 109 #[.pointer (some ⟨lb,0,none⟩),.pointer (some ⟨sb,sq,none⟩),.agg #[.int .i64 a.k,.int .i64 a.val,.string a.tx,.slice a.ao a.n a.cap],.int .i64 (n:Int)] w fun e w'=>DO lb D TT M (Za.matU (f+1) p (TT n) l) R w e w':=by
 obtain⟨k,val,tx,ao,m,cp⟩:=a
 have hk:(k == 1)=false:=by
  have h1:=ha.1
  dsimp only at h1
  rw[h1]
  rcases ha.2.2.2.2.2.1 with e | e | e<;>first | exact absurd e kp | (rw[e];decide)
 have HB:=af ((Below.refl w.heap.size w).alloc (Nat.le_refl _) (.cells #[.int .i64 k,.int .i64 val,.string tx,.slice ao m cp] 76))
 have HU:=af (hu.trans ((ae HB).mono hu.size))
 have xq:=af hu
 have HG:=af hG
 have H:=af h
 have HST:=af hs
 have vD:=af hS
 obtain⟨kh,hop⟩:=hG.ok.hop n hn
 obtain⟨_,e1,od,_,_,nd⟩:=hG.node hn
 rw[hd]at e1
 cases e1
 obtain⟨ku,tu,iu,lu,eu⟩:=nd kt
 have HL:=af (eY _ sb sq cS Ty D nO nC n (fr n) kh d (hG.at (ae HU)) hop hd)
 have HS:=af (show Za.matU (f+1) p (TT n) l=⟨l.st,l.w.bad⟩by rw[eu];exact Za.mN l kp (fun q=>hk2 ((Bp ha wp kp od kt lu).1 (by rw[List.length_map]at q;exact q))))
 have t2:(d.k == 1)=false:=by simpa using kt
 have dS:=fun w=>qK w ⟨k,val,tx,ao,m,cp⟩
 have t3:=hk2
 dsimp only at t3
 obtain⟨kb,vb,xb,cb',ob,pb,gb,nb,mb⟩:=d
 dsimp only at HL t2 t3
 generalize jq ⟨k,val,tx,ao,m,cp⟩=lv at*
 dsimp only at dS
 have LA:=af dS
 have hc:(¬k=kb)∨(k=kb∧¬lv=vb)∨(k=kb∧lv=vb∧¬tx.toList=xb.toList)∨(k=kb∧lv=vb∧tx=xb∧¬(m:Int)=(cb':Int)):=by
  by_cases q1:k=kb
  ·by_cases q2:lv=vb
   ·by_cases q3:tx=xb
    ·exact Or.inr (Or.inr (Or.inr ⟨q1,q2,q3,fun q4=>t3 ⟨q1,q2,q3,by omega⟩⟩))
    ·exact Or.inr (Or.inr (Or.inl ⟨q1,q2,fun q=>q3 (toList_inj q)⟩))
   ·exact Or.inr (Or.inl ⟨q1,q2⟩)
  ·exact Or.inl q1
 clear hG hu h hs hS hn ha wp kp kt hk2 t3 hop hd od nd lu eu
 rcases hc with hc | ⟨rfl,hc⟩ | ⟨rfl,rfl,hc⟩ | ⟨rfl,rfl,rfl,hc⟩
 all_goals
  clear dS
  go_enter Tryz.func109,Tryz.ntmps109
  go_wp2_with fail
  refine(ae HL).mono ?_
  rintro e w3 ⟨rfl,hb3⟩
  have f0:=(hb3.cell (p:=⟨w.heap.size,0,none⟩) (by simp)).trans (ah (heap_alloc_new w _) 0)
  have f1:=(hb3.cell (p:=⟨w.heap.size,1,none⟩) (by simp)).trans (ah (heap_alloc_new w _) 1)
  have f2:=(hb3.cell (p:=⟨w.heap.size,2,none⟩) (by simp)).trans (ah (heap_alloc_new w _) 2)
  have f3:=(hb3.cell (p:=⟨w.heap.size,3,none⟩) (by simp)).trans (ah (heap_alloc_new w _) 3)
  simp only[List.getElem?_toArray,List.getElem?_cons_zero,List.getElem?_cons_succ]at f0 f1 f2 f3
  have z3:=hb3.size
  rw[World.size_alloc]at z3
  have z5:w.heap.size<w3.heap.size:=by omega
  have bQ:=af ((ae HB).trans (hb3.mono (by rw[World.size_alloc];omega)))
  have qN:=af ((ae HU).trans (hb3.mono (ae HU).size))
  have Ff:=af ((hb3.block w.heap.size (by simp)).trans (heap_alloc_new w _))
  clear hb3
  go_wp2_with fail
  go_region_with (go_at_call 95;refine(ae LA _).mono ?_;rintro e w5 ⟨rfl,bF⟩;have g0:=(bF.cell (p:=⟨w3.heap.size,0,none⟩) (gS w3 _)).trans (ah (heap_alloc_new w3 _) 0);have g1:=(bF.cell (p:=⟨w3.heap.size,1,none⟩) (gS w3 _)).trans (ah (heap_alloc_new w3 _) 1);have g2:=(bF.cell (p:=⟨w3.heap.size,2,none⟩) (gS w3 _)).trans (ah (heap_alloc_new w3 _) 2);have g3:=(bF.cell (p:=⟨w3.heap.size,3,none⟩) (gS w3 _)).trans (ah (heap_alloc_new w3 _) 3);simp only[List.getElem?_toArray,List.getElem?_cons_zero,List.getElem?_cons_succ]at g0 g1 g2 g3;have bO:=af (((ae bQ).alloc (by omega) _).trans ((((Below.refl _ _).drew).trans bF).mono (Nat.le_trans (by omega) (Nat.le_of_lt (gS w3 _)))));clear bF)
  all_goals
   obtain⟨so,sc,wo,wc,fQ,rfl⟩:=(ae H).below (ae bO)
   have s2:=ah fQ.blk 2
   have sf:=ay fQ.blk 2
   have sz:=ag fQ.blk
   simp only[List.getElem?_toArray,List.getElem?_cons_zero,List.getElem?_cons_succ]at s2
   have qO:=af fQ
   clear fQ
   go_wp2_with fail
   go_end0
   rw[ae HS]
   exact⟨rfl,S,_,⟨so,sc,wo,wc,(ae qO).bad.1,rfl⟩,ae HST,ae vD,(au.aw (ae bO)).trans (ae qO).bad.2⟩
def Tz (lb:Nat) (D:List Ng) (TT:Nat→Za.U) (M:List (List UInt8)) (f:Nat) (p:Za.Tm) (us:List Za.U) (l:Za.bN) (R:Nat→Prop) (w:World) (C:Array Value) (k:Nat) (iv:Value) (wr:World):Prop:=
 ∃(j:Nat) (S':List Int) (R':Nat→Prop),k+j=p.args.length∧iv= .int .i64 (j:Int)∧dp wr lb S' (Za.cT (Za.matU f) (p.args.take j) (us.take j) l).w.wt (Za.cT (Za.matU f) (p.args.take j) (us.take j) l).w.no R'∧mC D TT M S' (Za.cT (Za.matU f) (p.args.take j) (us.take j) l).st∧S'.length≤M.length∧au R R' w wr∧wr.heap[w.heap.size]?=some (.cells C 76 (0,0))∧¬R' w.heap.size
theorem Kq {f:Nat} (IH:Hn f) (P:Nat→Prop) (u w:World) (lb sb sq:Nat) (cS:Array Value) (Ty:TypeId) (D:List Ng) (nO:Option Addr) (nC:Nat) (fr:Nat→Nat) (TT:Nat→Za.U) (PP R:Nat→Prop) (M:List (List UInt8)) (S:List Int) (a:AV) (n:Nat) (p:Za.Tm) (l:Za.bN) (B:Nat) (hG:gA u lb sb sq cS Ty D nO nC fr TT PP) (hu:Below u.heap.size u w) (h:dp w lb S l.w.wt l.w.no R) (hs:mC D TT M S l.st) (hS:S.length≤M.length) (hM:M.Nodup) (hML:M.length≤100000) (hr:RA (f+1) M P u a p) (wp:Za.wfK (f+1) p) (hn:n<D.length) (hsz:Za.size (TT n)≤B) (hsm:l.sm B) (hl:l.w.wt.length+2*B*3 ^ (f+1)+2*B≤100000000) (kp:p.kind≠3) (d:Ng) (hd:D[fr n]?=some d) (kt:d.k≠1) (hk2:a.k=d.k∧jq a=d.val∧a.tx=d.tx∧a.n=d.cnt):
 Calls Tryz.prog 109 #[.pointer (some ⟨lb,0,none⟩),.pointer (some ⟨sb,sq,none⟩),.agg #[.int .i64 a.k,.int .i64 a.val,.string a.tx,.slice a.ao a.n a.cap],.int .i64 (n:Int)] w fun e w'=>DO lb D TT M (Za.matU (f+1) p (TT n) l) R w e w':=by
 obtain⟨ha,hrow⟩:=hr
 obtain⟨k,val,tx,ao,m,cp⟩:=a
 have hk:(k == 1)=false:=by
  have h1:=ha.1
  dsimp only at h1
  rw[h1]
  rcases ha.2.2.2.2.2.1 with e | e | e<;>first | exact absurd e kp | (rw[e];decide)
 have HB:=af ((Below.refl w.heap.size w).alloc (Nat.le_refl _) (.cells #[.int .i64 k,.int .i64 val,.string tx,.slice ao m cp] 76))
 have HU:=af (hu.trans ((ae HB).mono hu.size))
 have xq:=af hu
 have HG:=af hG
 have H:=af h
 have HST:=af hs
 have vD:=af hS
 obtain⟨kh,hop⟩:=hG.ok.hop n hn
 obtain⟨_,e1,od,md,_,nd⟩:=hG.node hn
 rw[hd]at e1
 cases e1
 obtain⟨ku,tu,iu,lu,eu⟩:=nd kt
 have HL:=af (eY _ sb sq cS Ty D nO nC n (fr n) kh d (hG.at (ae HU)) hop hd)
 have hrt:=(Bp ha wp kp od kt lu).2 hk2
 have HS:=af (show Za.matU (f+1) p (TT n) l=Za.cT (Za.matU f) p.args (d.args.map TT) l by rw[eu];exact Za.lD l kp (by rw[List.length_map];exact hrt))
 have qu:1+Za.sizeL (d.args.map TT)≤B:=by rw[eu,Za.size]at hsz;omega
 have dS:=fun w=>qK w ⟨k,val,tx,ao,m,cp⟩
 have Ho:=hrt.2
 have HAb:=af (fun W (hu:Below u.heap.size u W)=>lW W sb sq cS Ty D nO nC n (fr n) kh d (hG.at hu) hop hd)
 have HCb:=af (fun q=>hG.ar.at md q)
 have o5:=af od.inn
 obtain⟨kb,vb,xb,cb',ob,pb,gb,nb,mb⟩:=d
 obtain⟨q1,q2,q3,q4⟩:=hk2
 have h2:=ha.2.1
 dsimp only at h2 q1 q2 q3 q4 hrow HAb HCb o5 HL Ho HS qu
 rw[←Ho]at HAb
 generalize jq ⟨k,val,tx,ao,m,cp⟩=lv at*
 dsimp only at dS
 subst q1 q2 q3 q4 h2
 have LA:=af dS
 have ld:=af hrow
 have TB:=af Ho
 have HWp:=af wp.2.2.2
 have TC:=af wp.2.2.1
 have Bo:=af hl
 have Wo:=af hM
 have ji:=af hsm
 have yf:=af qu
 have I:=af IH
 clear hG hu h hs hS hM hn ha kp kt dS hrow Ho wp hl IH hop hd od md nd lu eu hrt hsz hsm qu
 go_enter Tryz.func109,Tryz.ntmps109
 go_wp2_with fail
 refine(ae HL).mono ?_
 rintro e w3 ⟨rfl,hb3⟩
 have f0:=(hb3.cell (p:=⟨w.heap.size,0,none⟩) (by simp)).trans (ah (heap_alloc_new w _) 0)
 have f1:=(hb3.cell (p:=⟨w.heap.size,1,none⟩) (by simp)).trans (ah (heap_alloc_new w _) 1)
 have f2:=(hb3.cell (p:=⟨w.heap.size,2,none⟩) (by simp)).trans (ah (heap_alloc_new w _) 2)
 have f3:=(hb3.cell (p:=⟨w.heap.size,3,none⟩) (by simp)).trans (ah (heap_alloc_new w _) 3)
 simp only[List.getElem?_toArray,List.getElem?_cons_zero,List.getElem?_cons_succ]at f0 f1 f2 f3
 have z3:=hb3.size
 rw[World.size_alloc]at z3
 have z5:w.heap.size<w3.heap.size:=by omega
 have bQ:=af ((ae HB).trans (hb3.mono (by rw[World.size_alloc];omega)))
 have qN:=af ((ae HU).trans (hb3.mono (ae HU).size))
 have Ff:=af ((hb3.block w.heap.size (by simp)).trans (heap_alloc_new w _))
 clear hb3
 go_wp2_with fail
 have e0:=ah (heap_alloc_new w3 (.cells #[.int .i64 k,.int .i64 lv,.string tx,.int .i64 (p.args.length:Int)] 177)) 0
 have e1:=ah (heap_alloc_new w3 (.cells #[.int .i64 k,.int .i64 lv,.string tx,.int .i64 (p.args.length:Int)] 177)) 1
 have e2:=ah (heap_alloc_new w3 (.cells #[.int .i64 k,.int .i64 lv,.string tx,.int .i64 (p.args.length:Int)] 177)) 2
 have e3:=ah (heap_alloc_new w3 (.cells #[.int .i64 k,.int .i64 lv,.string tx,.int .i64 (p.args.length:Int)] 177)) 3
 simp only[List.getElem?_toArray,List.getElem?_cons_zero,List.getElem?_cons_succ]at e0 e1 e2 e3
 go_region_held3 (fun w'=>w'.cell? ⟨w.heap.size,0,none⟩=some (.int .i64 k)∧w'.cell? ⟨w.heap.size,1,none⟩=some (.int .i64 val)∧w'.cell? ⟨w.heap.size,2,none⟩=some (.string tx)∧w'.cell? ⟨w.heap.size,3,none⟩=some (.slice ao p.args.length cp)∧w'.cell? ⟨w3.heap.size,0,none⟩=some (.int .i64 k)∧w'.cell? ⟨w3.heap.size,1,none⟩=some (.int .i64 lv)∧w'.cell? ⟨w3.heap.size,2,none⟩=some (.string tx)∧w'.cell? ⟨w3.heap.size,3,none⟩=some (.int .i64 (p.args.length:Int))) (go_keep) (first
  | (go_at_call 95;refine(ae LA _).mono ?_;rintro e w5 ⟨rfl,bF⟩;have g0:=(bF.cell (p:=⟨w3.heap.size,0,none⟩) (gS w3 _)).trans e0;have g1:=(bF.cell (p:=⟨w3.heap.size,1,none⟩) (gS w3 _)).trans e1;have g2:=(bF.cell (p:=⟨w3.heap.size,2,none⟩) (gS w3 _)).trans e2;have g3:=(bF.cell (p:=⟨w3.heap.size,3,none⟩) (gS w3 _)).trans e3;have y0:=(bF.cell (p:=⟨w.heap.size,0,none⟩) (Nat.lt_trans z5 (gS w3 _))).trans ((World.cell?_alloc_past _ _ _ z5).trans f0);have y1:=(bF.cell (p:=⟨w.heap.size,1,none⟩) (Nat.lt_trans z5 (gS w3 _))).trans ((World.cell?_alloc_past _ _ _ z5).trans f1);have y2:=(bF.cell (p:=⟨w.heap.size,2,none⟩) (Nat.lt_trans z5 (gS w3 _))).trans ((World.cell?_alloc_past _ _ _ z5).trans f2);have y3:=(bF.cell (p:=⟨w.heap.size,3,none⟩) (Nat.lt_trans z5 (gS w3 _))).trans ((World.cell?_alloc_past _ _ _ z5).trans f3);have bO:=af (((ae bQ).alloc (by omega) _).trans ((((Below.refl _ _).drew).trans bF).mono (Nat.le_trans (by omega) (Nat.le_of_lt (gS w3 _)))));have Bq:=af ((bF.block w.heap.size (Nat.lt_trans z5 (gS w3 _))).trans ((Below.heap_alloc _ _ _ z5).trans (ae Ff)));clear bF))
 go_wp2_with fail
 have Pq:=af (show Tz lb D TT M f p (gb.map TT) l R w #[.int .i64 k,.int .i64 val,.string tx,.slice ao p.args.length cp] p.args.length (.int .i64 0) w5 from ⟨0,S,R,by omega,rfl,by simpa [Za.cT] using (ae H).below (ae bO),by simpa [Za.cT] using ae HST,ae vD,au.aw (ae bO),ae Bq,fun q=>by have:=((ae H).rows _ q).2;omega⟩)
 refine(ae HAb _ ((ae xq).trans ((ae bO).mono (ae xq).size))).mono ?_
 rintro e w6 ⟨rfl,rfl⟩
 clear e0 e1 e2 e3 f0 f1 f2 f3 g0 g1 g2 g3 y0 y1 y2 y3 HB HU HL bQ qN Ff bO Bq HAb LA z3 z5 hk
 go_wp2_with fail
 go_loopg [10] p.args.length (fun k' iv wr=>Tz lb D TT M f p (gb.map TT) l R w #[.int .i64 k,.int .i64 val,.string tx,.slice ao p.args.length cp] k' iv wr)
 case atStart=>exact ae Pq
 case round=>
  clear Pq
  obtain⟨j,S',R',hkj,rfl,fQ,hst,ly,cW,eE,hbr⟩:=hrel
  have lH:=(ae H).under cW (ae xq) (ae HG).lt
  have x3:=ah eE 3
  simp only[List.getElem?_toArray,List.getElem?_cons_zero,List.getElem?_cons_succ]at x3
  have zx:=ag eE
  by_cases hlt:j<p.args.length
  ·have hjb:j<gb.length:=by have:=ae TB;omega
   have fV:j<(gb.map TT).length:=by rw[List.length_map];exact hjb
   obtain⟨g,us,ca,hao,_,fu,lY,my⟩:=ae ld (fun q=>by rw[q]at hlt;simp at hlt)
   subst hao
   obtain⟨pB,eB,zB,cB⟩:=ae HCb (fun q=>by rw[q]at hjb;simp at hjb)
   subst eB
   have DK:j<us.length:=by have:=my.length;omega
   have fc:∀w',Below u.heap.size u w'→∀i,i<4→w'.cell? ⟨g,j*4+i,none⟩=(gM us[j])[i]?:=fun w' hb i hi=>by
    rw[hb.cell (p:=⟨g,j*4+i,none⟩) (ag fu),ah fu,←Array.getElem?_toList,←NL DK i hi,←lY,List.getElem?_take_of_lt (by omega)]
   have DI:=af (show∀w',Below u.heap.size u w'→w'.cell? ⟨g,j*4,none⟩=some (.int .i64 us[j].k)∧w'.cell? ⟨g,j*4+1,none⟩=some (.int .i64 us[j].val)∧w'.cell? ⟨g,j*4+2,none⟩=some (.string us[j].tx)∧w'.cell? ⟨g,j*4+3,none⟩=some (.slice us[j].ao us[j].n us[j].cap)∧w'.cell? ⟨pB,j,none⟩=some (.int .i64 (gb[j]:Int))from fun w' hb=>by
    have a0:=fc w' hb 0 (by omega)
    have a1:=fc w' hb 1 (by omega)
    have a2:=fc w' hb 2 (by omega)
    have a3:=fc w' hb 3 (by omega)
    simp only[gM,List.getElem?_cons_zero,List.getElem?_cons_succ,Nat.add_zero]at a0 a1 a2 a3
    exact⟨a0,a1,a2,a3,(hb.cell (p:=⟨pB,j,none⟩) zB).trans (cB j hjb)⟩)
   have hB1:1≤B:=by have:=ae yf;omega
   obtain⟨sm1,sm2⟩:=Za.ya (g:=Za.matU f) (B:=B) (c:=2*B*3 ^ f) (p.args.take j) ((gb.map TT).take j) l (fun q hq v hv l' hl'=>Za.uE f q v l' (ae HWp q (List.mem_of_mem_take hq)) (by have:=Za.iW (List.mem_of_mem_take hv);have:=ae yf;omega) hB1 hl') (ae ji)
   rw[List.length_take,Nat.min_eq_left (by omega)]at sm2
   have Ka:(Za.cT (Za.matU f) (p.args.take j) ((gb.map TT).take j) l).w.wt.length+2*B*3 ^ f+2*B≤100000000:=by
    have q1:=ae Bo
    have q2:2*B*3 ^ (f+1)=3*(2*B*3 ^ f):=by rw[Nat.pow_succ];rw[←Nat.mul_assoc,Nat.mul_comm]
    have q3:j*(2*B*3 ^ f)≤2*(2*B*3 ^ f):=Nat.mul_le_mul_right _ (by have:=ae TC;omega)
    omega
   have Br:Za.size (TT gb[j])≤B:=by have:=Za.iW (List.mem_map_of_mem (f:=TT) (List.getElem_mem hjb));have:=ae yf;omega
   have IC:=af (ae I P u wr.drew lb sb sq cS Ty D nO nC fr TT PP R' M S' us[j] gb[j] p.args[j] (Za.cT (Za.matU f) (p.args.take j) ((gb.map TT).take j) l) B (ae HG) lH.drew (fQ.below (Below.refl _ _).drew) hst ly (ae Wo) hML (my.lr j DK hlt) (ae HWp _ (List.getElem_mem hlt)) (ae o5 _ (List.getElem_mem hjb)) Br sm1 Ka)
   have Kr:=Za.yQ (Za.matU f) p.args (gb.map TT) l hlt fV
   rw[List.getElem_map]at Kr
   rw[←Kr]at IC
   obtain⟨a0,a1,a2,a3,a4⟩:=ae DI wr lH
   have jh:=af cW
   have Mq:=af lH
   have qO:=af fQ
   have aT:=af hkj
   have bh:=af hlt
   have oh:=af eE
   have Pr:=af hbr
   generalize us[j]=v6 at*
   generalize gb[j]=nb at*
   have zr:u.heap.size≤wr.heap.size:=lH.size
   have zA':g<wr.heap.size:=by have:=ag fu;omega
   have zB':pB<wr.heap.size:=by omega
   have Pn:j≤3:=by have:=ae TC;omega
   have i0:(0:Int)≤(j:Int):=by omega
   have i1:(j:Int)<(p.args.length:Int):=by omega
   clear fQ hst ly cW lH hkj hlt fV hjb DK cB sm1 sm2 Ka Br Kr hB1 eE hbr fc fu lY my
   go_wp2_with fail
   go_region_held3 (fun w'=>w'.cell? ⟨w.heap.size,3,none⟩=some (.slice (some ⟨g,0,none⟩) p.args.length cp)∧w'.cell? ⟨g,j*4,none⟩=some (.int .i64 v6.k)∧w'.cell? ⟨g,j*4+1,none⟩=some (.int .i64 v6.val)∧w'.cell? ⟨g,j*4+2,none⟩=some (.string v6.tx)∧w'.cell? ⟨g,j*4+3,none⟩=some (.slice v6.ao v6.n v6.cap)∧w'.cell? ⟨pB,j,none⟩=some (.int .i64 (nb:Int))) (go_keep) (first
    | (go_at_call 109;refine(ae IC).mono ?_;rintro e w8 ⟨rfl,S8,R8,h8,s8,l8,fr8⟩;have nR:=af ((ae jh).trans ((au.aw (Below.refl _ _).drew).trans fr8));obtain⟨k0,k1,k2,k3,k4⟩:=ae DI w8 ((ae qO).under ((au.aw (Below.refl _ _).drew).trans fr8) (ae Mq) (ae HG).lt);have k9:=(fr8.cell (p:=⟨w.heap.size,3,none⟩) zx (ae Pr)).trans x3;have U2:=af ((fr8.block w.heap.size zx (ae Pr)).trans (ae oh));have U3:=af (fr8.not (k:=w.heap.size) zx (ae Pr));have H8:=af h8;have Wp:=af s8;have Wq:=af l8;clear h8 s8 l8 fr8))
   all_goals
    go_wp2_with fail
    go_roundg (gk - 1)
    case measure=>have:=ae aT;have:=ae bh;omega
    case rel=>exact⟨j+1,S8,R8,by have:=ae aT;have:=ae bh;omega,by go_num,ae H8,ae Wp,ae Wq,ae nR,ae U2,ae U3⟩
  ·obtain rfl:j=p.args.length:=by omega
   have qO:=af fQ
   have U4:=af hst
   have U5:=af ly
   have jh:=af cW
   clear fQ hst ly cW lH hkj eE hbr
   go_wp2_with fail
   go_end0
   rw[ae HS]
   have q1:=ae qO
   have q3:=ae U4
   rw[List.take_length,List.take_of_length_le (by rw[List.length_map];have:=ae TB;omega)]at q1 q3
   exact⟨rfl,S',R',q1,q3,ae U5,ae jh⟩
theorem muG_all:∀f,Hn f
 | 0=>fun P u w lb sb sq cS Ty D nO nC fr TT PP R M S a n p l B hG hu h hs hS hM hML hr _ _ _ _ _=>hr.elim
 | f+1=>fun P u w lb sb sq cS Ty D nO nC fr TT PP R M S a n p l B hG hu h hs hS hM hML hr wp hn hsz hsm hl=>by
  by_cases kp:p.kind=3
  ·exact Ko f u w lb sb sq cS Ty D nO nC fr TT PP R M S a n p l B hG hu h hs hS hM hML hr.1 hn hsm (by omega) kp
  ·obtain⟨d,hd,_⟩:=hG.node hn
   by_cases kt:d.k=1
   ·exact Kp f u w lb sb sq cS Ty D nO nC fr TT PP R M S a n p l hG hu h hs hS hr.1 hn (by omega) kp d hd kt
   ·by_cases hk:a.k=d.k∧jq a=d.val∧a.tx=d.tx∧a.n=d.cnt
    ·exact Kq (muG_all f) P u w lb sb sq cS Ty D nO nC fr TT PP R M S a n p l B hG hu h hs hS hM hML hr wp hn hsz hsm hl kp d hd kt hk
    ·exact NU f u w lb sb sq cS Ty D nO nC fr TT PP R M S a n p l hG hu h hs hS hr.1 wp hn kp d hd kt hk
def Ks (l:Za.Wn) (w:World) (e:Ending) (w':World):Prop:=
 ∃so sn sc wo wc,e= .returned (.agg #[.slice so sn sc,.slice wo l.wt.length wc,.bool l.no])∧w'.ownsRow w.heap.size 3 1 (.slice wo l.wt.length wc) l.wt.length (l.wt.map aM)∧Below w.heap.size w w'
theorem Ak (l:Za.Wn):(if l.no=true then 2 else if l.wt=[]then 1 else 3:Int)=(l.says:Int):=by
 unfold Za.Wn.says
 split
 ·rfl
 ·split<;>rfl
theorem pX {lb k:Nat} (h:k≠lb):¬fH lb none none k:=by
 rintro(e | ⟨p,e,_⟩ | ⟨p,e,_⟩)
 ·exact h e
 ·cases e
 ·cases e
theorem gA.up {u:World} {lb sb so:Nat} {cs:Array Value} {Ty:TypeId} {D:List Ng} {no:Option Addr} {nc:Nat} {fr:Nat→Nat} {T:Nat→Za.U} {P:Nat→Prop} (h:gA u lb sb so cs Ty D no nc fr T P) {lb':Nat} (hl:u.heap.size≤lb'):gA u lb' sb so cs Ty D no nc fr T P:=⟨h.st,h.ok,h.to,h.ar,hl⟩
theorem gA.on {u:World} {lb sb so:Nat} {cs:Array Value} {Ty:TypeId} {D:List Ng} {no:Option Addr} {nc:Nat} {fr:Nat→Nat} {T:Nat→Za.U} {P:Nat→Prop} (h:gA u lb sb so cs Ty D no nc fr T P) {w:World} (hb:Below u.heap.size u w):gA w w.heap.size sb so cs Ty D no nc fr T P:=⟨h.st.below hb,h.ok,h.to,h.ar.below hb,Nat.le_refl _⟩
theorem Bt (w:World) (lb:Nat) (W:List Nat) (no:Bool) (so:Option Addr) (sn sc:Nat) (wo:Option Addr) (wc:Nat) (h:w.heap[lb]?=some (.cells #[.slice so sn sc,.slice wo W.length wc,.bool no] 189 (0,0))):
 Calls Tryz.prog 110 #[.pointer (some ⟨lb,0,none⟩)] w fun e w'=>e= .returned (.int .i64 (if no=true then 2 else if W=[]then 1 else 3))∧w'=w:=by
 have s1:=ah h 1
 have s2:=ah h 2
 have sz:=ag h
 simp only[List.getElem?_toArray,List.getElem?_cons_zero,List.getElem?_cons_succ]at s1 s2
 clear h
 cases no with
 | true=>
  go_enter Tryz.func110,Tryz.ntmps110
  go_wp2_with fail
  go_ret
  exact⟨rfl,rfl⟩
 | false=>
  cases W with
  | nil=>
   go_enter Tryz.func110,Tryz.ntmps110
   go_wp2_with fail
   go_ret
   exact⟨rfl,rfl⟩
  | cons x W=>
   have t1:decide (0<W.length+1)=true:=by simp
   have t2:decide ((0:Int)<(W.length:Int)+1)=true:=by simp
   go_enter Tryz.func110,Tryz.ntmps110
   go_wp2_with fail
   go_ret
   exact⟨by simp,rfl⟩
end Go.Proofs.YthfjnfcekeknlaaGreatDoor
