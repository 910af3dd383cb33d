import Derived.Test.YthfjnfcekeknlaaGreatDoorSu08
import Derived.Test.YthfjnfcekeknlaaGreatDoorSu23
set_option maxHeartbeats 8000000
set_option maxRecDepth 100000
namespace Go.Proofs.YthfjnfcekeknlaaGreatDoor
open Go.RowKit
theorem Iq (w:World) (rb:Nat) (s:ByteArray) (l:List Za.aj) (ns:List ByteArray) (nv:Value) (e0:Int) (n:Nat) (h:St w rb s l ns nv e0) (hk:(Za.hd l).kind≠2):
 Calls Tryz.prog 74 #[.pointer (some ⟨rb,0,none⟩),.int .i64 (n:Int)] w fun e w'=>e= .returned (.bool false)∧St w' rb s l ns nv 2∧KA rb [rb] w w':=by
 have H:=af h
 obtain⟨⟨c0,c1,c2,c3,c4,c5,f1,f2,f3,f4,f5⟩,own,chain,isn,few,short,signs,pos,lt⟩:=h
 clear own chain isn few short signs pos lt c0 c2 c3 c4 c5 f1 f2 f3 f4 f5
 have n2:(((Za.hd l).kind:Int) != 2)=true:=by simp;omega
 generalize (Za.hd l).kind=k at c1 n2
 clear hk
 go_enter Tryz.func74,Tryz.ntmps74
 go_wp2_with (go_at_call 82;refine(b8 _ _ _ _ _ _ _ 2 (ae H)).mono ?_;rintro e w1 ⟨rfl,hs,hk⟩;have HS:=af hs;have HK:=af hk;clear hs hk)
 go_ret
 exact⟨rfl,ae HS,ae HK⟩
theorem Ir (w:World) (rb:Nat) (s:ByteArray) (l:List Za.aj) (ns:List ByteArray) (nv:Value) (e0:Int) (n:Nat) (h:St w rb s l ns nv e0) (hk:(Za.hd l).kind=2) (hn:12≤n):
 Calls Tryz.prog 74 #[.pointer (some ⟨rb,0,none⟩),.int .i64 (n:Int)] w fun e w'=>e= .returned (.bool false)∧St w' rb s l ns nv 3∧KA rb [rb] w w':=by
 have H:=af h
 obtain⟨⟨c0,c1,c2,c3,c4,c5,f1,f2,f3,f4,f5⟩,own,chain,isn,few,short,signs,pos,lt⟩:=h
 clear own chain isn few short signs pos lt c0 c2 c3 c4 c5 f1 f2 f3 f4 f5
 rw[hk]at c1
 have hN:decide (12≤(n:Int))=true:=by simp;omega
 clear hk
 go_enter Tryz.func74,Tryz.ntmps74
 go_wp2_with (go_at_call 82;refine(b8 _ _ _ _ _ _ _ 3 (ae H)).mono ?_;rintro e w1 ⟨rfl,hs,hk⟩;have HS:=af hs;have HK:=af hk;clear hs hk)
 go_ret
 exact⟨rfl,ae HS,ae HK⟩
theorem rD (w:World) (rb:Nat) (s:ByteArray) (l:List Za.aj) (ns:List ByteArray) (nv:Value) (e0:Int) (n:Nat) (h:St w rb s l ns nv e0) (hk:(Za.hd l).kind=2) (hn:n<12):
 Calls Tryz.prog 74 #[.pointer (some ⟨rb,0,none⟩),.int .i64 (n:Int)] w fun e w'=>e= .returned (.bool true)∧w'=w:=by
 obtain⟨⟨c0,c1,c2,c3,c4,c5,f1,f2,f3,f4,f5⟩,own,chain,isn,few,short,signs,pos,lt⟩:=h
 clear own chain isn few short signs pos lt c0 c2 c3 c4 c5 f1 f2 f3 f4 f5
 rw[hk]at c1
 have hN:decide (12≤(n:Int))=false:=by simp;omega
 clear hk
 go_enter Tryz.func74,Tryz.ntmps74
 go_wp2
 go_ret
 exact⟨rfl,rfl⟩
theorem St.uN {w:World} {rb:Nat} {s:ByteArray} {l:List Za.aj} {ns:List ByteArray} {nv:Value} {e:Int} (h:St w rb s l ns nv e):St (w.setCell ⟨rb,4,none⟩ (.slice none 0 0)) rb s l [] (.slice none 0 0) e∧KA rb [rb] w (w.setCell ⟨rb,4,none⟩ (.slice none 0 0)):=by
 obtain⟨⟨c0,c1,c2,c3,c4,c5,f1,f2,f3,f4,f5⟩,own,chain,isn,few,short,signs,pos,lt⟩:=h
 refine⟨⟨⟨by go_cell,by go_cell,by go_cell,by go_cell,by go_cell,by go_cell,by go_cell,by go_cell,by go_cell,by go_cell,by go_cell⟩,World.ownsRow_nil _ _ _ _,chain,isn,by simp;omega,short,signs.setCell (by show rb≠0;omega) _,pos,by simpa using lt⟩,(KA.refl _ _ _).fG (by simp) _⟩
structure eJ (w:World) (a:TV) (o1:Option Addr) (n1:Nat) (o2:Option Addr) (n2:Nat) (c:Za.aL):Prop where
 head:RA 8 (Za.NG c) anyA w a c.head
 tests:cm (Za.NG c) w o1 n1 c.tests
 goals:cm (Za.NG c) w o2 n2 c.goals
theorem eJ.keep {w w':World} {a:TV} {o1:Option Addr} {n1:Nat} {o2:Option Addr} {n2:Nat} {c:Za.aL} (h:eJ w a o1 n1 o2 n2 c) (hk:aU w w'):eJ w' a o1 n1 o2 n2 c:=⟨hk.a.ra h.head,h.tests.keep hk,h.goals.keep hk⟩
theorem eJ.fact {ns':List ByteArray} {w:World} {a:TV} {t:Za.Tm} (h:RA 8 (aV ns') anyA w a t) (hn:aV ns'=Za.namesF 8 (aV []) t):eJ w a none 0 none 0 ⟨t,[],[]⟩:=
 ⟨by rw[hn]at h;exact h,cm.none _ _,cm.none _ _⟩
theorem eJ.body {ns ns':List ByteArray} {w:World} {a:TV} {o1:Option Addr} {n1:Nat} {o2:Option Addr} {n2:Nat} {t:Za.Tm} {xs ys:List Za.aH} (h:RA 8 (aV ns) anyA w a t) (hn:aV ns=Za.namesF 8 (aV []) t) (hb:PS ns ns' w o1 n1 o2 n2 (xs,ys)):eJ w a o1 n1 o2 n2 ⟨t,xs,ys⟩:=by
 obtain⟨h1,h2,h3⟩:=hb
 have e:aV ns'=Za.NG ⟨t,xs,ys⟩:=by rw[h3,hn];rfl
 obtain⟨M,hM,_⟩:=Za.td xs h1.ok (aV ns)
 obtain⟨K,hK,_⟩:=Za.td ys h2.ok (xs.foldl Za.aQ (aV ns))
 have e2:aV ns'=aV ns++(M++K):=by
  rw[h3]
  unfold Za.aD
  dsimp only
  rw[hK,hM,List.append_assoc]
 have h':=h.more (M++K)
 rw[←e2,e]at h'
 rw[e]at h1 h2
 exact⟨h',h1,h2⟩
def BZ (rb:Nat) (s:ByteArray) (r:Za.dQ Za.aL) (w:World) (e:Ending) (w':World):Prop:=match r with
 | .inl (er,pos)=>∃(a:TV) (o1:Option Addr) (n1 c1:Nat) (o2:Option Addr) (n2 c2:Nat) (l':List Za.aj) (ns':List ByteArray) (nv':Value),
  e= .returned (.tuple #[.agg #[.int .i64 a.k,.int .i64 a.val,.string a.tx,.slice a.ao a.n a.cap,.slice o1 n1 c1,.slice o2 n2 c2],.bool false])∧St w' rb s l' ns' nv' (er:Int)∧(Za.hd l').pos=pos∧KA rb [rb] w w'
 | .inr (c,l1)=>∃(a:TV) (o1:Option Addr) (n1 c1:Nat) (o2:Option Addr) (n2 c2:Nat) (ns':List ByteArray) (nv':Value) (e':Int),
  e= .returned (.tuple #[.agg #[.int .i64 a.k,.int .i64 a.val,.string a.tx,.slice a.ao a.n a.cap,.slice o1 n1 c1,.slice o2 n2 c2],.bool true])∧eJ w' a o1 n1 o2 n2 c∧St w' rb s l1 ns' nv' e'∧KA rb [rb] w w'
theorem lJ {w:World} {rb:Nat} {s:ByteArray} {l:List Za.aj} {ns:List ByteArray} {nv:Value} {e:Int} (h:St w rb s l ns nv e) (o:Obj):
 St ((w.alloc o).alloc o) rb s l ns nv e∧KA rb [rb] w ((w.alloc o).alloc o)∧((w.alloc o).alloc o).heap[w.heap.size]?=some o∧((w.alloc o).alloc o).heap[w.heap.size+1]?=some o:=
 ⟨h.below (((Below.refl _ _).alloc (Nat.le_refl _) _).alloc (by simp) _),((KA.refl rb [rb] w).alloc _).alloc _,aB (heap_alloc_new w o) _,by have:=heap_alloc_new (w.alloc o) o;rw[World.size_alloc]at this;exact this⟩
theorem SP (w:World) (rb:Nat) (s:ByteArray) (l:List Za.aj) (ns:List ByteArray) (nv:Value) (e0:Int) (n:Nat) (h:St w rb s l ns nv e0) (hk:(Za.hd l).kind≠2) (more:Bool):
 Calls Tryz.prog 39 #[.pointer (some ⟨rb,0,none⟩),.int .i64 (n:Int)] w fun e w'=>BZ rb s (Za.clause more l) w e w':=by
 have HF:=af (show Za.clause more l= .inl (2,(Za.hd l).pos)by rw[Za.C9 hk];rfl)
 have HQ:=af hk
 clear hk
 have hlt:=h.lt
 obtain⟨hS,hK,hB0,hBc⟩:=lJ h (.cells #[.int .i64 0,.int .i64 0,.string ⟨#[]⟩,.slice none 0 0,.slice none 0 0,.slice none 0 0] 78)
 have HS:=af hS
 have HK:=af hK
 have aY:=af hB0
 have HBc:=af hBc
 clear hS hK hB0 hBc h
 go_enter Tryz.func39,Tryz.ntmps39
 go_wp2_with fail
 refine(Iq _ rb s l ns nv e0 n (ae HS) (ae HQ)).mono ?_
 rintro e w1 ⟨rfl,hs1,fo⟩
 have bH:=af hs1
 have df:=af ((ae HK).trans fo)
 have jI:=af (aq fo (ae aY) (by simp;omega))
 have HBc1:=af (aq fo (ae HBc) (by simp;omega))
 clear hs1 fo
 obtain⟨a,ha⟩:∃a:TV,a=⟨0,0,⟨#[]⟩,none,0,0⟩:=⟨_,rfl⟩
 have r0:=ah (ae jI)
 have x0:=ay (ae jI)
 have z0:=ag (ae jI)
 have rc:=ah (ae HBc1)
 have zc:=ag (ae HBc1)
 go_wp2_with fail
 refine bodyPost_ret (v:= .tuple #[.agg #[.int .i64 0,.int .i64 0,.string ⟨#[]⟩,.slice none 0 0,.slice none 0 0,.slice none 0 0],.bool false]) (by simp[results,Tryz.results39,go_sem,r0]) rfl ?_
 rw[ae HF]
 have R:=bW (ae bH) (ae df) hlt (Nat.le_refl _) (ae jI) (((((((aC.refl _ _).set 0 (.int .i64 a.k)).set 1 (.int .i64 a.val)).set 2 (.string a.tx)).set 3 (.slice a.ao a.n a.cap)).set 4 (.slice none 0 0)).set 5 (.slice none 0 0))
 exact⟨a,none,0,0,none,0,0,l,ns,nv,by rw[ha],by rw[ha]at R;exact R.1,rfl,by rw[ha]at R;exact R.2⟩
theorem SQ (w:World) (rb:Nat) (s:ByteArray) (l:List Za.aj) (ns:List ByteArray) (nv:Value) (e0:Int) (n:Nat) (h:St w rb s l ns nv e0) (hk:(Za.hd l).kind=2) (hn:12≤n):
 Calls Tryz.prog 39 #[.pointer (some ⟨rb,0,none⟩),.int .i64 (n:Int)] w fun e w'=>BZ rb s (Za.clause false l) w e w':=by
 have HF:=af (show Za.clause false l= .inl (3,(Za.hd l).pos)by rw[Za.Da hk];rfl)
 have HQ:=af hk
 clear hk
 have hlt:=h.lt
 obtain⟨hS,hK,hB0,hBc⟩:=lJ h (.cells #[.int .i64 0,.int .i64 0,.string ⟨#[]⟩,.slice none 0 0,.slice none 0 0,.slice none 0 0] 78)
 have HS:=af hS
 have HK:=af hK
 have aY:=af hB0
 have HBc:=af hBc
 clear hS hK hB0 hBc h
 go_enter Tryz.func39,Tryz.ntmps39
 go_wp2_with fail
 refine(Ir _ rb s l ns nv e0 n (ae HS) (ae HQ) hn).mono ?_
 rintro e w1 ⟨rfl,hs1,fo⟩
 have bH:=af hs1
 have df:=af ((ae HK).trans fo)
 have jI:=af (aq fo (ae aY) (by simp;omega))
 have HBc1:=af (aq fo (ae HBc) (by simp;omega))
 clear hs1 fo
 obtain⟨a,ha⟩:∃a:TV,a=⟨0,0,⟨#[]⟩,none,0,0⟩:=⟨_,rfl⟩
 have r0:=ah (ae jI)
 have x0:=ay (ae jI)
 have z0:=ag (ae jI)
 have rc:=ah (ae HBc1)
 have zc:=ag (ae HBc1)
 go_wp2_with fail
 refine bodyPost_ret (v:= .tuple #[.agg #[.int .i64 0,.int .i64 0,.string ⟨#[]⟩,.slice none 0 0,.slice none 0 0,.slice none 0 0],.bool false]) (by simp[results,Tryz.results39,go_sem,r0]) rfl ?_
 rw[ae HF]
 have R:=bW (ae bH) (ae df) hlt (Nat.le_refl _) (ae jI) (((((((aC.refl _ _).set 0 (.int .i64 a.k)).set 1 (.int .i64 a.val)).set 2 (.string a.tx)).set 3 (.slice a.ao a.n a.cap)).set 4 (.slice none 0 0)).set 5 (.slice none 0 0))
 exact⟨a,none,0,0,none,0,0,l,ns,nv,by rw[ha],by rw[ha]at R;exact R.1,rfl,by rw[ha]at R;exact R.2⟩
theorem KN (w:World) (rb:Nat) (s:ByteArray) (l:List Za.aj) (ns:List ByteArray) (nv:Value) (e0:Int) (n:Nat) (h:St w rb s l ns nv e0) (hk:(Za.hd l).kind=2) (hn:n<12) (er ps:Nat) (hT:Za.term 8 l= .inl (er,ps)):
 Calls Tryz.prog 39 #[.pointer (some ⟨rb,0,none⟩),.int .i64 (n:Int)] w fun e w'=>BZ rb s (Za.clause true l) w e w':=by
 have HF:=af (show Za.clause true l= .inl (er,ps)from Za.ER hk hT)
 have HQ:=af hk
 have I:=af (fun W (hW:St W rb s l [] (.slice none 0 0) e0)=>term_all 8 W rb s l [] (.slice none 0 0) e0 1 rfl hW)
 rw[hT]at I
 clear hT hk
 have hlt:=h.lt
 obtain⟨hS,hK,hB0,hBc⟩:=lJ h (.cells #[.int .i64 0,.int .i64 0,.string ⟨#[]⟩,.slice none 0 0,.slice none 0 0,.slice none 0 0] 78)
 have HS:=af hS
 have HK:=af hK
 have aY:=af hB0
 have HBc:=af hBc
 clear hS hK hB0 hBc h
 go_enter Tryz.func39,Tryz.ntmps39
 go_wp2_with fail
 refine(rD _ rb s l ns nv e0 n (ae HS) (ae HQ) hn).mono ?_
 rintro e w9 ⟨rfl,hw⟩
 rw[hw]
 clear hw w9
 generalize qQ:((w.alloc (.cells #[.int .i64 0,.int .i64 0,.string ⟨#[]⟩,.slice none 0 0,.slice none 0 0,.slice none 0 0] 78)).alloc (.cells #[.int .i64 0,.int .i64 0,.string ⟨#[]⟩,.slice none 0 0,.slice none 0 0,.slice none 0 0] 78))=w1 at*
 have f4:=(ae HS).rd.f4
 have c4:=(ae HS).rd.c4
 have nI:=(ae HS).lt
 have N:=af ((ae HS).uN)
 go_wp2_with fail
 clear f4 c4 nI qQ
 have df:=af ((ae HK).trans (ae N).2)
 have jI:=af (aG (ae aY) (show w.heap.size≠rb by omega) 4 (.slice none 0 0))
 have HBc1:=af (aG (ae HBc) (show w.heap.size+1≠rb by omega) 4 (.slice none 0 0))
 generalize w1.setCell ⟨rb,4,none⟩ (.slice none 0 0)=w2 at*
 refine(ae I _ (ae N).1).mono ?_
 rintro e w3 ⟨k,val,tx,ao,an,acap,l',ns',nv',rfl,hs3,cu,hk3⟩
 obtain⟨a,ha⟩:∃a:TV,a=⟨k,val,tx,ao,an,acap⟩:=⟨_,rfl⟩
 have eM:=af hs3
 have HP:=af cu
 have eC:=af ((ae df).trans hk3)
 have dA:=af (aq hk3 (ae jI) (by simp;omega))
 have HBc3:=af (aq hk3 (ae HBc1) (by simp;omega))
 clear hs3 cu hk3
 have r0:=ah (ae dA)
 have x0:=ay (ae dA)
 have z0:=ag (ae dA)
 have rc:=ah (ae HBc3)
 have xc:=ay (ae HBc3)
 have zc:=ag (ae HBc3)
 go_wp2_with fail
 refine bodyPost_ret (v:= .tuple #[.agg #[.int .i64 k,.int .i64 val,.string tx,.slice ao an acap,.slice none 0 0,.slice none 0 0],.bool false]) (by simp[results,Tryz.results39,go_sem,z0,r0]) rfl ?_
 rw[ae HF]
 have R:=bW (ae eM) (ae eC) hlt (show w.heap.size≤w.heap.size+1 by omega) (ae HBc3) (((((aC.refl _ _).set 0 (.int .i64 k)).set 1 (.int .i64 val)).set 2 (.string tx)).set 3 (.slice ao an acap))
 have qA:=aG (aG (aG (aG (ae dA) (show w.heap.size≠w.heap.size+1 by omega) 0 (.int .i64 k)) (show w.heap.size≠w.heap.size+1 by omega) 1 (.int .i64 val)) (show w.heap.size≠w.heap.size+1 by omega) 2 (.string tx)) (show w.heap.size≠w.heap.size+1 by omega) 3 (.slice ao an acap)
 have R2:=bW R.1 R.2 hlt (Nat.le_refl _) qA (((((((aC.refl _ _).set 0 (.int .i64 k)).set 1 (.int .i64 val)).set 2 (.string tx)).set 3 (.slice ao an acap)).set 4 (.slice none 0 0)).set 5 (.slice none 0 0))
 exact⟨⟨k,val,tx,ao,an,acap⟩,none,0,0,none,0,0,l',ns',nv',rfl,R2.1.below ((Below.refl _ _).alloc (Nat.le_refl _) _),ae HP,R2.2.alloc _⟩
theorem KO (w:World) (rb:Nat) (s:ByteArray) (l:List Za.aj) (ns:List ByteArray) (nv:Value) (e0:Int) (n:Nat) (h:St w rb s l ns nv e0) (hk:(Za.hd l).kind=2) (hn:n<12) (t:Za.Tm) (l1:List Za.aj) (hT:Za.term 8 l= .inr (t,l1)) (qd:Za.sees l1 [58,45]=false):
 Calls Tryz.prog 39 #[.pointer (some ⟨rb,0,none⟩),.int .i64 (n:Int)] w fun e w'=>BZ rb s (Za.clause true l) w e w':=by
 have HC:=af (Za.Db hk hT qd)
 have HQ:=af hk
 have I:=af (fun W (hW:St W rb s l [] (.slice none 0 0) e0)=>term_all 8 W rb s l [] (.slice none 0 0) e0 1 rfl hW)
 rw[hT]at I
 clear hT hk
 have hlt:=h.lt
 obtain⟨hS,hK,hB0,hBc⟩:=lJ h (.cells #[.int .i64 0,.int .i64 0,.string ⟨#[]⟩,.slice none 0 0,.slice none 0 0,.slice none 0 0] 78)
 have HS:=af hS
 have HK:=af hK
 have aY:=af hB0
 have HBc:=af hBc
 clear hS hK hB0 hBc h
 go_enter Tryz.func39,Tryz.ntmps39
 go_wp2_with fail
 refine(rD _ rb s l ns nv e0 n (ae HS) (ae HQ) hn).mono ?_
 rintro e w9 ⟨rfl,hw⟩
 rw[hw]
 clear hw w9
 generalize qQ:((w.alloc (.cells #[.int .i64 0,.int .i64 0,.string ⟨#[]⟩,.slice none 0 0,.slice none 0 0,.slice none 0 0] 78)).alloc (.cells #[.int .i64 0,.int .i64 0,.string ⟨#[]⟩,.slice none 0 0,.slice none 0 0,.slice none 0 0] 78))=w1 at*
 have f4:=(ae HS).rd.f4
 have c4:=(ae HS).rd.c4
 have nI:=(ae HS).lt
 have N:=af ((ae HS).uN)
 go_wp2_with fail
 clear f4 c4 nI qQ
 have df:=af ((ae HK).trans (ae N).2)
 have jI:=af (aG (ae aY) (show w.heap.size≠rb by omega) 4 (.slice none 0 0))
 have HBc1:=af (aG (ae HBc) (show w.heap.size+1≠rb by omega) 4 (.slice none 0 0))
 generalize w1.setCell ⟨rb,4,none⟩ (.slice none 0 0)=w2 at*
 refine(ae I _ (ae N).1).mono ?_
 rintro e w3 ⟨val,tx,ao,acap,ns3,nv3,e3,rfl,lY,hs3,hk3⟩
 have Iu:=af (show RA 8 (aV ns3) anyA w3 ⟨ak t.kind,val,tx,ao,t.args.length,acap⟩ t from (aN.refl w3).ra lY.rep)
 have P3:=af lY.nms
 clear lY
 have eM:=af hs3
 have eC:=af ((ae df).trans hk3)
 have dA:=af (aq hk3 (ae jI) (by simp;omega))
 have HBc3:=af (aq hk3 (ae HBc1) (by simp;omega))
 clear hs3 hk3
 generalize ak t.kind=k at*
 generalize t.args.length=an at*
 have rc:=ah (ae HBc3)
 have xc:=ay (ae HBc3)
 have zc:=ag (ae HBc3)
 have z0:=ag (ae dA)
 have P4:w.heap.size<w3.heap.size:=ag (ae dA)
 go_wp2_with fail
 clear rc xc zc z0
 have R:=af (bW (ae eM) (ae eC) hlt (show w.heap.size≤w.heap.size+1 by omega) (ae HBc3) (((((aC.refl _ _).set 0 (.int .i64 k)).set 1 (.int .i64 val)).set 2 (.string tx)).set 3 (.slice ao an acap)))
 have HBc4:=af (aB (Fw (.int .i64 k) (.int .i64 val) (.string tx) (.slice ao an acap) (ae HBc3)) (.cells #[.int .i64 k,.int .i64 val,.string tx,.slice ao an acap] 76))
 have qA:=af (aB (aG (aG (aG (aG (ae dA) (show w.heap.size≠w.heap.size+1 by omega) 0 (.int .i64 k)) (show w.heap.size≠w.heap.size+1 by omega) 1 (.int .i64 val)) (show w.heap.size≠w.heap.size+1 by omega) 2 (.string tx)) (show w.heap.size≠w.heap.size+1 by omega) 3 (.slice ao an acap)) (.cells #[.int .i64 k,.int .i64 val,.string tx,.slice ao an acap] 76))
 have iL:=af ((ae R).1.below ((Below.refl _ _).alloc (Nat.le_refl _) (.cells #[.int .i64 k,.int .i64 val,.string tx,.slice ao an acap] 76)))
 have jY:=af ((ae R).2.alloc (.cells #[.int .i64 k,.int .i64 val,.string tx,.slice ao an acap] 76))
 have P5:=af (((aU.px (ae HBc3) (((((aC.refl _ _).set 0 (.int .i64 k)).set 1 (.int .i64 val)).set 2 (.string tx)).set 3 (.slice ao an acap))).trans (aU.alloc _ (.cells #[.int .i64 k,.int .i64 val,.string tx,.slice ao an acap] 76))).a.ra (ae Iu))
 clear R dA HBc3 eM eC Iu
 generalize ((((w3.setCell ⟨w.heap.size+1,0,none⟩ (.int .i64 k)).setCell ⟨w.heap.size+1,1,none⟩ (.int .i64 val)).setCell ⟨w.heap.size+1,2,none⟩ (.string tx)).setCell ⟨w.heap.size+1,3,none⟩ (.slice ao an acap)).alloc (.cells #[.int .i64 k,.int .i64 val,.string tx,.slice ao an acap] 76)=w4 at*
 obtain⟨a,ha⟩:∃a:TV,a=⟨k,val,tx,ao,an,acap⟩:=⟨_,rfl⟩
 refine(bG _ rb s l1 ns3 nv3 e3 _ (ae iL)).mono ?_
 rintro e w9 ⟨rfl,hw⟩
 rw[hw]
 simp only[ByteArray.toList_mk]
 rw[qd]
 clear hw w9
 go_wp2_with fail
 refine(bG _ rb s l1 ns3 nv3 e3 _ (ae iL)).mono ?_
 rintro e w9 ⟨rfl,hw⟩
 rw[hw]
 simp only[ByteArray.toList_mk]
 clear hw w9
 cases hst:Za.sees l1 [46]
 ·have HF:=af (show Za.clause true l= .inl (2,(Za.hd l1).pos)by rw[ae HC,Za.Dv hst];rfl)
  go_wp2_with fail
  refine(dI _ rb s l1 ns3 nv3 e3 false (ae iL) (fun q=>by cases q)).mono ?_
  rintro e wz ⟨rfl,hsz,fM⟩
  have HSz:=af hsz
  have HKz:=af ((ae jY).trans fM)
  have HB0z:=af (aq fM (ae qA) (by simp;omega))
  have HBcz:=af (aq fM (ae HBc4) (by simp;omega))
  clear hsz fM
  have r0:=ah (ae HB0z)
  have x0:=ay (ae HB0z)
  have z0:=ag (ae HB0z)
  have rc:=ah (ae HBcz)
  have zc:=ag (ae HBcz)
  go_wp2_with fail
  refine bodyPost_ret (v:= .tuple #[.agg #[.int .i64 k,.int .i64 val,.string tx,.slice ao an acap,.slice none 0 0,.slice none 0 0],.bool false]) (by simp[results,Tryz.results39,go_sem,r0]) rfl ?_
  rw[ae HF]
  have R:=bW (ae HSz) (ae HKz) hlt (Nat.le_refl _) (ae HB0z) (((((((aC.refl _ _).set 0 (.int .i64 k)).set 1 (.int .i64 val)).set 2 (.string tx)).set 3 (.slice ao an acap)).set 4 (.slice none 0 0)).set 5 (.slice none 0 0))
  exact⟨⟨k,val,tx,ao,an,acap⟩,none,0,0,none,0,0,l1,ns3,nv3,rfl,R.1,rfl,R.2⟩
 ·have HF:=af (show Za.clause true l= .inr (_,l1.tail)by rw[ae HC,Za.AE hst])
  have bZ:=af (show (Za.hd l1).kind≠0 by rw[Za.cU hst];omega)
  go_wp2_with fail
  refine(dI _ rb s l1 ns3 nv3 e3 true (ae iL) (fun _=>ae bZ)).mono ?_
  rintro e wz ⟨rfl,hsz,fM⟩
  have HSz:=af hsz
  have HCLz:=af (eJ.fact ((aU.ka (ae iL) fM).a.ra (ae P5)) (ae P3))
  have HKz:=af ((ae jY).trans fM)
  have HB0z:=af (aq fM (ae qA) (by simp;omega))
  have HBcz:=af (aq fM (ae HBc4) (by simp;omega))
  clear hsz fM
  have r0:=ah (ae HB0z)
  have x0:=ay (ae HB0z)
  have z0:=ag (ae HB0z)
  have rc:=ah (ae HBcz)
  have zc:=ag (ae HBcz)
  go_wp2_with fail
  refine bodyPost_ret (v:= .tuple #[.agg #[.int .i64 k,.int .i64 val,.string tx,.slice ao an acap,.slice none 0 0,.slice none 0 0],.bool true]) (by simp[results,Tryz.results39,go_sem,r0]) rfl ?_
  rw[ae HF]
  have R:=bW (ae HSz) (ae HKz) hlt (Nat.le_refl _) (ae HB0z) (((((((aC.refl _ _).set 0 (.int .i64 k)).set 1 (.int .i64 val)).set 2 (.string tx)).set 3 (.slice ao an acap)).set 4 (.slice none 0 0)).set 5 (.slice none 0 0))
  exact⟨⟨k,val,tx,ao,an,acap⟩,none,0,0,none,0,0,ns3,nv3,e3,rfl,(ae HCLz).keep (aU.px (ae HB0z) (((((((aC.refl _ _).set 0 (.int .i64 k)).set 1 (.int .i64 val)).set 2 (.string tx)).set 3 (.slice ao an acap)).set 4 (.slice none 0 0)).set 5 (.slice none 0 0))),R.1,R.2⟩
theorem P6 (w:World) (rb:Nat) (s:ByteArray) (l:List Za.aj) (ns:List ByteArray) (nv:Value) (e0:Int) (n:Nat) (h:St w rb s l ns nv e0) (hk:(Za.hd l).kind=2) (hn:n<12) (t:Za.Tm) (l1:List Za.aj) (hT:Za.term 8 l= .inr (t,l1)) (qd:Za.sees l1 [58,45]=true) (er ps:Nat) (hI:Za.body l1.tail= .inl (er,ps)):
 Calls Tryz.prog 39 #[.pointer (some ⟨rb,0,none⟩),.int .i64 (n:Int)] w fun e w'=>BZ rb s (Za.clause true l) w e w':=by
 have HF:=af (show Za.clause true l= .inl (er,ps)from Za.Dc hk hT qd hI)
 have P7:=af (show (Za.hd l1).kind≠0 by rw[Za.cU qd];omega)
 have HI:=af hI
 clear hI
 have HQ:=af hk
 have I:=af (fun W (hW:St W rb s l [] (.slice none 0 0) e0)=>term_all 8 W rb s l [] (.slice none 0 0) e0 1 rfl hW)
 rw[hT]at I
 clear hT hk
 have hlt:=h.lt
 obtain⟨hS,hK,hB0,hBc⟩:=lJ h (.cells #[.int .i64 0,.int .i64 0,.string ⟨#[]⟩,.slice none 0 0,.slice none 0 0,.slice none 0 0] 78)
 have HS:=af hS
 have HK:=af hK
 have aY:=af hB0
 have HBc:=af hBc
 clear hS hK hB0 hBc h
 go_enter Tryz.func39,Tryz.ntmps39
 go_wp2_with fail
 refine(rD _ rb s l ns nv e0 n (ae HS) (ae HQ) hn).mono ?_
 rintro e w9 ⟨rfl,hw⟩
 rw[hw]
 clear hw w9
 generalize qQ:((w.alloc (.cells #[.int .i64 0,.int .i64 0,.string ⟨#[]⟩,.slice none 0 0,.slice none 0 0,.slice none 0 0] 78)).alloc (.cells #[.int .i64 0,.int .i64 0,.string ⟨#[]⟩,.slice none 0 0,.slice none 0 0,.slice none 0 0] 78))=w1 at*
 have f4:=(ae HS).rd.f4
 have c4:=(ae HS).rd.c4
 have nI:=(ae HS).lt
 have N:=af ((ae HS).uN)
 go_wp2_with fail
 clear f4 c4 nI qQ
 have df:=af ((ae HK).trans (ae N).2)
 have jI:=af (aG (ae aY) (show w.heap.size≠rb by omega) 4 (.slice none 0 0))
 have HBc1:=af (aG (ae HBc) (show w.heap.size+1≠rb by omega) 4 (.slice none 0 0))
 generalize w1.setCell ⟨rb,4,none⟩ (.slice none 0 0)=w2 at*
 refine(ae I _ (ae N).1).mono ?_
 rintro e w3 ⟨val,tx,ao,acap,ns3,nv3,e3,rfl,-,hs3,hk3⟩
 have eM:=af hs3
 have eC:=af ((ae df).trans hk3)
 have dA:=af (aq hk3 (ae jI) (by simp;omega))
 have HBc3:=af (aq hk3 (ae HBc1) (by simp;omega))
 clear hs3 hk3
 generalize ak t.kind=k at*
 generalize t.args.length=an at*
 have rc:=ah (ae HBc3)
 have xc:=ay (ae HBc3)
 have zc:=ag (ae HBc3)
 have z0:=ag (ae dA)
 have P4:w.heap.size<w3.heap.size:=ag (ae dA)
 go_wp2_with fail
 clear rc xc zc z0
 have R:=af (bW (ae eM) (ae eC) hlt (show w.heap.size≤w.heap.size+1 by omega) (ae HBc3) (((((aC.refl _ _).set 0 (.int .i64 k)).set 1 (.int .i64 val)).set 2 (.string tx)).set 3 (.slice ao an acap)))
 have HBc4:=af (aB (Fw (.int .i64 k) (.int .i64 val) (.string tx) (.slice ao an acap) (ae HBc3)) (.cells #[.int .i64 k,.int .i64 val,.string tx,.slice ao an acap] 76))
 have qA:=af (aB (aG (aG (aG (aG (ae dA) (show w.heap.size≠w.heap.size+1 by omega) 0 (.int .i64 k)) (show w.heap.size≠w.heap.size+1 by omega) 1 (.int .i64 val)) (show w.heap.size≠w.heap.size+1 by omega) 2 (.string tx)) (show w.heap.size≠w.heap.size+1 by omega) 3 (.slice ao an acap)) (.cells #[.int .i64 k,.int .i64 val,.string tx,.slice ao an acap] 76))
 have iL:=af ((ae R).1.below ((Below.refl _ _).alloc (Nat.le_refl _) (.cells #[.int .i64 k,.int .i64 val,.string tx,.slice ao an acap] 76)))
 have jY:=af ((ae R).2.alloc (.cells #[.int .i64 k,.int .i64 val,.string tx,.slice ao an acap] 76))
 clear R dA HBc3 eM eC
 generalize ((((w3.setCell ⟨w.heap.size+1,0,none⟩ (.int .i64 k)).setCell ⟨w.heap.size+1,1,none⟩ (.int .i64 val)).setCell ⟨w.heap.size+1,2,none⟩ (.string tx)).setCell ⟨w.heap.size+1,3,none⟩ (.slice ao an acap)).alloc (.cells #[.int .i64 k,.int .i64 val,.string tx,.slice ao an acap] 76)=w4 at*
 obtain⟨a,ha⟩:∃a:TV,a=⟨k,val,tx,ao,an,acap⟩:=⟨_,rfl⟩
 refine(bG _ rb s l1 ns3 nv3 e3 _ (ae iL)).mono ?_
 rintro e w9 ⟨rfl,hw⟩
 rw[hw]
 simp only[ByteArray.toList_mk]
 rw[qd]
 clear hw w9
 go_wp2_with fail
 refine(fP _ rb s l1 ns3 nv3 e3 (ae iL) (ae P7)).mono ?_
 rintro e w5 ⟨rfl,hs5,bZ⟩
 have iq:=af hs5
 have jv:=af ((ae jY).trans bZ)
 have kD:=af (aq bZ (ae qA) (by simp;omega))
 have HBc5:=af (aq bZ (ae HBc4) (by simp;omega))
 clear hs5 bZ iL jY qA HBc4
 have J:=af (BS w5 rb (w.heap.size+1) _ _ _ _ s l1.tail ns3 nv3 e3 (ae iq) (ae HBc5) (by omega) (by omega))
 rw[ae HI]at J
 go_wp2_with fail
 refine(ae J).mono ?_
 rintro e w6 ⟨l6,ns6,nv6,o1,n1,c1,o2,n2,c2,rfl,Iw,cu,gC,zq⟩
 have HP:=af cu
 clear cu
 have mG:=af Iw
 have ou:=af ((((ae jv).mono (Y:=[rb,w.heap.size+1]) (by simp)).trans zq).forget (X:=[rb]) (by simp))
 have wy:=af (aq zq (ae kD) (by simp;omega))
 have HBc6:=af gC
 clear Iw zq gC iq jv kD HBc5 J
 have r0:=ah (ae wy)
 have x0:=ay (ae wy)
 have z0:=ag (ae wy)
 have rc:=ah (ae HBc6)
 have zc:=ag (ae HBc6)
 go_wp2_with fail
 refine bodyPost_ret (v:= .tuple #[.agg #[.int .i64 k,.int .i64 val,.string tx,.slice ao an acap,.slice o1 n1 c1,.slice o2 n2 c2],.bool false]) (by simp[results,Tryz.results39,go_sem,r0]) rfl ?_
 rw[ae HF]
 have R:=bW (ae mG) (ae ou) hlt (Nat.le_refl _) (ae wy) (((((((aC.refl _ _).set 0 (.int .i64 k)).set 1 (.int .i64 val)).set 2 (.string tx)).set 3 (.slice ao an acap)).set 4 (.slice o1 n1 c1)).set 5 (.slice o2 n2 c2))
 exact⟨⟨k,val,tx,ao,an,acap⟩,o1,n1,c1,o2,n2,c2,l6,ns6,nv6,rfl,R.1,ae HP,R.2⟩
theorem KP (w:World) (rb:Nat) (s:ByteArray) (l:List Za.aj) (ns:List ByteArray) (nv:Value) (e0:Int) (n:Nat) (h:St w rb s l ns nv e0) (hk:(Za.hd l).kind=2) (hn:n<12) (t:Za.Tm) (l1:List Za.aj) (hT:Za.term 8 l= .inr (t,l1)) (qd:Za.sees l1 [58,45]=true) (tsg gsg:List Za.aH) (l2:List Za.aj) (hI:Za.body l1.tail= .inr ((tsg,gsg),l2)):
 Calls Tryz.prog 39 #[.pointer (some ⟨rb,0,none⟩),.int .i64 (n:Int)] w fun e w'=>BZ rb s (Za.clause true l) w e w':=by
 have HC:=af (Za.Dd hk hT qd hI)
 have P7:=af (show (Za.hd l1).kind≠0 by rw[Za.cU qd];omega)
 have HI:=af hI
 clear hI
 have HQ:=af hk
 have I:=af (fun W (hW:St W rb s l [] (.slice none 0 0) e0)=>term_all 8 W rb s l [] (.slice none 0 0) e0 1 rfl hW)
 rw[hT]at I
 clear hT hk
 have hlt:=h.lt
 obtain⟨hS,hK,hB0,hBc⟩:=lJ h (.cells #[.int .i64 0,.int .i64 0,.string ⟨#[]⟩,.slice none 0 0,.slice none 0 0,.slice none 0 0] 78)
 have HS:=af hS
 have HK:=af hK
 have aY:=af hB0
 have HBc:=af hBc
 clear hS hK hB0 hBc h
 go_enter Tryz.func39,Tryz.ntmps39
 go_wp2_with fail
 refine(rD _ rb s l ns nv e0 n (ae HS) (ae HQ) hn).mono ?_
 rintro e w9 ⟨rfl,hw⟩
 rw[hw]
 clear hw w9
 generalize qQ:((w.alloc (.cells #[.int .i64 0,.int .i64 0,.string ⟨#[]⟩,.slice none 0 0,.slice none 0 0,.slice none 0 0] 78)).alloc (.cells #[.int .i64 0,.int .i64 0,.string ⟨#[]⟩,.slice none 0 0,.slice none 0 0,.slice none 0 0] 78))=w1 at*
 have f4:=(ae HS).rd.f4
 have c4:=(ae HS).rd.c4
 have nI:=(ae HS).lt
 have N:=af ((ae HS).uN)
 go_wp2_with fail
 clear f4 c4 nI qQ
 have df:=af ((ae HK).trans (ae N).2)
 have jI:=af (aG (ae aY) (show w.heap.size≠rb by omega) 4 (.slice none 0 0))
 have HBc1:=af (aG (ae HBc) (show w.heap.size+1≠rb by omega) 4 (.slice none 0 0))
 generalize w1.setCell ⟨rb,4,none⟩ (.slice none 0 0)=w2 at*
 refine(ae I _ (ae N).1).mono ?_
 rintro e w3 ⟨val,tx,ao,acap,ns3,nv3,e3,rfl,lY,hs3,hk3⟩
 have Iu:=af (show RA 8 (aV ns3) anyA w3 ⟨ak t.kind,val,tx,ao,t.args.length,acap⟩ t from (aN.refl w3).ra lY.rep)
 have P3:=af lY.nms
 clear lY
 have eM:=af hs3
 have eC:=af ((ae df).trans hk3)
 have dA:=af (aq hk3 (ae jI) (by simp;omega))
 have HBc3:=af (aq hk3 (ae HBc1) (by simp;omega))
 clear hs3 hk3
 generalize ak t.kind=k at*
 generalize t.args.length=an at*
 have rc:=ah (ae HBc3)
 have xc:=ay (ae HBc3)
 have zc:=ag (ae HBc3)
 have z0:=ag (ae dA)
 have P4:w.heap.size<w3.heap.size:=ag (ae dA)
 go_wp2_with fail
 clear rc xc zc z0
 have R:=af (bW (ae eM) (ae eC) hlt (show w.heap.size≤w.heap.size+1 by omega) (ae HBc3) (((((aC.refl _ _).set 0 (.int .i64 k)).set 1 (.int .i64 val)).set 2 (.string tx)).set 3 (.slice ao an acap)))
 have HBc4:=af (aB (Fw (.int .i64 k) (.int .i64 val) (.string tx) (.slice ao an acap) (ae HBc3)) (.cells #[.int .i64 k,.int .i64 val,.string tx,.slice ao an acap] 76))
 have qA:=af (aB (aG (aG (aG (aG (ae dA) (show w.heap.size≠w.heap.size+1 by omega) 0 (.int .i64 k)) (show w.heap.size≠w.heap.size+1 by omega) 1 (.int .i64 val)) (show w.heap.size≠w.heap.size+1 by omega) 2 (.string tx)) (show w.heap.size≠w.heap.size+1 by omega) 3 (.slice ao an acap)) (.cells #[.int .i64 k,.int .i64 val,.string tx,.slice ao an acap] 76))
 have iL:=af ((ae R).1.below ((Below.refl _ _).alloc (Nat.le_refl _) (.cells #[.int .i64 k,.int .i64 val,.string tx,.slice ao an acap] 76)))
 have jY:=af ((ae R).2.alloc (.cells #[.int .i64 k,.int .i64 val,.string tx,.slice ao an acap] 76))
 have P5:=af (((aU.px (ae HBc3) (((((aC.refl _ _).set 0 (.int .i64 k)).set 1 (.int .i64 val)).set 2 (.string tx)).set 3 (.slice ao an acap))).trans (aU.alloc _ (.cells #[.int .i64 k,.int .i64 val,.string tx,.slice ao an acap] 76))).a.ra (ae Iu))
 clear R dA HBc3 eM eC Iu
 generalize ((((w3.setCell ⟨w.heap.size+1,0,none⟩ (.int .i64 k)).setCell ⟨w.heap.size+1,1,none⟩ (.int .i64 val)).setCell ⟨w.heap.size+1,2,none⟩ (.string tx)).setCell ⟨w.heap.size+1,3,none⟩ (.slice ao an acap)).alloc (.cells #[.int .i64 k,.int .i64 val,.string tx,.slice ao an acap] 76)=w4 at*
 obtain⟨a,ha⟩:∃a:TV,a=⟨k,val,tx,ao,an,acap⟩:=⟨_,rfl⟩
 refine(bG _ rb s l1 ns3 nv3 e3 _ (ae iL)).mono ?_
 rintro e w9 ⟨rfl,hw⟩
 rw[hw]
 simp only[ByteArray.toList_mk]
 rw[qd]
 clear hw w9
 go_wp2_with fail
 refine(fP _ rb s l1 ns3 nv3 e3 (ae iL) (ae P7)).mono ?_
 rintro e w5 ⟨rfl,hs5,bZ⟩
 have iq:=af hs5
 have WN:=af ((aU.ka (ae iL) bZ).a.ra (ae P5))
 have jv:=af ((ae jY).trans bZ)
 have kD:=af (aq bZ (ae qA) (by simp;omega))
 have HBc5:=af (aq bZ (ae HBc4) (by simp;omega))
 clear hs5 bZ iL jY qA HBc4
 have J:=af (BS w5 rb (w.heap.size+1) _ _ _ _ s l1.tail ns3 nv3 e3 (ae iq) (ae HBc5) (by omega) (by omega))
 rw[ae HI]at J
 go_wp2_with fail
 refine(ae J).mono ?_
 rintro e w6 ⟨ns6,nv6,e6,o1,n1,c1,o2,n2,c2,rfl,P8,Iw,gC,zq⟩
 have vK:=af (eJ.body ((aU.PK (ae iq) (ae HBc5) zq).a.ra (ae WN)) (ae P3) P8)
 clear P8
 have mG:=af Iw
 have ou:=af ((((ae jv).mono (Y:=[rb,w.heap.size+1]) (by simp)).trans zq).forget (X:=[rb]) (by simp))
 have wy:=af (aq zq (ae kD) (by simp;omega))
 have HBc6:=af gC
 clear Iw zq gC iq jv kD HBc5 J
 go_wp2_with fail
 refine(bG _ rb s l2 ns6 nv6 e6 _ (ae mG)).mono ?_
 rintro e w9 ⟨rfl,hw⟩
 rw[hw]
 simp only[ByteArray.toList_mk]
 clear hw w9
 cases hst:Za.sees l2 [46]
 ·have HF:=af (show Za.clause true l= .inl (2,(Za.hd l2).pos)by rw[ae HC,Za.Dv hst];rfl)
  go_wp2_with fail
  refine(dI _ rb s l2 ns6 nv6 e6 false (ae mG) (fun q=>by cases q)).mono ?_
  rintro e wz ⟨rfl,hsz,fM⟩
  have HSz:=af hsz
  have HKz:=af ((ae ou).trans fM)
  have HB0z:=af (aq fM (ae wy) (by simp;omega))
  have HBcz:=af (aq fM (ae HBc6) (by simp;omega))
  clear hsz fM
  have r0:=ah (ae HB0z)
  have x0:=ay (ae HB0z)
  have z0:=ag (ae HB0z)
  have rc:=ah (ae HBcz)
  have zc:=ag (ae HBcz)
  go_wp2_with fail
  refine bodyPost_ret (v:= .tuple #[.agg #[.int .i64 k,.int .i64 val,.string tx,.slice ao an acap,.slice o1 n1 c1,.slice o2 n2 c2],.bool false]) (by simp[results,Tryz.results39,go_sem,r0]) rfl ?_
  rw[ae HF]
  have R:=bW (ae HSz) (ae HKz) hlt (Nat.le_refl _) (ae HB0z) (((((((aC.refl _ _).set 0 (.int .i64 k)).set 1 (.int .i64 val)).set 2 (.string tx)).set 3 (.slice ao an acap)).set 4 (.slice o1 n1 c1)).set 5 (.slice o2 n2 c2))
  exact⟨⟨k,val,tx,ao,an,acap⟩,o1,n1,c1,o2,n2,c2,l2,ns6,nv6,rfl,R.1,rfl,R.2⟩
 ·have HF:=af (show Za.clause true l= .inr (_,l2.tail)by rw[ae HC,Za.AE hst])
  have bZ:=af (show (Za.hd l2).kind≠0 by rw[Za.cU hst];omega)
  go_wp2_with fail
  refine(dI _ rb s l2 ns6 nv6 e6 true (ae mG) (fun _=>ae bZ)).mono ?_
  rintro e wz ⟨rfl,hsz,fM⟩
  have HSz:=af hsz
  have HCLz:=af ((ae vK).keep (aU.ka (ae mG) fM))
  have HKz:=af ((ae ou).trans fM)
  have HB0z:=af (aq fM (ae wy) (by simp;omega))
  have HBcz:=af (aq fM (ae HBc6) (by simp;omega))
  clear hsz fM
  have r0:=ah (ae HB0z)
  have x0:=ay (ae HB0z)
  have z0:=ag (ae HB0z)
  have rc:=ah (ae HBcz)
  have zc:=ag (ae HBcz)
  go_wp2_with fail
  refine bodyPost_ret (v:= .tuple #[.agg #[.int .i64 k,.int .i64 val,.string tx,.slice ao an acap,.slice o1 n1 c1,.slice o2 n2 c2],.bool true]) (by simp[results,Tryz.results39,go_sem,r0]) rfl ?_
  rw[ae HF]
  have R:=bW (ae HSz) (ae HKz) hlt (Nat.le_refl _) (ae HB0z) (((((((aC.refl _ _).set 0 (.int .i64 k)).set 1 (.int .i64 val)).set 2 (.string tx)).set 3 (.slice ao an acap)).set 4 (.slice o1 n1 c1)).set 5 (.slice o2 n2 c2))
  exact⟨⟨k,val,tx,ao,an,acap⟩,o1,n1,c1,o2,n2,c2,ns6,nv6,e6,rfl,(ae HCLz).keep (aU.px (ae HB0z) (((((((aC.refl _ _).set 0 (.int .i64 k)).set 1 (.int .i64 val)).set 2 (.string tx)).set 3 (.slice ao an acap)).set 4 (.slice o1 n1 c1)).set 5 (.slice o2 n2 c2))),R.1,R.2⟩
theorem Fz (w:World) (rb:Nat) (s:ByteArray) (l:List Za.aj) (ns:List ByteArray) (nv:Value) (e0:Int) (n:Nat) (h:St w rb s l ns nv e0):
 Calls Tryz.prog 39 #[.pointer (some ⟨rb,0,none⟩),.int .i64 (n:Int)] w fun e w'=>BZ rb s (Za.clause (decide (n<12)) l) w e w':=by
 by_cases hk:(Za.hd l).kind=2
 ·by_cases hn:n<12
  ·rw[show decide (n<12)=true by simpa using hn]
   rcases hT:Za.term 8 l with⟨er,ps⟩ | ⟨t,l1⟩
   ·exact KN w rb s l ns nv e0 n h hk hn er ps hT
   ·cases qd:Za.sees l1 [58,45]
    ·exact KO w rb s l ns nv e0 n h hk hn t l1 hT qd
    ·rcases hI:Za.body l1.tail with⟨er,ps⟩ | ⟨⟨tsg,gsg⟩,l2⟩
     ·exact P6 w rb s l ns nv e0 n h hk hn t l1 hT qd er ps hI
     ·exact KP w rb s l ns nv e0 n h hk hn t l1 hT qd tsg gsg l2 hI
  ·rw[show decide (n<12)=false by simpa using hn]
   exact SQ w rb s l ns nv e0 n h hk (by omega)
 ·exact SP w rb s l ns nv e0 n h hk _
theorem Tryz.info78:(Tryz.prog.info? 78).map (fun i=>(i.zero,i.size,i.bytes))=some (some (.agg #[.int .i64 0,.int .i64 0,.string ⟨#[]⟩,.slice none 0 0,.slice none 0 0,.slice none 0 0]),6,104):=by kernel_rfl
theorem FC {w:World} {b:Nat} {e:TypeId} {sz:Nat} {v:Value} {n:Nat} {xs:List Value} (h:w.ownsRow b e sz v n xs):∃o cap,v= .slice o n cap:=by
 rcases h.2 with⟨q,rfl⟩ | ⟨g,cap,cur,q,_⟩
 ·exact⟨none,0,q⟩
 ·exact⟨some ⟨g,0,none⟩,cap,q⟩
theorem SS (a:TV) (o1 o2:Option Addr) (n1 c1 n2 c2:Nat):∀u∈([.int .i64 a.k,.int .i64 a.val,.string a.tx,.slice a.ao a.n a.cap,.slice o1 n1 c1,.slice o2 n2 c2]:List Value),u.oneCell'=true:=by
 simp[Value.oneCell']
theorem aU.grown {w w':World} {b0:Nat} {T:TypeId} {sz:Nat} {av:Value} {n:Nat} {xs:List Value} (ho:w.ownsRow b0 T sz av n xs) (hg:w.grownBy w' av.ownBlock) (hT:T≠76:=by decide) (hJ:T≠151:=by decide):aU w w':=
 ⟨aN.grown ho hg hT,fun g cs hc _=>(hg.block g (Array.getElem?_eq_some_iff.1 hc).1 (fun q=>by
  rcases ho.2 with⟨rfl,_⟩ | ⟨g',cap,cur,rfl,_,c,_⟩
  ·simp[Value.ownBlock]at q
  ·simp[Value.ownBlock]at q
   subst q
   rw[c]at hc;simp at hc;exact hJ hc.2)).trans hc⟩
structure QV where
 a:TV
 o1:Option Addr
 n1:Nat
 c1:Nat
 o2:Option Addr
 n2:Nat
 c2:Nat
def oz (v:QV):List Value:=[.int .i64 v.a.k,.int .i64 v.a.val,.string v.a.tx,.slice v.a.ao v.a.n v.a.cap,.slice v.o1 v.n1 v.c1,.slice v.o2 v.n2 v.c2]
theorem FD (vs:List QV):(vs.flatMap oz).length=vs.length*6:=by
 induction vs with
 | nil=>rfl
 | cons a r ih=>rw[List.flatMap_cons,List.length_append,ih];simp[oz];omega
def ym (w:World) (v:QV) (c:Za.aL):Prop:=eJ w v.a v.o1 v.n1 v.o2 v.n2 c
def tQ (w:World) (xs:List Value) (ys:List Za.aL):Prop:=∃vs:List QV,xs=vs.flatMap oz∧bR (ym w) vs ys
theorem tQ.keep {w w':World} {xs:List Value} {ys:List Za.aL} (h:tQ w xs ys) (hk:aU w w'):tQ w' xs ys:=by
 obtain⟨vs,rfl,ha⟩:=h
 exact⟨vs,rfl,ha.imp fun _ _ q=>eJ.keep q hk⟩
theorem tQ.snoc {w:World} {xs:List Value} {ys:List Za.aL} {v:QV} {x:Za.aL} (h:tQ w xs ys) (q:ym w v x):tQ w (xs++oz v) (ys++[x]):=by
 obtain⟨vs,rfl,ha⟩:=h
 exact⟨vs++[v],by simp,bR.snoc q ha⟩
def dh (w:World) (o:Option Addr) (n:Nat) (ys:List Za.aL):Prop:=n=ys.length∧(ys≠[]→∃(g:Nat) (vs:List QV) (cs:Array Value),o=some ⟨g,0,none⟩∧w.heap[g]?=some (.cells cs 78 (0,0))∧cs.toList.take (vs.length*6)=vs.flatMap oz∧bR (ym w) vs ys)
theorem dh.BO {w:World} {b0 n cap:Nat} {o:Option Addr} {xs:List Value} {ys:List Za.aL} (h:tQ w xs ys) (ho:w.ownsRow b0 78 6 (.slice o n cap) n xs):dh w o n ys:=by
 obtain⟨vs,rfl,ha⟩:=h
 have hl:=ho.1
 rw[FD]at hl
 have hl':=ha.length
 refine⟨by omega,fun hne=> ?_⟩
 rcases ho.2 with⟨q,h0⟩ | ⟨g',cap',cur,q,_,hc,_,_,_,ht⟩
 ·exact absurd (List.length_eq_zero_iff.1 (show ys.length=0 by omega)) hne
 ·simp only[Value.slice.injEq,true_and]at q
  obtain⟨rfl,rfl⟩:=q
  exact⟨g',vs,cur,rfl,hc,by rw[show vs.length=n by omega];exact ht,ha⟩
theorem dh.px {w w':World} {o:Option Addr} {n:Nat} {ys:List Za.aL} (h:dh w o n ys) {b:Nat} {C:Array Value} {T:TypeId} (hb:w.heap[b]?=some (.cells C T (0,0))) (ho:aC b w w') (hT:T≠76:=by decide) (hJ:T≠151:=by decide) (hC:T≠78:=by decide):dh w' o n ys:=
 ⟨h.1,fun q=>by
  obtain⟨g,vs,cs,h1,h2,h3,h4⟩:=h.2 q
  exact⟨g,vs,cs,h1,(ho.block g (fun e=>by subst e;rw[hb]at h2;simp at h2;exact hC h2.2)).trans h2,h3,h4.imp fun _ _ r=>eJ.keep r (aU.px hb ho hT hJ)⟩⟩
theorem KQ {w1:World} {s:ByteArray} {L:List Za.aj} (aW:dM w1) (h0:0<w1.heap.size) (hL:Za.dT s L) (hh:Za.hd L=Za.next s 0) (hl:L.length≤1000) (hs:s.size≤240):
 St (w1.alloc (.cells #[.string s,.int .i64 ((Za.next s 0).kind:Int),.int .i64 ((Za.next s 0).pos:Int),.string (Za.next s 0).text,.slice none 0 0,.int .i64 0] 73)) w1.heap.size s L [] (.slice none 0 0) 0:=by
 have hb:=heap_alloc_new w1 (.cells #[.string s,.int .i64 ((Za.next s 0).kind:Int),.int .i64 ((Za.next s 0).pos:Int),.string (Za.next s 0).text,.slice none 0 0,.int .i64 0] 73)
 have c:=ah hb
 have f:=ay hb
 exact⟨⟨by rw[c];rfl,by rw[c,hh];rfl,by rw[c,hh];rfl,by rw[c,hh];rfl,by rw[c];rfl,by rw[c];rfl,f 1,f 2,f 3,f 4,f 5⟩,World.ownsRow_nil _ _ _ _,hL,⟨0,hh⟩,by simpa using hl,hs,aW.below ((Below.refl _ _).alloc (Nat.le_refl _) _) h0,h0,by simp⟩
def LQ (w:World) (rb:Nat) (s:ByteArray) (L:List Za.aj) (k:Nat) (ov:Value) (wr:World):Prop:=
 ∃(n:Nat) (xs:List Value) (l:List Za.aj) (ns:List ByteArray) (nv:Value) (e:Int),St wr rb s l ns nv e∧Below w.heap.size w wr∧
  wr.heap[w.heap.size]?=some (.cells #[.slice none 0 0,.int .i64 0,.int .i64 0] 52 (0,0))∧
  wr.ownsRow (rb+1) 78 6 ov n xs∧n≤12∧k+n=13∧∃ys:List Za.aL,Za.prog 12 L=Za.vS ys (Za.prog (12 - n) l)∧tQ wr xs ys
theorem SU {w w5 w7:World} {rb:Nat} {s:ByteArray} {l:List Za.aj} {ns:List ByteArray} {nv:Value} {e:Int} {n:Nat} {av:Value} {xs:List Value} {X A Y:Obj}
 (hS:St w5 rb s l ns nv e) (hB:Below w.heap.size w w5) (hw:w.heap.size<rb) (hb:w5.heap[w.heap.size]?=some Y)
 (ho:w5.ownsRow (rb+1) 78 6 av n xs)
 (hg:((w5.alloc X).alloc A).grownBy w7 av.ownBlock):
 St w7 rb s l ns nv e∧Below w.heap.size w w7∧w7.heap[w.heap.size]?=some Y∧aU w5 w7:=by
 have hlt:=hS.lt
 have h1:Below (rb+1) w5 w7:=(((Below.refl _ _).alloc (by omega) X).alloc (by simp;omega) A).grown hg (by simp;omega) (fun k q=>(ho.lt k q).1)
 have bF:Below w5.heap.size w5 ((w5.alloc X).alloc A):=((Below.refl _ _).alloc (Nat.le_refl _) _).alloc (by simp) _
 have O3:∀k,av.ownBlock=some k→aP ((w5.alloc X).alloc A) k≠some 9:=fun k fI=>by
  have:=ho.lt k fI
  rcases ho.2 with⟨rfl,_⟩ | ⟨g,cap,cur,rfl,_,c,_⟩
  ·simp[Value.ownBlock]at fI
  ·simp[Value.ownBlock]at fI
   subst fI
   unfold aP;rw[bF.block g this.2,c];simp
 exact⟨(hS.below bF).grown hg (fun k q=>⟨by have:=(ho.lt k q).1;omega,O3 k q⟩),hB.trans (h1.mono (by omega)),(h1.block _ (by omega)).trans hb,((aU.alloc w5 X).trans (aU.alloc _ A)).trans (aU.grown ((ho.alloc X).alloc A) hg)⟩
def Ve (r:Za.dQ (List Za.aL)) (w:World) (e:Ending) (w':World):Prop:=
 ∃(o:Option Addr) (n c:Nat),e= .returned (.agg #[.slice o n c,.int .i64 (Za.ES r:Int),.int .i64 (Za.posOf r:Int)])∧(match r with | .inl _=>n=0 | .inr (ys,_)=>dh w' o n ys)∧Below w.heap.size w w'
theorem N6 (w:World) (s:ByteArray) (L:List Za.aj) (hs:s.size≤240) (hL:Za.dT s L) (hh:Za.hd L=Za.next s 0) (hl:L.length≤1000) (aW:dM w) (h0:0<w.heap.size):
 Calls Tryz.prog 26 #[.string s] w fun e w'=>Ve (Za.prog 12 L) w e w':=by
 obtain⟨ti,hi,hz0',KI,Fj⟩:=info_parts Tryz.info78
 have hsz:decide (240<(s.size:Int))=false:=by simp;omega
 have jJ:=af aW
 clear aW
 go_enter Tryz.func26,Tryz.ntmps26
 go_wp2_with fail
 refine(vT s 0 _ (by unfold maxLen;omega) (Nat.zero_le _) ((ae jJ).below ((Below.refl _ _).alloc (Nat.le_refl _) _) h0) (by simp)).mono ?_
 rintro e w1 ⟨rfl,hb1⟩
 have B0:=((ae jJ).below ((Below.refl _ _).alloc (Nat.le_refl _) (.cells #[.slice none 0 0,.int .i64 0,.int .i64 0] 52)) h0).below hb1 (by simp)
 have qQ:w.heap.size<w1.heap.size:=by have:=hb1.size;simp at this;omega
 have HL:=af (show LQ w w1.heap.size s L 13 (.slice none 0 0) (w1.alloc (.cells #[.string s,.int .i64 ((Za.next s 0).kind:Int),.int .i64 ((Za.next s 0).pos:Int),.string (Za.next s 0).text,.slice none 0 0,.int .i64 0] 73))from
  ⟨0,[],L,[],_,0,KQ B0 (by omega) hL hh hl hs,(((Below.refl _ _).alloc (Nat.le_refl _) _).trans (hb1.mono (by simp))).alloc (by omega) _,aB ((hb1.block w.heap.size (by simp)).trans (heap_alloc_new w _)) _,World.ownsRow_nil _ _ _ _,by omega,by omega,[],(Za.JN _).symm,[],rfl,trivial⟩)
 clear hb1 B0 jJ hL hh hl
 generalize (Za.next s 0).kind=tk at*
 generalize (Za.next s 0).pos=tp at*
 generalize (Za.next s 0).text=tt at*
 go_wp2_with fail
 generalize mA:w1.heap.size=rb at*
 go_loopg [4] 13 (fun k ov wr=>LQ w rb s L k ov wr)
 case atStart=>exact ae HL
 case round=>
  clear HL mA
  obtain⟨n,xs,l,ns,nv,e1,hS,hB,hb0,ho,Vf,WL,ys,BP,hrow⟩:=hrel
  have ld:=af hrow
  clear hrow
  obtain⟨oo,cp,rfl⟩:=FC ho
  have HS:=af hS
  have HB:=af hB
  have aY:=af hb0
  have HO:=af ho
  have tO:=af BP
  have c1:=hS.rd.c1
  have nI:=hS.lt
  have r0:=ah hb0
  have x0:=ay hb0
  have z0:=ag hb0
  clear hS hB hb0 ho BP
  by_cases fA:(Za.hd l).kind=0
  ·have HF:=af (show Za.prog 12 L= .inr (ys++[],l)by rw[ae tO,Za.JO fA];rfl)
   rw[fA]at c1
   clear fA
   go_wp2_with fail
   refine bodyPost_ret (v:= .agg #[.slice oo n cp,.int .i64 0,.int .i64 0]) (by simp[results,Tryz.results26,go_sem,r0]) rfl ?_
   rw[ae HF]
   have CC:=(dh.BO (ae ld) (ae HO))
   exact⟨_,_,_,rfl,by rw[List.append_nil];exact CC.px (ae aY) ((((aC.refl _ _).set 0 (.slice oo n cp)).set 1 (.int .i64 0)).set 2 (.int .i64 0)),(((ae HB).setCell (p:=⟨w.heap.size,0,none⟩) (Nat.le_refl _) _).setCell (p:=⟨w.heap.size,1,none⟩) (Nat.le_refl _) _).setCell (p:=⟨w.heap.size,2,none⟩) (Nat.le_refl _) _⟩
  ·have hq:(((Za.hd l).kind:Int) != 0)=true:=by simp;omega
   have H0:=af fA
   have I:=af (Fz wr rb s l ns nv e1 n (ae HS))
   generalize hC:Za.clause (decide (n<12)) l=r at I
   have HC:=af hC
   clear hC fA
   generalize ((Za.hd l).kind:Int)=q at*
   go_wp2_with fail
   refine(ae I).mono ?_
   clear c1 nI r0 x0 z0 hq
   rcases r with⟨er,pos⟩ | ⟨c,l1⟩
   ·rintro e w5 ⟨a,o1,n1,cc1,o2,n2,cc2,l',ns',nv',rfl,hs5,cu,bZ⟩
    subst cu
    have HF:=af (show Za.prog 12 L= .inl (er,(Za.hd l').pos)by rw[ae tO,Za.JP Vf (ae H0) (ae HC)];rfl)
    have bO:=af ((ae HB).trans (bZ.below (by have:=(ae HB).size;omega) (by omega) (by simp;omega)))
    have kD:=af (aq bZ (ae aY) (by simp;omega))
    have c2:=hs5.rd.c2
    have c5:=hs5.rd.c5
    have Vg:=hs5.lt
    have r0:=ah (ae kD)
    have x0:=ay (ae kD)
    have z0:=ag (ae kD)
    clear hs5 bZ
    go_wp2_with fail
    refine bodyPost_ret (v:= .agg #[.slice none 0 0,.int .i64 er,.int .i64 (Za.hd l').pos]) (by simp[results,Tryz.results26,go_sem,z0,r0]) rfl ?_
    rw[ae HF]
    exact⟨_,_,_,rfl,rfl,((((ae bO).setCell (p:=⟨w.heap.size,0,none⟩) (Nat.le_refl _) _).setCell (p:=⟨w.heap.size,1,none⟩) (Nat.le_refl _) _).setCell (p:=⟨w.heap.size,2,none⟩) (Nat.le_refl _) _).alloc (by simp;omega) _⟩
   ·rintro e w5 ⟨a,o1,n1,cc1,o2,n2,cc2,ns5,nv5,e5,rfl,gf,hs5,bZ⟩
    have Ao:=af (((ae ld).keep (aU.ka (ae HS) bZ)).snoc (v:=⟨a,o1,n1,cc1,o2,n2,cc2⟩) gf)
    clear gf
    have iq:=af hs5
    have bO:=af ((ae HB).trans (bZ.below (by have:=(ae HB).size;omega) (by omega) (by simp;omega)))
    have kD:=af (aq bZ (ae aY) (by simp;omega))
    have BQ:=af (sX (ae HO) bZ (by omega) (by decide))
    have Vg:=hs5.lt
    clear hs5 bZ
    go_wp2_with (first | (at_builtin;go_must (refine wpList_append_own _ rfl (.tmp 33) (.tmp 35) 50 rfl (rb+1) 78 ti (.agg #[.int .i64 0,.int .i64 0,.string ⟨#[]⟩,.slice none 0 0,.slice none 0 0,.slice none 0 0]) 6 104 Tryz.underlying50 hi hz0' KI Fj rfl (by decide) _ n xs rfl (((ae BQ).alloc _).alloc _) ⟨w5.heap.size+1,0,none⟩ 1 1 [.int .i64 a.k,.int .i64 a.val,.string a.tx,.slice a.ao a.n a.cap,.slice o1 n1 cc1,.slice o2 n2 cc2] rfl rfl (Fu _ _ _ _ _ (by simp) rfl) (SS a o1 o2 n1 cc1 n2 cc2) (by unfold maxLen;omega) (by omega) (by simp;omega) ?_);go_must (intro v' w7 hown' hgrow _;have Al:=af hown';have mF:=af (SU (ae iq) (ae bO) qQ (ae kD) (ae BQ) hgrow);clear hown' hgrow)))
    go_roundg (gk - 1)
    case measure=>omega
    case rel=>
     obtain⟨h12,hm⟩:=Za.Gz (ae H0) (ae HC)
     exact⟨n+1,_,l1,ns5,nv5,e5,(ae mF).1,(ae mF).2.1,(ae mF).2.2.1,ae Al,by omega,by omega,ys++[c],by rw[ae tO,hm,Za.Gy],(ae Ao).keep (ae mF).2.2.2⟩
end Go.Proofs.YthfjnfcekeknlaaGreatDoor
