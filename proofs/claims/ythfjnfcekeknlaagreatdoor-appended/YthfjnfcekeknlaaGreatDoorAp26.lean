import Derived.Test.YthfjnfcekeknlaaGreatDoorAp08
import Derived.Test.YthfjnfcekeknlaaGreatDoorAp23
set_option maxHeartbeats 8000000
set_option maxRecDepth 100000
namespace Go.Proofs.YthfjnfcekeknlaaGreatDoor
open Go.RowKit
theorem Ij (w:World) (rb:Nat) (s:ByteArray) (l:List Za.aj) (ns:List ByteArray) (nv:Value) (e0:Int) (n:Nat) (h:St w rb s l ns nv e0) (hk:(Za.hd l).kind≠2):
 Calls Tryz.prog 74 #[.pointer (some ⟨rb,0,none⟩),.int .i64 (n:Int)] w fun e w'=>e= .returned (.bool false)∧St w' rb s l ns nv 2∧KA rb [rb] w w':=by
 have H:=af h
 obtain⟨⟨c0,c1,c2,c3,c4,c5,f1,f2,f3,f4,f5⟩,own,chain,isn,few,short,signs,pos,lt⟩:=h
 clear own chain isn few short signs pos lt c0 c2 c3 c4 c5 f1 f2 f3 f4 f5
 have n2:(((Za.hd l).kind:Int) != 2)=true:=by simp;omega
 generalize (Za.hd l).kind=k at c1 n2
 clear hk
 go_enter Tryz.func74,Tryz.ntmps74
 go_wp2_with (go_at_call 82;refine(bX _ _ _ _ _ _ _ 2 (ae H)).mono ?_;rintro e w1 ⟨rfl,hs,hk⟩;have HS:=af hs;have HK:=af hk;clear hs hk)
 go_ret
 exact⟨rfl,ae HS,ae HK⟩
theorem Ik (w:World) (rb:Nat) (s:ByteArray) (l:List Za.aj) (ns:List ByteArray) (nv:Value) (e0:Int) (n:Nat) (h:St w rb s l ns nv e0) (hk:(Za.hd l).kind=2) (hn:12≤n):
 Calls Tryz.prog 74 #[.pointer (some ⟨rb,0,none⟩),.int .i64 (n:Int)] w fun e w'=>e= .returned (.bool false)∧St w' rb s l ns nv 3∧KA rb [rb] w w':=by
 have H:=af h
 obtain⟨⟨c0,c1,c2,c3,c4,c5,f1,f2,f3,f4,f5⟩,own,chain,isn,few,short,signs,pos,lt⟩:=h
 clear own chain isn few short signs pos lt c0 c2 c3 c4 c5 f1 f2 f3 f4 f5
 rw[hk]at c1
 have hN:decide (12≤(n:Int))=true:=by simp;omega
 clear hk
 go_enter Tryz.func74,Tryz.ntmps74
 go_wp2_with (go_at_call 82;refine(bX _ _ _ _ _ _ _ 3 (ae H)).mono ?_;rintro e w1 ⟨rfl,hs,hk⟩;have HS:=af hs;have HK:=af hk;clear hs hk)
 go_ret
 exact⟨rfl,ae HS,ae HK⟩
theorem rG (w:World) (rb:Nat) (s:ByteArray) (l:List Za.aj) (ns:List ByteArray) (nv:Value) (e0:Int) (n:Nat) (h:St w rb s l ns nv e0) (hk:(Za.hd l).kind=2) (hn:n<12):
 Calls Tryz.prog 74 #[.pointer (some ⟨rb,0,none⟩),.int .i64 (n:Int)] w fun e w'=>e= .returned (.bool true)∧w'=w:=by
 obtain⟨⟨c0,c1,c2,c3,c4,c5,f1,f2,f3,f4,f5⟩,own,chain,isn,few,short,signs,pos,lt⟩:=h
 clear own chain isn few short signs pos lt c0 c2 c3 c4 c5 f1 f2 f3 f4 f5
 rw[hk]at c1
 have hN:decide (12≤(n:Int))=false:=by simp;omega
 clear hk
 go_enter Tryz.func74,Tryz.ntmps74
 go_wp2
 go_ret
 exact⟨rfl,rfl⟩
theorem St.uM {w:World} {rb:Nat} {s:ByteArray} {l:List Za.aj} {ns:List ByteArray} {nv:Value} {e:Int} (h:St w rb s l ns nv e):St (w.setCell ⟨rb,4,none⟩ (.slice none 0 0)) rb s l [] (.slice none 0 0) e∧KA rb [rb] w (w.setCell ⟨rb,4,none⟩ (.slice none 0 0)):=by
 obtain⟨⟨c0,c1,c2,c3,c4,c5,f1,f2,f3,f4,f5⟩,own,chain,isn,few,short,signs,pos,lt⟩:=h
 refine⟨⟨⟨by go_cell,by go_cell,by go_cell,by go_cell,by go_cell,by go_cell,by go_cell,by go_cell,by go_cell,by go_cell,by go_cell⟩,World.ownsRow_nil _ _ _ _,chain,isn,by simp;omega,short,signs.setCell (by show rb≠0;omega) _,pos,by simpa using lt⟩,(KA.refl _ _ _).fD (by simp) _⟩
structure ej (w:World) (a:TV) (o1:Option Addr) (n1:Nat) (o2:Option Addr) (n2:Nat) (c:Za.aL):Prop where
 head:RA 8 (Za.NG c) anyA w a c.head
 tests:b6 (Za.NG c) w o1 n1 c.tests
 goals:b6 (Za.NG c) w o2 n2 c.goals
theorem ej.keep {w w':World} {a:TV} {o1:Option Addr} {n1:Nat} {o2:Option Addr} {n2:Nat} {c:Za.aL} (h:ej w a o1 n1 o2 n2 c) (hk:aT w w'):ej w' a o1 n1 o2 n2 c:=⟨hk.a.ra h.head,h.tests.keep hk,h.goals.keep hk⟩
theorem ej.fact {ns':List ByteArray} {w:World} {a:TV} {t:Za.Tm} (h:RA 8 (aU ns') anyA w a t) (hn:aU ns'=Za.namesF 8 (aU []) t):ej w a none 0 none 0 ⟨t,[],[]⟩:=
 ⟨by rw[hn]at h;exact h,b6.none _ _,b6.none _ _⟩
theorem ej.body {ns ns':List ByteArray} {w:World} {a:TV} {o1:Option Addr} {n1:Nat} {o2:Option Addr} {n2:Nat} {t:Za.Tm} {xs ys:List Za.aH} (h:RA 8 (aU ns) anyA w a t) (hn:aU ns=Za.namesF 8 (aU []) t) (hb:PL ns ns' w o1 n1 o2 n2 (xs,ys)):ej w a o1 n1 o2 n2 ⟨t,xs,ys⟩:=by
 obtain⟨h1,h2,h3⟩:=hb
 have e:aU ns'=Za.NG ⟨t,xs,ys⟩:=by rw[h3,hn];rfl
 obtain⟨M,hM,_⟩:=Za.sY xs h1.ok (aU ns)
 obtain⟨K,hK,_⟩:=Za.sY ys h2.ok (xs.foldl Za.aP (aU ns))
 have e2:aU ns'=aU ns++(M++K):=by
  rw[h3]
  unfold Za.aC
  dsimp only
  rw[hK,hM,List.append_assoc]
 have h':=h.more (M++K)
 rw[←e2,e]at h'
 rw[e]at h1 h2
 exact⟨h',h1,h2⟩
def B5 (rb:Nat) (s:ByteArray) (r:Za.dM Za.aL) (w:World) (e:Ending) (w':World):Prop:=match r with
 | .inl (er,pos)=>∃(a:TV) (o1:Option Addr) (n1 c1:Nat) (o2:Option Addr) (n2 c2:Nat) (l':List Za.aj) (ns':List ByteArray) (nv':Value),
  e= .returned (.tuple #[.agg #[.int .i64 a.k,.int .i64 a.val,.string a.tx,.slice a.ao a.n a.cap,.slice o1 n1 c1,.slice o2 n2 c2],.bool false])∧St w' rb s l' ns' nv' (er:Int)∧(Za.hd l').pos=pos∧KA rb [rb] w w'
 | .inr (c,l1)=>∃(a:TV) (o1:Option Addr) (n1 c1:Nat) (o2:Option Addr) (n2 c2:Nat) (ns':List ByteArray) (nv':Value) (e':Int),
  e= .returned (.tuple #[.agg #[.int .i64 a.k,.int .i64 a.val,.string a.tx,.slice a.ao a.n a.cap,.slice o1 n1 c1,.slice o2 n2 c2],.bool true])∧ej w' a o1 n1 o2 n2 c∧St w' rb s l1 ns' nv' e'∧KA rb [rb] w w'
theorem lC {w:World} {rb:Nat} {s:ByteArray} {l:List Za.aj} {ns:List ByteArray} {nv:Value} {e:Int} (h:St w rb s l ns nv e) (o:Obj):
 St ((w.alloc o).alloc o) rb s l ns nv e∧KA rb [rb] w ((w.alloc o).alloc o)∧((w.alloc o).alloc o).heap[w.heap.size]?=some o∧((w.alloc o).alloc o).heap[w.heap.size+1]?=some o:=
 ⟨h.below (((Below.refl _ _).alloc (Nat.le_refl _) _).alloc (by simp) _),((KA.refl rb [rb] w).alloc _).alloc _,aB (heap_alloc_new w o) _,by have:=heap_alloc_new (w.alloc o) o;rw[World.size_alloc]at this;exact this⟩
theorem SH (w:World) (rb:Nat) (s:ByteArray) (l:List Za.aj) (ns:List ByteArray) (nv:Value) (e0:Int) (n:Nat) (h:St w rb s l ns nv e0) (hk:(Za.hd l).kind≠2) (more:Bool):
 Calls Tryz.prog 39 #[.pointer (some ⟨rb,0,none⟩),.int .i64 (n:Int)] w fun e w'=>B5 rb s (Za.clause more l) w e w':=by
 have HF:=af (show Za.clause more l= .inl (2,(Za.hd l).pos)by rw[Za.Df hk];rfl)
 have HQ:=af hk
 clear hk
 have hlt:=h.lt
 obtain⟨hS,hK,hB0,hBc⟩:=lC h (.cells #[.int .i64 0,.int .i64 0,.string ⟨#[]⟩,.slice none 0 0,.slice none 0 0,.slice none 0 0] 78)
 have HS:=af hS
 have HK:=af hK
 have aX:=af hB0
 have HBc:=af hBc
 clear hS hK hB0 hBc h
 go_enter Tryz.func39,Tryz.ntmps39
 go_wp2_with fail
 refine(Ij _ rb s l ns nv e0 n (ae HS) (ae HQ)).mono ?_
 rintro e w1 ⟨rfl,hs1,fh⟩
 have bE:=af hs1
 have cO:=af ((ae HK).trans fh)
 have jF:=af (aq fh (ae aX) (by simp;omega))
 have HBc1:=af (aq fh (ae HBc) (by simp;omega))
 clear hs1 fh
 obtain⟨a,ha⟩:∃a:TV,a=⟨0,0,⟨#[]⟩,none,0,0⟩:=⟨_,rfl⟩
 have r0:=ah (ae jF)
 have x0:=ay (ae jF)
 have z0:=ag (ae jF)
 have rc:=ah (ae HBc1)
 have zc:=ag (ae HBc1)
 go_wp2_with fail
 refine bodyPost_ret (v:= .tuple #[.agg #[.int .i64 0,.int .i64 0,.string ⟨#[]⟩,.slice none 0 0,.slice none 0 0,.slice none 0 0],.bool false]) (by simp[results,Tryz.results39,go_sem,r0]) rfl ?_
 rw[ae HF]
 have R:=bS (ae bE) (ae cO) hlt (Nat.le_refl _) (ae jF) (((((((aD.refl _ _).set 0 (.int .i64 a.k)).set 1 (.int .i64 a.val)).set 2 (.string a.tx)).set 3 (.slice a.ao a.n a.cap)).set 4 (.slice none 0 0)).set 5 (.slice none 0 0))
 exact⟨a,none,0,0,none,0,0,l,ns,nv,by rw[ha],by rw[ha]at R;exact R.1,rfl,by rw[ha]at R;exact R.2⟩
theorem SI (w:World) (rb:Nat) (s:ByteArray) (l:List Za.aj) (ns:List ByteArray) (nv:Value) (e0:Int) (n:Nat) (h:St w rb s l ns nv e0) (hk:(Za.hd l).kind=2) (hn:12≤n):
 Calls Tryz.prog 39 #[.pointer (some ⟨rb,0,none⟩),.int .i64 (n:Int)] w fun e w'=>B5 rb s (Za.clause false l) w e w':=by
 have HF:=af (show Za.clause false l= .inl (3,(Za.hd l).pos)by rw[Za.Dg hk];rfl)
 have HQ:=af hk
 clear hk
 have hlt:=h.lt
 obtain⟨hS,hK,hB0,hBc⟩:=lC h (.cells #[.int .i64 0,.int .i64 0,.string ⟨#[]⟩,.slice none 0 0,.slice none 0 0,.slice none 0 0] 78)
 have HS:=af hS
 have HK:=af hK
 have aX:=af hB0
 have HBc:=af hBc
 clear hS hK hB0 hBc h
 go_enter Tryz.func39,Tryz.ntmps39
 go_wp2_with fail
 refine(Ik _ rb s l ns nv e0 n (ae HS) (ae HQ) hn).mono ?_
 rintro e w1 ⟨rfl,hs1,fh⟩
 have bE:=af hs1
 have cO:=af ((ae HK).trans fh)
 have jF:=af (aq fh (ae aX) (by simp;omega))
 have HBc1:=af (aq fh (ae HBc) (by simp;omega))
 clear hs1 fh
 obtain⟨a,ha⟩:∃a:TV,a=⟨0,0,⟨#[]⟩,none,0,0⟩:=⟨_,rfl⟩
 have r0:=ah (ae jF)
 have x0:=ay (ae jF)
 have z0:=ag (ae jF)
 have rc:=ah (ae HBc1)
 have zc:=ag (ae HBc1)
 go_wp2_with fail
 refine bodyPost_ret (v:= .tuple #[.agg #[.int .i64 0,.int .i64 0,.string ⟨#[]⟩,.slice none 0 0,.slice none 0 0,.slice none 0 0],.bool false]) (by simp[results,Tryz.results39,go_sem,r0]) rfl ?_
 rw[ae HF]
 have R:=bS (ae bE) (ae cO) hlt (Nat.le_refl _) (ae jF) (((((((aD.refl _ _).set 0 (.int .i64 a.k)).set 1 (.int .i64 a.val)).set 2 (.string a.tx)).set 3 (.slice a.ao a.n a.cap)).set 4 (.slice none 0 0)).set 5 (.slice none 0 0))
 exact⟨a,none,0,0,none,0,0,l,ns,nv,by rw[ha],by rw[ha]at R;exact R.1,rfl,by rw[ha]at R;exact R.2⟩
theorem KM (w:World) (rb:Nat) (s:ByteArray) (l:List Za.aj) (ns:List ByteArray) (nv:Value) (e0:Int) (n:Nat) (h:St w rb s l ns nv e0) (hk:(Za.hd l).kind=2) (hn:n<12) (er ps:Nat) (hT:Za.term 8 l= .inl (er,ps)):
 Calls Tryz.prog 39 #[.pointer (some ⟨rb,0,none⟩),.int .i64 (n:Int)] w fun e w'=>B5 rb s (Za.clause true l) w e w':=by
 have HF:=af (show Za.clause true l= .inl (er,ps)from Za.EP hk hT)
 have HQ:=af hk
 have I:=af (fun W (hW:St W rb s l [] (.slice none 0 0) e0)=>term_all 8 W rb s l [] (.slice none 0 0) e0 1 rfl hW)
 rw[hT]at I
 clear hT hk
 have hlt:=h.lt
 obtain⟨hS,hK,hB0,hBc⟩:=lC h (.cells #[.int .i64 0,.int .i64 0,.string ⟨#[]⟩,.slice none 0 0,.slice none 0 0,.slice none 0 0] 78)
 have HS:=af hS
 have HK:=af hK
 have aX:=af hB0
 have HBc:=af hBc
 clear hS hK hB0 hBc h
 go_enter Tryz.func39,Tryz.ntmps39
 go_wp2_with fail
 refine(rG _ rb s l ns nv e0 n (ae HS) (ae HQ) hn).mono ?_
 rintro e w9 ⟨rfl,hw⟩
 rw[hw]
 clear hw w9
 generalize qT:((w.alloc (.cells #[.int .i64 0,.int .i64 0,.string ⟨#[]⟩,.slice none 0 0,.slice none 0 0,.slice none 0 0] 78)).alloc (.cells #[.int .i64 0,.int .i64 0,.string ⟨#[]⟩,.slice none 0 0,.slice none 0 0,.slice none 0 0] 78))=w1 at*
 have f4:=(ae HS).rd.f4
 have c4:=(ae HS).rd.c4
 have nE:=(ae HS).lt
 have N:=af ((ae HS).uM)
 go_wp2_with fail
 clear f4 c4 nE qT
 have cO:=af ((ae HK).trans (ae N).2)
 have jF:=af (aG (ae aX) (show w.heap.size≠rb by omega) 4 (.slice none 0 0))
 have HBc1:=af (aG (ae HBc) (show w.heap.size+1≠rb by omega) 4 (.slice none 0 0))
 generalize w1.setCell ⟨rb,4,none⟩ (.slice none 0 0)=w2 at*
 refine(ae I _ (ae N).1).mono ?_
 rintro e w3 ⟨k,val,tx,ao,an,acap,l',ns',nv',rfl,hs3,cq,hk3⟩
 obtain⟨a,ha⟩:∃a:TV,a=⟨k,val,tx,ao,an,acap⟩:=⟨_,rfl⟩
 have eo:=af hs3
 have HP:=af cq
 have dK:=af ((ae cO).trans hk3)
 have dt:=af (aq hk3 (ae jF) (by simp;omega))
 have HBc3:=af (aq hk3 (ae HBc1) (by simp;omega))
 clear hs3 cq hk3
 have r0:=ah (ae dt)
 have x0:=ay (ae dt)
 have z0:=ag (ae dt)
 have rc:=ah (ae HBc3)
 have xc:=ay (ae HBc3)
 have zc:=ag (ae HBc3)
 go_wp2_with fail
 refine bodyPost_ret (v:= .tuple #[.agg #[.int .i64 k,.int .i64 val,.string tx,.slice ao an acap,.slice none 0 0,.slice none 0 0],.bool false]) (by simp[results,Tryz.results39,go_sem,z0,r0]) rfl ?_
 rw[ae HF]
 have R:=bS (ae eo) (ae dK) hlt (show w.heap.size≤w.heap.size+1 by omega) (ae HBc3) (((((aD.refl _ _).set 0 (.int .i64 k)).set 1 (.int .i64 val)).set 2 (.string tx)).set 3 (.slice ao an acap))
 have qx:=aG (aG (aG (aG (ae dt) (show w.heap.size≠w.heap.size+1 by omega) 0 (.int .i64 k)) (show w.heap.size≠w.heap.size+1 by omega) 1 (.int .i64 val)) (show w.heap.size≠w.heap.size+1 by omega) 2 (.string tx)) (show w.heap.size≠w.heap.size+1 by omega) 3 (.slice ao an acap)
 have R2:=bS R.1 R.2 hlt (Nat.le_refl _) qx (((((((aD.refl _ _).set 0 (.int .i64 k)).set 1 (.int .i64 val)).set 2 (.string tx)).set 3 (.slice ao an acap)).set 4 (.slice none 0 0)).set 5 (.slice none 0 0))
 exact⟨⟨k,val,tx,ao,an,acap⟩,none,0,0,none,0,0,l',ns',nv',rfl,R2.1.below ((Below.refl _ _).alloc (Nat.le_refl _) _),ae HP,R2.2.alloc _⟩
theorem KN (w:World) (rb:Nat) (s:ByteArray) (l:List Za.aj) (ns:List ByteArray) (nv:Value) (e0:Int) (n:Nat) (h:St w rb s l ns nv e0) (hk:(Za.hd l).kind=2) (hn:n<12) (t:Za.Tm) (l1:List Za.aj) (hT:Za.term 8 l= .inr (t,l1)) (p7:Za.sees l1 [58,45]=false):
 Calls Tryz.prog 39 #[.pointer (some ⟨rb,0,none⟩),.int .i64 (n:Int)] w fun e w'=>B5 rb s (Za.clause true l) w e w':=by
 have HC:=af (Za.Dh hk hT p7)
 have HQ:=af hk
 have I:=af (fun W (hW:St W rb s l [] (.slice none 0 0) e0)=>term_all 8 W rb s l [] (.slice none 0 0) e0 1 rfl hW)
 rw[hT]at I
 clear hT hk
 have hlt:=h.lt
 obtain⟨hS,hK,hB0,hBc⟩:=lC h (.cells #[.int .i64 0,.int .i64 0,.string ⟨#[]⟩,.slice none 0 0,.slice none 0 0,.slice none 0 0] 78)
 have HS:=af hS
 have HK:=af hK
 have aX:=af hB0
 have HBc:=af hBc
 clear hS hK hB0 hBc h
 go_enter Tryz.func39,Tryz.ntmps39
 go_wp2_with fail
 refine(rG _ rb s l ns nv e0 n (ae HS) (ae HQ) hn).mono ?_
 rintro e w9 ⟨rfl,hw⟩
 rw[hw]
 clear hw w9
 generalize qT:((w.alloc (.cells #[.int .i64 0,.int .i64 0,.string ⟨#[]⟩,.slice none 0 0,.slice none 0 0,.slice none 0 0] 78)).alloc (.cells #[.int .i64 0,.int .i64 0,.string ⟨#[]⟩,.slice none 0 0,.slice none 0 0,.slice none 0 0] 78))=w1 at*
 have f4:=(ae HS).rd.f4
 have c4:=(ae HS).rd.c4
 have nE:=(ae HS).lt
 have N:=af ((ae HS).uM)
 go_wp2_with fail
 clear f4 c4 nE qT
 have cO:=af ((ae HK).trans (ae N).2)
 have jF:=af (aG (ae aX) (show w.heap.size≠rb by omega) 4 (.slice none 0 0))
 have HBc1:=af (aG (ae HBc) (show w.heap.size+1≠rb by omega) 4 (.slice none 0 0))
 generalize w1.setCell ⟨rb,4,none⟩ (.slice none 0 0)=w2 at*
 refine(ae I _ (ae N).1).mono ?_
 rintro e w3 ⟨val,tx,ao,acap,ns3,nv3,e3,rfl,lS,hs3,hk3⟩
 have Il:=af (show RA 8 (aU ns3) anyA w3 ⟨ak t.kind,val,tx,ao,t.args.length,acap⟩ t from (aN.refl w3).ra lS.rep)
 have PW:=af lS.nms
 clear lS
 have eo:=af hs3
 have dK:=af ((ae cO).trans hk3)
 have dt:=af (aq hk3 (ae jF) (by simp;omega))
 have HBc3:=af (aq hk3 (ae HBc1) (by simp;omega))
 clear hs3 hk3
 generalize ak t.kind=k at*
 generalize t.args.length=an at*
 have rc:=ah (ae HBc3)
 have xc:=ay (ae HBc3)
 have zc:=ag (ae HBc3)
 have z0:=ag (ae dt)
 have PX:w.heap.size<w3.heap.size:=ag (ae dt)
 go_wp2_with fail
 clear rc xc zc z0
 have R:=af (bS (ae eo) (ae dK) hlt (show w.heap.size≤w.heap.size+1 by omega) (ae HBc3) (((((aD.refl _ _).set 0 (.int .i64 k)).set 1 (.int .i64 val)).set 2 (.string tx)).set 3 (.slice ao an acap)))
 have HBc4:=af (aB (Fv (.int .i64 k) (.int .i64 val) (.string tx) (.slice ao an acap) (ae HBc3)) (.cells #[.int .i64 k,.int .i64 val,.string tx,.slice ao an acap] 76))
 have qx:=af (aB (aG (aG (aG (aG (ae dt) (show w.heap.size≠w.heap.size+1 by omega) 0 (.int .i64 k)) (show w.heap.size≠w.heap.size+1 by omega) 1 (.int .i64 val)) (show w.heap.size≠w.heap.size+1 by omega) 2 (.string tx)) (show w.heap.size≠w.heap.size+1 by omega) 3 (.slice ao an acap)) (.cells #[.int .i64 k,.int .i64 val,.string tx,.slice ao an acap] 76))
 have iH:=af ((ae R).1.below ((Below.refl _ _).alloc (Nat.le_refl _) (.cells #[.int .i64 k,.int .i64 val,.string tx,.slice ao an acap] 76)))
 have jT:=af ((ae R).2.alloc (.cells #[.int .i64 k,.int .i64 val,.string tx,.slice ao an acap] 76))
 have PY:=af (((aT.o6 (ae HBc3) (((((aD.refl _ _).set 0 (.int .i64 k)).set 1 (.int .i64 val)).set 2 (.string tx)).set 3 (.slice ao an acap))).trans (aT.alloc _ (.cells #[.int .i64 k,.int .i64 val,.string tx,.slice ao an acap] 76))).a.ra (ae Il))
 clear R dt HBc3 eo dK Il
 generalize ((((w3.setCell ⟨w.heap.size+1,0,none⟩ (.int .i64 k)).setCell ⟨w.heap.size+1,1,none⟩ (.int .i64 val)).setCell ⟨w.heap.size+1,2,none⟩ (.string tx)).setCell ⟨w.heap.size+1,3,none⟩ (.slice ao an acap)).alloc (.cells #[.int .i64 k,.int .i64 val,.string tx,.slice ao an acap] 76)=w4 at*
 obtain⟨a,ha⟩:∃a:TV,a=⟨k,val,tx,ao,an,acap⟩:=⟨_,rfl⟩
 refine(bC _ rb s l1 ns3 nv3 e3 _ (ae iH)).mono ?_
 rintro e w9 ⟨rfl,hw⟩
 rw[hw]
 simp only[ByteArray.toList_mk]
 rw[p7]
 clear hw w9
 go_wp2_with fail
 refine(bC _ rb s l1 ns3 nv3 e3 _ (ae iH)).mono ?_
 rintro e w9 ⟨rfl,hw⟩
 rw[hw]
 simp only[ByteArray.toList_mk]
 clear hw w9
 cases hst:Za.sees l1 [46]
 ·have HF:=af (show Za.clause true l= .inl (2,(Za.hd l1).pos)by rw[ae HC,Za.Dz hst];rfl)
  go_wp2_with fail
  refine(dF _ rb s l1 ns3 nv3 e3 false (ae iH) (fun q=>by cases q)).mono ?_
  rintro e wz ⟨rfl,hsz,fH⟩
  have HSz:=af hsz
  have HKz:=af ((ae jT).trans fH)
  have HB0z:=af (aq fH (ae qx) (by simp;omega))
  have HBcz:=af (aq fH (ae HBc4) (by simp;omega))
  clear hsz fH
  have r0:=ah (ae HB0z)
  have x0:=ay (ae HB0z)
  have z0:=ag (ae HB0z)
  have rc:=ah (ae HBcz)
  have zc:=ag (ae HBcz)
  go_wp2_with fail
  refine bodyPost_ret (v:= .tuple #[.agg #[.int .i64 k,.int .i64 val,.string tx,.slice ao an acap,.slice none 0 0,.slice none 0 0],.bool false]) (by simp[results,Tryz.results39,go_sem,r0]) rfl ?_
  rw[ae HF]
  have R:=bS (ae HSz) (ae HKz) hlt (Nat.le_refl _) (ae HB0z) (((((((aD.refl _ _).set 0 (.int .i64 k)).set 1 (.int .i64 val)).set 2 (.string tx)).set 3 (.slice ao an acap)).set 4 (.slice none 0 0)).set 5 (.slice none 0 0))
  exact⟨⟨k,val,tx,ao,an,acap⟩,none,0,0,none,0,0,l1,ns3,nv3,rfl,R.1,rfl,R.2⟩
 ·have HF:=af (show Za.clause true l= .inr (_,l1.tail)by rw[ae HC,Za.AP hst])
  have bV:=af (show (Za.hd l1).kind≠0 by rw[Za.cT hst];omega)
  go_wp2_with fail
  refine(dF _ rb s l1 ns3 nv3 e3 true (ae iH) (fun _=>ae bV)).mono ?_
  rintro e wz ⟨rfl,hsz,fH⟩
  have HSz:=af hsz
  have HCLz:=af (ej.fact ((aT.ka (ae iH) fH).a.ra (ae PY)) (ae PW))
  have HKz:=af ((ae jT).trans fH)
  have HB0z:=af (aq fH (ae qx) (by simp;omega))
  have HBcz:=af (aq fH (ae HBc4) (by simp;omega))
  clear hsz fH
  have r0:=ah (ae HB0z)
  have x0:=ay (ae HB0z)
  have z0:=ag (ae HB0z)
  have rc:=ah (ae HBcz)
  have zc:=ag (ae HBcz)
  go_wp2_with fail
  refine bodyPost_ret (v:= .tuple #[.agg #[.int .i64 k,.int .i64 val,.string tx,.slice ao an acap,.slice none 0 0,.slice none 0 0],.bool true]) (by simp[results,Tryz.results39,go_sem,r0]) rfl ?_
  rw[ae HF]
  have R:=bS (ae HSz) (ae HKz) hlt (Nat.le_refl _) (ae HB0z) (((((((aD.refl _ _).set 0 (.int .i64 k)).set 1 (.int .i64 val)).set 2 (.string tx)).set 3 (.slice ao an acap)).set 4 (.slice none 0 0)).set 5 (.slice none 0 0))
  exact⟨⟨k,val,tx,ao,an,acap⟩,none,0,0,none,0,0,ns3,nv3,e3,rfl,(ae HCLz).keep (aT.o6 (ae HB0z) (((((((aD.refl _ _).set 0 (.int .i64 k)).set 1 (.int .i64 val)).set 2 (.string tx)).set 3 (.slice ao an acap)).set 4 (.slice none 0 0)).set 5 (.slice none 0 0))),R.1,R.2⟩
theorem PZ (w:World) (rb:Nat) (s:ByteArray) (l:List Za.aj) (ns:List ByteArray) (nv:Value) (e0:Int) (n:Nat) (h:St w rb s l ns nv e0) (hk:(Za.hd l).kind=2) (hn:n<12) (t:Za.Tm) (l1:List Za.aj) (hT:Za.term 8 l= .inr (t,l1)) (p7:Za.sees l1 [58,45]=true) (er ps:Nat) (hI:Za.body l1.tail= .inl (er,ps)):
 Calls Tryz.prog 39 #[.pointer (some ⟨rb,0,none⟩),.int .i64 (n:Int)] w fun e w'=>B5 rb s (Za.clause true l) w e w':=by
 have HF:=af (show Za.clause true l= .inl (er,ps)from Za.Di hk hT p7 hI)
 have P0:=af (show (Za.hd l1).kind≠0 by rw[Za.cT p7];omega)
 have HI:=af hI
 clear hI
 have HQ:=af hk
 have I:=af (fun W (hW:St W rb s l [] (.slice none 0 0) e0)=>term_all 8 W rb s l [] (.slice none 0 0) e0 1 rfl hW)
 rw[hT]at I
 clear hT hk
 have hlt:=h.lt
 obtain⟨hS,hK,hB0,hBc⟩:=lC h (.cells #[.int .i64 0,.int .i64 0,.string ⟨#[]⟩,.slice none 0 0,.slice none 0 0,.slice none 0 0] 78)
 have HS:=af hS
 have HK:=af hK
 have aX:=af hB0
 have HBc:=af hBc
 clear hS hK hB0 hBc h
 go_enter Tryz.func39,Tryz.ntmps39
 go_wp2_with fail
 refine(rG _ rb s l ns nv e0 n (ae HS) (ae HQ) hn).mono ?_
 rintro e w9 ⟨rfl,hw⟩
 rw[hw]
 clear hw w9
 generalize qT:((w.alloc (.cells #[.int .i64 0,.int .i64 0,.string ⟨#[]⟩,.slice none 0 0,.slice none 0 0,.slice none 0 0] 78)).alloc (.cells #[.int .i64 0,.int .i64 0,.string ⟨#[]⟩,.slice none 0 0,.slice none 0 0,.slice none 0 0] 78))=w1 at*
 have f4:=(ae HS).rd.f4
 have c4:=(ae HS).rd.c4
 have nE:=(ae HS).lt
 have N:=af ((ae HS).uM)
 go_wp2_with fail
 clear f4 c4 nE qT
 have cO:=af ((ae HK).trans (ae N).2)
 have jF:=af (aG (ae aX) (show w.heap.size≠rb by omega) 4 (.slice none 0 0))
 have HBc1:=af (aG (ae HBc) (show w.heap.size+1≠rb by omega) 4 (.slice none 0 0))
 generalize w1.setCell ⟨rb,4,none⟩ (.slice none 0 0)=w2 at*
 refine(ae I _ (ae N).1).mono ?_
 rintro e w3 ⟨val,tx,ao,acap,ns3,nv3,e3,rfl,-,hs3,hk3⟩
 have eo:=af hs3
 have dK:=af ((ae cO).trans hk3)
 have dt:=af (aq hk3 (ae jF) (by simp;omega))
 have HBc3:=af (aq hk3 (ae HBc1) (by simp;omega))
 clear hs3 hk3
 generalize ak t.kind=k at*
 generalize t.args.length=an at*
 have rc:=ah (ae HBc3)
 have xc:=ay (ae HBc3)
 have zc:=ag (ae HBc3)
 have z0:=ag (ae dt)
 have PX:w.heap.size<w3.heap.size:=ag (ae dt)
 go_wp2_with fail
 clear rc xc zc z0
 have R:=af (bS (ae eo) (ae dK) hlt (show w.heap.size≤w.heap.size+1 by omega) (ae HBc3) (((((aD.refl _ _).set 0 (.int .i64 k)).set 1 (.int .i64 val)).set 2 (.string tx)).set 3 (.slice ao an acap)))
 have HBc4:=af (aB (Fv (.int .i64 k) (.int .i64 val) (.string tx) (.slice ao an acap) (ae HBc3)) (.cells #[.int .i64 k,.int .i64 val,.string tx,.slice ao an acap] 76))
 have qx:=af (aB (aG (aG (aG (aG (ae dt) (show w.heap.size≠w.heap.size+1 by omega) 0 (.int .i64 k)) (show w.heap.size≠w.heap.size+1 by omega) 1 (.int .i64 val)) (show w.heap.size≠w.heap.size+1 by omega) 2 (.string tx)) (show w.heap.size≠w.heap.size+1 by omega) 3 (.slice ao an acap)) (.cells #[.int .i64 k,.int .i64 val,.string tx,.slice ao an acap] 76))
 have iH:=af ((ae R).1.below ((Below.refl _ _).alloc (Nat.le_refl _) (.cells #[.int .i64 k,.int .i64 val,.string tx,.slice ao an acap] 76)))
 have jT:=af ((ae R).2.alloc (.cells #[.int .i64 k,.int .i64 val,.string tx,.slice ao an acap] 76))
 clear R dt HBc3 eo dK
 generalize ((((w3.setCell ⟨w.heap.size+1,0,none⟩ (.int .i64 k)).setCell ⟨w.heap.size+1,1,none⟩ (.int .i64 val)).setCell ⟨w.heap.size+1,2,none⟩ (.string tx)).setCell ⟨w.heap.size+1,3,none⟩ (.slice ao an acap)).alloc (.cells #[.int .i64 k,.int .i64 val,.string tx,.slice ao an acap] 76)=w4 at*
 obtain⟨a,ha⟩:∃a:TV,a=⟨k,val,tx,ao,an,acap⟩:=⟨_,rfl⟩
 refine(bC _ rb s l1 ns3 nv3 e3 _ (ae iH)).mono ?_
 rintro e w9 ⟨rfl,hw⟩
 rw[hw]
 simp only[ByteArray.toList_mk]
 rw[p7]
 clear hw w9
 go_wp2_with fail
 refine(fO _ rb s l1 ns3 nv3 e3 (ae iH) (ae P0)).mono ?_
 rintro e w5 ⟨rfl,hs5,bV⟩
 have ij:=af hs5
 have jt:=af ((ae jT).trans bV)
 have ky:=af (aq bV (ae qx) (by simp;omega))
 have HBc5:=af (aq bV (ae HBc4) (by simp;omega))
 clear hs5 bV iH jT qx HBc4
 have J:=af (B0 w5 rb (w.heap.size+1) _ _ _ _ s l1.tail ns3 nv3 e3 (ae ij) (ae HBc5) (by omega) (by omega))
 rw[ae HI]at J
 go_wp2_with fail
 refine(ae J).mono ?_
 rintro e w6 ⟨l6,ns6,nv6,o1,n1,c1,o2,n2,c2,rfl,Im,cq,fI,zE⟩
 have HP:=af cq
 clear cq
 have mC:=af Im
 have n7:=af ((((ae jt).mono (Y:=[rb,w.heap.size+1]) (by simp)).trans zE).forget (X:=[rb]) (by simp))
 have wk:=af (aq zE (ae ky) (by simp;omega))
 have HBc6:=af fI
 clear Im zE fI ij jt ky HBc5 J
 have r0:=ah (ae wk)
 have x0:=ay (ae wk)
 have z0:=ag (ae wk)
 have rc:=ah (ae HBc6)
 have zc:=ag (ae HBc6)
 go_wp2_with fail
 refine bodyPost_ret (v:= .tuple #[.agg #[.int .i64 k,.int .i64 val,.string tx,.slice ao an acap,.slice o1 n1 c1,.slice o2 n2 c2],.bool false]) (by simp[results,Tryz.results39,go_sem,r0]) rfl ?_
 rw[ae HF]
 have R:=bS (ae mC) (ae n7) hlt (Nat.le_refl _) (ae wk) (((((((aD.refl _ _).set 0 (.int .i64 k)).set 1 (.int .i64 val)).set 2 (.string tx)).set 3 (.slice ao an acap)).set 4 (.slice o1 n1 c1)).set 5 (.slice o2 n2 c2))
 exact⟨⟨k,val,tx,ao,an,acap⟩,o1,n1,c1,o2,n2,c2,l6,ns6,nv6,rfl,R.1,ae HP,R.2⟩
theorem KO (w:World) (rb:Nat) (s:ByteArray) (l:List Za.aj) (ns:List ByteArray) (nv:Value) (e0:Int) (n:Nat) (h:St w rb s l ns nv e0) (hk:(Za.hd l).kind=2) (hn:n<12) (t:Za.Tm) (l1:List Za.aj) (hT:Za.term 8 l= .inr (t,l1)) (p7:Za.sees l1 [58,45]=true) (tsg gsg:List Za.aH) (l2:List Za.aj) (hI:Za.body l1.tail= .inr ((tsg,gsg),l2)):
 Calls Tryz.prog 39 #[.pointer (some ⟨rb,0,none⟩),.int .i64 (n:Int)] w fun e w'=>B5 rb s (Za.clause true l) w e w':=by
 have HC:=af (Za.Dj hk hT p7 hI)
 have P0:=af (show (Za.hd l1).kind≠0 by rw[Za.cT p7];omega)
 have HI:=af hI
 clear hI
 have HQ:=af hk
 have I:=af (fun W (hW:St W rb s l [] (.slice none 0 0) e0)=>term_all 8 W rb s l [] (.slice none 0 0) e0 1 rfl hW)
 rw[hT]at I
 clear hT hk
 have hlt:=h.lt
 obtain⟨hS,hK,hB0,hBc⟩:=lC h (.cells #[.int .i64 0,.int .i64 0,.string ⟨#[]⟩,.slice none 0 0,.slice none 0 0,.slice none 0 0] 78)
 have HS:=af hS
 have HK:=af hK
 have aX:=af hB0
 have HBc:=af hBc
 clear hS hK hB0 hBc h
 go_enter Tryz.func39,Tryz.ntmps39
 go_wp2_with fail
 refine(rG _ rb s l ns nv e0 n (ae HS) (ae HQ) hn).mono ?_
 rintro e w9 ⟨rfl,hw⟩
 rw[hw]
 clear hw w9
 generalize qT:((w.alloc (.cells #[.int .i64 0,.int .i64 0,.string ⟨#[]⟩,.slice none 0 0,.slice none 0 0,.slice none 0 0] 78)).alloc (.cells #[.int .i64 0,.int .i64 0,.string ⟨#[]⟩,.slice none 0 0,.slice none 0 0,.slice none 0 0] 78))=w1 at*
 have f4:=(ae HS).rd.f4
 have c4:=(ae HS).rd.c4
 have nE:=(ae HS).lt
 have N:=af ((ae HS).uM)
 go_wp2_with fail
 clear f4 c4 nE qT
 have cO:=af ((ae HK).trans (ae N).2)
 have jF:=af (aG (ae aX) (show w.heap.size≠rb by omega) 4 (.slice none 0 0))
 have HBc1:=af (aG (ae HBc) (show w.heap.size+1≠rb by omega) 4 (.slice none 0 0))
 generalize w1.setCell ⟨rb,4,none⟩ (.slice none 0 0)=w2 at*
 refine(ae I _ (ae N).1).mono ?_
 rintro e w3 ⟨val,tx,ao,acap,ns3,nv3,e3,rfl,lS,hs3,hk3⟩
 have Il:=af (show RA 8 (aU ns3) anyA w3 ⟨ak t.kind,val,tx,ao,t.args.length,acap⟩ t from (aN.refl w3).ra lS.rep)
 have PW:=af lS.nms
 clear lS
 have eo:=af hs3
 have dK:=af ((ae cO).trans hk3)
 have dt:=af (aq hk3 (ae jF) (by simp;omega))
 have HBc3:=af (aq hk3 (ae HBc1) (by simp;omega))
 clear hs3 hk3
 generalize ak t.kind=k at*
 generalize t.args.length=an at*
 have rc:=ah (ae HBc3)
 have xc:=ay (ae HBc3)
 have zc:=ag (ae HBc3)
 have z0:=ag (ae dt)
 have PX:w.heap.size<w3.heap.size:=ag (ae dt)
 go_wp2_with fail
 clear rc xc zc z0
 have R:=af (bS (ae eo) (ae dK) hlt (show w.heap.size≤w.heap.size+1 by omega) (ae HBc3) (((((aD.refl _ _).set 0 (.int .i64 k)).set 1 (.int .i64 val)).set 2 (.string tx)).set 3 (.slice ao an acap)))
 have HBc4:=af (aB (Fv (.int .i64 k) (.int .i64 val) (.string tx) (.slice ao an acap) (ae HBc3)) (.cells #[.int .i64 k,.int .i64 val,.string tx,.slice ao an acap] 76))
 have qx:=af (aB (aG (aG (aG (aG (ae dt) (show w.heap.size≠w.heap.size+1 by omega) 0 (.int .i64 k)) (show w.heap.size≠w.heap.size+1 by omega) 1 (.int .i64 val)) (show w.heap.size≠w.heap.size+1 by omega) 2 (.string tx)) (show w.heap.size≠w.heap.size+1 by omega) 3 (.slice ao an acap)) (.cells #[.int .i64 k,.int .i64 val,.string tx,.slice ao an acap] 76))
 have iH:=af ((ae R).1.below ((Below.refl _ _).alloc (Nat.le_refl _) (.cells #[.int .i64 k,.int .i64 val,.string tx,.slice ao an acap] 76)))
 have jT:=af ((ae R).2.alloc (.cells #[.int .i64 k,.int .i64 val,.string tx,.slice ao an acap] 76))
 have PY:=af (((aT.o6 (ae HBc3) (((((aD.refl _ _).set 0 (.int .i64 k)).set 1 (.int .i64 val)).set 2 (.string tx)).set 3 (.slice ao an acap))).trans (aT.alloc _ (.cells #[.int .i64 k,.int .i64 val,.string tx,.slice ao an acap] 76))).a.ra (ae Il))
 clear R dt HBc3 eo dK Il
 generalize ((((w3.setCell ⟨w.heap.size+1,0,none⟩ (.int .i64 k)).setCell ⟨w.heap.size+1,1,none⟩ (.int .i64 val)).setCell ⟨w.heap.size+1,2,none⟩ (.string tx)).setCell ⟨w.heap.size+1,3,none⟩ (.slice ao an acap)).alloc (.cells #[.int .i64 k,.int .i64 val,.string tx,.slice ao an acap] 76)=w4 at*
 obtain⟨a,ha⟩:∃a:TV,a=⟨k,val,tx,ao,an,acap⟩:=⟨_,rfl⟩
 refine(bC _ rb s l1 ns3 nv3 e3 _ (ae iH)).mono ?_
 rintro e w9 ⟨rfl,hw⟩
 rw[hw]
 simp only[ByteArray.toList_mk]
 rw[p7]
 clear hw w9
 go_wp2_with fail
 refine(fO _ rb s l1 ns3 nv3 e3 (ae iH) (ae P0)).mono ?_
 rintro e w5 ⟨rfl,hs5,bV⟩
 have ij:=af hs5
 have WI:=af ((aT.ka (ae iH) bV).a.ra (ae PY))
 have jt:=af ((ae jT).trans bV)
 have ky:=af (aq bV (ae qx) (by simp;omega))
 have HBc5:=af (aq bV (ae HBc4) (by simp;omega))
 clear hs5 bV iH jT qx HBc4
 have J:=af (B0 w5 rb (w.heap.size+1) _ _ _ _ s l1.tail ns3 nv3 e3 (ae ij) (ae HBc5) (by omega) (by omega))
 rw[ae HI]at J
 go_wp2_with fail
 refine(ae J).mono ?_
 rintro e w6 ⟨ns6,nv6,e6,o1,n1,c1,o2,n2,c2,rfl,P3,Im,fI,zE⟩
 have vF:=af (ej.body ((aT.PF (ae ij) (ae HBc5) zE).a.ra (ae WI)) (ae PW) P3)
 clear P3
 have mC:=af Im
 have n7:=af ((((ae jt).mono (Y:=[rb,w.heap.size+1]) (by simp)).trans zE).forget (X:=[rb]) (by simp))
 have wk:=af (aq zE (ae ky) (by simp;omega))
 have HBc6:=af fI
 clear Im zE fI ij jt ky HBc5 J
 go_wp2_with fail
 refine(bC _ rb s l2 ns6 nv6 e6 _ (ae mC)).mono ?_
 rintro e w9 ⟨rfl,hw⟩
 rw[hw]
 simp only[ByteArray.toList_mk]
 clear hw w9
 cases hst:Za.sees l2 [46]
 ·have HF:=af (show Za.clause true l= .inl (2,(Za.hd l2).pos)by rw[ae HC,Za.Dz hst];rfl)
  go_wp2_with fail
  refine(dF _ rb s l2 ns6 nv6 e6 false (ae mC) (fun q=>by cases q)).mono ?_
  rintro e wz ⟨rfl,hsz,fH⟩
  have HSz:=af hsz
  have HKz:=af ((ae n7).trans fH)
  have HB0z:=af (aq fH (ae wk) (by simp;omega))
  have HBcz:=af (aq fH (ae HBc6) (by simp;omega))
  clear hsz fH
  have r0:=ah (ae HB0z)
  have x0:=ay (ae HB0z)
  have z0:=ag (ae HB0z)
  have rc:=ah (ae HBcz)
  have zc:=ag (ae HBcz)
  go_wp2_with fail
  refine bodyPost_ret (v:= .tuple #[.agg #[.int .i64 k,.int .i64 val,.string tx,.slice ao an acap,.slice o1 n1 c1,.slice o2 n2 c2],.bool false]) (by simp[results,Tryz.results39,go_sem,r0]) rfl ?_
  rw[ae HF]
  have R:=bS (ae HSz) (ae HKz) hlt (Nat.le_refl _) (ae HB0z) (((((((aD.refl _ _).set 0 (.int .i64 k)).set 1 (.int .i64 val)).set 2 (.string tx)).set 3 (.slice ao an acap)).set 4 (.slice o1 n1 c1)).set 5 (.slice o2 n2 c2))
  exact⟨⟨k,val,tx,ao,an,acap⟩,o1,n1,c1,o2,n2,c2,l2,ns6,nv6,rfl,R.1,rfl,R.2⟩
 ·have HF:=af (show Za.clause true l= .inr (_,l2.tail)by rw[ae HC,Za.AP hst])
  have bV:=af (show (Za.hd l2).kind≠0 by rw[Za.cT hst];omega)
  go_wp2_with fail
  refine(dF _ rb s l2 ns6 nv6 e6 true (ae mC) (fun _=>ae bV)).mono ?_
  rintro e wz ⟨rfl,hsz,fH⟩
  have HSz:=af hsz
  have HCLz:=af ((ae vF).keep (aT.ka (ae mC) fH))
  have HKz:=af ((ae n7).trans fH)
  have HB0z:=af (aq fH (ae wk) (by simp;omega))
  have HBcz:=af (aq fH (ae HBc6) (by simp;omega))
  clear hsz fH
  have r0:=ah (ae HB0z)
  have x0:=ay (ae HB0z)
  have z0:=ag (ae HB0z)
  have rc:=ah (ae HBcz)
  have zc:=ag (ae HBcz)
  go_wp2_with fail
  refine bodyPost_ret (v:= .tuple #[.agg #[.int .i64 k,.int .i64 val,.string tx,.slice ao an acap,.slice o1 n1 c1,.slice o2 n2 c2],.bool true]) (by simp[results,Tryz.results39,go_sem,r0]) rfl ?_
  rw[ae HF]
  have R:=bS (ae HSz) (ae HKz) hlt (Nat.le_refl _) (ae HB0z) (((((((aD.refl _ _).set 0 (.int .i64 k)).set 1 (.int .i64 val)).set 2 (.string tx)).set 3 (.slice ao an acap)).set 4 (.slice o1 n1 c1)).set 5 (.slice o2 n2 c2))
  exact⟨⟨k,val,tx,ao,an,acap⟩,o1,n1,c1,o2,n2,c2,ns6,nv6,e6,rfl,(ae HCLz).keep (aT.o6 (ae HB0z) (((((((aD.refl _ _).set 0 (.int .i64 k)).set 1 (.int .i64 val)).set 2 (.string tx)).set 3 (.slice ao an acap)).set 4 (.slice o1 n1 c1)).set 5 (.slice o2 n2 c2))),R.1,R.2⟩
theorem Fy (w:World) (rb:Nat) (s:ByteArray) (l:List Za.aj) (ns:List ByteArray) (nv:Value) (e0:Int) (n:Nat) (h:St w rb s l ns nv e0):
 Calls Tryz.prog 39 #[.pointer (some ⟨rb,0,none⟩),.int .i64 (n:Int)] w fun e w'=>B5 rb s (Za.clause (decide (n<12)) l) w e w':=by
 by_cases hk:(Za.hd l).kind=2
 ·by_cases hn:n<12
  ·rw[show decide (n<12)=true by simpa using hn]
   rcases hT:Za.term 8 l with⟨er,ps⟩ | ⟨t,l1⟩
   ·exact KM w rb s l ns nv e0 n h hk hn er ps hT
   ·cases p7:Za.sees l1 [58,45]
    ·exact KN w rb s l ns nv e0 n h hk hn t l1 hT p7
    ·rcases hI:Za.body l1.tail with⟨er,ps⟩ | ⟨⟨tsg,gsg⟩,l2⟩
     ·exact PZ w rb s l ns nv e0 n h hk hn t l1 hT p7 er ps hI
     ·exact KO w rb s l ns nv e0 n h hk hn t l1 hT p7 tsg gsg l2 hI
  ·rw[show decide (n<12)=false by simpa using hn]
   exact SI w rb s l ns nv e0 n h hk (by omega)
 ·exact SH w rb s l ns nv e0 n h hk _
theorem Tryz.info78:(Tryz.prog.info? 78).map (fun i=>(i.zero,i.size,i.bytes))=some (some (.agg #[.int .i64 0,.int .i64 0,.string ⟨#[]⟩,.slice none 0 0,.slice none 0 0,.slice none 0 0]),6,104):=by kernel_rfl
theorem Fz {w:World} {b:Nat} {e:TypeId} {sz:Nat} {v:Value} {n:Nat} {xs:List Value} (h:w.ownsRow b e sz v n xs):∃o cap,v= .slice o n cap:=by
 rcases h.2 with⟨q,rfl⟩ | ⟨g,cap,cur,q,_⟩
 ·exact⟨none,0,q⟩
 ·exact⟨some ⟨g,0,none⟩,cap,q⟩
theorem SJ (a:TV) (o1 o2:Option Addr) (n1 c1 n2 c2:Nat):∀u∈([.int .i64 a.k,.int .i64 a.val,.string a.tx,.slice a.ao a.n a.cap,.slice o1 n1 c1,.slice o2 n2 c2]:List Value),u.oneCell'=true:=by
 simp[Value.oneCell']
theorem aT.grown {w w':World} {b0:Nat} {T:TypeId} {sz:Nat} {av:Value} {n:Nat} {xs:List Value} (ho:w.ownsRow b0 T sz av n xs) (hg:w.grownBy w' av.ownBlock) (hT:T≠76:=by decide) (hJ:T≠151:=by decide):aT w w':=
 ⟨aN.grown ho hg hT,fun g cs hc _=>(hg.block g (Array.getElem?_eq_some_iff.1 hc).1 (fun q=>by
  rcases ho.2 with⟨rfl,_⟩ | ⟨g',cap,cur,rfl,_,c,_⟩
  ·simp[Value.ownBlock]at q
  ·simp[Value.ownBlock]at q
   subst q
   rw[c]at hc;simp at hc;exact hJ hc.2)).trans hc⟩
structure QV where
 a:TV
 o1:Option Addr
 n1:Nat
 c1:Nat
 o2:Option Addr
 n2:Nat
 c2:Nat
def n9 (v:QV):List Value:=[.int .i64 v.a.k,.int .i64 v.a.val,.string v.a.tx,.slice v.a.ao v.a.n v.a.cap,.slice v.o1 v.n1 v.c1,.slice v.o2 v.n2 v.c2]
theorem FC (vs:List QV):(vs.flatMap n9).length=vs.length*6:=by
 induction vs with
 | nil=>rfl
 | cons a r ih=>rw[List.flatMap_cons,List.length_append,ih];simp[n9];omega
def ym (w:World) (v:QV) (c:Za.aL):Prop:=ej w v.a v.o1 v.n1 v.o2 v.n2 c
def tQ (w:World) (xs:List Value) (ys:List Za.aL):Prop:=∃vs:List QV,xs=vs.flatMap n9∧bO (ym w) vs ys
theorem tQ.keep {w w':World} {xs:List Value} {ys:List Za.aL} (h:tQ w xs ys) (hk:aT w w'):tQ w' xs ys:=by
 obtain⟨vs,rfl,ha⟩:=h
 exact⟨vs,rfl,ha.imp fun _ _ q=>ej.keep q hk⟩
theorem tQ.snoc {w:World} {xs:List Value} {ys:List Za.aL} {v:QV} {x:Za.aL} (h:tQ w xs ys) (q:ym w v x):tQ w (xs++n9 v) (ys++[x]):=by
 obtain⟨vs,rfl,ha⟩:=h
 exact⟨vs++[v],by simp,bO.snoc q ha⟩
def cX (w:World) (o:Option Addr) (n:Nat) (ys:List Za.aL):Prop:=n=ys.length∧(ys≠[]→∃(g:Nat) (vs:List QV) (cs:Array Value),o=some ⟨g,0,none⟩∧w.heap[g]?=some (.cells cs 78 (0,0))∧cs.toList.take (vs.length*6)=vs.flatMap n9∧bO (ym w) vs ys)
theorem cX.BV {w:World} {b0 n cap:Nat} {o:Option Addr} {xs:List Value} {ys:List Za.aL} (h:tQ w xs ys) (ho:w.ownsRow b0 78 6 (.slice o n cap) n xs):cX w o n ys:=by
 obtain⟨vs,rfl,ha⟩:=h
 have hl:=ho.1
 rw[FC]at hl
 have hl':=ha.length
 refine⟨by omega,fun hne=> ?_⟩
 rcases ho.2 with⟨q,h0⟩ | ⟨g',cap',cur,q,_,hc,_,_,_,ht⟩
 ·exact absurd (List.length_eq_zero_iff.1 (show ys.length=0 by omega)) hne
 ·simp only[Value.slice.injEq,true_and]at q
  obtain⟨rfl,rfl⟩:=q
  exact⟨g',vs,cur,rfl,hc,by rw[show vs.length=n by omega];exact ht,ha⟩
theorem cX.o6 {w w':World} {o:Option Addr} {n:Nat} {ys:List Za.aL} (h:cX w o n ys) {b:Nat} {C:Array Value} {T:TypeId} (hb:w.heap[b]?=some (.cells C T (0,0))) (ho:aD b w w') (hT:T≠76:=by decide) (hJ:T≠151:=by decide) (hC:T≠78:=by decide):cX w' o n ys:=
 ⟨h.1,fun q=>by
  obtain⟨g,vs,cs,h1,h2,h3,h4⟩:=h.2 q
  exact⟨g,vs,cs,h1,(ho.block g (fun e=>by subst e;rw[hb]at h2;simp at h2;exact hC h2.2)).trans h2,h3,h4.imp fun _ _ r=>ej.keep r (aT.o6 hb ho hT hJ)⟩⟩
theorem KP {w1:World} {s:ByteArray} {L:List Za.aj} (aW:dH w1) (h0:0<w1.heap.size) (hL:Za.dY s L) (hh:Za.hd L=Za.next s 0) (hl:L.length≤1000) (hs:s.size≤240):
 St (w1.alloc (.cells #[.string s,.int .i64 ((Za.next s 0).kind:Int),.int .i64 ((Za.next s 0).pos:Int),.string (Za.next s 0).text,.slice none 0 0,.int .i64 0] 73)) w1.heap.size s L [] (.slice none 0 0) 0:=by
 have hb:=heap_alloc_new w1 (.cells #[.string s,.int .i64 ((Za.next s 0).kind:Int),.int .i64 ((Za.next s 0).pos:Int),.string (Za.next s 0).text,.slice none 0 0,.int .i64 0] 73)
 have c:=ah hb
 have f:=ay hb
 exact⟨⟨by rw[c];rfl,by rw[c,hh];rfl,by rw[c,hh];rfl,by rw[c,hh];rfl,by rw[c];rfl,by rw[c];rfl,f 1,f 2,f 3,f 4,f 5⟩,World.ownsRow_nil _ _ _ _,hL,⟨0,hh⟩,by simpa using hl,hs,aW.below ((Below.refl _ _).alloc (Nat.le_refl _) _) h0,h0,by simp⟩
def LQ (w:World) (rb:Nat) (s:ByteArray) (L:List Za.aj) (k:Nat) (ov:Value) (wr:World):Prop:=
 ∃(n:Nat) (xs:List Value) (l:List Za.aj) (ns:List ByteArray) (nv:Value) (e:Int),St wr rb s l ns nv e∧Below w.heap.size w wr∧
  wr.heap[w.heap.size]?=some (.cells #[.slice none 0 0,.int .i64 0,.int .i64 0] 52 (0,0))∧
  wr.ownsRow (rb+1) 78 6 ov n xs∧n≤12∧k+n=13∧∃ys:List Za.aL,Za.prog 12 L=Za.vO ys (Za.prog (12 - n) l)∧tQ wr xs ys
theorem SK {w w5 w7:World} {rb:Nat} {s:ByteArray} {l:List Za.aj} {ns:List ByteArray} {nv:Value} {e:Int} {n:Nat} {av:Value} {xs:List Value} {X A Y:Obj}
 (hS:St w5 rb s l ns nv e) (hB:Below w.heap.size w w5) (hw:w.heap.size<rb) (hb:w5.heap[w.heap.size]?=some Y)
 (ho:w5.ownsRow (rb+1) 78 6 av n xs)
 (hg:((w5.alloc X).alloc A).grownBy w7 av.ownBlock):
 St w7 rb s l ns nv e∧Below w.heap.size w w7∧w7.heap[w.heap.size]?=some Y∧aT w5 w7:=by
 have hlt:=hS.lt
 have h1:Below (rb+1) w5 w7:=(((Below.refl _ _).alloc (by omega) X).alloc (by simp;omega) A).grown hg (by simp;omega) (fun k q=>(ho.lt k q).1)
 have bt:Below w5.heap.size w5 ((w5.alloc X).alloc A):=((Below.refl _ _).alloc (Nat.le_refl _) _).alloc (by simp) _
 have OY:∀k,av.ownBlock=some k→aO ((w5.alloc X).alloc A) k≠some 9:=fun k fZ=>by
  have:=ho.lt k fZ
  rcases ho.2 with⟨rfl,_⟩ | ⟨g,cap,cur,rfl,_,c,_⟩
  ·simp[Value.ownBlock]at fZ
  ·simp[Value.ownBlock]at fZ
   subst fZ
   unfold aO;rw[bt.block g this.2,c];simp
 exact⟨(hS.below bt).grown hg (fun k q=>⟨by have:=(ho.lt k q).1;omega,OY k q⟩),hB.trans (h1.mono (by omega)),(h1.block _ (by omega)).trans hb,((aT.alloc w5 X).trans (aT.alloc _ A)).trans (aT.grown ((ho.alloc X).alloc A) hg)⟩
def U7 (r:Za.dM (List Za.aL)) (w:World) (e:Ending) (w':World):Prop:=
 ∃(o:Option Addr) (n c:Nat),e= .returned (.agg #[.slice o n c,.int .i64 (Za.ER r:Int),.int .i64 (Za.posOf r:Int)])∧(match r with | .inl _=>n=0 | .inr (ys,_)=>cX w' o n ys)∧Below w.heap.size w w'
theorem N6 (w:World) (s:ByteArray) (L:List Za.aj) (hs:s.size≤240) (hL:Za.dY s L) (hh:Za.hd L=Za.next s 0) (hl:L.length≤1000) (aW:dH w) (h0:0<w.heap.size):
 Calls Tryz.prog 26 #[.string s] w fun e w'=>U7 (Za.prog 12 L) w e w':=by
 obtain⟨ti,hi,hz0',KH,Fi⟩:=info_parts Tryz.info78
 have hsz:decide (240<(s.size:Int))=false:=by simp;omega
 have jG:=af aW
 clear aW
 go_enter Tryz.func26,Tryz.ntmps26
 go_wp2_with fail
 refine(vP s 0 _ (by unfold maxLen;omega) (Nat.zero_le _) ((ae jG).below ((Below.refl _ _).alloc (Nat.le_refl _) _) h0) (by simp)).mono ?_
 rintro e w1 ⟨rfl,hb1⟩
 have B6:=((ae jG).below ((Below.refl _ _).alloc (Nat.le_refl _) (.cells #[.slice none 0 0,.int .i64 0,.int .i64 0] 52)) h0).below hb1 (by simp)
 have qT:w.heap.size<w1.heap.size:=by have:=hb1.size;simp at this;omega
 have HL:=af (show LQ w w1.heap.size s L 13 (.slice none 0 0) (w1.alloc (.cells #[.string s,.int .i64 ((Za.next s 0).kind:Int),.int .i64 ((Za.next s 0).pos:Int),.string (Za.next s 0).text,.slice none 0 0,.int .i64 0] 73))from
  ⟨0,[],L,[],_,0,KP B6 (by omega) hL hh hl hs,(((Below.refl _ _).alloc (Nat.le_refl _) _).trans (hb1.mono (by simp))).alloc (by omega) _,aB ((hb1.block w.heap.size (by simp)).trans (heap_alloc_new w _)) _,World.ownsRow_nil _ _ _ _,by omega,by omega,[],(Za.JL _).symm,[],rfl,trivial⟩)
 clear hb1 B6 jG hL hh hl
 generalize (Za.next s 0).kind=tk at*
 generalize (Za.next s 0).pos=tp at*
 generalize (Za.next s 0).text=tt at*
 go_wp2_with fail
 generalize mr:w1.heap.size=rb at*
 go_loopg [4] 13 (fun k ov wr=>LQ w rb s L k ov wr)
 case atStart=>exact ae HL
 case round=>
  clear HL mr
  obtain⟨n,xs,l,ns,nv,e1,hS,hB,hb0,ho,U8,WG,ys,BW,hrow⟩:=hrel
  have kX:=af hrow
  clear hrow
  obtain⟨oo,cp,rfl⟩:=Fz ho
  have HS:=af hS
  have HB:=af hB
  have aX:=af hb0
  have HO:=af ho
  have tO:=af BW
  have c1:=hS.rd.c1
  have nE:=hS.lt
  have r0:=ah hb0
  have x0:=ay hb0
  have z0:=ag hb0
  clear hS hB hb0 ho BW
  by_cases fw:(Za.hd l).kind=0
  ·have HF:=af (show Za.prog 12 L= .inr (ys++[],l)by rw[ae tO,Za.JN fw];rfl)
   rw[fw]at c1
   clear fw
   go_wp2_with fail
   refine bodyPost_ret (v:= .agg #[.slice oo n cp,.int .i64 0,.int .i64 0]) (by simp[results,Tryz.results26,go_sem,r0]) rfl ?_
   rw[ae HF]
   have CC:=(cX.BV (ae kX) (ae HO))
   exact⟨_,_,_,rfl,by rw[List.append_nil];exact CC.o6 (ae aX) ((((aD.refl _ _).set 0 (.slice oo n cp)).set 1 (.int .i64 0)).set 2 (.int .i64 0)),(((ae HB).setCell (p:=⟨w.heap.size,0,none⟩) (Nat.le_refl _) _).setCell (p:=⟨w.heap.size,1,none⟩) (Nat.le_refl _) _).setCell (p:=⟨w.heap.size,2,none⟩) (Nat.le_refl _) _⟩
  ·have hq:(((Za.hd l).kind:Int) != 0)=true:=by simp;omega
   have H0:=af fw
   have I:=af (Fy wr rb s l ns nv e1 n (ae HS))
   generalize hC:Za.clause (decide (n<12)) l=r at I
   have HC:=af hC
   clear hC fw
   generalize ((Za.hd l).kind:Int)=q at*
   go_wp2_with fail
   refine(ae I).mono ?_
   clear c1 nE r0 x0 z0 hq
   rcases r with⟨er,pos⟩ | ⟨c,l1⟩
   ·rintro e w5 ⟨a,o1,n1,cc1,o2,n2,cc2,l',ns',nv',rfl,hs5,cq,bV⟩
    subst cq
    have HF:=af (show Za.prog 12 L= .inl (er,(Za.hd l').pos)by rw[ae tO,Za.JO U8 (ae H0) (ae HC)];rfl)
    have bH:=af ((ae HB).trans (bV.below (by have:=(ae HB).size;omega) (by omega) (by simp;omega)))
    have ky:=af (aq bV (ae aX) (by simp;omega))
    have c2:=hs5.rd.c2
    have c5:=hs5.rd.c5
    have U9:=hs5.lt
    have r0:=ah (ae ky)
    have x0:=ay (ae ky)
    have z0:=ag (ae ky)
    clear hs5 bV
    go_wp2_with fail
    refine bodyPost_ret (v:= .agg #[.slice none 0 0,.int .i64 er,.int .i64 (Za.hd l').pos]) (by simp[results,Tryz.results26,go_sem,z0,r0]) rfl ?_
    rw[ae HF]
    exact⟨_,_,_,rfl,rfl,((((ae bH).setCell (p:=⟨w.heap.size,0,none⟩) (Nat.le_refl _) _).setCell (p:=⟨w.heap.size,1,none⟩) (Nat.le_refl _) _).setCell (p:=⟨w.heap.size,2,none⟩) (Nat.le_refl _) _).alloc (by simp;omega) _⟩
   ·rintro e w5 ⟨a,o1,n1,cc1,o2,n2,cc2,ns5,nv5,e5,rfl,gh,hs5,bV⟩
    have Av:=af (((ae kX).keep (aT.ka (ae HS) bV)).snoc (v:=⟨a,o1,n1,cc1,o2,n2,cc2⟩) gh)
    clear gh
    have ij:=af hs5
    have bH:=af ((ae HB).trans (bV.below (by have:=(ae HB).size;omega) (by omega) (by simp;omega)))
    have ky:=af (aq bV (ae aX) (by simp;omega))
    have BX:=af (sV (ae HO) bV (by omega) (by decide))
    have U9:=hs5.lt
    clear hs5 bV
    go_wp2_with (first | (at_builtin;go_must (refine wpList_append_own _ rfl (.tmp 33) (.tmp 35) 50 rfl (rb+1) 78 ti (.agg #[.int .i64 0,.int .i64 0,.string ⟨#[]⟩,.slice none 0 0,.slice none 0 0,.slice none 0 0]) 6 104 Tryz.underlying50 hi hz0' KH Fi rfl (by decide) _ n xs rfl (((ae BX).alloc _).alloc _) ⟨w5.heap.size+1,0,none⟩ 1 1 [.int .i64 a.k,.int .i64 a.val,.string a.tx,.slice a.ao a.n a.cap,.slice o1 n1 cc1,.slice o2 n2 cc2] rfl rfl (Fs _ _ _ _ _ (by simp) rfl) (SJ a o1 o2 n1 cc1 n2 cc2) (by unfold maxLen;omega) (by omega) (by simp;omega) ?_);go_must (intro v' w7 hown' hgrow _;have Ar:=af hown';have mB:=af (SK (ae ij) (ae bH) qT (ae ky) (ae BX) hgrow);clear hown' hgrow)))
    go_roundg (gk - 1)
    case measure=>omega
    case rel=>
     obtain⟨h12,hm⟩:=Za.Gu (ae H0) (ae HC)
     exact⟨n+1,_,l1,ns5,nv5,e5,(ae mB).1,(ae mB).2.1,(ae mB).2.2.1,ae Ar,by omega,by omega,ys++[c],by rw[ae tO,hm,Za.Gt],(ae Av).keep (ae mB).2.2.2⟩
end Go.Proofs.YthfjnfcekeknlaaGreatDoor
