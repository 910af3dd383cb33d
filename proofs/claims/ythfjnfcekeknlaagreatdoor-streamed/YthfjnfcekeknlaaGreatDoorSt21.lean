import Derived.Test.YthfjnfcekeknlaaGreatDoorSt07
import Derived.Test.YthfjnfcekeknlaaGreatDoorSt18
set_option maxHeartbeats 8000000
set_option maxRecDepth 100000
namespace Go.Proofs.YthfjnfcekeknlaaGreatDoor
open Go.RowKit
theorem Ir (w:World) (rb:Nat) (s:ByteArray) (l:List Za.Tok) (ns:List ByteArray) (nv:Value) (e0:Int) (n:Nat) (h:St w rb s l ns nv e0) (hk:(Za.hd l).kind≠2):
 Calls Tryz.prog 74 #[.pointer (some ⟨rb,0,none⟩),.int .i64 (n:Int)] w fun e w'=>e= .returned (.bool false)∧St w' rb s l ns nv 2∧KA rb [rb] w w':=by
 have H:=hide h
 obtain⟨⟨c0,c1,c2,c3,c4,c5,f1,f2,f3,f4,f5⟩,own,chain,isn,few,short,signs,pos,lt⟩:=h
 clear own chain isn few short signs pos lt c0 c2 c3 c4 c5 f1 f2 f3 f4 f5
 have n2:(((Za.hd l).kind:Int) != 2)=true:=by simp;omega
 generalize (Za.hd l).kind=k at c1 n2
 clear hk
 go_enter Tryz.func74,Tryz.ntmps74
 go_wp2_with (go_at_call 82;refine(bT _ _ _ _ _ _ _ 2 (ae H)).mono ?_;rintro e w1 ⟨rfl,hs,hk⟩;have HS:=hide hs;have HK:=hide hk;clear hs hk)
 go_ret
 exact⟨rfl,ae HS,ae HK⟩
theorem Iu (w:World) (rb:Nat) (s:ByteArray) (l:List Za.Tok) (ns:List ByteArray) (nv:Value) (e0:Int) (n:Nat) (h:St w rb s l ns nv e0) (hk:(Za.hd l).kind=2) (hn:12≤n):
 Calls Tryz.prog 74 #[.pointer (some ⟨rb,0,none⟩),.int .i64 (n:Int)] w fun e w'=>e= .returned (.bool false)∧St w' rb s l ns nv 3∧KA rb [rb] w w':=by
 have H:=hide h
 obtain⟨⟨c0,c1,c2,c3,c4,c5,f1,f2,f3,f4,f5⟩,own,chain,isn,few,short,signs,pos,lt⟩:=h
 clear own chain isn few short signs pos lt c0 c2 c3 c4 c5 f1 f2 f3 f4 f5
 rw[hk]at c1
 have hN:decide (12≤(n:Int))=true:=by simp;omega
 clear hk
 go_enter Tryz.func74,Tryz.ntmps74
 go_wp2_with (go_at_call 82;refine(bT _ _ _ _ _ _ _ 3 (ae H)).mono ?_;rintro e w1 ⟨rfl,hs,hk⟩;have HS:=hide hs;have HK:=hide hk;clear hs hk)
 go_ret
 exact⟨rfl,ae HS,ae HK⟩
theorem qX (w:World) (rb:Nat) (s:ByteArray) (l:List Za.Tok) (ns:List ByteArray) (nv:Value) (e0:Int) (n:Nat) (h:St w rb s l ns nv e0) (hk:(Za.hd l).kind=2) (hn:n<12):
 Calls Tryz.prog 74 #[.pointer (some ⟨rb,0,none⟩),.int .i64 (n:Int)] w fun e w'=>e= .returned (.bool true)∧w'=w:=by
 obtain⟨⟨c0,c1,c2,c3,c4,c5,f1,f2,f3,f4,f5⟩,own,chain,isn,few,short,signs,pos,lt⟩:=h
 clear own chain isn few short signs pos lt c0 c2 c3 c4 c5 f1 f2 f3 f4 f5
 rw[hk]at c1
 have hN:decide (12≤(n:Int))=false:=by simp;omega
 clear hk
 go_enter Tryz.func74,Tryz.ntmps74
 go_wp2
 go_ret
 exact⟨rfl,rfl⟩
theorem St.ui {w:World} {rb:Nat} {s:ByteArray} {l:List Za.Tok} {ns:List ByteArray} {nv:Value} {e:Int} (h:St w rb s l ns nv e):St (w.setCell ⟨rb,4,none⟩ (.slice none 0 0)) rb s l [] (.slice none 0 0) e∧KA rb [rb] w (w.setCell ⟨rb,4,none⟩ (.slice none 0 0)):=by
 obtain⟨⟨c0,c1,c2,c3,c4,c5,f1,f2,f3,f4,f5⟩,own,chain,isn,few,short,signs,pos,lt⟩:=h
 refine⟨⟨⟨by go_cell,by go_cell,by go_cell,by go_cell,by go_cell,by go_cell,by go_cell,by go_cell,by go_cell,by go_cell,by go_cell⟩,World.ownsRow_nil _ _ _ _,chain,isn,by simp;omega,short,signs.setCell (by show rb≠0;omega) _,pos,by simpa using lt⟩,(KA.refl _ _ _).fB (by simp) _⟩
structure dU (w:World) (a:TV) (o1:Option Addr) (n1:Nat) (o2:Option Addr) (n2:Nat) (c:Za.aG):Prop where
 head:RA 8 (Za.NG c) anyA w a c.head
 tests:bW (Za.NG c) w o1 n1 c.tests
 goals:bW (Za.NG c) w o2 n2 c.goals
theorem dU.keep {w w':World} {a:TV} {o1:Option Addr} {n1:Nat} {o2:Option Addr} {n2:Nat} {c:Za.aG} (h:dU w a o1 n1 o2 n2 c) (hk:aQ w w'):dU w' a o1 n1 o2 n2 c:=⟨hk.a.ra h.head,h.tests.keep hk,h.goals.keep hk⟩
theorem dU.fact {ns':List ByteArray} {w:World} {a:TV} {t:Za.Tm} (h:RA 8 (aR ns') anyA w a t) (hn:aR ns'=Za.namesF 8 (aR []) t):dU w a none 0 none 0 ⟨t,[],[]⟩:=
 ⟨by rw[hn]at h;exact h,bW.none _ _,bW.none _ _⟩
theorem dU.body {ns ns':List ByteArray} {w:World} {a:TV} {o1:Option Addr} {n1:Nat} {o2:Option Addr} {n2:Nat} {t:Za.Tm} {xs ys:List Za.aC} (h:RA 8 (aR ns) anyA w a t) (hn:aR ns=Za.namesF 8 (aR []) t) (hb:P9 ns ns' w o1 n1 o2 n2 (xs,ys)):dU w a o1 n1 o2 n2 ⟨t,xs,ys⟩:=by
 obtain⟨h1,h2,h3⟩:=hb
 have e:aR ns'=Za.NG ⟨t,xs,ys⟩:=by rw[h3,hn];rfl
 obtain⟨M,hM,_⟩:=Za.sw xs h1.ok (aR ns)
 obtain⟨K,hK,_⟩:=Za.sw ys h2.ok (xs.foldl Za.aK (aR ns))
 have e2:aR ns'=aR ns++(M++K):=by
  rw[h3]
  unfold Za.ay
  dsimp only
  rw[hK,hM,List.append_assoc]
 have h':=h.more (M++K)
 rw[←e2,e]at h'
 rw[e]at h1 h2
 exact⟨h',h1,h2⟩
def BL (rb:Nat) (s:ByteArray) (r:Za.dH Za.aG) (w:World) (e:Ending) (w':World):Prop:=match r with
 | .inl (er,pos)=>∃(a:TV) (o1:Option Addr) (n1 c1:Nat) (o2:Option Addr) (n2 c2:Nat) (l':List Za.Tok) (ns':List ByteArray) (nv':Value),
  e= .returned (.tuple #[.agg #[.int .i64 a.k,.int .i64 a.val,.string a.tx,.slice a.ao a.n a.cap,.slice o1 n1 c1,.slice o2 n2 c2],.bool false])∧St w' rb s l' ns' nv' (er:Int)∧(Za.hd l').pos=pos∧KA rb [rb] w w'
 | .inr (c,l1)=>∃(a:TV) (o1:Option Addr) (n1 c1:Nat) (o2:Option Addr) (n2 c2:Nat) (ns':List ByteArray) (nv':Value) (e':Int),
  e= .returned (.tuple #[.agg #[.int .i64 a.k,.int .i64 a.val,.string a.tx,.slice a.ao a.n a.cap,.slice o1 n1 c1,.slice o2 n2 c2],.bool true])∧dU w' a o1 n1 o2 n2 c∧St w' rb s l1 ns' nv' e'∧KA rb [rb] w w'
theorem lh {w:World} {rb:Nat} {s:ByteArray} {l:List Za.Tok} {ns:List ByteArray} {nv:Value} {e:Int} (h:St w rb s l ns nv e) (o:Obj):
 St ((w.alloc o).alloc o) rb s l ns nv e∧KA rb [rb] w ((w.alloc o).alloc o)∧((w.alloc o).alloc o).heap[w.heap.size]?=some o∧((w.alloc o).alloc o).heap[w.heap.size+1]?=some o:=
 ⟨h.below (((Below.refl _ _).alloc (Nat.le_refl _) _).alloc (by simp) _),((KA.refl rb [rb] w).alloc _).alloc _,aw (heap_alloc_new w o) _,by have:=heap_alloc_new (w.alloc o) o;rw[World.size_alloc]at this;exact this⟩
theorem S7 (w:World) (rb:Nat) (s:ByteArray) (l:List Za.Tok) (ns:List ByteArray) (nv:Value) (e0:Int) (n:Nat) (h:St w rb s l ns nv e0) (hk:(Za.hd l).kind≠2) (more:Bool):
 Calls Tryz.prog 39 #[.pointer (some ⟨rb,0,none⟩),.int .i64 (n:Int)] w fun e w'=>BL rb s (Za.clause more l) w e w':=by
 have HF:=hide (show Za.clause more l= .inl (2,(Za.hd l).pos)by rw[Za.Dg hk];rfl)
 have HQ:=hide hk
 clear hk
 have hlt:=h.lt
 obtain⟨hS,hK,hB0,hBc⟩:=lh h (.cells #[.int .i64 0,.int .i64 0,.string ⟨#[]⟩,.slice none 0 0,.slice none 0 0,.slice none 0 0] 78)
 have HS:=hide hS
 have HK:=hide hK
 have aT:=hide hB0
 have HBc:=hide hBc
 clear hS hK hB0 hBc h
 go_enter Tryz.func39,Tryz.ntmps39
 go_wp2_with fail
 refine(Ir _ rb s l ns nv e0 n (ae HS) (ae HQ)).mono ?_
 rintro e w1 ⟨rfl,hs1,hk1⟩
 have bp:=hide hs1
 have cO:=hide ((ae HK).trans hk1)
 have jv:=hide (ai hk1 (ae aT) (by simp;omega))
 have HBc1:=hide (ai hk1 (ae HBc) (by simp;omega))
 clear hs1 hk1
 obtain⟨a,ha⟩:∃a:TV,a=⟨0,0,⟨#[]⟩,none,0,0⟩:=⟨_,rfl⟩
 have r0:=ag (ae jv)
 have x0:=aq (ae jv)
 have z0:=af (ae jv)
 have rc:=ag (ae HBc1)
 have zc:=af (ae HBc1)
 go_wp2_with fail
 refine bodyPost_ret (v:= .tuple #[.agg #[.int .i64 0,.int .i64 0,.string ⟨#[]⟩,.slice none 0 0,.slice none 0 0,.slice none 0 0],.bool false]) (by simp[results,Tryz.results39,go_sem,r0]) rfl ?_
 rw[ae HF]
 have R:=bO (ae bp) (ae cO) hlt (Nat.le_refl _) (ae jv) (((((((aA.refl _ _).set 0 (.int .i64 a.k)).set 1 (.int .i64 a.val)).set 2 (.string a.tx)).set 3 (.slice a.ao a.n a.cap)).set 4 (.slice none 0 0)).set 5 (.slice none 0 0))
 exact⟨a,none,0,0,none,0,0,l,ns,nv,by rw[ha],by rw[ha]at R;exact R.1,rfl,by rw[ha]at R;exact R.2⟩
theorem S9 (w:World) (rb:Nat) (s:ByteArray) (l:List Za.Tok) (ns:List ByteArray) (nv:Value) (e0:Int) (n:Nat) (h:St w rb s l ns nv e0) (hk:(Za.hd l).kind=2) (hn:12≤n):
 Calls Tryz.prog 39 #[.pointer (some ⟨rb,0,none⟩),.int .i64 (n:Int)] w fun e w'=>BL rb s (Za.clause false l) w e w':=by
 have HF:=hide (show Za.clause false l= .inl (3,(Za.hd l).pos)by rw[Za.Dh hk];rfl)
 have HQ:=hide hk
 clear hk
 have hlt:=h.lt
 obtain⟨hS,hK,hB0,hBc⟩:=lh h (.cells #[.int .i64 0,.int .i64 0,.string ⟨#[]⟩,.slice none 0 0,.slice none 0 0,.slice none 0 0] 78)
 have HS:=hide hS
 have HK:=hide hK
 have aT:=hide hB0
 have HBc:=hide hBc
 clear hS hK hB0 hBc h
 go_enter Tryz.func39,Tryz.ntmps39
 go_wp2_with fail
 refine(Iu _ rb s l ns nv e0 n (ae HS) (ae HQ) hn).mono ?_
 rintro e w1 ⟨rfl,hs1,hk1⟩
 have bp:=hide hs1
 have cO:=hide ((ae HK).trans hk1)
 have jv:=hide (ai hk1 (ae aT) (by simp;omega))
 have HBc1:=hide (ai hk1 (ae HBc) (by simp;omega))
 clear hs1 hk1
 obtain⟨a,ha⟩:∃a:TV,a=⟨0,0,⟨#[]⟩,none,0,0⟩:=⟨_,rfl⟩
 have r0:=ag (ae jv)
 have x0:=aq (ae jv)
 have z0:=af (ae jv)
 have rc:=ag (ae HBc1)
 have zc:=af (ae HBc1)
 go_wp2_with fail
 refine bodyPost_ret (v:= .tuple #[.agg #[.int .i64 0,.int .i64 0,.string ⟨#[]⟩,.slice none 0 0,.slice none 0 0,.slice none 0 0],.bool false]) (by simp[results,Tryz.results39,go_sem,r0]) rfl ?_
 rw[ae HF]
 have R:=bO (ae bp) (ae cO) hlt (Nat.le_refl _) (ae jv) (((((((aA.refl _ _).set 0 (.int .i64 a.k)).set 1 (.int .i64 a.val)).set 2 (.string a.tx)).set 3 (.slice a.ao a.n a.cap)).set 4 (.slice none 0 0)).set 5 (.slice none 0 0))
 exact⟨a,none,0,0,none,0,0,l,ns,nv,by rw[ha],by rw[ha]at R;exact R.1,rfl,by rw[ha]at R;exact R.2⟩
theorem KQ (w:World) (rb:Nat) (s:ByteArray) (l:List Za.Tok) (ns:List ByteArray) (nv:Value) (e0:Int) (n:Nat) (h:St w rb s l ns nv e0) (hk:(Za.hd l).kind=2) (hn:n<12) (er ps:Nat) (hT:Za.term 8 l= .inl (er,ps)):
 Calls Tryz.prog 39 #[.pointer (some ⟨rb,0,none⟩),.int .i64 (n:Int)] w fun e w'=>BL rb s (Za.clause true l) w e w':=by
 have HF:=hide (show Za.clause true l= .inl (er,ps)from Za.EK hk hT)
 have HQ:=hide hk
 have I:=hide (fun W (hW:St W rb s l [] (.slice none 0 0) e0)=>term_all 8 W rb s l [] (.slice none 0 0) e0 1 rfl hW)
 rw[hT]at I
 clear hT hk
 have hlt:=h.lt
 obtain⟨hS,hK,hB0,hBc⟩:=lh h (.cells #[.int .i64 0,.int .i64 0,.string ⟨#[]⟩,.slice none 0 0,.slice none 0 0,.slice none 0 0] 78)
 have HS:=hide hS
 have HK:=hide hK
 have aT:=hide hB0
 have HBc:=hide hBc
 clear hS hK hB0 hBc h
 go_enter Tryz.func39,Tryz.ntmps39
 go_wp2_with fail
 refine(qX _ rb s l ns nv e0 n (ae HS) (ae HQ) hn).mono ?_
 rintro e w9 ⟨rfl,hw⟩
 rw[hw]
 clear hw w9
 generalize hw1:((w.alloc (.cells #[.int .i64 0,.int .i64 0,.string ⟨#[]⟩,.slice none 0 0,.slice none 0 0,.slice none 0 0] 78)).alloc (.cells #[.int .i64 0,.int .i64 0,.string ⟨#[]⟩,.slice none 0 0,.slice none 0 0,.slice none 0 0] 78))=w1 at*
 have f4:=(ae HS).rd.f4
 have c4:=(ae HS).rd.c4
 have nr:=(ae HS).lt
 have N:=hide ((ae HS).ui)
 go_wp2_with fail
 clear f4 c4 nr hw1
 have cO:=hide ((ae HK).trans (ae N).2)
 have jv:=hide (aB (ae aT) (show w.heap.size≠rb by omega) 4 (.slice none 0 0))
 have HBc1:=hide (aB (ae HBc) (show w.heap.size+1≠rb by omega) 4 (.slice none 0 0))
 generalize w1.setCell ⟨rb,4,none⟩ (.slice none 0 0)=w2 at*
 refine(ae I _ (ae N).1).mono ?_
 rintro e w3 ⟨k,val,tx,ao,an,acap,l',ns',nv',rfl,hs3,hpos,hk3⟩
 obtain⟨a,ha⟩:∃a:TV,a=⟨k,val,tx,ao,an,acap⟩:=⟨_,rfl⟩
 have dV:=hide hs3
 have HP:=hide hpos
 have dQ:=hide ((ae cO).trans hk3)
 have cZ:=hide (ai hk3 (ae jv) (by simp;omega))
 have HBc3:=hide (ai hk3 (ae HBc1) (by simp;omega))
 clear hs3 hpos hk3
 have r0:=ag (ae cZ)
 have x0:=aq (ae cZ)
 have z0:=af (ae cZ)
 have rc:=ag (ae HBc3)
 have xc:=aq (ae HBc3)
 have zc:=af (ae HBc3)
 go_wp2_with fail
 refine bodyPost_ret (v:= .tuple #[.agg #[.int .i64 k,.int .i64 val,.string tx,.slice ao an acap,.slice none 0 0,.slice none 0 0],.bool false]) (by simp[results,Tryz.results39,go_sem,z0,r0]) rfl ?_
 rw[ae HF]
 have R:=bO (ae dV) (ae dQ) hlt (show w.heap.size≤w.heap.size+1 by omega) (ae HBc3) (((((aA.refl _ _).set 0 (.int .i64 k)).set 1 (.int .i64 val)).set 2 (.string tx)).set 3 (.slice ao an acap))
 have qh:=aB (aB (aB (aB (ae cZ) (show w.heap.size≠w.heap.size+1 by omega) 0 (.int .i64 k)) (show w.heap.size≠w.heap.size+1 by omega) 1 (.int .i64 val)) (show w.heap.size≠w.heap.size+1 by omega) 2 (.string tx)) (show w.heap.size≠w.heap.size+1 by omega) 3 (.slice ao an acap)
 have R2:=bO R.1 R.2 hlt (Nat.le_refl _) qh (((((((aA.refl _ _).set 0 (.int .i64 k)).set 1 (.int .i64 val)).set 2 (.string tx)).set 3 (.slice ao an acap)).set 4 (.slice none 0 0)).set 5 (.slice none 0 0))
 exact⟨⟨k,val,tx,ao,an,acap⟩,none,0,0,none,0,0,l',ns',nv',rfl,R2.1.below ((Below.refl _ _).alloc (Nat.le_refl _) _),ae HP,R2.2.alloc _⟩
theorem KR (w:World) (rb:Nat) (s:ByteArray) (l:List Za.Tok) (ns:List ByteArray) (nv:Value) (e0:Int) (n:Nat) (h:St w rb s l ns nv e0) (hk:(Za.hd l).kind=2) (hn:n<12) (t:Za.Tm) (l1:List Za.Tok) (hT:Za.term 8 l= .inr (t,l1)) (pR:Za.sees l1 [58,45]=false):
 Calls Tryz.prog 39 #[.pointer (some ⟨rb,0,none⟩),.int .i64 (n:Int)] w fun e w'=>BL rb s (Za.clause true l) w e w':=by
 have HC:=hide (Za.Di hk hT pR)
 have HQ:=hide hk
 have I:=hide (fun W (hW:St W rb s l [] (.slice none 0 0) e0)=>term_all 8 W rb s l [] (.slice none 0 0) e0 1 rfl hW)
 rw[hT]at I
 clear hT hk
 have hlt:=h.lt
 obtain⟨hS,hK,hB0,hBc⟩:=lh h (.cells #[.int .i64 0,.int .i64 0,.string ⟨#[]⟩,.slice none 0 0,.slice none 0 0,.slice none 0 0] 78)
 have HS:=hide hS
 have HK:=hide hK
 have aT:=hide hB0
 have HBc:=hide hBc
 clear hS hK hB0 hBc h
 go_enter Tryz.func39,Tryz.ntmps39
 go_wp2_with fail
 refine(qX _ rb s l ns nv e0 n (ae HS) (ae HQ) hn).mono ?_
 rintro e w9 ⟨rfl,hw⟩
 rw[hw]
 clear hw w9
 generalize hw1:((w.alloc (.cells #[.int .i64 0,.int .i64 0,.string ⟨#[]⟩,.slice none 0 0,.slice none 0 0,.slice none 0 0] 78)).alloc (.cells #[.int .i64 0,.int .i64 0,.string ⟨#[]⟩,.slice none 0 0,.slice none 0 0,.slice none 0 0] 78))=w1 at*
 have f4:=(ae HS).rd.f4
 have c4:=(ae HS).rd.c4
 have nr:=(ae HS).lt
 have N:=hide ((ae HS).ui)
 go_wp2_with fail
 clear f4 c4 nr hw1
 have cO:=hide ((ae HK).trans (ae N).2)
 have jv:=hide (aB (ae aT) (show w.heap.size≠rb by omega) 4 (.slice none 0 0))
 have HBc1:=hide (aB (ae HBc) (show w.heap.size+1≠rb by omega) 4 (.slice none 0 0))
 generalize w1.setCell ⟨rb,4,none⟩ (.slice none 0 0)=w2 at*
 refine(ae I _ (ae N).1).mono ?_
 rintro e w3 ⟨val,tx,ao,acap,ns3,nv3,e3,rfl,lL,hs3,hk3⟩
 have Iw:=hide (show RA 8 (aR ns3) anyA w3 ⟨ak t.kind,val,tx,ao,t.args.length,acap⟩ t from (aJ.refl w3).ra lL.rep)
 have Qi:=hide lL.nms
 clear lL
 have dV:=hide hs3
 have dQ:=hide ((ae cO).trans hk3)
 have cZ:=hide (ai hk3 (ae jv) (by simp;omega))
 have HBc3:=hide (ai hk3 (ae HBc1) (by simp;omega))
 clear hs3 hk3
 generalize ak t.kind=k at*
 generalize t.args.length=an at*
 have rc:=ag (ae HBc3)
 have xc:=aq (ae HBc3)
 have zc:=af (ae HBc3)
 have z0:=af (ae cZ)
 have Qj:w.heap.size<w3.heap.size:=af (ae cZ)
 go_wp2_with fail
 clear rc xc zc z0
 have R:=hide (bO (ae dV) (ae dQ) hlt (show w.heap.size≤w.heap.size+1 by omega) (ae HBc3) (((((aA.refl _ _).set 0 (.int .i64 k)).set 1 (.int .i64 val)).set 2 (.string tx)).set 3 (.slice ao an acap)))
 have HBc4:=hide (aw (Fm (.int .i64 k) (.int .i64 val) (.string tx) (.slice ao an acap) (ae HBc3)) (.cells #[.int .i64 k,.int .i64 val,.string tx,.slice ao an acap] 76))
 have qh:=hide (aw (aB (aB (aB (aB (ae cZ) (show w.heap.size≠w.heap.size+1 by omega) 0 (.int .i64 k)) (show w.heap.size≠w.heap.size+1 by omega) 1 (.int .i64 val)) (show w.heap.size≠w.heap.size+1 by omega) 2 (.string tx)) (show w.heap.size≠w.heap.size+1 by omega) 3 (.slice ao an acap)) (.cells #[.int .i64 k,.int .i64 val,.string tx,.slice ao an acap] 76))
 have iw:=hide ((ae R).1.below ((Below.refl _ _).alloc (Nat.le_refl _) (.cells #[.int .i64 k,.int .i64 val,.string tx,.slice ao an acap] 76)))
 have jH:=hide ((ae R).2.alloc (.cells #[.int .i64 k,.int .i64 val,.string tx,.slice ao an acap] 76))
 have Qk:=hide (((aQ.oX (ae HBc3) (((((aA.refl _ _).set 0 (.int .i64 k)).set 1 (.int .i64 val)).set 2 (.string tx)).set 3 (.slice ao an acap))).trans (aQ.alloc _ (.cells #[.int .i64 k,.int .i64 val,.string tx,.slice ao an acap] 76))).a.ra (ae Iw))
 clear R cZ HBc3 dV dQ Iw
 generalize ((((w3.setCell ⟨w.heap.size+1,0,none⟩ (.int .i64 k)).setCell ⟨w.heap.size+1,1,none⟩ (.int .i64 val)).setCell ⟨w.heap.size+1,2,none⟩ (.string tx)).setCell ⟨w.heap.size+1,3,none⟩ (.slice ao an acap)).alloc (.cells #[.int .i64 k,.int .i64 val,.string tx,.slice ao an acap] 76)=w4 at*
 obtain⟨a,ha⟩:∃a:TV,a=⟨k,val,tx,ao,an,acap⟩:=⟨_,rfl⟩
 refine(bl _ rb s l1 ns3 nv3 e3 _ (ae iw)).mono ?_
 rintro e w9 ⟨rfl,hw⟩
 rw[hw]
 simp only[ByteArray.toList_mk]
 rw[pR]
 clear hw w9
 go_wp2_with fail
 refine(bl _ rb s l1 ns3 nv3 e3 _ (ae iw)).mono ?_
 rintro e w9 ⟨rfl,hw⟩
 rw[hw]
 simp only[ByteArray.toList_mk]
 clear hw w9
 cases hst:Za.sees l1 [46]
 ·have HF:=hide (show Za.clause true l= .inl (2,(Za.hd l1).pos)by rw[ae HC,Za.DB hst];rfl)
  go_wp2_with fail
  refine(dA _ rb s l1 ns3 nv3 e3 false (ae iw) (fun q=>by cases q)).mono ?_
  rintro e wz ⟨rfl,hsz,fF⟩
  have HSz:=hide hsz
  have HKz:=hide ((ae jH).trans fF)
  have HB0z:=hide (ai fF (ae qh) (by simp;omega))
  have HBcz:=hide (ai fF (ae HBc4) (by simp;omega))
  clear hsz fF
  have r0:=ag (ae HB0z)
  have x0:=aq (ae HB0z)
  have z0:=af (ae HB0z)
  have rc:=ag (ae HBcz)
  have zc:=af (ae HBcz)
  go_wp2_with fail
  refine bodyPost_ret (v:= .tuple #[.agg #[.int .i64 k,.int .i64 val,.string tx,.slice ao an acap,.slice none 0 0,.slice none 0 0],.bool false]) (by simp[results,Tryz.results39,go_sem,r0]) rfl ?_
  rw[ae HF]
  have R:=bO (ae HSz) (ae HKz) hlt (Nat.le_refl _) (ae HB0z) (((((((aA.refl _ _).set 0 (.int .i64 k)).set 1 (.int .i64 val)).set 2 (.string tx)).set 3 (.slice ao an acap)).set 4 (.slice none 0 0)).set 5 (.slice none 0 0))
  exact⟨⟨k,val,tx,ao,an,acap⟩,none,0,0,none,0,0,l1,ns3,nv3,rfl,R.1,rfl,R.2⟩
 ·have HF:=hide (show Za.clause true l= .inr (_,l1.tail)by rw[ae HC,Za.Az hst])
  have bQ:=hide (show (Za.hd l1).kind≠0 by rw[Za.cK hst];omega)
  go_wp2_with fail
  refine(dA _ rb s l1 ns3 nv3 e3 true (ae iw) (fun _=>ae bQ)).mono ?_
  rintro e wz ⟨rfl,hsz,fF⟩
  have HSz:=hide hsz
  have HCLz:=hide (dU.fact ((aQ.ka (ae iw) fF).a.ra (ae Qk)) (ae Qi))
  have HKz:=hide ((ae jH).trans fF)
  have HB0z:=hide (ai fF (ae qh) (by simp;omega))
  have HBcz:=hide (ai fF (ae HBc4) (by simp;omega))
  clear hsz fF
  have r0:=ag (ae HB0z)
  have x0:=aq (ae HB0z)
  have z0:=af (ae HB0z)
  have rc:=ag (ae HBcz)
  have zc:=af (ae HBcz)
  go_wp2_with fail
  refine bodyPost_ret (v:= .tuple #[.agg #[.int .i64 k,.int .i64 val,.string tx,.slice ao an acap,.slice none 0 0,.slice none 0 0],.bool true]) (by simp[results,Tryz.results39,go_sem,r0]) rfl ?_
  rw[ae HF]
  have R:=bO (ae HSz) (ae HKz) hlt (Nat.le_refl _) (ae HB0z) (((((((aA.refl _ _).set 0 (.int .i64 k)).set 1 (.int .i64 val)).set 2 (.string tx)).set 3 (.slice ao an acap)).set 4 (.slice none 0 0)).set 5 (.slice none 0 0))
  exact⟨⟨k,val,tx,ao,an,acap⟩,none,0,0,none,0,0,ns3,nv3,e3,rfl,(ae HCLz).keep (aQ.oX (ae HB0z) (((((((aA.refl _ _).set 0 (.int .i64 k)).set 1 (.int .i64 val)).set 2 (.string tx)).set 3 (.slice ao an acap)).set 4 (.slice none 0 0)).set 5 (.slice none 0 0))),R.1,R.2⟩
theorem Ql (w:World) (rb:Nat) (s:ByteArray) (l:List Za.Tok) (ns:List ByteArray) (nv:Value) (e0:Int) (n:Nat) (h:St w rb s l ns nv e0) (hk:(Za.hd l).kind=2) (hn:n<12) (t:Za.Tm) (l1:List Za.Tok) (hT:Za.term 8 l= .inr (t,l1)) (pR:Za.sees l1 [58,45]=true) (er ps:Nat) (hI:Za.body l1.tail= .inl (er,ps)):
 Calls Tryz.prog 39 #[.pointer (some ⟨rb,0,none⟩),.int .i64 (n:Int)] w fun e w'=>BL rb s (Za.clause true l) w e w':=by
 have HF:=hide (show Za.clause true l= .inl (er,ps)from Za.Dj hk hT pR hI)
 have Qm:=hide (show (Za.hd l1).kind≠0 by rw[Za.cK pR];omega)
 have HI:=hide hI
 clear hI
 have HQ:=hide hk
 have I:=hide (fun W (hW:St W rb s l [] (.slice none 0 0) e0)=>term_all 8 W rb s l [] (.slice none 0 0) e0 1 rfl hW)
 rw[hT]at I
 clear hT hk
 have hlt:=h.lt
 obtain⟨hS,hK,hB0,hBc⟩:=lh h (.cells #[.int .i64 0,.int .i64 0,.string ⟨#[]⟩,.slice none 0 0,.slice none 0 0,.slice none 0 0] 78)
 have HS:=hide hS
 have HK:=hide hK
 have aT:=hide hB0
 have HBc:=hide hBc
 clear hS hK hB0 hBc h
 go_enter Tryz.func39,Tryz.ntmps39
 go_wp2_with fail
 refine(qX _ rb s l ns nv e0 n (ae HS) (ae HQ) hn).mono ?_
 rintro e w9 ⟨rfl,hw⟩
 rw[hw]
 clear hw w9
 generalize hw1:((w.alloc (.cells #[.int .i64 0,.int .i64 0,.string ⟨#[]⟩,.slice none 0 0,.slice none 0 0,.slice none 0 0] 78)).alloc (.cells #[.int .i64 0,.int .i64 0,.string ⟨#[]⟩,.slice none 0 0,.slice none 0 0,.slice none 0 0] 78))=w1 at*
 have f4:=(ae HS).rd.f4
 have c4:=(ae HS).rd.c4
 have nr:=(ae HS).lt
 have N:=hide ((ae HS).ui)
 go_wp2_with fail
 clear f4 c4 nr hw1
 have cO:=hide ((ae HK).trans (ae N).2)
 have jv:=hide (aB (ae aT) (show w.heap.size≠rb by omega) 4 (.slice none 0 0))
 have HBc1:=hide (aB (ae HBc) (show w.heap.size+1≠rb by omega) 4 (.slice none 0 0))
 generalize w1.setCell ⟨rb,4,none⟩ (.slice none 0 0)=w2 at*
 refine(ae I _ (ae N).1).mono ?_
 rintro e w3 ⟨val,tx,ao,acap,ns3,nv3,e3,rfl,-,hs3,hk3⟩
 have dV:=hide hs3
 have dQ:=hide ((ae cO).trans hk3)
 have cZ:=hide (ai hk3 (ae jv) (by simp;omega))
 have HBc3:=hide (ai hk3 (ae HBc1) (by simp;omega))
 clear hs3 hk3
 generalize ak t.kind=k at*
 generalize t.args.length=an at*
 have rc:=ag (ae HBc3)
 have xc:=aq (ae HBc3)
 have zc:=af (ae HBc3)
 have z0:=af (ae cZ)
 have Qj:w.heap.size<w3.heap.size:=af (ae cZ)
 go_wp2_with fail
 clear rc xc zc z0
 have R:=hide (bO (ae dV) (ae dQ) hlt (show w.heap.size≤w.heap.size+1 by omega) (ae HBc3) (((((aA.refl _ _).set 0 (.int .i64 k)).set 1 (.int .i64 val)).set 2 (.string tx)).set 3 (.slice ao an acap)))
 have HBc4:=hide (aw (Fm (.int .i64 k) (.int .i64 val) (.string tx) (.slice ao an acap) (ae HBc3)) (.cells #[.int .i64 k,.int .i64 val,.string tx,.slice ao an acap] 76))
 have qh:=hide (aw (aB (aB (aB (aB (ae cZ) (show w.heap.size≠w.heap.size+1 by omega) 0 (.int .i64 k)) (show w.heap.size≠w.heap.size+1 by omega) 1 (.int .i64 val)) (show w.heap.size≠w.heap.size+1 by omega) 2 (.string tx)) (show w.heap.size≠w.heap.size+1 by omega) 3 (.slice ao an acap)) (.cells #[.int .i64 k,.int .i64 val,.string tx,.slice ao an acap] 76))
 have iw:=hide ((ae R).1.below ((Below.refl _ _).alloc (Nat.le_refl _) (.cells #[.int .i64 k,.int .i64 val,.string tx,.slice ao an acap] 76)))
 have jH:=hide ((ae R).2.alloc (.cells #[.int .i64 k,.int .i64 val,.string tx,.slice ao an acap] 76))
 clear R cZ HBc3 dV dQ
 generalize ((((w3.setCell ⟨w.heap.size+1,0,none⟩ (.int .i64 k)).setCell ⟨w.heap.size+1,1,none⟩ (.int .i64 val)).setCell ⟨w.heap.size+1,2,none⟩ (.string tx)).setCell ⟨w.heap.size+1,3,none⟩ (.slice ao an acap)).alloc (.cells #[.int .i64 k,.int .i64 val,.string tx,.slice ao an acap] 76)=w4 at*
 obtain⟨a,ha⟩:∃a:TV,a=⟨k,val,tx,ao,an,acap⟩:=⟨_,rfl⟩
 refine(bl _ rb s l1 ns3 nv3 e3 _ (ae iw)).mono ?_
 rintro e w9 ⟨rfl,hw⟩
 rw[hw]
 simp only[ByteArray.toList_mk]
 rw[pR]
 clear hw w9
 go_wp2_with fail
 refine(fJ _ rb s l1 ns3 nv3 e3 (ae iw) (ae Qm)).mono ?_
 rintro e w5 ⟨rfl,hs5,bQ⟩
 have gT:=hide hs5
 have jh:=hide ((ae jH).trans bQ)
 have jV:=hide (ai bQ (ae qh) (by simp;omega))
 have HBc5:=hide (ai bQ (ae HBc4) (by simp;omega))
 clear hs5 bQ iw jH qh HBc4
 have J:=hide (BH w5 rb (w.heap.size+1) _ _ _ _ s l1.tail ns3 nv3 e3 (ae gT) (ae HBc5) (by omega) (by omega))
 rw[ae HI]at J
 go_wp2_with fail
 refine(ae J).mono ?_
 rintro e w6 ⟨l6,ns6,nv6,o1,n1,c1,o2,n2,c2,rfl,Ix,hpos,gA,zt⟩
 have HP:=hide hpos
 clear hpos
 have mn:=hide Ix
 have nT:=hide ((((ae jh).mono (Y:=[rb,w.heap.size+1]) (by simp)).trans zt).forget (X:=[rb]) (by simp))
 have vM:=hide (ai zt (ae jV) (by simp;omega))
 have HBc6:=hide gA
 clear Ix zt gA gT jh jV HBc5 J
 have r0:=ag (ae vM)
 have x0:=aq (ae vM)
 have z0:=af (ae vM)
 have rc:=ag (ae HBc6)
 have zc:=af (ae HBc6)
 go_wp2_with fail
 refine bodyPost_ret (v:= .tuple #[.agg #[.int .i64 k,.int .i64 val,.string tx,.slice ao an acap,.slice o1 n1 c1,.slice o2 n2 c2],.bool false]) (by simp[results,Tryz.results39,go_sem,r0]) rfl ?_
 rw[ae HF]
 have R:=bO (ae mn) (ae nT) hlt (Nat.le_refl _) (ae vM) (((((((aA.refl _ _).set 0 (.int .i64 k)).set 1 (.int .i64 val)).set 2 (.string tx)).set 3 (.slice ao an acap)).set 4 (.slice o1 n1 c1)).set 5 (.slice o2 n2 c2))
 exact⟨⟨k,val,tx,ao,an,acap⟩,o1,n1,c1,o2,n2,c2,l6,ns6,nv6,rfl,R.1,ae HP,R.2⟩
theorem KS (w:World) (rb:Nat) (s:ByteArray) (l:List Za.Tok) (ns:List ByteArray) (nv:Value) (e0:Int) (n:Nat) (h:St w rb s l ns nv e0) (hk:(Za.hd l).kind=2) (hn:n<12) (t:Za.Tm) (l1:List Za.Tok) (hT:Za.term 8 l= .inr (t,l1)) (pR:Za.sees l1 [58,45]=true) (tsg gsg:List Za.aC) (l2:List Za.Tok) (hI:Za.body l1.tail= .inr ((tsg,gsg),l2)):
 Calls Tryz.prog 39 #[.pointer (some ⟨rb,0,none⟩),.int .i64 (n:Int)] w fun e w'=>BL rb s (Za.clause true l) w e w':=by
 have HC:=hide (Za.Dk hk hT pR hI)
 have Qm:=hide (show (Za.hd l1).kind≠0 by rw[Za.cK pR];omega)
 have HI:=hide hI
 clear hI
 have HQ:=hide hk
 have I:=hide (fun W (hW:St W rb s l [] (.slice none 0 0) e0)=>term_all 8 W rb s l [] (.slice none 0 0) e0 1 rfl hW)
 rw[hT]at I
 clear hT hk
 have hlt:=h.lt
 obtain⟨hS,hK,hB0,hBc⟩:=lh h (.cells #[.int .i64 0,.int .i64 0,.string ⟨#[]⟩,.slice none 0 0,.slice none 0 0,.slice none 0 0] 78)
 have HS:=hide hS
 have HK:=hide hK
 have aT:=hide hB0
 have HBc:=hide hBc
 clear hS hK hB0 hBc h
 go_enter Tryz.func39,Tryz.ntmps39
 go_wp2_with fail
 refine(qX _ rb s l ns nv e0 n (ae HS) (ae HQ) hn).mono ?_
 rintro e w9 ⟨rfl,hw⟩
 rw[hw]
 clear hw w9
 generalize hw1:((w.alloc (.cells #[.int .i64 0,.int .i64 0,.string ⟨#[]⟩,.slice none 0 0,.slice none 0 0,.slice none 0 0] 78)).alloc (.cells #[.int .i64 0,.int .i64 0,.string ⟨#[]⟩,.slice none 0 0,.slice none 0 0,.slice none 0 0] 78))=w1 at*
 have f4:=(ae HS).rd.f4
 have c4:=(ae HS).rd.c4
 have nr:=(ae HS).lt
 have N:=hide ((ae HS).ui)
 go_wp2_with fail
 clear f4 c4 nr hw1
 have cO:=hide ((ae HK).trans (ae N).2)
 have jv:=hide (aB (ae aT) (show w.heap.size≠rb by omega) 4 (.slice none 0 0))
 have HBc1:=hide (aB (ae HBc) (show w.heap.size+1≠rb by omega) 4 (.slice none 0 0))
 generalize w1.setCell ⟨rb,4,none⟩ (.slice none 0 0)=w2 at*
 refine(ae I _ (ae N).1).mono ?_
 rintro e w3 ⟨val,tx,ao,acap,ns3,nv3,e3,rfl,lL,hs3,hk3⟩
 have Iw:=hide (show RA 8 (aR ns3) anyA w3 ⟨ak t.kind,val,tx,ao,t.args.length,acap⟩ t from (aJ.refl w3).ra lL.rep)
 have Qi:=hide lL.nms
 clear lL
 have dV:=hide hs3
 have dQ:=hide ((ae cO).trans hk3)
 have cZ:=hide (ai hk3 (ae jv) (by simp;omega))
 have HBc3:=hide (ai hk3 (ae HBc1) (by simp;omega))
 clear hs3 hk3
 generalize ak t.kind=k at*
 generalize t.args.length=an at*
 have rc:=ag (ae HBc3)
 have xc:=aq (ae HBc3)
 have zc:=af (ae HBc3)
 have z0:=af (ae cZ)
 have Qj:w.heap.size<w3.heap.size:=af (ae cZ)
 go_wp2_with fail
 clear rc xc zc z0
 have R:=hide (bO (ae dV) (ae dQ) hlt (show w.heap.size≤w.heap.size+1 by omega) (ae HBc3) (((((aA.refl _ _).set 0 (.int .i64 k)).set 1 (.int .i64 val)).set 2 (.string tx)).set 3 (.slice ao an acap)))
 have HBc4:=hide (aw (Fm (.int .i64 k) (.int .i64 val) (.string tx) (.slice ao an acap) (ae HBc3)) (.cells #[.int .i64 k,.int .i64 val,.string tx,.slice ao an acap] 76))
 have qh:=hide (aw (aB (aB (aB (aB (ae cZ) (show w.heap.size≠w.heap.size+1 by omega) 0 (.int .i64 k)) (show w.heap.size≠w.heap.size+1 by omega) 1 (.int .i64 val)) (show w.heap.size≠w.heap.size+1 by omega) 2 (.string tx)) (show w.heap.size≠w.heap.size+1 by omega) 3 (.slice ao an acap)) (.cells #[.int .i64 k,.int .i64 val,.string tx,.slice ao an acap] 76))
 have iw:=hide ((ae R).1.below ((Below.refl _ _).alloc (Nat.le_refl _) (.cells #[.int .i64 k,.int .i64 val,.string tx,.slice ao an acap] 76)))
 have jH:=hide ((ae R).2.alloc (.cells #[.int .i64 k,.int .i64 val,.string tx,.slice ao an acap] 76))
 have Qk:=hide (((aQ.oX (ae HBc3) (((((aA.refl _ _).set 0 (.int .i64 k)).set 1 (.int .i64 val)).set 2 (.string tx)).set 3 (.slice ao an acap))).trans (aQ.alloc _ (.cells #[.int .i64 k,.int .i64 val,.string tx,.slice ao an acap] 76))).a.ra (ae Iw))
 clear R cZ HBc3 dV dQ Iw
 generalize ((((w3.setCell ⟨w.heap.size+1,0,none⟩ (.int .i64 k)).setCell ⟨w.heap.size+1,1,none⟩ (.int .i64 val)).setCell ⟨w.heap.size+1,2,none⟩ (.string tx)).setCell ⟨w.heap.size+1,3,none⟩ (.slice ao an acap)).alloc (.cells #[.int .i64 k,.int .i64 val,.string tx,.slice ao an acap] 76)=w4 at*
 obtain⟨a,ha⟩:∃a:TV,a=⟨k,val,tx,ao,an,acap⟩:=⟨_,rfl⟩
 refine(bl _ rb s l1 ns3 nv3 e3 _ (ae iw)).mono ?_
 rintro e w9 ⟨rfl,hw⟩
 rw[hw]
 simp only[ByteArray.toList_mk]
 rw[pR]
 clear hw w9
 go_wp2_with fail
 refine(fJ _ rb s l1 ns3 nv3 e3 (ae iw) (ae Qm)).mono ?_
 rintro e w5 ⟨rfl,hs5,bQ⟩
 have gT:=hide hs5
 have WU:=hide ((aQ.ka (ae iw) bQ).a.ra (ae Qk))
 have jh:=hide ((ae jH).trans bQ)
 have jV:=hide (ai bQ (ae qh) (by simp;omega))
 have HBc5:=hide (ai bQ (ae HBc4) (by simp;omega))
 clear hs5 bQ iw jH qh HBc4
 have J:=hide (BH w5 rb (w.heap.size+1) _ _ _ _ s l1.tail ns3 nv3 e3 (ae gT) (ae HBc5) (by omega) (by omega))
 rw[ae HI]at J
 go_wp2_with fail
 refine(ae J).mono ?_
 rintro e w6 ⟨ns6,nv6,e6,o1,n1,c1,o2,n2,c2,rfl,Qn,Ix,gA,zt⟩
 have uX:=hide (dU.body ((aQ.P4 (ae gT) (ae HBc5) zt).a.ra (ae WU)) (ae Qi) Qn)
 clear Qn
 have mn:=hide Ix
 have nT:=hide ((((ae jh).mono (Y:=[rb,w.heap.size+1]) (by simp)).trans zt).forget (X:=[rb]) (by simp))
 have vM:=hide (ai zt (ae jV) (by simp;omega))
 have HBc6:=hide gA
 clear Ix zt gA gT jh jV HBc5 J
 go_wp2_with fail
 refine(bl _ rb s l2 ns6 nv6 e6 _ (ae mn)).mono ?_
 rintro e w9 ⟨rfl,hw⟩
 rw[hw]
 simp only[ByteArray.toList_mk]
 clear hw w9
 cases hst:Za.sees l2 [46]
 ·have HF:=hide (show Za.clause true l= .inl (2,(Za.hd l2).pos)by rw[ae HC,Za.DB hst];rfl)
  go_wp2_with fail
  refine(dA _ rb s l2 ns6 nv6 e6 false (ae mn) (fun q=>by cases q)).mono ?_
  rintro e wz ⟨rfl,hsz,fF⟩
  have HSz:=hide hsz
  have HKz:=hide ((ae nT).trans fF)
  have HB0z:=hide (ai fF (ae vM) (by simp;omega))
  have HBcz:=hide (ai fF (ae HBc6) (by simp;omega))
  clear hsz fF
  have r0:=ag (ae HB0z)
  have x0:=aq (ae HB0z)
  have z0:=af (ae HB0z)
  have rc:=ag (ae HBcz)
  have zc:=af (ae HBcz)
  go_wp2_with fail
  refine bodyPost_ret (v:= .tuple #[.agg #[.int .i64 k,.int .i64 val,.string tx,.slice ao an acap,.slice o1 n1 c1,.slice o2 n2 c2],.bool false]) (by simp[results,Tryz.results39,go_sem,r0]) rfl ?_
  rw[ae HF]
  have R:=bO (ae HSz) (ae HKz) hlt (Nat.le_refl _) (ae HB0z) (((((((aA.refl _ _).set 0 (.int .i64 k)).set 1 (.int .i64 val)).set 2 (.string tx)).set 3 (.slice ao an acap)).set 4 (.slice o1 n1 c1)).set 5 (.slice o2 n2 c2))
  exact⟨⟨k,val,tx,ao,an,acap⟩,o1,n1,c1,o2,n2,c2,l2,ns6,nv6,rfl,R.1,rfl,R.2⟩
 ·have HF:=hide (show Za.clause true l= .inr (_,l2.tail)by rw[ae HC,Za.Az hst])
  have bQ:=hide (show (Za.hd l2).kind≠0 by rw[Za.cK hst];omega)
  go_wp2_with fail
  refine(dA _ rb s l2 ns6 nv6 e6 true (ae mn) (fun _=>ae bQ)).mono ?_
  rintro e wz ⟨rfl,hsz,fF⟩
  have HSz:=hide hsz
  have HCLz:=hide ((ae uX).keep (aQ.ka (ae mn) fF))
  have HKz:=hide ((ae nT).trans fF)
  have HB0z:=hide (ai fF (ae vM) (by simp;omega))
  have HBcz:=hide (ai fF (ae HBc6) (by simp;omega))
  clear hsz fF
  have r0:=ag (ae HB0z)
  have x0:=aq (ae HB0z)
  have z0:=af (ae HB0z)
  have rc:=ag (ae HBcz)
  have zc:=af (ae HBcz)
  go_wp2_with fail
  refine bodyPost_ret (v:= .tuple #[.agg #[.int .i64 k,.int .i64 val,.string tx,.slice ao an acap,.slice o1 n1 c1,.slice o2 n2 c2],.bool true]) (by simp[results,Tryz.results39,go_sem,r0]) rfl ?_
  rw[ae HF]
  have R:=bO (ae HSz) (ae HKz) hlt (Nat.le_refl _) (ae HB0z) (((((((aA.refl _ _).set 0 (.int .i64 k)).set 1 (.int .i64 val)).set 2 (.string tx)).set 3 (.slice ao an acap)).set 4 (.slice o1 n1 c1)).set 5 (.slice o2 n2 c2))
  exact⟨⟨k,val,tx,ao,an,acap⟩,o1,n1,c1,o2,n2,c2,ns6,nv6,e6,rfl,(ae HCLz).keep (aQ.oX (ae HB0z) (((((((aA.refl _ _).set 0 (.int .i64 k)).set 1 (.int .i64 val)).set 2 (.string tx)).set 3 (.slice ao an acap)).set 4 (.slice o1 n1 c1)).set 5 (.slice o2 n2 c2))),R.1,R.2⟩
theorem Fs (w:World) (rb:Nat) (s:ByteArray) (l:List Za.Tok) (ns:List ByteArray) (nv:Value) (e0:Int) (n:Nat) (h:St w rb s l ns nv e0):
 Calls Tryz.prog 39 #[.pointer (some ⟨rb,0,none⟩),.int .i64 (n:Int)] w fun e w'=>BL rb s (Za.clause (decide (n<12)) l) w e w':=by
 by_cases hk:(Za.hd l).kind=2
 ·by_cases hn:n<12
  ·rw[show decide (n<12)=true by simpa using hn]
   rcases hT:Za.term 8 l with⟨er,ps⟩ | ⟨t,l1⟩
   ·exact KQ w rb s l ns nv e0 n h hk hn er ps hT
   ·cases pR:Za.sees l1 [58,45]
    ·exact KR w rb s l ns nv e0 n h hk hn t l1 hT pR
    ·rcases hI:Za.body l1.tail with⟨er,ps⟩ | ⟨⟨tsg,gsg⟩,l2⟩
     ·exact Ql w rb s l ns nv e0 n h hk hn t l1 hT pR er ps hI
     ·exact KS w rb s l ns nv e0 n h hk hn t l1 hT pR tsg gsg l2 hI
  ·rw[show decide (n<12)=false by simpa using hn]
   exact S9 w rb s l ns nv e0 n h hk (by omega)
 ·exact S7 w rb s l ns nv e0 n h hk _
theorem Tryz.info78:(Tryz.prog.info? 78).map (fun i=>(i.zero,i.size,i.bytes))=some (some (.agg #[.int .i64 0,.int .i64 0,.string ⟨#[]⟩,.slice none 0 0,.slice none 0 0,.slice none 0 0]),6,104):=by kernel_rfl
theorem Fu {w:World} {b:Nat} {e:TypeId} {sz:Nat} {v:Value} {n:Nat} {xs:List Value} (h:w.ownsRow b e sz v n xs):∃o cap,v= .slice o n cap:=by
 rcases h.2 with⟨q,rfl⟩ | ⟨g,cap,cur,q,_⟩
 ·exact⟨none,0,q⟩
 ·exact⟨some ⟨g,0,none⟩,cap,q⟩
theorem Ta (a:TV) (o1 o2:Option Addr) (n1 c1 n2 c2:Nat):∀u∈([.int .i64 a.k,.int .i64 a.val,.string a.tx,.slice a.ao a.n a.cap,.slice o1 n1 c1,.slice o2 n2 c2]:List Value),u.oneCell'=true:=by
 simp[Value.oneCell']
theorem aQ.grown {w w':World} {b0:Nat} {T:TypeId} {sz:Nat} {av:Value} {n:Nat} {xs:List Value} (ho:w.ownsRow b0 T sz av n xs) (hg:w.grownBy w' av.ownBlock) (hT:T≠76:=by decide) (hJ:T≠151:=by decide):aQ w w':=
 ⟨aJ.grown ho hg hT,fun g cs hc _=>(hg.block g (Array.getElem?_eq_some_iff.1 hc).1 (fun q=>by
  rcases ho.2 with⟨rfl,_⟩ | ⟨g',cap,cur,rfl,_,c,_⟩
  ·simp[Value.ownBlock]at q
  ·simp[Value.ownBlock]at q
   subst q
   rw[c]at hc;simp at hc;exact hJ hc.2)).trans hc⟩
structure QV where
 a:TV
 o1:Option Addr
 n1:Nat
 c1:Nat
 o2:Option Addr
 n2:Nat
 c2:Nat
def nU (v:QV):List Value:=[.int .i64 v.a.k,.int .i64 v.a.val,.string v.a.tx,.slice v.a.ao v.a.n v.a.cap,.slice v.o1 v.n1 v.c1,.slice v.o2 v.n2 v.c2]
theorem Fv (vs:List QV):(vs.flatMap nU).length=vs.length*6:=by
 induction vs with
 | nil=>rfl
 | cons a r ih=>rw[List.flatMap_cons,List.length_append,ih];simp[nU];omega
def yf (w:World) (v:QV) (c:Za.aG):Prop:=dU w v.a v.o1 v.n1 v.o2 v.n2 c
def sV (w:World) (xs:List Value) (ys:List Za.aG):Prop:=∃vs:List QV,xs=vs.flatMap nU∧bK (yf w) vs ys
theorem sV.keep {w w':World} {xs:List Value} {ys:List Za.aG} (h:sV w xs ys) (hk:aQ w w'):sV w' xs ys:=by
 obtain⟨vs,rfl,ha⟩:=h
 exact⟨vs,rfl,ha.imp fun _ _ q=>dU.keep q hk⟩
theorem sV.snoc {w:World} {xs:List Value} {ys:List Za.aG} {v:QV} {x:Za.aG} (h:sV w xs ys) (q:yf w v x):sV w (xs++nU v) (ys++[x]):=by
 obtain⟨vs,rfl,ha⟩:=h
 exact⟨vs++[v],by simp,bK.snoc q ha⟩
def cP (w:World) (o:Option Addr) (n:Nat) (ys:List Za.aG):Prop:=n=ys.length∧(ys≠[]→∃(g:Nat) (vs:List QV) (cs:Array Value),o=some ⟨g,0,none⟩∧w.heap[g]?=some (.cells cs 78 (0,0))∧cs.toList.take (vs.length*6)=vs.flatMap nU∧bK (yf w) vs ys)
theorem cP.BD {w:World} {b0 n cap:Nat} {o:Option Addr} {xs:List Value} {ys:List Za.aG} (h:sV w xs ys) (ho:w.ownsRow b0 78 6 (.slice o n cap) n xs):cP w o n ys:=by
 obtain⟨vs,rfl,ha⟩:=h
 have hl:=ho.1
 rw[Fv]at hl
 have hl':=ha.length
 refine⟨by omega,fun hne=> ?_⟩
 rcases ho.2 with⟨q,h0⟩ | ⟨g',cap',cur,q,_,hc,_,_,_,ht⟩
 ·exact absurd (List.length_eq_zero_iff.1 (show ys.length=0 by omega)) hne
 ·simp only[Value.slice.injEq,true_and]at q
  obtain⟨rfl,rfl⟩:=q
  exact⟨g',vs,cur,rfl,hc,by rw[show vs.length=n by omega];exact ht,ha⟩
theorem cP.oX {w w':World} {o:Option Addr} {n:Nat} {ys:List Za.aG} (h:cP w o n ys) {b:Nat} {C:Array Value} {T:TypeId} (hb:w.heap[b]?=some (.cells C T (0,0))) (ho:aA b w w') (hT:T≠76:=by decide) (hJ:T≠151:=by decide) (hC:T≠78:=by decide):cP w' o n ys:=
 ⟨h.1,fun q=>by
  obtain⟨g,vs,cs,h1,h2,h3,h4⟩:=h.2 q
  exact⟨g,vs,cs,h1,(ho.block g (fun e=>by subst e;rw[hb]at h2;simp at h2;exact hC h2.2)).trans h2,h3,h4.imp fun _ _ r=>dU.keep r (aQ.oX hb ho hT hJ)⟩⟩
theorem KU {w1:World} {s:ByteArray} {L:List Za.Tok} (aU:dD w1) (h0:0<w1.heap.size) (hL:Za.dP s L) (hh:Za.hd L=Za.next s 0) (hl:L.length≤1000) (hs:s.size≤240):
 St (w1.alloc (.cells #[.string s,.int .i64 ((Za.next s 0).kind:Int),.int .i64 ((Za.next s 0).pos:Int),.string (Za.next s 0).text,.slice none 0 0,.int .i64 0] 73)) w1.heap.size s L [] (.slice none 0 0) 0:=by
 have hb:=heap_alloc_new w1 (.cells #[.string s,.int .i64 ((Za.next s 0).kind:Int),.int .i64 ((Za.next s 0).pos:Int),.string (Za.next s 0).text,.slice none 0 0,.int .i64 0] 73)
 have c:=ag hb
 have f:=aq hb
 exact⟨⟨by rw[c];rfl,by rw[c,hh];rfl,by rw[c,hh];rfl,by rw[c,hh];rfl,by rw[c];rfl,by rw[c];rfl,f 1,f 2,f 3,f 4,f 5⟩,World.ownsRow_nil _ _ _ _,hL,⟨0,hh⟩,by simpa using hl,hs,aU.below ((Below.refl _ _).alloc (Nat.le_refl _) _) h0,h0,by simp⟩
def LQ (w:World) (rb:Nat) (s:ByteArray) (L:List Za.Tok) (k:Nat) (ov:Value) (wr:World):Prop:=
 ∃(n:Nat) (xs:List Value) (l:List Za.Tok) (ns:List ByteArray) (nv:Value) (e:Int),St wr rb s l ns nv e∧Below w.heap.size w wr∧
  wr.heap[w.heap.size]?=some (.cells #[.slice none 0 0,.int .i64 0,.int .i64 0] 52 (0,0))∧
  wr.ownsRow (rb+1) 78 6 ov n xs∧n≤12∧k+n=13∧∃ys:List Za.aG,Za.prog 12 L=Za.vt ys (Za.prog (12 - n) l)∧sV wr xs ys
theorem Tb {w w5 w7:World} {rb:Nat} {s:ByteArray} {l:List Za.Tok} {ns:List ByteArray} {nv:Value} {e:Int} {n:Nat} {av:Value} {xs:List Value} {X A Y:Obj}
 (hS:St w5 rb s l ns nv e) (hB:Below w.heap.size w w5) (hw:w.heap.size<rb) (hb:w5.heap[w.heap.size]?=some Y)
 (ho:w5.ownsRow (rb+1) 78 6 av n xs)
 (hg:((w5.alloc X).alloc A).grownBy w7 av.ownBlock):
 St w7 rb s l ns nv e∧Below w.heap.size w w7∧w7.heap[w.heap.size]?=some Y∧aQ w5 w7:=by
 have hlt:=hS.lt
 have h1:Below (rb+1) w5 w7:=(((Below.refl _ _).alloc (by omega) X).alloc (by simp;omega) A).grown hg (by simp;omega) (fun k q=>(ho.lt k q).1)
 have bu:Below w5.heap.size w5 ((w5.alloc X).alloc A):=((Below.refl _ _).alloc (Nat.le_refl _) _).alloc (by simp) _
 have hty:∀k,av.ownBlock=some k→aL ((w5.alloc X).alloc A) k≠some 9:=fun k hk'=>by
  have:=ho.lt k hk'
  rcases ho.2 with⟨rfl,_⟩ | ⟨g,cap,cur,rfl,_,c,_⟩
  ·simp[Value.ownBlock]at hk'
  ·simp[Value.ownBlock]at hk'
   subst hk'
   unfold aL;rw[bu.block g this.2,c];simp
 exact⟨(hS.below bu).grown hg (fun k q=>⟨by have:=(ho.lt k q).1;omega,hty k q⟩),hB.trans (h1.mono (by omega)),(h1.block _ (by omega)).trans hb,((aQ.alloc w5 X).trans (aQ.alloc _ A)).trans (aQ.grown ((ho.alloc X).alloc A) hg)⟩
def Vf (r:Za.dH (List Za.aG)) (w:World) (e:Ending) (w':World):Prop:=
 ∃(o:Option Addr) (n c:Nat),e= .returned (.agg #[.slice o n c,.int .i64 (Za.EL r:Int),.int .i64 (Za.posOf r:Int)])∧(match r with | .inl _=>n=0 | .inr (ys,_)=>cP w' o n ys)∧Below w.heap.size w w'
theorem Ow (w:World) (s:ByteArray) (L:List Za.Tok) (hs:s.size≤240) (hL:Za.dP s L) (hh:Za.hd L=Za.next s 0) (hl:L.length≤1000) (aU:dD w) (h0:0<w.heap.size):
 Calls Tryz.prog 26 #[.string s] w fun e w'=>Vf (Za.prog 12 L) w e w':=by
 obtain⟨ti,hi,hz0',KM,Fa⟩:=info_parts Tryz.info78
 have hsz:decide (240<(s.size:Int))=false:=by simp;omega
 have jw:=hide aU
 clear aU
 go_enter Tryz.func26,Tryz.ntmps26
 go_wp2_with fail
 refine(vw s 0 _ (by unfold maxLen;omega) (Nat.zero_le _) ((ae jw).below ((Below.refl _ _).alloc (Nat.le_refl _) _) h0) (by simp)).mono ?_
 rintro e w1 ⟨rfl,hb1⟩
 have BM:=((ae jw).below ((Below.refl _ _).alloc (Nat.le_refl _) (.cells #[.slice none 0 0,.int .i64 0,.int .i64 0] 52)) h0).below hb1 (by simp)
 have hw1:w.heap.size<w1.heap.size:=by have:=hb1.size;simp at this;omega
 have HL:=hide (show LQ w w1.heap.size s L 13 (.slice none 0 0) (w1.alloc (.cells #[.string s,.int .i64 ((Za.next s 0).kind:Int),.int .i64 ((Za.next s 0).pos:Int),.string (Za.next s 0).text,.slice none 0 0,.int .i64 0] 73))from
  ⟨0,[],L,[],_,0,KU BM (by omega) hL hh hl hs,(((Below.refl _ _).alloc (Nat.le_refl _) _).trans (hb1.mono (by simp))).alloc (by omega) _,aw ((hb1.block w.heap.size (by simp)).trans (heap_alloc_new w _)) _,World.ownsRow_nil _ _ _ _,by omega,by omega,[],(Za.JU _).symm,[],rfl,trivial⟩)
 clear hb1 BM jw hL hh hl
 generalize (Za.next s 0).kind=tk at*
 generalize (Za.next s 0).pos=tp at*
 generalize (Za.next s 0).text=tt at*
 go_wp2_with fail
 generalize mg:w1.heap.size=rb at*
 go_loopg [4] 13 (fun k ov wr=>LQ w rb s L k ov wr)
 case atStart=>exact ae HL
 case round=>
  clear HL mg
  obtain⟨n,xs,l,ns,nv,e1,hS,hB,hb0,ho,Vg,hkn,ys,htot,hrow⟩:=hrel
  have kK:=hide hrow
  clear hrow
  obtain⟨oo,cp,rfl⟩:=Fu ho
  have HS:=hide hS
  have HB:=hide hB
  have aT:=hide hb0
  have HO:=hide ho
  have sS:=hide htot
  have c1:=hS.rd.c1
  have nr:=hS.lt
  have r0:=ag hb0
  have x0:=aq hb0
  have z0:=af hb0
  clear hS hB hb0 ho htot
  by_cases fp:(Za.hd l).kind=0
  ·have HF:=hide (show Za.prog 12 L= .inr (ys++[],l)by rw[ae sS,Za.JW fp];rfl)
   rw[fp]at c1
   clear fp
   go_wp2_with fail
   refine bodyPost_ret (v:= .agg #[.slice oo n cp,.int .i64 0,.int .i64 0]) (by simp[results,Tryz.results26,go_sem,r0]) rfl ?_
   rw[ae HF]
   have CC:=(cP.BD (ae kK) (ae HO))
   exact⟨_,_,_,rfl,by rw[List.append_nil];exact CC.oX (ae aT) ((((aA.refl _ _).set 0 (.slice oo n cp)).set 1 (.int .i64 0)).set 2 (.int .i64 0)),(((ae HB).setCell (p:=⟨w.heap.size,0,none⟩) (Nat.le_refl _) _).setCell (p:=⟨w.heap.size,1,none⟩) (Nat.le_refl _) _).setCell (p:=⟨w.heap.size,2,none⟩) (Nat.le_refl _) _⟩
  ·have hq:(((Za.hd l).kind:Int) != 0)=true:=by simp;omega
   have H0:=hide fp
   have I:=hide (Fs wr rb s l ns nv e1 n (ae HS))
   generalize hC:Za.clause (decide (n<12)) l=r at I
   have HC:=hide hC
   clear hC fp
   generalize ((Za.hd l).kind:Int)=q at*
   go_wp2_with fail
   refine(ae I).mono ?_
   clear c1 nr r0 x0 z0 hq
   rcases r with⟨er,pos⟩ | ⟨c,l1⟩
   ·rintro e w5 ⟨a,o1,n1,cc1,o2,n2,cc2,l',ns',nv',rfl,hs5,hpos,bQ⟩
    subst hpos
    have HF:=hide (show Za.prog 12 L= .inl (er,(Za.hd l').pos)by rw[ae sS,Za.JX Vg (ae H0) (ae HC)];rfl)
    have bS:=hide ((ae HB).trans (bQ.below (by have:=(ae HB).size;omega) (by omega) (by simp;omega)))
    have jV:=hide (ai bQ (ae aT) (by simp;omega))
    have c2:=hs5.rd.c2
    have c5:=hs5.rd.c5
    have Vh:=hs5.lt
    have r0:=ag (ae jV)
    have x0:=aq (ae jV)
    have z0:=af (ae jV)
    clear hs5 bQ
    go_wp2_with fail
    refine bodyPost_ret (v:= .agg #[.slice none 0 0,.int .i64 er,.int .i64 (Za.hd l').pos]) (by simp[results,Tryz.results26,go_sem,z0,r0]) rfl ?_
    rw[ae HF]
    exact⟨_,_,_,rfl,rfl,((((ae bS).setCell (p:=⟨w.heap.size,0,none⟩) (Nat.le_refl _) _).setCell (p:=⟨w.heap.size,1,none⟩) (Nat.le_refl _) _).setCell (p:=⟨w.heap.size,2,none⟩) (Nat.le_refl _) _).alloc (by simp;omega) _⟩
   ·rintro e w5 ⟨a,o1,n1,cc1,o2,n2,cc2,ns5,nv5,e5,rfl,hcl,hs5,bQ⟩
    have Ak:=hide (((ae kK).keep (aQ.ka (ae HS) bQ)).snoc (v:=⟨a,o1,n1,cc1,o2,n2,cc2⟩) hcl)
    clear hcl
    have gT:=hide hs5
    have bS:=hide ((ae HB).trans (bQ.below (by have:=(ae HB).size;omega) (by omega) (by simp;omega)))
    have jV:=hide (ai bQ (ae aT) (by simp;omega))
    have BF:=hide (sj (ae HO) bQ (by omega) (by decide))
    have Vh:=hs5.lt
    clear hs5 bQ
    go_wp2_with (first | (at_builtin;go_must (refine wpList_append_own _ rfl (.tmp 33) (.tmp 35) 50 rfl (rb+1) 78 ti (.agg #[.int .i64 0,.int .i64 0,.string ⟨#[]⟩,.slice none 0 0,.slice none 0 0,.slice none 0 0]) 6 104 Tryz.underlying50 hi hz0' KM Fa rfl (by decide) _ n xs rfl (((ae BF).alloc _).alloc _) ⟨w5.heap.size+1,0,none⟩ 1 1 [.int .i64 a.k,.int .i64 a.val,.string a.tx,.slice a.ao a.n a.cap,.slice o1 n1 cc1,.slice o2 n2 cc2] rfl rfl (Fk _ _ _ _ _ (by simp) rfl) (Ta a o1 o2 n1 cc1 n2 cc2) (by unfold maxLen;omega) (by omega) (by simp;omega) ?_);go_must (intro v' w7 hown' hgrow _;have Aj:=hide hown';have ld:=hide (Tb (ae gT) (ae bS) hw1 (ae jV) (ae BF) hgrow);clear hown' hgrow)))
    go_roundg (gk - 1)
    case measure=>omega
    case rel=>
     obtain⟨h12,hm⟩:=Za.Gy (ae H0) (ae HC)
     exact⟨n+1,_,l1,ns5,nv5,e5,(ae ld).1,(ae ld).2.1,(ae ld).2.2.1,ae Aj,by omega,by omega,ys++[c],by rw[ae sS,hm,Za.Gx],(ae Ak).keep (ae ld).2.2.2⟩
theorem KV (w:World) (s:ByteArray) (hs:240<s.size):
 Calls Tryz.prog 26 #[.string s] w fun e w'=>e= .returned (.agg #[.slice none 0 0,.int .i64 1,.int .i64 0])∧Below w.heap.size w w':=by
 have hsz:decide (240<(s.size:Int))=true:=by simp;omega
 go_enter Tryz.func26,Tryz.ntmps26
 go_wp2_with fail
 refine bodyPost_ret (v:= .agg #[.slice none 0 0,.int .i64 1,.int .i64 0]) (by simp[results,Tryz.results26,go_sem]) rfl ?_
 exact⟨rfl,((Below.refl _ _).alloc (Nat.le_refl _) _)⟩
end Go.Proofs.YthfjnfcekeknlaaGreatDoor
