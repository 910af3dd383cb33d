import Derived.Test.YthfjnfcekeknlaaGreatDoorMe08
import Derived.Test.YthfjnfcekeknlaaGreatDoorMe21
set_option maxHeartbeats 8000000
set_option maxRecDepth 100000
namespace Go.Proofs.YthfjnfcekeknlaaGreatDoor
open Go.RowKit
theorem Je (w:World) (rb:Nat) (s:ByteArray) (l:List Zc.aj) (ns:List ByteArray) (nv:Value) (e0:Int) (n:Nat) (h:St w rb s l ns nv e0) (hk:(Zc.hd l).kind≠2):
 Calls Tryz.prog 74 #[.pointer (some ⟨rb,0,none⟩),.int .i64 (n:Int)] w fun e w'=>e= .returned (.bool false)∧St w' rb s l ns nv 2∧KA rb [rb] w w':=by
 have H:=af h
 obtain⟨⟨c0,c1,c2,c3,c4,c5,f1,f2,f3,f4,f5⟩,own,chain,isn,few,short,signs,pos,lt⟩:=h
 clear own chain isn few short signs pos lt c0 c2 c3 c4 c5 f1 f2 f3 f4 f5
 have n2:(((Zc.hd l).kind:Int) != 2)=true:=by simp;omega
 generalize (Zc.hd l).kind=k at c1 n2
 clear hk
 go_enter Tryz.func74,Tryz.ntmps74
 go_wp2_with (go_at_call 82;refine(bW _ _ _ _ _ _ _ 2 (ae H)).mono ?_;rintro e w1 ⟨rfl,hs,hk⟩;have HS:=af hs;have HK:=af hk;clear hs hk)
 go_ret
 exact⟨rfl,ae HS,ae HK⟩
theorem Jf (w:World) (rb:Nat) (s:ByteArray) (l:List Zc.aj) (ns:List ByteArray) (nv:Value) (e0:Int) (n:Nat) (h:St w rb s l ns nv e0) (hk:(Zc.hd l).kind=2) (hn:12≤n):
 Calls Tryz.prog 74 #[.pointer (some ⟨rb,0,none⟩),.int .i64 (n:Int)] w fun e w'=>e= .returned (.bool false)∧St w' rb s l ns nv 3∧KA rb [rb] w w':=by
 have H:=af h
 obtain⟨⟨c0,c1,c2,c3,c4,c5,f1,f2,f3,f4,f5⟩,own,chain,isn,few,short,signs,pos,lt⟩:=h
 clear own chain isn few short signs pos lt c0 c2 c3 c4 c5 f1 f2 f3 f4 f5
 rw[hk]at c1
 have hN:decide (12≤(n:Int))=true:=by simp;omega
 clear hk
 go_enter Tryz.func74,Tryz.ntmps74
 go_wp2_with (go_at_call 82;refine(bW _ _ _ _ _ _ _ 3 (ae H)).mono ?_;rintro e w1 ⟨rfl,hs,hk⟩;have HS:=af hs;have HK:=af hk;clear hs hk)
 go_ret
 exact⟨rfl,ae HS,ae HK⟩
theorem rM (w:World) (rb:Nat) (s:ByteArray) (l:List Zc.aj) (ns:List ByteArray) (nv:Value) (e0:Int) (n:Nat) (h:St w rb s l ns nv e0) (hk:(Zc.hd l).kind=2) (hn:n<12):
 Calls Tryz.prog 74 #[.pointer (some ⟨rb,0,none⟩),.int .i64 (n:Int)] w fun e w'=>e= .returned (.bool true)∧w'=w:=by
 obtain⟨⟨c0,c1,c2,c3,c4,c5,f1,f2,f3,f4,f5⟩,own,chain,isn,few,short,signs,pos,lt⟩:=h
 clear own chain isn few short signs pos lt c0 c2 c3 c4 c5 f1 f2 f3 f4 f5
 rw[hk]at c1
 have hN:decide (12≤(n:Int))=false:=by simp;omega
 clear hk
 go_enter Tryz.func74,Tryz.ntmps74
 go_wp2
 go_ret
 exact⟨rfl,rfl⟩
theorem St.uW {w:World} {rb:Nat} {s:ByteArray} {l:List Zc.aj} {ns:List ByteArray} {nv:Value} {e:Int} (h:St w rb s l ns nv e):St (w.setCell ⟨rb,4,none⟩ (.slice none 0 0)) rb s l [] (.slice none 0 0) e∧KA rb [rb] w (w.setCell ⟨rb,4,none⟩ (.slice none 0 0)):=by
 obtain⟨⟨c0,c1,c2,c3,c4,c5,f1,f2,f3,f4,f5⟩,own,chain,isn,few,short,signs,pos,lt⟩:=h
 refine⟨⟨⟨by go_cell,by go_cell,by go_cell,by go_cell,by go_cell,by go_cell,by go_cell,by go_cell,by go_cell,by go_cell,by go_cell⟩,World.ownsRow_nil _ _ _ _,chain,isn,by simp;omega,short,signs.setCell (by show rb≠0;omega) _,pos,by simpa using lt⟩,(KA.refl _ _ _).fI (by simp) _⟩
structure eJ (w:World) (a:TV) (o1:Option Addr) (n1:Nat) (o2:Option Addr) (n2:Nat) (c:Zc.aJ):Prop where
 head:RA 8 (Zc.NG c) anyA w a c.head
 tests:b6 (Zc.NG c) w o1 n1 c.tests
 goals:b6 (Zc.NG c) w o2 n2 c.goals
theorem eJ.keep {w w':World} {a:TV} {o1:Option Addr} {n1:Nat} {o2:Option Addr} {n2:Nat} {c:Zc.aJ} (h:eJ w a o1 n1 o2 n2 c) (hk:aS w w'):eJ w' a o1 n1 o2 n2 c:=⟨hk.a.ra h.head,h.tests.keep hk,h.goals.keep hk⟩
theorem eJ.fact {ns':List ByteArray} {w:World} {a:TV} {t:Zc.Tm} (h:RA 8 (aT ns') anyA w a t) (hn:aT ns'=Zc.namesF 8 (aT []) t):eJ w a none 0 none 0 ⟨t,[],[]⟩:=
 ⟨by rw[hn]at h;exact h,b6.none _ _,b6.none _ _⟩
theorem eJ.body {ns ns':List ByteArray} {w:World} {a:TV} {o1:Option Addr} {n1:Nat} {o2:Option Addr} {n2:Nat} {t:Zc.Tm} {xs ys:List Zc.aH} (h:RA 8 (aT ns) anyA w a t) (hn:aT ns=Zc.namesF 8 (aT []) t) (hb:Qz ns ns' w o1 n1 o2 n2 (xs,ys)):eJ w a o1 n1 o2 n2 ⟨t,xs,ys⟩:=by
 obtain⟨h1,h2,h3⟩:=hb
 have e:aT ns'=Zc.NG ⟨t,xs,ys⟩:=by rw[h3,hn];rfl
 obtain⟨M,hM,_⟩:=Zc.tE xs h1.ok (aT ns)
 obtain⟨K,hK,_⟩:=Zc.tE ys h2.ok (xs.foldl Zc.aO (aT ns))
 have e2:aT ns'=aT ns++(M++K):=by
  rw[h3]
  unfold Zc.aC
  dsimp only
  rw[hK,hM,List.append_assoc]
 have h':=h.more (M++K)
 rw[←e2,e]at h'
 rw[e]at h1 h2
 exact⟨h',h1,h2⟩
def Ci (rb:Nat) (s:ByteArray) (r:Zc.dR Zc.aJ) (w:World) (e:Ending) (w':World):Prop:=match r with
 | .inl (er,pos)=>∃(a:TV) (o1:Option Addr) (n1 c1:Nat) (o2:Option Addr) (n2 c2:Nat) (l':List Zc.aj) (ns':List ByteArray) (nv':Value),
  e= .returned (.tuple #[.agg #[.int .i64 a.k,.int .i64 a.val,.string a.tx,.slice a.ao a.n a.cap,.slice o1 n1 c1,.slice o2 n2 c2],.bool false])∧St w' rb s l' ns' nv' (er:Int)∧(Zc.hd l').pos=pos∧KA rb [rb] w w'
 | .inr (c,l1)=>∃(a:TV) (o1:Option Addr) (n1 c1:Nat) (o2:Option Addr) (n2 c2:Nat) (ns':List ByteArray) (nv':Value) (e':Int),
  e= .returned (.tuple #[.agg #[.int .i64 a.k,.int .i64 a.val,.string a.tx,.slice a.ao a.n a.cap,.slice o1 n1 c1,.slice o2 n2 c2],.bool true])∧eJ w' a o1 n1 o2 n2 c∧St w' rb s l1 ns' nv' e'∧KA rb [rb] w w'
theorem lN {w:World} {rb:Nat} {s:ByteArray} {l:List Zc.aj} {ns:List ByteArray} {nv:Value} {e:Int} (h:St w rb s l ns nv e) (o:Obj):
 St ((w.alloc o).alloc o) rb s l ns nv e∧KA rb [rb] w ((w.alloc o).alloc o)∧((w.alloc o).alloc o).heap[w.heap.size]?=some o∧((w.alloc o).alloc o).heap[w.heap.size+1]?=some o:=
 ⟨h.below (((Below.refl _ _).alloc (Nat.le_refl _) _).alloc (by simp) _),((KA.refl rb [rb] w).alloc _).alloc _,aB (heap_alloc_new w o) _,by have:=heap_alloc_new (w.alloc o) o;rw[World.size_alloc]at this;exact this⟩
theorem Tw (w:World) (rb:Nat) (s:ByteArray) (l:List Zc.aj) (ns:List ByteArray) (nv:Value) (e0:Int) (n:Nat) (h:St w rb s l ns nv e0) (hk:(Zc.hd l).kind≠2) (more:Bool):
 Calls Tryz.prog 39 #[.pointer (some ⟨rb,0,none⟩),.int .i64 (n:Int)] w fun e w'=>Ci rb s (Zc.clause more l) w e w':=by
 have HF:=af (show Zc.clause more l= .inl (2,(Zc.hd l).pos)by rw[Zc.Dy hk];rfl)
 have HQ:=af hk
 clear hk
 have hlt:=h.lt
 obtain⟨hS,hK,hB0,hBc⟩:=lN h (.cells #[.int .i64 0,.int .i64 0,.string ⟨#[]⟩,.slice none 0 0,.slice none 0 0,.slice none 0 0] 78)
 have HS:=af hS
 have HK:=af hK
 have bf:=af hB0
 have HBc:=af hBc
 clear hS hK hB0 hBc h
 go_enter Tryz.func39,Tryz.ntmps39
 go_wp2_with fail
 refine(Je _ rb s l ns nv e0 n (ae HS) (ae HQ)).mono ?_
 rintro e w1 ⟨rfl,hs1,ft⟩
 have bE:=af hs1
 have cZ:=af ((ae HK).trans ft)
 have jL:=af (aq ft (ae bf) (by simp;omega))
 have HBc1:=af (aq ft (ae HBc) (by simp;omega))
 clear hs1 ft
 obtain⟨a,ha⟩:∃a:TV,a=⟨0,0,⟨#[]⟩,none,0,0⟩:=⟨_,rfl⟩
 have r0:=ah (ae jL)
 have x0:=ay (ae jL)
 have z0:=ag (ae jL)
 have rc:=ah (ae HBc1)
 have zc:=ag (ae HBc1)
 go_wp2_with fail
 refine bodyPost_ret (v:= .tuple #[.agg #[.int .i64 0,.int .i64 0,.string ⟨#[]⟩,.slice none 0 0,.slice none 0 0,.slice none 0 0],.bool false]) (by simp[results,Tryz.results39,go_sem,r0]) rfl ?_
 rw[ae HF]
 have R:=bR (ae bE) (ae cZ) hlt (Nat.le_refl _) (ae jL) (((((((aD.refl _ _).set 0 (.int .i64 a.k)).set 1 (.int .i64 a.val)).set 2 (.string a.tx)).set 3 (.slice a.ao a.n a.cap)).set 4 (.slice none 0 0)).set 5 (.slice none 0 0))
 exact⟨a,none,0,0,none,0,0,l,ns,nv,by rw[ha],by rw[ha]at R;exact R.1,rfl,by rw[ha]at R;exact R.2⟩
theorem Tx (w:World) (rb:Nat) (s:ByteArray) (l:List Zc.aj) (ns:List ByteArray) (nv:Value) (e0:Int) (n:Nat) (h:St w rb s l ns nv e0) (hk:(Zc.hd l).kind=2) (hn:12≤n):
 Calls Tryz.prog 39 #[.pointer (some ⟨rb,0,none⟩),.int .i64 (n:Int)] w fun e w'=>Ci rb s (Zc.clause false l) w e w':=by
 have HF:=af (show Zc.clause false l= .inl (3,(Zc.hd l).pos)by rw[Zc.Dz hk];rfl)
 have HQ:=af hk
 clear hk
 have hlt:=h.lt
 obtain⟨hS,hK,hB0,hBc⟩:=lN h (.cells #[.int .i64 0,.int .i64 0,.string ⟨#[]⟩,.slice none 0 0,.slice none 0 0,.slice none 0 0] 78)
 have HS:=af hS
 have HK:=af hK
 have bf:=af hB0
 have HBc:=af hBc
 clear hS hK hB0 hBc h
 go_enter Tryz.func39,Tryz.ntmps39
 go_wp2_with fail
 refine(Jf _ rb s l ns nv e0 n (ae HS) (ae HQ) hn).mono ?_
 rintro e w1 ⟨rfl,hs1,ft⟩
 have bE:=af hs1
 have cZ:=af ((ae HK).trans ft)
 have jL:=af (aq ft (ae bf) (by simp;omega))
 have HBc1:=af (aq ft (ae HBc) (by simp;omega))
 clear hs1 ft
 obtain⟨a,ha⟩:∃a:TV,a=⟨0,0,⟨#[]⟩,none,0,0⟩:=⟨_,rfl⟩
 have r0:=ah (ae jL)
 have x0:=ay (ae jL)
 have z0:=ag (ae jL)
 have rc:=ah (ae HBc1)
 have zc:=ag (ae HBc1)
 go_wp2_with fail
 refine bodyPost_ret (v:= .tuple #[.agg #[.int .i64 0,.int .i64 0,.string ⟨#[]⟩,.slice none 0 0,.slice none 0 0,.slice none 0 0],.bool false]) (by simp[results,Tryz.results39,go_sem,r0]) rfl ?_
 rw[ae HF]
 have R:=bR (ae bE) (ae cZ) hlt (Nat.le_refl _) (ae jL) (((((((aD.refl _ _).set 0 (.int .i64 a.k)).set 1 (.int .i64 a.val)).set 2 (.string a.tx)).set 3 (.slice a.ao a.n a.cap)).set 4 (.slice none 0 0)).set 5 (.slice none 0 0))
 exact⟨a,none,0,0,none,0,0,l,ns,nv,by rw[ha],by rw[ha]at R;exact R.1,rfl,by rw[ha]at R;exact R.2⟩
theorem Ll (w:World) (rb:Nat) (s:ByteArray) (l:List Zc.aj) (ns:List ByteArray) (nv:Value) (e0:Int) (n:Nat) (h:St w rb s l ns nv e0) (hk:(Zc.hd l).kind=2) (hn:n<12) (er ps:Nat) (hT:Zc.term 8 l= .inl (er,ps)):
 Calls Tryz.prog 39 #[.pointer (some ⟨rb,0,none⟩),.int .i64 (n:Int)] w fun e w'=>Ci rb s (Zc.clause true l) w e w':=by
 have HF:=af (show Zc.clause true l= .inl (er,ps)from Zc.Fl hk hT)
 have HQ:=af hk
 have I:=af (fun W (hW:St W rb s l [] (.slice none 0 0) e0)=>term_all 8 W rb s l [] (.slice none 0 0) e0 1 rfl hW)
 rw[hT]at I
 clear hT hk
 have hlt:=h.lt
 obtain⟨hS,hK,hB0,hBc⟩:=lN h (.cells #[.int .i64 0,.int .i64 0,.string ⟨#[]⟩,.slice none 0 0,.slice none 0 0,.slice none 0 0] 78)
 have HS:=af hS
 have HK:=af hK
 have bf:=af hB0
 have HBc:=af hBc
 clear hS hK hB0 hBc h
 go_enter Tryz.func39,Tryz.ntmps39
 go_wp2_with fail
 refine(rM _ rb s l ns nv e0 n (ae HS) (ae HQ) hn).mono ?_
 rintro e w9 ⟨rfl,hw⟩
 rw[hw]
 clear hw w9
 generalize q8:((w.alloc (.cells #[.int .i64 0,.int .i64 0,.string ⟨#[]⟩,.slice none 0 0,.slice none 0 0,.slice none 0 0] 78)).alloc (.cells #[.int .i64 0,.int .i64 0,.string ⟨#[]⟩,.slice none 0 0,.slice none 0 0,.slice none 0 0] 78))=w1 at*
 have f4:=(ae HS).rd.f4
 have c4:=(ae HS).rd.c4
 have nP:=(ae HS).lt
 have N:=af ((ae HS).uW)
 go_wp2_with fail
 clear f4 c4 nP q8
 have cZ:=af ((ae HK).trans (ae N).2)
 have jL:=af (aG (ae bf) (show w.heap.size≠rb by omega) 4 (.slice none 0 0))
 have HBc1:=af (aG (ae HBc) (show w.heap.size+1≠rb by omega) 4 (.slice none 0 0))
 generalize w1.setCell ⟨rb,4,none⟩ (.slice none 0 0)=w2 at*
 refine(ae I _ (ae N).1).mono ?_
 rintro e w3 ⟨k,val,tx,ao,an,acap,l',ns',nv',rfl,hs3,cm,hk3⟩
 obtain⟨a,ha⟩:∃a:TV,a=⟨k,val,tx,ao,an,acap⟩:=⟨_,rfl⟩
 have eK:=af hs3
 have HP:=af cm
 have ez:=af ((ae cZ).trans hk3)
 have dy:=af (aq hk3 (ae jL) (by simp;omega))
 have HBc3:=af (aq hk3 (ae HBc1) (by simp;omega))
 clear hs3 cm hk3
 have r0:=ah (ae dy)
 have x0:=ay (ae dy)
 have z0:=ag (ae dy)
 have rc:=ah (ae HBc3)
 have xc:=ay (ae HBc3)
 have zc:=ag (ae HBc3)
 go_wp2_with fail
 refine bodyPost_ret (v:= .tuple #[.agg #[.int .i64 k,.int .i64 val,.string tx,.slice ao an acap,.slice none 0 0,.slice none 0 0],.bool false]) (by simp[results,Tryz.results39,go_sem,z0,r0]) rfl ?_
 rw[ae HF]
 have R:=bR (ae eK) (ae ez) hlt (show w.heap.size≤w.heap.size+1 by omega) (ae HBc3) (((((aD.refl _ _).set 0 (.int .i64 k)).set 1 (.int .i64 val)).set 2 (.string tx)).set 3 (.slice ao an acap))
 have qI:=aG (aG (aG (aG (ae dy) (show w.heap.size≠w.heap.size+1 by omega) 0 (.int .i64 k)) (show w.heap.size≠w.heap.size+1 by omega) 1 (.int .i64 val)) (show w.heap.size≠w.heap.size+1 by omega) 2 (.string tx)) (show w.heap.size≠w.heap.size+1 by omega) 3 (.slice ao an acap)
 have R2:=bR R.1 R.2 hlt (Nat.le_refl _) qI (((((((aD.refl _ _).set 0 (.int .i64 k)).set 1 (.int .i64 val)).set 2 (.string tx)).set 3 (.slice ao an acap)).set 4 (.slice none 0 0)).set 5 (.slice none 0 0))
 exact⟨⟨k,val,tx,ao,an,acap⟩,none,0,0,none,0,0,l',ns',nv',rfl,R2.1.below ((Below.refl _ _).alloc (Nat.le_refl _) _),ae HP,R2.2.alloc _⟩
theorem Lm (w:World) (rb:Nat) (s:ByteArray) (l:List Zc.aj) (ns:List ByteArray) (nv:Value) (e0:Int) (n:Nat) (h:St w rb s l ns nv e0) (hk:(Zc.hd l).kind=2) (hn:n<12) (t:Zc.Tm) (l1:List Zc.aj) (hT:Zc.term 8 l= .inr (t,l1)) (qg:Zc.sees l1 [58,45]=false):
 Calls Tryz.prog 39 #[.pointer (some ⟨rb,0,none⟩),.int .i64 (n:Int)] w fun e w'=>Ci rb s (Zc.clause true l) w e w':=by
 have HC:=af (Zc.DA hk hT qg)
 have HQ:=af hk
 have I:=af (fun W (hW:St W rb s l [] (.slice none 0 0) e0)=>term_all 8 W rb s l [] (.slice none 0 0) e0 1 rfl hW)
 rw[hT]at I
 clear hT hk
 have hlt:=h.lt
 obtain⟨hS,hK,hB0,hBc⟩:=lN h (.cells #[.int .i64 0,.int .i64 0,.string ⟨#[]⟩,.slice none 0 0,.slice none 0 0,.slice none 0 0] 78)
 have HS:=af hS
 have HK:=af hK
 have bf:=af hB0
 have HBc:=af hBc
 clear hS hK hB0 hBc h
 go_enter Tryz.func39,Tryz.ntmps39
 go_wp2_with fail
 refine(rM _ rb s l ns nv e0 n (ae HS) (ae HQ) hn).mono ?_
 rintro e w9 ⟨rfl,hw⟩
 rw[hw]
 clear hw w9
 generalize q8:((w.alloc (.cells #[.int .i64 0,.int .i64 0,.string ⟨#[]⟩,.slice none 0 0,.slice none 0 0,.slice none 0 0] 78)).alloc (.cells #[.int .i64 0,.int .i64 0,.string ⟨#[]⟩,.slice none 0 0,.slice none 0 0,.slice none 0 0] 78))=w1 at*
 have f4:=(ae HS).rd.f4
 have c4:=(ae HS).rd.c4
 have nP:=(ae HS).lt
 have N:=af ((ae HS).uW)
 go_wp2_with fail
 clear f4 c4 nP q8
 have cZ:=af ((ae HK).trans (ae N).2)
 have jL:=af (aG (ae bf) (show w.heap.size≠rb by omega) 4 (.slice none 0 0))
 have HBc1:=af (aG (ae HBc) (show w.heap.size+1≠rb by omega) 4 (.slice none 0 0))
 generalize w1.setCell ⟨rb,4,none⟩ (.slice none 0 0)=w2 at*
 refine(ae I _ (ae N).1).mono ?_
 rintro e w3 ⟨val,tx,ao,acap,ns3,nv3,e3,rfl,mf,hs3,hk3⟩
 have Jg:=af (show RA 8 (aT ns3) anyA w3 ⟨ak t.kind,val,tx,ao,t.args.length,acap⟩ t from (aN.refl w3).ra mf.rep)
 have QI:=af mf.nms
 clear mf
 have eK:=af hs3
 have ez:=af ((ae cZ).trans hk3)
 have dy:=af (aq hk3 (ae jL) (by simp;omega))
 have HBc3:=af (aq hk3 (ae HBc1) (by simp;omega))
 clear hs3 hk3
 generalize ak t.kind=k at*
 generalize t.args.length=an at*
 have rc:=ah (ae HBc3)
 have xc:=ay (ae HBc3)
 have zc:=ag (ae HBc3)
 have z0:=ag (ae dy)
 have QJ:w.heap.size<w3.heap.size:=ag (ae dy)
 go_wp2_with fail
 clear rc xc zc z0
 have R:=af (bR (ae eK) (ae ez) hlt (show w.heap.size≤w.heap.size+1 by omega) (ae HBc3) (((((aD.refl _ _).set 0 (.int .i64 k)).set 1 (.int .i64 val)).set 2 (.string tx)).set 3 (.slice ao an acap)))
 have HBc4:=af (aB (FZ (.int .i64 k) (.int .i64 val) (.string tx) (.slice ao an acap) (ae HBc3)) (.cells #[.int .i64 k,.int .i64 val,.string tx,.slice ao an acap] 76))
 have qI:=af (aB (aG (aG (aG (aG (ae dy) (show w.heap.size≠w.heap.size+1 by omega) 0 (.int .i64 k)) (show w.heap.size≠w.heap.size+1 by omega) 1 (.int .i64 val)) (show w.heap.size≠w.heap.size+1 by omega) 2 (.string tx)) (show w.heap.size≠w.heap.size+1 by omega) 3 (.slice ao an acap)) (.cells #[.int .i64 k,.int .i64 val,.string tx,.slice ao an acap] 76))
 have iR:=af ((ae R).1.below ((Below.refl _ _).alloc (Nat.le_refl _) (.cells #[.int .i64 k,.int .i64 val,.string tx,.slice ao an acap] 76)))
 have j9:=af ((ae R).2.alloc (.cells #[.int .i64 k,.int .i64 val,.string tx,.slice ao an acap] 76))
 have QK:=af (((aS.py (ae HBc3) (((((aD.refl _ _).set 0 (.int .i64 k)).set 1 (.int .i64 val)).set 2 (.string tx)).set 3 (.slice ao an acap))).trans (aS.alloc _ (.cells #[.int .i64 k,.int .i64 val,.string tx,.slice ao an acap] 76))).a.ra (ae Jg))
 clear R dy HBc3 eK ez Jg
 generalize ((((w3.setCell ⟨w.heap.size+1,0,none⟩ (.int .i64 k)).setCell ⟨w.heap.size+1,1,none⟩ (.int .i64 val)).setCell ⟨w.heap.size+1,2,none⟩ (.string tx)).setCell ⟨w.heap.size+1,3,none⟩ (.slice ao an acap)).alloc (.cells #[.int .i64 k,.int .i64 val,.string tx,.slice ao an acap] 76)=w4 at*
 obtain⟨a,ha⟩:∃a:TV,a=⟨k,val,tx,ao,an,acap⟩:=⟨_,rfl⟩
 refine(bC _ rb s l1 ns3 nv3 e3 _ (ae iR)).mono ?_
 rintro e w9 ⟨rfl,hw⟩
 rw[hw]
 simp only[ByteArray.toList_mk]
 rw[qg]
 clear hw w9
 go_wp2_with fail
 refine(bC _ rb s l1 ns3 nv3 e3 _ (ae iR)).mono ?_
 rintro e w9 ⟨rfl,hw⟩
 rw[hw]
 simp only[ByteArray.toList_mk]
 clear hw w9
 cases hst:Zc.sees l1 [46]
 ·have HF:=af (show Zc.clause true l= .inl (2,(Zc.hd l1).pos)by rw[ae HC,Zc.DZ hst];rfl)
  go_wp2_with fail
  refine(dI _ rb s l1 ns3 nv3 e3 false (ae iR) (fun q=>by cases q)).mono ?_
  rintro e wz ⟨rfl,hsz,fM⟩
  have HSz:=af hsz
  have HKz:=af ((ae j9).trans fM)
  have HB0z:=af (aq fM (ae qI) (by simp;omega))
  have HBcz:=af (aq fM (ae HBc4) (by simp;omega))
  clear hsz fM
  have r0:=ah (ae HB0z)
  have x0:=ay (ae HB0z)
  have z0:=ag (ae HB0z)
  have rc:=ah (ae HBcz)
  have zc:=ag (ae HBcz)
  go_wp2_with fail
  refine bodyPost_ret (v:= .tuple #[.agg #[.int .i64 k,.int .i64 val,.string tx,.slice ao an acap,.slice none 0 0,.slice none 0 0],.bool false]) (by simp[results,Tryz.results39,go_sem,r0]) rfl ?_
  rw[ae HF]
  have R:=bR (ae HSz) (ae HKz) hlt (Nat.le_refl _) (ae HB0z) (((((((aD.refl _ _).set 0 (.int .i64 k)).set 1 (.int .i64 val)).set 2 (.string tx)).set 3 (.slice ao an acap)).set 4 (.slice none 0 0)).set 5 (.slice none 0 0))
  exact⟨⟨k,val,tx,ao,an,acap⟩,none,0,0,none,0,0,l1,ns3,nv3,rfl,R.1,rfl,R.2⟩
 ·have HF:=af (show Zc.clause true l= .inr (_,l1.tail)by rw[ae HC,Zc.Bb hst])
  have bU:=af (show (Zc.hd l1).kind≠0 by rw[Zc.cV hst];omega)
  go_wp2_with fail
  refine(dI _ rb s l1 ns3 nv3 e3 true (ae iR) (fun _=>ae bU)).mono ?_
  rintro e wz ⟨rfl,hsz,fM⟩
  have HSz:=af hsz
  have HCLz:=af (eJ.fact ((aS.ka (ae iR) fM).a.ra (ae QK)) (ae QI))
  have HKz:=af ((ae j9).trans fM)
  have HB0z:=af (aq fM (ae qI) (by simp;omega))
  have HBcz:=af (aq fM (ae HBc4) (by simp;omega))
  clear hsz fM
  have r0:=ah (ae HB0z)
  have x0:=ay (ae HB0z)
  have z0:=ag (ae HB0z)
  have rc:=ah (ae HBcz)
  have zc:=ag (ae HBcz)
  go_wp2_with fail
  refine bodyPost_ret (v:= .tuple #[.agg #[.int .i64 k,.int .i64 val,.string tx,.slice ao an acap,.slice none 0 0,.slice none 0 0],.bool true]) (by simp[results,Tryz.results39,go_sem,r0]) rfl ?_
  rw[ae HF]
  have R:=bR (ae HSz) (ae HKz) hlt (Nat.le_refl _) (ae HB0z) (((((((aD.refl _ _).set 0 (.int .i64 k)).set 1 (.int .i64 val)).set 2 (.string tx)).set 3 (.slice ao an acap)).set 4 (.slice none 0 0)).set 5 (.slice none 0 0))
  exact⟨⟨k,val,tx,ao,an,acap⟩,none,0,0,none,0,0,ns3,nv3,e3,rfl,(ae HCLz).keep (aS.py (ae HB0z) (((((((aD.refl _ _).set 0 (.int .i64 k)).set 1 (.int .i64 val)).set 2 (.string tx)).set 3 (.slice ao an acap)).set 4 (.slice none 0 0)).set 5 (.slice none 0 0))),R.1,R.2⟩
theorem QL (w:World) (rb:Nat) (s:ByteArray) (l:List Zc.aj) (ns:List ByteArray) (nv:Value) (e0:Int) (n:Nat) (h:St w rb s l ns nv e0) (hk:(Zc.hd l).kind=2) (hn:n<12) (t:Zc.Tm) (l1:List Zc.aj) (hT:Zc.term 8 l= .inr (t,l1)) (qg:Zc.sees l1 [58,45]=true) (er ps:Nat) (hI:Zc.body l1.tail= .inl (er,ps)):
 Calls Tryz.prog 39 #[.pointer (some ⟨rb,0,none⟩),.int .i64 (n:Int)] w fun e w'=>Ci rb s (Zc.clause true l) w e w':=by
 have HF:=af (show Zc.clause true l= .inl (er,ps)from Zc.DB hk hT qg hI)
 have QM:=af (show (Zc.hd l1).kind≠0 by rw[Zc.cV qg];omega)
 have HI:=af hI
 clear hI
 have HQ:=af hk
 have I:=af (fun W (hW:St W rb s l [] (.slice none 0 0) e0)=>term_all 8 W rb s l [] (.slice none 0 0) e0 1 rfl hW)
 rw[hT]at I
 clear hT hk
 have hlt:=h.lt
 obtain⟨hS,hK,hB0,hBc⟩:=lN h (.cells #[.int .i64 0,.int .i64 0,.string ⟨#[]⟩,.slice none 0 0,.slice none 0 0,.slice none 0 0] 78)
 have HS:=af hS
 have HK:=af hK
 have bf:=af hB0
 have HBc:=af hBc
 clear hS hK hB0 hBc h
 go_enter Tryz.func39,Tryz.ntmps39
 go_wp2_with fail
 refine(rM _ rb s l ns nv e0 n (ae HS) (ae HQ) hn).mono ?_
 rintro e w9 ⟨rfl,hw⟩
 rw[hw]
 clear hw w9
 generalize q8:((w.alloc (.cells #[.int .i64 0,.int .i64 0,.string ⟨#[]⟩,.slice none 0 0,.slice none 0 0,.slice none 0 0] 78)).alloc (.cells #[.int .i64 0,.int .i64 0,.string ⟨#[]⟩,.slice none 0 0,.slice none 0 0,.slice none 0 0] 78))=w1 at*
 have f4:=(ae HS).rd.f4
 have c4:=(ae HS).rd.c4
 have nP:=(ae HS).lt
 have N:=af ((ae HS).uW)
 go_wp2_with fail
 clear f4 c4 nP q8
 have cZ:=af ((ae HK).trans (ae N).2)
 have jL:=af (aG (ae bf) (show w.heap.size≠rb by omega) 4 (.slice none 0 0))
 have HBc1:=af (aG (ae HBc) (show w.heap.size+1≠rb by omega) 4 (.slice none 0 0))
 generalize w1.setCell ⟨rb,4,none⟩ (.slice none 0 0)=w2 at*
 refine(ae I _ (ae N).1).mono ?_
 rintro e w3 ⟨val,tx,ao,acap,ns3,nv3,e3,rfl,-,hs3,hk3⟩
 have eK:=af hs3
 have ez:=af ((ae cZ).trans hk3)
 have dy:=af (aq hk3 (ae jL) (by simp;omega))
 have HBc3:=af (aq hk3 (ae HBc1) (by simp;omega))
 clear hs3 hk3
 generalize ak t.kind=k at*
 generalize t.args.length=an at*
 have rc:=ah (ae HBc3)
 have xc:=ay (ae HBc3)
 have zc:=ag (ae HBc3)
 have z0:=ag (ae dy)
 have QJ:w.heap.size<w3.heap.size:=ag (ae dy)
 go_wp2_with fail
 clear rc xc zc z0
 have R:=af (bR (ae eK) (ae ez) hlt (show w.heap.size≤w.heap.size+1 by omega) (ae HBc3) (((((aD.refl _ _).set 0 (.int .i64 k)).set 1 (.int .i64 val)).set 2 (.string tx)).set 3 (.slice ao an acap)))
 have HBc4:=af (aB (FZ (.int .i64 k) (.int .i64 val) (.string tx) (.slice ao an acap) (ae HBc3)) (.cells #[.int .i64 k,.int .i64 val,.string tx,.slice ao an acap] 76))
 have qI:=af (aB (aG (aG (aG (aG (ae dy) (show w.heap.size≠w.heap.size+1 by omega) 0 (.int .i64 k)) (show w.heap.size≠w.heap.size+1 by omega) 1 (.int .i64 val)) (show w.heap.size≠w.heap.size+1 by omega) 2 (.string tx)) (show w.heap.size≠w.heap.size+1 by omega) 3 (.slice ao an acap)) (.cells #[.int .i64 k,.int .i64 val,.string tx,.slice ao an acap] 76))
 have iR:=af ((ae R).1.below ((Below.refl _ _).alloc (Nat.le_refl _) (.cells #[.int .i64 k,.int .i64 val,.string tx,.slice ao an acap] 76)))
 have j9:=af ((ae R).2.alloc (.cells #[.int .i64 k,.int .i64 val,.string tx,.slice ao an acap] 76))
 clear R dy HBc3 eK ez
 generalize ((((w3.setCell ⟨w.heap.size+1,0,none⟩ (.int .i64 k)).setCell ⟨w.heap.size+1,1,none⟩ (.int .i64 val)).setCell ⟨w.heap.size+1,2,none⟩ (.string tx)).setCell ⟨w.heap.size+1,3,none⟩ (.slice ao an acap)).alloc (.cells #[.int .i64 k,.int .i64 val,.string tx,.slice ao an acap] 76)=w4 at*
 obtain⟨a,ha⟩:∃a:TV,a=⟨k,val,tx,ao,an,acap⟩:=⟨_,rfl⟩
 refine(bC _ rb s l1 ns3 nv3 e3 _ (ae iR)).mono ?_
 rintro e w9 ⟨rfl,hw⟩
 rw[hw]
 simp only[ByteArray.toList_mk]
 rw[qg]
 clear hw w9
 go_wp2_with fail
 refine(fP _ rb s l1 ns3 nv3 e3 (ae iR) (ae QM)).mono ?_
 rintro e w5 ⟨rfl,hs5,bU⟩
 have iD:=af hs5
 have jx:=af ((ae j9).trans bU)
 have kH:=af (aq bU (ae qI) (by simp;omega))
 have HBc5:=af (aq bU (ae HBc4) (by simp;omega))
 clear hs5 bU iR j9 qI HBc4
 have J:=af (Cb w5 rb (w.heap.size+1) _ _ _ _ s l1.tail ns3 nv3 e3 (ae iD) (ae HBc5) (by omega) (by omega))
 rw[ae HI]at J
 go_wp2_with fail
 refine(ae J).mono ?_
 rintro e w6 ⟨l6,ns6,nv6,o1,n1,c1,o2,n2,c2,rfl,Jh,cm,eR,zW⟩
 have HP:=af cm
 clear cm
 have mM:=af Jh
 have oz:=af ((((ae jx).mono (Y:=[rb,w.heap.size+1]) (by simp)).trans zW).forget (X:=[rb]) (by simp))
 have wI:=af (aq zW (ae kH) (by simp;omega))
 have HBc6:=af eR
 clear Jh zW eR iD jx kH HBc5 J
 have r0:=ah (ae wI)
 have x0:=ay (ae wI)
 have z0:=ag (ae wI)
 have rc:=ah (ae HBc6)
 have zc:=ag (ae HBc6)
 go_wp2_with fail
 refine bodyPost_ret (v:= .tuple #[.agg #[.int .i64 k,.int .i64 val,.string tx,.slice ao an acap,.slice o1 n1 c1,.slice o2 n2 c2],.bool false]) (by simp[results,Tryz.results39,go_sem,r0]) rfl ?_
 rw[ae HF]
 have R:=bR (ae mM) (ae oz) hlt (Nat.le_refl _) (ae wI) (((((((aD.refl _ _).set 0 (.int .i64 k)).set 1 (.int .i64 val)).set 2 (.string tx)).set 3 (.slice ao an acap)).set 4 (.slice o1 n1 c1)).set 5 (.slice o2 n2 c2))
 exact⟨⟨k,val,tx,ao,an,acap⟩,o1,n1,c1,o2,n2,c2,l6,ns6,nv6,rfl,R.1,ae HP,R.2⟩
theorem Ln (w:World) (rb:Nat) (s:ByteArray) (l:List Zc.aj) (ns:List ByteArray) (nv:Value) (e0:Int) (n:Nat) (h:St w rb s l ns nv e0) (hk:(Zc.hd l).kind=2) (hn:n<12) (t:Zc.Tm) (l1:List Zc.aj) (hT:Zc.term 8 l= .inr (t,l1)) (qg:Zc.sees l1 [58,45]=true) (tsg gsg:List Zc.aH) (l2:List Zc.aj) (hI:Zc.body l1.tail= .inr ((tsg,gsg),l2)):
 Calls Tryz.prog 39 #[.pointer (some ⟨rb,0,none⟩),.int .i64 (n:Int)] w fun e w'=>Ci rb s (Zc.clause true l) w e w':=by
 have HC:=af (Zc.DC hk hT qg hI)
 have QM:=af (show (Zc.hd l1).kind≠0 by rw[Zc.cV qg];omega)
 have HI:=af hI
 clear hI
 have HQ:=af hk
 have I:=af (fun W (hW:St W rb s l [] (.slice none 0 0) e0)=>term_all 8 W rb s l [] (.slice none 0 0) e0 1 rfl hW)
 rw[hT]at I
 clear hT hk
 have hlt:=h.lt
 obtain⟨hS,hK,hB0,hBc⟩:=lN h (.cells #[.int .i64 0,.int .i64 0,.string ⟨#[]⟩,.slice none 0 0,.slice none 0 0,.slice none 0 0] 78)
 have HS:=af hS
 have HK:=af hK
 have bf:=af hB0
 have HBc:=af hBc
 clear hS hK hB0 hBc h
 go_enter Tryz.func39,Tryz.ntmps39
 go_wp2_with fail
 refine(rM _ rb s l ns nv e0 n (ae HS) (ae HQ) hn).mono ?_
 rintro e w9 ⟨rfl,hw⟩
 rw[hw]
 clear hw w9
 generalize q8:((w.alloc (.cells #[.int .i64 0,.int .i64 0,.string ⟨#[]⟩,.slice none 0 0,.slice none 0 0,.slice none 0 0] 78)).alloc (.cells #[.int .i64 0,.int .i64 0,.string ⟨#[]⟩,.slice none 0 0,.slice none 0 0,.slice none 0 0] 78))=w1 at*
 have f4:=(ae HS).rd.f4
 have c4:=(ae HS).rd.c4
 have nP:=(ae HS).lt
 have N:=af ((ae HS).uW)
 go_wp2_with fail
 clear f4 c4 nP q8
 have cZ:=af ((ae HK).trans (ae N).2)
 have jL:=af (aG (ae bf) (show w.heap.size≠rb by omega) 4 (.slice none 0 0))
 have HBc1:=af (aG (ae HBc) (show w.heap.size+1≠rb by omega) 4 (.slice none 0 0))
 generalize w1.setCell ⟨rb,4,none⟩ (.slice none 0 0)=w2 at*
 refine(ae I _ (ae N).1).mono ?_
 rintro e w3 ⟨val,tx,ao,acap,ns3,nv3,e3,rfl,mf,hs3,hk3⟩
 have Jg:=af (show RA 8 (aT ns3) anyA w3 ⟨ak t.kind,val,tx,ao,t.args.length,acap⟩ t from (aN.refl w3).ra mf.rep)
 have QI:=af mf.nms
 clear mf
 have eK:=af hs3
 have ez:=af ((ae cZ).trans hk3)
 have dy:=af (aq hk3 (ae jL) (by simp;omega))
 have HBc3:=af (aq hk3 (ae HBc1) (by simp;omega))
 clear hs3 hk3
 generalize ak t.kind=k at*
 generalize t.args.length=an at*
 have rc:=ah (ae HBc3)
 have xc:=ay (ae HBc3)
 have zc:=ag (ae HBc3)
 have z0:=ag (ae dy)
 have QJ:w.heap.size<w3.heap.size:=ag (ae dy)
 go_wp2_with fail
 clear rc xc zc z0
 have R:=af (bR (ae eK) (ae ez) hlt (show w.heap.size≤w.heap.size+1 by omega) (ae HBc3) (((((aD.refl _ _).set 0 (.int .i64 k)).set 1 (.int .i64 val)).set 2 (.string tx)).set 3 (.slice ao an acap)))
 have HBc4:=af (aB (FZ (.int .i64 k) (.int .i64 val) (.string tx) (.slice ao an acap) (ae HBc3)) (.cells #[.int .i64 k,.int .i64 val,.string tx,.slice ao an acap] 76))
 have qI:=af (aB (aG (aG (aG (aG (ae dy) (show w.heap.size≠w.heap.size+1 by omega) 0 (.int .i64 k)) (show w.heap.size≠w.heap.size+1 by omega) 1 (.int .i64 val)) (show w.heap.size≠w.heap.size+1 by omega) 2 (.string tx)) (show w.heap.size≠w.heap.size+1 by omega) 3 (.slice ao an acap)) (.cells #[.int .i64 k,.int .i64 val,.string tx,.slice ao an acap] 76))
 have iR:=af ((ae R).1.below ((Below.refl _ _).alloc (Nat.le_refl _) (.cells #[.int .i64 k,.int .i64 val,.string tx,.slice ao an acap] 76)))
 have j9:=af ((ae R).2.alloc (.cells #[.int .i64 k,.int .i64 val,.string tx,.slice ao an acap] 76))
 have QK:=af (((aS.py (ae HBc3) (((((aD.refl _ _).set 0 (.int .i64 k)).set 1 (.int .i64 val)).set 2 (.string tx)).set 3 (.slice ao an acap))).trans (aS.alloc _ (.cells #[.int .i64 k,.int .i64 val,.string tx,.slice ao an acap] 76))).a.ra (ae Jg))
 clear R dy HBc3 eK ez Jg
 generalize ((((w3.setCell ⟨w.heap.size+1,0,none⟩ (.int .i64 k)).setCell ⟨w.heap.size+1,1,none⟩ (.int .i64 val)).setCell ⟨w.heap.size+1,2,none⟩ (.string tx)).setCell ⟨w.heap.size+1,3,none⟩ (.slice ao an acap)).alloc (.cells #[.int .i64 k,.int .i64 val,.string tx,.slice ao an acap] 76)=w4 at*
 obtain⟨a,ha⟩:∃a:TV,a=⟨k,val,tx,ao,an,acap⟩:=⟨_,rfl⟩
 refine(bC _ rb s l1 ns3 nv3 e3 _ (ae iR)).mono ?_
 rintro e w9 ⟨rfl,hw⟩
 rw[hw]
 simp only[ByteArray.toList_mk]
 rw[qg]
 clear hw w9
 go_wp2_with fail
 refine(fP _ rb s l1 ns3 nv3 e3 (ae iR) (ae QM)).mono ?_
 rintro e w5 ⟨rfl,hs5,bU⟩
 have iD:=af hs5
 have Xw:=af ((aS.ka (ae iR) bU).a.ra (ae QK))
 have jx:=af ((ae j9).trans bU)
 have kH:=af (aq bU (ae qI) (by simp;omega))
 have HBc5:=af (aq bU (ae HBc4) (by simp;omega))
 clear hs5 bU iR j9 qI HBc4
 have J:=af (Cb w5 rb (w.heap.size+1) _ _ _ _ s l1.tail ns3 nv3 e3 (ae iD) (ae HBc5) (by omega) (by omega))
 rw[ae HI]at J
 go_wp2_with fail
 refine(ae J).mono ?_
 rintro e w6 ⟨ns6,nv6,e6,o1,n1,c1,o2,n2,c2,rfl,QN,Jh,eR,zW⟩
 have vR:=af (eJ.body ((aS.Qt (ae iD) (ae HBc5) zW).a.ra (ae Xw)) (ae QI) QN)
 clear QN
 have mM:=af Jh
 have oz:=af ((((ae jx).mono (Y:=[rb,w.heap.size+1]) (by simp)).trans zW).forget (X:=[rb]) (by simp))
 have wI:=af (aq zW (ae kH) (by simp;omega))
 have HBc6:=af eR
 clear Jh zW eR iD jx kH HBc5 J
 go_wp2_with fail
 refine(bC _ rb s l2 ns6 nv6 e6 _ (ae mM)).mono ?_
 rintro e w9 ⟨rfl,hw⟩
 rw[hw]
 simp only[ByteArray.toList_mk]
 clear hw w9
 cases hst:Zc.sees l2 [46]
 ·have HF:=af (show Zc.clause true l= .inl (2,(Zc.hd l2).pos)by rw[ae HC,Zc.DZ hst];rfl)
  go_wp2_with fail
  refine(dI _ rb s l2 ns6 nv6 e6 false (ae mM) (fun q=>by cases q)).mono ?_
  rintro e wz ⟨rfl,hsz,fM⟩
  have HSz:=af hsz
  have HKz:=af ((ae oz).trans fM)
  have HB0z:=af (aq fM (ae wI) (by simp;omega))
  have HBcz:=af (aq fM (ae HBc6) (by simp;omega))
  clear hsz fM
  have r0:=ah (ae HB0z)
  have x0:=ay (ae HB0z)
  have z0:=ag (ae HB0z)
  have rc:=ah (ae HBcz)
  have zc:=ag (ae HBcz)
  go_wp2_with fail
  refine bodyPost_ret (v:= .tuple #[.agg #[.int .i64 k,.int .i64 val,.string tx,.slice ao an acap,.slice o1 n1 c1,.slice o2 n2 c2],.bool false]) (by simp[results,Tryz.results39,go_sem,r0]) rfl ?_
  rw[ae HF]
  have R:=bR (ae HSz) (ae HKz) hlt (Nat.le_refl _) (ae HB0z) (((((((aD.refl _ _).set 0 (.int .i64 k)).set 1 (.int .i64 val)).set 2 (.string tx)).set 3 (.slice ao an acap)).set 4 (.slice o1 n1 c1)).set 5 (.slice o2 n2 c2))
  exact⟨⟨k,val,tx,ao,an,acap⟩,o1,n1,c1,o2,n2,c2,l2,ns6,nv6,rfl,R.1,rfl,R.2⟩
 ·have HF:=af (show Zc.clause true l= .inr (_,l2.tail)by rw[ae HC,Zc.Bb hst])
  have bU:=af (show (Zc.hd l2).kind≠0 by rw[Zc.cV hst];omega)
  go_wp2_with fail
  refine(dI _ rb s l2 ns6 nv6 e6 true (ae mM) (fun _=>ae bU)).mono ?_
  rintro e wz ⟨rfl,hsz,fM⟩
  have HSz:=af hsz
  have HCLz:=af ((ae vR).keep (aS.ka (ae mM) fM))
  have HKz:=af ((ae oz).trans fM)
  have HB0z:=af (aq fM (ae wI) (by simp;omega))
  have HBcz:=af (aq fM (ae HBc6) (by simp;omega))
  clear hsz fM
  have r0:=ah (ae HB0z)
  have x0:=ay (ae HB0z)
  have z0:=ag (ae HB0z)
  have rc:=ah (ae HBcz)
  have zc:=ag (ae HBcz)
  go_wp2_with fail
  refine bodyPost_ret (v:= .tuple #[.agg #[.int .i64 k,.int .i64 val,.string tx,.slice ao an acap,.slice o1 n1 c1,.slice o2 n2 c2],.bool true]) (by simp[results,Tryz.results39,go_sem,r0]) rfl ?_
  rw[ae HF]
  have R:=bR (ae HSz) (ae HKz) hlt (Nat.le_refl _) (ae HB0z) (((((((aD.refl _ _).set 0 (.int .i64 k)).set 1 (.int .i64 val)).set 2 (.string tx)).set 3 (.slice ao an acap)).set 4 (.slice o1 n1 c1)).set 5 (.slice o2 n2 c2))
  exact⟨⟨k,val,tx,ao,an,acap⟩,o1,n1,c1,o2,n2,c2,ns6,nv6,e6,rfl,(ae HCLz).keep (aS.py (ae HB0z) (((((((aD.refl _ _).set 0 (.int .i64 k)).set 1 (.int .i64 val)).set 2 (.string tx)).set 3 (.slice ao an acap)).set 4 (.slice o1 n1 c1)).set 5 (.slice o2 n2 c2))),R.1,R.2⟩
theorem F5 (w:World) (rb:Nat) (s:ByteArray) (l:List Zc.aj) (ns:List ByteArray) (nv:Value) (e0:Int) (n:Nat) (h:St w rb s l ns nv e0):
 Calls Tryz.prog 39 #[.pointer (some ⟨rb,0,none⟩),.int .i64 (n:Int)] w fun e w'=>Ci rb s (Zc.clause (decide (n<12)) l) w e w':=by
 by_cases hk:(Zc.hd l).kind=2
 ·by_cases hn:n<12
  ·rw[show decide (n<12)=true by simpa using hn]
   rcases hT:Zc.term 8 l with⟨er,ps⟩ | ⟨t,l1⟩
   ·exact Ll w rb s l ns nv e0 n h hk hn er ps hT
   ·cases qg:Zc.sees l1 [58,45]
    ·exact Lm w rb s l ns nv e0 n h hk hn t l1 hT qg
    ·rcases hI:Zc.body l1.tail with⟨er,ps⟩ | ⟨⟨tsg,gsg⟩,l2⟩
     ·exact QL w rb s l ns nv e0 n h hk hn t l1 hT qg er ps hI
     ·exact Ln w rb s l ns nv e0 n h hk hn t l1 hT qg tsg gsg l2 hI
  ·rw[show decide (n<12)=false by simpa using hn]
   exact Tx w rb s l ns nv e0 n h hk (by omega)
 ·exact Tw w rb s l ns nv e0 n h hk _
theorem Tryz.info78:(Tryz.prog.info? 78).map (fun i=>(i.zero,i.size,i.bytes))=some (some (.agg #[.int .i64 0,.int .i64 0,.string ⟨#[]⟩,.slice none 0 0,.slice none 0 0,.slice none 0 0]),6,104):=by kernel_rfl
theorem F6 {w:World} {b:Nat} {e:TypeId} {sz:Nat} {v:Value} {n:Nat} {xs:List Value} (h:w.ownsRow b e sz v n xs):∃o cap,v= .slice o n cap:=by
 rcases h.2 with⟨q,rfl⟩ | ⟨g,cap,cur,q,_⟩
 ·exact⟨none,0,q⟩
 ·exact⟨some ⟨g,0,none⟩,cap,q⟩
theorem Tz (a:TV) (o1 o2:Option Addr) (n1 c1 n2 c2:Nat):∀u∈([.int .i64 a.k,.int .i64 a.val,.string a.tx,.slice a.ao a.n a.cap,.slice o1 n1 c1,.slice o2 n2 c2]:List Value),u.oneCell'=true:=by
 simp[Value.oneCell']
theorem aS.grown {w w':World} {b0:Nat} {T:TypeId} {sz:Nat} {av:Value} {n:Nat} {xs:List Value} (ho:w.ownsRow b0 T sz av n xs) (hg:w.grownBy w' av.ownBlock) (hT:T≠76:=by decide) (hJ:T≠151:=by decide):aS w w':=
 ⟨aN.grown ho hg hT,fun g cs hc _=>(hg.block g (Array.getElem?_eq_some_iff.1 hc).1 (fun q=>by
  rcases ho.2 with⟨rfl,_⟩ | ⟨g',cap,cur,rfl,_,c,_⟩
  ·simp[Value.ownBlock]at q
  ·simp[Value.ownBlock]at q
   subst q
   rw[c]at hc;simp at hc;exact hJ hc.2)).trans hc⟩
structure QV where
 a:TV
 o1:Option Addr
 n1:Nat
 c1:Nat
 o2:Option Addr
 n2:Nat
 c2:Nat
def oA (v:QV):List Value:=[.int .i64 v.a.k,.int .i64 v.a.val,.string v.a.tx,.slice v.a.ao v.a.n v.a.cap,.slice v.o1 v.n1 v.c1,.slice v.o2 v.n2 v.c2]
theorem F7 (vs:List QV):(vs.flatMap oA).length=vs.length*6:=by
 induction vs with
 | nil=>rfl
 | cons a r ih=>rw[List.flatMap_cons,List.length_append,ih];simp[oA];omega
def yF (w:World) (v:QV) (c:Zc.aJ):Prop:=eJ w v.a v.o1 v.n1 v.o2 v.n2 c
def tY (w:World) (xs:List Value) (ys:List Zc.aJ):Prop:=∃vs:List QV,xs=vs.flatMap oA∧bO (yF w) vs ys
theorem tY.keep {w w':World} {xs:List Value} {ys:List Zc.aJ} (h:tY w xs ys) (hk:aS w w'):tY w' xs ys:=by
 obtain⟨vs,rfl,ha⟩:=h
 exact⟨vs,rfl,ha.imp fun _ _ q=>eJ.keep q hk⟩
theorem tY.snoc {w:World} {xs:List Value} {ys:List Zc.aJ} {v:QV} {x:Zc.aJ} (h:tY w xs ys) (q:yF w v x):tY w (xs++oA v) (ys++[x]):=by
 obtain⟨vs,rfl,ha⟩:=h
 exact⟨vs++[v],by simp,bO.snoc q ha⟩
def df (w:World) (o:Option Addr) (n:Nat) (ys:List Zc.aJ):Prop:=n=ys.length∧(ys≠[]→∃(g:Nat) (vs:List QV) (cs:Array Value),o=some ⟨g,0,none⟩∧w.heap[g]?=some (.cells cs 78 (0,0))∧cs.toList.take (vs.length*6)=vs.flatMap oA∧bO (yF w) vs ys)
theorem df.B7 {w:World} {b0 n cap:Nat} {o:Option Addr} {xs:List Value} {ys:List Zc.aJ} (h:tY w xs ys) (ho:w.ownsRow b0 78 6 (.slice o n cap) n xs):df w o n ys:=by
 obtain⟨vs,rfl,ha⟩:=h
 have hl:=ho.1
 rw[F7]at hl
 have hl':=ha.length
 refine⟨by omega,fun hne=> ?_⟩
 rcases ho.2 with⟨q,h0⟩ | ⟨g',cap',cur,q,_,hc,_,_,_,ht⟩
 ·exact absurd (List.length_eq_zero_iff.1 (show ys.length=0 by omega)) hne
 ·simp only[Value.slice.injEq,true_and]at q
  obtain⟨rfl,rfl⟩:=q
  exact⟨g',vs,cur,rfl,hc,by rw[show vs.length=n by omega];exact ht,ha⟩
theorem df.py {w w':World} {o:Option Addr} {n:Nat} {ys:List Zc.aJ} (h:df w o n ys) {b:Nat} {C:Array Value} {T:TypeId} (hb:w.heap[b]?=some (.cells C T (0,0))) (ho:aD b w w') (hT:T≠76:=by decide) (hJ:T≠151:=by decide) (hC:T≠78:=by decide):df w' o n ys:=
 ⟨h.1,fun q=>by
  obtain⟨g,vs,cs,h1,h2,h3,h4⟩:=h.2 q
  exact⟨g,vs,cs,h1,(ho.block g (fun e=>by subst e;rw[hb]at h2;simp at h2;exact hC h2.2)).trans h2,h3,h4.imp fun _ _ r=>eJ.keep r (aS.py hb ho hT hJ)⟩⟩
theorem Lp {w1:World} {s:ByteArray} {L:List Zc.aj} (aV:dN w1) (h0:0<w1.heap.size) (hL:Zc.eo s L) (hh:Zc.hd L=Zc.next s 0) (hl:L.length≤1000) (hs:s.size≤240):
 St (w1.alloc (.cells #[.string s,.int .i64 ((Zc.next s 0).kind:Int),.int .i64 ((Zc.next s 0).pos:Int),.string (Zc.next s 0).text,.slice none 0 0,.int .i64 0] 73)) w1.heap.size s L [] (.slice none 0 0) 0:=by
 have hb:=heap_alloc_new w1 (.cells #[.string s,.int .i64 ((Zc.next s 0).kind:Int),.int .i64 ((Zc.next s 0).pos:Int),.string (Zc.next s 0).text,.slice none 0 0,.int .i64 0] 73)
 have c:=ah hb
 have f:=ay hb
 exact⟨⟨by rw[c];rfl,by rw[c,hh];rfl,by rw[c,hh];rfl,by rw[c,hh];rfl,by rw[c];rfl,by rw[c];rfl,f 1,f 2,f 3,f 4,f 5⟩,World.ownsRow_nil _ _ _ _,hL,⟨0,hh⟩,by simpa using hl,hs,aV.below ((Below.refl _ _).alloc (Nat.le_refl _) _) h0,h0,by simp⟩
def LQ (w:World) (rb:Nat) (s:ByteArray) (L:List Zc.aj) (k:Nat) (ov:Value) (wr:World):Prop:=
 ∃(n:Nat) (xs:List Value) (l:List Zc.aj) (ns:List ByteArray) (nv:Value) (e:Int),St wr rb s l ns nv e∧Below w.heap.size w wr∧
  wr.heap[w.heap.size]?=some (.cells #[.slice none 0 0,.int .i64 0,.int .i64 0] 52 (0,0))∧
  wr.ownsRow (rb+1) 78 6 ov n xs∧n≤12∧k+n=13∧∃ys:List Zc.aJ,Zc.prog 12 L=Zc.wj ys (Zc.prog (12 - n) l)∧tY wr xs ys
theorem TB {w w5 w7:World} {rb:Nat} {s:ByteArray} {l:List Zc.aj} {ns:List ByteArray} {nv:Value} {e:Int} {n:Nat} {av:Value} {xs:List Value} {X A Y:Obj}
 (hS:St w5 rb s l ns nv e) (hB:Below w.heap.size w w5) (hw:w.heap.size<rb) (hb:w5.heap[w.heap.size]?=some Y)
 (ho:w5.ownsRow (rb+1) 78 6 av n xs)
 (hg:((w5.alloc X).alloc A).grownBy w7 av.ownBlock):
 St w7 rb s l ns nv e∧Below w.heap.size w w7∧w7.heap[w.heap.size]?=some Y∧aS w5 w7:=by
 have hlt:=hS.lt
 have h1:Below (rb+1) w5 w7:=(((Below.refl _ _).alloc (by omega) X).alloc (by simp;omega) A).grown hg (by simp;omega) (fun k q=>(ho.lt k q).1)
 have bB:Below w5.heap.size w5 ((w5.alloc X).alloc A):=((Below.refl _ _).alloc (Nat.le_refl _) _).alloc (by simp) _
 have PN:∀k,av.ownBlock=some k→aP ((w5.alloc X).alloc A) k≠some 9:=fun k gj=>by
  have:=ho.lt k gj
  rcases ho.2 with⟨rfl,_⟩ | ⟨g,cap,cur,rfl,_,c,_⟩
  ·simp[Value.ownBlock]at gj
  ·simp[Value.ownBlock]at gj
   subst gj
   unfold aP;rw[bB.block g this.2,c];simp
 exact⟨(hS.below bB).grown hg (fun k q=>⟨by have:=(ho.lt k q).1;omega,PN k q⟩),hB.trans (h1.mono (by omega)),(h1.block _ (by omega)).trans hb,((aS.alloc w5 X).trans (aS.alloc _ A)).trans (aS.grown ((ho.alloc X).alloc A) hg)⟩
def VP (r:Zc.dR (List Zc.aJ)) (w:World) (e:Ending) (w':World):Prop:=
 ∃(o:Option Addr) (n c:Nat),e= .returned (.agg #[.slice o n c,.int .i64 (Zc.Fm r:Int),.int .i64 (Zc.posOf r:Int)])∧(match r with | .inl _=>n=0 | .inr (ys,_)=>df w' o n ys)∧Below w.heap.size w w'
theorem OL (w:World) (s:ByteArray) (L:List Zc.aj) (hs:s.size≤240) (hL:Zc.eo s L) (hh:Zc.hd L=Zc.next s 0) (hl:L.length≤1000) (aV:dN w) (h0:0<w.heap.size):
 Calls Tryz.prog 26 #[.string s] w fun e w'=>VP (Zc.prog 12 L) w e w':=by
 obtain⟨ti,hi,hz0',Lh,FO⟩:=info_parts Tryz.info78
 have hsz:decide (240<(s.size:Int))=false:=by simp;omega
 have jM:=af aV
 clear aV
 go_enter Tryz.func26,Tryz.ntmps26
 go_wp2_with fail
 refine(wk s 0 _ (by unfold maxLen;omega) (Nat.zero_le _) ((ae jM).below ((Below.refl _ _).alloc (Nat.le_refl _) _) h0) (by simp)).mono ?_
 rintro e w1 ⟨rfl,hb1⟩
 have Cj:=((ae jM).below ((Below.refl _ _).alloc (Nat.le_refl _) (.cells #[.slice none 0 0,.int .i64 0,.int .i64 0] 52)) h0).below hb1 (by simp)
 have q8:w.heap.size<w1.heap.size:=by have:=hb1.size;simp at this;omega
 have HL:=af (show LQ w w1.heap.size s L 13 (.slice none 0 0) (w1.alloc (.cells #[.string s,.int .i64 ((Zc.next s 0).kind:Int),.int .i64 ((Zc.next s 0).pos:Int),.string (Zc.next s 0).text,.slice none 0 0,.int .i64 0] 73))from
  ⟨0,[],L,[],_,0,Lp Cj (by omega) hL hh hl hs,(((Below.refl _ _).alloc (Nat.le_refl _) _).trans (hb1.mono (by simp))).alloc (by omega) _,aB ((hb1.block w.heap.size (by simp)).trans (heap_alloc_new w _)) _,World.ownsRow_nil _ _ _ _,by omega,by omega,[],(Zc.Kn _).symm,[],rfl,trivial⟩)
 clear hb1 Cj jM hL hh hl
 generalize (Zc.next s 0).kind=tk at*
 generalize (Zc.next s 0).pos=tp at*
 generalize (Zc.next s 0).text=tt at*
 go_wp2_with fail
 generalize mH:w1.heap.size=rb at*
 go_loopg [4] 13 (fun k ov wr=>LQ w rb s L k ov wr)
 case atStart=>exact ae HL
 case round=>
  clear HL mH
  obtain⟨n,xs,l,ns,nv,e1,hS,hB,hb0,ho,VQ,Xu,ys,B8,hrow⟩:=hrel
  have lq:=af hrow
  clear hrow
  obtain⟨oo,cp,rfl⟩:=F6 ho
  have HS:=af hS
  have HB:=af hB
  have bf:=af hb0
  have HO:=af ho
  have tW:=af B8
  have c1:=hS.rd.c1
  have nP:=hS.lt
  have r0:=ah hb0
  have x0:=ay hb0
  have z0:=ag hb0
  clear hS hB hb0 ho B8
  by_cases gp:(Zc.hd l).kind=0
  ·have HF:=af (show Zc.prog 12 L= .inr (ys++[],l)by rw[ae tW,Zc.Ko gp];rfl)
   rw[gp]at c1
   clear gp
   go_wp2_with fail
   refine bodyPost_ret (v:= .agg #[.slice oo n cp,.int .i64 0,.int .i64 0]) (by simp[results,Tryz.results26,go_sem,r0]) rfl ?_
   rw[ae HF]
   have CC:=(df.B7 (ae lq) (ae HO))
   exact⟨_,_,_,rfl,by rw[List.append_nil];exact CC.py (ae bf) ((((aD.refl _ _).set 0 (.slice oo n cp)).set 1 (.int .i64 0)).set 2 (.int .i64 0)),(((ae HB).setCell (p:=⟨w.heap.size,0,none⟩) (Nat.le_refl _) _).setCell (p:=⟨w.heap.size,1,none⟩) (Nat.le_refl _) _).setCell (p:=⟨w.heap.size,2,none⟩) (Nat.le_refl _) _⟩
  ·have hq:(((Zc.hd l).kind:Int) != 0)=true:=by simp;omega
   have H0:=af gp
   have I:=af (F5 wr rb s l ns nv e1 n (ae HS))
   generalize hC:Zc.clause (decide (n<12)) l=r at I
   have HC:=af hC
   clear hC gp
   generalize ((Zc.hd l).kind:Int)=q at*
   go_wp2_with fail
   refine(ae I).mono ?_
   clear c1 nP r0 x0 z0 hq
   rcases r with⟨er,pos⟩ | ⟨c,l1⟩
   ·rintro e w5 ⟨a,o1,n1,cc1,o2,n2,cc2,l',ns',nv',rfl,hs5,cm,bU⟩
    subst cm
    have HF:=af (show Zc.prog 12 L= .inl (er,(Zc.hd l').pos)by rw[ae tW,Zc.Kp VQ (ae H0) (ae HC)];rfl)
    have bM:=af ((ae HB).trans (bU.below (by have:=(ae HB).size;omega) (by omega) (by simp;omega)))
    have kH:=af (aq bU (ae bf) (by simp;omega))
    have c2:=hs5.rd.c2
    have c5:=hs5.rd.c5
    have VR:=hs5.lt
    have r0:=ah (ae kH)
    have x0:=ay (ae kH)
    have z0:=ag (ae kH)
    clear hs5 bU
    go_wp2_with fail
    refine bodyPost_ret (v:= .agg #[.slice none 0 0,.int .i64 er,.int .i64 (Zc.hd l').pos]) (by simp[results,Tryz.results26,go_sem,z0,r0]) rfl ?_
    rw[ae HF]
    exact⟨_,_,_,rfl,rfl,((((ae bM).setCell (p:=⟨w.heap.size,0,none⟩) (Nat.le_refl _) _).setCell (p:=⟨w.heap.size,1,none⟩) (Nat.le_refl _) _).setCell (p:=⟨w.heap.size,2,none⟩) (Nat.le_refl _) _).alloc (by simp;omega) _⟩
   ·rintro e w5 ⟨a,o1,n1,cc1,o2,n2,cc2,ns5,nv5,e5,rfl,gu,hs5,bU⟩
    have AX:=af (((ae lq).keep (aS.ka (ae HS) bU)).snoc (v:=⟨a,o1,n1,cc1,o2,n2,cc2⟩) gu)
    clear gu
    have iD:=af hs5
    have bM:=af ((ae HB).trans (bU.below (by have:=(ae HB).size;omega) (by omega) (by simp;omega)))
    have kH:=af (aq bU (ae bf) (by simp;omega))
    have B9:=af (td (ae HO) bU (by omega) (by decide))
    have VR:=hs5.lt
    clear hs5 bU
    go_wp2_with (first | (at_builtin;go_must (refine wpList_append_own _ rfl (.tmp 33) (.tmp 35) 50 rfl (rb+1) 78 ti (.agg #[.int .i64 0,.int .i64 0,.string ⟨#[]⟩,.slice none 0 0,.slice none 0 0,.slice none 0 0]) 6 104 Tryz.underlying50 hi hz0' Lh FO rfl (by decide) _ n xs rfl (((ae B9).alloc _).alloc _) ⟨w5.heap.size+1,0,none⟩ 1 1 [.int .i64 a.k,.int .i64 a.val,.string a.tx,.slice a.ao a.n a.cap,.slice o1 n1 cc1,.slice o2 n2 cc2] rfl rfl (FX _ _ _ _ _ (by simp) rfl) (Tz a o1 o2 n1 cc1 n2 cc2) (by unfold maxLen;omega) (by omega) (by simp;omega) ?_);go_must (intro v' w7 hown' hgrow _;have AU:=af hown';have mL:=af (TB (ae iD) (ae bM) q8 (ae kH) (ae B9) hgrow);clear hown' hgrow)))
    go_roundg (gk - 1)
    case measure=>omega
    case rel=>
     obtain⟨h12,hm⟩:=Zc.G4 (ae H0) (ae HC)
     exact⟨n+1,_,l1,ns5,nv5,e5,(ae mL).1,(ae mL).2.1,(ae mL).2.2.1,ae AU,by omega,by omega,ys++[c],by rw[ae tW,hm,Zc.G3],(ae AX).keep (ae mL).2.2.2⟩
theorem Lq (w:World) (s:ByteArray) (hs:240<s.size):
 Calls Tryz.prog 26 #[.string s] w fun e w'=>e= .returned (.agg #[.slice none 0 0,.int .i64 1,.int .i64 0])∧Below w.heap.size w w':=by
 have hsz:decide (240<(s.size:Int))=true:=by simp;omega
 go_enter Tryz.func26,Tryz.ntmps26
 go_wp2_with fail
 refine bodyPost_ret (v:= .agg #[.slice none 0 0,.int .i64 1,.int .i64 0]) (by simp[results,Tryz.results26,go_sem]) rfl ?_
 exact⟨rfl,((Below.refl _ _).alloc (Nat.le_refl _) _)⟩
end Go.Proofs.YthfjnfcekeknlaaGreatDoor
