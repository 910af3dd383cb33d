import Derived.Test.YthfjnfcekeknlaaGreatDoorSt04
import Derived.Test.YthfjnfcekeknlaaGreatDoorSt12
set_option maxHeartbeats 8000000
set_option maxRecDepth 100000
namespace Go.Proofs.YthfjnfcekeknlaaGreatDoor
open Go.RowKit
theorem zZ (w:World) (rb:Nat) (s:ByteArray) (l:List Za.Tok) (ns:List ByteArray) (nv:Value) (e0:Int) (a:TV) (left:Za.Tm) (t:Za.Tm) (l2:List Za.Tok) (h:St w rb s l ns nv e0) (h0:(Za.hd l).kind≠0) (hO:Za.operand l.tail= .inr (t,l2)) (hop:Za.gB l2=true) (er ps:Nat) (hO2:Za.operand l2.tail= .inl (er,ps)):
 Calls Tryz.prog 135 #[.pointer (some ⟨rb,0,none⟩),.agg #[.int .i64 a.k,.int .i64 a.val,.string a.tx,.slice a.ao a.n a.cap],.bool true] w fun e w'=>mU rb s a left ns (Za.assignment left true l) w e w':=by
 have hlt:=h.lt
 have h0':=hide h0
 have I:=hide (fun W nv (hW:St W rb s l.tail ns nv e0)=>jc W rb s l.tail ns nv e0 hW)
 rw[hO]at I
 obtain⟨hS,hK,hB1,hB2,hz⟩:=jE a (Za.hd l).text h
 unfold jT boxZ kL at hS hK hB1 hB2 hz
 have HS:=hide hS
 have HK:=hide hK
 have aZ:=hide hB1
 have aX:=hide hB2
 have HZ:=hide hz
 clear hS hK hB1 hB2 hz
 obtain⟨⟨c0,c1,c2,c3,c4,c5,f1,f2,f3,f4,f5⟩,own,chain,isn,few,short,signs,pos,lt⟩:=h
 clear own chain isn few short signs c0 c1 c2 c4 c5 f1 f2 f3 f4 f5 h0
 have hc2:∀o1 o2,((w.alloc o1).alloc o2).cell? ⟨rb,3,none⟩=some (.string (Za.hd l).text):=fun o1 o2=>by rw[World.cell?_alloc_past _ _ _ (by simp;omega),World.cell?_alloc_past _ _ _ hlt];exact c3
 have hc3:∀o1 o2 o3,(((w.alloc o1).alloc o2).alloc o3).cell? ⟨rb,3,none⟩=some (.string (Za.hd l).text):=fun o1 o2 o3=>by rw[World.cell?_alloc_past _ _ _ (by simp;omega)];exact hc2 o1 o2
 have HA:Za.assignment left true l= .inl (er,ps):=by unfold Za.assignment;rw[if_pos rfl,hO];simp only[hop,hO2];rfl
 rw[HA]
 have I2:=hide (fun W nv ns e0 (hW:St W rb s l2.tail ns nv e0)=>jc W rb s l2.tail ns nv e0 hW)
 rw[hO2]at I2
 have hk2:=hide (show (Za.hd l2).kind≠0 by simp only[Za.gB,Bool.or_eq_true]at hop;rcases hop with(q | q) | q<;>(rw[Za.cK q];omega))
 clear HA hO hO2
 go_enter Tryz.func135,Tryz.ntmps135
 go_wp2_with fail
 go_big_region
 go_wp2_with fail
 refine(dA _ rb s l ns nv e0 true (ae HS) (fun _=>ae h0')).mono ?_
 rintro e w1 ⟨rfl,hs,hk⟩
 have HB1':=hide (ai hk (ae aZ) (by simp;omega))
 have HB2':=hide (ai hk (ae aX) (by simp;omega))
 have bp:=hide hs
 have cO:=hide ((ae HK).trans hk)
 clear hs hk hc2 hc3 c3
 go_wp2_with fail
 refine(ae I _ _ (ae bp)).mono ?_
 rintro e w2 ⟨val,tx,ao,cap,ns',nv',e',rfl,htx,hs2,hk2⟩
 clear htx
 have hb1:=ai hk2 (ae HB1') (by simp;omega)
 have hb2:=ai hk2 (ae HB2') (by simp;omega)
 have hz1:w.heap.size+1<w2.heap.size:=af hb1
 have hz2:w.heap.size+1+1<w2.heap.size:=af hb2
 have bV:=hide hs2
 have cQ:=hide ((ae cO).trans hk2)
 clear hs2 hk2
 have r:=ag hb1
 have x:=aq hb1
 have q:=ag hb2
 have y:=aq hb2
 have HB1'':=hide hb1
 have HB2'':=hide hb2
 clear hb1 hb2
 have RB:=hide (bO (ae bV) (ae cQ) hlt (by omega) (ae HB2'') (((((aA.refl _ _).set 5 (.int .i64 (ak t.kind))).set 6 (.int .i64 val)).set 7 (.string tx)).set 8 (.slice ao t.args.length cap)))
 go_wp2_with fail
 refine(kG _ rb s l2 ns' nv' e' ((ae RB).1.below ((Below.refl _ _).alloc (Nat.le_refl _) _))).mono ?_
 rintro e w3 ⟨rfl,hw⟩
 rw[hw]
 clear hw w3
 have c3':(w2.alloc (.cells #[.int .i64 (ak t.kind),.int .i64 val,.string tx,.slice ao t.args.length cap] 76)).cell? ⟨rb,3,none⟩=some (.string (Za.hd l2).text):=((ae bV).below ((Below.refl _ _).alloc (Nat.le_refl _) _)).rd.c3
 have c3'':=(ae bV).rd.c3
 have yb:rb<w2.heap.size:=(ae bV).lt
 have RC:=hide (bO (ae bV) (ae cQ) hlt (by omega) (ae HB2'') ((((((aA.refl _ _).set 5 (.int .i64 (ak t.kind))).set 6 (.int .i64 val)).set 7 (.string tx)).set 8 (.slice ao t.args.length cap)).set 9 (.string (Za.hd l2).text)))
 have Ij:Hid (((((((w2.setCell ⟨w.heap.size+1+1,5,none⟩ (.int .i64 (ak t.kind))).setCell ⟨w.heap.size+1+1,6,none⟩ (.int .i64 val)).setCell ⟨w.heap.size+1+1,7,none⟩ (.string tx)).setCell ⟨w.heap.size+1+1,8,none⟩ (.slice ao t.args.length cap)).setCell ⟨w.heap.size+1+1,9,none⟩ (.string (Za.hd l2).text)).alloc (.cells #[.int .i64 (ak t.kind),.int .i64 val,.string tx,.slice ao t.args.length cap] 76)).heap[w.heap.size+1+1]?=some (.cells #[.int .i64 a.k,.int .i64 a.val,.string a.tx,.slice a.ao a.n a.cap,.string (Za.hd l).text,.int .i64 (ak t.kind),.int .i64 val,.string tx,.slice ao t.args.length cap,.string (Za.hd l2).text,.int .i64 0,.int .i64 0,.string ⟨#[]⟩,.slice none 0 0] 151 (0,0))):=aw (A1 _ _ _ _ _ (ae HB2'')) _
 have Bc:Hid (((((((w2.setCell ⟨w.heap.size+1+1,5,none⟩ (.int .i64 (ak t.kind))).setCell ⟨w.heap.size+1+1,6,none⟩ (.int .i64 val)).setCell ⟨w.heap.size+1+1,7,none⟩ (.string tx)).setCell ⟨w.heap.size+1+1,8,none⟩ (.slice ao t.args.length cap)).setCell ⟨w.heap.size+1+1,9,none⟩ (.string (Za.hd l2).text)).alloc (.cells #[.int .i64 (ak t.kind),.int .i64 val,.string tx,.slice ao t.args.length cap] 76)).heap[w.heap.size+1]?=some (.cells #[.int .i64 0,.int .i64 0,.string ⟨#[]⟩,.slice none 0 0,.string ⟨#[]⟩,.int .i64 0,.int .i64 0,.string ⟨#[]⟩,.slice none 0 0,.string ⟨#[]⟩,.int .i64 0,.int .i64 0,.string ⟨#[]⟩,.slice none 0 0] 151 (0,0))):=aw (wS _ _ _ _ _ (ae HB1'') (by omega)) _
 go_wp2_with fail
 refine(fJ _ rb s l2 ns' nv' e' ((ae RC).1.below ((Below.refl _ _).alloc (Nat.le_refl _) _)) (ae hk2)).mono ?_
 rintro e w4 ⟨rfl,hs4,hk4⟩
 have iw:=hide hs4
 have jH:=hide (((ae RC).2.alloc _).trans hk4)
 have PX:=hide (ai hk4 (ae Bc) (by simp;omega))
 have Ib:=hide (ai hk4 (ae Ij) (by simp;omega))
 clear hs4 hk4 r x q y c3' c3'' yb Bc Ij RC RB bV cQ HB1'' HB2'' hz1 hz2
 go_wp2_with fail
 refine(ae I2 _ _ _ _ (ae iw)).mono ?_
 rintro e w5 ⟨k',val',tx',ao',n',cap',l'',ns'',nv'',rfl,hs5,MR,bQ⟩
 have HP:=hide MR
 clear MR
 have hb1:=ai bQ (ae PX) (by simp;omega)
 have hb2:=ai bQ (ae Ib) (by simp;omega)
 have hz1:w.heap.size+1<w5.heap.size:=af hb1
 have hz2:w.heap.size+1+1<w5.heap.size:=af hb2
 have gT:=hide hs5
 have jh:=hide ((ae jH).trans bQ)
 clear hs5 bQ
 have r:=ag hb1
 have x:=aq hb1
 have q:=ag hb2
 have y:=aq hb2
 have PY:=hide hb1
 have wV:=hide hb2
 clear hb1 hb2
 go_wp2_with fail
 have R:=qV (ae gT) (ae jh) hlt (by omega) (by omega) (ae wV) (ae PY) (((((aA.refl _ _).set 10 (.int .i64 k')).set 11 (.int .i64 val')).set 12 (.string tx')).set 13 (.slice ao' n' cap')) (((((((((((((((aA.refl _ _).set 0 (.int .i64 a.k)).set 1 (.int .i64 a.val)).set 2 (.string a.tx)).set 3 (.slice a.ao a.n a.cap)).set 4 (.string (Za.hd l).text)).set 5 (.int .i64 (ak t.kind))).set 6 (.int .i64 val)).set 7 (.string tx)).set 8 (.slice ao t.args.length cap)).set 9 (.string (Za.hd l2).text)).set 10 (.int .i64 k')).set 11 (.int .i64 val')).set 12 (.string tx')).set 13 (.slice ao' n' cap'))
 refine bodyPost_ret (v:= .tuple #[.agg #[.int .i64 a.k,.int .i64 a.val,.string a.tx,.slice a.ao a.n a.cap,.string (Za.hd l).text,.int .i64 (ak t.kind),.int .i64 val,.string tx,.slice ao t.args.length cap,.string (Za.hd l2).text,.int .i64 k',.int .i64 val',.string tx',.slice ao' n' cap'],.bool false]) (by simp[results,Tryz.results135,go_sem,hz1,r]) rfl ?_
 exact⟨a,⟨ak t.kind,val,tx,ao,t.args.length,cap⟩,⟨k',val',tx',ao',n',cap'⟩,(Za.hd l).text,(Za.hd l2).text,l'',ns'',nv'',rfl,R.1.below ((Below.refl _ _).alloc (Nat.le_refl _) _),ae HP,R.2.alloc _⟩
theorem Ff {f g:Nat} {ns' ns'':List ByteArray} {w w1 w2:World} {P:Nat→Prop} {a:AV} {t t2:Za.Tm} {val:Int} {tx:ByteArray} {ao:Option Addr} {cap:Nat} (h:RA f (aR ns') P w a t) (q:TA g ns' ns'' w1 w2 val tx ao cap t2):RA f (aR ns'') P w a t:=by
 obtain⟨M,hM,_⟩:=Za.namesF_ext g t2 q.rep.mZ (aR ns')
 rw[q.nms,hM]
 exact h.more M
theorem Ds (w:World) (rb:Nat) (s:ByteArray) (l:List Za.Tok) (ns:List ByteArray) (nv:Value) (e0:Int) (a:TV) (left:Za.Tm) (t:Za.Tm) (l2:List Za.Tok) (h:St w rb s l ns nv e0) (h0:(Za.hd l).kind≠0) (hO:Za.operand l.tail= .inr (t,l2)) (hop:Za.gB l2=true) (t2:Za.Tm) (l3:List Za.Tok) (hO2:Za.operand l2.tail= .inr (t2,l3)):
 Calls Tryz.prog 135 #[.pointer (some ⟨rb,0,none⟩),.agg #[.int .i64 a.k,.int .i64 a.val,.string a.tx,.slice a.ao a.n a.cap],.bool true] w fun e w'=>mU rb s a left ns (Za.assignment left true l) w e w':=by
 have hlt:=h.lt
 have h0':=hide h0
 have I:=hide (fun W nv (hW:St W rb s l.tail ns nv e0)=>jc W rb s l.tail ns nv e0 hW)
 rw[hO]at I
 obtain⟨hS,hK,hB1,hB2,hz⟩:=jE a (Za.hd l).text h
 unfold jT boxZ kL at hS hK hB1 hB2 hz
 have HS:=hide hS
 have HK:=hide hK
 have aZ:=hide hB1
 have aX:=hide hB2
 have HZ:=hide hz
 clear hS hK hB1 hB2 hz
 obtain⟨⟨c0,c1,c2,c3,c4,c5,f1,f2,f3,f4,f5⟩,own,chain,isn,few,short,signs,pos,lt⟩:=h
 clear own chain isn few short signs c0 c1 c2 c4 c5 f1 f2 f3 f4 f5 h0
 have hc2:∀o1 o2,((w.alloc o1).alloc o2).cell? ⟨rb,3,none⟩=some (.string (Za.hd l).text):=fun o1 o2=>by rw[World.cell?_alloc_past _ _ _ (by simp;omega),World.cell?_alloc_past _ _ _ hlt];exact c3
 have hc3:∀o1 o2 o3,(((w.alloc o1).alloc o2).alloc o3).cell? ⟨rb,3,none⟩=some (.string (Za.hd l).text):=fun o1 o2 o3=>by rw[World.cell?_alloc_past _ _ _ (by simp;omega)];exact hc2 o1 o2
 have HA:Za.assignment left true l= .inr (⟨left,(Za.hd l).text.toList,some t,(Za.hd l2).text.toList,some t2⟩,l3):=by unfold Za.assignment;rw[if_pos rfl,hO];simp only[hop,hO2];rfl
 rw[HA]
 have I2:=hide (fun W nv ns e0 (hW:St W rb s l2.tail ns nv e0)=>jc W rb s l2.tail ns nv e0 hW)
 rw[hO2]at I2
 have hk2:=hide (show (Za.hd l2).kind≠0 by simp only[Za.gB,Bool.or_eq_true]at hop;rcases hop with(q | q) | q<;>(rw[Za.cK q];omega))
 clear HA hO hO2
 go_enter Tryz.func135,Tryz.ntmps135
 go_wp2_with fail
 go_big_region
 go_wp2_with fail
 refine(dA _ rb s l ns nv e0 true (ae HS) (fun _=>ae h0')).mono ?_
 rintro e w1 ⟨rfl,hs,hk⟩
 have HB1':=hide (ai hk (ae aZ) (by simp;omega))
 have HB2':=hide (ai hk (ae aX) (by simp;omega))
 have bp:=hide hs
 have cO:=hide ((ae HK).trans hk)
 clear hs hk hc2 hc3 c3
 go_wp2_with fail
 refine(ae I _ _ (ae bp)).mono ?_
 rintro e w2 ⟨val,tx,ao,cap,ns',nv',e',rfl,htx,hs2,hk2⟩
 have fP:=hide htx
 clear htx
 have hb1:=ai hk2 (ae HB1') (by simp;omega)
 have hb2:=ai hk2 (ae HB2') (by simp;omega)
 have hz1:w.heap.size+1<w2.heap.size:=af hb1
 have hz2:w.heap.size+1+1<w2.heap.size:=af hb2
 have bV:=hide hs2
 have cQ:=hide ((ae cO).trans hk2)
 clear hs2 hk2
 have r:=ag hb1
 have x:=aq hb1
 have q:=ag hb2
 have y:=aq hb2
 have HB1'':=hide hb1
 have HB2'':=hide hb2
 clear hb1 hb2
 have RB:=hide (bO (ae bV) (ae cQ) hlt (by omega) (ae HB2'') (((((aA.refl _ _).set 5 (.int .i64 (ak t.kind))).set 6 (.int .i64 val)).set 7 (.string tx)).set 8 (.slice ao t.args.length cap)))
 go_wp2_with fail
 refine(kG _ rb s l2 ns' nv' e' ((ae RB).1.below ((Below.refl _ _).alloc (Nat.le_refl _) _))).mono ?_
 rintro e w3 ⟨rfl,hw⟩
 rw[hw]
 clear hw w3
 have c3':(w2.alloc (.cells #[.int .i64 (ak t.kind),.int .i64 val,.string tx,.slice ao t.args.length cap] 76)).cell? ⟨rb,3,none⟩=some (.string (Za.hd l2).text):=((ae bV).below ((Below.refl _ _).alloc (Nat.le_refl _) _)).rd.c3
 have c3'':=(ae bV).rd.c3
 have yb:rb<w2.heap.size:=(ae bV).lt
 have RCK:=hide (yX (ae bV) (ae cQ) hlt (by omega) (ae HB2'') ((((((aA.refl _ _).set 5 (.int .i64 (ak t.kind))).set 6 (.int .i64 val)).set 7 (.string tx)).set 8 (.slice ao t.args.length cap)).set 9 (.string (Za.hd l2).text)))
 have RC:=hide (ae RCK).1
 have Bz:=hide ((ae RCK).2.trans (aJ.alloc _ (.cells #[.int .i64 (ak t.kind),.int .i64 val,.string tx,.slice ao t.args.length cap] 76)))
 clear RCK
 have Ij:Hid (((((((w2.setCell ⟨w.heap.size+1+1,5,none⟩ (.int .i64 (ak t.kind))).setCell ⟨w.heap.size+1+1,6,none⟩ (.int .i64 val)).setCell ⟨w.heap.size+1+1,7,none⟩ (.string tx)).setCell ⟨w.heap.size+1+1,8,none⟩ (.slice ao t.args.length cap)).setCell ⟨w.heap.size+1+1,9,none⟩ (.string (Za.hd l2).text)).alloc (.cells #[.int .i64 (ak t.kind),.int .i64 val,.string tx,.slice ao t.args.length cap] 76)).heap[w.heap.size+1+1]?=some (.cells #[.int .i64 a.k,.int .i64 a.val,.string a.tx,.slice a.ao a.n a.cap,.string (Za.hd l).text,.int .i64 (ak t.kind),.int .i64 val,.string tx,.slice ao t.args.length cap,.string (Za.hd l2).text,.int .i64 0,.int .i64 0,.string ⟨#[]⟩,.slice none 0 0] 151 (0,0))):=aw (A1 _ _ _ _ _ (ae HB2'')) _
 have Bc:Hid (((((((w2.setCell ⟨w.heap.size+1+1,5,none⟩ (.int .i64 (ak t.kind))).setCell ⟨w.heap.size+1+1,6,none⟩ (.int .i64 val)).setCell ⟨w.heap.size+1+1,7,none⟩ (.string tx)).setCell ⟨w.heap.size+1+1,8,none⟩ (.slice ao t.args.length cap)).setCell ⟨w.heap.size+1+1,9,none⟩ (.string (Za.hd l2).text)).alloc (.cells #[.int .i64 (ak t.kind),.int .i64 val,.string tx,.slice ao t.args.length cap] 76)).heap[w.heap.size+1]?=some (.cells #[.int .i64 0,.int .i64 0,.string ⟨#[]⟩,.slice none 0 0,.string ⟨#[]⟩,.int .i64 0,.int .i64 0,.string ⟨#[]⟩,.slice none 0 0,.string ⟨#[]⟩,.int .i64 0,.int .i64 0,.string ⟨#[]⟩,.slice none 0 0] 151 (0,0))):=aw (wS _ _ _ _ _ (ae HB1'') (by omega)) _
 go_wp2_with fail
 refine(fJ _ rb s l2 ns' nv' e' ((ae RC).1.below ((Below.refl _ _).alloc (Nat.le_refl _) _)) (ae hk2)).mono ?_
 rintro e w4 ⟨rfl,hs4,hk4⟩
 have A6:=hide ((ae Bz).trans (aJ.ka ((ae RC).1.below ((Below.refl _ _).alloc (Nat.le_refl _) _)) hk4))
 have iw:=hide hs4
 have jH:=hide (((ae RC).2.alloc _).trans hk4)
 have PX:=hide (ai hk4 (ae Bc) (by simp;omega))
 have Ib:=hide (ai hk4 (ae Ij) (by simp;omega))
 clear hs4 hk4 r x q y c3' c3'' yb Bc Ij RC RB bV cQ HB1'' HB2'' hz1 hz2
 go_wp2_with fail
 refine(ae I2 _ _ _ _ (ae iw)).mono ?_
 rintro e w5 ⟨val',tx',ao',cap',ns'',nv'',e'',rfl,PZ,hs5,bQ⟩
 have Vc:=hide ((ae A6).trans (aJ.ka (ae iw) bQ))
 have KI:=hide PZ
 clear PZ
 have hb1:=ai bQ (ae PX) (by simp;omega)
 have hb2:=ai bQ (ae Ib) (by simp;omega)
 have hz1:w.heap.size+1<w5.heap.size:=af hb1
 have hz2:w.heap.size+1+1<w5.heap.size:=af hb2
 have gT:=hide hs5
 have jh:=hide ((ae jH).trans bQ)
 clear hs5 bQ
 have r:=ag hb1
 have x:=aq hb1
 have q:=ag hb2
 have y:=aq hb2
 have PY:=hide hb1
 have wV:=hide hb2
 clear hb1 hb2
 go_wp2_with fail
 have RK:=sO (ae gT) (ae jh) hlt (by omega) (by omega) (ae wV) (ae PY) (((((aA.refl _ _).set 10 (.int .i64 (ak t2.kind))).set 11 (.int .i64 val')).set 12 (.string tx')).set 13 (.slice ao' t2.args.length cap')) (((((((((((((((aA.refl _ _).set 0 (.int .i64 a.k)).set 1 (.int .i64 a.val)).set 2 (.string a.tx)).set 3 (.slice a.ao a.n a.cap)).set 4 (.string (Za.hd l).text)).set 5 (.int .i64 (ak t.kind))).set 6 (.int .i64 val)).set 7 (.string tx)).set 8 (.slice ao t.args.length cap)).set 9 (.string (Za.hd l2).text)).set 10 (.int .i64 (ak t2.kind))).set 11 (.int .i64 val')).set 12 (.string tx')).set 13 (.slice ao' t2.args.length cap'))
 have R:=RK.1
 refine bodyPost_ret (v:= .tuple #[.agg #[.int .i64 a.k,.int .i64 a.val,.string a.tx,.slice a.ao a.n a.cap,.string (Za.hd l).text,.int .i64 (ak t.kind),.int .i64 val,.string tx,.slice ao t.args.length cap,.string (Za.hd l2).text,.int .i64 (ak t2.kind),.int .i64 val',.string tx',.slice ao' t2.args.length cap'],.bool true]) (by simp[results,Tryz.results135,go_sem,hz1,r]) rfl ?_
 exact⟨a,⟨ak t.kind,val,tx,ao,t.args.length,cap⟩,⟨ak t2.kind,val',tx',ao',t2.args.length,cap'⟩,(Za.hd l).text,(Za.hd l2).text,ns'',nv'',e'',rfl,⟨rfl,rfl,rfl,(fun r q=>by cases q;exact Ff (((ae Vc).trans (RK.2.trans (aJ.alloc _ _))).ra (ae fP).rep) (ae KI)),rfl,(fun z q=>by cases q;exact(RK.2.trans (aJ.alloc _ _)).ra (ae KI).rep),by rw[(ae KI).nms,(ae fP).nms];rfl⟩,R.1.below ((Below.refl _ _).alloc (Nat.le_refl _) _),R.2.alloc _⟩
end Go.Proofs.YthfjnfcekeknlaaGreatDoor
