import Derived.Test.YthfjnfcekeknlaaGreatDoorSu04
import Derived.Test.YthfjnfcekeknlaaGreatDoorSu15
set_option maxHeartbeats 8000000
set_option maxRecDepth 100000
namespace Go.Proofs.YthfjnfcekeknlaaGreatDoor
open Go.RowKit
theorem Aa (w:World) (rb:Nat) (s:ByteArray) (l:List Za.aj) (ns:List ByteArray) (nv:Value) (e0:Int) (a:TV) (left:Za.Tm) (t:Za.Tm) (l2:List Za.aj) (h:St w rb s l ns nv e0) (h0:(Za.hd l).kind≠0) (hO:Za.operand l.tail= .inr (t,l2)) (hop:Za.gp l2=true) (er ps:Nat) (hO2:Za.operand l2.tail= .inl (er,ps)):
 Calls Tryz.prog 135 #[.pointer (some ⟨rb,0,none⟩),.agg #[.int .i64 a.k,.int .i64 a.val,.string a.tx,.slice a.ao a.n a.cap],.bool true] w fun e w'=>ni rb s a left ns (Za.assignment left true l) w e w':=by
 have hlt:=h.lt
 have h0':=af h0
 have I:=af (fun W nv (hW:St W rb s l.tail ns nv e0)=>jo W rb s l.tail ns nv e0 hW)
 rw[hO]at I
 obtain⟨hS,hK,hB1,hB2,hz⟩:=jU a (Za.hd l).text h
 unfold kB boxZ lf at hS hK hB1 hB2 hz
 have HS:=af hS
 have HK:=af hK
 have bD:=af hB1
 have bf:=af hB2
 have HZ:=af hz
 clear hS hK hB1 hB2 hz
 obtain⟨⟨c0,c1,c2,c3,c4,c5,f1,f2,f3,f4,f5⟩,own,chain,isn,few,short,signs,pos,lt⟩:=h
 clear own chain isn few short signs c0 c1 c2 c4 c5 f1 f2 f3 f4 f5 h0
 have hc2:∀o1 o2,((w.alloc o1).alloc o2).cell? ⟨rb,3,none⟩=some (.string (Za.hd l).text):=fun o1 o2=>by rw[World.cell?_alloc_past _ _ _ (by simp;omega),World.cell?_alloc_past _ _ _ hlt];exact c3
 have hc3:∀o1 o2 o3,(((w.alloc o1).alloc o2).alloc o3).cell? ⟨rb,3,none⟩=some (.string (Za.hd l).text):=fun o1 o2 o3=>by rw[World.cell?_alloc_past _ _ _ (by simp;omega)];exact hc2 o1 o2
 have HA:Za.assignment left true l= .inl (er,ps):=by unfold Za.assignment;rw[if_pos rfl,hO];simp only[hop,hO2];rfl
 rw[HA]
 have I2:=af (fun W nv ns e0 (hW:St W rb s l2.tail ns nv e0)=>jo W rb s l2.tail ns nv e0 hW)
 rw[hO2]at I2
 have hk2:=af (show (Za.hd l2).kind≠0 by simp only[Za.gp,Bool.or_eq_true]at hop;rcases hop with(q | q) | q<;>(rw[Za.cU q];omega))
 clear HA hO hO2
 go_enter Tryz.func135,Tryz.ntmps135
 go_wp2_with fail
 go_big_region
 go_wp2_with fail
 refine(dI _ rb s l ns nv e0 true (ae HS) (fun _=>ae h0')).mono ?_
 rintro e w1 ⟨rfl,hs,hk⟩
 have HB1':=af (aq hk (ae bD) (by simp;omega))
 have HB2':=af (aq hk (ae bf) (by simp;omega))
 have bH:=af hs
 have df:=af ((ae HK).trans hk)
 clear hs hk hc2 hc3 c3
 go_wp2_with fail
 refine(ae I _ _ (ae bH)).mono ?_
 rintro e w2 ⟨val,tx,ao,cap,ns',nv',e',rfl,bj,hs2,hk2⟩
 clear bj
 have hb1:=aq hk2 (ae HB1') (by simp;omega)
 have hb2:=aq hk2 (ae HB2') (by simp;omega)
 have hz1:w.heap.size+1<w2.heap.size:=ag hb1
 have hz2:w.heap.size+1+1<w2.heap.size:=ag hb2
 have cg:=af hs2
 have di:=af ((ae df).trans hk2)
 clear hs2 hk2
 have r:=ah hb1
 have x:=ay hb1
 have q:=ah hb2
 have y:=ay hb2
 have HB1'':=af hb1
 have HB2'':=af hb2
 clear hb1 hb2
 have RB:=af (bW (ae cg) (ae di) hlt (by omega) (ae HB2'') (((((aC.refl _ _).set 5 (.int .i64 (ak t.kind))).set 6 (.int .i64 val)).set 7 (.string tx)).set 8 (.slice ao t.args.length cap)))
 go_wp2_with fail
 refine(kZ _ rb s l2 ns' nv' e' ((ae RB).1.below ((Below.refl _ _).alloc (Nat.le_refl _) _))).mono ?_
 rintro e w3 ⟨rfl,hw⟩
 rw[hw]
 clear hw w3
 have c3':(w2.alloc (.cells #[.int .i64 (ak t.kind),.int .i64 val,.string tx,.slice ao t.args.length cap] 76)).cell? ⟨rb,3,none⟩=some (.string (Za.hd l2).text):=((ae cg).below ((Below.refl _ _).alloc (Nat.le_refl _) _)).rd.c3
 have c3'':=(ae cg).rd.c3
 have yj:rb<w2.heap.size:=(ae cg).lt
 have RC:=af (bW (ae cg) (ae di) hlt (by omega) (ae HB2'') ((((((aC.refl _ _).set 5 (.int .i64 (ak t.kind))).set 6 (.int .i64 val)).set 7 (.string tx)).set 8 (.slice ao t.args.length cap)).set 9 (.string (Za.hd l2).text)))
 have Ih:Hid (((((((w2.setCell ⟨w.heap.size+1+1,5,none⟩ (.int .i64 (ak t.kind))).setCell ⟨w.heap.size+1+1,6,none⟩ (.int .i64 val)).setCell ⟨w.heap.size+1+1,7,none⟩ (.string tx)).setCell ⟨w.heap.size+1+1,8,none⟩ (.slice ao t.args.length cap)).setCell ⟨w.heap.size+1+1,9,none⟩ (.string (Za.hd l2).text)).alloc (.cells #[.int .i64 (ak t.kind),.int .i64 val,.string tx,.slice ao t.args.length cap] 76)).heap[w.heap.size+1+1]?=some (.cells #[.int .i64 a.k,.int .i64 a.val,.string a.tx,.slice a.ao a.n a.cap,.string (Za.hd l).text,.int .i64 (ak t.kind),.int .i64 val,.string tx,.slice ao t.args.length cap,.string (Za.hd l2).text,.int .i64 0,.int .i64 0,.string ⟨#[]⟩,.slice none 0 0] 151 (0,0))):=aB (Be _ _ _ _ _ (ae HB2'')) _
 have Bk:Hid (((((((w2.setCell ⟨w.heap.size+1+1,5,none⟩ (.int .i64 (ak t.kind))).setCell ⟨w.heap.size+1+1,6,none⟩ (.int .i64 val)).setCell ⟨w.heap.size+1+1,7,none⟩ (.string tx)).setCell ⟨w.heap.size+1+1,8,none⟩ (.slice ao t.args.length cap)).setCell ⟨w.heap.size+1+1,9,none⟩ (.string (Za.hd l2).text)).alloc (.cells #[.int .i64 (ak t.kind),.int .i64 val,.string tx,.slice ao t.args.length cap] 76)).heap[w.heap.size+1]?=some (.cells #[.int .i64 0,.int .i64 0,.string ⟨#[]⟩,.slice none 0 0,.string ⟨#[]⟩,.int .i64 0,.int .i64 0,.string ⟨#[]⟩,.slice none 0 0,.string ⟨#[]⟩,.int .i64 0,.int .i64 0,.string ⟨#[]⟩,.slice none 0 0] 151 (0,0))):=aB (xk _ _ _ _ _ (ae HB1'') (by omega)) _
 go_wp2_with fail
 refine(fP _ rb s l2 ns' nv' e' ((ae RC).1.below ((Below.refl _ _).alloc (Nat.le_refl _) _)) (ae hk2)).mono ?_
 rintro e w4 ⟨rfl,nE,hk4⟩
 have iL:=af nE
 have jY:=af (((ae RC).2.alloc _).trans hk4)
 have PH:=af (aq hk4 (ae Bk) (by simp;omega))
 have H':=af (aq hk4 (ae Ih) (by simp;omega))
 clear nE hk4 r x q y c3' c3'' yj Bk Ih RC RB cg di HB1'' HB2'' hz1 hz2
 go_wp2_with fail
 refine(ae I2 _ _ _ _ (ae iL)).mono ?_
 rintro e w5 ⟨k',val',tx',ao',n',cap',l'',ns'',nv'',rfl,hs5,My,bZ⟩
 have HP:=af My
 clear My
 have hb1:=aq bZ (ae PH) (by simp;omega)
 have hb2:=aq bZ (ae H') (by simp;omega)
 have hz1:w.heap.size+1<w5.heap.size:=ag hb1
 have hz2:w.heap.size+1+1<w5.heap.size:=ag hb2
 have iq:=af hs5
 have jv:=af ((ae jY).trans bZ)
 clear hs5 bZ
 have r:=ah hb1
 have x:=ay hb1
 have q:=ah hb2
 have y:=ay hb2
 have PI:=af hb1
 have xp:=af hb2
 clear hb1 hb2
 go_wp2_with fail
 have R:=rB (ae iq) (ae jv) hlt (by omega) (by omega) (ae xp) (ae PI) (((((aC.refl _ _).set 10 (.int .i64 k')).set 11 (.int .i64 val')).set 12 (.string tx')).set 13 (.slice ao' n' cap')) (((((((((((((((aC.refl _ _).set 0 (.int .i64 a.k)).set 1 (.int .i64 a.val)).set 2 (.string a.tx)).set 3 (.slice a.ao a.n a.cap)).set 4 (.string (Za.hd l).text)).set 5 (.int .i64 (ak t.kind))).set 6 (.int .i64 val)).set 7 (.string tx)).set 8 (.slice ao t.args.length cap)).set 9 (.string (Za.hd l2).text)).set 10 (.int .i64 k')).set 11 (.int .i64 val')).set 12 (.string tx')).set 13 (.slice ao' n' cap'))
 refine bodyPost_ret (v:= .tuple #[.agg #[.int .i64 a.k,.int .i64 a.val,.string a.tx,.slice a.ao a.n a.cap,.string (Za.hd l).text,.int .i64 (ak t.kind),.int .i64 val,.string tx,.slice ao t.args.length cap,.string (Za.hd l2).text,.int .i64 k',.int .i64 val',.string tx',.slice ao' n' cap'],.bool false]) (by simp[results,Tryz.results135,go_sem,hz1,r]) rfl ?_
 exact⟨a,⟨ak t.kind,val,tx,ao,t.args.length,cap⟩,⟨k',val',tx',ao',n',cap'⟩,(Za.hd l).text,(Za.hd l2).text,l'',ns'',nv'',rfl,R.1.below ((Below.refl _ _).alloc (Nat.le_refl _) _),ae HP,R.2.alloc _⟩
theorem Fm {f g:Nat} {ns' ns'':List ByteArray} {w w1 w2:World} {P:Nat→Prop} {a:AV} {t t2:Za.Tm} {val:Int} {tx:ByteArray} {ao:Option Addr} {cap:Nat} (h:RA f (aV ns') P w a t) (q:TA g ns' ns'' w1 w2 val tx ao cap t2):RA f (aV ns'') P w a t:=by
 obtain⟨M,hM,_⟩:=Za.namesF_ext g t2 q.rep.nA (aV ns')
 rw[q.nms,hM]
 exact h.more M
theorem Dk (w:World) (rb:Nat) (s:ByteArray) (l:List Za.aj) (ns:List ByteArray) (nv:Value) (e0:Int) (a:TV) (left:Za.Tm) (t:Za.Tm) (l2:List Za.aj) (h:St w rb s l ns nv e0) (h0:(Za.hd l).kind≠0) (hO:Za.operand l.tail= .inr (t,l2)) (hop:Za.gp l2=true) (t2:Za.Tm) (l3:List Za.aj) (hO2:Za.operand l2.tail= .inr (t2,l3)):
 Calls Tryz.prog 135 #[.pointer (some ⟨rb,0,none⟩),.agg #[.int .i64 a.k,.int .i64 a.val,.string a.tx,.slice a.ao a.n a.cap],.bool true] w fun e w'=>ni rb s a left ns (Za.assignment left true l) w e w':=by
 have hlt:=h.lt
 have h0':=af h0
 have I:=af (fun W nv (hW:St W rb s l.tail ns nv e0)=>jo W rb s l.tail ns nv e0 hW)
 rw[hO]at I
 obtain⟨hS,hK,hB1,hB2,hz⟩:=jU a (Za.hd l).text h
 unfold kB boxZ lf at hS hK hB1 hB2 hz
 have HS:=af hS
 have HK:=af hK
 have bD:=af hB1
 have bf:=af hB2
 have HZ:=af hz
 clear hS hK hB1 hB2 hz
 obtain⟨⟨c0,c1,c2,c3,c4,c5,f1,f2,f3,f4,f5⟩,own,chain,isn,few,short,signs,pos,lt⟩:=h
 clear own chain isn few short signs c0 c1 c2 c4 c5 f1 f2 f3 f4 f5 h0
 have hc2:∀o1 o2,((w.alloc o1).alloc o2).cell? ⟨rb,3,none⟩=some (.string (Za.hd l).text):=fun o1 o2=>by rw[World.cell?_alloc_past _ _ _ (by simp;omega),World.cell?_alloc_past _ _ _ hlt];exact c3
 have hc3:∀o1 o2 o3,(((w.alloc o1).alloc o2).alloc o3).cell? ⟨rb,3,none⟩=some (.string (Za.hd l).text):=fun o1 o2 o3=>by rw[World.cell?_alloc_past _ _ _ (by simp;omega)];exact hc2 o1 o2
 have HA:Za.assignment left true l= .inr (⟨left,(Za.hd l).text.toList,some t,(Za.hd l2).text.toList,some t2⟩,l3):=by unfold Za.assignment;rw[if_pos rfl,hO];simp only[hop,hO2];rfl
 rw[HA]
 have I2:=af (fun W nv ns e0 (hW:St W rb s l2.tail ns nv e0)=>jo W rb s l2.tail ns nv e0 hW)
 rw[hO2]at I2
 have hk2:=af (show (Za.hd l2).kind≠0 by simp only[Za.gp,Bool.or_eq_true]at hop;rcases hop with(q | q) | q<;>(rw[Za.cU q];omega))
 clear HA hO hO2
 go_enter Tryz.func135,Tryz.ntmps135
 go_wp2_with fail
 go_big_region
 go_wp2_with fail
 refine(dI _ rb s l ns nv e0 true (ae HS) (fun _=>ae h0')).mono ?_
 rintro e w1 ⟨rfl,hs,hk⟩
 have HB1':=af (aq hk (ae bD) (by simp;omega))
 have HB2':=af (aq hk (ae bf) (by simp;omega))
 have bH:=af hs
 have df:=af ((ae HK).trans hk)
 clear hs hk hc2 hc3 c3
 go_wp2_with fail
 refine(ae I _ _ (ae bH)).mono ?_
 rintro e w2 ⟨val,tx,ao,cap,ns',nv',e',rfl,bj,hs2,hk2⟩
 have fW:=af bj
 clear bj
 have hb1:=aq hk2 (ae HB1') (by simp;omega)
 have hb2:=aq hk2 (ae HB2') (by simp;omega)
 have hz1:w.heap.size+1<w2.heap.size:=ag hb1
 have hz2:w.heap.size+1+1<w2.heap.size:=ag hb2
 have cg:=af hs2
 have di:=af ((ae df).trans hk2)
 clear hs2 hk2
 have r:=ah hb1
 have x:=ay hb1
 have q:=ah hb2
 have y:=ay hb2
 have HB1'':=af hb1
 have HB2'':=af hb2
 clear hb1 hb2
 have RB:=af (bW (ae cg) (ae di) hlt (by omega) (ae HB2'') (((((aC.refl _ _).set 5 (.int .i64 (ak t.kind))).set 6 (.int .i64 val)).set 7 (.string tx)).set 8 (.slice ao t.args.length cap)))
 go_wp2_with fail
 refine(kZ _ rb s l2 ns' nv' e' ((ae RB).1.below ((Below.refl _ _).alloc (Nat.le_refl _) _))).mono ?_
 rintro e w3 ⟨rfl,hw⟩
 rw[hw]
 clear hw w3
 have c3':(w2.alloc (.cells #[.int .i64 (ak t.kind),.int .i64 val,.string tx,.slice ao t.args.length cap] 76)).cell? ⟨rb,3,none⟩=some (.string (Za.hd l2).text):=((ae cg).below ((Below.refl _ _).alloc (Nat.le_refl _) _)).rd.c3
 have c3'':=(ae cg).rd.c3
 have yj:rb<w2.heap.size:=(ae cg).lt
 have RCK:=af (yX (ae cg) (ae di) hlt (by omega) (ae HB2'') ((((((aC.refl _ _).set 5 (.int .i64 (ak t.kind))).set 6 (.int .i64 val)).set 7 (.string tx)).set 8 (.slice ao t.args.length cap)).set 9 (.string (Za.hd l2).text)))
 have RC:=af (ae RCK).1
 have BI:=af ((ae RCK).2.trans (aN.alloc _ (.cells #[.int .i64 (ak t.kind),.int .i64 val,.string tx,.slice ao t.args.length cap] 76)))
 clear RCK
 have Ih:Hid (((((((w2.setCell ⟨w.heap.size+1+1,5,none⟩ (.int .i64 (ak t.kind))).setCell ⟨w.heap.size+1+1,6,none⟩ (.int .i64 val)).setCell ⟨w.heap.size+1+1,7,none⟩ (.string tx)).setCell ⟨w.heap.size+1+1,8,none⟩ (.slice ao t.args.length cap)).setCell ⟨w.heap.size+1+1,9,none⟩ (.string (Za.hd l2).text)).alloc (.cells #[.int .i64 (ak t.kind),.int .i64 val,.string tx,.slice ao t.args.length cap] 76)).heap[w.heap.size+1+1]?=some (.cells #[.int .i64 a.k,.int .i64 a.val,.string a.tx,.slice a.ao a.n a.cap,.string (Za.hd l).text,.int .i64 (ak t.kind),.int .i64 val,.string tx,.slice ao t.args.length cap,.string (Za.hd l2).text,.int .i64 0,.int .i64 0,.string ⟨#[]⟩,.slice none 0 0] 151 (0,0))):=aB (Be _ _ _ _ _ (ae HB2'')) _
 have Bk:Hid (((((((w2.setCell ⟨w.heap.size+1+1,5,none⟩ (.int .i64 (ak t.kind))).setCell ⟨w.heap.size+1+1,6,none⟩ (.int .i64 val)).setCell ⟨w.heap.size+1+1,7,none⟩ (.string tx)).setCell ⟨w.heap.size+1+1,8,none⟩ (.slice ao t.args.length cap)).setCell ⟨w.heap.size+1+1,9,none⟩ (.string (Za.hd l2).text)).alloc (.cells #[.int .i64 (ak t.kind),.int .i64 val,.string tx,.slice ao t.args.length cap] 76)).heap[w.heap.size+1]?=some (.cells #[.int .i64 0,.int .i64 0,.string ⟨#[]⟩,.slice none 0 0,.string ⟨#[]⟩,.int .i64 0,.int .i64 0,.string ⟨#[]⟩,.slice none 0 0,.string ⟨#[]⟩,.int .i64 0,.int .i64 0,.string ⟨#[]⟩,.slice none 0 0] 151 (0,0))):=aB (xk _ _ _ _ _ (ae HB1'') (by omega)) _
 go_wp2_with fail
 refine(fP _ rb s l2 ns' nv' e' ((ae RC).1.below ((Below.refl _ _).alloc (Nat.le_refl _) _)) (ae hk2)).mono ?_
 rintro e w4 ⟨rfl,nE,hk4⟩
 have Bd:=af ((ae BI).trans (aN.ka ((ae RC).1.below ((Below.refl _ _).alloc (Nat.le_refl _) _)) hk4))
 have iL:=af nE
 have jY:=af (((ae RC).2.alloc _).trans hk4)
 have PH:=af (aq hk4 (ae Bk) (by simp;omega))
 have H':=af (aq hk4 (ae Ih) (by simp;omega))
 clear nE hk4 r x q y c3' c3'' yj Bk Ih RC RB cg di HB1'' HB2'' hz1 hz2
 go_wp2_with fail
 refine(ae I2 _ _ _ _ (ae iL)).mono ?_
 rintro e w5 ⟨val',tx',ao',cap',ns'',nv'',e'',rfl,PJ,hs5,bZ⟩
 have Vb:=af ((ae Bd).trans (aN.ka (ae iL) bZ))
 have KD:=af PJ
 clear PJ
 have hb1:=aq bZ (ae PH) (by simp;omega)
 have hb2:=aq bZ (ae H') (by simp;omega)
 have hz1:w.heap.size+1<w5.heap.size:=ag hb1
 have hz2:w.heap.size+1+1<w5.heap.size:=ag hb2
 have iq:=af hs5
 have jv:=af ((ae jY).trans bZ)
 clear hs5 bZ
 have r:=ah hb1
 have x:=ay hb1
 have q:=ah hb2
 have y:=ay hb2
 have PI:=af hb1
 have xp:=af hb2
 clear hb1 hb2
 go_wp2_with fail
 have RK:=tK (ae iq) (ae jv) hlt (by omega) (by omega) (ae xp) (ae PI) (((((aC.refl _ _).set 10 (.int .i64 (ak t2.kind))).set 11 (.int .i64 val')).set 12 (.string tx')).set 13 (.slice ao' t2.args.length cap')) (((((((((((((((aC.refl _ _).set 0 (.int .i64 a.k)).set 1 (.int .i64 a.val)).set 2 (.string a.tx)).set 3 (.slice a.ao a.n a.cap)).set 4 (.string (Za.hd l).text)).set 5 (.int .i64 (ak t.kind))).set 6 (.int .i64 val)).set 7 (.string tx)).set 8 (.slice ao t.args.length cap)).set 9 (.string (Za.hd l2).text)).set 10 (.int .i64 (ak t2.kind))).set 11 (.int .i64 val')).set 12 (.string tx')).set 13 (.slice ao' t2.args.length cap'))
 have R:=RK.1
 refine bodyPost_ret (v:= .tuple #[.agg #[.int .i64 a.k,.int .i64 a.val,.string a.tx,.slice a.ao a.n a.cap,.string (Za.hd l).text,.int .i64 (ak t.kind),.int .i64 val,.string tx,.slice ao t.args.length cap,.string (Za.hd l2).text,.int .i64 (ak t2.kind),.int .i64 val',.string tx',.slice ao' t2.args.length cap'],.bool true]) (by simp[results,Tryz.results135,go_sem,hz1,r]) rfl ?_
 exact⟨a,⟨ak t.kind,val,tx,ao,t.args.length,cap⟩,⟨ak t2.kind,val',tx',ao',t2.args.length,cap'⟩,(Za.hd l).text,(Za.hd l2).text,ns'',nv'',e'',rfl,⟨rfl,rfl,rfl,(fun r q=>by cases q;exact Fm (((ae Vb).trans (RK.2.trans (aN.alloc _ _))).ra (ae fW).rep) (ae KD)),rfl,(fun z q=>by cases q;exact(RK.2.trans (aN.alloc _ _)).ra (ae KD).rep),by rw[(ae KD).nms,(ae fW).nms];rfl⟩,R.1.below ((Below.refl _ _).alloc (Nat.le_refl _) _),R.2.alloc _⟩
end Go.Proofs.YthfjnfcekeknlaaGreatDoor
