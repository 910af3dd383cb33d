import Derived.Test.YthfjnfcekeknlaaGreatDoorMe04
import Derived.Test.YthfjnfcekeknlaaGreatDoorMe06
set_option maxHeartbeats 8000000
set_option maxRecDepth 100000
namespace Go.Proofs.YthfjnfcekeknlaaGreatDoor
open Go.RowKit
theorem AD (w:World) (rb:Nat) (s:ByteArray) (l:List Zc.aj) (ns:List ByteArray) (nv:Value) (e0:Int) (a:TV) (left:Zc.Tm) (t:Zc.Tm) (l2:List Zc.aj) (h:St w rb s l ns nv e0) (h0:(Zc.hd l).kind≠0) (hO:Zc.operand l.tail= .inr (t,l2)) (hop:Zc.gQ l2=true) (er ps:Nat) (hO2:Zc.operand l2.tail= .inl (er,ps)):
 Calls Tryz.prog 135 #[.pointer (some ⟨rb,0,none⟩),.agg #[.int .i64 a.k,.int .i64 a.val,.string a.tx,.slice a.ao a.n a.cap],.bool true] w fun e w'=>nA rb s a left ns (Zc.assignment left true l) w e w':=by
 have hlt:=h.lt
 have h0':=af h0
 have I:=af (fun W nv (hW:St W rb s l.tail ns nv e0)=>jr W rb s l.tail ns nv e0 hW)
 rw[hO]at I
 obtain⟨hS,hK,hB1,hB2,hz⟩:=jV a (Zc.hd l).text h
 unfold kF boxZ lp at hS hK hB1 hB2 hz
 have HS:=af hS
 have HK:=af hK
 have ba:=af hB1
 have aX:=af hB2
 have HZ:=af hz
 clear hS hK hB1 hB2 hz
 obtain⟨⟨c0,c1,c2,c3,c4,c5,f1,f2,f3,f4,f5⟩,own,chain,isn,few,short,signs,pos,lt⟩:=h
 clear own chain isn few short signs c0 c1 c2 c4 c5 f1 f2 f3 f4 f5 h0
 have hc2:∀o1 o2,((w.alloc o1).alloc o2).cell? ⟨rb,3,none⟩=some (.string (Zc.hd l).text):=fun o1 o2=>by rw[World.cell?_alloc_past _ _ _ (by simp;omega),World.cell?_alloc_past _ _ _ hlt];exact c3
 have hc3:∀o1 o2 o3,(((w.alloc o1).alloc o2).alloc o3).cell? ⟨rb,3,none⟩=some (.string (Zc.hd l).text):=fun o1 o2 o3=>by rw[World.cell?_alloc_past _ _ _ (by simp;omega)];exact hc2 o1 o2
 have HA:Zc.assignment left true l= .inl (er,ps):=by unfold Zc.assignment;rw[if_pos rfl,hO];simp only[hop,hO2];rfl
 rw[HA]
 have I2:=af (fun W nv ns e0 (hW:St W rb s l2.tail ns nv e0)=>jr W rb s l2.tail ns nv e0 hW)
 rw[hO2]at I2
 have hk2:=af (show (Zc.hd l2).kind≠0 by simp only[Zc.gQ,Bool.or_eq_true]at hop;rcases hop with(q | q) | q<;>(rw[Zc.cV q];omega))
 clear HA hO hO2
 go_enter Tryz.func135,Tryz.ntmps135
 go_wp2_with fail
 go_big_region
 go_wp2_with fail
 refine(dI _ rb s l ns nv e0 true (ae HS) (fun _=>ae h0')).mono ?_
 rintro e w1 ⟨rfl,hs,hk⟩
 have HB1':=af (aq hk (ae ba) (by simp;omega))
 have HB2':=af (aq hk (ae aX) (by simp;omega))
 have bE:=af hs
 have cZ:=af ((ae HK).trans hk)
 clear hs hk hc2 hc3 c3
 go_wp2_with fail
 refine(ae I _ _ (ae bE)).mono ?_
 rintro e w2 ⟨val,tx,ao,cap,ns',nv',e',rfl,bj,hs2,hk2⟩
 clear bj
 have hb1:=aq hk2 (ae HB1') (by simp;omega)
 have hb2:=aq hk2 (ae HB2') (by simp;omega)
 have hz1:w.heap.size+1<w2.heap.size:=ag hb1
 have hz2:w.heap.size+1+1<w2.heap.size:=ag hb2
 have bZ:=af hs2
 have dh:=af ((ae cZ).trans hk2)
 clear hs2 hk2
 have r:=ah hb1
 have x:=ay hb1
 have q:=ah hb2
 have y:=ay hb2
 have HB1'':=af hb1
 have HB2'':=af hb2
 clear hb1 hb2
 have RB:=af (bR (ae bZ) (ae dh) hlt (by omega) (ae HB2'') (((((aD.refl _ _).set 5 (.int .i64 (ak t.kind))).set 6 (.int .i64 val)).set 7 (.string tx)).set 8 (.slice ao t.args.length cap)))
 go_wp2_with fail
 refine(lj _ rb s l2 ns' nv' e' ((ae RB).1.below ((Below.refl _ _).alloc (Nat.le_refl _) _))).mono ?_
 rintro e w3 ⟨rfl,hw⟩
 rw[hw]
 clear hw w3
 have c3':(w2.alloc (.cells #[.int .i64 (ak t.kind),.int .i64 val,.string tx,.slice ao t.args.length cap] 76)).cell? ⟨rb,3,none⟩=some (.string (Zc.hd l2).text):=((ae bZ).below ((Below.refl _ _).alloc (Nat.le_refl _) _)).rd.c3
 have c3'':=(ae bZ).rd.c3
 have yD:rb<w2.heap.size:=(ae bZ).lt
 have RC:=af (bR (ae bZ) (ae dh) hlt (by omega) (ae HB2'') ((((((aD.refl _ _).set 5 (.int .i64 (ak t.kind))).set 6 (.int .i64 val)).set 7 (.string tx)).set 8 (.slice ao t.args.length cap)).set 9 (.string (Zc.hd l2).text)))
 have I8:Hid (((((((w2.setCell ⟨w.heap.size+1+1,5,none⟩ (.int .i64 (ak t.kind))).setCell ⟨w.heap.size+1+1,6,none⟩ (.int .i64 val)).setCell ⟨w.heap.size+1+1,7,none⟩ (.string tx)).setCell ⟨w.heap.size+1+1,8,none⟩ (.slice ao t.args.length cap)).setCell ⟨w.heap.size+1+1,9,none⟩ (.string (Zc.hd l2).text)).alloc (.cells #[.int .i64 (ak t.kind),.int .i64 val,.string tx,.slice ao t.args.length cap] 76)).heap[w.heap.size+1+1]?=some (.cells #[.int .i64 a.k,.int .i64 a.val,.string a.tx,.slice a.ao a.n a.cap,.string (Zc.hd l).text,.int .i64 (ak t.kind),.int .i64 val,.string tx,.slice ao t.args.length cap,.string (Zc.hd l2).text,.int .i64 0,.int .i64 0,.string ⟨#[]⟩,.slice none 0 0] 151 (0,0))):=aB (Bz _ _ _ _ _ (ae HB2'')) _
 have BG:Hid (((((((w2.setCell ⟨w.heap.size+1+1,5,none⟩ (.int .i64 (ak t.kind))).setCell ⟨w.heap.size+1+1,6,none⟩ (.int .i64 val)).setCell ⟨w.heap.size+1+1,7,none⟩ (.string tx)).setCell ⟨w.heap.size+1+1,8,none⟩ (.slice ao t.args.length cap)).setCell ⟨w.heap.size+1+1,9,none⟩ (.string (Zc.hd l2).text)).alloc (.cells #[.int .i64 (ak t.kind),.int .i64 val,.string tx,.slice ao t.args.length cap] 76)).heap[w.heap.size+1]?=some (.cells #[.int .i64 0,.int .i64 0,.string ⟨#[]⟩,.slice none 0 0,.string ⟨#[]⟩,.int .i64 0,.int .i64 0,.string ⟨#[]⟩,.slice none 0 0,.string ⟨#[]⟩,.int .i64 0,.int .i64 0,.string ⟨#[]⟩,.slice none 0 0] 151 (0,0))):=aB (xC _ _ _ _ _ (ae HB1'') (by omega)) _
 go_wp2_with fail
 refine(fP _ rb s l2 ns' nv' e' ((ae RC).1.below ((Below.refl _ _).alloc (Nat.le_refl _) _)) (ae hk2)).mono ?_
 rintro e w4 ⟨rfl,nL,hk4⟩
 have iR:=af nL
 have j9:=af (((ae RC).2.alloc _).trans hk4)
 have Qq:=af (aq hk4 (ae BG) (by simp;omega))
 have I3:=af (aq hk4 (ae I8) (by simp;omega))
 clear nL hk4 r x q y c3' c3'' yD BG I8 RC RB bZ dh HB1'' HB2'' hz1 hz2
 go_wp2_with fail
 refine(ae I2 _ _ _ _ (ae iR)).mono ?_
 rintro e w5 ⟨k',val',tx',ao',n',cap',l'',ns'',nv'',rfl,hs5,Ni,bU⟩
 have HP:=af Ni
 clear Ni
 have hb1:=aq bU (ae Qq) (by simp;omega)
 have hb2:=aq bU (ae I3) (by simp;omega)
 have hz1:w.heap.size+1<w5.heap.size:=ag hb1
 have hz2:w.heap.size+1+1<w5.heap.size:=ag hb2
 have iD:=af hs5
 have jx:=af ((ae j9).trans bU)
 clear hs5 bU
 have r:=ah hb1
 have x:=ay hb1
 have q:=ah hb2
 have y:=ay hb2
 have Qr:=af hb1
 have xF:=af hb2
 clear hb1 hb2
 go_wp2_with fail
 have R:=rI (ae iD) (ae jx) hlt (by omega) (by omega) (ae xF) (ae Qr) (((((aD.refl _ _).set 10 (.int .i64 k')).set 11 (.int .i64 val')).set 12 (.string tx')).set 13 (.slice ao' n' cap')) (((((((((((((((aD.refl _ _).set 0 (.int .i64 a.k)).set 1 (.int .i64 a.val)).set 2 (.string a.tx)).set 3 (.slice a.ao a.n a.cap)).set 4 (.string (Zc.hd l).text)).set 5 (.int .i64 (ak t.kind))).set 6 (.int .i64 val)).set 7 (.string tx)).set 8 (.slice ao t.args.length cap)).set 9 (.string (Zc.hd l2).text)).set 10 (.int .i64 k')).set 11 (.int .i64 val')).set 12 (.string tx')).set 13 (.slice ao' n' cap'))
 refine bodyPost_ret (v:= .tuple #[.agg #[.int .i64 a.k,.int .i64 a.val,.string a.tx,.slice a.ao a.n a.cap,.string (Zc.hd l).text,.int .i64 (ak t.kind),.int .i64 val,.string tx,.slice ao t.args.length cap,.string (Zc.hd l2).text,.int .i64 k',.int .i64 val',.string tx',.slice ao' n' cap'],.bool false]) (by simp[results,Tryz.results135,go_sem,hz1,r]) rfl ?_
 exact⟨a,⟨ak t.kind,val,tx,ao,t.args.length,cap⟩,⟨k',val',tx',ao',n',cap'⟩,(Zc.hd l).text,(Zc.hd l2).text,l'',ns'',nv'',rfl,R.1.below ((Below.refl _ _).alloc (Nat.le_refl _) _),ae HP,R.2.alloc _⟩
theorem FR {f g:Nat} {ns' ns'':List ByteArray} {w w1 w2:World} {P:Nat→Prop} {a:AV} {t t2:Zc.Tm} {val:Int} {tx:ByteArray} {ao:Option Addr} {cap:Nat} (h:RA f (aT ns') P w a t) (q:TA g ns' ns'' w1 w2 val tx ao cap t2):RA f (aT ns'') P w a t:=by
 obtain⟨M,hM,_⟩:=Zc.namesF_ext g t2 q.rep.nI (aT ns')
 rw[q.nms,hM]
 exact h.more M
theorem DL (w:World) (rb:Nat) (s:ByteArray) (l:List Zc.aj) (ns:List ByteArray) (nv:Value) (e0:Int) (a:TV) (left:Zc.Tm) (t:Zc.Tm) (l2:List Zc.aj) (h:St w rb s l ns nv e0) (h0:(Zc.hd l).kind≠0) (hO:Zc.operand l.tail= .inr (t,l2)) (hop:Zc.gQ l2=true) (t2:Zc.Tm) (l3:List Zc.aj) (hO2:Zc.operand l2.tail= .inr (t2,l3)):
 Calls Tryz.prog 135 #[.pointer (some ⟨rb,0,none⟩),.agg #[.int .i64 a.k,.int .i64 a.val,.string a.tx,.slice a.ao a.n a.cap],.bool true] w fun e w'=>nA rb s a left ns (Zc.assignment left true l) w e w':=by
 have hlt:=h.lt
 have h0':=af h0
 have I:=af (fun W nv (hW:St W rb s l.tail ns nv e0)=>jr W rb s l.tail ns nv e0 hW)
 rw[hO]at I
 obtain⟨hS,hK,hB1,hB2,hz⟩:=jV a (Zc.hd l).text h
 unfold kF boxZ lp at hS hK hB1 hB2 hz
 have HS:=af hS
 have HK:=af hK
 have ba:=af hB1
 have aX:=af hB2
 have HZ:=af hz
 clear hS hK hB1 hB2 hz
 obtain⟨⟨c0,c1,c2,c3,c4,c5,f1,f2,f3,f4,f5⟩,own,chain,isn,few,short,signs,pos,lt⟩:=h
 clear own chain isn few short signs c0 c1 c2 c4 c5 f1 f2 f3 f4 f5 h0
 have hc2:∀o1 o2,((w.alloc o1).alloc o2).cell? ⟨rb,3,none⟩=some (.string (Zc.hd l).text):=fun o1 o2=>by rw[World.cell?_alloc_past _ _ _ (by simp;omega),World.cell?_alloc_past _ _ _ hlt];exact c3
 have hc3:∀o1 o2 o3,(((w.alloc o1).alloc o2).alloc o3).cell? ⟨rb,3,none⟩=some (.string (Zc.hd l).text):=fun o1 o2 o3=>by rw[World.cell?_alloc_past _ _ _ (by simp;omega)];exact hc2 o1 o2
 have HA:Zc.assignment left true l= .inr (⟨left,(Zc.hd l).text.toList,some t,(Zc.hd l2).text.toList,some t2⟩,l3):=by unfold Zc.assignment;rw[if_pos rfl,hO];simp only[hop,hO2];rfl
 rw[HA]
 have I2:=af (fun W nv ns e0 (hW:St W rb s l2.tail ns nv e0)=>jr W rb s l2.tail ns nv e0 hW)
 rw[hO2]at I2
 have hk2:=af (show (Zc.hd l2).kind≠0 by simp only[Zc.gQ,Bool.or_eq_true]at hop;rcases hop with(q | q) | q<;>(rw[Zc.cV q];omega))
 clear HA hO hO2
 go_enter Tryz.func135,Tryz.ntmps135
 go_wp2_with fail
 go_big_region
 go_wp2_with fail
 refine(dI _ rb s l ns nv e0 true (ae HS) (fun _=>ae h0')).mono ?_
 rintro e w1 ⟨rfl,hs,hk⟩
 have HB1':=af (aq hk (ae ba) (by simp;omega))
 have HB2':=af (aq hk (ae aX) (by simp;omega))
 have bE:=af hs
 have cZ:=af ((ae HK).trans hk)
 clear hs hk hc2 hc3 c3
 go_wp2_with fail
 refine(ae I _ _ (ae bE)).mono ?_
 rintro e w2 ⟨val,tx,ao,cap,ns',nv',e',rfl,bj,hs2,hk2⟩
 have fZ:=af bj
 clear bj
 have hb1:=aq hk2 (ae HB1') (by simp;omega)
 have hb2:=aq hk2 (ae HB2') (by simp;omega)
 have hz1:w.heap.size+1<w2.heap.size:=ag hb1
 have hz2:w.heap.size+1+1<w2.heap.size:=ag hb2
 have bZ:=af hs2
 have dh:=af ((ae cZ).trans hk2)
 clear hs2 hk2
 have r:=ah hb1
 have x:=ay hb1
 have q:=ah hb2
 have y:=ay hb2
 have HB1'':=af hb1
 have HB2'':=af hb2
 clear hb1 hb2
 have RB:=af (bR (ae bZ) (ae dh) hlt (by omega) (ae HB2'') (((((aD.refl _ _).set 5 (.int .i64 (ak t.kind))).set 6 (.int .i64 val)).set 7 (.string tx)).set 8 (.slice ao t.args.length cap)))
 go_wp2_with fail
 refine(lj _ rb s l2 ns' nv' e' ((ae RB).1.below ((Below.refl _ _).alloc (Nat.le_refl _) _))).mono ?_
 rintro e w3 ⟨rfl,hw⟩
 rw[hw]
 clear hw w3
 have c3':(w2.alloc (.cells #[.int .i64 (ak t.kind),.int .i64 val,.string tx,.slice ao t.args.length cap] 76)).cell? ⟨rb,3,none⟩=some (.string (Zc.hd l2).text):=((ae bZ).below ((Below.refl _ _).alloc (Nat.le_refl _) _)).rd.c3
 have c3'':=(ae bZ).rd.c3
 have yD:rb<w2.heap.size:=(ae bZ).lt
 have RCK:=af (zC (ae bZ) (ae dh) hlt (by omega) (ae HB2'') ((((((aD.refl _ _).set 5 (.int .i64 (ak t.kind))).set 6 (.int .i64 val)).set 7 (.string tx)).set 8 (.slice ao t.args.length cap)).set 9 (.string (Zc.hd l2).text)))
 have RC:=af (ae RCK).1
 have B2:=af ((ae RCK).2.trans (aN.alloc _ (.cells #[.int .i64 (ak t.kind),.int .i64 val,.string tx,.slice ao t.args.length cap] 76)))
 clear RCK
 have I8:Hid (((((((w2.setCell ⟨w.heap.size+1+1,5,none⟩ (.int .i64 (ak t.kind))).setCell ⟨w.heap.size+1+1,6,none⟩ (.int .i64 val)).setCell ⟨w.heap.size+1+1,7,none⟩ (.string tx)).setCell ⟨w.heap.size+1+1,8,none⟩ (.slice ao t.args.length cap)).setCell ⟨w.heap.size+1+1,9,none⟩ (.string (Zc.hd l2).text)).alloc (.cells #[.int .i64 (ak t.kind),.int .i64 val,.string tx,.slice ao t.args.length cap] 76)).heap[w.heap.size+1+1]?=some (.cells #[.int .i64 a.k,.int .i64 a.val,.string a.tx,.slice a.ao a.n a.cap,.string (Zc.hd l).text,.int .i64 (ak t.kind),.int .i64 val,.string tx,.slice ao t.args.length cap,.string (Zc.hd l2).text,.int .i64 0,.int .i64 0,.string ⟨#[]⟩,.slice none 0 0] 151 (0,0))):=aB (Bz _ _ _ _ _ (ae HB2'')) _
 have BG:Hid (((((((w2.setCell ⟨w.heap.size+1+1,5,none⟩ (.int .i64 (ak t.kind))).setCell ⟨w.heap.size+1+1,6,none⟩ (.int .i64 val)).setCell ⟨w.heap.size+1+1,7,none⟩ (.string tx)).setCell ⟨w.heap.size+1+1,8,none⟩ (.slice ao t.args.length cap)).setCell ⟨w.heap.size+1+1,9,none⟩ (.string (Zc.hd l2).text)).alloc (.cells #[.int .i64 (ak t.kind),.int .i64 val,.string tx,.slice ao t.args.length cap] 76)).heap[w.heap.size+1]?=some (.cells #[.int .i64 0,.int .i64 0,.string ⟨#[]⟩,.slice none 0 0,.string ⟨#[]⟩,.int .i64 0,.int .i64 0,.string ⟨#[]⟩,.slice none 0 0,.string ⟨#[]⟩,.int .i64 0,.int .i64 0,.string ⟨#[]⟩,.slice none 0 0] 151 (0,0))):=aB (xC _ _ _ _ _ (ae HB1'') (by omega)) _
 go_wp2_with fail
 refine(fP _ rb s l2 ns' nv' e' ((ae RC).1.below ((Below.refl _ _).alloc (Nat.le_refl _) _)) (ae hk2)).mono ?_
 rintro e w4 ⟨rfl,nL,hk4⟩
 have Bx:=af ((ae B2).trans (aN.ka ((ae RC).1.below ((Below.refl _ _).alloc (Nat.le_refl _) _)) hk4))
 have iR:=af nL
 have j9:=af (((ae RC).2.alloc _).trans hk4)
 have Qq:=af (aq hk4 (ae BG) (by simp;omega))
 have I3:=af (aq hk4 (ae I8) (by simp;omega))
 clear nL hk4 r x q y c3' c3'' yD BG I8 RC RB bZ dh HB1'' HB2'' hz1 hz2
 go_wp2_with fail
 refine(ae I2 _ _ _ _ (ae iR)).mono ?_
 rintro e w5 ⟨val',tx',ao',cap',ns'',nv'',e'',rfl,Qs,hs5,bU⟩
 have VM:=af ((ae Bx).trans (aN.ka (ae iR) bU))
 have Le:=af Qs
 clear Qs
 have hb1:=aq bU (ae Qq) (by simp;omega)
 have hb2:=aq bU (ae I3) (by simp;omega)
 have hz1:w.heap.size+1<w5.heap.size:=ag hb1
 have hz2:w.heap.size+1+1<w5.heap.size:=ag hb2
 have iD:=af hs5
 have jx:=af ((ae j9).trans bU)
 clear hs5 bU
 have r:=ah hb1
 have x:=ay hb1
 have q:=ah hb2
 have y:=ay hb2
 have Qr:=af hb1
 have xF:=af hb2
 clear hb1 hb2
 go_wp2_with fail
 have RK:=tG (ae iD) (ae jx) hlt (by omega) (by omega) (ae xF) (ae Qr) (((((aD.refl _ _).set 10 (.int .i64 (ak t2.kind))).set 11 (.int .i64 val')).set 12 (.string tx')).set 13 (.slice ao' t2.args.length cap')) (((((((((((((((aD.refl _ _).set 0 (.int .i64 a.k)).set 1 (.int .i64 a.val)).set 2 (.string a.tx)).set 3 (.slice a.ao a.n a.cap)).set 4 (.string (Zc.hd l).text)).set 5 (.int .i64 (ak t.kind))).set 6 (.int .i64 val)).set 7 (.string tx)).set 8 (.slice ao t.args.length cap)).set 9 (.string (Zc.hd l2).text)).set 10 (.int .i64 (ak t2.kind))).set 11 (.int .i64 val')).set 12 (.string tx')).set 13 (.slice ao' t2.args.length cap'))
 have R:=RK.1
 refine bodyPost_ret (v:= .tuple #[.agg #[.int .i64 a.k,.int .i64 a.val,.string a.tx,.slice a.ao a.n a.cap,.string (Zc.hd l).text,.int .i64 (ak t.kind),.int .i64 val,.string tx,.slice ao t.args.length cap,.string (Zc.hd l2).text,.int .i64 (ak t2.kind),.int .i64 val',.string tx',.slice ao' t2.args.length cap'],.bool true]) (by simp[results,Tryz.results135,go_sem,hz1,r]) rfl ?_
 exact⟨a,⟨ak t.kind,val,tx,ao,t.args.length,cap⟩,⟨ak t2.kind,val',tx',ao',t2.args.length,cap'⟩,(Zc.hd l).text,(Zc.hd l2).text,ns'',nv'',e'',rfl,⟨rfl,rfl,rfl,(fun r q=>by cases q;exact FR (((ae VM).trans (RK.2.trans (aN.alloc _ _))).ra (ae fZ).rep) (ae Le)),rfl,(fun z q=>by cases q;exact(RK.2.trans (aN.alloc _ _)).ra (ae Le).rep),by rw[(ae Le).nms,(ae fZ).nms];rfl⟩,R.1.below ((Below.refl _ _).alloc (Nat.le_refl _) _),R.2.alloc _⟩
end Go.Proofs.YthfjnfcekeknlaaGreatDoor
