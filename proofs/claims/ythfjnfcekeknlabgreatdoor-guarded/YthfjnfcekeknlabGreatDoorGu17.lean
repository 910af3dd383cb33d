import Derived.Test.YthfjnfcekeknlabGreatDoorGu02
import Derived.Test.YthfjnfcekeknlabGreatDoorGu10
set_option maxHeartbeats 8000000
set_option maxRecDepth 100000
namespace Go.Proofs.YthfjnfcekeknlabGreatDoor
open Go.RowKit
theorem Ao (w:World) (rb:Nat) (s:ByteArray) (l:List Zf.Tok) (ns:List ByteArray) (nv:Value) (e0:Int) (a:TV) (left:Zf.Tm) (t:Zf.Tm) (l2:List Zf.Tok) (h:St w rb s l ns nv e0) (h0:(Zf.hd l).kind≠0) (hO:Zf.operand l.tail= .inr (t,l2)) (hop:Zf.gQ l2=true) (er ps:Nat) (hO2:Zf.operand l2.tail= .inl (er,ps)):
 Calls Tryz.prog 113 #[.pointer (some ⟨rb,0,none⟩),.agg #[.int .i64 a.k,.int .i64 a.val,.string a.tx,.slice a.ao a.n a.cap],.bool true] w fun e w'=>np rb s a left ns (Zf.assignment left true l) w e w':=by
 have hlt:=h.lt
 have h0':=hide h0
 have I:=hide (fun W nv (hW:St W rb s l.tail ns nv e0)=>jn W rb s l.tail ns nv e0 hW)
 rw[hO]at I
 obtain⟨hS,hK,hB1,hB2,hz⟩:=jU a (Zf.hd l).text h
 unfold kB boxZ lq at hS hK hB1 hB2 hz
 have HS:=hide hS
 have HK:=hide hK
 have bC:=hide hB1
 have aP:=hide hB2
 have HZ:=hide hz
 clear hS hK hB1 hB2 hz
 obtain⟨⟨c0,c1,c2,c3,c4,c5,f1,f2,f3,f4,f5⟩,own,chain,isn,few,short,signs,pos,lt⟩:=h
 clear own chain isn few short signs c0 c1 c2 c4 c5 f1 f2 f3 f4 f5 h0
 have hc2:∀o1 o2,((w.alloc o1).alloc o2).cell? ⟨rb,3,none⟩=some (.string (Zf.hd l).text):=fun o1 o2=>by rw[World.cell?_alloc_past _ _ _ (by simp;omega),World.cell?_alloc_past _ _ _ hlt];exact c3
 have hc3:∀o1 o2 o3,(((w.alloc o1).alloc o2).alloc o3).cell? ⟨rb,3,none⟩=some (.string (Zf.hd l).text):=fun o1 o2 o3=>by rw[World.cell?_alloc_past _ _ _ (by simp;omega)];exact hc2 o1 o2
 have HA:Zf.assignment left true l= .inl (er,ps):=by unfold Zf.assignment;rw[if_pos rfl,hO];simp only[hop,hO2];rfl
 rw[HA]
 have I2:=hide (fun W nv ns e0 (hW:St W rb s l2.tail ns nv e0)=>jn W rb s l2.tail ns nv e0 hW)
 rw[hO2]at I2
 have hk2:=hide (show (Zf.hd l2).kind≠0 by simp only[Zf.gQ,Bool.or_eq_true]at hop;rcases hop with(q | q) | q<;>(rw[Zf.cW q];omega))
 clear HA hO hO2
 go_enter Tryz.func113,Tryz.ntmps113
 go_wp2_with fail
 go_big_region
 go_wp2_with fail
 refine(dJ _ rb s l ns nv e0 true (ae HS) (fun _=>ae h0')).mono ?_
 rintro e w1 ⟨rfl,hs,hk⟩
 have HB1':=hide (aj hk (ae bC) (by simp;omega))
 have HB2':=hide (aj hk (ae aP) (by simp;omega))
 have bF:=hide hs
 have df:=hide ((ae HK).trans hk)
 clear hs hk hc2 hc3 c3
 go_wp2_with fail
 refine(ae I _ _ (ae bF)).mono ?_
 rintro e w2 ⟨val,tx,ao,cap,ns',nv',e',rfl,htx,hs2,hk2⟩
 clear htx
 have hb1:=aj hk2 (ae HB1') (by simp;omega)
 have hb2:=aj hk2 (ae HB2') (by simp;omega)
 have hz1:w.heap.size+1<w2.heap.size:=af hb1
 have hz2:w.heap.size+1+1<w2.heap.size:=af hb2
 have cm:=hide hs2
 have dt:=hide ((ae df).trans hk2)
 clear hs2 hk2
 have r:=ah hb1
 have x:=au hb1
 have q:=ah hb2
 have y:=au hb2
 have HB1'':=hide hb1
 have HB2'':=hide hb2
 clear hb1 hb2
 have RB:=hide (bW (ae cm) (ae dt) hlt (by omega) (ae HB2'') (((((aB.refl _ _).set 5 (.int .i64 (ak t.kind))).set 6 (.int .i64 val)).set 7 (.string tx)).set 8 (.slice ao t.args.length cap)))
 go_wp2_with fail
 refine(lh _ rb s l2 ns' nv' e' ((ae RB).1.below ((Below.refl _ _).alloc (Nat.le_refl _) _))).mono ?_
 rintro e w3 ⟨rfl,hw⟩
 rw[hw]
 clear hw w3
 have c3':(w2.alloc (.cells #[.int .i64 (ak t.kind),.int .i64 val,.string tx,.slice ao t.args.length cap] 74)).cell? ⟨rb,3,none⟩=some (.string (Zf.hd l2).text):=((ae cm).below ((Below.refl _ _).alloc (Nat.le_refl _) _)).rd.c3
 have c3'':=(ae cm).rd.c3
 have yA:rb<w2.heap.size:=(ae cm).lt
 have RC:=hide (bW (ae cm) (ae dt) hlt (by omega) (ae HB2'') ((((((aB.refl _ _).set 5 (.int .i64 (ak t.kind))).set 6 (.int .i64 val)).set 7 (.string tx)).set 8 (.slice ao t.args.length cap)).set 9 (.string (Zf.hd l2).text)))
 have I9:Hid (((((((w2.setCell ⟨w.heap.size+1+1,5,none⟩ (.int .i64 (ak t.kind))).setCell ⟨w.heap.size+1+1,6,none⟩ (.int .i64 val)).setCell ⟨w.heap.size+1+1,7,none⟩ (.string tx)).setCell ⟨w.heap.size+1+1,8,none⟩ (.slice ao t.args.length cap)).setCell ⟨w.heap.size+1+1,9,none⟩ (.string (Zf.hd l2).text)).alloc (.cells #[.int .i64 (ak t.kind),.int .i64 val,.string tx,.slice ao t.args.length cap] 74)).heap[w.heap.size+1+1]?=some (.cells #[.int .i64 a.k,.int .i64 a.val,.string a.tx,.slice a.ao a.n a.cap,.string (Zf.hd l).text,.int .i64 (ak t.kind),.int .i64 val,.string tx,.slice ao t.args.length cap,.string (Zf.hd l2).text,.int .i64 0,.int .i64 0,.string ⟨#[]⟩,.slice none 0 0] 125 (0,0))):=aA (Bb _ _ _ _ _ (ae HB2'')) _
 have BC:Hid (((((((w2.setCell ⟨w.heap.size+1+1,5,none⟩ (.int .i64 (ak t.kind))).setCell ⟨w.heap.size+1+1,6,none⟩ (.int .i64 val)).setCell ⟨w.heap.size+1+1,7,none⟩ (.string tx)).setCell ⟨w.heap.size+1+1,8,none⟩ (.slice ao t.args.length cap)).setCell ⟨w.heap.size+1+1,9,none⟩ (.string (Zf.hd l2).text)).alloc (.cells #[.int .i64 (ak t.kind),.int .i64 val,.string tx,.slice ao t.args.length cap] 74)).heap[w.heap.size+1]?=some (.cells #[.int .i64 0,.int .i64 0,.string ⟨#[]⟩,.slice none 0 0,.string ⟨#[]⟩,.int .i64 0,.int .i64 0,.string ⟨#[]⟩,.slice none 0 0,.string ⟨#[]⟩,.int .i64 0,.int .i64 0,.string ⟨#[]⟩,.slice none 0 0] 125 (0,0))):=aA (wW _ _ _ _ _ (ae HB1'') (by omega)) _
 go_wp2_with fail
 refine(fN _ rb s l2 ns' nv' e' ((ae RC).1.below ((Below.refl _ _).alloc (Nat.le_refl _) _)) (ae hk2)).mono ?_
 rintro e w4 ⟨rfl,hs4,hk4⟩
 have iI:=hide hs4
 have jX:=hide (((ae RC).2.alloc _).trans hk4)
 have Qy:=hide (aj hk4 (ae BC) (by simp;omega))
 have I0:=hide (aj hk4 (ae I9) (by simp;omega))
 clear hs4 hk4 r x q y c3' c3'' yA BC I9 RC RB cm dt HB1'' HB2'' hz1 hz2
 go_wp2_with fail
 refine(ae I2 _ _ _ _ (ae iI)).mono ?_
 rintro e w5 ⟨k',val',tx',ao',n',cap',l'',ns'',nv'',rfl,hs5,Nt,bY⟩
 have HP:=hide Nt
 clear Nt
 have hb1:=aj bY (ae Qy) (by simp;omega)
 have hb2:=aj bY (ae I0) (by simp;omega)
 have hz1:w.heap.size+1<w5.heap.size:=af hb1
 have hz2:w.heap.size+1+1<w5.heap.size:=af hb2
 have ik:=hide hs5
 have jx:=hide ((ae jX).trans bY)
 clear hs5 bY
 have r:=ah hb1
 have x:=au hb1
 have q:=ah hb2
 have y:=au hb2
 have Qz:=hide hb1
 have rO:=hide hb2
 clear hb1 hb2
 go_wp2_with fail
 have R:=qY (ae ik) (ae jx) hlt (by omega) (by omega) (ae rO) (ae Qz) (((((aB.refl _ _).set 10 (.int .i64 k')).set 11 (.int .i64 val')).set 12 (.string tx')).set 13 (.slice ao' n' cap')) (((((((((((((((aB.refl _ _).set 0 (.int .i64 a.k)).set 1 (.int .i64 a.val)).set 2 (.string a.tx)).set 3 (.slice a.ao a.n a.cap)).set 4 (.string (Zf.hd l).text)).set 5 (.int .i64 (ak t.kind))).set 6 (.int .i64 val)).set 7 (.string tx)).set 8 (.slice ao t.args.length cap)).set 9 (.string (Zf.hd l2).text)).set 10 (.int .i64 k')).set 11 (.int .i64 val')).set 12 (.string tx')).set 13 (.slice ao' n' cap'))
 refine bodyPost_ret (v:= .tuple #[.agg #[.int .i64 a.k,.int .i64 a.val,.string a.tx,.slice a.ao a.n a.cap,.string (Zf.hd l).text,.int .i64 (ak t.kind),.int .i64 val,.string tx,.slice ao t.args.length cap,.string (Zf.hd l2).text,.int .i64 k',.int .i64 val',.string tx',.slice ao' n' cap'],.bool false]) (by simp[results,Tryz.results113,go_sem,hz1,r]) rfl ?_
 exact⟨a,⟨ak t.kind,val,tx,ao,t.args.length,cap⟩,⟨k',val',tx',ao',n',cap'⟩,(Zf.hd l).text,(Zf.hd l2).text,l'',ns'',nv'',rfl,R.1.below ((Below.refl _ _).alloc (Nat.le_refl _) _),ae HP,R.2.alloc _⟩
theorem FV {f g:Nat} {ns' ns'':List ByteArray} {w w1 w2:World} {P:Nat→Prop} {a:AV} {t t2:Zf.Tm} {val:Int} {tx:ByteArray} {ao:Option Addr} {cap:Nat} (h:RA f (aR ns') P w a t) (q:TA g ns' ns'' w1 w2 val tx ao cap t2):RA f (aR ns'') P w a t:=by
 obtain⟨M,hM,_⟩:=Zf.namesF_ext g t2 q.rep.ny (aR ns')
 rw[q.nms,hM]
 exact h.more M
theorem DD (w:World) (rb:Nat) (s:ByteArray) (l:List Zf.Tok) (ns:List ByteArray) (nv:Value) (e0:Int) (a:TV) (left:Zf.Tm) (t:Zf.Tm) (l2:List Zf.Tok) (h:St w rb s l ns nv e0) (h0:(Zf.hd l).kind≠0) (hO:Zf.operand l.tail= .inr (t,l2)) (hop:Zf.gQ l2=true) (t2:Zf.Tm) (l3:List Zf.Tok) (hO2:Zf.operand l2.tail= .inr (t2,l3)):
 Calls Tryz.prog 113 #[.pointer (some ⟨rb,0,none⟩),.agg #[.int .i64 a.k,.int .i64 a.val,.string a.tx,.slice a.ao a.n a.cap],.bool true] w fun e w'=>np rb s a left ns (Zf.assignment left true l) w e w':=by
 have hlt:=h.lt
 have h0':=hide h0
 have I:=hide (fun W nv (hW:St W rb s l.tail ns nv e0)=>jn W rb s l.tail ns nv e0 hW)
 rw[hO]at I
 obtain⟨hS,hK,hB1,hB2,hz⟩:=jU a (Zf.hd l).text h
 unfold kB boxZ lq at hS hK hB1 hB2 hz
 have HS:=hide hS
 have HK:=hide hK
 have bC:=hide hB1
 have aP:=hide hB2
 have HZ:=hide hz
 clear hS hK hB1 hB2 hz
 obtain⟨⟨c0,c1,c2,c3,c4,c5,f1,f2,f3,f4,f5⟩,own,chain,isn,few,short,signs,pos,lt⟩:=h
 clear own chain isn few short signs c0 c1 c2 c4 c5 f1 f2 f3 f4 f5 h0
 have hc2:∀o1 o2,((w.alloc o1).alloc o2).cell? ⟨rb,3,none⟩=some (.string (Zf.hd l).text):=fun o1 o2=>by rw[World.cell?_alloc_past _ _ _ (by simp;omega),World.cell?_alloc_past _ _ _ hlt];exact c3
 have hc3:∀o1 o2 o3,(((w.alloc o1).alloc o2).alloc o3).cell? ⟨rb,3,none⟩=some (.string (Zf.hd l).text):=fun o1 o2 o3=>by rw[World.cell?_alloc_past _ _ _ (by simp;omega)];exact hc2 o1 o2
 have HA:Zf.assignment left true l= .inr (⟨left,(Zf.hd l).text.toList,some t,(Zf.hd l2).text.toList,some t2⟩,l3):=by unfold Zf.assignment;rw[if_pos rfl,hO];simp only[hop,hO2];rfl
 rw[HA]
 have I2:=hide (fun W nv ns e0 (hW:St W rb s l2.tail ns nv e0)=>jn W rb s l2.tail ns nv e0 hW)
 rw[hO2]at I2
 have hk2:=hide (show (Zf.hd l2).kind≠0 by simp only[Zf.gQ,Bool.or_eq_true]at hop;rcases hop with(q | q) | q<;>(rw[Zf.cW q];omega))
 clear HA hO hO2
 go_enter Tryz.func113,Tryz.ntmps113
 go_wp2_with fail
 go_big_region
 go_wp2_with fail
 refine(dJ _ rb s l ns nv e0 true (ae HS) (fun _=>ae h0')).mono ?_
 rintro e w1 ⟨rfl,hs,hk⟩
 have HB1':=hide (aj hk (ae bC) (by simp;omega))
 have HB2':=hide (aj hk (ae aP) (by simp;omega))
 have bF:=hide hs
 have df:=hide ((ae HK).trans hk)
 clear hs hk hc2 hc3 c3
 go_wp2_with fail
 refine(ae I _ _ (ae bF)).mono ?_
 rintro e w2 ⟨val,tx,ao,cap,ns',nv',e',rfl,htx,hs2,hk2⟩
 have fX:=hide htx
 clear htx
 have hb1:=aj hk2 (ae HB1') (by simp;omega)
 have hb2:=aj hk2 (ae HB2') (by simp;omega)
 have hz1:w.heap.size+1<w2.heap.size:=af hb1
 have hz2:w.heap.size+1+1<w2.heap.size:=af hb2
 have cm:=hide hs2
 have dt:=hide ((ae df).trans hk2)
 clear hs2 hk2
 have r:=ah hb1
 have x:=au hb1
 have q:=ah hb2
 have y:=au hb2
 have HB1'':=hide hb1
 have HB2'':=hide hb2
 clear hb1 hb2
 have RB:=hide (bW (ae cm) (ae dt) hlt (by omega) (ae HB2'') (((((aB.refl _ _).set 5 (.int .i64 (ak t.kind))).set 6 (.int .i64 val)).set 7 (.string tx)).set 8 (.slice ao t.args.length cap)))
 go_wp2_with fail
 refine(lh _ rb s l2 ns' nv' e' ((ae RB).1.below ((Below.refl _ _).alloc (Nat.le_refl _) _))).mono ?_
 rintro e w3 ⟨rfl,hw⟩
 rw[hw]
 clear hw w3
 have c3':(w2.alloc (.cells #[.int .i64 (ak t.kind),.int .i64 val,.string tx,.slice ao t.args.length cap] 74)).cell? ⟨rb,3,none⟩=some (.string (Zf.hd l2).text):=((ae cm).below ((Below.refl _ _).alloc (Nat.le_refl _) _)).rd.c3
 have c3'':=(ae cm).rd.c3
 have yA:rb<w2.heap.size:=(ae cm).lt
 have RCK:=hide (zi (ae cm) (ae dt) hlt (by omega) (ae HB2'') ((((((aB.refl _ _).set 5 (.int .i64 (ak t.kind))).set 6 (.int .i64 val)).set 7 (.string tx)).set 8 (.slice ao t.args.length cap)).set 9 (.string (Zf.hd l2).text)))
 have RC:=hide (ae RCK).1
 have BZ:=hide ((ae RCK).2.trans (aK.alloc _ (.cells #[.int .i64 (ak t.kind),.int .i64 val,.string tx,.slice ao t.args.length cap] 74)))
 clear RCK
 have I9:Hid (((((((w2.setCell ⟨w.heap.size+1+1,5,none⟩ (.int .i64 (ak t.kind))).setCell ⟨w.heap.size+1+1,6,none⟩ (.int .i64 val)).setCell ⟨w.heap.size+1+1,7,none⟩ (.string tx)).setCell ⟨w.heap.size+1+1,8,none⟩ (.slice ao t.args.length cap)).setCell ⟨w.heap.size+1+1,9,none⟩ (.string (Zf.hd l2).text)).alloc (.cells #[.int .i64 (ak t.kind),.int .i64 val,.string tx,.slice ao t.args.length cap] 74)).heap[w.heap.size+1+1]?=some (.cells #[.int .i64 a.k,.int .i64 a.val,.string a.tx,.slice a.ao a.n a.cap,.string (Zf.hd l).text,.int .i64 (ak t.kind),.int .i64 val,.string tx,.slice ao t.args.length cap,.string (Zf.hd l2).text,.int .i64 0,.int .i64 0,.string ⟨#[]⟩,.slice none 0 0] 125 (0,0))):=aA (Bb _ _ _ _ _ (ae HB2'')) _
 have BC:Hid (((((((w2.setCell ⟨w.heap.size+1+1,5,none⟩ (.int .i64 (ak t.kind))).setCell ⟨w.heap.size+1+1,6,none⟩ (.int .i64 val)).setCell ⟨w.heap.size+1+1,7,none⟩ (.string tx)).setCell ⟨w.heap.size+1+1,8,none⟩ (.slice ao t.args.length cap)).setCell ⟨w.heap.size+1+1,9,none⟩ (.string (Zf.hd l2).text)).alloc (.cells #[.int .i64 (ak t.kind),.int .i64 val,.string tx,.slice ao t.args.length cap] 74)).heap[w.heap.size+1]?=some (.cells #[.int .i64 0,.int .i64 0,.string ⟨#[]⟩,.slice none 0 0,.string ⟨#[]⟩,.int .i64 0,.int .i64 0,.string ⟨#[]⟩,.slice none 0 0,.string ⟨#[]⟩,.int .i64 0,.int .i64 0,.string ⟨#[]⟩,.slice none 0 0] 125 (0,0))):=aA (wW _ _ _ _ _ (ae HB1'') (by omega)) _
 go_wp2_with fail
 refine(fN _ rb s l2 ns' nv' e' ((ae RC).1.below ((Below.refl _ _).alloc (Nat.le_refl _) _)) (ae hk2)).mono ?_
 rintro e w4 ⟨rfl,hs4,hk4⟩
 have Bv:=hide ((ae BZ).trans (aK.ka ((ae RC).1.below ((Below.refl _ _).alloc (Nat.le_refl _) _)) hk4))
 have iI:=hide hs4
 have jX:=hide (((ae RC).2.alloc _).trans hk4)
 have Qy:=hide (aj hk4 (ae BC) (by simp;omega))
 have I0:=hide (aj hk4 (ae I9) (by simp;omega))
 clear hs4 hk4 r x q y c3' c3'' yA BC I9 RC RB cm dt HB1'' HB2'' hz1 hz2
 go_wp2_with fail
 refine(ae I2 _ _ _ _ (ae iI)).mono ?_
 rintro e w5 ⟨val',tx',ao',cap',ns'',nv'',e'',rfl,QA,hs5,bY⟩
 have VU:=hide ((ae Bv).trans (aK.ka (ae iI) bY))
 have Li:=hide QA
 clear QA
 have hb1:=aj bY (ae Qy) (by simp;omega)
 have hb2:=aj bY (ae I0) (by simp;omega)
 have hz1:w.heap.size+1<w5.heap.size:=af hb1
 have hz2:w.heap.size+1+1<w5.heap.size:=af hb2
 have ik:=hide hs5
 have jx:=hide ((ae jX).trans bY)
 clear hs5 bY
 have r:=ah hb1
 have x:=au hb1
 have q:=ah hb2
 have y:=au hb2
 have Qz:=hide hb1
 have rO:=hide hb2
 clear hb1 hb2
 go_wp2_with fail
 have RK:=sZ (ae ik) (ae jx) hlt (by omega) (by omega) (ae rO) (ae Qz) (((((aB.refl _ _).set 10 (.int .i64 (ak t2.kind))).set 11 (.int .i64 val')).set 12 (.string tx')).set 13 (.slice ao' t2.args.length cap')) (((((((((((((((aB.refl _ _).set 0 (.int .i64 a.k)).set 1 (.int .i64 a.val)).set 2 (.string a.tx)).set 3 (.slice a.ao a.n a.cap)).set 4 (.string (Zf.hd l).text)).set 5 (.int .i64 (ak t.kind))).set 6 (.int .i64 val)).set 7 (.string tx)).set 8 (.slice ao t.args.length cap)).set 9 (.string (Zf.hd l2).text)).set 10 (.int .i64 (ak t2.kind))).set 11 (.int .i64 val')).set 12 (.string tx')).set 13 (.slice ao' t2.args.length cap'))
 have R:=RK.1
 refine bodyPost_ret (v:= .tuple #[.agg #[.int .i64 a.k,.int .i64 a.val,.string a.tx,.slice a.ao a.n a.cap,.string (Zf.hd l).text,.int .i64 (ak t.kind),.int .i64 val,.string tx,.slice ao t.args.length cap,.string (Zf.hd l2).text,.int .i64 (ak t2.kind),.int .i64 val',.string tx',.slice ao' t2.args.length cap'],.bool true]) (by simp[results,Tryz.results113,go_sem,hz1,r]) rfl ?_
 exact⟨a,⟨ak t.kind,val,tx,ao,t.args.length,cap⟩,⟨ak t2.kind,val',tx',ao',t2.args.length,cap'⟩,(Zf.hd l).text,(Zf.hd l2).text,ns'',nv'',e'',rfl,⟨rfl,rfl,rfl,(fun r q=>by cases q;exact FV (((ae VU).trans (RK.2.trans (aK.alloc _ _))).ra (ae fX).rep) (ae Li)),rfl,(fun z q=>by cases q;exact(RK.2.trans (aK.alloc _ _)).ra (ae Li).rep),by rw[(ae Li).nms,(ae fX).nms];rfl⟩,R.1.below ((Below.refl _ _).alloc (Nat.le_refl _) _),R.2.alloc _⟩
end Go.Proofs.YthfjnfcekeknlabGreatDoor
namespace Zf
open Go
theorem Lj (n:Nat):lZ (Lib.decDigits n)=n:=by
 induction n using Nat.strongRecOn with
 | ind n ih=>
  have one:∀d,d<10→((UInt8.ofNat (48+d)).toNat+208) % 256=d:=fun d h=>by
   have e:(UInt8.ofNat (48+d)).toNat=48+d:=by rw[UInt8.toNat_ofNat'];omega
   rw[e]
   omega
  by_cases h:n<10
  ·rw[Lib.decDigits,dif_pos h]
   show lZ ([]++[UInt8.ofNat (48+n)])=n
   rw[sy,one n h]
   simp[lZ]
  ·rw[Lib.decDigits,dif_neg h,sy,ih (n / 10) (by omega),one (n % 10) (by omega)]
   omega
def idS:iA:=⟨id,id⟩
theorem Ll (n:Nat):∀d∈Lib.decDigits n,iF d.toNat=true:=by
 induction n using Nat.strongRecOn with
 | ind n ih=>
  have one:∀d,d<10→iF (UInt8.ofNat (48+d)).toNat=true:=fun d h=>by
   have e:(UInt8.ofNat (48+d)).toNat=48+d:=by rw[UInt8.toNat_ofNat'];omega
   rw[e]
   unfold iF
   simp
   omega
  by_cases h:n<10
  ·rw[Lib.decDigits,dif_pos h]
   intro d hd
   rw[List.mem_singleton.1 hd]
   exact one n h
  ·rw[Lib.decDigits,dif_neg h]
   intro d hd
   rcases List.mem_append.1 hd with q | q
   ·exact ih (n / 10) (by omega) d q
   ·rw[List.mem_singleton.1 q]
    exact one (n % 10) (by omega)
end Zf
