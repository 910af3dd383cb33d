import Derived.Test.YthfjnfcekeknlaaGreatDoorAp15
set_option maxHeartbeats 8000000
set_option maxRecDepth 100000
namespace Go.Proofs.YthfjnfcekeknlaaGreatDoor
open Go.RowKit
theorem vX (w:World) (rb lb:Nat) (s:ByteArray) (l:List Za.aj) (ns:List ByteArray) (nv iv:Value) (e0:Int) (h:St w rb s l ns nv e0) (hb:w.heap[lb]?=some (.cells #[iv,.bool true,.bool true] 82 (0,0))) (hne:lb≠rb) (cG:lb≠0) (t:Za.Tm) (l1:List Za.aj) (dw:t.kind=2) (hi:Za.isInt t=false) (hT:Za.term 8 l= .inr (t,l1)) (aW:Za.bF l1=false) (heq:Za.sees l1 [61]=false):
 Calls Tryz.prog 80 #[.pointer (some ⟨rb,0,none⟩),.pointer (some ⟨lb,0,none⟩)] w fun e w'=>nB rb lb iv s ns (.inr ((⟨t,[],none,[],none⟩,false,true),l1)) w e w':=by
 have hlt:=h.lt
 have dS:lb<w.heap.size:=ag hb
 obtain⟨hS,hK,hB0,hB1⟩:=dW h hb
 unfold boxZ at hS hK hB0 hB1
 have HS:=af hS
 have HK:=af hK
 have aX:=af hB0
 have bj:=af hB1
 have I:=af (fun W (hW:St W rb s l ns nv e0)=>term_all 8 W rb s l ns nv e0 1 rfl hW)
 rw[hT]at I
 clear hS hK hB0 hB1 h hb
 go_enter Tryz.func80,Tryz.ntmps80
 go_wp2_with fail
 refine(ae I _ (ae HS)).mono ?_
 have fG:ak t.kind=3:=by rw[dw];rfl
 have jU:=af dw
 clear dw
 rintro e w1 ⟨val,tx,ao,cap,ns1,nv1,e1,rfl,bh,hs,hk⟩
 rw[fG]
 have nZ:=af fG
 clear fG
 have fX:=af bh
 clear bh
 have fx:=af hs
 have bE:=af (hs.below ((Below.refl _ _).alloc (Nat.le_refl _) (.cells #[.int .i64 3,.int .i64 val,.string tx,.slice ao t.args.length cap] 76)))
 have fR:=af ((ae HK).trans hk)
 have hb0:=aq hk (ae aX) (by simp;omega)
 have hbl:=aq hk (ae bj) (by simpa using hne)
 have hz0:w.heap.size<w1.heap.size:=ag hb0
 have hzl:lb<w1.heap.size:=ag hbl
 have ez:=af hb0
 have dy:=af hbl
 have q:=ah hbl
 have y:=ay hbl
 clear hs hk hb0 hbl
 go_wp2_with fail
 refine(bI _ rb s l1 ns1 nv1 e1 (ae bE)).mono ?_
 rintro e w2 ⟨rfl,hw⟩
 rw[hw]
 clear hw w2
 rw[aW]
 go_wp2_with fail
 refine(bC _ rb s l1 ns1 nv1 e1 _ (ae bE)).mono ?_
 rintro e w2 ⟨rfl,hw⟩
 rw[hw]
 simp only[ByteArray.toList_mk]
 clear hw w2
 rw[heq]
 go_wp2_with fail
 have mn:=af (i6 (w1.alloc (.cells #[.int .i64 3,.int .i64 val,.string tx,.slice ao t.args.length cap] 76)) t val tx ao cap (ae fX).txt (by have:=ae jU;omega))
 rw[ae nZ]at mn
 refine(ae mn).mono ?_
 rintro e w2 ⟨rfl,dL⟩
 rw[hi]
 have D6:=af dL
 have xw:=af ((ae bE).below dL)
 have hz2:w1.heap.size<w2.heap.size:=by have:=dL.size;simp at this;omega
 have gF:=(dL.block lb (by simp;omega)).trans (aB (ae dy) (.cells #[.int .i64 3,.int .i64 val,.string tx,.slice ao t.args.length cap] 76))
 have lW:=(dL.block w1.heap.size (by simp)).trans (heap_alloc_new w1 (.cells #[.int .i64 3,.int .i64 val,.string tx,.slice ao t.args.length cap] 76))
 have lX:=(dL.block w.heap.size (by simp;omega)).trans (aB (ae ez) (.cells #[.int .i64 3,.int .i64 val,.string tx,.slice ao t.args.length cap] 76))
 have kH:=af (((ae fR).alloc (.cells #[.int .i64 3,.int .i64 val,.string tx,.slice ao t.args.length cap] 76)).trans (KA.aw dL))
 have q2:=ah gF
 have y2:=ay gF
 have vv:=ah lW
 have dr:=af gF
 have kx:=af lX
 clear dL gF lW lX q y
 have n6:Hid (St (w2.setCell ⟨lb,1,none⟩ (.bool false)) rb s l1 ns1 nv1 e1):=(ae xw).only ((aD.refl lb _).set 1 (.bool false)) hne cG (by unfold aO;rw[ae dr];simp)
 have cO:Hid (KA rb [rb,lb] w (w2.setCell ⟨lb,1,none⟩ (.bool false))):=(ae kH).wide.fD (by simp) _
 have nP:Hid ((w2.setCell ⟨lb,1,none⟩ (.bool false)).heap[lb]?=some (.cells #[iv,.bool false,.bool true] 82 (0,0))):=aA (ae dr) 1 (.bool false)
 have dt:Hid ((w2.setCell ⟨lb,1,none⟩ (.bool false)).heap[w.heap.size]?=some (.cells #[.int .i64 0,.int .i64 0,.string ⟨#[]⟩,.slice none 0 0,.string ⟨#[]⟩,.int .i64 0,.int .i64 0,.string ⟨#[]⟩,.slice none 0 0,.string ⟨#[]⟩,.int .i64 0,.int .i64 0,.string ⟨#[]⟩,.slice none 0 0] 151 (0,0))):=aG (ae kx) (by omega) _ _
 have r:=ah (ae kx)
 have x:=ay (ae kx)
 go_wp2_with fail
 have RO:=(((((((((((((((aD.refl w.heap.size (w2.setCell ⟨lb,1,none⟩ (.bool false))).set 0 (.int .i64 3)).set 1 (.int .i64 val)).set 2 (.string tx)).set 3 (.slice ao t.args.length cap)).set 4 (.string ⟨#[]⟩)).set 5 (.int .i64 0)).set 6 (.int .i64 0)).set 7 (.string ⟨#[]⟩)).set 8 (.slice none 0 0)).set 9 (.string ⟨#[]⟩)).set 10 (.int .i64 0)).set 11 (.int .i64 0)).set 12 (.string ⟨#[]⟩)).set 13 (.slice none 0 0))
 have RS:=(ae n6).only RO (by omega) (by omega) (by unfold aO;rw[ae dt];simp)
 have RK:=(ae cO).eh RO (Nat.le_refl _)
 have RL:=(RO.block lb (by omega)).trans (ae nP)
 refine bodyPost_ret (v:= .tuple #[.agg #[.int .i64 3,.int .i64 val,.string tx,.slice ao t.args.length cap,.string ⟨#[]⟩,.int .i64 0,.int .i64 0,.string ⟨#[]⟩,.slice none 0 0,.string ⟨#[]⟩,.int .i64 0,.int .i64 0,.string ⟨#[]⟩,.slice none 0 0],.bool true]) (by simp[results,Tryz.results80,go_sem,r]) rfl ?_
 exact⟨⟨3,val,tx,ao,t.args.length,cap⟩,⟨0,0,⟨#[]⟩,none,0,0⟩,⟨0,0,⟨#[]⟩,none,0,0⟩,⟨#[]⟩,⟨#[]⟩,ns1,nv1,e1,rfl,(by have q:=oY.plain (b:=⟨0,0,⟨#[]⟩,none,0,0⟩) (c:=⟨0,0,⟨#[]⟩,none,0,0⟩) (ae fX) ((((aN.alloc _ _).trans (aN.below (ae D6))).trans (aN.only ((aD.refl lb w2).set 1 (.bool false)) (by unfold aO;rw[ae dr];simp))).trans (aN.only RO (by unfold aO;rw[ae dt];simp)));rw[ae nZ]at q;exact q),RS,RL,RK⟩
theorem vY (w:World) (rb lb:Nat) (s:ByteArray) (l:List Za.aj) (ns:List ByteArray) (nv iv:Value) (e0:Int) (h:St w rb s l ns nv e0) (hb:w.heap[lb]?=some (.cells #[iv,.bool true,.bool false] 82 (0,0))) (hne:lb≠rb) (cG:lb≠0) (t:Za.Tm) (l1:List Za.aj) (dw:t.kind=2) (hi:Za.isInt t=false) (hT:Za.term 8 l= .inr (t,l1)) (aW:Za.bF l1=false) (heq:Za.sees l1 [61]=false):
 Calls Tryz.prog 80 #[.pointer (some ⟨rb,0,none⟩),.pointer (some ⟨lb,0,none⟩)] w fun e w'=>nB rb lb iv s ns (Za.bad 2 l1) w e w':=by
 have hlt:=h.lt
 have dS:lb<w.heap.size:=ag hb
 obtain⟨hS,hK,hB0,hB1⟩:=dW h hb
 unfold boxZ at hS hK hB0 hB1
 have HS:=af hS
 have HK:=af hK
 have aX:=af hB0
 have bj:=af hB1
 have I:=af (fun W (hW:St W rb s l ns nv e0)=>term_all 8 W rb s l ns nv e0 1 rfl hW)
 rw[hT]at I
 clear hS hK hB0 hB1 h hb
 go_enter Tryz.func80,Tryz.ntmps80
 go_wp2_with fail
 refine(ae I _ (ae HS)).mono ?_
 have fG:ak t.kind=3:=by rw[dw];rfl
 have jU:=af dw
 clear dw
 rintro e w1 ⟨val,tx,ao,cap,ns1,nv1,e1,rfl,bh,hs,hk⟩
 rw[fG]
 have nZ:=af fG
 clear fG
 have fX:=af bh
 clear bh
 have fx:=af hs
 have bE:=af (hs.below ((Below.refl _ _).alloc (Nat.le_refl _) (.cells #[.int .i64 3,.int .i64 val,.string tx,.slice ao t.args.length cap] 76)))
 have fR:=af ((ae HK).trans hk)
 have hb0:=aq hk (ae aX) (by simp;omega)
 have hbl:=aq hk (ae bj) (by simpa using hne)
 have hz0:w.heap.size<w1.heap.size:=ag hb0
 have hzl:lb<w1.heap.size:=ag hbl
 have ez:=af hb0
 have dy:=af hbl
 have q:=ah hbl
 have y:=ay hbl
 clear hs hk hb0 hbl
 go_wp2_with fail
 refine(bI _ rb s l1 ns1 nv1 e1 (ae bE)).mono ?_
 rintro e w2 ⟨rfl,hw⟩
 rw[hw]
 clear hw w2
 rw[aW]
 go_wp2_with fail
 refine(bC _ rb s l1 ns1 nv1 e1 _ (ae bE)).mono ?_
 rintro e w2 ⟨rfl,hw⟩
 rw[hw]
 simp only[ByteArray.toList_mk]
 clear hw w2
 rw[heq]
 go_wp2_with fail
 have mn:=af (i6 (w1.alloc (.cells #[.int .i64 3,.int .i64 val,.string tx,.slice ao t.args.length cap] 76)) t val tx ao cap (ae fX).txt (by have:=ae jU;omega))
 rw[ae nZ]at mn
 refine(ae mn).mono ?_
 rintro e w2 ⟨rfl,dL⟩
 rw[hi]
 have D6:=af dL
 have xw:=af ((ae bE).below dL)
 have hz2:w1.heap.size<w2.heap.size:=by have:=dL.size;simp at this;omega
 have gF:=(dL.block lb (by simp;omega)).trans (aB (ae dy) (.cells #[.int .i64 3,.int .i64 val,.string tx,.slice ao t.args.length cap] 76))
 have lW:=(dL.block w1.heap.size (by simp)).trans (heap_alloc_new w1 (.cells #[.int .i64 3,.int .i64 val,.string tx,.slice ao t.args.length cap] 76))
 have lX:=(dL.block w.heap.size (by simp;omega)).trans (aB (ae ez) (.cells #[.int .i64 3,.int .i64 val,.string tx,.slice ao t.args.length cap] 76))
 have kH:=af (((ae fR).alloc (.cells #[.int .i64 3,.int .i64 val,.string tx,.slice ao t.args.length cap] 76)).trans (KA.aw dL))
 have q2:=ah gF
 have y2:=ay gF
 have vv:=ah lW
 have dr:=af gF
 have kx:=af lX
 clear dL gF lW lX q y
 have n6:Hid (St (w2.setCell ⟨lb,1,none⟩ (.bool false)) rb s l1 ns1 nv1 e1):=(ae xw).only ((aD.refl lb _).set 1 (.bool false)) hne cG (by unfold aO;rw[ae dr];simp)
 have cO:Hid (KA rb [rb,lb] w (w2.setCell ⟨lb,1,none⟩ (.bool false))):=(ae kH).wide.fD (by simp) _
 have nP:Hid ((w2.setCell ⟨lb,1,none⟩ (.bool false)).heap[lb]?=some (.cells #[iv,.bool false,.bool false] 82 (0,0))):=aA (ae dr) 1 (.bool false)
 have dt:Hid ((w2.setCell ⟨lb,1,none⟩ (.bool false)).heap[w.heap.size]?=some (.cells #[.int .i64 0,.int .i64 0,.string ⟨#[]⟩,.slice none 0 0,.string ⟨#[]⟩,.int .i64 0,.int .i64 0,.string ⟨#[]⟩,.slice none 0 0,.string ⟨#[]⟩,.int .i64 0,.int .i64 0,.string ⟨#[]⟩,.slice none 0 0] 151 (0,0))):=aG (ae kx) (by omega) _ _
 go_wp2_with fail
 refine(bX _ rb s l1 ns1 nv1 e1 2 (ae n6)).mono ?_
 rintro e w3 ⟨rfl,hs3,hk3⟩
 have eo:=af hs3
 have dK:=af ((ae cO).trans hk3.wide)
 have hb3:=aq hk3 (ae dt) (by simp;omega)
 have r:=ah hb3
 have x:=ay hb3
 have bQ:=af hb3
 clear hs3 hk3 hb3
 go_wp2_with fail
 have RO:=(((((((((((((((aD.refl w.heap.size w3).set 0 (.int .i64 0)).set 1 (.int .i64 0)).set 2 (.string ⟨#[]⟩)).set 3 (.slice none 0 0)).set 4 (.string ⟨#[]⟩)).set 5 (.int .i64 0)).set 6 (.int .i64 0)).set 7 (.string ⟨#[]⟩)).set 8 (.slice none 0 0)).set 9 (.string ⟨#[]⟩)).set 10 (.int .i64 0)).set 11 (.int .i64 0)).set 12 (.string ⟨#[]⟩)).set 13 (.slice none 0 0))
 have RS:=(ae eo).only RO (by omega) (by omega) (by unfold aO;rw[ae bQ];simp)
 have RK:=(ae dK).eh RO (Nat.le_refl _)
 refine bodyPost_ret (v:= .tuple #[.agg #[.int .i64 0,.int .i64 0,.string ⟨#[]⟩,.slice none 0 0,.string ⟨#[]⟩,.int .i64 0,.int .i64 0,.string ⟨#[]⟩,.slice none 0 0,.string ⟨#[]⟩,.int .i64 0,.int .i64 0,.string ⟨#[]⟩,.slice none 0 0],.bool false]) (by simp[results,Tryz.results80,go_sem,r]) rfl ?_
 exact⟨⟨0,0,⟨#[]⟩,none,0,0⟩,⟨0,0,⟨#[]⟩,none,0,0⟩,⟨0,0,⟨#[]⟩,none,0,0⟩,⟨#[]⟩,⟨#[]⟩,l1,ns1,nv1,rfl,RS,rfl,RK⟩
theorem uY (w:World) (rb lb:Nat) (s:ByteArray) (l:List Za.aj) (ns:List ByteArray) (nv iv:Value) (e0:Int) (goals:Bool) (h:St w rb s l ns nv e0) (hb:w.heap[lb]?=some (.cells #[iv,.bool false,.bool goals] 82 (0,0))) (hne:lb≠rb) (cG:lb≠0) (t:Za.Tm) (l1:List Za.aj) (dw:t.kind=3) (hT:Za.term 8 l= .inr (t,l1)) (aW:Za.bF l1=false) (heq:Za.sees l1 [61]=false) (has:Za.sees l1 [58,61]=false):
 Calls Tryz.prog 80 #[.pointer (some ⟨rb,0,none⟩),.pointer (some ⟨lb,0,none⟩)] w fun e w'=>nB rb lb iv s ns (Za.bad 2 l1) w e w':=by
 have hlt:=h.lt
 have dS:lb<w.heap.size:=ag hb
 obtain⟨hS,hK,hB0,hB1⟩:=dW h hb
 unfold boxZ at hS hK hB0 hB1
 have HS:=af hS
 have HK:=af hK
 have aX:=af hB0
 have bj:=af hB1
 have I:=af (fun W (hW:St W rb s l ns nv e0)=>term_all 8 W rb s l ns nv e0 1 rfl hW)
 rw[hT]at I
 clear hS hK hB0 hB1 h hb
 go_enter Tryz.func80,Tryz.ntmps80
 go_wp2_with fail
 refine(ae I _ (ae HS)).mono ?_
 have fG:ak t.kind=1:=by rw[dw];rfl
 have jU:=af dw
 clear dw
 rintro e w1 ⟨val,tx,ao,cap,ns1,nv1,e1,rfl,bh,hs,hk⟩
 rw[fG]
 have nZ:=af fG
 clear fG
 have fX:=af bh
 clear bh
 have fx:=af hs
 have bE:=af (hs.below ((Below.refl _ _).alloc (Nat.le_refl _) (.cells #[.int .i64 1,.int .i64 val,.string tx,.slice ao t.args.length cap] 76)))
 have fR:=af ((ae HK).trans hk)
 have hb0:=aq hk (ae aX) (by simp;omega)
 have hbl:=aq hk (ae bj) (by simpa using hne)
 have hz0:w.heap.size<w1.heap.size:=ag hb0
 have hzl:lb<w1.heap.size:=ag hbl
 have ez:=af hb0
 have dy:=af hbl
 have q:=ah hbl
 have y:=ay hbl
 clear hs hk hb0 hbl
 go_wp2_with fail
 refine(bI _ rb s l1 ns1 nv1 e1 (ae bE)).mono ?_
 rintro e w2 ⟨rfl,hw⟩
 rw[hw]
 clear hw w2
 rw[aW]
 go_wp2_with fail
 refine(bC _ rb s l1 ns1 nv1 e1 _ (ae bE)).mono ?_
 rintro e w2 ⟨rfl,hw⟩
 rw[hw]
 simp only[ByteArray.toList_mk]
 clear hw w2
 rw[heq]
 go_wp2_with fail
 refine(bC _ rb s l1 ns1 nv1 e1 _ (ae bE)).mono ?_
 rintro e w2 ⟨rfl,hw⟩
 rw[hw]
 simp only[ByteArray.toList_mk]
 clear hw w2
 rw[has]
 go_wp2_with fail
 have n6:Hid (St ((w1.setCell ⟨lb,1,none⟩ (.bool false)).alloc (.cells #[.int .i64 1,.int .i64 val,.string tx,.slice ao t.args.length cap] 76)) rb s l1 ns1 nv1 e1):=((ae fx).only ((aD.refl lb _).set 1 (.bool false)) hne cG (by unfold aO;rw[ae dy];simp)).below ((Below.refl _ _).alloc (Nat.le_refl _) _)
 have cO:Hid (KA rb [rb,lb] w ((w1.setCell ⟨lb,1,none⟩ (.bool false)).alloc (.cells #[.int .i64 1,.int .i64 val,.string tx,.slice ao t.args.length cap] 76))):=((ae fR).wide.fD (by simp) _).alloc _
 have nP:Hid (((w1.setCell ⟨lb,1,none⟩ (.bool false)).alloc (.cells #[.int .i64 1,.int .i64 val,.string tx,.slice ao t.args.length cap] 76)).heap[lb]?=some (.cells #[iv,.bool false,.bool goals] 82 (0,0))):=aB (aA (ae dy) 1 (.bool false)) _
 have dt:Hid (((w1.setCell ⟨lb,1,none⟩ (.bool false)).alloc (.cells #[.int .i64 1,.int .i64 val,.string tx,.slice ao t.args.length cap] 76)).heap[w.heap.size]?=some (.cells #[.int .i64 0,.int .i64 0,.string ⟨#[]⟩,.slice none 0 0,.string ⟨#[]⟩,.int .i64 0,.int .i64 0,.string ⟨#[]⟩,.slice none 0 0,.string ⟨#[]⟩,.int .i64 0,.int .i64 0,.string ⟨#[]⟩,.slice none 0 0] 151 (0,0))):=aB (aG (ae ez) (by omega) _ _) _
 go_wp2_with fail
 refine(bX _ rb s l1 ns1 nv1 e1 2 (ae n6)).mono ?_
 rintro e w3 ⟨rfl,hs3,hk3⟩
 have eo:=af hs3
 have dK:=af ((ae cO).trans hk3.wide)
 have hb3:=aq hk3 (ae dt) (by simp;omega)
 have r:=ah hb3
 have x:=ay hb3
 have bQ:=af hb3
 clear hs3 hk3 hb3
 go_wp2_with fail
 have RO:=(((((((((((((((aD.refl w.heap.size w3).set 0 (.int .i64 0)).set 1 (.int .i64 0)).set 2 (.string ⟨#[]⟩)).set 3 (.slice none 0 0)).set 4 (.string ⟨#[]⟩)).set 5 (.int .i64 0)).set 6 (.int .i64 0)).set 7 (.string ⟨#[]⟩)).set 8 (.slice none 0 0)).set 9 (.string ⟨#[]⟩)).set 10 (.int .i64 0)).set 11 (.int .i64 0)).set 12 (.string ⟨#[]⟩)).set 13 (.slice none 0 0))
 have RS:=(ae eo).only RO (by omega) (by omega) (by unfold aO;rw[ae bQ];simp)
 have RK:=(ae dK).eh RO (Nat.le_refl _)
 refine bodyPost_ret (v:= .tuple #[.agg #[.int .i64 0,.int .i64 0,.string ⟨#[]⟩,.slice none 0 0,.string ⟨#[]⟩,.int .i64 0,.int .i64 0,.string ⟨#[]⟩,.slice none 0 0,.string ⟨#[]⟩,.int .i64 0,.int .i64 0,.string ⟨#[]⟩,.slice none 0 0],.bool false]) (by simp[results,Tryz.results80,go_sem,r]) rfl ?_
 exact⟨⟨0,0,⟨#[]⟩,none,0,0⟩,⟨0,0,⟨#[]⟩,none,0,0⟩,⟨0,0,⟨#[]⟩,none,0,0⟩,⟨#[]⟩,⟨#[]⟩,l1,ns1,nv1,rfl,RS,rfl,RK⟩
theorem vZ (w:World) (rb lb:Nat) (s:ByteArray) (l:List Za.aj) (ns:List ByteArray) (nv iv:Value) (e0:Int) (goals:Bool) (h:St w rb s l ns nv e0) (hb:w.heap[lb]?=some (.cells #[iv,.bool true,.bool goals] 82 (0,0))) (hne:lb≠rb) (cG:lb≠0) (t:Za.Tm) (l1:List Za.aj) (dw:t.kind=3) (hi:Za.isInt t=false) (hT:Za.term 8 l= .inr (t,l1)) (aW:Za.bF l1=false) (heq:Za.sees l1 [61]=false) (has:Za.sees l1 [58,61]=false):
 Calls Tryz.prog 80 #[.pointer (some ⟨rb,0,none⟩),.pointer (some ⟨lb,0,none⟩)] w fun e w'=>nB rb lb iv s ns (Za.bad 2 l1) w e w':=by
 have hlt:=h.lt
 have dS:lb<w.heap.size:=ag hb
 obtain⟨hS,hK,hB0,hB1⟩:=dW h hb
 unfold boxZ at hS hK hB0 hB1
 have HS:=af hS
 have HK:=af hK
 have aX:=af hB0
 have bj:=af hB1
 have I:=af (fun W (hW:St W rb s l ns nv e0)=>term_all 8 W rb s l ns nv e0 1 rfl hW)
 rw[hT]at I
 clear hS hK hB0 hB1 h hb
 go_enter Tryz.func80,Tryz.ntmps80
 go_wp2_with fail
 refine(ae I _ (ae HS)).mono ?_
 have fG:ak t.kind=1:=by rw[dw];rfl
 have jU:=af dw
 clear dw
 rintro e w1 ⟨val,tx,ao,cap,ns1,nv1,e1,rfl,bh,hs,hk⟩
 rw[fG]
 have nZ:=af fG
 clear fG
 have fX:=af bh
 clear bh
 have fx:=af hs
 have bE:=af (hs.below ((Below.refl _ _).alloc (Nat.le_refl _) (.cells #[.int .i64 1,.int .i64 val,.string tx,.slice ao t.args.length cap] 76)))
 have fR:=af ((ae HK).trans hk)
 have hb0:=aq hk (ae aX) (by simp;omega)
 have hbl:=aq hk (ae bj) (by simpa using hne)
 have hz0:w.heap.size<w1.heap.size:=ag hb0
 have hzl:lb<w1.heap.size:=ag hbl
 have ez:=af hb0
 have dy:=af hbl
 have q:=ah hbl
 have y:=ay hbl
 clear hs hk hb0 hbl
 go_wp2_with fail
 refine(bI _ rb s l1 ns1 nv1 e1 (ae bE)).mono ?_
 rintro e w2 ⟨rfl,hw⟩
 rw[hw]
 clear hw w2
 rw[aW]
 go_wp2_with fail
 refine(bC _ rb s l1 ns1 nv1 e1 _ (ae bE)).mono ?_
 rintro e w2 ⟨rfl,hw⟩
 rw[hw]
 simp only[ByteArray.toList_mk]
 clear hw w2
 rw[heq]
 go_wp2_with fail
 refine(bC _ rb s l1 ns1 nv1 e1 _ (ae bE)).mono ?_
 rintro e w2 ⟨rfl,hw⟩
 rw[hw]
 simp only[ByteArray.toList_mk]
 clear hw w2
 rw[has]
 go_wp2_with fail
 have mn:=af (i6 (w1.alloc (.cells #[.int .i64 1,.int .i64 val,.string tx,.slice ao t.args.length cap] 76)) t val tx ao cap (ae fX).txt (by have:=ae jU;omega))
 rw[ae nZ]at mn
 refine(ae mn).mono ?_
 rintro e w2 ⟨rfl,dL⟩
 rw[hi]
 have D6:=af dL
 have xw:=af ((ae bE).below dL)
 have hz2:w1.heap.size<w2.heap.size:=by have:=dL.size;simp at this;omega
 have gF:=(dL.block lb (by simp;omega)).trans (aB (ae dy) (.cells #[.int .i64 1,.int .i64 val,.string tx,.slice ao t.args.length cap] 76))
 have lW:=(dL.block w1.heap.size (by simp)).trans (heap_alloc_new w1 (.cells #[.int .i64 1,.int .i64 val,.string tx,.slice ao t.args.length cap] 76))
 have lX:=(dL.block w.heap.size (by simp;omega)).trans (aB (ae ez) (.cells #[.int .i64 1,.int .i64 val,.string tx,.slice ao t.args.length cap] 76))
 have kH:=af (((ae fR).alloc (.cells #[.int .i64 1,.int .i64 val,.string tx,.slice ao t.args.length cap] 76)).trans (KA.aw dL))
 have q2:=ah gF
 have y2:=ay gF
 have vv:=ah lW
 have dr:=af gF
 have kx:=af lX
 clear dL gF lW lX q y
 have n6:Hid (St (w2.setCell ⟨lb,1,none⟩ (.bool false)) rb s l1 ns1 nv1 e1):=(ae xw).only ((aD.refl lb _).set 1 (.bool false)) hne cG (by unfold aO;rw[ae dr];simp)
 have cO:Hid (KA rb [rb,lb] w (w2.setCell ⟨lb,1,none⟩ (.bool false))):=(ae kH).wide.fD (by simp) _
 have nP:Hid ((w2.setCell ⟨lb,1,none⟩ (.bool false)).heap[lb]?=some (.cells #[iv,.bool false,.bool goals] 82 (0,0))):=aA (ae dr) 1 (.bool false)
 have dt:Hid ((w2.setCell ⟨lb,1,none⟩ (.bool false)).heap[w.heap.size]?=some (.cells #[.int .i64 0,.int .i64 0,.string ⟨#[]⟩,.slice none 0 0,.string ⟨#[]⟩,.int .i64 0,.int .i64 0,.string ⟨#[]⟩,.slice none 0 0,.string ⟨#[]⟩,.int .i64 0,.int .i64 0,.string ⟨#[]⟩,.slice none 0 0] 151 (0,0))):=aG (ae kx) (by omega) _ _
 go_wp2_with fail
 refine(bX _ rb s l1 ns1 nv1 e1 2 (ae n6)).mono ?_
 rintro e w3 ⟨rfl,hs3,hk3⟩
 have eo:=af hs3
 have dK:=af ((ae cO).trans hk3.wide)
 have hb3:=aq hk3 (ae dt) (by simp;omega)
 have r:=ah hb3
 have x:=ay hb3
 have bQ:=af hb3
 clear hs3 hk3 hb3
 go_wp2_with fail
 have RO:=(((((((((((((((aD.refl w.heap.size w3).set 0 (.int .i64 0)).set 1 (.int .i64 0)).set 2 (.string ⟨#[]⟩)).set 3 (.slice none 0 0)).set 4 (.string ⟨#[]⟩)).set 5 (.int .i64 0)).set 6 (.int .i64 0)).set 7 (.string ⟨#[]⟩)).set 8 (.slice none 0 0)).set 9 (.string ⟨#[]⟩)).set 10 (.int .i64 0)).set 11 (.int .i64 0)).set 12 (.string ⟨#[]⟩)).set 13 (.slice none 0 0))
 have RS:=(ae eo).only RO (by omega) (by omega) (by unfold aO;rw[ae bQ];simp)
 have RK:=(ae dK).eh RO (Nat.le_refl _)
 refine bodyPost_ret (v:= .tuple #[.agg #[.int .i64 0,.int .i64 0,.string ⟨#[]⟩,.slice none 0 0,.string ⟨#[]⟩,.int .i64 0,.int .i64 0,.string ⟨#[]⟩,.slice none 0 0,.string ⟨#[]⟩,.int .i64 0,.int .i64 0,.string ⟨#[]⟩,.slice none 0 0],.bool false]) (by simp[results,Tryz.results80,go_sem,r]) rfl ?_
 exact⟨⟨0,0,⟨#[]⟩,none,0,0⟩,⟨0,0,⟨#[]⟩,none,0,0⟩,⟨0,0,⟨#[]⟩,none,0,0⟩,⟨#[]⟩,⟨#[]⟩,l1,ns1,nv1,rfl,RS,rfl,RK⟩
theorem uZ (w:World) (rb lb:Nat) (s:ByteArray) (l:List Za.aj) (ns:List ByteArray) (nv iv:Value) (e0:Int) (goals:Bool) (h:St w rb s l ns nv e0) (hb:w.heap[lb]?=some (.cells #[iv,.bool false,.bool goals] 82 (0,0))) (hne:lb≠rb) (cG:lb≠0) (t:Za.Tm) (l1:List Za.aj) (dw:t.kind=4) (hT:Za.term 8 l= .inr (t,l1)) (aW:Za.bF l1=false) (heq:Za.sees l1 [61]=false):
 Calls Tryz.prog 80 #[.pointer (some ⟨rb,0,none⟩),.pointer (some ⟨lb,0,none⟩)] w fun e w'=>nB rb lb iv s ns (Za.bad 2 l1) w e w':=by
 have hlt:=h.lt
 have dS:lb<w.heap.size:=ag hb
 obtain⟨hS,hK,hB0,hB1⟩:=dW h hb
 unfold boxZ at hS hK hB0 hB1
 have HS:=af hS
 have HK:=af hK
 have aX:=af hB0
 have bj:=af hB1
 have I:=af (fun W (hW:St W rb s l ns nv e0)=>term_all 8 W rb s l ns nv e0 1 rfl hW)
 rw[hT]at I
 clear hS hK hB0 hB1 h hb
 go_enter Tryz.func80,Tryz.ntmps80
 go_wp2_with fail
 refine(ae I _ (ae HS)).mono ?_
 have fG:ak t.kind=2:=by rw[dw];rfl
 have jU:=af dw
 clear dw
 rintro e w1 ⟨val,tx,ao,cap,ns1,nv1,e1,rfl,bh,hs,hk⟩
 rw[fG]
 have nZ:=af fG
 clear fG
 have fX:=af bh
 clear bh
 have fx:=af hs
 have bE:=af (hs.below ((Below.refl _ _).alloc (Nat.le_refl _) (.cells #[.int .i64 2,.int .i64 val,.string tx,.slice ao t.args.length cap] 76)))
 have fR:=af ((ae HK).trans hk)
 have hb0:=aq hk (ae aX) (by simp;omega)
 have hbl:=aq hk (ae bj) (by simpa using hne)
 have hz0:w.heap.size<w1.heap.size:=ag hb0
 have hzl:lb<w1.heap.size:=ag hbl
 have ez:=af hb0
 have dy:=af hbl
 have q:=ah hbl
 have y:=ay hbl
 clear hs hk hb0 hbl
 go_wp2_with fail
 refine(bI _ rb s l1 ns1 nv1 e1 (ae bE)).mono ?_
 rintro e w2 ⟨rfl,hw⟩
 rw[hw]
 clear hw w2
 rw[aW]
 go_wp2_with fail
 refine(bC _ rb s l1 ns1 nv1 e1 _ (ae bE)).mono ?_
 rintro e w2 ⟨rfl,hw⟩
 rw[hw]
 simp only[ByteArray.toList_mk]
 clear hw w2
 rw[heq]
 go_wp2_with fail
 have n6:Hid (St ((w1.setCell ⟨lb,1,none⟩ (.bool false)).alloc (.cells #[.int .i64 2,.int .i64 val,.string tx,.slice ao t.args.length cap] 76)) rb s l1 ns1 nv1 e1):=((ae fx).only ((aD.refl lb _).set 1 (.bool false)) hne cG (by unfold aO;rw[ae dy];simp)).below ((Below.refl _ _).alloc (Nat.le_refl _) _)
 have cO:Hid (KA rb [rb,lb] w ((w1.setCell ⟨lb,1,none⟩ (.bool false)).alloc (.cells #[.int .i64 2,.int .i64 val,.string tx,.slice ao t.args.length cap] 76))):=((ae fR).wide.fD (by simp) _).alloc _
 have nP:Hid (((w1.setCell ⟨lb,1,none⟩ (.bool false)).alloc (.cells #[.int .i64 2,.int .i64 val,.string tx,.slice ao t.args.length cap] 76)).heap[lb]?=some (.cells #[iv,.bool false,.bool goals] 82 (0,0))):=aB (aA (ae dy) 1 (.bool false)) _
 have dt:Hid (((w1.setCell ⟨lb,1,none⟩ (.bool false)).alloc (.cells #[.int .i64 2,.int .i64 val,.string tx,.slice ao t.args.length cap] 76)).heap[w.heap.size]?=some (.cells #[.int .i64 0,.int .i64 0,.string ⟨#[]⟩,.slice none 0 0,.string ⟨#[]⟩,.int .i64 0,.int .i64 0,.string ⟨#[]⟩,.slice none 0 0,.string ⟨#[]⟩,.int .i64 0,.int .i64 0,.string ⟨#[]⟩,.slice none 0 0] 151 (0,0))):=aB (aG (ae ez) (by omega) _ _) _
 go_wp2_with fail
 refine(bX _ rb s l1 ns1 nv1 e1 2 (ae n6)).mono ?_
 rintro e w3 ⟨rfl,hs3,hk3⟩
 have eo:=af hs3
 have dK:=af ((ae cO).trans hk3.wide)
 have hb3:=aq hk3 (ae dt) (by simp;omega)
 have r:=ah hb3
 have x:=ay hb3
 have bQ:=af hb3
 clear hs3 hk3 hb3
 go_wp2_with fail
 have RO:=(((((((((((((((aD.refl w.heap.size w3).set 0 (.int .i64 0)).set 1 (.int .i64 0)).set 2 (.string ⟨#[]⟩)).set 3 (.slice none 0 0)).set 4 (.string ⟨#[]⟩)).set 5 (.int .i64 0)).set 6 (.int .i64 0)).set 7 (.string ⟨#[]⟩)).set 8 (.slice none 0 0)).set 9 (.string ⟨#[]⟩)).set 10 (.int .i64 0)).set 11 (.int .i64 0)).set 12 (.string ⟨#[]⟩)).set 13 (.slice none 0 0))
 have RS:=(ae eo).only RO (by omega) (by omega) (by unfold aO;rw[ae bQ];simp)
 have RK:=(ae dK).eh RO (Nat.le_refl _)
 refine bodyPost_ret (v:= .tuple #[.agg #[.int .i64 0,.int .i64 0,.string ⟨#[]⟩,.slice none 0 0,.string ⟨#[]⟩,.int .i64 0,.int .i64 0,.string ⟨#[]⟩,.slice none 0 0,.string ⟨#[]⟩,.int .i64 0,.int .i64 0,.string ⟨#[]⟩,.slice none 0 0],.bool false]) (by simp[results,Tryz.results80,go_sem,r]) rfl ?_
 exact⟨⟨0,0,⟨#[]⟩,none,0,0⟩,⟨0,0,⟨#[]⟩,none,0,0⟩,⟨0,0,⟨#[]⟩,none,0,0⟩,⟨#[]⟩,⟨#[]⟩,l1,ns1,nv1,rfl,RS,rfl,RK⟩
theorem wh (w:World) (rb lb:Nat) (s:ByteArray) (l:List Za.aj) (ns:List ByteArray) (nv iv:Value) (e0:Int) (goals:Bool) (h:St w rb s l ns nv e0) (hb:w.heap[lb]?=some (.cells #[iv,.bool true,.bool goals] 82 (0,0))) (hne:lb≠rb) (cG:lb≠0) (t:Za.Tm) (l1:List Za.aj) (dw:t.kind=4) (hi:Za.isInt t=false) (hT:Za.term 8 l= .inr (t,l1)) (aW:Za.bF l1=false) (heq:Za.sees l1 [61]=false):
 Calls Tryz.prog 80 #[.pointer (some ⟨rb,0,none⟩),.pointer (some ⟨lb,0,none⟩)] w fun e w'=>nB rb lb iv s ns (Za.bad 2 l1) w e w':=by
 have hlt:=h.lt
 have dS:lb<w.heap.size:=ag hb
 obtain⟨hS,hK,hB0,hB1⟩:=dW h hb
 unfold boxZ at hS hK hB0 hB1
 have HS:=af hS
 have HK:=af hK
 have aX:=af hB0
 have bj:=af hB1
 have I:=af (fun W (hW:St W rb s l ns nv e0)=>term_all 8 W rb s l ns nv e0 1 rfl hW)
 rw[hT]at I
 clear hS hK hB0 hB1 h hb
 go_enter Tryz.func80,Tryz.ntmps80
 go_wp2_with fail
 refine(ae I _ (ae HS)).mono ?_
 have fG:ak t.kind=2:=by rw[dw];rfl
 have jU:=af dw
 clear dw
 rintro e w1 ⟨val,tx,ao,cap,ns1,nv1,e1,rfl,bh,hs,hk⟩
 rw[fG]
 have nZ:=af fG
 clear fG
 have fX:=af bh
 clear bh
 have fx:=af hs
 have bE:=af (hs.below ((Below.refl _ _).alloc (Nat.le_refl _) (.cells #[.int .i64 2,.int .i64 val,.string tx,.slice ao t.args.length cap] 76)))
 have fR:=af ((ae HK).trans hk)
 have hb0:=aq hk (ae aX) (by simp;omega)
 have hbl:=aq hk (ae bj) (by simpa using hne)
 have hz0:w.heap.size<w1.heap.size:=ag hb0
 have hzl:lb<w1.heap.size:=ag hbl
 have ez:=af hb0
 have dy:=af hbl
 have q:=ah hbl
 have y:=ay hbl
 clear hs hk hb0 hbl
 go_wp2_with fail
 refine(bI _ rb s l1 ns1 nv1 e1 (ae bE)).mono ?_
 rintro e w2 ⟨rfl,hw⟩
 rw[hw]
 clear hw w2
 rw[aW]
 go_wp2_with fail
 refine(bC _ rb s l1 ns1 nv1 e1 _ (ae bE)).mono ?_
 rintro e w2 ⟨rfl,hw⟩
 rw[hw]
 simp only[ByteArray.toList_mk]
 clear hw w2
 rw[heq]
 go_wp2_with fail
 have mn:=af (i6 (w1.alloc (.cells #[.int .i64 2,.int .i64 val,.string tx,.slice ao t.args.length cap] 76)) t val tx ao cap (ae fX).txt (by have:=ae jU;omega))
 rw[ae nZ]at mn
 refine(ae mn).mono ?_
 rintro e w2 ⟨rfl,dL⟩
 rw[hi]
 have D6:=af dL
 have xw:=af ((ae bE).below dL)
 have hz2:w1.heap.size<w2.heap.size:=by have:=dL.size;simp at this;omega
 have gF:=(dL.block lb (by simp;omega)).trans (aB (ae dy) (.cells #[.int .i64 2,.int .i64 val,.string tx,.slice ao t.args.length cap] 76))
 have lW:=(dL.block w1.heap.size (by simp)).trans (heap_alloc_new w1 (.cells #[.int .i64 2,.int .i64 val,.string tx,.slice ao t.args.length cap] 76))
 have lX:=(dL.block w.heap.size (by simp;omega)).trans (aB (ae ez) (.cells #[.int .i64 2,.int .i64 val,.string tx,.slice ao t.args.length cap] 76))
 have kH:=af (((ae fR).alloc (.cells #[.int .i64 2,.int .i64 val,.string tx,.slice ao t.args.length cap] 76)).trans (KA.aw dL))
 have q2:=ah gF
 have y2:=ay gF
 have vv:=ah lW
 have dr:=af gF
 have kx:=af lX
 clear dL gF lW lX q y
 have n6:Hid (St (w2.setCell ⟨lb,1,none⟩ (.bool false)) rb s l1 ns1 nv1 e1):=(ae xw).only ((aD.refl lb _).set 1 (.bool false)) hne cG (by unfold aO;rw[ae dr];simp)
 have cO:Hid (KA rb [rb,lb] w (w2.setCell ⟨lb,1,none⟩ (.bool false))):=(ae kH).wide.fD (by simp) _
 have nP:Hid ((w2.setCell ⟨lb,1,none⟩ (.bool false)).heap[lb]?=some (.cells #[iv,.bool false,.bool goals] 82 (0,0))):=aA (ae dr) 1 (.bool false)
 have dt:Hid ((w2.setCell ⟨lb,1,none⟩ (.bool false)).heap[w.heap.size]?=some (.cells #[.int .i64 0,.int .i64 0,.string ⟨#[]⟩,.slice none 0 0,.string ⟨#[]⟩,.int .i64 0,.int .i64 0,.string ⟨#[]⟩,.slice none 0 0,.string ⟨#[]⟩,.int .i64 0,.int .i64 0,.string ⟨#[]⟩,.slice none 0 0] 151 (0,0))):=aG (ae kx) (by omega) _ _
 go_wp2_with fail
 refine(bX _ rb s l1 ns1 nv1 e1 2 (ae n6)).mono ?_
 rintro e w3 ⟨rfl,hs3,hk3⟩
 have eo:=af hs3
 have dK:=af ((ae cO).trans hk3.wide)
 have hb3:=aq hk3 (ae dt) (by simp;omega)
 have r:=ah hb3
 have x:=ay hb3
 have bQ:=af hb3
 clear hs3 hk3 hb3
 go_wp2_with fail
 have RO:=(((((((((((((((aD.refl w.heap.size w3).set 0 (.int .i64 0)).set 1 (.int .i64 0)).set 2 (.string ⟨#[]⟩)).set 3 (.slice none 0 0)).set 4 (.string ⟨#[]⟩)).set 5 (.int .i64 0)).set 6 (.int .i64 0)).set 7 (.string ⟨#[]⟩)).set 8 (.slice none 0 0)).set 9 (.string ⟨#[]⟩)).set 10 (.int .i64 0)).set 11 (.int .i64 0)).set 12 (.string ⟨#[]⟩)).set 13 (.slice none 0 0))
 have RS:=(ae eo).only RO (by omega) (by omega) (by unfold aO;rw[ae bQ];simp)
 have RK:=(ae dK).eh RO (Nat.le_refl _)
 refine bodyPost_ret (v:= .tuple #[.agg #[.int .i64 0,.int .i64 0,.string ⟨#[]⟩,.slice none 0 0,.string ⟨#[]⟩,.int .i64 0,.int .i64 0,.string ⟨#[]⟩,.slice none 0 0,.string ⟨#[]⟩,.int .i64 0,.int .i64 0,.string ⟨#[]⟩,.slice none 0 0],.bool false]) (by simp[results,Tryz.results80,go_sem,r]) rfl ?_
 exact⟨⟨0,0,⟨#[]⟩,none,0,0⟩,⟨0,0,⟨#[]⟩,none,0,0⟩,⟨0,0,⟨#[]⟩,none,0,0⟩,⟨#[]⟩,⟨#[]⟩,l1,ns1,nv1,rfl,RS,rfl,RK⟩
end Go.Proofs.YthfjnfcekeknlaaGreatDoor
