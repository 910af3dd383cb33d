import Derived.Test.YthfjnfcekeknlaaGreatDoorMe13
set_option maxHeartbeats 8000000
set_option maxRecDepth 100000
namespace Go.Proofs.YthfjnfcekeknlaaGreatDoor
open Go.RowKit
theorem vy (w:World) (rb lb:Nat) (s:ByteArray) (l:List Zc.aj) (ns:List ByteArray) (nv iv:Value) (e0:Int) (h:St w rb s l ns nv e0) (hb:w.heap[lb]?=some (.cells #[iv,.bool false,.bool true] 82 (0,0))) (hne:lb≠rb) (cI:lb≠0) (t:Zc.Tm) (l1:List Zc.aj) (dB:t.kind=2) (hT:Zc.term 8 l= .inr (t,l1)) (aV:Zc.bF l1=false) (heq:Zc.sees l1 [61]=false):
 Calls Tryz.prog 80 #[.pointer (some ⟨rb,0,none⟩),.pointer (some ⟨lb,0,none⟩)] w fun e w'=>nM rb lb iv s ns (.inr ((⟨t,[],none,[],none⟩,false,true),l1)) w e w':=by
 have hlt:=h.lt
 have dX:lb<w.heap.size:=ag hb
 obtain⟨hS,hK,hB0,hB1⟩:=ej h hb
 unfold boxZ at hS hK hB0 hB1
 have HS:=af hS
 have HK:=af hK
 have bf:=af hB0
 have ba:=af hB1
 have I:=af (fun W (hW:St W rb s l ns nv e0)=>term_all 8 W rb s l ns nv e0 1 rfl hW)
 rw[hT]at I
 clear hS hK hB0 hB1 h hb
 go_enter Tryz.func80,Tryz.ntmps80
 go_wp2_with fail
 refine(ae I _ (ae HS)).mono ?_
 have fL:ak t.kind=3:=by rw[dB];rfl
 have kj:=af dB
 clear dB
 rintro e w1 ⟨val,tx,ao,cap,ns1,nv1,e1,rfl,bj,hs,hk⟩
 rw[fL]
 have ot:=af fL
 clear fL
 have fZ:=af bj
 clear bj
 have fC:=af hs
 have bE:=af (hs.below ((Below.refl _ _).alloc (Nat.le_refl _) (.cells #[.int .i64 3,.int .i64 val,.string tx,.slice ao t.args.length cap] 76)))
 have fT:=af ((ae HK).trans hk)
 have hb0:=aq hk (ae bf) (by simp;omega)
 have hbl:=aq hk (ae ba) (by simpa using hne)
 have hz0:w.heap.size<w1.heap.size:=ag hb0
 have hzl:lb<w1.heap.size:=ag hbl
 have eM:=af hb0
 have r:=ah hb0
 have x:=ay hb0
 have dD:=af hbl
 have q:=ah hbl
 have y:=ay hbl
 clear hs hk hb0 hbl
 go_wp2_with fail
 refine(bI _ rb s l1 ns1 nv1 e1 (ae bE)).mono ?_
 rintro e w2 ⟨rfl,hw⟩
 rw[hw]
 clear hw w2
 rw[aV]
 go_wp2_with fail
 refine(bC _ rb s l1 ns1 nv1 e1 _ (ae bE)).mono ?_
 rintro e w2 ⟨rfl,hw⟩
 rw[hw]
 simp only[ByteArray.toList_mk]
 clear hw w2
 rw[heq]
 go_wp2_with fail
 have ou:Hid (St ((w1.setCell ⟨lb,1,none⟩ (.bool false)).alloc (.cells #[.int .i64 3,.int .i64 val,.string tx,.slice ao t.args.length cap] 76)) rb s l1 ns1 nv1 e1):=((ae fC).only ((aD.refl lb _).set 1 (.bool false)) hne cI (by unfold aP;rw[ae dD];simp)).below ((Below.refl _ _).alloc (Nat.le_refl _) _)
 have cZ:Hid (KA rb [rb,lb] w ((w1.setCell ⟨lb,1,none⟩ (.bool false)).alloc (.cells #[.int .i64 3,.int .i64 val,.string tx,.slice ao t.args.length cap] 76))):=((ae fT).wide.fI (by simp) _).alloc _
 have nY:Hid (((w1.setCell ⟨lb,1,none⟩ (.bool false)).alloc (.cells #[.int .i64 3,.int .i64 val,.string tx,.slice ao t.args.length cap] 76)).heap[lb]?=some (.cells #[iv,.bool false,.bool true] 82 (0,0))):=aB (aA (ae dD) 1 (.bool false)) _
 have dy:Hid (((w1.setCell ⟨lb,1,none⟩ (.bool false)).alloc (.cells #[.int .i64 3,.int .i64 val,.string tx,.slice ao t.args.length cap] 76)).heap[w.heap.size]?=some (.cells #[.int .i64 0,.int .i64 0,.string ⟨#[]⟩,.slice none 0 0,.string ⟨#[]⟩,.int .i64 0,.int .i64 0,.string ⟨#[]⟩,.slice none 0 0,.string ⟨#[]⟩,.int .i64 0,.int .i64 0,.string ⟨#[]⟩,.slice none 0 0] 151 (0,0))):=aB (aG (ae eM) (by omega) _ _) _
 have Qp:=(ae fC).only ((aD.refl lb _).set 1 (.bool false)) hne cI (by unfold aP;rw[ae dD];simp)
 have RO:=(((((((((((((((aD.refl w.heap.size (w1.setCell ⟨lb,1,none⟩ (.bool false))).set 0 (.int .i64 3)).set 1 (.int .i64 val)).set 2 (.string tx)).set 3 (.slice ao t.args.length cap)).set 4 (.string ⟨#[]⟩)).set 5 (.int .i64 0)).set 6 (.int .i64 0)).set 7 (.string ⟨#[]⟩)).set 8 (.slice none 0 0)).set 9 (.string ⟨#[]⟩)).set 10 (.int .i64 0)).set 11 (.int .i64 0)).set 12 (.string ⟨#[]⟩)).set 13 (.slice none 0 0))
 have RS:=Qp.only RO (by omega) (by omega) (by unfold aP;rw[aG (ae eM) (show w.heap.size≠lb by omega) 1 (.bool false)];simp)
 have RK:=((ae fT).wide (lb:=lb)).fI (p:=⟨lb,1,none⟩) (by simp) (.bool false) |>.eI RO (Nat.le_refl _)
 have RL:=(RO.block lb (by omega)).trans (aA (ae dD) 1 (.bool false))
 refine bodyPost_ret (v:= .tuple #[.agg #[.int .i64 3,.int .i64 val,.string tx,.slice ao t.args.length cap,.string ⟨#[]⟩,.int .i64 0,.int .i64 0,.string ⟨#[]⟩,.slice none 0 0,.string ⟨#[]⟩,.int .i64 0,.int .i64 0,.string ⟨#[]⟩,.slice none 0 0],.bool true]) (by simp[results,Tryz.results80,go_sem,hz0,r]) rfl ?_
 exact⟨⟨3,val,tx,ao,t.args.length,cap⟩,⟨0,0,⟨#[]⟩,none,0,0⟩,⟨0,0,⟨#[]⟩,none,0,0⟩,⟨#[]⟩,⟨#[]⟩,ns1,nv1,e1,rfl,(by have q:=pj.plain (b:=⟨0,0,⟨#[]⟩,none,0,0⟩) (c:=⟨0,0,⟨#[]⟩,none,0,0⟩) (ae fZ) (((aN.only ((aD.refl lb w1).set 1 (.bool false)) (by unfold aP;rw[ae dD];simp)).trans (aN.only RO (by unfold aP;rw[aG (ae eM) (show w.heap.size≠lb by omega) 1 (.bool false)];simp))).trans (aN.alloc _ (.cells #[.int .i64 3,.int .i64 val,.string tx,.slice ao t.args.length cap] 76)));rw[ae ot]at q;exact q),RS.below ((Below.refl _ _).alloc (Nat.le_refl _) _),aB RL _,RK.alloc _⟩
theorem vz (w:World) (rb lb:Nat) (s:ByteArray) (l:List Zc.aj) (ns:List ByteArray) (nv iv:Value) (e0:Int) (h:St w rb s l ns nv e0) (hb:w.heap[lb]?=some (.cells #[iv,.bool false,.bool false] 82 (0,0))) (hne:lb≠rb) (cI:lb≠0) (t:Zc.Tm) (l1:List Zc.aj) (dB:t.kind=2) (hT:Zc.term 8 l= .inr (t,l1)) (aV:Zc.bF l1=false) (heq:Zc.sees l1 [61]=false):
 Calls Tryz.prog 80 #[.pointer (some ⟨rb,0,none⟩),.pointer (some ⟨lb,0,none⟩)] w fun e w'=>nM rb lb iv s ns (Zc.bad 2 l1) w e w':=by
 have hlt:=h.lt
 have dX:lb<w.heap.size:=ag hb
 obtain⟨hS,hK,hB0,hB1⟩:=ej h hb
 unfold boxZ at hS hK hB0 hB1
 have HS:=af hS
 have HK:=af hK
 have bf:=af hB0
 have ba:=af hB1
 have I:=af (fun W (hW:St W rb s l ns nv e0)=>term_all 8 W rb s l ns nv e0 1 rfl hW)
 rw[hT]at I
 clear hS hK hB0 hB1 h hb
 go_enter Tryz.func80,Tryz.ntmps80
 go_wp2_with fail
 refine(ae I _ (ae HS)).mono ?_
 have fL:ak t.kind=3:=by rw[dB];rfl
 have kj:=af dB
 clear dB
 rintro e w1 ⟨val,tx,ao,cap,ns1,nv1,e1,rfl,bj,hs,hk⟩
 rw[fL]
 have ot:=af fL
 clear fL
 have fZ:=af bj
 clear bj
 have fC:=af hs
 have bE:=af (hs.below ((Below.refl _ _).alloc (Nat.le_refl _) (.cells #[.int .i64 3,.int .i64 val,.string tx,.slice ao t.args.length cap] 76)))
 have fT:=af ((ae HK).trans hk)
 have hb0:=aq hk (ae bf) (by simp;omega)
 have hbl:=aq hk (ae ba) (by simpa using hne)
 have hz0:w.heap.size<w1.heap.size:=ag hb0
 have hzl:lb<w1.heap.size:=ag hbl
 have eM:=af hb0
 have dD:=af hbl
 have q:=ah hbl
 have y:=ay hbl
 clear hs hk hb0 hbl
 go_wp2_with fail
 refine(bI _ rb s l1 ns1 nv1 e1 (ae bE)).mono ?_
 rintro e w2 ⟨rfl,hw⟩
 rw[hw]
 clear hw w2
 rw[aV]
 go_wp2_with fail
 refine(bC _ rb s l1 ns1 nv1 e1 _ (ae bE)).mono ?_
 rintro e w2 ⟨rfl,hw⟩
 rw[hw]
 simp only[ByteArray.toList_mk]
 clear hw w2
 rw[heq]
 go_wp2_with fail
 have ou:Hid (St ((w1.setCell ⟨lb,1,none⟩ (.bool false)).alloc (.cells #[.int .i64 3,.int .i64 val,.string tx,.slice ao t.args.length cap] 76)) rb s l1 ns1 nv1 e1):=((ae fC).only ((aD.refl lb _).set 1 (.bool false)) hne cI (by unfold aP;rw[ae dD];simp)).below ((Below.refl _ _).alloc (Nat.le_refl _) _)
 have cZ:Hid (KA rb [rb,lb] w ((w1.setCell ⟨lb,1,none⟩ (.bool false)).alloc (.cells #[.int .i64 3,.int .i64 val,.string tx,.slice ao t.args.length cap] 76))):=((ae fT).wide.fI (by simp) _).alloc _
 have nY:Hid (((w1.setCell ⟨lb,1,none⟩ (.bool false)).alloc (.cells #[.int .i64 3,.int .i64 val,.string tx,.slice ao t.args.length cap] 76)).heap[lb]?=some (.cells #[iv,.bool false,.bool false] 82 (0,0))):=aB (aA (ae dD) 1 (.bool false)) _
 have dy:Hid (((w1.setCell ⟨lb,1,none⟩ (.bool false)).alloc (.cells #[.int .i64 3,.int .i64 val,.string tx,.slice ao t.args.length cap] 76)).heap[w.heap.size]?=some (.cells #[.int .i64 0,.int .i64 0,.string ⟨#[]⟩,.slice none 0 0,.string ⟨#[]⟩,.int .i64 0,.int .i64 0,.string ⟨#[]⟩,.slice none 0 0,.string ⟨#[]⟩,.int .i64 0,.int .i64 0,.string ⟨#[]⟩,.slice none 0 0] 151 (0,0))):=aB (aG (ae eM) (by omega) _ _) _
 go_wp2_with fail
 refine(bW _ rb s l1 ns1 nv1 e1 2 (ae ou)).mono ?_
 rintro e w3 ⟨rfl,hs3,hk3⟩
 have eK:=af hs3
 have ez:=af ((ae cZ).trans hk3.wide)
 have hb3:=aq hk3 (ae dy) (by simp;omega)
 have r:=ah hb3
 have x:=ay hb3
 have bu:=af hb3
 clear hs3 hk3 hb3
 go_wp2_with fail
 have RO:=(((((((((((((((aD.refl w.heap.size w3).set 0 (.int .i64 0)).set 1 (.int .i64 0)).set 2 (.string ⟨#[]⟩)).set 3 (.slice none 0 0)).set 4 (.string ⟨#[]⟩)).set 5 (.int .i64 0)).set 6 (.int .i64 0)).set 7 (.string ⟨#[]⟩)).set 8 (.slice none 0 0)).set 9 (.string ⟨#[]⟩)).set 10 (.int .i64 0)).set 11 (.int .i64 0)).set 12 (.string ⟨#[]⟩)).set 13 (.slice none 0 0))
 have RS:=(ae eK).only RO (by omega) (by omega) (by unfold aP;rw[ae bu];simp)
 have RK:=(ae ez).eI RO (Nat.le_refl _)
 refine bodyPost_ret (v:= .tuple #[.agg #[.int .i64 0,.int .i64 0,.string ⟨#[]⟩,.slice none 0 0,.string ⟨#[]⟩,.int .i64 0,.int .i64 0,.string ⟨#[]⟩,.slice none 0 0,.string ⟨#[]⟩,.int .i64 0,.int .i64 0,.string ⟨#[]⟩,.slice none 0 0],.bool false]) (by simp[results,Tryz.results80,go_sem,r]) rfl ?_
 exact⟨⟨0,0,⟨#[]⟩,none,0,0⟩,⟨0,0,⟨#[]⟩,none,0,0⟩,⟨0,0,⟨#[]⟩,none,0,0⟩,⟨#[]⟩,⟨#[]⟩,l1,ns1,nv1,rfl,RS,rfl,RK⟩
theorem wC (w:World) (rb lb:Nat) (s:ByteArray) (l:List Zc.aj) (ns:List ByteArray) (nv iv:Value) (e0:Int) (goals:Bool) (h:St w rb s l ns nv e0) (hb:w.heap[lb]?=some (.cells #[iv,.bool true,.bool goals] 82 (0,0))) (hne:lb≠rb) (cI:lb≠0) (t:Zc.Tm) (l1:List Zc.aj) (dB:t.kind=2) (hi:Zc.isInt t=true) (hT:Zc.term 8 l= .inr (t,l1)) (aV:Zc.bF l1=false) (heq:Zc.sees l1 [61]=false):
 Calls Tryz.prog 80 #[.pointer (some ⟨rb,0,none⟩),.pointer (some ⟨lb,0,none⟩)] w fun e w'=>nM rb lb iv s ns (.inr ((⟨t,[],none,[],none⟩,true,goals),l1)) w e w':=by
 have hlt:=h.lt
 have dX:lb<w.heap.size:=ag hb
 obtain⟨hS,hK,hB0,hB1⟩:=ej h hb
 unfold boxZ at hS hK hB0 hB1
 have HS:=af hS
 have HK:=af hK
 have bf:=af hB0
 have ba:=af hB1
 have I:=af (fun W (hW:St W rb s l ns nv e0)=>term_all 8 W rb s l ns nv e0 1 rfl hW)
 rw[hT]at I
 clear hS hK hB0 hB1 h hb
 go_enter Tryz.func80,Tryz.ntmps80
 go_wp2_with fail
 refine(ae I _ (ae HS)).mono ?_
 have fL:ak t.kind=3:=by rw[dB];rfl
 have kj:=af dB
 clear dB
 rintro e w1 ⟨val,tx,ao,cap,ns1,nv1,e1,rfl,bj,hs,hk⟩
 rw[fL]
 have ot:=af fL
 clear fL
 have fZ:=af bj
 clear bj
 have fC:=af hs
 have bE:=af (hs.below ((Below.refl _ _).alloc (Nat.le_refl _) (.cells #[.int .i64 3,.int .i64 val,.string tx,.slice ao t.args.length cap] 76)))
 have fT:=af ((ae HK).trans hk)
 have hb0:=aq hk (ae bf) (by simp;omega)
 have hbl:=aq hk (ae ba) (by simpa using hne)
 have hz0:w.heap.size<w1.heap.size:=ag hb0
 have hzl:lb<w1.heap.size:=ag hbl
 have eM:=af hb0
 have dD:=af hbl
 have q:=ah hbl
 have y:=ay hbl
 clear hs hk hb0 hbl
 go_wp2_with fail
 refine(bI _ rb s l1 ns1 nv1 e1 (ae bE)).mono ?_
 rintro e w2 ⟨rfl,hw⟩
 rw[hw]
 clear hw w2
 rw[aV]
 go_wp2_with fail
 refine(bC _ rb s l1 ns1 nv1 e1 _ (ae bE)).mono ?_
 rintro e w2 ⟨rfl,hw⟩
 rw[hw]
 simp only[ByteArray.toList_mk]
 clear hw w2
 rw[heq]
 go_wp2_with fail
 have mF:=af (jk (w1.alloc (.cells #[.int .i64 3,.int .i64 val,.string tx,.slice ao t.args.length cap] 76)) t val tx ao cap (ae fZ).txt (by have:=ae kj;omega))
 rw[ae ot]at mF
 refine(ae mF).mono ?_
 rintro e w2 ⟨rfl,dQ⟩
 rw[hi]
 have Ep:=af dQ
 have xK:=af ((ae bE).below dQ)
 have hz2:w1.heap.size<w2.heap.size:=by have:=dQ.size;simp at this;omega
 have gJ:=(dQ.block lb (by simp;omega)).trans (aB (ae dD) (.cells #[.int .i64 3,.int .i64 val,.string tx,.slice ao t.args.length cap] 76))
 have mj:=(dQ.block w1.heap.size (by simp)).trans (heap_alloc_new w1 (.cells #[.int .i64 3,.int .i64 val,.string tx,.slice ao t.args.length cap] 76))
 have mn:=(dQ.block w.heap.size (by simp;omega)).trans (aB (ae eM) (.cells #[.int .i64 3,.int .i64 val,.string tx,.slice ao t.args.length cap] 76))
 have kU:=af (((ae fT).alloc (.cells #[.int .i64 3,.int .i64 val,.string tx,.slice ao t.args.length cap] 76)).trans (KA.aw dQ))
 have q2:=ah gJ
 have y2:=ay gJ
 have vv:=ah mj
 have dx:=af gJ
 have kG:=af mn
 clear dQ gJ mj mn q y
 have ou:Hid (St (w2.setCell ⟨lb,1,none⟩ (.bool true)) rb s l1 ns1 nv1 e1):=(ae xK).only ((aD.refl lb _).set 1 (.bool true)) hne cI (by unfold aP;rw[ae dx];simp)
 have cZ:Hid (KA rb [rb,lb] w (w2.setCell ⟨lb,1,none⟩ (.bool true))):=(ae kU).wide.fI (by simp) _
 have nY:Hid ((w2.setCell ⟨lb,1,none⟩ (.bool true)).heap[lb]?=some (.cells #[iv,.bool true,.bool goals] 82 (0,0))):=aA (ae dx) 1 (.bool true)
 have dy:Hid ((w2.setCell ⟨lb,1,none⟩ (.bool true)).heap[w.heap.size]?=some (.cells #[.int .i64 0,.int .i64 0,.string ⟨#[]⟩,.slice none 0 0,.string ⟨#[]⟩,.int .i64 0,.int .i64 0,.string ⟨#[]⟩,.slice none 0 0,.string ⟨#[]⟩,.int .i64 0,.int .i64 0,.string ⟨#[]⟩,.slice none 0 0] 151 (0,0))):=aG (ae kG) (by omega) _ _
 have r:=ah (ae kG)
 have x:=ay (ae kG)
 go_wp2_with fail
 have RO:=(((((((((((((((aD.refl w.heap.size (w2.setCell ⟨lb,1,none⟩ (.bool true))).set 0 (.int .i64 3)).set 1 (.int .i64 val)).set 2 (.string tx)).set 3 (.slice ao t.args.length cap)).set 4 (.string ⟨#[]⟩)).set 5 (.int .i64 0)).set 6 (.int .i64 0)).set 7 (.string ⟨#[]⟩)).set 8 (.slice none 0 0)).set 9 (.string ⟨#[]⟩)).set 10 (.int .i64 0)).set 11 (.int .i64 0)).set 12 (.string ⟨#[]⟩)).set 13 (.slice none 0 0))
 have RS:=(ae ou).only RO (by omega) (by omega) (by unfold aP;rw[ae dy];simp)
 have RK:=(ae cZ).eI RO (Nat.le_refl _)
 have RL:=(RO.block lb (by omega)).trans (ae nY)
 refine bodyPost_ret (v:= .tuple #[.agg #[.int .i64 3,.int .i64 val,.string tx,.slice ao t.args.length cap,.string ⟨#[]⟩,.int .i64 0,.int .i64 0,.string ⟨#[]⟩,.slice none 0 0,.string ⟨#[]⟩,.int .i64 0,.int .i64 0,.string ⟨#[]⟩,.slice none 0 0],.bool true]) (by simp[results,Tryz.results80,go_sem,r]) rfl ?_
 exact⟨⟨3,val,tx,ao,t.args.length,cap⟩,⟨0,0,⟨#[]⟩,none,0,0⟩,⟨0,0,⟨#[]⟩,none,0,0⟩,⟨#[]⟩,⟨#[]⟩,ns1,nv1,e1,rfl,(by have q:=pj.plain (b:=⟨0,0,⟨#[]⟩,none,0,0⟩) (c:=⟨0,0,⟨#[]⟩,none,0,0⟩) (ae fZ) ((((aN.alloc _ _).trans (aN.below (ae Ep))).trans (aN.only ((aD.refl lb w2).set 1 (.bool true)) (by unfold aP;rw[ae dx];simp))).trans (aN.only RO (by unfold aP;rw[ae dy];simp)));rw[ae ot]at q;exact q),RS,RL,RK⟩
theorem wD (w:World) (rb lb:Nat) (s:ByteArray) (l:List Zc.aj) (ns:List ByteArray) (nv iv:Value) (e0:Int) (h:St w rb s l ns nv e0) (hb:w.heap[lb]?=some (.cells #[iv,.bool true,.bool true] 82 (0,0))) (hne:lb≠rb) (cI:lb≠0) (t:Zc.Tm) (l1:List Zc.aj) (dB:t.kind=2) (hi:Zc.isInt t=false) (hT:Zc.term 8 l= .inr (t,l1)) (aV:Zc.bF l1=false) (heq:Zc.sees l1 [61]=false):
 Calls Tryz.prog 80 #[.pointer (some ⟨rb,0,none⟩),.pointer (some ⟨lb,0,none⟩)] w fun e w'=>nM rb lb iv s ns (.inr ((⟨t,[],none,[],none⟩,false,true),l1)) w e w':=by
 have hlt:=h.lt
 have dX:lb<w.heap.size:=ag hb
 obtain⟨hS,hK,hB0,hB1⟩:=ej h hb
 unfold boxZ at hS hK hB0 hB1
 have HS:=af hS
 have HK:=af hK
 have bf:=af hB0
 have ba:=af hB1
 have I:=af (fun W (hW:St W rb s l ns nv e0)=>term_all 8 W rb s l ns nv e0 1 rfl hW)
 rw[hT]at I
 clear hS hK hB0 hB1 h hb
 go_enter Tryz.func80,Tryz.ntmps80
 go_wp2_with fail
 refine(ae I _ (ae HS)).mono ?_
 have fL:ak t.kind=3:=by rw[dB];rfl
 have kj:=af dB
 clear dB
 rintro e w1 ⟨val,tx,ao,cap,ns1,nv1,e1,rfl,bj,hs,hk⟩
 rw[fL]
 have ot:=af fL
 clear fL
 have fZ:=af bj
 clear bj
 have fC:=af hs
 have bE:=af (hs.below ((Below.refl _ _).alloc (Nat.le_refl _) (.cells #[.int .i64 3,.int .i64 val,.string tx,.slice ao t.args.length cap] 76)))
 have fT:=af ((ae HK).trans hk)
 have hb0:=aq hk (ae bf) (by simp;omega)
 have hbl:=aq hk (ae ba) (by simpa using hne)
 have hz0:w.heap.size<w1.heap.size:=ag hb0
 have hzl:lb<w1.heap.size:=ag hbl
 have eM:=af hb0
 have dD:=af hbl
 have q:=ah hbl
 have y:=ay hbl
 clear hs hk hb0 hbl
 go_wp2_with fail
 refine(bI _ rb s l1 ns1 nv1 e1 (ae bE)).mono ?_
 rintro e w2 ⟨rfl,hw⟩
 rw[hw]
 clear hw w2
 rw[aV]
 go_wp2_with fail
 refine(bC _ rb s l1 ns1 nv1 e1 _ (ae bE)).mono ?_
 rintro e w2 ⟨rfl,hw⟩
 rw[hw]
 simp only[ByteArray.toList_mk]
 clear hw w2
 rw[heq]
 go_wp2_with fail
 have mF:=af (jk (w1.alloc (.cells #[.int .i64 3,.int .i64 val,.string tx,.slice ao t.args.length cap] 76)) t val tx ao cap (ae fZ).txt (by have:=ae kj;omega))
 rw[ae ot]at mF
 refine(ae mF).mono ?_
 rintro e w2 ⟨rfl,dQ⟩
 rw[hi]
 have Ep:=af dQ
 have xK:=af ((ae bE).below dQ)
 have hz2:w1.heap.size<w2.heap.size:=by have:=dQ.size;simp at this;omega
 have gJ:=(dQ.block lb (by simp;omega)).trans (aB (ae dD) (.cells #[.int .i64 3,.int .i64 val,.string tx,.slice ao t.args.length cap] 76))
 have mj:=(dQ.block w1.heap.size (by simp)).trans (heap_alloc_new w1 (.cells #[.int .i64 3,.int .i64 val,.string tx,.slice ao t.args.length cap] 76))
 have mn:=(dQ.block w.heap.size (by simp;omega)).trans (aB (ae eM) (.cells #[.int .i64 3,.int .i64 val,.string tx,.slice ao t.args.length cap] 76))
 have kU:=af (((ae fT).alloc (.cells #[.int .i64 3,.int .i64 val,.string tx,.slice ao t.args.length cap] 76)).trans (KA.aw dQ))
 have q2:=ah gJ
 have y2:=ay gJ
 have vv:=ah mj
 have dx:=af gJ
 have kG:=af mn
 clear dQ gJ mj mn q y
 have ou:Hid (St (w2.setCell ⟨lb,1,none⟩ (.bool false)) rb s l1 ns1 nv1 e1):=(ae xK).only ((aD.refl lb _).set 1 (.bool false)) hne cI (by unfold aP;rw[ae dx];simp)
 have cZ:Hid (KA rb [rb,lb] w (w2.setCell ⟨lb,1,none⟩ (.bool false))):=(ae kU).wide.fI (by simp) _
 have nY:Hid ((w2.setCell ⟨lb,1,none⟩ (.bool false)).heap[lb]?=some (.cells #[iv,.bool false,.bool true] 82 (0,0))):=aA (ae dx) 1 (.bool false)
 have dy:Hid ((w2.setCell ⟨lb,1,none⟩ (.bool false)).heap[w.heap.size]?=some (.cells #[.int .i64 0,.int .i64 0,.string ⟨#[]⟩,.slice none 0 0,.string ⟨#[]⟩,.int .i64 0,.int .i64 0,.string ⟨#[]⟩,.slice none 0 0,.string ⟨#[]⟩,.int .i64 0,.int .i64 0,.string ⟨#[]⟩,.slice none 0 0] 151 (0,0))):=aG (ae kG) (by omega) _ _
 have r:=ah (ae kG)
 have x:=ay (ae kG)
 go_wp2_with fail
 have RO:=(((((((((((((((aD.refl w.heap.size (w2.setCell ⟨lb,1,none⟩ (.bool false))).set 0 (.int .i64 3)).set 1 (.int .i64 val)).set 2 (.string tx)).set 3 (.slice ao t.args.length cap)).set 4 (.string ⟨#[]⟩)).set 5 (.int .i64 0)).set 6 (.int .i64 0)).set 7 (.string ⟨#[]⟩)).set 8 (.slice none 0 0)).set 9 (.string ⟨#[]⟩)).set 10 (.int .i64 0)).set 11 (.int .i64 0)).set 12 (.string ⟨#[]⟩)).set 13 (.slice none 0 0))
 have RS:=(ae ou).only RO (by omega) (by omega) (by unfold aP;rw[ae dy];simp)
 have RK:=(ae cZ).eI RO (Nat.le_refl _)
 have RL:=(RO.block lb (by omega)).trans (ae nY)
 refine bodyPost_ret (v:= .tuple #[.agg #[.int .i64 3,.int .i64 val,.string tx,.slice ao t.args.length cap,.string ⟨#[]⟩,.int .i64 0,.int .i64 0,.string ⟨#[]⟩,.slice none 0 0,.string ⟨#[]⟩,.int .i64 0,.int .i64 0,.string ⟨#[]⟩,.slice none 0 0],.bool true]) (by simp[results,Tryz.results80,go_sem,r]) rfl ?_
 exact⟨⟨3,val,tx,ao,t.args.length,cap⟩,⟨0,0,⟨#[]⟩,none,0,0⟩,⟨0,0,⟨#[]⟩,none,0,0⟩,⟨#[]⟩,⟨#[]⟩,ns1,nv1,e1,rfl,(by have q:=pj.plain (b:=⟨0,0,⟨#[]⟩,none,0,0⟩) (c:=⟨0,0,⟨#[]⟩,none,0,0⟩) (ae fZ) ((((aN.alloc _ _).trans (aN.below (ae Ep))).trans (aN.only ((aD.refl lb w2).set 1 (.bool false)) (by unfold aP;rw[ae dx];simp))).trans (aN.only RO (by unfold aP;rw[ae dy];simp)));rw[ae ot]at q;exact q),RS,RL,RK⟩
theorem wE (w:World) (rb lb:Nat) (s:ByteArray) (l:List Zc.aj) (ns:List ByteArray) (nv iv:Value) (e0:Int) (h:St w rb s l ns nv e0) (hb:w.heap[lb]?=some (.cells #[iv,.bool true,.bool false] 82 (0,0))) (hne:lb≠rb) (cI:lb≠0) (t:Zc.Tm) (l1:List Zc.aj) (dB:t.kind=2) (hi:Zc.isInt t=false) (hT:Zc.term 8 l= .inr (t,l1)) (aV:Zc.bF l1=false) (heq:Zc.sees l1 [61]=false):
 Calls Tryz.prog 80 #[.pointer (some ⟨rb,0,none⟩),.pointer (some ⟨lb,0,none⟩)] w fun e w'=>nM rb lb iv s ns (Zc.bad 2 l1) w e w':=by
 have hlt:=h.lt
 have dX:lb<w.heap.size:=ag hb
 obtain⟨hS,hK,hB0,hB1⟩:=ej h hb
 unfold boxZ at hS hK hB0 hB1
 have HS:=af hS
 have HK:=af hK
 have bf:=af hB0
 have ba:=af hB1
 have I:=af (fun W (hW:St W rb s l ns nv e0)=>term_all 8 W rb s l ns nv e0 1 rfl hW)
 rw[hT]at I
 clear hS hK hB0 hB1 h hb
 go_enter Tryz.func80,Tryz.ntmps80
 go_wp2_with fail
 refine(ae I _ (ae HS)).mono ?_
 have fL:ak t.kind=3:=by rw[dB];rfl
 have kj:=af dB
 clear dB
 rintro e w1 ⟨val,tx,ao,cap,ns1,nv1,e1,rfl,bj,hs,hk⟩
 rw[fL]
 have ot:=af fL
 clear fL
 have fZ:=af bj
 clear bj
 have fC:=af hs
 have bE:=af (hs.below ((Below.refl _ _).alloc (Nat.le_refl _) (.cells #[.int .i64 3,.int .i64 val,.string tx,.slice ao t.args.length cap] 76)))
 have fT:=af ((ae HK).trans hk)
 have hb0:=aq hk (ae bf) (by simp;omega)
 have hbl:=aq hk (ae ba) (by simpa using hne)
 have hz0:w.heap.size<w1.heap.size:=ag hb0
 have hzl:lb<w1.heap.size:=ag hbl
 have eM:=af hb0
 have dD:=af hbl
 have q:=ah hbl
 have y:=ay hbl
 clear hs hk hb0 hbl
 go_wp2_with fail
 refine(bI _ rb s l1 ns1 nv1 e1 (ae bE)).mono ?_
 rintro e w2 ⟨rfl,hw⟩
 rw[hw]
 clear hw w2
 rw[aV]
 go_wp2_with fail
 refine(bC _ rb s l1 ns1 nv1 e1 _ (ae bE)).mono ?_
 rintro e w2 ⟨rfl,hw⟩
 rw[hw]
 simp only[ByteArray.toList_mk]
 clear hw w2
 rw[heq]
 go_wp2_with fail
 have mF:=af (jk (w1.alloc (.cells #[.int .i64 3,.int .i64 val,.string tx,.slice ao t.args.length cap] 76)) t val tx ao cap (ae fZ).txt (by have:=ae kj;omega))
 rw[ae ot]at mF
 refine(ae mF).mono ?_
 rintro e w2 ⟨rfl,dQ⟩
 rw[hi]
 have Ep:=af dQ
 have xK:=af ((ae bE).below dQ)
 have hz2:w1.heap.size<w2.heap.size:=by have:=dQ.size;simp at this;omega
 have gJ:=(dQ.block lb (by simp;omega)).trans (aB (ae dD) (.cells #[.int .i64 3,.int .i64 val,.string tx,.slice ao t.args.length cap] 76))
 have mj:=(dQ.block w1.heap.size (by simp)).trans (heap_alloc_new w1 (.cells #[.int .i64 3,.int .i64 val,.string tx,.slice ao t.args.length cap] 76))
 have mn:=(dQ.block w.heap.size (by simp;omega)).trans (aB (ae eM) (.cells #[.int .i64 3,.int .i64 val,.string tx,.slice ao t.args.length cap] 76))
 have kU:=af (((ae fT).alloc (.cells #[.int .i64 3,.int .i64 val,.string tx,.slice ao t.args.length cap] 76)).trans (KA.aw dQ))
 have q2:=ah gJ
 have y2:=ay gJ
 have vv:=ah mj
 have dx:=af gJ
 have kG:=af mn
 clear dQ gJ mj mn q y
 have ou:Hid (St (w2.setCell ⟨lb,1,none⟩ (.bool false)) rb s l1 ns1 nv1 e1):=(ae xK).only ((aD.refl lb _).set 1 (.bool false)) hne cI (by unfold aP;rw[ae dx];simp)
 have cZ:Hid (KA rb [rb,lb] w (w2.setCell ⟨lb,1,none⟩ (.bool false))):=(ae kU).wide.fI (by simp) _
 have nY:Hid ((w2.setCell ⟨lb,1,none⟩ (.bool false)).heap[lb]?=some (.cells #[iv,.bool false,.bool false] 82 (0,0))):=aA (ae dx) 1 (.bool false)
 have dy:Hid ((w2.setCell ⟨lb,1,none⟩ (.bool false)).heap[w.heap.size]?=some (.cells #[.int .i64 0,.int .i64 0,.string ⟨#[]⟩,.slice none 0 0,.string ⟨#[]⟩,.int .i64 0,.int .i64 0,.string ⟨#[]⟩,.slice none 0 0,.string ⟨#[]⟩,.int .i64 0,.int .i64 0,.string ⟨#[]⟩,.slice none 0 0] 151 (0,0))):=aG (ae kG) (by omega) _ _
 go_wp2_with fail
 refine(bW _ rb s l1 ns1 nv1 e1 2 (ae ou)).mono ?_
 rintro e w3 ⟨rfl,hs3,hk3⟩
 have eK:=af hs3
 have ez:=af ((ae cZ).trans hk3.wide)
 have hb3:=aq hk3 (ae dy) (by simp;omega)
 have r:=ah hb3
 have x:=ay hb3
 have bu:=af hb3
 clear hs3 hk3 hb3
 go_wp2_with fail
 have RO:=(((((((((((((((aD.refl w.heap.size w3).set 0 (.int .i64 0)).set 1 (.int .i64 0)).set 2 (.string ⟨#[]⟩)).set 3 (.slice none 0 0)).set 4 (.string ⟨#[]⟩)).set 5 (.int .i64 0)).set 6 (.int .i64 0)).set 7 (.string ⟨#[]⟩)).set 8 (.slice none 0 0)).set 9 (.string ⟨#[]⟩)).set 10 (.int .i64 0)).set 11 (.int .i64 0)).set 12 (.string ⟨#[]⟩)).set 13 (.slice none 0 0))
 have RS:=(ae eK).only RO (by omega) (by omega) (by unfold aP;rw[ae bu];simp)
 have RK:=(ae ez).eI RO (Nat.le_refl _)
 refine bodyPost_ret (v:= .tuple #[.agg #[.int .i64 0,.int .i64 0,.string ⟨#[]⟩,.slice none 0 0,.string ⟨#[]⟩,.int .i64 0,.int .i64 0,.string ⟨#[]⟩,.slice none 0 0,.string ⟨#[]⟩,.int .i64 0,.int .i64 0,.string ⟨#[]⟩,.slice none 0 0],.bool false]) (by simp[results,Tryz.results80,go_sem,r]) rfl ?_
 exact⟨⟨0,0,⟨#[]⟩,none,0,0⟩,⟨0,0,⟨#[]⟩,none,0,0⟩,⟨0,0,⟨#[]⟩,none,0,0⟩,⟨#[]⟩,⟨#[]⟩,l1,ns1,nv1,rfl,RS,rfl,RK⟩
theorem vA (w:World) (rb lb:Nat) (s:ByteArray) (l:List Zc.aj) (ns:List ByteArray) (nv iv:Value) (e0:Int) (goals:Bool) (h:St w rb s l ns nv e0) (hb:w.heap[lb]?=some (.cells #[iv,.bool false,.bool goals] 82 (0,0))) (hne:lb≠rb) (cI:lb≠0) (t:Zc.Tm) (l1:List Zc.aj) (dB:t.kind=3) (hT:Zc.term 8 l= .inr (t,l1)) (aV:Zc.bF l1=false) (heq:Zc.sees l1 [61]=false) (has:Zc.sees l1 [58,61]=false):
 Calls Tryz.prog 80 #[.pointer (some ⟨rb,0,none⟩),.pointer (some ⟨lb,0,none⟩)] w fun e w'=>nM rb lb iv s ns (Zc.bad 2 l1) w e w':=by
 have hlt:=h.lt
 have dX:lb<w.heap.size:=ag hb
 obtain⟨hS,hK,hB0,hB1⟩:=ej h hb
 unfold boxZ at hS hK hB0 hB1
 have HS:=af hS
 have HK:=af hK
 have bf:=af hB0
 have ba:=af hB1
 have I:=af (fun W (hW:St W rb s l ns nv e0)=>term_all 8 W rb s l ns nv e0 1 rfl hW)
 rw[hT]at I
 clear hS hK hB0 hB1 h hb
 go_enter Tryz.func80,Tryz.ntmps80
 go_wp2_with fail
 refine(ae I _ (ae HS)).mono ?_
 have fL:ak t.kind=1:=by rw[dB];rfl
 have kj:=af dB
 clear dB
 rintro e w1 ⟨val,tx,ao,cap,ns1,nv1,e1,rfl,bj,hs,hk⟩
 rw[fL]
 have ot:=af fL
 clear fL
 have fZ:=af bj
 clear bj
 have fC:=af hs
 have bE:=af (hs.below ((Below.refl _ _).alloc (Nat.le_refl _) (.cells #[.int .i64 1,.int .i64 val,.string tx,.slice ao t.args.length cap] 76)))
 have fT:=af ((ae HK).trans hk)
 have hb0:=aq hk (ae bf) (by simp;omega)
 have hbl:=aq hk (ae ba) (by simpa using hne)
 have hz0:w.heap.size<w1.heap.size:=ag hb0
 have hzl:lb<w1.heap.size:=ag hbl
 have eM:=af hb0
 have dD:=af hbl
 have q:=ah hbl
 have y:=ay hbl
 clear hs hk hb0 hbl
 go_wp2_with fail
 refine(bI _ rb s l1 ns1 nv1 e1 (ae bE)).mono ?_
 rintro e w2 ⟨rfl,hw⟩
 rw[hw]
 clear hw w2
 rw[aV]
 go_wp2_with fail
 refine(bC _ rb s l1 ns1 nv1 e1 _ (ae bE)).mono ?_
 rintro e w2 ⟨rfl,hw⟩
 rw[hw]
 simp only[ByteArray.toList_mk]
 clear hw w2
 rw[heq]
 go_wp2_with fail
 refine(bC _ rb s l1 ns1 nv1 e1 _ (ae bE)).mono ?_
 rintro e w2 ⟨rfl,hw⟩
 rw[hw]
 simp only[ByteArray.toList_mk]
 clear hw w2
 rw[has]
 go_wp2_with fail
 have ou:Hid (St ((w1.setCell ⟨lb,1,none⟩ (.bool false)).alloc (.cells #[.int .i64 1,.int .i64 val,.string tx,.slice ao t.args.length cap] 76)) rb s l1 ns1 nv1 e1):=((ae fC).only ((aD.refl lb _).set 1 (.bool false)) hne cI (by unfold aP;rw[ae dD];simp)).below ((Below.refl _ _).alloc (Nat.le_refl _) _)
 have cZ:Hid (KA rb [rb,lb] w ((w1.setCell ⟨lb,1,none⟩ (.bool false)).alloc (.cells #[.int .i64 1,.int .i64 val,.string tx,.slice ao t.args.length cap] 76))):=((ae fT).wide.fI (by simp) _).alloc _
 have nY:Hid (((w1.setCell ⟨lb,1,none⟩ (.bool false)).alloc (.cells #[.int .i64 1,.int .i64 val,.string tx,.slice ao t.args.length cap] 76)).heap[lb]?=some (.cells #[iv,.bool false,.bool goals] 82 (0,0))):=aB (aA (ae dD) 1 (.bool false)) _
 have dy:Hid (((w1.setCell ⟨lb,1,none⟩ (.bool false)).alloc (.cells #[.int .i64 1,.int .i64 val,.string tx,.slice ao t.args.length cap] 76)).heap[w.heap.size]?=some (.cells #[.int .i64 0,.int .i64 0,.string ⟨#[]⟩,.slice none 0 0,.string ⟨#[]⟩,.int .i64 0,.int .i64 0,.string ⟨#[]⟩,.slice none 0 0,.string ⟨#[]⟩,.int .i64 0,.int .i64 0,.string ⟨#[]⟩,.slice none 0 0] 151 (0,0))):=aB (aG (ae eM) (by omega) _ _) _
 go_wp2_with fail
 refine(bW _ rb s l1 ns1 nv1 e1 2 (ae ou)).mono ?_
 rintro e w3 ⟨rfl,hs3,hk3⟩
 have eK:=af hs3
 have ez:=af ((ae cZ).trans hk3.wide)
 have hb3:=aq hk3 (ae dy) (by simp;omega)
 have r:=ah hb3
 have x:=ay hb3
 have bu:=af hb3
 clear hs3 hk3 hb3
 go_wp2_with fail
 have RO:=(((((((((((((((aD.refl w.heap.size w3).set 0 (.int .i64 0)).set 1 (.int .i64 0)).set 2 (.string ⟨#[]⟩)).set 3 (.slice none 0 0)).set 4 (.string ⟨#[]⟩)).set 5 (.int .i64 0)).set 6 (.int .i64 0)).set 7 (.string ⟨#[]⟩)).set 8 (.slice none 0 0)).set 9 (.string ⟨#[]⟩)).set 10 (.int .i64 0)).set 11 (.int .i64 0)).set 12 (.string ⟨#[]⟩)).set 13 (.slice none 0 0))
 have RS:=(ae eK).only RO (by omega) (by omega) (by unfold aP;rw[ae bu];simp)
 have RK:=(ae ez).eI RO (Nat.le_refl _)
 refine bodyPost_ret (v:= .tuple #[.agg #[.int .i64 0,.int .i64 0,.string ⟨#[]⟩,.slice none 0 0,.string ⟨#[]⟩,.int .i64 0,.int .i64 0,.string ⟨#[]⟩,.slice none 0 0,.string ⟨#[]⟩,.int .i64 0,.int .i64 0,.string ⟨#[]⟩,.slice none 0 0],.bool false]) (by simp[results,Tryz.results80,go_sem,r]) rfl ?_
 exact⟨⟨0,0,⟨#[]⟩,none,0,0⟩,⟨0,0,⟨#[]⟩,none,0,0⟩,⟨0,0,⟨#[]⟩,none,0,0⟩,⟨#[]⟩,⟨#[]⟩,l1,ns1,nv1,rfl,RS,rfl,RK⟩
end Go.Proofs.YthfjnfcekeknlaaGreatDoor
