import Derived.Test.YthfjnfcekeknlaaGreatDoorSu15
set_option maxHeartbeats 8000000
set_option maxRecDepth 100000
namespace Go.Proofs.YthfjnfcekeknlaaGreatDoor
open Go.RowKit
theorem wj (w:World) (rb lb:Nat) (s:ByteArray) (l:List Za.aj) (ns:List ByteArray) (nv iv:Value) (e0:Int) (h:St w rb s l ns nv e0) (hb:w.heap[lb]?=some (.cells #[iv,.bool true,.bool true] 82 (0,0))) (hne:lb≠rb) (cf:lb≠0) (t:Za.Tm) (l1:List Za.aj) (dB:t.kind=2) (hi:Za.isInt t=false) (hT:Za.term 8 l= .inr (t,l1)) (aW:Za.bu l1=false) (heq:Za.sees l1 [61]=false):
 Calls Tryz.prog 80 #[.pointer (some ⟨rb,0,none⟩),.pointer (some ⟨lb,0,none⟩)] w fun e w'=>nG rb lb iv s ns (.inr ((⟨t,[],none,[],none⟩,false,true),l1)) w e w':=by
 have hlt:=h.lt
 have eR:lb<w.heap.size:=ag hb
 obtain⟨hS,hK,hB0,hB1⟩:=ez h hb
 unfold boxZ at hS hK hB0 hB1
 have HS:=af hS
 have HK:=af hK
 have aY:=af hB0
 have bD:=af hB1
 have I:=af (fun W (hW:St W rb s l ns nv e0)=>term_all 8 W rb s l ns nv e0 1 rfl hW)
 rw[hT]at I
 clear hS hK hB0 hB1 h hb
 go_enter Tryz.func80,Tryz.ntmps80
 go_wp2_with fail
 refine(ae I _ (ae HS)).mono ?_
 have fL:ak t.kind=3:=by rw[dB];rfl
 have jZ:=af dB
 clear dB
 rintro e w1 ⟨val,tx,ao,cap,ns1,nv1,e1,rfl,bj,hs,hk⟩
 rw[fL]
 have oq:=af fL
 clear fL
 have fW:=af bj
 clear bj
 have fB:=af hs
 have bH:=af (hs.below ((Below.refl _ _).alloc (Nat.le_refl _) (.cells #[.int .i64 3,.int .i64 val,.string tx,.slice ao t.args.length cap] 76)))
 have fR:=af ((ae HK).trans hk)
 have hb0:=aq hk (ae aY) (by simp;omega)
 have hbl:=aq hk (ae bD) (by simpa using hne)
 have hz0:w.heap.size<w1.heap.size:=ag hb0
 have hzl:lb<w1.heap.size:=ag hbl
 have eN:=af hb0
 have dD:=af hbl
 have q:=ah hbl
 have y:=ay hbl
 clear hs hk hb0 hbl
 go_wp2_with fail
 refine(bK _ rb s l1 ns1 nv1 e1 (ae bH)).mono ?_
 rintro e w2 ⟨rfl,hw⟩
 rw[hw]
 clear hw w2
 rw[aW]
 go_wp2_with fail
 refine(bG _ rb s l1 ns1 nv1 e1 _ (ae bH)).mono ?_
 rintro e w2 ⟨rfl,hw⟩
 rw[hw]
 simp only[ByteArray.toList_mk]
 clear hw w2
 rw[heq]
 go_wp2_with fail
 have mv:=af (jg (w1.alloc (.cells #[.int .i64 3,.int .i64 val,.string tx,.slice ao t.args.length cap] 76)) t val tx ao cap (ae fW).txt (by have:=ae jZ;omega))
 rw[ae oq]at mv
 refine(ae mv).mono ?_
 rintro e w2 ⟨rfl,dP⟩
 rw[hi]
 have D2:=af dP
 have xu:=af ((ae bH).below dP)
 have hz2:w1.heap.size<w2.heap.size:=by have:=dP.size;simp at this;omega
 have gI:=(dP.block lb (by simp;omega)).trans (aB (ae dD) (.cells #[.int .i64 3,.int .i64 val,.string tx,.slice ao t.args.length cap] 76))
 have mf:=(dP.block w1.heap.size (by simp)).trans (heap_alloc_new w1 (.cells #[.int .i64 3,.int .i64 val,.string tx,.slice ao t.args.length cap] 76))
 have mg:=(dP.block w.heap.size (by simp;omega)).trans (aB (ae eN) (.cells #[.int .i64 3,.int .i64 val,.string tx,.slice ao t.args.length cap] 76))
 have kM:=af (((ae fR).alloc (.cells #[.int .i64 3,.int .i64 val,.string tx,.slice ao t.args.length cap] 76)).trans (KA.aw dP))
 have q2:=ah gI
 have y2:=ay gI
 have vv:=ah mf
 have dy:=af gI
 have kC:=af mg
 clear dP gI mf mg q y
 have ot:Hid (St (w2.setCell ⟨lb,1,none⟩ (.bool false)) rb s l1 ns1 nv1 e1):=(ae xu).only ((aC.refl lb _).set 1 (.bool false)) hne cf (by unfold aP;rw[ae dy];simp)
 have df:Hid (KA rb [rb,lb] w (w2.setCell ⟨lb,1,none⟩ (.bool false))):=(ae kM).wide.fG (by simp) _
 have nS:Hid ((w2.setCell ⟨lb,1,none⟩ (.bool false)).heap[lb]?=some (.cells #[iv,.bool false,.bool true] 82 (0,0))):=aA (ae dy) 1 (.bool false)
 have dA:Hid ((w2.setCell ⟨lb,1,none⟩ (.bool false)).heap[w.heap.size]?=some (.cells #[.int .i64 0,.int .i64 0,.string ⟨#[]⟩,.slice none 0 0,.string ⟨#[]⟩,.int .i64 0,.int .i64 0,.string ⟨#[]⟩,.slice none 0 0,.string ⟨#[]⟩,.int .i64 0,.int .i64 0,.string ⟨#[]⟩,.slice none 0 0] 151 (0,0))):=aG (ae kC) (by omega) _ _
 have r:=ah (ae kC)
 have x:=ay (ae kC)
 go_wp2_with fail
 have RO:=(((((((((((((((aC.refl w.heap.size (w2.setCell ⟨lb,1,none⟩ (.bool false))).set 0 (.int .i64 3)).set 1 (.int .i64 val)).set 2 (.string tx)).set 3 (.slice ao t.args.length cap)).set 4 (.string ⟨#[]⟩)).set 5 (.int .i64 0)).set 6 (.int .i64 0)).set 7 (.string ⟨#[]⟩)).set 8 (.slice none 0 0)).set 9 (.string ⟨#[]⟩)).set 10 (.int .i64 0)).set 11 (.int .i64 0)).set 12 (.string ⟨#[]⟩)).set 13 (.slice none 0 0))
 have RS:=(ae ot).only RO (by omega) (by omega) (by unfold aP;rw[ae dA];simp)
 have RK:=(ae df).eI RO (Nat.le_refl _)
 have RL:=(RO.block lb (by omega)).trans (ae nS)
 refine bodyPost_ret (v:= .tuple #[.agg #[.int .i64 3,.int .i64 val,.string tx,.slice ao t.args.length cap,.string ⟨#[]⟩,.int .i64 0,.int .i64 0,.string ⟨#[]⟩,.slice none 0 0,.string ⟨#[]⟩,.int .i64 0,.int .i64 0,.string ⟨#[]⟩,.slice none 0 0],.bool true]) (by simp[results,Tryz.results80,go_sem,r]) rfl ?_
 exact⟨⟨3,val,tx,ao,t.args.length,cap⟩,⟨0,0,⟨#[]⟩,none,0,0⟩,⟨0,0,⟨#[]⟩,none,0,0⟩,⟨#[]⟩,⟨#[]⟩,ns1,nv1,e1,rfl,(by have q:=o9.plain (b:=⟨0,0,⟨#[]⟩,none,0,0⟩) (c:=⟨0,0,⟨#[]⟩,none,0,0⟩) (ae fW) ((((aN.alloc _ _).trans (aN.below (ae D2))).trans (aN.only ((aC.refl lb w2).set 1 (.bool false)) (by unfold aP;rw[ae dy];simp))).trans (aN.only RO (by unfold aP;rw[ae dA];simp)));rw[ae oq]at q;exact q),RS,RL,RK⟩
theorem wk (w:World) (rb lb:Nat) (s:ByteArray) (l:List Za.aj) (ns:List ByteArray) (nv iv:Value) (e0:Int) (h:St w rb s l ns nv e0) (hb:w.heap[lb]?=some (.cells #[iv,.bool true,.bool false] 82 (0,0))) (hne:lb≠rb) (cf:lb≠0) (t:Za.Tm) (l1:List Za.aj) (dB:t.kind=2) (hi:Za.isInt t=false) (hT:Za.term 8 l= .inr (t,l1)) (aW:Za.bu l1=false) (heq:Za.sees l1 [61]=false):
 Calls Tryz.prog 80 #[.pointer (some ⟨rb,0,none⟩),.pointer (some ⟨lb,0,none⟩)] w fun e w'=>nG rb lb iv s ns (Za.bad 2 l1) w e w':=by
 have hlt:=h.lt
 have eR:lb<w.heap.size:=ag hb
 obtain⟨hS,hK,hB0,hB1⟩:=ez h hb
 unfold boxZ at hS hK hB0 hB1
 have HS:=af hS
 have HK:=af hK
 have aY:=af hB0
 have bD:=af hB1
 have I:=af (fun W (hW:St W rb s l ns nv e0)=>term_all 8 W rb s l ns nv e0 1 rfl hW)
 rw[hT]at I
 clear hS hK hB0 hB1 h hb
 go_enter Tryz.func80,Tryz.ntmps80
 go_wp2_with fail
 refine(ae I _ (ae HS)).mono ?_
 have fL:ak t.kind=3:=by rw[dB];rfl
 have jZ:=af dB
 clear dB
 rintro e w1 ⟨val,tx,ao,cap,ns1,nv1,e1,rfl,bj,hs,hk⟩
 rw[fL]
 have oq:=af fL
 clear fL
 have fW:=af bj
 clear bj
 have fB:=af hs
 have bH:=af (hs.below ((Below.refl _ _).alloc (Nat.le_refl _) (.cells #[.int .i64 3,.int .i64 val,.string tx,.slice ao t.args.length cap] 76)))
 have fR:=af ((ae HK).trans hk)
 have hb0:=aq hk (ae aY) (by simp;omega)
 have hbl:=aq hk (ae bD) (by simpa using hne)
 have hz0:w.heap.size<w1.heap.size:=ag hb0
 have hzl:lb<w1.heap.size:=ag hbl
 have eN:=af hb0
 have dD:=af hbl
 have q:=ah hbl
 have y:=ay hbl
 clear hs hk hb0 hbl
 go_wp2_with fail
 refine(bK _ rb s l1 ns1 nv1 e1 (ae bH)).mono ?_
 rintro e w2 ⟨rfl,hw⟩
 rw[hw]
 clear hw w2
 rw[aW]
 go_wp2_with fail
 refine(bG _ rb s l1 ns1 nv1 e1 _ (ae bH)).mono ?_
 rintro e w2 ⟨rfl,hw⟩
 rw[hw]
 simp only[ByteArray.toList_mk]
 clear hw w2
 rw[heq]
 go_wp2_with fail
 have mv:=af (jg (w1.alloc (.cells #[.int .i64 3,.int .i64 val,.string tx,.slice ao t.args.length cap] 76)) t val tx ao cap (ae fW).txt (by have:=ae jZ;omega))
 rw[ae oq]at mv
 refine(ae mv).mono ?_
 rintro e w2 ⟨rfl,dP⟩
 rw[hi]
 have D2:=af dP
 have xu:=af ((ae bH).below dP)
 have hz2:w1.heap.size<w2.heap.size:=by have:=dP.size;simp at this;omega
 have gI:=(dP.block lb (by simp;omega)).trans (aB (ae dD) (.cells #[.int .i64 3,.int .i64 val,.string tx,.slice ao t.args.length cap] 76))
 have mf:=(dP.block w1.heap.size (by simp)).trans (heap_alloc_new w1 (.cells #[.int .i64 3,.int .i64 val,.string tx,.slice ao t.args.length cap] 76))
 have mg:=(dP.block w.heap.size (by simp;omega)).trans (aB (ae eN) (.cells #[.int .i64 3,.int .i64 val,.string tx,.slice ao t.args.length cap] 76))
 have kM:=af (((ae fR).alloc (.cells #[.int .i64 3,.int .i64 val,.string tx,.slice ao t.args.length cap] 76)).trans (KA.aw dP))
 have q2:=ah gI
 have y2:=ay gI
 have vv:=ah mf
 have dy:=af gI
 have kC:=af mg
 clear dP gI mf mg q y
 have ot:Hid (St (w2.setCell ⟨lb,1,none⟩ (.bool false)) rb s l1 ns1 nv1 e1):=(ae xu).only ((aC.refl lb _).set 1 (.bool false)) hne cf (by unfold aP;rw[ae dy];simp)
 have df:Hid (KA rb [rb,lb] w (w2.setCell ⟨lb,1,none⟩ (.bool false))):=(ae kM).wide.fG (by simp) _
 have nS:Hid ((w2.setCell ⟨lb,1,none⟩ (.bool false)).heap[lb]?=some (.cells #[iv,.bool false,.bool false] 82 (0,0))):=aA (ae dy) 1 (.bool false)
 have dA:Hid ((w2.setCell ⟨lb,1,none⟩ (.bool false)).heap[w.heap.size]?=some (.cells #[.int .i64 0,.int .i64 0,.string ⟨#[]⟩,.slice none 0 0,.string ⟨#[]⟩,.int .i64 0,.int .i64 0,.string ⟨#[]⟩,.slice none 0 0,.string ⟨#[]⟩,.int .i64 0,.int .i64 0,.string ⟨#[]⟩,.slice none 0 0] 151 (0,0))):=aG (ae kC) (by omega) _ _
 go_wp2_with fail
 refine(b8 _ rb s l1 ns1 nv1 e1 2 (ae ot)).mono ?_
 rintro e w3 ⟨rfl,hs3,hk3⟩
 have eM:=af hs3
 have eC:=af ((ae df).trans hk3.wide)
 have hb3:=aq hk3 (ae dA) (by simp;omega)
 have r:=ah hb3
 have x:=ay hb3
 have bQ:=af hb3
 clear hs3 hk3 hb3
 go_wp2_with fail
 have RO:=(((((((((((((((aC.refl w.heap.size w3).set 0 (.int .i64 0)).set 1 (.int .i64 0)).set 2 (.string ⟨#[]⟩)).set 3 (.slice none 0 0)).set 4 (.string ⟨#[]⟩)).set 5 (.int .i64 0)).set 6 (.int .i64 0)).set 7 (.string ⟨#[]⟩)).set 8 (.slice none 0 0)).set 9 (.string ⟨#[]⟩)).set 10 (.int .i64 0)).set 11 (.int .i64 0)).set 12 (.string ⟨#[]⟩)).set 13 (.slice none 0 0))
 have RS:=(ae eM).only RO (by omega) (by omega) (by unfold aP;rw[ae bQ];simp)
 have RK:=(ae eC).eI RO (Nat.le_refl _)
 refine bodyPost_ret (v:= .tuple #[.agg #[.int .i64 0,.int .i64 0,.string ⟨#[]⟩,.slice none 0 0,.string ⟨#[]⟩,.int .i64 0,.int .i64 0,.string ⟨#[]⟩,.slice none 0 0,.string ⟨#[]⟩,.int .i64 0,.int .i64 0,.string ⟨#[]⟩,.slice none 0 0],.bool false]) (by simp[results,Tryz.results80,go_sem,r]) rfl ?_
 exact⟨⟨0,0,⟨#[]⟩,none,0,0⟩,⟨0,0,⟨#[]⟩,none,0,0⟩,⟨0,0,⟨#[]⟩,none,0,0⟩,⟨#[]⟩,⟨#[]⟩,l1,ns1,nv1,rfl,RS,rfl,RK⟩
theorem vg (w:World) (rb lb:Nat) (s:ByteArray) (l:List Za.aj) (ns:List ByteArray) (nv iv:Value) (e0:Int) (goals:Bool) (h:St w rb s l ns nv e0) (hb:w.heap[lb]?=some (.cells #[iv,.bool false,.bool goals] 82 (0,0))) (hne:lb≠rb) (cf:lb≠0) (t:Za.Tm) (l1:List Za.aj) (dB:t.kind=3) (hT:Za.term 8 l= .inr (t,l1)) (aW:Za.bu l1=false) (heq:Za.sees l1 [61]=false) (has:Za.sees l1 [58,61]=false):
 Calls Tryz.prog 80 #[.pointer (some ⟨rb,0,none⟩),.pointer (some ⟨lb,0,none⟩)] w fun e w'=>nG rb lb iv s ns (Za.bad 2 l1) w e w':=by
 have hlt:=h.lt
 have eR:lb<w.heap.size:=ag hb
 obtain⟨hS,hK,hB0,hB1⟩:=ez h hb
 unfold boxZ at hS hK hB0 hB1
 have HS:=af hS
 have HK:=af hK
 have aY:=af hB0
 have bD:=af hB1
 have I:=af (fun W (hW:St W rb s l ns nv e0)=>term_all 8 W rb s l ns nv e0 1 rfl hW)
 rw[hT]at I
 clear hS hK hB0 hB1 h hb
 go_enter Tryz.func80,Tryz.ntmps80
 go_wp2_with fail
 refine(ae I _ (ae HS)).mono ?_
 have fL:ak t.kind=1:=by rw[dB];rfl
 have jZ:=af dB
 clear dB
 rintro e w1 ⟨val,tx,ao,cap,ns1,nv1,e1,rfl,bj,hs,hk⟩
 rw[fL]
 have oq:=af fL
 clear fL
 have fW:=af bj
 clear bj
 have fB:=af hs
 have bH:=af (hs.below ((Below.refl _ _).alloc (Nat.le_refl _) (.cells #[.int .i64 1,.int .i64 val,.string tx,.slice ao t.args.length cap] 76)))
 have fR:=af ((ae HK).trans hk)
 have hb0:=aq hk (ae aY) (by simp;omega)
 have hbl:=aq hk (ae bD) (by simpa using hne)
 have hz0:w.heap.size<w1.heap.size:=ag hb0
 have hzl:lb<w1.heap.size:=ag hbl
 have eN:=af hb0
 have dD:=af hbl
 have q:=ah hbl
 have y:=ay hbl
 clear hs hk hb0 hbl
 go_wp2_with fail
 refine(bK _ rb s l1 ns1 nv1 e1 (ae bH)).mono ?_
 rintro e w2 ⟨rfl,hw⟩
 rw[hw]
 clear hw w2
 rw[aW]
 go_wp2_with fail
 refine(bG _ rb s l1 ns1 nv1 e1 _ (ae bH)).mono ?_
 rintro e w2 ⟨rfl,hw⟩
 rw[hw]
 simp only[ByteArray.toList_mk]
 clear hw w2
 rw[heq]
 go_wp2_with fail
 refine(bG _ rb s l1 ns1 nv1 e1 _ (ae bH)).mono ?_
 rintro e w2 ⟨rfl,hw⟩
 rw[hw]
 simp only[ByteArray.toList_mk]
 clear hw w2
 rw[has]
 go_wp2_with fail
 have ot:Hid (St ((w1.setCell ⟨lb,1,none⟩ (.bool false)).alloc (.cells #[.int .i64 1,.int .i64 val,.string tx,.slice ao t.args.length cap] 76)) rb s l1 ns1 nv1 e1):=((ae fB).only ((aC.refl lb _).set 1 (.bool false)) hne cf (by unfold aP;rw[ae dD];simp)).below ((Below.refl _ _).alloc (Nat.le_refl _) _)
 have df:Hid (KA rb [rb,lb] w ((w1.setCell ⟨lb,1,none⟩ (.bool false)).alloc (.cells #[.int .i64 1,.int .i64 val,.string tx,.slice ao t.args.length cap] 76))):=((ae fR).wide.fG (by simp) _).alloc _
 have nS:Hid (((w1.setCell ⟨lb,1,none⟩ (.bool false)).alloc (.cells #[.int .i64 1,.int .i64 val,.string tx,.slice ao t.args.length cap] 76)).heap[lb]?=some (.cells #[iv,.bool false,.bool goals] 82 (0,0))):=aB (aA (ae dD) 1 (.bool false)) _
 have dA:Hid (((w1.setCell ⟨lb,1,none⟩ (.bool false)).alloc (.cells #[.int .i64 1,.int .i64 val,.string tx,.slice ao t.args.length cap] 76)).heap[w.heap.size]?=some (.cells #[.int .i64 0,.int .i64 0,.string ⟨#[]⟩,.slice none 0 0,.string ⟨#[]⟩,.int .i64 0,.int .i64 0,.string ⟨#[]⟩,.slice none 0 0,.string ⟨#[]⟩,.int .i64 0,.int .i64 0,.string ⟨#[]⟩,.slice none 0 0] 151 (0,0))):=aB (aG (ae eN) (by omega) _ _) _
 go_wp2_with fail
 refine(b8 _ rb s l1 ns1 nv1 e1 2 (ae ot)).mono ?_
 rintro e w3 ⟨rfl,hs3,hk3⟩
 have eM:=af hs3
 have eC:=af ((ae df).trans hk3.wide)
 have hb3:=aq hk3 (ae dA) (by simp;omega)
 have r:=ah hb3
 have x:=ay hb3
 have bQ:=af hb3
 clear hs3 hk3 hb3
 go_wp2_with fail
 have RO:=(((((((((((((((aC.refl w.heap.size w3).set 0 (.int .i64 0)).set 1 (.int .i64 0)).set 2 (.string ⟨#[]⟩)).set 3 (.slice none 0 0)).set 4 (.string ⟨#[]⟩)).set 5 (.int .i64 0)).set 6 (.int .i64 0)).set 7 (.string ⟨#[]⟩)).set 8 (.slice none 0 0)).set 9 (.string ⟨#[]⟩)).set 10 (.int .i64 0)).set 11 (.int .i64 0)).set 12 (.string ⟨#[]⟩)).set 13 (.slice none 0 0))
 have RS:=(ae eM).only RO (by omega) (by omega) (by unfold aP;rw[ae bQ];simp)
 have RK:=(ae eC).eI RO (Nat.le_refl _)
 refine bodyPost_ret (v:= .tuple #[.agg #[.int .i64 0,.int .i64 0,.string ⟨#[]⟩,.slice none 0 0,.string ⟨#[]⟩,.int .i64 0,.int .i64 0,.string ⟨#[]⟩,.slice none 0 0,.string ⟨#[]⟩,.int .i64 0,.int .i64 0,.string ⟨#[]⟩,.slice none 0 0],.bool false]) (by simp[results,Tryz.results80,go_sem,r]) rfl ?_
 exact⟨⟨0,0,⟨#[]⟩,none,0,0⟩,⟨0,0,⟨#[]⟩,none,0,0⟩,⟨0,0,⟨#[]⟩,none,0,0⟩,⟨#[]⟩,⟨#[]⟩,l1,ns1,nv1,rfl,RS,rfl,RK⟩
theorem wm (w:World) (rb lb:Nat) (s:ByteArray) (l:List Za.aj) (ns:List ByteArray) (nv iv:Value) (e0:Int) (goals:Bool) (h:St w rb s l ns nv e0) (hb:w.heap[lb]?=some (.cells #[iv,.bool true,.bool goals] 82 (0,0))) (hne:lb≠rb) (cf:lb≠0) (t:Za.Tm) (l1:List Za.aj) (dB:t.kind=3) (hi:Za.isInt t=false) (hT:Za.term 8 l= .inr (t,l1)) (aW:Za.bu l1=false) (heq:Za.sees l1 [61]=false) (has:Za.sees l1 [58,61]=false):
 Calls Tryz.prog 80 #[.pointer (some ⟨rb,0,none⟩),.pointer (some ⟨lb,0,none⟩)] w fun e w'=>nG rb lb iv s ns (Za.bad 2 l1) w e w':=by
 have hlt:=h.lt
 have eR:lb<w.heap.size:=ag hb
 obtain⟨hS,hK,hB0,hB1⟩:=ez h hb
 unfold boxZ at hS hK hB0 hB1
 have HS:=af hS
 have HK:=af hK
 have aY:=af hB0
 have bD:=af hB1
 have I:=af (fun W (hW:St W rb s l ns nv e0)=>term_all 8 W rb s l ns nv e0 1 rfl hW)
 rw[hT]at I
 clear hS hK hB0 hB1 h hb
 go_enter Tryz.func80,Tryz.ntmps80
 go_wp2_with fail
 refine(ae I _ (ae HS)).mono ?_
 have fL:ak t.kind=1:=by rw[dB];rfl
 have jZ:=af dB
 clear dB
 rintro e w1 ⟨val,tx,ao,cap,ns1,nv1,e1,rfl,bj,hs,hk⟩
 rw[fL]
 have oq:=af fL
 clear fL
 have fW:=af bj
 clear bj
 have fB:=af hs
 have bH:=af (hs.below ((Below.refl _ _).alloc (Nat.le_refl _) (.cells #[.int .i64 1,.int .i64 val,.string tx,.slice ao t.args.length cap] 76)))
 have fR:=af ((ae HK).trans hk)
 have hb0:=aq hk (ae aY) (by simp;omega)
 have hbl:=aq hk (ae bD) (by simpa using hne)
 have hz0:w.heap.size<w1.heap.size:=ag hb0
 have hzl:lb<w1.heap.size:=ag hbl
 have eN:=af hb0
 have dD:=af hbl
 have q:=ah hbl
 have y:=ay hbl
 clear hs hk hb0 hbl
 go_wp2_with fail
 refine(bK _ rb s l1 ns1 nv1 e1 (ae bH)).mono ?_
 rintro e w2 ⟨rfl,hw⟩
 rw[hw]
 clear hw w2
 rw[aW]
 go_wp2_with fail
 refine(bG _ rb s l1 ns1 nv1 e1 _ (ae bH)).mono ?_
 rintro e w2 ⟨rfl,hw⟩
 rw[hw]
 simp only[ByteArray.toList_mk]
 clear hw w2
 rw[heq]
 go_wp2_with fail
 refine(bG _ rb s l1 ns1 nv1 e1 _ (ae bH)).mono ?_
 rintro e w2 ⟨rfl,hw⟩
 rw[hw]
 simp only[ByteArray.toList_mk]
 clear hw w2
 rw[has]
 go_wp2_with fail
 have mv:=af (jg (w1.alloc (.cells #[.int .i64 1,.int .i64 val,.string tx,.slice ao t.args.length cap] 76)) t val tx ao cap (ae fW).txt (by have:=ae jZ;omega))
 rw[ae oq]at mv
 refine(ae mv).mono ?_
 rintro e w2 ⟨rfl,dP⟩
 rw[hi]
 have D2:=af dP
 have xu:=af ((ae bH).below dP)
 have hz2:w1.heap.size<w2.heap.size:=by have:=dP.size;simp at this;omega
 have gI:=(dP.block lb (by simp;omega)).trans (aB (ae dD) (.cells #[.int .i64 1,.int .i64 val,.string tx,.slice ao t.args.length cap] 76))
 have mf:=(dP.block w1.heap.size (by simp)).trans (heap_alloc_new w1 (.cells #[.int .i64 1,.int .i64 val,.string tx,.slice ao t.args.length cap] 76))
 have mg:=(dP.block w.heap.size (by simp;omega)).trans (aB (ae eN) (.cells #[.int .i64 1,.int .i64 val,.string tx,.slice ao t.args.length cap] 76))
 have kM:=af (((ae fR).alloc (.cells #[.int .i64 1,.int .i64 val,.string tx,.slice ao t.args.length cap] 76)).trans (KA.aw dP))
 have q2:=ah gI
 have y2:=ay gI
 have vv:=ah mf
 have dy:=af gI
 have kC:=af mg
 clear dP gI mf mg q y
 have ot:Hid (St (w2.setCell ⟨lb,1,none⟩ (.bool false)) rb s l1 ns1 nv1 e1):=(ae xu).only ((aC.refl lb _).set 1 (.bool false)) hne cf (by unfold aP;rw[ae dy];simp)
 have df:Hid (KA rb [rb,lb] w (w2.setCell ⟨lb,1,none⟩ (.bool false))):=(ae kM).wide.fG (by simp) _
 have nS:Hid ((w2.setCell ⟨lb,1,none⟩ (.bool false)).heap[lb]?=some (.cells #[iv,.bool false,.bool goals] 82 (0,0))):=aA (ae dy) 1 (.bool false)
 have dA:Hid ((w2.setCell ⟨lb,1,none⟩ (.bool false)).heap[w.heap.size]?=some (.cells #[.int .i64 0,.int .i64 0,.string ⟨#[]⟩,.slice none 0 0,.string ⟨#[]⟩,.int .i64 0,.int .i64 0,.string ⟨#[]⟩,.slice none 0 0,.string ⟨#[]⟩,.int .i64 0,.int .i64 0,.string ⟨#[]⟩,.slice none 0 0] 151 (0,0))):=aG (ae kC) (by omega) _ _
 go_wp2_with fail
 refine(b8 _ rb s l1 ns1 nv1 e1 2 (ae ot)).mono ?_
 rintro e w3 ⟨rfl,hs3,hk3⟩
 have eM:=af hs3
 have eC:=af ((ae df).trans hk3.wide)
 have hb3:=aq hk3 (ae dA) (by simp;omega)
 have r:=ah hb3
 have x:=ay hb3
 have bQ:=af hb3
 clear hs3 hk3 hb3
 go_wp2_with fail
 have RO:=(((((((((((((((aC.refl w.heap.size w3).set 0 (.int .i64 0)).set 1 (.int .i64 0)).set 2 (.string ⟨#[]⟩)).set 3 (.slice none 0 0)).set 4 (.string ⟨#[]⟩)).set 5 (.int .i64 0)).set 6 (.int .i64 0)).set 7 (.string ⟨#[]⟩)).set 8 (.slice none 0 0)).set 9 (.string ⟨#[]⟩)).set 10 (.int .i64 0)).set 11 (.int .i64 0)).set 12 (.string ⟨#[]⟩)).set 13 (.slice none 0 0))
 have RS:=(ae eM).only RO (by omega) (by omega) (by unfold aP;rw[ae bQ];simp)
 have RK:=(ae eC).eI RO (Nat.le_refl _)
 refine bodyPost_ret (v:= .tuple #[.agg #[.int .i64 0,.int .i64 0,.string ⟨#[]⟩,.slice none 0 0,.string ⟨#[]⟩,.int .i64 0,.int .i64 0,.string ⟨#[]⟩,.slice none 0 0,.string ⟨#[]⟩,.int .i64 0,.int .i64 0,.string ⟨#[]⟩,.slice none 0 0],.bool false]) (by simp[results,Tryz.results80,go_sem,r]) rfl ?_
 exact⟨⟨0,0,⟨#[]⟩,none,0,0⟩,⟨0,0,⟨#[]⟩,none,0,0⟩,⟨0,0,⟨#[]⟩,none,0,0⟩,⟨#[]⟩,⟨#[]⟩,l1,ns1,nv1,rfl,RS,rfl,RK⟩
theorem vh (w:World) (rb lb:Nat) (s:ByteArray) (l:List Za.aj) (ns:List ByteArray) (nv iv:Value) (e0:Int) (goals:Bool) (h:St w rb s l ns nv e0) (hb:w.heap[lb]?=some (.cells #[iv,.bool false,.bool goals] 82 (0,0))) (hne:lb≠rb) (cf:lb≠0) (t:Za.Tm) (l1:List Za.aj) (dB:t.kind=4) (hT:Za.term 8 l= .inr (t,l1)) (aW:Za.bu l1=false) (heq:Za.sees l1 [61]=false):
 Calls Tryz.prog 80 #[.pointer (some ⟨rb,0,none⟩),.pointer (some ⟨lb,0,none⟩)] w fun e w'=>nG rb lb iv s ns (Za.bad 2 l1) w e w':=by
 have hlt:=h.lt
 have eR:lb<w.heap.size:=ag hb
 obtain⟨hS,hK,hB0,hB1⟩:=ez h hb
 unfold boxZ at hS hK hB0 hB1
 have HS:=af hS
 have HK:=af hK
 have aY:=af hB0
 have bD:=af hB1
 have I:=af (fun W (hW:St W rb s l ns nv e0)=>term_all 8 W rb s l ns nv e0 1 rfl hW)
 rw[hT]at I
 clear hS hK hB0 hB1 h hb
 go_enter Tryz.func80,Tryz.ntmps80
 go_wp2_with fail
 refine(ae I _ (ae HS)).mono ?_
 have fL:ak t.kind=2:=by rw[dB];rfl
 have jZ:=af dB
 clear dB
 rintro e w1 ⟨val,tx,ao,cap,ns1,nv1,e1,rfl,bj,hs,hk⟩
 rw[fL]
 have oq:=af fL
 clear fL
 have fW:=af bj
 clear bj
 have fB:=af hs
 have bH:=af (hs.below ((Below.refl _ _).alloc (Nat.le_refl _) (.cells #[.int .i64 2,.int .i64 val,.string tx,.slice ao t.args.length cap] 76)))
 have fR:=af ((ae HK).trans hk)
 have hb0:=aq hk (ae aY) (by simp;omega)
 have hbl:=aq hk (ae bD) (by simpa using hne)
 have hz0:w.heap.size<w1.heap.size:=ag hb0
 have hzl:lb<w1.heap.size:=ag hbl
 have eN:=af hb0
 have dD:=af hbl
 have q:=ah hbl
 have y:=ay hbl
 clear hs hk hb0 hbl
 go_wp2_with fail
 refine(bK _ rb s l1 ns1 nv1 e1 (ae bH)).mono ?_
 rintro e w2 ⟨rfl,hw⟩
 rw[hw]
 clear hw w2
 rw[aW]
 go_wp2_with fail
 refine(bG _ rb s l1 ns1 nv1 e1 _ (ae bH)).mono ?_
 rintro e w2 ⟨rfl,hw⟩
 rw[hw]
 simp only[ByteArray.toList_mk]
 clear hw w2
 rw[heq]
 go_wp2_with fail
 have ot:Hid (St ((w1.setCell ⟨lb,1,none⟩ (.bool false)).alloc (.cells #[.int .i64 2,.int .i64 val,.string tx,.slice ao t.args.length cap] 76)) rb s l1 ns1 nv1 e1):=((ae fB).only ((aC.refl lb _).set 1 (.bool false)) hne cf (by unfold aP;rw[ae dD];simp)).below ((Below.refl _ _).alloc (Nat.le_refl _) _)
 have df:Hid (KA rb [rb,lb] w ((w1.setCell ⟨lb,1,none⟩ (.bool false)).alloc (.cells #[.int .i64 2,.int .i64 val,.string tx,.slice ao t.args.length cap] 76))):=((ae fR).wide.fG (by simp) _).alloc _
 have nS:Hid (((w1.setCell ⟨lb,1,none⟩ (.bool false)).alloc (.cells #[.int .i64 2,.int .i64 val,.string tx,.slice ao t.args.length cap] 76)).heap[lb]?=some (.cells #[iv,.bool false,.bool goals] 82 (0,0))):=aB (aA (ae dD) 1 (.bool false)) _
 have dA:Hid (((w1.setCell ⟨lb,1,none⟩ (.bool false)).alloc (.cells #[.int .i64 2,.int .i64 val,.string tx,.slice ao t.args.length cap] 76)).heap[w.heap.size]?=some (.cells #[.int .i64 0,.int .i64 0,.string ⟨#[]⟩,.slice none 0 0,.string ⟨#[]⟩,.int .i64 0,.int .i64 0,.string ⟨#[]⟩,.slice none 0 0,.string ⟨#[]⟩,.int .i64 0,.int .i64 0,.string ⟨#[]⟩,.slice none 0 0] 151 (0,0))):=aB (aG (ae eN) (by omega) _ _) _
 go_wp2_with fail
 refine(b8 _ rb s l1 ns1 nv1 e1 2 (ae ot)).mono ?_
 rintro e w3 ⟨rfl,hs3,hk3⟩
 have eM:=af hs3
 have eC:=af ((ae df).trans hk3.wide)
 have hb3:=aq hk3 (ae dA) (by simp;omega)
 have r:=ah hb3
 have x:=ay hb3
 have bQ:=af hb3
 clear hs3 hk3 hb3
 go_wp2_with fail
 have RO:=(((((((((((((((aC.refl w.heap.size w3).set 0 (.int .i64 0)).set 1 (.int .i64 0)).set 2 (.string ⟨#[]⟩)).set 3 (.slice none 0 0)).set 4 (.string ⟨#[]⟩)).set 5 (.int .i64 0)).set 6 (.int .i64 0)).set 7 (.string ⟨#[]⟩)).set 8 (.slice none 0 0)).set 9 (.string ⟨#[]⟩)).set 10 (.int .i64 0)).set 11 (.int .i64 0)).set 12 (.string ⟨#[]⟩)).set 13 (.slice none 0 0))
 have RS:=(ae eM).only RO (by omega) (by omega) (by unfold aP;rw[ae bQ];simp)
 have RK:=(ae eC).eI RO (Nat.le_refl _)
 refine bodyPost_ret (v:= .tuple #[.agg #[.int .i64 0,.int .i64 0,.string ⟨#[]⟩,.slice none 0 0,.string ⟨#[]⟩,.int .i64 0,.int .i64 0,.string ⟨#[]⟩,.slice none 0 0,.string ⟨#[]⟩,.int .i64 0,.int .i64 0,.string ⟨#[]⟩,.slice none 0 0],.bool false]) (by simp[results,Tryz.results80,go_sem,r]) rfl ?_
 exact⟨⟨0,0,⟨#[]⟩,none,0,0⟩,⟨0,0,⟨#[]⟩,none,0,0⟩,⟨0,0,⟨#[]⟩,none,0,0⟩,⟨#[]⟩,⟨#[]⟩,l1,ns1,nv1,rfl,RS,rfl,RK⟩
theorem wq (w:World) (rb lb:Nat) (s:ByteArray) (l:List Za.aj) (ns:List ByteArray) (nv iv:Value) (e0:Int) (goals:Bool) (h:St w rb s l ns nv e0) (hb:w.heap[lb]?=some (.cells #[iv,.bool true,.bool goals] 82 (0,0))) (hne:lb≠rb) (cf:lb≠0) (t:Za.Tm) (l1:List Za.aj) (dB:t.kind=4) (hi:Za.isInt t=false) (hT:Za.term 8 l= .inr (t,l1)) (aW:Za.bu l1=false) (heq:Za.sees l1 [61]=false):
 Calls Tryz.prog 80 #[.pointer (some ⟨rb,0,none⟩),.pointer (some ⟨lb,0,none⟩)] w fun e w'=>nG rb lb iv s ns (Za.bad 2 l1) w e w':=by
 have hlt:=h.lt
 have eR:lb<w.heap.size:=ag hb
 obtain⟨hS,hK,hB0,hB1⟩:=ez h hb
 unfold boxZ at hS hK hB0 hB1
 have HS:=af hS
 have HK:=af hK
 have aY:=af hB0
 have bD:=af hB1
 have I:=af (fun W (hW:St W rb s l ns nv e0)=>term_all 8 W rb s l ns nv e0 1 rfl hW)
 rw[hT]at I
 clear hS hK hB0 hB1 h hb
 go_enter Tryz.func80,Tryz.ntmps80
 go_wp2_with fail
 refine(ae I _ (ae HS)).mono ?_
 have fL:ak t.kind=2:=by rw[dB];rfl
 have jZ:=af dB
 clear dB
 rintro e w1 ⟨val,tx,ao,cap,ns1,nv1,e1,rfl,bj,hs,hk⟩
 rw[fL]
 have oq:=af fL
 clear fL
 have fW:=af bj
 clear bj
 have fB:=af hs
 have bH:=af (hs.below ((Below.refl _ _).alloc (Nat.le_refl _) (.cells #[.int .i64 2,.int .i64 val,.string tx,.slice ao t.args.length cap] 76)))
 have fR:=af ((ae HK).trans hk)
 have hb0:=aq hk (ae aY) (by simp;omega)
 have hbl:=aq hk (ae bD) (by simpa using hne)
 have hz0:w.heap.size<w1.heap.size:=ag hb0
 have hzl:lb<w1.heap.size:=ag hbl
 have eN:=af hb0
 have dD:=af hbl
 have q:=ah hbl
 have y:=ay hbl
 clear hs hk hb0 hbl
 go_wp2_with fail
 refine(bK _ rb s l1 ns1 nv1 e1 (ae bH)).mono ?_
 rintro e w2 ⟨rfl,hw⟩
 rw[hw]
 clear hw w2
 rw[aW]
 go_wp2_with fail
 refine(bG _ rb s l1 ns1 nv1 e1 _ (ae bH)).mono ?_
 rintro e w2 ⟨rfl,hw⟩
 rw[hw]
 simp only[ByteArray.toList_mk]
 clear hw w2
 rw[heq]
 go_wp2_with fail
 have mv:=af (jg (w1.alloc (.cells #[.int .i64 2,.int .i64 val,.string tx,.slice ao t.args.length cap] 76)) t val tx ao cap (ae fW).txt (by have:=ae jZ;omega))
 rw[ae oq]at mv
 refine(ae mv).mono ?_
 rintro e w2 ⟨rfl,dP⟩
 rw[hi]
 have D2:=af dP
 have xu:=af ((ae bH).below dP)
 have hz2:w1.heap.size<w2.heap.size:=by have:=dP.size;simp at this;omega
 have gI:=(dP.block lb (by simp;omega)).trans (aB (ae dD) (.cells #[.int .i64 2,.int .i64 val,.string tx,.slice ao t.args.length cap] 76))
 have mf:=(dP.block w1.heap.size (by simp)).trans (heap_alloc_new w1 (.cells #[.int .i64 2,.int .i64 val,.string tx,.slice ao t.args.length cap] 76))
 have mg:=(dP.block w.heap.size (by simp;omega)).trans (aB (ae eN) (.cells #[.int .i64 2,.int .i64 val,.string tx,.slice ao t.args.length cap] 76))
 have kM:=af (((ae fR).alloc (.cells #[.int .i64 2,.int .i64 val,.string tx,.slice ao t.args.length cap] 76)).trans (KA.aw dP))
 have q2:=ah gI
 have y2:=ay gI
 have vv:=ah mf
 have dy:=af gI
 have kC:=af mg
 clear dP gI mf mg q y
 have ot:Hid (St (w2.setCell ⟨lb,1,none⟩ (.bool false)) rb s l1 ns1 nv1 e1):=(ae xu).only ((aC.refl lb _).set 1 (.bool false)) hne cf (by unfold aP;rw[ae dy];simp)
 have df:Hid (KA rb [rb,lb] w (w2.setCell ⟨lb,1,none⟩ (.bool false))):=(ae kM).wide.fG (by simp) _
 have nS:Hid ((w2.setCell ⟨lb,1,none⟩ (.bool false)).heap[lb]?=some (.cells #[iv,.bool false,.bool goals] 82 (0,0))):=aA (ae dy) 1 (.bool false)
 have dA:Hid ((w2.setCell ⟨lb,1,none⟩ (.bool false)).heap[w.heap.size]?=some (.cells #[.int .i64 0,.int .i64 0,.string ⟨#[]⟩,.slice none 0 0,.string ⟨#[]⟩,.int .i64 0,.int .i64 0,.string ⟨#[]⟩,.slice none 0 0,.string ⟨#[]⟩,.int .i64 0,.int .i64 0,.string ⟨#[]⟩,.slice none 0 0] 151 (0,0))):=aG (ae kC) (by omega) _ _
 go_wp2_with fail
 refine(b8 _ rb s l1 ns1 nv1 e1 2 (ae ot)).mono ?_
 rintro e w3 ⟨rfl,hs3,hk3⟩
 have eM:=af hs3
 have eC:=af ((ae df).trans hk3.wide)
 have hb3:=aq hk3 (ae dA) (by simp;omega)
 have r:=ah hb3
 have x:=ay hb3
 have bQ:=af hb3
 clear hs3 hk3 hb3
 go_wp2_with fail
 have RO:=(((((((((((((((aC.refl w.heap.size w3).set 0 (.int .i64 0)).set 1 (.int .i64 0)).set 2 (.string ⟨#[]⟩)).set 3 (.slice none 0 0)).set 4 (.string ⟨#[]⟩)).set 5 (.int .i64 0)).set 6 (.int .i64 0)).set 7 (.string ⟨#[]⟩)).set 8 (.slice none 0 0)).set 9 (.string ⟨#[]⟩)).set 10 (.int .i64 0)).set 11 (.int .i64 0)).set 12 (.string ⟨#[]⟩)).set 13 (.slice none 0 0))
 have RS:=(ae eM).only RO (by omega) (by omega) (by unfold aP;rw[ae bQ];simp)
 have RK:=(ae eC).eI RO (Nat.le_refl _)
 refine bodyPost_ret (v:= .tuple #[.agg #[.int .i64 0,.int .i64 0,.string ⟨#[]⟩,.slice none 0 0,.string ⟨#[]⟩,.int .i64 0,.int .i64 0,.string ⟨#[]⟩,.slice none 0 0,.string ⟨#[]⟩,.int .i64 0,.int .i64 0,.string ⟨#[]⟩,.slice none 0 0],.bool false]) (by simp[results,Tryz.results80,go_sem,r]) rfl ?_
 exact⟨⟨0,0,⟨#[]⟩,none,0,0⟩,⟨0,0,⟨#[]⟩,none,0,0⟩,⟨0,0,⟨#[]⟩,none,0,0⟩,⟨#[]⟩,⟨#[]⟩,l1,ns1,nv1,rfl,RS,rfl,RK⟩
end Go.Proofs.YthfjnfcekeknlaaGreatDoor
