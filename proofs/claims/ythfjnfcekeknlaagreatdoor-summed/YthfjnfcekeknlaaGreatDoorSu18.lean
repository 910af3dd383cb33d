import Derived.Test.YthfjnfcekeknlaaGreatDoorSu15
set_option maxHeartbeats 8000000
set_option maxRecDepth 100000
namespace Go.Proofs.YthfjnfcekeknlaaGreatDoor
open Go.RowKit
theorem uZ (w:World) (rb lb:Nat) (s:ByteArray) (l:List Za.aj) (ns:List ByteArray) (nv iv:Value) (e0:Int) (h:St w rb s l ns nv e0) (hb:w.heap[lb]?=some (.cells #[iv,.bool false,.bool true] 82 (0,0))) (hne:lb≠rb) (cf:lb≠0) (t:Za.Tm) (l1:List Za.aj) (dB:t.kind=2) (hT:Za.term 8 l= .inr (t,l1)) (aW:Za.bu l1=false) (heq:Za.sees l1 [61]=false):
 Calls Tryz.prog 80 #[.pointer (some ⟨rb,0,none⟩),.pointer (some ⟨lb,0,none⟩)] w fun e w'=>nG rb lb iv s ns (.inr ((⟨t,[],none,[],none⟩,false,true),l1)) w e w':=by
 have hlt:=h.lt
 have eR:lb<w.heap.size:=ag hb
 obtain⟨hS,hK,hB0,hB1⟩:=ez h hb
 unfold boxZ at hS hK hB0 hB1
 have HS:=af hS
 have HK:=af hK
 have aY:=af hB0
 have bD:=af hB1
 have I:=af (fun W (hW:St W rb s l ns nv e0)=>term_all 8 W rb s l ns nv e0 1 rfl hW)
 rw[hT]at I
 clear hS hK hB0 hB1 h hb
 go_enter Tryz.func80,Tryz.ntmps80
 go_wp2_with fail
 refine(ae I _ (ae HS)).mono ?_
 have fL:ak t.kind=3:=by rw[dB];rfl
 have jZ:=af dB
 clear dB
 rintro e w1 ⟨val,tx,ao,cap,ns1,nv1,e1,rfl,bj,hs,hk⟩
 rw[fL]
 have oq:=af fL
 clear fL
 have fW:=af bj
 clear bj
 have fB:=af hs
 have bH:=af (hs.below ((Below.refl _ _).alloc (Nat.le_refl _) (.cells #[.int .i64 3,.int .i64 val,.string tx,.slice ao t.args.length cap] 76)))
 have fR:=af ((ae HK).trans hk)
 have hb0:=aq hk (ae aY) (by simp;omega)
 have hbl:=aq hk (ae bD) (by simpa using hne)
 have hz0:w.heap.size<w1.heap.size:=ag hb0
 have hzl:lb<w1.heap.size:=ag hbl
 have eN:=af hb0
 have r:=ah hb0
 have x:=ay hb0
 have dD:=af hbl
 have q:=ah hbl
 have y:=ay hbl
 clear hs hk hb0 hbl
 go_wp2_with fail
 refine(bK _ rb s l1 ns1 nv1 e1 (ae bH)).mono ?_
 rintro e w2 ⟨rfl,hw⟩
 rw[hw]
 clear hw w2
 rw[aW]
 go_wp2_with fail
 refine(bG _ rb s l1 ns1 nv1 e1 _ (ae bH)).mono ?_
 rintro e w2 ⟨rfl,hw⟩
 rw[hw]
 simp only[ByteArray.toList_mk]
 clear hw w2
 rw[heq]
 go_wp2_with fail
 have ot:Hid (St ((w1.setCell ⟨lb,1,none⟩ (.bool false)).alloc (.cells #[.int .i64 3,.int .i64 val,.string tx,.slice ao t.args.length cap] 76)) rb s l1 ns1 nv1 e1):=((ae fB).only ((aC.refl lb _).set 1 (.bool false)) hne cf (by unfold aP;rw[ae dD];simp)).below ((Below.refl _ _).alloc (Nat.le_refl _) _)
 have df:Hid (KA rb [rb,lb] w ((w1.setCell ⟨lb,1,none⟩ (.bool false)).alloc (.cells #[.int .i64 3,.int .i64 val,.string tx,.slice ao t.args.length cap] 76))):=((ae fR).wide.fG (by simp) _).alloc _
 have nS:Hid (((w1.setCell ⟨lb,1,none⟩ (.bool false)).alloc (.cells #[.int .i64 3,.int .i64 val,.string tx,.slice ao t.args.length cap] 76)).heap[lb]?=some (.cells #[iv,.bool false,.bool true] 82 (0,0))):=aB (aA (ae dD) 1 (.bool false)) _
 have dA:Hid (((w1.setCell ⟨lb,1,none⟩ (.bool false)).alloc (.cells #[.int .i64 3,.int .i64 val,.string tx,.slice ao t.args.length cap] 76)).heap[w.heap.size]?=some (.cells #[.int .i64 0,.int .i64 0,.string ⟨#[]⟩,.slice none 0 0,.string ⟨#[]⟩,.int .i64 0,.int .i64 0,.string ⟨#[]⟩,.slice none 0 0,.string ⟨#[]⟩,.int .i64 0,.int .i64 0,.string ⟨#[]⟩,.slice none 0 0] 151 (0,0))):=aB (aG (ae eN) (by omega) _ _) _
 have PG:=(ae fB).only ((aC.refl lb _).set 1 (.bool false)) hne cf (by unfold aP;rw[ae dD];simp)
 have RO:=(((((((((((((((aC.refl w.heap.size (w1.setCell ⟨lb,1,none⟩ (.bool false))).set 0 (.int .i64 3)).set 1 (.int .i64 val)).set 2 (.string tx)).set 3 (.slice ao t.args.length cap)).set 4 (.string ⟨#[]⟩)).set 5 (.int .i64 0)).set 6 (.int .i64 0)).set 7 (.string ⟨#[]⟩)).set 8 (.slice none 0 0)).set 9 (.string ⟨#[]⟩)).set 10 (.int .i64 0)).set 11 (.int .i64 0)).set 12 (.string ⟨#[]⟩)).set 13 (.slice none 0 0))
 have RS:=PG.only RO (by omega) (by omega) (by unfold aP;rw[aG (ae eN) (show w.heap.size≠lb by omega) 1 (.bool false)];simp)
 have RK:=((ae fR).wide (lb:=lb)).fG (p:=⟨lb,1,none⟩) (by simp) (.bool false) |>.eI RO (Nat.le_refl _)
 have RL:=(RO.block lb (by omega)).trans (aA (ae dD) 1 (.bool false))
 refine bodyPost_ret (v:= .tuple #[.agg #[.int .i64 3,.int .i64 val,.string tx,.slice ao t.args.length cap,.string ⟨#[]⟩,.int .i64 0,.int .i64 0,.string ⟨#[]⟩,.slice none 0 0,.string ⟨#[]⟩,.int .i64 0,.int .i64 0,.string ⟨#[]⟩,.slice none 0 0],.bool true]) (by simp[results,Tryz.results80,go_sem,hz0,r]) rfl ?_
 exact⟨⟨3,val,tx,ao,t.args.length,cap⟩,⟨0,0,⟨#[]⟩,none,0,0⟩,⟨0,0,⟨#[]⟩,none,0,0⟩,⟨#[]⟩,⟨#[]⟩,ns1,nv1,e1,rfl,(by have q:=o9.plain (b:=⟨0,0,⟨#[]⟩,none,0,0⟩) (c:=⟨0,0,⟨#[]⟩,none,0,0⟩) (ae fW) (((aN.only ((aC.refl lb w1).set 1 (.bool false)) (by unfold aP;rw[ae dD];simp)).trans (aN.only RO (by unfold aP;rw[aG (ae eN) (show w.heap.size≠lb by omega) 1 (.bool false)];simp))).trans (aN.alloc _ (.cells #[.int .i64 3,.int .i64 val,.string tx,.slice ao t.args.length cap] 76)));rw[ae oq]at q;exact q),RS.below ((Below.refl _ _).alloc (Nat.le_refl _) _),aB RL _,RK.alloc _⟩
theorem ve (w:World) (rb lb:Nat) (s:ByteArray) (l:List Za.aj) (ns:List ByteArray) (nv iv:Value) (e0:Int) (h:St w rb s l ns nv e0) (hb:w.heap[lb]?=some (.cells #[iv,.bool false,.bool false] 82 (0,0))) (hne:lb≠rb) (cf:lb≠0) (t:Za.Tm) (l1:List Za.aj) (dB:t.kind=2) (hT:Za.term 8 l= .inr (t,l1)) (aW:Za.bu l1=false) (heq:Za.sees l1 [61]=false):
 Calls Tryz.prog 80 #[.pointer (some ⟨rb,0,none⟩),.pointer (some ⟨lb,0,none⟩)] w fun e w'=>nG rb lb iv s ns (Za.bad 2 l1) w e w':=by
 have hlt:=h.lt
 have eR:lb<w.heap.size:=ag hb
 obtain⟨hS,hK,hB0,hB1⟩:=ez h hb
 unfold boxZ at hS hK hB0 hB1
 have HS:=af hS
 have HK:=af hK
 have aY:=af hB0
 have bD:=af hB1
 have I:=af (fun W (hW:St W rb s l ns nv e0)=>term_all 8 W rb s l ns nv e0 1 rfl hW)
 rw[hT]at I
 clear hS hK hB0 hB1 h hb
 go_enter Tryz.func80,Tryz.ntmps80
 go_wp2_with fail
 refine(ae I _ (ae HS)).mono ?_
 have fL:ak t.kind=3:=by rw[dB];rfl
 have jZ:=af dB
 clear dB
 rintro e w1 ⟨val,tx,ao,cap,ns1,nv1,e1,rfl,bj,hs,hk⟩
 rw[fL]
 have oq:=af fL
 clear fL
 have fW:=af bj
 clear bj
 have fB:=af hs
 have bH:=af (hs.below ((Below.refl _ _).alloc (Nat.le_refl _) (.cells #[.int .i64 3,.int .i64 val,.string tx,.slice ao t.args.length cap] 76)))
 have fR:=af ((ae HK).trans hk)
 have hb0:=aq hk (ae aY) (by simp;omega)
 have hbl:=aq hk (ae bD) (by simpa using hne)
 have hz0:w.heap.size<w1.heap.size:=ag hb0
 have hzl:lb<w1.heap.size:=ag hbl
 have eN:=af hb0
 have dD:=af hbl
 have q:=ah hbl
 have y:=ay hbl
 clear hs hk hb0 hbl
 go_wp2_with fail
 refine(bK _ rb s l1 ns1 nv1 e1 (ae bH)).mono ?_
 rintro e w2 ⟨rfl,hw⟩
 rw[hw]
 clear hw w2
 rw[aW]
 go_wp2_with fail
 refine(bG _ rb s l1 ns1 nv1 e1 _ (ae bH)).mono ?_
 rintro e w2 ⟨rfl,hw⟩
 rw[hw]
 simp only[ByteArray.toList_mk]
 clear hw w2
 rw[heq]
 go_wp2_with fail
 have ot:Hid (St ((w1.setCell ⟨lb,1,none⟩ (.bool false)).alloc (.cells #[.int .i64 3,.int .i64 val,.string tx,.slice ao t.args.length cap] 76)) rb s l1 ns1 nv1 e1):=((ae fB).only ((aC.refl lb _).set 1 (.bool false)) hne cf (by unfold aP;rw[ae dD];simp)).below ((Below.refl _ _).alloc (Nat.le_refl _) _)
 have df:Hid (KA rb [rb,lb] w ((w1.setCell ⟨lb,1,none⟩ (.bool false)).alloc (.cells #[.int .i64 3,.int .i64 val,.string tx,.slice ao t.args.length cap] 76))):=((ae fR).wide.fG (by simp) _).alloc _
 have nS:Hid (((w1.setCell ⟨lb,1,none⟩ (.bool false)).alloc (.cells #[.int .i64 3,.int .i64 val,.string tx,.slice ao t.args.length cap] 76)).heap[lb]?=some (.cells #[iv,.bool false,.bool false] 82 (0,0))):=aB (aA (ae dD) 1 (.bool false)) _
 have dA:Hid (((w1.setCell ⟨lb,1,none⟩ (.bool false)).alloc (.cells #[.int .i64 3,.int .i64 val,.string tx,.slice ao t.args.length cap] 76)).heap[w.heap.size]?=some (.cells #[.int .i64 0,.int .i64 0,.string ⟨#[]⟩,.slice none 0 0,.string ⟨#[]⟩,.int .i64 0,.int .i64 0,.string ⟨#[]⟩,.slice none 0 0,.string ⟨#[]⟩,.int .i64 0,.int .i64 0,.string ⟨#[]⟩,.slice none 0 0] 151 (0,0))):=aB (aG (ae eN) (by omega) _ _) _
 go_wp2_with fail
 refine(b8 _ rb s l1 ns1 nv1 e1 2 (ae ot)).mono ?_
 rintro e w3 ⟨rfl,hs3,hk3⟩
 have eM:=af hs3
 have eC:=af ((ae df).trans hk3.wide)
 have hb3:=aq hk3 (ae dA) (by simp;omega)
 have r:=ah hb3
 have x:=ay hb3
 have bQ:=af hb3
 clear hs3 hk3 hb3
 go_wp2_with fail
 have RO:=(((((((((((((((aC.refl w.heap.size w3).set 0 (.int .i64 0)).set 1 (.int .i64 0)).set 2 (.string ⟨#[]⟩)).set 3 (.slice none 0 0)).set 4 (.string ⟨#[]⟩)).set 5 (.int .i64 0)).set 6 (.int .i64 0)).set 7 (.string ⟨#[]⟩)).set 8 (.slice none 0 0)).set 9 (.string ⟨#[]⟩)).set 10 (.int .i64 0)).set 11 (.int .i64 0)).set 12 (.string ⟨#[]⟩)).set 13 (.slice none 0 0))
 have RS:=(ae eM).only RO (by omega) (by omega) (by unfold aP;rw[ae bQ];simp)
 have RK:=(ae eC).eI RO (Nat.le_refl _)
 refine bodyPost_ret (v:= .tuple #[.agg #[.int .i64 0,.int .i64 0,.string ⟨#[]⟩,.slice none 0 0,.string ⟨#[]⟩,.int .i64 0,.int .i64 0,.string ⟨#[]⟩,.slice none 0 0,.string ⟨#[]⟩,.int .i64 0,.int .i64 0,.string ⟨#[]⟩,.slice none 0 0],.bool false]) (by simp[results,Tryz.results80,go_sem,r]) rfl ?_
 exact⟨⟨0,0,⟨#[]⟩,none,0,0⟩,⟨0,0,⟨#[]⟩,none,0,0⟩,⟨0,0,⟨#[]⟩,none,0,0⟩,⟨#[]⟩,⟨#[]⟩,l1,ns1,nv1,rfl,RS,rfl,RK⟩
theorem wh (w:World) (rb lb:Nat) (s:ByteArray) (l:List Za.aj) (ns:List ByteArray) (nv iv:Value) (e0:Int) (goals:Bool) (h:St w rb s l ns nv e0) (hb:w.heap[lb]?=some (.cells #[iv,.bool true,.bool goals] 82 (0,0))) (hne:lb≠rb) (cf:lb≠0) (t:Za.Tm) (l1:List Za.aj) (dB:t.kind=2) (hi:Za.isInt t=true) (hT:Za.term 8 l= .inr (t,l1)) (aW:Za.bu l1=false) (heq:Za.sees l1 [61]=false):
 Calls Tryz.prog 80 #[.pointer (some ⟨rb,0,none⟩),.pointer (some ⟨lb,0,none⟩)] w fun e w'=>nG rb lb iv s ns (.inr ((⟨t,[],none,[],none⟩,true,goals),l1)) w e w':=by
 have hlt:=h.lt
 have eR:lb<w.heap.size:=ag hb
 obtain⟨hS,hK,hB0,hB1⟩:=ez h hb
 unfold boxZ at hS hK hB0 hB1
 have HS:=af hS
 have HK:=af hK
 have aY:=af hB0
 have bD:=af hB1
 have I:=af (fun W (hW:St W rb s l ns nv e0)=>term_all 8 W rb s l ns nv e0 1 rfl hW)
 rw[hT]at I
 clear hS hK hB0 hB1 h hb
 go_enter Tryz.func80,Tryz.ntmps80
 go_wp2_with fail
 refine(ae I _ (ae HS)).mono ?_
 have fL:ak t.kind=3:=by rw[dB];rfl
 have jZ:=af dB
 clear dB
 rintro e w1 ⟨val,tx,ao,cap,ns1,nv1,e1,rfl,bj,hs,hk⟩
 rw[fL]
 have oq:=af fL
 clear fL
 have fW:=af bj
 clear bj
 have fB:=af hs
 have bH:=af (hs.below ((Below.refl _ _).alloc (Nat.le_refl _) (.cells #[.int .i64 3,.int .i64 val,.string tx,.slice ao t.args.length cap] 76)))
 have fR:=af ((ae HK).trans hk)
 have hb0:=aq hk (ae aY) (by simp;omega)
 have hbl:=aq hk (ae bD) (by simpa using hne)
 have hz0:w.heap.size<w1.heap.size:=ag hb0
 have hzl:lb<w1.heap.size:=ag hbl
 have eN:=af hb0
 have dD:=af hbl
 have q:=ah hbl
 have y:=ay hbl
 clear hs hk hb0 hbl
 go_wp2_with fail
 refine(bK _ rb s l1 ns1 nv1 e1 (ae bH)).mono ?_
 rintro e w2 ⟨rfl,hw⟩
 rw[hw]
 clear hw w2
 rw[aW]
 go_wp2_with fail
 refine(bG _ rb s l1 ns1 nv1 e1 _ (ae bH)).mono ?_
 rintro e w2 ⟨rfl,hw⟩
 rw[hw]
 simp only[ByteArray.toList_mk]
 clear hw w2
 rw[heq]
 go_wp2_with fail
 have mv:=af (jg (w1.alloc (.cells #[.int .i64 3,.int .i64 val,.string tx,.slice ao t.args.length cap] 76)) t val tx ao cap (ae fW).txt (by have:=ae jZ;omega))
 rw[ae oq]at mv
 refine(ae mv).mono ?_
 rintro e w2 ⟨rfl,dP⟩
 rw[hi]
 have D2:=af dP
 have xu:=af ((ae bH).below dP)
 have hz2:w1.heap.size<w2.heap.size:=by have:=dP.size;simp at this;omega
 have gI:=(dP.block lb (by simp;omega)).trans (aB (ae dD) (.cells #[.int .i64 3,.int .i64 val,.string tx,.slice ao t.args.length cap] 76))
 have mf:=(dP.block w1.heap.size (by simp)).trans (heap_alloc_new w1 (.cells #[.int .i64 3,.int .i64 val,.string tx,.slice ao t.args.length cap] 76))
 have mg:=(dP.block w.heap.size (by simp;omega)).trans (aB (ae eN) (.cells #[.int .i64 3,.int .i64 val,.string tx,.slice ao t.args.length cap] 76))
 have kM:=af (((ae fR).alloc (.cells #[.int .i64 3,.int .i64 val,.string tx,.slice ao t.args.length cap] 76)).trans (KA.aw dP))
 have q2:=ah gI
 have y2:=ay gI
 have vv:=ah mf
 have dy:=af gI
 have kC:=af mg
 clear dP gI mf mg q y
 have ot:Hid (St (w2.setCell ⟨lb,1,none⟩ (.bool true)) rb s l1 ns1 nv1 e1):=(ae xu).only ((aC.refl lb _).set 1 (.bool true)) hne cf (by unfold aP;rw[ae dy];simp)
 have df:Hid (KA rb [rb,lb] w (w2.setCell ⟨lb,1,none⟩ (.bool true))):=(ae kM).wide.fG (by simp) _
 have nS:Hid ((w2.setCell ⟨lb,1,none⟩ (.bool true)).heap[lb]?=some (.cells #[iv,.bool true,.bool goals] 82 (0,0))):=aA (ae dy) 1 (.bool true)
 have dA:Hid ((w2.setCell ⟨lb,1,none⟩ (.bool true)).heap[w.heap.size]?=some (.cells #[.int .i64 0,.int .i64 0,.string ⟨#[]⟩,.slice none 0 0,.string ⟨#[]⟩,.int .i64 0,.int .i64 0,.string ⟨#[]⟩,.slice none 0 0,.string ⟨#[]⟩,.int .i64 0,.int .i64 0,.string ⟨#[]⟩,.slice none 0 0] 151 (0,0))):=aG (ae kC) (by omega) _ _
 have r:=ah (ae kC)
 have x:=ay (ae kC)
 go_wp2_with fail
 have RO:=(((((((((((((((aC.refl w.heap.size (w2.setCell ⟨lb,1,none⟩ (.bool true))).set 0 (.int .i64 3)).set 1 (.int .i64 val)).set 2 (.string tx)).set 3 (.slice ao t.args.length cap)).set 4 (.string ⟨#[]⟩)).set 5 (.int .i64 0)).set 6 (.int .i64 0)).set 7 (.string ⟨#[]⟩)).set 8 (.slice none 0 0)).set 9 (.string ⟨#[]⟩)).set 10 (.int .i64 0)).set 11 (.int .i64 0)).set 12 (.string ⟨#[]⟩)).set 13 (.slice none 0 0))
 have RS:=(ae ot).only RO (by omega) (by omega) (by unfold aP;rw[ae dA];simp)
 have RK:=(ae df).eI RO (Nat.le_refl _)
 have RL:=(RO.block lb (by omega)).trans (ae nS)
 refine bodyPost_ret (v:= .tuple #[.agg #[.int .i64 3,.int .i64 val,.string tx,.slice ao t.args.length cap,.string ⟨#[]⟩,.int .i64 0,.int .i64 0,.string ⟨#[]⟩,.slice none 0 0,.string ⟨#[]⟩,.int .i64 0,.int .i64 0,.string ⟨#[]⟩,.slice none 0 0],.bool true]) (by simp[results,Tryz.results80,go_sem,r]) rfl ?_
 exact⟨⟨3,val,tx,ao,t.args.length,cap⟩,⟨0,0,⟨#[]⟩,none,0,0⟩,⟨0,0,⟨#[]⟩,none,0,0⟩,⟨#[]⟩,⟨#[]⟩,ns1,nv1,e1,rfl,(by have q:=o9.plain (b:=⟨0,0,⟨#[]⟩,none,0,0⟩) (c:=⟨0,0,⟨#[]⟩,none,0,0⟩) (ae fW) ((((aN.alloc _ _).trans (aN.below (ae D2))).trans (aN.only ((aC.refl lb w2).set 1 (.bool true)) (by unfold aP;rw[ae dy];simp))).trans (aN.only RO (by unfold aP;rw[ae dA];simp)));rw[ae oq]at q;exact q),RS,RL,RK⟩
theorem BK (w:World) (rb:Nat) (s:ByteArray) (l:List Za.aj) (ns:List ByteArray) (nv:Value) (e0:Int) (a:TV) (left:Za.Tm) (t:Za.Tm) (l2:List Za.aj) (h:St w rb s l ns nv e0) (h0:(Za.hd l).kind≠0) (hO:Za.operand l.tail= .inr (t,l2)) (hop:Za.gp l2=false):
 Calls Tryz.prog 135 #[.pointer (some ⟨rb,0,none⟩),.agg #[.int .i64 a.k,.int .i64 a.val,.string a.tx,.slice a.ao a.n a.cap],.bool true] w fun e w'=>ni rb s a left ns (Za.assignment left true l) w e w':=by
 have hlt:=h.lt
 have h0':=af h0
 have I:=af (fun W nv (hW:St W rb s l.tail ns nv e0)=>jo W rb s l.tail ns nv e0 hW)
 rw[hO]at I
 obtain⟨hS,hK,hB1,hB2,hz⟩:=jU a (Za.hd l).text h
 unfold kB boxZ lf at hS hK hB1 hB2 hz
 have HS:=af hS
 have HK:=af hK
 have bD:=af hB1
 have bf:=af hB2
 have HZ:=af hz
 clear hS hK hB1 hB2 hz
 obtain⟨⟨c0,c1,c2,c3,c4,c5,f1,f2,f3,f4,f5⟩,own,chain,isn,few,short,signs,pos,lt⟩:=h
 clear own chain isn few short signs c0 c1 c2 c4 c5 f1 f2 f3 f4 f5 h0
 have hc2:∀o1 o2,((w.alloc o1).alloc o2).cell? ⟨rb,3,none⟩=some (.string (Za.hd l).text):=fun o1 o2=>by rw[World.cell?_alloc_past _ _ _ (by simp;omega),World.cell?_alloc_past _ _ _ hlt];exact c3
 have hc3:∀o1 o2 o3,(((w.alloc o1).alloc o2).alloc o3).cell? ⟨rb,3,none⟩=some (.string (Za.hd l).text):=fun o1 o2 o3=>by rw[World.cell?_alloc_past _ _ _ (by simp;omega)];exact hc2 o1 o2
 have HA:Za.assignment left true l= .inr (⟨left,(Za.hd l).text.toList,some t,[],none⟩,l2):=by unfold Za.assignment;rw[if_pos rfl,hO];simp only[hop];rfl
 rw[HA]
 clear HA hO
 go_enter Tryz.func135,Tryz.ntmps135
 go_wp2_with fail
 go_big_region
 go_wp2_with fail
 refine(dI _ rb s l ns nv e0 true (ae HS) (fun _=>ae h0')).mono ?_
 rintro e w1 ⟨rfl,hs,hk⟩
 have HB1':=af (aq hk (ae bD) (by simp;omega))
 have HB2':=af (aq hk (ae bf) (by simp;omega))
 have bH:=af hs
 have df:=af ((ae HK).trans hk)
 clear hs hk hc2 hc3 c3
 go_wp2_with fail
 refine(ae I _ _ (ae bH)).mono ?_
 rintro e w2 ⟨val,tx,ao,cap,ns',nv',e',rfl,bj,hs2,hk2⟩
 have fW:=af bj
 clear bj
 have hb1:=aq hk2 (ae HB1') (by simp;omega)
 have hb2:=aq hk2 (ae HB2') (by simp;omega)
 have hz1:w.heap.size+1<w2.heap.size:=ag hb1
 have hz2:w.heap.size+1+1<w2.heap.size:=ag hb2
 have cg:=af hs2
 have di:=af ((ae df).trans hk2)
 clear hs2 hk2
 have r:=ah hb1
 have x:=ay hb1
 have q:=ah hb2
 have y:=ay hb2
 have HB1'':=af hb1
 have HB2'':=af hb2
 clear hb1 hb2
 have RB:=af (bW (ae cg) (ae di) hlt (by omega) (ae HB2'') (((((aC.refl _ _).set 5 (.int .i64 (ak t.kind))).set 6 (.int .i64 val)).set 7 (.string tx)).set 8 (.slice ao t.args.length cap)))
 go_wp2_with fail
 refine(kZ _ rb s l2 ns' nv' e' ((ae RB).1.below ((Below.refl _ _).alloc (Nat.le_refl _) _))).mono ?_
 rintro e w3 ⟨rfl,hw⟩
 rw[hw]
 clear hw w3
 go_wp2_with fail
 have RK:=tK (ae cg) (ae di) hlt (by omega) (by omega) (ae HB2'') (ae HB1'') (((((aC.refl _ _).set 5 (.int .i64 (ak t.kind))).set 6 (.int .i64 val)).set 7 (.string tx)).set 8 (.slice ao t.args.length cap)) (((((((((((((((aC.refl _ _).set 0 (.int .i64 a.k)).set 1 (.int .i64 a.val)).set 2 (.string a.tx)).set 3 (.slice a.ao a.n a.cap)).set 4 (.string (Za.hd l).text)).set 5 (.int .i64 (ak t.kind))).set 6 (.int .i64 val)).set 7 (.string tx)).set 8 (.slice ao t.args.length cap)).set 9 (.string ⟨#[]⟩)).set 10 (.int .i64 0)).set 11 (.int .i64 0)).set 12 (.string ⟨#[]⟩)).set 13 (.slice none 0 0))
 have R:=RK.1
 refine bodyPost_ret (v:= .tuple #[.agg #[.int .i64 a.k,.int .i64 a.val,.string a.tx,.slice a.ao a.n a.cap,.string (Za.hd l).text,.int .i64 (ak t.kind),.int .i64 val,.string tx,.slice ao t.args.length cap,.string ⟨#[]⟩,.int .i64 0,.int .i64 0,.string ⟨#[]⟩,.slice none 0 0],.bool true]) (by simp[results,Tryz.results135,go_sem,hz1,r]) rfl ?_
 exact⟨a,⟨ak t.kind,val,tx,ao,t.args.length,cap⟩,⟨0,0,⟨#[]⟩,none,0,0⟩,(Za.hd l).text,⟨#[]⟩,ns',nv',e',rfl,⟨rfl,rfl,rfl,(fun r q=>by cases q;exact(RK.2.trans (aN.alloc _ _)).ra (ae fW).rep),empty_list,(fun z q=>by cases q),(ae fW).nms⟩,R.1.below ((Below.refl _ _).alloc (Nat.le_refl _) _),R.2.alloc _⟩
end Go.Proofs.YthfjnfcekeknlaaGreatDoor
