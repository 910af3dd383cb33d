import Derived.Test.YthfjnfcekeknlaaGreatDoorAp15
set_option maxHeartbeats 8000000
set_option maxRecDepth 100000
namespace Go.Proofs.YthfjnfcekeknlaaGreatDoor
open Go.RowKit
theorem Fk (w:World) (rb lb:Nat) (s:ByteArray) (l:List Za.aj) (ns:List ByteArray) (nv iv:Value) (e0:Int) (tests goals:Bool) (h:St w rb s l ns nv e0) (hb:w.heap[lb]?=some (.cells #[iv,.bool tests,.bool goals] 82 (0,0))) (hne:lb≠rb) (cG:lb≠0) (t:Za.Tm) (l1:List Za.aj) (hT:Za.term 8 l= .inr (t,l1)) (aW:Za.bF l1=false) (heq:Za.sees l1 [61]=true) (er ps:Nat) (hR:Za.sides t goals l1= .inl (er,ps)):
 Calls Tryz.prog 80 #[.pointer (some ⟨rb,0,none⟩),.pointer (some ⟨lb,0,none⟩)] w fun e w'=>nB rb lb iv s ns (.inl (er,ps)) w e w':=by
 have hlt:=h.lt
 have dS:lb<w.heap.size:=ag hb
 obtain⟨hS,hK,hB0,hB1⟩:=dW h hb
 unfold boxZ at hS hK hB0 hB1
 have HS:=af hS
 have HK:=af hK
 have aX:=af hB0
 have bj:=af hB1
 have I:=af (fun W (hW:St W rb s l ns nv e0)=>term_all 8 W rb s l ns nv e0 1 rfl hW)
 rw[hT]at I
 have fw:(Za.hd l1).kind≠0:=by rw[Za.cT heq];omega
 have tM:=af fw
 clear hS hK hB0 hB1 h hb fw
 go_enter Tryz.func80,Tryz.ntmps80
 go_wp2_with fail
 refine(ae I _ (ae HS)).mono ?_
 rintro e w1 ⟨val,tx,ao,cap,ns1,nv1,e1,rfl,bh,hs,hk⟩
 have fx:=af hs
 have bE:=af (hs.below ((Below.refl _ _).alloc (Nat.le_refl _) (.cells #[.int .i64 (ak t.kind),.int .i64 val,.string tx,.slice ao t.args.length cap] 76)))
 have fR:=af ((ae HK).trans hk)
 have hb0:=aq hk (ae aX) (by simp;omega)
 have hbl:=aq hk (ae bj) (by simpa using hne)
 have hz0:w.heap.size<w1.heap.size:=ag hb0
 have hzl:lb<w1.heap.size:=ag hbl
 have ez:=af hb0
 have dy:=af hbl
 have q:=ah hbl
 have y:=ay hbl
 clear hs hk hb0 hbl bh
 go_wp2_with fail
 refine(bI _ rb s l1 ns1 nv1 e1 (ae bE)).mono ?_
 rintro e w2 ⟨rfl,hw⟩
 rw[hw]
 clear hw w2
 rw[aW]
 go_wp2_with fail
 refine(bC _ rb s l1 ns1 nv1 e1 _ (ae bE)).mono ?_
 rintro e w2 ⟨rfl,hw⟩
 rw[hw]
 simp only[ByteArray.toList_mk]
 clear hw w2
 rw[heq]
 go_wp2_with fail
 have nD:Hid (St (w1.setCell ⟨lb,1,none⟩ (.bool false)) rb s l1 ns1 nv1 e1):=(ae fx).only ((aD.refl lb _).set 1 (.bool false)) hne cG (by unfold aO;rw[ae dy];simp)
 have HW:Hid (St ((w1.setCell ⟨lb,1,none⟩ (.bool false)).alloc (.cells #[.int .i64 (ak t.kind),.int .i64 val,.string tx,.slice ao t.args.length cap] 76)).drew rb s l1 ns1 nv1 e1):=(ae nD).below ((Below.refl _ _).alloc (Nat.le_refl _) _).drew
 have kH:Hid (KA rb [rb,lb] w ((w1.setCell ⟨lb,1,none⟩ (.bool false)).alloc (.cells #[.int .i64 (ak t.kind),.int .i64 val,.string tx,.slice ao t.args.length cap] 76)).drew):=(((ae fR).wide.fD (by simp) _).alloc _).drew
 have oZ:Hid (((w1.setCell ⟨lb,1,none⟩ (.bool false)).alloc (.cells #[.int .i64 (ak t.kind),.int .i64 val,.string tx,.slice ao t.args.length cap] 76)).drew.heap[w.heap.size]?=some (.cells #[.int .i64 0,.int .i64 0,.string ⟨#[]⟩,.slice none 0 0,.string ⟨#[]⟩,.int .i64 0,.int .i64 0,.string ⟨#[]⟩,.slice none 0 0,.string ⟨#[]⟩,.int .i64 0,.int .i64 0,.string ⟨#[]⟩,.slice none 0 0] 151 (0,0))):=aB (aG (ae ez) (by omega) _ _) _
 have o0:Hid (((w1.setCell ⟨lb,1,none⟩ (.bool false)).alloc (.cells #[.int .i64 (ak t.kind),.int .i64 val,.string tx,.slice ao t.args.length cap] 76)).drew.heap[lb]?=some (.cells #[iv,.bool false,.bool goals] 82 (0,0))):=aB (aA (ae dy) 1 (.bool false)) _
 have SD:=af (fun W (hW:St W rb s l1 ns1 nv1 e1)=>pX W rb s l1 ns1 nv1 e1 ⟨ak t.kind,val,tx,ao,t.args.length,cap⟩ t goals hW (ae tM))
 rw[hR]at SD
 clear fx bE fR ez nD hR
 go_region_with (go_at_call 134;refine(ae SD _ (ae HW)).mono ?_;rintro e w2 ⟨a,b,c,sg,op,l',ns',nv',rfl,hs2,cq,hk2⟩;have HP:=af cq;clear cq;have bZ:=af hs2;have cY:=af ((ae kH).trans hk2.wide);have hb2:=aq hk2 (ae oZ) (by simp;omega);have dr:=af (aq hk2 (ae o0) (by simpa using hne));have r:=ah hb2;have x:=ay hb2;have aZ:=af hb2;clear hs2 hk2 hb2)
 all_goals
  go_wp2_with fail
  have RO:=(((((((((((((((aD.refl w.heap.size w2).set 0 (.int .i64 a.k)).set 1 (.int .i64 a.val)).set 2 (.string a.tx)).set 3 (.slice a.ao a.n a.cap)).set 4 (.string sg)).set 5 (.int .i64 b.k)).set 6 (.int .i64 b.val)).set 7 (.string b.tx)).set 8 (.slice b.ao b.n b.cap)).set 9 (.string op)).set 10 (.int .i64 c.k)).set 11 (.int .i64 c.val)).set 12 (.string c.tx)).set 13 (.slice c.ao c.n c.cap))
  have RS:=(ae bZ).only RO (by omega) (by omega) (by unfold aO;rw[ae aZ];simp)
  have RK:=(ae cY).eh RO (Nat.le_refl _)
  have RL:=(RO.block lb (by omega)).trans (ae dr)
  refine bodyPost_ret (v:= .tuple #[.agg #[.int .i64 a.k,.int .i64 a.val,.string a.tx,.slice a.ao a.n a.cap,.string sg,.int .i64 b.k,.int .i64 b.val,.string b.tx,.slice b.ao b.n b.cap,.string op,.int .i64 c.k,.int .i64 c.val,.string c.tx,.slice c.ao c.n c.cap],.bool false]) (by simp[results,Tryz.results80,go_sem,r]) rfl ?_
  exact⟨a,b,c,sg,op,l',ns',nv',rfl,RS,ae HP,RK⟩
theorem Dq (w:World) (rb lb:Nat) (s:ByteArray) (l:List Za.aj) (ns:List ByteArray) (nv iv:Value) (e0:Int) (tests goals:Bool) (h:St w rb s l ns nv e0) (hb:w.heap[lb]?=some (.cells #[iv,.bool tests,.bool goals] 82 (0,0))) (hne:lb≠rb) (cG:lb≠0) (t:Za.Tm) (l1:List Za.aj) (hT:Za.term 8 l= .inr (t,l1)) (aW:Za.bF l1=false) (heq:Za.sees l1 [61]=true) (x:Za.aH) (l2:List Za.aj) (hR:Za.sides t goals l1= .inr (x,l2)):
 Calls Tryz.prog 80 #[.pointer (some ⟨rb,0,none⟩),.pointer (some ⟨lb,0,none⟩)] w fun e w'=>nB rb lb iv s ns (.inr ((x,false,goals),l2)) w e w':=by
 have hlt:=h.lt
 have dS:lb<w.heap.size:=ag hb
 obtain⟨hS,hK,hB0,hB1⟩:=dW h hb
 unfold boxZ at hS hK hB0 hB1
 have HS:=af hS
 have HK:=af hK
 have aX:=af hB0
 have bj:=af hB1
 have I:=af (fun W (hW:St W rb s l ns nv e0)=>term_all 8 W rb s l ns nv e0 1 rfl hW)
 rw[hT]at I
 have fw:(Za.hd l1).kind≠0:=by rw[Za.cT heq];omega
 have tM:=af fw
 clear hS hK hB0 hB1 h hb fw
 go_enter Tryz.func80,Tryz.ntmps80
 go_wp2_with fail
 refine(ae I _ (ae HS)).mono ?_
 rintro e w1 ⟨val,tx,ao,cap,ns1,nv1,e1,rfl,bh,hs,hk⟩
 have fx:=af hs
 have bE:=af (hs.below ((Below.refl _ _).alloc (Nat.le_refl _) (.cells #[.int .i64 (ak t.kind),.int .i64 val,.string tx,.slice ao t.args.length cap] 76)))
 have fR:=af ((ae HK).trans hk)
 have hb0:=aq hk (ae aX) (by simp;omega)
 have hbl:=aq hk (ae bj) (by simpa using hne)
 have hz0:w.heap.size<w1.heap.size:=ag hb0
 have hzl:lb<w1.heap.size:=ag hbl
 have ez:=af hb0
 have dy:=af hbl
 have q:=ah hbl
 have y:=ay hbl
 have fX:=af bh
 clear hs hk hb0 hbl bh
 go_wp2_with fail
 refine(bI _ rb s l1 ns1 nv1 e1 (ae bE)).mono ?_
 rintro e w2 ⟨rfl,hw⟩
 rw[hw]
 clear hw w2
 rw[aW]
 go_wp2_with fail
 refine(bC _ rb s l1 ns1 nv1 e1 _ (ae bE)).mono ?_
 rintro e w2 ⟨rfl,hw⟩
 rw[hw]
 simp only[ByteArray.toList_mk]
 clear hw w2
 rw[heq]
 go_wp2_with fail
 have nD:Hid (St (w1.setCell ⟨lb,1,none⟩ (.bool false)) rb s l1 ns1 nv1 e1):=(ae fx).only ((aD.refl lb _).set 1 (.bool false)) hne cG (by unfold aO;rw[ae dy];simp)
 have HW:Hid (St ((w1.setCell ⟨lb,1,none⟩ (.bool false)).alloc (.cells #[.int .i64 (ak t.kind),.int .i64 val,.string tx,.slice ao t.args.length cap] 76)).drew rb s l1 ns1 nv1 e1):=(ae nD).below ((Below.refl _ _).alloc (Nat.le_refl _) _).drew
 have kH:Hid (KA rb [rb,lb] w ((w1.setCell ⟨lb,1,none⟩ (.bool false)).alloc (.cells #[.int .i64 (ak t.kind),.int .i64 val,.string tx,.slice ao t.args.length cap] 76)).drew):=(((ae fR).wide.fD (by simp) _).alloc _).drew
 have oZ:Hid (((w1.setCell ⟨lb,1,none⟩ (.bool false)).alloc (.cells #[.int .i64 (ak t.kind),.int .i64 val,.string tx,.slice ao t.args.length cap] 76)).drew.heap[w.heap.size]?=some (.cells #[.int .i64 0,.int .i64 0,.string ⟨#[]⟩,.slice none 0 0,.string ⟨#[]⟩,.int .i64 0,.int .i64 0,.string ⟨#[]⟩,.slice none 0 0,.string ⟨#[]⟩,.int .i64 0,.int .i64 0,.string ⟨#[]⟩,.slice none 0 0] 151 (0,0))):=aB (aG (ae ez) (by omega) _ _) _
 have o0:Hid (((w1.setCell ⟨lb,1,none⟩ (.bool false)).alloc (.cells #[.int .i64 (ak t.kind),.int .i64 val,.string tx,.slice ao t.args.length cap] 76)).drew.heap[lb]?=some (.cells #[iv,.bool false,.bool goals] 82 (0,0))):=aB (aA (ae dy) 1 (.bool false)) _
 have BP:Hid (aN w1 ((w1.setCell ⟨lb,1,none⟩ (.bool false)).alloc (.cells #[.int .i64 (ak t.kind),.int .i64 val,.string tx,.slice ao t.args.length cap] 76)).drew):=(aN.only ((aD.refl lb w1).set 1 (.bool false)) (by unfold aO;rw[ae dy];simp)).trans (aN.below ((Below.refl _ _).alloc (Nat.le_refl _) _).drew)
 have SD:=af (fun W (hW:St W rb s l1 ns1 nv1 e1)=>pX W rb s l1 ns1 nv1 e1 ⟨ak t.kind,val,tx,ao,t.args.length,cap⟩ t goals hW (ae tM))
 rw[hR]at SD
 clear fx bE fR ez nD hR
 go_region_with (go_at_call 134;refine(ae SD _ (ae HW)).mono ?_;rintro e w2 ⟨a,b,c,sg,op,ns',nv',e',rfl,⟨ha,nW,hrt⟩,hs2,hk2⟩;have Hy:=af hrt;have xl:=af nW;have Hz:=af ha;clear hrt nW ha;have BQ:=af ((ae BP).trans (aN.ka (ae HW) hk2));have bZ:=af hs2;have cY:=af ((ae kH).trans hk2.wide);have hb2:=aq hk2 (ae oZ) (by simp;omega);have dr:=af (aq hk2 (ae o0) (by simpa using hne));have r:=ah hb2;have x:=ay hb2;have aZ:=af hb2;clear hs2 hk2 hb2)
 all_goals
  go_wp2_with fail
  have RO:=(((((((((((((((aD.refl w.heap.size w2).set 0 (.int .i64 a.k)).set 1 (.int .i64 a.val)).set 2 (.string a.tx)).set 3 (.slice a.ao a.n a.cap)).set 4 (.string sg)).set 5 (.int .i64 b.k)).set 6 (.int .i64 b.val)).set 7 (.string b.tx)).set 8 (.slice b.ao b.n b.cap)).set 9 (.string op)).set 10 (.int .i64 c.k)).set 11 (.int .i64 c.val)).set 12 (.string c.tx)).set 13 (.slice c.ao c.n c.cap))
  have RS:=(ae bZ).only RO (by omega) (by omega) (by unfold aO;rw[ae aZ];simp)
  have RP:=aN.only RO (by unfold aO;rw[ae aZ];simp)
  have RK:=(ae cY).eh RO (Nat.le_refl _)
  have RL:=(RO.block lb (by omega)).trans (ae dr)
  refine bodyPost_ret (v:= .tuple #[.agg #[.int .i64 a.k,.int .i64 a.val,.string a.tx,.slice a.ao a.n a.cap,.string sg,.int .i64 b.k,.int .i64 b.val,.string b.tx,.slice b.ao b.n b.cap,.string op,.int .i64 c.k,.int .i64 c.val,.string c.tx,.slice c.ao c.n c.cap],.bool true]) (by simp[results,Tryz.results80,go_sem,r]) rfl ?_
  exact⟨a,b,c,sg,op,ns',nv',e',rfl,oY.of (ae fX) (ae Hz) (ae xl) (ae Hy) (ae BQ) RP,RS,RL,RK⟩
end Go.Proofs.YthfjnfcekeknlaaGreatDoor
