import Derived.Test.YthfjnfcekeknlaaGreatDoorSu18
import Derived.Test.YthfjnfcekeknlaaGreatDoorSu20
import Derived.Test.YthfjnfcekeknlaaGreatDoorSu21
set_option maxHeartbeats 8000000
set_option maxRecDepth 100000
namespace Go.Proofs.YthfjnfcekeknlaaGreatDoor
open Go.RowKit
theorem qP (w:World) (rb:Nat) (s:ByteArray) (l:List Za.aj) (ns:List ByteArray) (nv:Value) (e0:Int) (a:TV) (left:Za.Tm) (fits:Bool) (h:St w rb s l ns nv e0) (h0:(Za.hd l).kind≠0):
 Calls Tryz.prog 135 #[.pointer (some ⟨rb,0,none⟩),.agg #[.int .i64 a.k,.int .i64 a.val,.string a.tx,.slice a.ao a.n a.cap],.bool fits] w fun e w'=>ni rb s a left ns (Za.assignment left fits l) w e w':=by
 cases fits
 ·exact Ig w rb s l ns nv e0 a left h h0
 ·rcases hO:Za.operand l.tail with⟨er,ps⟩ | ⟨t,l2⟩
  ·exact BL w rb s l ns nv e0 a left er ps h h0 hO
  ·cases hop:Za.gp l2
   ·exact BK w rb s l ns nv e0 a left t l2 h h0 hO hop
   ·rcases hO2:Za.operand l2.tail with⟨er,ps⟩ | ⟨t2,l3⟩
    ·exact Aa w rb s l ns nv e0 a left t l2 h h0 hO hop er ps hO2
    ·exact Dk w rb s l ns nv e0 a left t l2 h h0 hO hop t2 l3 hO2
theorem Dl (w:World) (rb lb:Nat) (s:ByteArray) (l:List Za.aj) (ns:List ByteArray) (nv iv:Value) (e0:Int) (tests goals:Bool) (h:St w rb s l ns nv e0) (hb:w.heap[lb]?=some (.cells #[iv,.bool tests,.bool goals] 82 (0,0))) (hne:lb≠rb) (cf:lb≠0) (t:Za.Tm) (l1:List Za.aj) (hT:Za.term 8 l= .inr (t,l1)) (dB:t.kind=3) (aW:Za.bu l1=false) (heq:Za.sees l1 [61]=false) (has:Za.sees l1 [58,61]=true) (er ps:Nat) (hR:Za.assignment t goals l1= .inl (er,ps)):
 Calls Tryz.prog 80 #[.pointer (some ⟨rb,0,none⟩),.pointer (some ⟨lb,0,none⟩)] w fun e w'=>nG rb lb iv s ns (.inl (er,ps)) w e w':=by
 have hlt:=h.lt
 have eR:lb<w.heap.size:=ag hb
 obtain⟨hS,hK,hB0,hB1⟩:=ez h hb
 unfold boxZ at hS hK hB0 hB1
 have HS:=af hS
 have HK:=af hK
 have aY:=af hB0
 have bD:=af hB1
 have I:=af (fun W (hW:St W rb s l ns nv e0)=>term_all 8 W rb s l ns nv e0 1 rfl hW)
 rw[hT]at I
 have fA:(Za.hd l1).kind≠0:=by rw[Za.cU has];omega
 have fL:(ak t.kind == 1)=true:=by rw[dB];rfl
 clear dB
 have tM:=af fA
 clear hS hK hB0 hB1 h hb fA
 go_enter Tryz.func80,Tryz.ntmps80
 go_wp2_with fail
 refine(ae I _ (ae HS)).mono ?_
 rintro e w1 ⟨val,tx,ao,cap,ns1,nv1,e1,rfl,bj,hs,hk⟩
 have fB:=af hs
 have bH:=af (hs.below ((Below.refl _ _).alloc (Nat.le_refl _) (.cells #[.int .i64 (ak t.kind),.int .i64 val,.string tx,.slice ao t.args.length cap] 76)))
 have fR:=af ((ae HK).trans hk)
 have hb0:=aq hk (ae aY) (by simp;omega)
 have hbl:=aq hk (ae bD) (by simpa using hne)
 have hz0:w.heap.size<w1.heap.size:=ag hb0
 have hzl:lb<w1.heap.size:=ag hbl
 have eN:=af hb0
 have dD:=af hbl
 have q:=ah hbl
 have y:=ay hbl
 clear hs hk hb0 hbl bj
 go_wp2_with fail
 refine(bK _ rb s l1 ns1 nv1 e1 (ae bH)).mono ?_
 rintro e w2 ⟨rfl,hw⟩
 rw[hw]
 clear hw w2
 rw[aW]
 go_wp2_with fail
 refine(bG _ rb s l1 ns1 nv1 e1 _ (ae bH)).mono ?_
 rintro e w2 ⟨rfl,hw⟩
 rw[hw]
 simp only[ByteArray.toList_mk]
 clear hw w2
 rw[heq]
 go_wp2_with fail
 refine(bG _ rb s l1 ns1 nv1 e1 _ (ae bH)).mono ?_
 rintro e w2 ⟨rfl,hw⟩
 rw[hw]
 simp only[ByteArray.toList_mk]
 clear hw w2
 rw[has]
 go_wp2_with fail
 have nH:Hid (St (w1.setCell ⟨lb,1,none⟩ (.bool false)) rb s l1 ns1 nv1 e1):=(ae fB).only ((aC.refl lb _).set 1 (.bool false)) hne cf (by unfold aP;rw[ae dD];simp)
 have HW:Hid (St ((w1.setCell ⟨lb,1,none⟩ (.bool false)).alloc (.cells #[.int .i64 (ak t.kind),.int .i64 val,.string tx,.slice ao t.args.length cap] 76)).drew rb s l1 ns1 nv1 e1):=(ae nH).below ((Below.refl _ _).alloc (Nat.le_refl _) _).drew
 have kM:Hid (KA rb [rb,lb] w ((w1.setCell ⟨lb,1,none⟩ (.bool false)).alloc (.cells #[.int .i64 (ak t.kind),.int .i64 val,.string tx,.slice ao t.args.length cap] 76)).drew):=(((ae fR).wide.fG (by simp) _).alloc _).drew
 have pj:Hid (((w1.setCell ⟨lb,1,none⟩ (.bool false)).alloc (.cells #[.int .i64 (ak t.kind),.int .i64 val,.string tx,.slice ao t.args.length cap] 76)).drew.heap[w.heap.size]?=some (.cells #[.int .i64 0,.int .i64 0,.string ⟨#[]⟩,.slice none 0 0,.string ⟨#[]⟩,.int .i64 0,.int .i64 0,.string ⟨#[]⟩,.slice none 0 0,.string ⟨#[]⟩,.int .i64 0,.int .i64 0,.string ⟨#[]⟩,.slice none 0 0] 151 (0,0))):=aB (aG (ae eN) (by omega) _ _) _
 have pn:Hid (((w1.setCell ⟨lb,1,none⟩ (.bool false)).alloc (.cells #[.int .i64 (ak t.kind),.int .i64 val,.string tx,.slice ao t.args.length cap] 76)).drew.heap[lb]?=some (.cells #[iv,.bool false,.bool goals] 82 (0,0))):=aB (aA (ae dD) 1 (.bool false)) _
 have SD:=af (fun W (hW:St W rb s l1 ns1 nv1 e1)=>qP W rb s l1 ns1 nv1 e1 ⟨ak t.kind,val,tx,ao,t.args.length,cap⟩ t goals hW (ae tM))
 rw[hR]at SD
 clear fB bH fR eN nH hR
 go_region_with (go_at_call 135;refine(ae SD _ (ae HW)).mono ?_;rintro e w2 ⟨a,b,c,sg,op,l',ns',nv',rfl,hs2,cu,hk2⟩;have HP:=af cu;clear cu;have cg:=af hs2;have di:=af ((ae kM).trans hk2.wide);have hb2:=aq hk2 (ae pj) (by simp;omega);have dy:=af (aq hk2 (ae pn) (by simpa using hne));have r:=ah hb2;have x:=ay hb2;have bf:=af hb2;clear hs2 hk2 hb2)
 all_goals
  go_wp2_with fail
  have RO:=(((((((((((((((aC.refl w.heap.size w2).set 0 (.int .i64 a.k)).set 1 (.int .i64 a.val)).set 2 (.string a.tx)).set 3 (.slice a.ao a.n a.cap)).set 4 (.string sg)).set 5 (.int .i64 b.k)).set 6 (.int .i64 b.val)).set 7 (.string b.tx)).set 8 (.slice b.ao b.n b.cap)).set 9 (.string op)).set 10 (.int .i64 c.k)).set 11 (.int .i64 c.val)).set 12 (.string c.tx)).set 13 (.slice c.ao c.n c.cap))
  have RS:=(ae cg).only RO (by omega) (by omega) (by unfold aP;rw[ae bf];simp)
  have RK:=(ae di).eI RO (Nat.le_refl _)
  have RL:=(RO.block lb (by omega)).trans (ae dy)
  refine bodyPost_ret (v:= .tuple #[.agg #[.int .i64 a.k,.int .i64 a.val,.string a.tx,.slice a.ao a.n a.cap,.string sg,.int .i64 b.k,.int .i64 b.val,.string b.tx,.slice b.ao b.n b.cap,.string op,.int .i64 c.k,.int .i64 c.val,.string c.tx,.slice c.ao c.n c.cap],.bool false]) (by simp[results,Tryz.results80,go_sem,r]) rfl ?_
  exact⟨a,b,c,sg,op,l',ns',nv',rfl,RS,ae HP,RK⟩
theorem BM (w:World) (rb lb:Nat) (s:ByteArray) (l:List Za.aj) (ns:List ByteArray) (nv iv:Value) (e0:Int) (tests goals:Bool) (h:St w rb s l ns nv e0) (hb:w.heap[lb]?=some (.cells #[iv,.bool tests,.bool goals] 82 (0,0))) (hne:lb≠rb) (cf:lb≠0) (t:Za.Tm) (l1:List Za.aj) (hT:Za.term 8 l= .inr (t,l1)) (dB:t.kind=3) (aW:Za.bu l1=false) (heq:Za.sees l1 [61]=false) (has:Za.sees l1 [58,61]=true) (x:Za.aH) (l2:List Za.aj) (hR:Za.assignment t goals l1= .inr (x,l2)):
 Calls Tryz.prog 80 #[.pointer (some ⟨rb,0,none⟩),.pointer (some ⟨lb,0,none⟩)] w fun e w'=>nG rb lb iv s ns (.inr ((x,false,goals),l2)) w e w':=by
 have hlt:=h.lt
 have eR:lb<w.heap.size:=ag hb
 obtain⟨hS,hK,hB0,hB1⟩:=ez h hb
 unfold boxZ at hS hK hB0 hB1
 have HS:=af hS
 have HK:=af hK
 have aY:=af hB0
 have bD:=af hB1
 have I:=af (fun W (hW:St W rb s l ns nv e0)=>term_all 8 W rb s l ns nv e0 1 rfl hW)
 rw[hT]at I
 have fA:(Za.hd l1).kind≠0:=by rw[Za.cU has];omega
 have fL:(ak t.kind == 1)=true:=by rw[dB];rfl
 clear dB
 have tM:=af fA
 clear hS hK hB0 hB1 h hb fA
 go_enter Tryz.func80,Tryz.ntmps80
 go_wp2_with fail
 refine(ae I _ (ae HS)).mono ?_
 rintro e w1 ⟨val,tx,ao,cap,ns1,nv1,e1,rfl,bj,hs,hk⟩
 have fB:=af hs
 have bH:=af (hs.below ((Below.refl _ _).alloc (Nat.le_refl _) (.cells #[.int .i64 (ak t.kind),.int .i64 val,.string tx,.slice ao t.args.length cap] 76)))
 have fR:=af ((ae HK).trans hk)
 have hb0:=aq hk (ae aY) (by simp;omega)
 have hbl:=aq hk (ae bD) (by simpa using hne)
 have hz0:w.heap.size<w1.heap.size:=ag hb0
 have hzl:lb<w1.heap.size:=ag hbl
 have eN:=af hb0
 have dD:=af hbl
 have q:=ah hbl
 have y:=ay hbl
 have fW:=af bj
 clear hs hk hb0 hbl bj
 go_wp2_with fail
 refine(bK _ rb s l1 ns1 nv1 e1 (ae bH)).mono ?_
 rintro e w2 ⟨rfl,hw⟩
 rw[hw]
 clear hw w2
 rw[aW]
 go_wp2_with fail
 refine(bG _ rb s l1 ns1 nv1 e1 _ (ae bH)).mono ?_
 rintro e w2 ⟨rfl,hw⟩
 rw[hw]
 simp only[ByteArray.toList_mk]
 clear hw w2
 rw[heq]
 go_wp2_with fail
 refine(bG _ rb s l1 ns1 nv1 e1 _ (ae bH)).mono ?_
 rintro e w2 ⟨rfl,hw⟩
 rw[hw]
 simp only[ByteArray.toList_mk]
 clear hw w2
 rw[has]
 go_wp2_with fail
 have nH:Hid (St (w1.setCell ⟨lb,1,none⟩ (.bool false)) rb s l1 ns1 nv1 e1):=(ae fB).only ((aC.refl lb _).set 1 (.bool false)) hne cf (by unfold aP;rw[ae dD];simp)
 have HW:Hid (St ((w1.setCell ⟨lb,1,none⟩ (.bool false)).alloc (.cells #[.int .i64 (ak t.kind),.int .i64 val,.string tx,.slice ao t.args.length cap] 76)).drew rb s l1 ns1 nv1 e1):=(ae nH).below ((Below.refl _ _).alloc (Nat.le_refl _) _).drew
 have kM:Hid (KA rb [rb,lb] w ((w1.setCell ⟨lb,1,none⟩ (.bool false)).alloc (.cells #[.int .i64 (ak t.kind),.int .i64 val,.string tx,.slice ao t.args.length cap] 76)).drew):=(((ae fR).wide.fG (by simp) _).alloc _).drew
 have pj:Hid (((w1.setCell ⟨lb,1,none⟩ (.bool false)).alloc (.cells #[.int .i64 (ak t.kind),.int .i64 val,.string tx,.slice ao t.args.length cap] 76)).drew.heap[w.heap.size]?=some (.cells #[.int .i64 0,.int .i64 0,.string ⟨#[]⟩,.slice none 0 0,.string ⟨#[]⟩,.int .i64 0,.int .i64 0,.string ⟨#[]⟩,.slice none 0 0,.string ⟨#[]⟩,.int .i64 0,.int .i64 0,.string ⟨#[]⟩,.slice none 0 0] 151 (0,0))):=aB (aG (ae eN) (by omega) _ _) _
 have pn:Hid (((w1.setCell ⟨lb,1,none⟩ (.bool false)).alloc (.cells #[.int .i64 (ak t.kind),.int .i64 val,.string tx,.slice ao t.args.length cap] 76)).drew.heap[lb]?=some (.cells #[iv,.bool false,.bool goals] 82 (0,0))):=aB (aA (ae dD) 1 (.bool false)) _
 have BI:Hid (aN w1 ((w1.setCell ⟨lb,1,none⟩ (.bool false)).alloc (.cells #[.int .i64 (ak t.kind),.int .i64 val,.string tx,.slice ao t.args.length cap] 76)).drew):=(aN.only ((aC.refl lb w1).set 1 (.bool false)) (by unfold aP;rw[ae dD];simp)).trans (aN.below ((Below.refl _ _).alloc (Nat.le_refl _) _).drew)
 have SD:=af (fun W (hW:St W rb s l1 ns1 nv1 e1)=>qP W rb s l1 ns1 nv1 e1 ⟨ak t.kind,val,tx,ao,t.args.length,cap⟩ t goals hW (ae tM))
 rw[hR]at SD
 clear fB bH fR eN nH hR
 go_region_with (go_at_call 135;refine(ae SD _ (ae HW)).mono ?_;rintro e w2 ⟨a,b,c,sg,op,ns',nv',e',rfl,⟨ha,n7,hrt⟩,hs2,hk2⟩;have Ic:=af hrt;have xl:=af n7;have Ie:=af ha;clear hrt n7 ha;have BJ:=af ((ae BI).trans (aN.ka (ae HW) hk2));have cg:=af hs2;have di:=af ((ae kM).trans hk2.wide);have hb2:=aq hk2 (ae pj) (by simp;omega);have dy:=af (aq hk2 (ae pn) (by simpa using hne));have r:=ah hb2;have x:=ay hb2;have bf:=af hb2;clear hs2 hk2 hb2)
 all_goals
  go_wp2_with fail
  have RO:=(((((((((((((((aC.refl w.heap.size w2).set 0 (.int .i64 a.k)).set 1 (.int .i64 a.val)).set 2 (.string a.tx)).set 3 (.slice a.ao a.n a.cap)).set 4 (.string sg)).set 5 (.int .i64 b.k)).set 6 (.int .i64 b.val)).set 7 (.string b.tx)).set 8 (.slice b.ao b.n b.cap)).set 9 (.string op)).set 10 (.int .i64 c.k)).set 11 (.int .i64 c.val)).set 12 (.string c.tx)).set 13 (.slice c.ao c.n c.cap))
  have RS:=(ae cg).only RO (by omega) (by omega) (by unfold aP;rw[ae bf];simp)
  have RP:=aN.only RO (by unfold aP;rw[ae bf];simp)
  have RK:=(ae di).eI RO (Nat.le_refl _)
  have RL:=(RO.block lb (by omega)).trans (ae dy)
  refine bodyPost_ret (v:= .tuple #[.agg #[.int .i64 a.k,.int .i64 a.val,.string a.tx,.slice a.ao a.n a.cap,.string sg,.int .i64 b.k,.int .i64 b.val,.string b.tx,.slice b.ao b.n b.cap,.string op,.int .i64 c.k,.int .i64 c.val,.string c.tx,.slice c.ao c.n c.cap],.bool true]) (by simp[results,Tryz.results80,go_sem,r]) rfl ?_
  exact⟨a,b,c,sg,op,ns',nv',e',rfl,o9.of (ae fW) (ae Ie) (ae xl) (ae Ic) (ae BJ) RP,RS,RL,RK⟩
end Go.Proofs.YthfjnfcekeknlaaGreatDoor
