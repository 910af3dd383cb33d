import Derived.Test.YthfjnfcekeknlaaGreatDoorMe13
import Derived.Test.YthfjnfcekeknlaaGreatDoorMe19
set_option maxHeartbeats 8000000
set_option maxRecDepth 100000
namespace Go.Proofs.YthfjnfcekeknlaaGreatDoor
open Go.RowKit
theorem DM (w:World) (rb lb:Nat) (s:ByteArray) (l:List Zc.aj) (ns:List ByteArray) (nv iv:Value) (e0:Int) (tests goals:Bool) (h:St w rb s l ns nv e0) (hb:w.heap[lb]?=some (.cells #[iv,.bool tests,.bool goals] 82 (0,0))) (hne:lb≠rb) (cI:lb≠0) (t:Zc.Tm) (l1:List Zc.aj) (hT:Zc.term 8 l= .inr (t,l1)) (dB:t.kind=3) (aV:Zc.bF l1=false) (heq:Zc.sees l1 [61]=false) (has:Zc.sees l1 [58,61]=true) (er ps:Nat) (hR:Zc.assignment t goals l1= .inl (er,ps)):
 Calls Tryz.prog 80 #[.pointer (some ⟨rb,0,none⟩),.pointer (some ⟨lb,0,none⟩)] w fun e w'=>nM rb lb iv s ns (.inl (er,ps)) w e w':=by
 have hlt:=h.lt
 have dX:lb<w.heap.size:=ag hb
 obtain⟨hS,hK,hB0,hB1⟩:=ej h hb
 unfold boxZ at hS hK hB0 hB1
 have HS:=af hS
 have HK:=af hK
 have bf:=af hB0
 have ba:=af hB1
 have I:=af (fun W (hW:St W rb s l ns nv e0)=>term_all 8 W rb s l ns nv e0 1 rfl hW)
 rw[hT]at I
 have gp:(Zc.hd l1).kind≠0:=by rw[Zc.cV has];omega
 have fL:(ak t.kind == 1)=true:=by rw[dB];rfl
 clear dB
 have tT:=af gp
 clear hS hK hB0 hB1 h hb gp
 go_enter Tryz.func80,Tryz.ntmps80
 go_wp2_with fail
 refine(ae I _ (ae HS)).mono ?_
 rintro e w1 ⟨val,tx,ao,cap,ns1,nv1,e1,rfl,bj,hs,hk⟩
 have fC:=af hs
 have bE:=af (hs.below ((Below.refl _ _).alloc (Nat.le_refl _) (.cells #[.int .i64 (ak t.kind),.int .i64 val,.string tx,.slice ao t.args.length cap] 76)))
 have fT:=af ((ae HK).trans hk)
 have hb0:=aq hk (ae bf) (by simp;omega)
 have hbl:=aq hk (ae ba) (by simpa using hne)
 have hz0:w.heap.size<w1.heap.size:=ag hb0
 have hzl:lb<w1.heap.size:=ag hbl
 have eM:=af hb0
 have dD:=af hbl
 have q:=ah hbl
 have y:=ay hbl
 clear hs hk hb0 hbl bj
 go_wp2_with fail
 refine(bI _ rb s l1 ns1 nv1 e1 (ae bE)).mono ?_
 rintro e w2 ⟨rfl,hw⟩
 rw[hw]
 clear hw w2
 rw[aV]
 go_wp2_with fail
 refine(bC _ rb s l1 ns1 nv1 e1 _ (ae bE)).mono ?_
 rintro e w2 ⟨rfl,hw⟩
 rw[hw]
 simp only[ByteArray.toList_mk]
 clear hw w2
 rw[heq]
 go_wp2_with fail
 refine(bC _ rb s l1 ns1 nv1 e1 _ (ae bE)).mono ?_
 rintro e w2 ⟨rfl,hw⟩
 rw[hw]
 simp only[ByteArray.toList_mk]
 clear hw w2
 rw[has]
 go_wp2_with fail
 have nN:Hid (St (w1.setCell ⟨lb,1,none⟩ (.bool false)) rb s l1 ns1 nv1 e1):=(ae fC).only ((aD.refl lb _).set 1 (.bool false)) hne cI (by unfold aP;rw[ae dD];simp)
 have HW:Hid (St ((w1.setCell ⟨lb,1,none⟩ (.bool false)).alloc (.cells #[.int .i64 (ak t.kind),.int .i64 val,.string tx,.slice ao t.args.length cap] 76)).drew rb s l1 ns1 nv1 e1):=(ae nN).below ((Below.refl _ _).alloc (Nat.le_refl _) _).drew
 have kU:Hid (KA rb [rb,lb] w ((w1.setCell ⟨lb,1,none⟩ (.bool false)).alloc (.cells #[.int .i64 (ak t.kind),.int .i64 val,.string tx,.slice ao t.args.length cap] 76)).drew):=(((ae fT).wide.fI (by simp) _).alloc _).drew
 have pn:Hid (((w1.setCell ⟨lb,1,none⟩ (.bool false)).alloc (.cells #[.int .i64 (ak t.kind),.int .i64 val,.string tx,.slice ao t.args.length cap] 76)).drew.heap[w.heap.size]?=some (.cells #[.int .i64 0,.int .i64 0,.string ⟨#[]⟩,.slice none 0 0,.string ⟨#[]⟩,.int .i64 0,.int .i64 0,.string ⟨#[]⟩,.slice none 0 0,.string ⟨#[]⟩,.int .i64 0,.int .i64 0,.string ⟨#[]⟩,.slice none 0 0] 151 (0,0))):=aB (aG (ae eM) (by omega) _ _) _
 have pq:Hid (((w1.setCell ⟨lb,1,none⟩ (.bool false)).alloc (.cells #[.int .i64 (ak t.kind),.int .i64 val,.string tx,.slice ao t.args.length cap] 76)).drew.heap[lb]?=some (.cells #[iv,.bool false,.bool goals] 82 (0,0))):=aB (aA (ae dD) 1 (.bool false)) _
 have SD:=af (fun W (hW:St W rb s l1 ns1 nv1 e1)=>qZ W rb s l1 ns1 nv1 e1 ⟨ak t.kind,val,tx,ao,t.args.length,cap⟩ t goals hW (ae tT))
 rw[hR]at SD
 clear fC bE fT eM nN hR
 go_region_with (go_at_call 135;refine(ae SD _ (ae HW)).mono ?_;rintro e w2 ⟨a,b,c,sg,op,l',ns',nv',rfl,hs2,cm,hk2⟩;have HP:=af cm;clear cm;have bZ:=af hs2;have dh:=af ((ae kU).trans hk2.wide);have hb2:=aq hk2 (ae pn) (by simp;omega);have dx:=af (aq hk2 (ae pq) (by simpa using hne));have r:=ah hb2;have x:=ay hb2;have aX:=af hb2;clear hs2 hk2 hb2)
 all_goals
  go_wp2_with fail
  have RO:=(((((((((((((((aD.refl w.heap.size w2).set 0 (.int .i64 a.k)).set 1 (.int .i64 a.val)).set 2 (.string a.tx)).set 3 (.slice a.ao a.n a.cap)).set 4 (.string sg)).set 5 (.int .i64 b.k)).set 6 (.int .i64 b.val)).set 7 (.string b.tx)).set 8 (.slice b.ao b.n b.cap)).set 9 (.string op)).set 10 (.int .i64 c.k)).set 11 (.int .i64 c.val)).set 12 (.string c.tx)).set 13 (.slice c.ao c.n c.cap))
  have RS:=(ae bZ).only RO (by omega) (by omega) (by unfold aP;rw[ae aX];simp)
  have RK:=(ae dh).eI RO (Nat.le_refl _)
  have RL:=(RO.block lb (by omega)).trans (ae dx)
  refine bodyPost_ret (v:= .tuple #[.agg #[.int .i64 a.k,.int .i64 a.val,.string a.tx,.slice a.ao a.n a.cap,.string sg,.int .i64 b.k,.int .i64 b.val,.string b.tx,.slice b.ao b.n b.cap,.string op,.int .i64 c.k,.int .i64 c.val,.string c.tx,.slice c.ao c.n c.cap],.bool false]) (by simp[results,Tryz.results80,go_sem,r]) rfl ?_
  exact⟨a,b,c,sg,op,l',ns',nv',rfl,RS,ae HP,RK⟩
theorem B6 (w:World) (rb lb:Nat) (s:ByteArray) (l:List Zc.aj) (ns:List ByteArray) (nv iv:Value) (e0:Int) (tests goals:Bool) (h:St w rb s l ns nv e0) (hb:w.heap[lb]?=some (.cells #[iv,.bool tests,.bool goals] 82 (0,0))) (hne:lb≠rb) (cI:lb≠0) (t:Zc.Tm) (l1:List Zc.aj) (hT:Zc.term 8 l= .inr (t,l1)) (dB:t.kind=3) (aV:Zc.bF l1=false) (heq:Zc.sees l1 [61]=false) (has:Zc.sees l1 [58,61]=true) (x:Zc.aH) (l2:List Zc.aj) (hR:Zc.assignment t goals l1= .inr (x,l2)):
 Calls Tryz.prog 80 #[.pointer (some ⟨rb,0,none⟩),.pointer (some ⟨lb,0,none⟩)] w fun e w'=>nM rb lb iv s ns (.inr ((x,false,goals),l2)) w e w':=by
 have hlt:=h.lt
 have dX:lb<w.heap.size:=ag hb
 obtain⟨hS,hK,hB0,hB1⟩:=ej h hb
 unfold boxZ at hS hK hB0 hB1
 have HS:=af hS
 have HK:=af hK
 have bf:=af hB0
 have ba:=af hB1
 have I:=af (fun W (hW:St W rb s l ns nv e0)=>term_all 8 W rb s l ns nv e0 1 rfl hW)
 rw[hT]at I
 have gp:(Zc.hd l1).kind≠0:=by rw[Zc.cV has];omega
 have fL:(ak t.kind == 1)=true:=by rw[dB];rfl
 clear dB
 have tT:=af gp
 clear hS hK hB0 hB1 h hb gp
 go_enter Tryz.func80,Tryz.ntmps80
 go_wp2_with fail
 refine(ae I _ (ae HS)).mono ?_
 rintro e w1 ⟨val,tx,ao,cap,ns1,nv1,e1,rfl,bj,hs,hk⟩
 have fC:=af hs
 have bE:=af (hs.below ((Below.refl _ _).alloc (Nat.le_refl _) (.cells #[.int .i64 (ak t.kind),.int .i64 val,.string tx,.slice ao t.args.length cap] 76)))
 have fT:=af ((ae HK).trans hk)
 have hb0:=aq hk (ae bf) (by simp;omega)
 have hbl:=aq hk (ae ba) (by simpa using hne)
 have hz0:w.heap.size<w1.heap.size:=ag hb0
 have hzl:lb<w1.heap.size:=ag hbl
 have eM:=af hb0
 have dD:=af hbl
 have q:=ah hbl
 have y:=ay hbl
 have fZ:=af bj
 clear hs hk hb0 hbl bj
 go_wp2_with fail
 refine(bI _ rb s l1 ns1 nv1 e1 (ae bE)).mono ?_
 rintro e w2 ⟨rfl,hw⟩
 rw[hw]
 clear hw w2
 rw[aV]
 go_wp2_with fail
 refine(bC _ rb s l1 ns1 nv1 e1 _ (ae bE)).mono ?_
 rintro e w2 ⟨rfl,hw⟩
 rw[hw]
 simp only[ByteArray.toList_mk]
 clear hw w2
 rw[heq]
 go_wp2_with fail
 refine(bC _ rb s l1 ns1 nv1 e1 _ (ae bE)).mono ?_
 rintro e w2 ⟨rfl,hw⟩
 rw[hw]
 simp only[ByteArray.toList_mk]
 clear hw w2
 rw[has]
 go_wp2_with fail
 have nN:Hid (St (w1.setCell ⟨lb,1,none⟩ (.bool false)) rb s l1 ns1 nv1 e1):=(ae fC).only ((aD.refl lb _).set 1 (.bool false)) hne cI (by unfold aP;rw[ae dD];simp)
 have HW:Hid (St ((w1.setCell ⟨lb,1,none⟩ (.bool false)).alloc (.cells #[.int .i64 (ak t.kind),.int .i64 val,.string tx,.slice ao t.args.length cap] 76)).drew rb s l1 ns1 nv1 e1):=(ae nN).below ((Below.refl _ _).alloc (Nat.le_refl _) _).drew
 have kU:Hid (KA rb [rb,lb] w ((w1.setCell ⟨lb,1,none⟩ (.bool false)).alloc (.cells #[.int .i64 (ak t.kind),.int .i64 val,.string tx,.slice ao t.args.length cap] 76)).drew):=(((ae fT).wide.fI (by simp) _).alloc _).drew
 have pn:Hid (((w1.setCell ⟨lb,1,none⟩ (.bool false)).alloc (.cells #[.int .i64 (ak t.kind),.int .i64 val,.string tx,.slice ao t.args.length cap] 76)).drew.heap[w.heap.size]?=some (.cells #[.int .i64 0,.int .i64 0,.string ⟨#[]⟩,.slice none 0 0,.string ⟨#[]⟩,.int .i64 0,.int .i64 0,.string ⟨#[]⟩,.slice none 0 0,.string ⟨#[]⟩,.int .i64 0,.int .i64 0,.string ⟨#[]⟩,.slice none 0 0] 151 (0,0))):=aB (aG (ae eM) (by omega) _ _) _
 have pq:Hid (((w1.setCell ⟨lb,1,none⟩ (.bool false)).alloc (.cells #[.int .i64 (ak t.kind),.int .i64 val,.string tx,.slice ao t.args.length cap] 76)).drew.heap[lb]?=some (.cells #[iv,.bool false,.bool goals] 82 (0,0))):=aB (aA (ae dD) 1 (.bool false)) _
 have B2:Hid (aN w1 ((w1.setCell ⟨lb,1,none⟩ (.bool false)).alloc (.cells #[.int .i64 (ak t.kind),.int .i64 val,.string tx,.slice ao t.args.length cap] 76)).drew):=(aN.only ((aD.refl lb w1).set 1 (.bool false)) (by unfold aP;rw[ae dD];simp)).trans (aN.below ((Below.refl _ _).alloc (Nat.le_refl _) _).drew)
 have SD:=af (fun W (hW:St W rb s l1 ns1 nv1 e1)=>qZ W rb s l1 ns1 nv1 e1 ⟨ak t.kind,val,tx,ao,t.args.length,cap⟩ t goals hW (ae tT))
 rw[hR]at SD
 clear fC bE fT eM nN hR
 go_region_with (go_at_call 135;refine(ae SD _ (ae HW)).mono ?_;rintro e w2 ⟨a,b,c,sg,op,ns',nv',e',rfl,⟨ha,oh,hrt⟩,hs2,hk2⟩;have I5:=af hrt;have xD:=af oh;have I6:=af ha;clear hrt oh ha;have B3:=af ((ae B2).trans (aN.ka (ae HW) hk2));have bZ:=af hs2;have dh:=af ((ae kU).trans hk2.wide);have hb2:=aq hk2 (ae pn) (by simp;omega);have dx:=af (aq hk2 (ae pq) (by simpa using hne));have r:=ah hb2;have x:=ay hb2;have aX:=af hb2;clear hs2 hk2 hb2)
 all_goals
  go_wp2_with fail
  have RO:=(((((((((((((((aD.refl w.heap.size w2).set 0 (.int .i64 a.k)).set 1 (.int .i64 a.val)).set 2 (.string a.tx)).set 3 (.slice a.ao a.n a.cap)).set 4 (.string sg)).set 5 (.int .i64 b.k)).set 6 (.int .i64 b.val)).set 7 (.string b.tx)).set 8 (.slice b.ao b.n b.cap)).set 9 (.string op)).set 10 (.int .i64 c.k)).set 11 (.int .i64 c.val)).set 12 (.string c.tx)).set 13 (.slice c.ao c.n c.cap))
  have RS:=(ae bZ).only RO (by omega) (by omega) (by unfold aP;rw[ae aX];simp)
  have RP:=aN.only RO (by unfold aP;rw[ae aX];simp)
  have RK:=(ae dh).eI RO (Nat.le_refl _)
  have RL:=(RO.block lb (by omega)).trans (ae dx)
  refine bodyPost_ret (v:= .tuple #[.agg #[.int .i64 a.k,.int .i64 a.val,.string a.tx,.slice a.ao a.n a.cap,.string sg,.int .i64 b.k,.int .i64 b.val,.string b.tx,.slice b.ao b.n b.cap,.string op,.int .i64 c.k,.int .i64 c.val,.string c.tx,.slice c.ao c.n c.cap],.bool true]) (by simp[results,Tryz.results80,go_sem,r]) rfl ?_
  exact⟨a,b,c,sg,op,ns',nv',e',rfl,pj.of (ae fZ) (ae I6) (ae xD) (ae I5) (ae B3) RP,RS,RL,RK⟩
end Go.Proofs.YthfjnfcekeknlaaGreatDoor
