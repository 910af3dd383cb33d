import Derived.Test.YthfjnfcekeknlaaGreatDoorSt12
set_option maxHeartbeats 8000000
set_option maxRecDepth 100000
namespace Go.Proofs.YthfjnfcekeknlaaGreatDoor
open Go.RowKit
theorem Fe (w:World) (rb lb:Nat) (s:ByteArray) (l:List Za.Tok) (ns:List ByteArray) (nv iv:Value) (e0:Int) (tests goals:Bool) (h:St w rb s l ns nv e0) (hb:w.heap[lb]?=some (.cells #[iv,.bool tests,.bool goals] 82 (0,0))) (hne:lb≠rb) (hn0:lb≠0) (t:Za.Tm) (l1:List Za.Tok) (hT:Za.term 8 l= .inr (t,l1)) (aU:Za.br l1=false) (heq:Za.sees l1 [61]=true) (er ps:Nat) (hR:Za.sides t goals l1= .inl (er,ps)):
 Calls Tryz.prog 80 #[.pointer (some ⟨rb,0,none⟩),.pointer (some ⟨lb,0,none⟩)] w fun e w'=>nk rb lb iv s ns (.inl (er,ps)) w e w':=by
 have hlt:=h.lt
 have hlb:lb<w.heap.size:=af hb
 obtain⟨hS,hK,hB0,hB1⟩:=dO h hb
 unfold boxZ at hS hK hB0 hB1
 have HS:=hide hS
 have HK:=hide hK
 have aT:=hide hB0
 have aZ:=hide hB1
 have I:=hide (fun W (hW:St W rb s l ns nv e0)=>term_all 8 W rb s l ns nv e0 1 rfl hW)
 rw[hT]at I
 have fp:(Za.hd l1).kind≠0:=by rw[Za.cK heq];omega
 have sP:=hide fp
 clear hS hK hB0 hB1 h hb fp
 go_enter Tryz.func80,Tryz.ntmps80
 go_wp2_with fail
 refine(ae I _ (ae HS)).mono ?_
 rintro e w1 ⟨val,tx,ao,cap,ns1,nv1,e1,rfl,htx,hs,hk⟩
 have ft:=hide hs
 have bp:=hide (hs.below ((Below.refl _ _).alloc (Nat.le_refl _) (.cells #[.int .i64 (ak t.kind),.int .i64 val,.string tx,.slice ao t.args.length cap] 76)))
 have fL:=hide ((ae HK).trans hk)
 have hb0:=ai hk (ae aT) (by simp;omega)
 have hbl:=ai hk (ae aZ) (by simpa using hne)
 have hz0:w.heap.size<w1.heap.size:=af hb0
 have hzl:lb<w1.heap.size:=af hbl
 have dG:=hide hb0
 have df:=hide hbl
 have q:=ag hbl
 have y:=aq hbl
 clear hs hk hb0 hbl htx
 go_wp2_with fail
 refine(bC _ rb s l1 ns1 nv1 e1 (ae bp)).mono ?_
 rintro e w2 ⟨rfl,hw⟩
 rw[hw]
 clear hw w2
 rw[aU]
 go_wp2_with fail
 refine(bl _ rb s l1 ns1 nv1 e1 _ (ae bp)).mono ?_
 rintro e w2 ⟨rfl,hw⟩
 rw[hw]
 simp only[ByteArray.toList_mk]
 clear hw w2
 rw[heq]
 go_wp2_with fail
 have np:Hid (St (w1.setCell ⟨lb,1,none⟩ (.bool false)) rb s l1 ns1 nv1 e1):=(ae ft).only ((aA.refl lb _).set 1 (.bool false)) hne hn0 (by unfold aL;rw[ae df];simp)
 have HW:Hid (St ((w1.setCell ⟨lb,1,none⟩ (.bool false)).alloc (.cells #[.int .i64 (ak t.kind),.int .i64 val,.string tx,.slice ao t.args.length cap] 76)).drew rb s l1 ns1 nv1 e1):=(ae np).below ((Below.refl _ _).alloc (Nat.le_refl _) _).drew
 have kq:Hid (KA rb [rb,lb] w ((w1.setCell ⟨lb,1,none⟩ (.bool false)).alloc (.cells #[.int .i64 (ak t.kind),.int .i64 val,.string tx,.slice ao t.args.length cap] 76)).drew):=(((ae fL).wide.fB (by simp) _).alloc _).drew
 have oU:Hid (((w1.setCell ⟨lb,1,none⟩ (.bool false)).alloc (.cells #[.int .i64 (ak t.kind),.int .i64 val,.string tx,.slice ao t.args.length cap] 76)).drew.heap[w.heap.size]?=some (.cells #[.int .i64 0,.int .i64 0,.string ⟨#[]⟩,.slice none 0 0,.string ⟨#[]⟩,.int .i64 0,.int .i64 0,.string ⟨#[]⟩,.slice none 0 0,.string ⟨#[]⟩,.int .i64 0,.int .i64 0,.string ⟨#[]⟩,.slice none 0 0] 151 (0,0))):=aw (aB (ae dG) (by omega) _ _) _
 have oV:Hid (((w1.setCell ⟨lb,1,none⟩ (.bool false)).alloc (.cells #[.int .i64 (ak t.kind),.int .i64 val,.string tx,.slice ao t.args.length cap] 76)).drew.heap[lb]?=some (.cells #[iv,.bool false,.bool goals] 82 (0,0))):=aw (au (ae df) 1 (.bool false)) _
 have SD:=hide (fun W (hW:St W rb s l1 ns1 nv1 e1)=>pN W rb s l1 ns1 nv1 e1 ⟨ak t.kind,val,tx,ao,t.args.length,cap⟩ t goals hW (ae sP))
 rw[hR]at SD
 clear ft bp fL dG np hR
 go_region_with (go_at_call 134;refine(ae SD _ (ae HW)).mono ?_;rintro e w2 ⟨a,b,c,sg,op,l',ns',nv',rfl,hs2,hpos,hk2⟩;have HP:=hide hpos;clear hpos;have bV:=hide hs2;have cQ:=hide ((ae kq).trans hk2.wide);have hb2:=ai hk2 (ae oU) (by simp;omega);have cX:=hide (ai hk2 (ae oV) (by simpa using hne));have r:=ag hb2;have x:=aq hb2;have aX:=hide hb2;clear hs2 hk2 hb2)
 all_goals
  go_wp2_with fail
  have RO:=(((((((((((((((aA.refl w.heap.size w2).set 0 (.int .i64 a.k)).set 1 (.int .i64 a.val)).set 2 (.string a.tx)).set 3 (.slice a.ao a.n a.cap)).set 4 (.string sg)).set 5 (.int .i64 b.k)).set 6 (.int .i64 b.val)).set 7 (.string b.tx)).set 8 (.slice b.ao b.n b.cap)).set 9 (.string op)).set 10 (.int .i64 c.k)).set 11 (.int .i64 c.val)).set 12 (.string c.tx)).set 13 (.slice c.ao c.n c.cap))
  have RS:=(ae bV).only RO (by omega) (by omega) (by unfold aL;rw[ae aX];simp)
  have RK:=(ae cQ).dS RO (Nat.le_refl _)
  have RL:=(RO.block lb (by omega)).trans (ae cX)
  refine bodyPost_ret (v:= .tuple #[.agg #[.int .i64 a.k,.int .i64 a.val,.string a.tx,.slice a.ao a.n a.cap,.string sg,.int .i64 b.k,.int .i64 b.val,.string b.tx,.slice b.ao b.n b.cap,.string op,.int .i64 c.k,.int .i64 c.val,.string c.tx,.slice c.ao c.n c.cap],.bool false]) (by simp[results,Tryz.results80,go_sem,r]) rfl ?_
  exact⟨a,b,c,sg,op,l',ns',nv',rfl,RS,ae HP,RK⟩
theorem Dr (w:World) (rb lb:Nat) (s:ByteArray) (l:List Za.Tok) (ns:List ByteArray) (nv iv:Value) (e0:Int) (tests goals:Bool) (h:St w rb s l ns nv e0) (hb:w.heap[lb]?=some (.cells #[iv,.bool tests,.bool goals] 82 (0,0))) (hne:lb≠rb) (hn0:lb≠0) (t:Za.Tm) (l1:List Za.Tok) (hT:Za.term 8 l= .inr (t,l1)) (aU:Za.br l1=false) (heq:Za.sees l1 [61]=true) (x:Za.aC) (l2:List Za.Tok) (hR:Za.sides t goals l1= .inr (x,l2)):
 Calls Tryz.prog 80 #[.pointer (some ⟨rb,0,none⟩),.pointer (some ⟨lb,0,none⟩)] w fun e w'=>nk rb lb iv s ns (.inr ((x,false,goals),l2)) w e w':=by
 have hlt:=h.lt
 have hlb:lb<w.heap.size:=af hb
 obtain⟨hS,hK,hB0,hB1⟩:=dO h hb
 unfold boxZ at hS hK hB0 hB1
 have HS:=hide hS
 have HK:=hide hK
 have aT:=hide hB0
 have aZ:=hide hB1
 have I:=hide (fun W (hW:St W rb s l ns nv e0)=>term_all 8 W rb s l ns nv e0 1 rfl hW)
 rw[hT]at I
 have fp:(Za.hd l1).kind≠0:=by rw[Za.cK heq];omega
 have sP:=hide fp
 clear hS hK hB0 hB1 h hb fp
 go_enter Tryz.func80,Tryz.ntmps80
 go_wp2_with fail
 refine(ae I _ (ae HS)).mono ?_
 rintro e w1 ⟨val,tx,ao,cap,ns1,nv1,e1,rfl,htx,hs,hk⟩
 have ft:=hide hs
 have bp:=hide (hs.below ((Below.refl _ _).alloc (Nat.le_refl _) (.cells #[.int .i64 (ak t.kind),.int .i64 val,.string tx,.slice ao t.args.length cap] 76)))
 have fL:=hide ((ae HK).trans hk)
 have hb0:=ai hk (ae aT) (by simp;omega)
 have hbl:=ai hk (ae aZ) (by simpa using hne)
 have hz0:w.heap.size<w1.heap.size:=af hb0
 have hzl:lb<w1.heap.size:=af hbl
 have dG:=hide hb0
 have df:=hide hbl
 have q:=ag hbl
 have y:=aq hbl
 have fP:=hide htx
 clear hs hk hb0 hbl htx
 go_wp2_with fail
 refine(bC _ rb s l1 ns1 nv1 e1 (ae bp)).mono ?_
 rintro e w2 ⟨rfl,hw⟩
 rw[hw]
 clear hw w2
 rw[aU]
 go_wp2_with fail
 refine(bl _ rb s l1 ns1 nv1 e1 _ (ae bp)).mono ?_
 rintro e w2 ⟨rfl,hw⟩
 rw[hw]
 simp only[ByteArray.toList_mk]
 clear hw w2
 rw[heq]
 go_wp2_with fail
 have np:Hid (St (w1.setCell ⟨lb,1,none⟩ (.bool false)) rb s l1 ns1 nv1 e1):=(ae ft).only ((aA.refl lb _).set 1 (.bool false)) hne hn0 (by unfold aL;rw[ae df];simp)
 have HW:Hid (St ((w1.setCell ⟨lb,1,none⟩ (.bool false)).alloc (.cells #[.int .i64 (ak t.kind),.int .i64 val,.string tx,.slice ao t.args.length cap] 76)).drew rb s l1 ns1 nv1 e1):=(ae np).below ((Below.refl _ _).alloc (Nat.le_refl _) _).drew
 have kq:Hid (KA rb [rb,lb] w ((w1.setCell ⟨lb,1,none⟩ (.bool false)).alloc (.cells #[.int .i64 (ak t.kind),.int .i64 val,.string tx,.slice ao t.args.length cap] 76)).drew):=(((ae fL).wide.fB (by simp) _).alloc _).drew
 have oU:Hid (((w1.setCell ⟨lb,1,none⟩ (.bool false)).alloc (.cells #[.int .i64 (ak t.kind),.int .i64 val,.string tx,.slice ao t.args.length cap] 76)).drew.heap[w.heap.size]?=some (.cells #[.int .i64 0,.int .i64 0,.string ⟨#[]⟩,.slice none 0 0,.string ⟨#[]⟩,.int .i64 0,.int .i64 0,.string ⟨#[]⟩,.slice none 0 0,.string ⟨#[]⟩,.int .i64 0,.int .i64 0,.string ⟨#[]⟩,.slice none 0 0] 151 (0,0))):=aw (aB (ae dG) (by omega) _ _) _
 have oV:Hid (((w1.setCell ⟨lb,1,none⟩ (.bool false)).alloc (.cells #[.int .i64 (ak t.kind),.int .i64 val,.string tx,.slice ao t.args.length cap] 76)).drew.heap[lb]?=some (.cells #[iv,.bool false,.bool goals] 82 (0,0))):=aw (au (ae df) 1 (.bool false)) _
 have Bz:Hid (aJ w1 ((w1.setCell ⟨lb,1,none⟩ (.bool false)).alloc (.cells #[.int .i64 (ak t.kind),.int .i64 val,.string tx,.slice ao t.args.length cap] 76)).drew):=(aJ.only ((aA.refl lb w1).set 1 (.bool false)) (by unfold aL;rw[ae df];simp)).trans (aJ.below ((Below.refl _ _).alloc (Nat.le_refl _) _).drew)
 have SD:=hide (fun W (hW:St W rb s l1 ns1 nv1 e1)=>pN W rb s l1 ns1 nv1 e1 ⟨ak t.kind,val,tx,ao,t.args.length,cap⟩ t goals hW (ae sP))
 rw[hR]at SD
 clear ft bp fL dG np hR
 go_region_with (go_at_call 134;refine(ae SD _ (ae HW)).mono ?_;rintro e w2 ⟨a,b,c,sg,op,ns',nv',e',rfl,⟨ha,hxl,hrt⟩,hs2,hk2⟩;have Ig:=hide hrt;have wT:=hide hxl;have Ih:=hide ha;clear hrt hxl ha;have BA:=hide ((ae Bz).trans (aJ.ka (ae HW) hk2));have bV:=hide hs2;have cQ:=hide ((ae kq).trans hk2.wide);have hb2:=ai hk2 (ae oU) (by simp;omega);have cX:=hide (ai hk2 (ae oV) (by simpa using hne));have r:=ag hb2;have x:=aq hb2;have aX:=hide hb2;clear hs2 hk2 hb2)
 all_goals
  go_wp2_with fail
  have RO:=(((((((((((((((aA.refl w.heap.size w2).set 0 (.int .i64 a.k)).set 1 (.int .i64 a.val)).set 2 (.string a.tx)).set 3 (.slice a.ao a.n a.cap)).set 4 (.string sg)).set 5 (.int .i64 b.k)).set 6 (.int .i64 b.val)).set 7 (.string b.tx)).set 8 (.slice b.ao b.n b.cap)).set 9 (.string op)).set 10 (.int .i64 c.k)).set 11 (.int .i64 c.val)).set 12 (.string c.tx)).set 13 (.slice c.ao c.n c.cap))
  have RS:=(ae bV).only RO (by omega) (by omega) (by unfold aL;rw[ae aX];simp)
  have RP:=aJ.only RO (by unfold aL;rw[ae aX];simp)
  have RK:=(ae cQ).dS RO (Nat.le_refl _)
  have RL:=(RO.block lb (by omega)).trans (ae cX)
  refine bodyPost_ret (v:= .tuple #[.agg #[.int .i64 a.k,.int .i64 a.val,.string a.tx,.slice a.ao a.n a.cap,.string sg,.int .i64 b.k,.int .i64 b.val,.string b.tx,.slice b.ao b.n b.cap,.string op,.int .i64 c.k,.int .i64 c.val,.string c.tx,.slice c.ao c.n c.cap],.bool true]) (by simp[results,Tryz.results80,go_sem,r]) rfl ?_
  exact⟨a,b,c,sg,op,ns',nv',e',rfl,oQ.of (ae fP) (ae Ih) (ae wT) (ae Ig) (ae BA) RP,RS,RL,RK⟩
theorem uB (w:World) (rb lb:Nat) (s:ByteArray) (l:List Za.Tok) (ns:List ByteArray) (nv iv:Value) (e0:Int) (h:St w rb s l ns nv e0) (hb:w.heap[lb]?=some (.cells #[iv,.bool false,.bool true] 82 (0,0))) (hne:lb≠rb) (hn0:lb≠0) (t:Za.Tm) (l1:List Za.Tok) (hkk:t.kind=2) (hT:Za.term 8 l= .inr (t,l1)) (aU:Za.br l1=false) (heq:Za.sees l1 [61]=false):
 Calls Tryz.prog 80 #[.pointer (some ⟨rb,0,none⟩),.pointer (some ⟨lb,0,none⟩)] w fun e w'=>nk rb lb iv s ns (.inr ((⟨t,[],none,[],none⟩,false,true),l1)) w e w':=by
 have hlt:=h.lt
 have hlb:lb<w.heap.size:=af hb
 obtain⟨hS,hK,hB0,hB1⟩:=dO h hb
 unfold boxZ at hS hK hB0 hB1
 have HS:=hide hS
 have HK:=hide hK
 have aT:=hide hB0
 have aZ:=hide hB1
 have I:=hide (fun W (hW:St W rb s l ns nv e0)=>term_all 8 W rb s l ns nv e0 1 rfl hW)
 rw[hT]at I
 clear hS hK hB0 hB1 h hb
 go_enter Tryz.func80,Tryz.ntmps80
 go_wp2_with fail
 refine(ae I _ (ae HS)).mono ?_
 have fE:ak t.kind=3:=by rw[hkk];rfl
 have jI:=hide hkk
 clear hkk
 rintro e w1 ⟨val,tx,ao,cap,ns1,nv1,e1,rfl,htx,hs,hk⟩
 rw[fE]
 have nR:=hide fE
 clear fE
 have fP:=hide htx
 clear htx
 have ft:=hide hs
 have bp:=hide (hs.below ((Below.refl _ _).alloc (Nat.le_refl _) (.cells #[.int .i64 3,.int .i64 val,.string tx,.slice ao t.args.length cap] 76)))
 have fL:=hide ((ae HK).trans hk)
 have hb0:=ai hk (ae aT) (by simp;omega)
 have hbl:=ai hk (ae aZ) (by simpa using hne)
 have hz0:w.heap.size<w1.heap.size:=af hb0
 have hzl:lb<w1.heap.size:=af hbl
 have dG:=hide hb0
 have r:=ag hb0
 have x:=aq hb0
 have df:=hide hbl
 have q:=ag hbl
 have y:=aq hbl
 clear hs hk hb0 hbl
 go_wp2_with fail
 refine(bC _ rb s l1 ns1 nv1 e1 (ae bp)).mono ?_
 rintro e w2 ⟨rfl,hw⟩
 rw[hw]
 clear hw w2
 rw[aU]
 go_wp2_with fail
 refine(bl _ rb s l1 ns1 nv1 e1 _ (ae bp)).mono ?_
 rintro e w2 ⟨rfl,hw⟩
 rw[hw]
 simp only[ByteArray.toList_mk]
 clear hw w2
 rw[heq]
 go_wp2_with fail
 have nS:Hid (St ((w1.setCell ⟨lb,1,none⟩ (.bool false)).alloc (.cells #[.int .i64 3,.int .i64 val,.string tx,.slice ao t.args.length cap] 76)) rb s l1 ns1 nv1 e1):=((ae ft).only ((aA.refl lb _).set 1 (.bool false)) hne hn0 (by unfold aL;rw[ae df];simp)).below ((Below.refl _ _).alloc (Nat.le_refl _) _)
 have cO:Hid (KA rb [rb,lb] w ((w1.setCell ⟨lb,1,none⟩ (.bool false)).alloc (.cells #[.int .i64 3,.int .i64 val,.string tx,.slice ao t.args.length cap] 76))):=((ae fL).wide.fB (by simp) _).alloc _
 have nH:Hid (((w1.setCell ⟨lb,1,none⟩ (.bool false)).alloc (.cells #[.int .i64 3,.int .i64 val,.string tx,.slice ao t.args.length cap] 76)).heap[lb]?=some (.cells #[iv,.bool false,.bool true] 82 (0,0))):=aw (au (ae df) 1 (.bool false)) _
 have cZ:Hid (((w1.setCell ⟨lb,1,none⟩ (.bool false)).alloc (.cells #[.int .i64 3,.int .i64 val,.string tx,.slice ao t.args.length cap] 76)).heap[w.heap.size]?=some (.cells #[.int .i64 0,.int .i64 0,.string ⟨#[]⟩,.slice none 0 0,.string ⟨#[]⟩,.int .i64 0,.int .i64 0,.string ⟨#[]⟩,.slice none 0 0,.string ⟨#[]⟩,.int .i64 0,.int .i64 0,.string ⟨#[]⟩,.slice none 0 0] 151 (0,0))):=aw (aB (ae dG) (by omega) _ _) _
 have PW:=(ae ft).only ((aA.refl lb _).set 1 (.bool false)) hne hn0 (by unfold aL;rw[ae df];simp)
 have RO:=(((((((((((((((aA.refl w.heap.size (w1.setCell ⟨lb,1,none⟩ (.bool false))).set 0 (.int .i64 3)).set 1 (.int .i64 val)).set 2 (.string tx)).set 3 (.slice ao t.args.length cap)).set 4 (.string ⟨#[]⟩)).set 5 (.int .i64 0)).set 6 (.int .i64 0)).set 7 (.string ⟨#[]⟩)).set 8 (.slice none 0 0)).set 9 (.string ⟨#[]⟩)).set 10 (.int .i64 0)).set 11 (.int .i64 0)).set 12 (.string ⟨#[]⟩)).set 13 (.slice none 0 0))
 have RS:=PW.only RO (by omega) (by omega) (by unfold aL;rw[aB (ae dG) (show w.heap.size≠lb by omega) 1 (.bool false)];simp)
 have RK:=((ae fL).wide (lb:=lb)).fB (p:=⟨lb,1,none⟩) (by simp) (.bool false) |>.dS RO (Nat.le_refl _)
 have RL:=(RO.block lb (by omega)).trans (au (ae df) 1 (.bool false))
 refine bodyPost_ret (v:= .tuple #[.agg #[.int .i64 3,.int .i64 val,.string tx,.slice ao t.args.length cap,.string ⟨#[]⟩,.int .i64 0,.int .i64 0,.string ⟨#[]⟩,.slice none 0 0,.string ⟨#[]⟩,.int .i64 0,.int .i64 0,.string ⟨#[]⟩,.slice none 0 0],.bool true]) (by simp[results,Tryz.results80,go_sem,hz0,r]) rfl ?_
 exact⟨⟨3,val,tx,ao,t.args.length,cap⟩,⟨0,0,⟨#[]⟩,none,0,0⟩,⟨0,0,⟨#[]⟩,none,0,0⟩,⟨#[]⟩,⟨#[]⟩,ns1,nv1,e1,rfl,(by have q:=oQ.plain (b:=⟨0,0,⟨#[]⟩,none,0,0⟩) (c:=⟨0,0,⟨#[]⟩,none,0,0⟩) (ae fP) (((aJ.only ((aA.refl lb w1).set 1 (.bool false)) (by unfold aL;rw[ae df];simp)).trans (aJ.only RO (by unfold aL;rw[aB (ae dG) (show w.heap.size≠lb by omega) 1 (.bool false)];simp))).trans (aJ.alloc _ (.cells #[.int .i64 3,.int .i64 val,.string tx,.slice ao t.args.length cap] 76)));rw[ae nR]at q;exact q),RS.below ((Below.refl _ _).alloc (Nat.le_refl _) _),aw RL _,RK.alloc _⟩
theorem uC (w:World) (rb lb:Nat) (s:ByteArray) (l:List Za.Tok) (ns:List ByteArray) (nv iv:Value) (e0:Int) (h:St w rb s l ns nv e0) (hb:w.heap[lb]?=some (.cells #[iv,.bool false,.bool false] 82 (0,0))) (hne:lb≠rb) (hn0:lb≠0) (t:Za.Tm) (l1:List Za.Tok) (hkk:t.kind=2) (hT:Za.term 8 l= .inr (t,l1)) (aU:Za.br l1=false) (heq:Za.sees l1 [61]=false):
 Calls Tryz.prog 80 #[.pointer (some ⟨rb,0,none⟩),.pointer (some ⟨lb,0,none⟩)] w fun e w'=>nk rb lb iv s ns (Za.bad 2 l1) w e w':=by
 have hlt:=h.lt
 have hlb:lb<w.heap.size:=af hb
 obtain⟨hS,hK,hB0,hB1⟩:=dO h hb
 unfold boxZ at hS hK hB0 hB1
 have HS:=hide hS
 have HK:=hide hK
 have aT:=hide hB0
 have aZ:=hide hB1
 have I:=hide (fun W (hW:St W rb s l ns nv e0)=>term_all 8 W rb s l ns nv e0 1 rfl hW)
 rw[hT]at I
 clear hS hK hB0 hB1 h hb
 go_enter Tryz.func80,Tryz.ntmps80
 go_wp2_with fail
 refine(ae I _ (ae HS)).mono ?_
 have fE:ak t.kind=3:=by rw[hkk];rfl
 have jI:=hide hkk
 clear hkk
 rintro e w1 ⟨val,tx,ao,cap,ns1,nv1,e1,rfl,htx,hs,hk⟩
 rw[fE]
 have nR:=hide fE
 clear fE
 have fP:=hide htx
 clear htx
 have ft:=hide hs
 have bp:=hide (hs.below ((Below.refl _ _).alloc (Nat.le_refl _) (.cells #[.int .i64 3,.int .i64 val,.string tx,.slice ao t.args.length cap] 76)))
 have fL:=hide ((ae HK).trans hk)
 have hb0:=ai hk (ae aT) (by simp;omega)
 have hbl:=ai hk (ae aZ) (by simpa using hne)
 have hz0:w.heap.size<w1.heap.size:=af hb0
 have hzl:lb<w1.heap.size:=af hbl
 have dG:=hide hb0
 have df:=hide hbl
 have q:=ag hbl
 have y:=aq hbl
 clear hs hk hb0 hbl
 go_wp2_with fail
 refine(bC _ rb s l1 ns1 nv1 e1 (ae bp)).mono ?_
 rintro e w2 ⟨rfl,hw⟩
 rw[hw]
 clear hw w2
 rw[aU]
 go_wp2_with fail
 refine(bl _ rb s l1 ns1 nv1 e1 _ (ae bp)).mono ?_
 rintro e w2 ⟨rfl,hw⟩
 rw[hw]
 simp only[ByteArray.toList_mk]
 clear hw w2
 rw[heq]
 go_wp2_with fail
 have nS:Hid (St ((w1.setCell ⟨lb,1,none⟩ (.bool false)).alloc (.cells #[.int .i64 3,.int .i64 val,.string tx,.slice ao t.args.length cap] 76)) rb s l1 ns1 nv1 e1):=((ae ft).only ((aA.refl lb _).set 1 (.bool false)) hne hn0 (by unfold aL;rw[ae df];simp)).below ((Below.refl _ _).alloc (Nat.le_refl _) _)
 have cO:Hid (KA rb [rb,lb] w ((w1.setCell ⟨lb,1,none⟩ (.bool false)).alloc (.cells #[.int .i64 3,.int .i64 val,.string tx,.slice ao t.args.length cap] 76))):=((ae fL).wide.fB (by simp) _).alloc _
 have nH:Hid (((w1.setCell ⟨lb,1,none⟩ (.bool false)).alloc (.cells #[.int .i64 3,.int .i64 val,.string tx,.slice ao t.args.length cap] 76)).heap[lb]?=some (.cells #[iv,.bool false,.bool false] 82 (0,0))):=aw (au (ae df) 1 (.bool false)) _
 have cZ:Hid (((w1.setCell ⟨lb,1,none⟩ (.bool false)).alloc (.cells #[.int .i64 3,.int .i64 val,.string tx,.slice ao t.args.length cap] 76)).heap[w.heap.size]?=some (.cells #[.int .i64 0,.int .i64 0,.string ⟨#[]⟩,.slice none 0 0,.string ⟨#[]⟩,.int .i64 0,.int .i64 0,.string ⟨#[]⟩,.slice none 0 0,.string ⟨#[]⟩,.int .i64 0,.int .i64 0,.string ⟨#[]⟩,.slice none 0 0] 151 (0,0))):=aw (aB (ae dG) (by omega) _ _) _
 go_wp2_with fail
 refine(bT _ rb s l1 ns1 nv1 e1 2 (ae nS)).mono ?_
 rintro e w3 ⟨rfl,hs3,hk3⟩
 have dV:=hide hs3
 have dQ:=hide ((ae cO).trans hk3.wide)
 have hb3:=ai hk3 (ae cZ) (by simp;omega)
 have r:=ag hb3
 have x:=aq hb3
 have bH:=hide hb3
 clear hs3 hk3 hb3
 go_wp2_with fail
 have RO:=(((((((((((((((aA.refl w.heap.size w3).set 0 (.int .i64 0)).set 1 (.int .i64 0)).set 2 (.string ⟨#[]⟩)).set 3 (.slice none 0 0)).set 4 (.string ⟨#[]⟩)).set 5 (.int .i64 0)).set 6 (.int .i64 0)).set 7 (.string ⟨#[]⟩)).set 8 (.slice none 0 0)).set 9 (.string ⟨#[]⟩)).set 10 (.int .i64 0)).set 11 (.int .i64 0)).set 12 (.string ⟨#[]⟩)).set 13 (.slice none 0 0))
 have RS:=(ae dV).only RO (by omega) (by omega) (by unfold aL;rw[ae bH];simp)
 have RK:=(ae dQ).dS RO (Nat.le_refl _)
 refine bodyPost_ret (v:= .tuple #[.agg #[.int .i64 0,.int .i64 0,.string ⟨#[]⟩,.slice none 0 0,.string ⟨#[]⟩,.int .i64 0,.int .i64 0,.string ⟨#[]⟩,.slice none 0 0,.string ⟨#[]⟩,.int .i64 0,.int .i64 0,.string ⟨#[]⟩,.slice none 0 0],.bool false]) (by simp[results,Tryz.results80,go_sem,r]) rfl ?_
 exact⟨⟨0,0,⟨#[]⟩,none,0,0⟩,⟨0,0,⟨#[]⟩,none,0,0⟩,⟨0,0,⟨#[]⟩,none,0,0⟩,⟨#[]⟩,⟨#[]⟩,l1,ns1,nv1,rfl,RS,rfl,RK⟩
theorem vI (w:World) (rb lb:Nat) (s:ByteArray) (l:List Za.Tok) (ns:List ByteArray) (nv iv:Value) (e0:Int) (goals:Bool) (h:St w rb s l ns nv e0) (hb:w.heap[lb]?=some (.cells #[iv,.bool true,.bool goals] 82 (0,0))) (hne:lb≠rb) (hn0:lb≠0) (t:Za.Tm) (l1:List Za.Tok) (hkk:t.kind=2) (hi:Za.isInt t=true) (hT:Za.term 8 l= .inr (t,l1)) (aU:Za.br l1=false) (heq:Za.sees l1 [61]=false):
 Calls Tryz.prog 80 #[.pointer (some ⟨rb,0,none⟩),.pointer (some ⟨lb,0,none⟩)] w fun e w'=>nk rb lb iv s ns (.inr ((⟨t,[],none,[],none⟩,true,goals),l1)) w e w':=by
 have hlt:=h.lt
 have hlb:lb<w.heap.size:=af hb
 obtain⟨hS,hK,hB0,hB1⟩:=dO h hb
 unfold boxZ at hS hK hB0 hB1
 have HS:=hide hS
 have HK:=hide hK
 have aT:=hide hB0
 have aZ:=hide hB1
 have I:=hide (fun W (hW:St W rb s l ns nv e0)=>term_all 8 W rb s l ns nv e0 1 rfl hW)
 rw[hT]at I
 clear hS hK hB0 hB1 h hb
 go_enter Tryz.func80,Tryz.ntmps80
 go_wp2_with fail
 refine(ae I _ (ae HS)).mono ?_
 have fE:ak t.kind=3:=by rw[hkk];rfl
 have jI:=hide hkk
 clear hkk
 rintro e w1 ⟨val,tx,ao,cap,ns1,nv1,e1,rfl,htx,hs,hk⟩
 rw[fE]
 have nR:=hide fE
 clear fE
 have fP:=hide htx
 clear htx
 have ft:=hide hs
 have bp:=hide (hs.below ((Below.refl _ _).alloc (Nat.le_refl _) (.cells #[.int .i64 3,.int .i64 val,.string tx,.slice ao t.args.length cap] 76)))
 have fL:=hide ((ae HK).trans hk)
 have hb0:=ai hk (ae aT) (by simp;omega)
 have hbl:=ai hk (ae aZ) (by simpa using hne)
 have hz0:w.heap.size<w1.heap.size:=af hb0
 have hzl:lb<w1.heap.size:=af hbl
 have dG:=hide hb0
 have df:=hide hbl
 have q:=ag hbl
 have y:=aq hbl
 clear hs hk hb0 hbl
 go_wp2_with fail
 refine(bC _ rb s l1 ns1 nv1 e1 (ae bp)).mono ?_
 rintro e w2 ⟨rfl,hw⟩
 rw[hw]
 clear hw w2
 rw[aU]
 go_wp2_with fail
 refine(bl _ rb s l1 ns1 nv1 e1 _ (ae bp)).mono ?_
 rintro e w2 ⟨rfl,hw⟩
 rw[hw]
 simp only[ByteArray.toList_mk]
 clear hw w2
 rw[heq]
 go_wp2_with fail
 have l9:=hide (iT (w1.alloc (.cells #[.int .i64 3,.int .i64 val,.string tx,.slice ao t.args.length cap] 76)) t val tx ao cap (ae fP).txt (by have:=ae jI;omega))
 rw[ae nR]at l9
 refine(ae l9).mono ?_
 rintro e w2 ⟨rfl,cY⟩
 rw[hi]
 have uU:=hide cY
 have wZ:=hide ((ae bp).below cY)
 have hz2:w1.heap.size<w2.heap.size:=by have:=cY.size;simp at this;omega
 have gh:=(cY.block lb (by simp;omega)).trans (aw (ae df) (.cells #[.int .i64 3,.int .i64 val,.string tx,.slice ao t.args.length cap] 76))
 have lQ:=(cY.block w1.heap.size (by simp)).trans (heap_alloc_new w1 (.cells #[.int .i64 3,.int .i64 val,.string tx,.slice ao t.args.length cap] 76))
 have lR:=(cY.block w.heap.size (by simp;omega)).trans (aw (ae dG) (.cells #[.int .i64 3,.int .i64 val,.string tx,.slice ao t.args.length cap] 76))
 have kq:=hide (((ae fL).alloc (.cells #[.int .i64 3,.int .i64 val,.string tx,.slice ao t.args.length cap] 76)).trans (KA.of_below cY))
 have q2:=ag gh
 have y2:=aq gh
 have vv:=ag lQ
 have cX:=hide gh
 have jU:=hide lR
 clear cY gh lQ lR q y
 have nS:Hid (St (w2.setCell ⟨lb,1,none⟩ (.bool true)) rb s l1 ns1 nv1 e1):=(ae wZ).only ((aA.refl lb _).set 1 (.bool true)) hne hn0 (by unfold aL;rw[ae cX];simp)
 have cO:Hid (KA rb [rb,lb] w (w2.setCell ⟨lb,1,none⟩ (.bool true))):=(ae kq).wide.fB (by simp) _
 have nH:Hid ((w2.setCell ⟨lb,1,none⟩ (.bool true)).heap[lb]?=some (.cells #[iv,.bool true,.bool goals] 82 (0,0))):=au (ae cX) 1 (.bool true)
 have cZ:Hid ((w2.setCell ⟨lb,1,none⟩ (.bool true)).heap[w.heap.size]?=some (.cells #[.int .i64 0,.int .i64 0,.string ⟨#[]⟩,.slice none 0 0,.string ⟨#[]⟩,.int .i64 0,.int .i64 0,.string ⟨#[]⟩,.slice none 0 0,.string ⟨#[]⟩,.int .i64 0,.int .i64 0,.string ⟨#[]⟩,.slice none 0 0] 151 (0,0))):=aB (ae jU) (by omega) _ _
 have r:=ag (ae jU)
 have x:=aq (ae jU)
 go_wp2_with fail
 have RO:=(((((((((((((((aA.refl w.heap.size (w2.setCell ⟨lb,1,none⟩ (.bool true))).set 0 (.int .i64 3)).set 1 (.int .i64 val)).set 2 (.string tx)).set 3 (.slice ao t.args.length cap)).set 4 (.string ⟨#[]⟩)).set 5 (.int .i64 0)).set 6 (.int .i64 0)).set 7 (.string ⟨#[]⟩)).set 8 (.slice none 0 0)).set 9 (.string ⟨#[]⟩)).set 10 (.int .i64 0)).set 11 (.int .i64 0)).set 12 (.string ⟨#[]⟩)).set 13 (.slice none 0 0))
 have RS:=(ae nS).only RO (by omega) (by omega) (by unfold aL;rw[ae cZ];simp)
 have RK:=(ae cO).dS RO (Nat.le_refl _)
 have RL:=(RO.block lb (by omega)).trans (ae nH)
 refine bodyPost_ret (v:= .tuple #[.agg #[.int .i64 3,.int .i64 val,.string tx,.slice ao t.args.length cap,.string ⟨#[]⟩,.int .i64 0,.int .i64 0,.string ⟨#[]⟩,.slice none 0 0,.string ⟨#[]⟩,.int .i64 0,.int .i64 0,.string ⟨#[]⟩,.slice none 0 0],.bool true]) (by simp[results,Tryz.results80,go_sem,r]) rfl ?_
 exact⟨⟨3,val,tx,ao,t.args.length,cap⟩,⟨0,0,⟨#[]⟩,none,0,0⟩,⟨0,0,⟨#[]⟩,none,0,0⟩,⟨#[]⟩,⟨#[]⟩,ns1,nv1,e1,rfl,(by have q:=oQ.plain (b:=⟨0,0,⟨#[]⟩,none,0,0⟩) (c:=⟨0,0,⟨#[]⟩,none,0,0⟩) (ae fP) ((((aJ.alloc _ _).trans (aJ.below (ae uU))).trans (aJ.only ((aA.refl lb w2).set 1 (.bool true)) (by unfold aL;rw[ae cX];simp))).trans (aJ.only RO (by unfold aL;rw[ae cZ];simp)));rw[ae nR]at q;exact q),RS,RL,RK⟩
end Go.Proofs.YthfjnfcekeknlaaGreatDoor
