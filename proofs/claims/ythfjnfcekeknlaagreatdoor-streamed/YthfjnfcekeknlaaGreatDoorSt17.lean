import Derived.Test.YthfjnfcekeknlaaGreatDoorSt12
import Derived.Test.YthfjnfcekeknlaaGreatDoorSt15
import Derived.Test.YthfjnfcekeknlaaGreatDoorSt16
set_option maxHeartbeats 8000000
set_option maxRecDepth 100000
namespace Go.Proofs.YthfjnfcekeknlaaGreatDoor
open Go.RowKit
theorem qD (w:World) (rb:Nat) (s:ByteArray) (l:List Za.Tok) (ns:List ByteArray) (nv:Value) (e0:Int) (a:TV) (left:Za.Tm) (fits:Bool) (h:St w rb s l ns nv e0) (h0:(Za.hd l).kind≠0):
 Calls Tryz.prog 135 #[.pointer (some ⟨rb,0,none⟩),.agg #[.int .i64 a.k,.int .i64 a.val,.string a.tx,.slice a.ao a.n a.cap],.bool fits] w fun e w'=>mU rb s a left ns (Za.assignment left fits l) w e w':=by
 cases fits
 ·exact Ii w rb s l ns nv e0 a left h h0
 ·rcases hO:Za.operand l.tail with⟨er,ps⟩ | ⟨t,l2⟩
  ·exact BB w rb s l ns nv e0 a left er ps h h0 hO
  ·cases hop:Za.gB l2
   ·exact Bw w rb s l ns nv e0 a left t l2 h h0 hO hop
   ·rcases hO2:Za.operand l2.tail with⟨er,ps⟩ | ⟨t2,l3⟩
    ·exact zZ w rb s l ns nv e0 a left t l2 h h0 hO hop er ps hO2
    ·exact Ds w rb s l ns nv e0 a left t l2 h h0 hO hop t2 l3 hO2
theorem Dt (w:World) (rb lb:Nat) (s:ByteArray) (l:List Za.Tok) (ns:List ByteArray) (nv iv:Value) (e0:Int) (tests goals:Bool) (h:St w rb s l ns nv e0) (hb:w.heap[lb]?=some (.cells #[iv,.bool tests,.bool goals] 82 (0,0))) (hne:lb≠rb) (hn0:lb≠0) (t:Za.Tm) (l1:List Za.Tok) (hT:Za.term 8 l= .inr (t,l1)) (hkk:t.kind=3) (aU:Za.br l1=false) (heq:Za.sees l1 [61]=false) (has:Za.sees l1 [58,61]=true) (er ps:Nat) (hR:Za.assignment t goals l1= .inl (er,ps)):
 Calls Tryz.prog 80 #[.pointer (some ⟨rb,0,none⟩),.pointer (some ⟨lb,0,none⟩)] w fun e w'=>nk rb lb iv s ns (.inl (er,ps)) w e w':=by
 have hlt:=h.lt
 have hlb:lb<w.heap.size:=af hb
 obtain⟨hS,hK,hB0,hB1⟩:=dO h hb
 unfold boxZ at hS hK hB0 hB1
 have HS:=hide hS
 have HK:=hide hK
 have aT:=hide hB0
 have aZ:=hide hB1
 have I:=hide (fun W (hW:St W rb s l ns nv e0)=>term_all 8 W rb s l ns nv e0 1 rfl hW)
 rw[hT]at I
 have fp:(Za.hd l1).kind≠0:=by rw[Za.cK has];omega
 have fE:(ak t.kind == 1)=true:=by rw[hkk];rfl
 clear hkk
 have sP:=hide fp
 clear hS hK hB0 hB1 h hb fp
 go_enter Tryz.func80,Tryz.ntmps80
 go_wp2_with fail
 refine(ae I _ (ae HS)).mono ?_
 rintro e w1 ⟨val,tx,ao,cap,ns1,nv1,e1,rfl,htx,hs,hk⟩
 have ft:=hide hs
 have bp:=hide (hs.below ((Below.refl _ _).alloc (Nat.le_refl _) (.cells #[.int .i64 (ak t.kind),.int .i64 val,.string tx,.slice ao t.args.length cap] 76)))
 have fL:=hide ((ae HK).trans hk)
 have hb0:=ai hk (ae aT) (by simp;omega)
 have hbl:=ai hk (ae aZ) (by simpa using hne)
 have hz0:w.heap.size<w1.heap.size:=af hb0
 have hzl:lb<w1.heap.size:=af hbl
 have dG:=hide hb0
 have df:=hide hbl
 have q:=ag hbl
 have y:=aq hbl
 clear hs hk hb0 hbl htx
 go_wp2_with fail
 refine(bC _ rb s l1 ns1 nv1 e1 (ae bp)).mono ?_
 rintro e w2 ⟨rfl,hw⟩
 rw[hw]
 clear hw w2
 rw[aU]
 go_wp2_with fail
 refine(bl _ rb s l1 ns1 nv1 e1 _ (ae bp)).mono ?_
 rintro e w2 ⟨rfl,hw⟩
 rw[hw]
 simp only[ByteArray.toList_mk]
 clear hw w2
 rw[heq]
 go_wp2_with fail
 refine(bl _ rb s l1 ns1 nv1 e1 _ (ae bp)).mono ?_
 rintro e w2 ⟨rfl,hw⟩
 rw[hw]
 simp only[ByteArray.toList_mk]
 clear hw w2
 rw[has]
 go_wp2_with fail
 have np:Hid (St (w1.setCell ⟨lb,1,none⟩ (.bool false)) rb s l1 ns1 nv1 e1):=(ae ft).only ((aA.refl lb _).set 1 (.bool false)) hne hn0 (by unfold aL;rw[ae df];simp)
 have HW:Hid (St ((w1.setCell ⟨lb,1,none⟩ (.bool false)).alloc (.cells #[.int .i64 (ak t.kind),.int .i64 val,.string tx,.slice ao t.args.length cap] 76)).drew rb s l1 ns1 nv1 e1):=(ae np).below ((Below.refl _ _).alloc (Nat.le_refl _) _).drew
 have kq:Hid (KA rb [rb,lb] w ((w1.setCell ⟨lb,1,none⟩ (.bool false)).alloc (.cells #[.int .i64 (ak t.kind),.int .i64 val,.string tx,.slice ao t.args.length cap] 76)).drew):=(((ae fL).wide.fB (by simp) _).alloc _).drew
 have oU:Hid (((w1.setCell ⟨lb,1,none⟩ (.bool false)).alloc (.cells #[.int .i64 (ak t.kind),.int .i64 val,.string tx,.slice ao t.args.length cap] 76)).drew.heap[w.heap.size]?=some (.cells #[.int .i64 0,.int .i64 0,.string ⟨#[]⟩,.slice none 0 0,.string ⟨#[]⟩,.int .i64 0,.int .i64 0,.string ⟨#[]⟩,.slice none 0 0,.string ⟨#[]⟩,.int .i64 0,.int .i64 0,.string ⟨#[]⟩,.slice none 0 0] 151 (0,0))):=aw (aB (ae dG) (by omega) _ _) _
 have oV:Hid (((w1.setCell ⟨lb,1,none⟩ (.bool false)).alloc (.cells #[.int .i64 (ak t.kind),.int .i64 val,.string tx,.slice ao t.args.length cap] 76)).drew.heap[lb]?=some (.cells #[iv,.bool false,.bool goals] 82 (0,0))):=aw (au (ae df) 1 (.bool false)) _
 have SD:=hide (fun W (hW:St W rb s l1 ns1 nv1 e1)=>qD W rb s l1 ns1 nv1 e1 ⟨ak t.kind,val,tx,ao,t.args.length,cap⟩ t goals hW (ae sP))
 rw[hR]at SD
 clear ft bp fL dG np hR
 go_region_with (go_at_call 135;refine(ae SD _ (ae HW)).mono ?_;rintro e w2 ⟨a,b,c,sg,op,l',ns',nv',rfl,hs2,hpos,hk2⟩;have HP:=hide hpos;clear hpos;have bV:=hide hs2;have cQ:=hide ((ae kq).trans hk2.wide);have hb2:=ai hk2 (ae oU) (by simp;omega);have cX:=hide (ai hk2 (ae oV) (by simpa using hne));have r:=ag hb2;have x:=aq hb2;have aX:=hide hb2;clear hs2 hk2 hb2)
 all_goals
  go_wp2_with fail
  have RO:=(((((((((((((((aA.refl w.heap.size w2).set 0 (.int .i64 a.k)).set 1 (.int .i64 a.val)).set 2 (.string a.tx)).set 3 (.slice a.ao a.n a.cap)).set 4 (.string sg)).set 5 (.int .i64 b.k)).set 6 (.int .i64 b.val)).set 7 (.string b.tx)).set 8 (.slice b.ao b.n b.cap)).set 9 (.string op)).set 10 (.int .i64 c.k)).set 11 (.int .i64 c.val)).set 12 (.string c.tx)).set 13 (.slice c.ao c.n c.cap))
  have RS:=(ae bV).only RO (by omega) (by omega) (by unfold aL;rw[ae aX];simp)
  have RK:=(ae cQ).dS RO (Nat.le_refl _)
  have RL:=(RO.block lb (by omega)).trans (ae cX)
  refine bodyPost_ret (v:= .tuple #[.agg #[.int .i64 a.k,.int .i64 a.val,.string a.tx,.slice a.ao a.n a.cap,.string sg,.int .i64 b.k,.int .i64 b.val,.string b.tx,.slice b.ao b.n b.cap,.string op,.int .i64 c.k,.int .i64 c.val,.string c.tx,.slice c.ao c.n c.cap],.bool false]) (by simp[results,Tryz.results80,go_sem,r]) rfl ?_
  exact⟨a,b,c,sg,op,l',ns',nv',rfl,RS,ae HP,RK⟩
theorem BC (w:World) (rb lb:Nat) (s:ByteArray) (l:List Za.Tok) (ns:List ByteArray) (nv iv:Value) (e0:Int) (tests goals:Bool) (h:St w rb s l ns nv e0) (hb:w.heap[lb]?=some (.cells #[iv,.bool tests,.bool goals] 82 (0,0))) (hne:lb≠rb) (hn0:lb≠0) (t:Za.Tm) (l1:List Za.Tok) (hT:Za.term 8 l= .inr (t,l1)) (hkk:t.kind=3) (aU:Za.br l1=false) (heq:Za.sees l1 [61]=false) (has:Za.sees l1 [58,61]=true) (x:Za.aC) (l2:List Za.Tok) (hR:Za.assignment t goals l1= .inr (x,l2)):
 Calls Tryz.prog 80 #[.pointer (some ⟨rb,0,none⟩),.pointer (some ⟨lb,0,none⟩)] w fun e w'=>nk rb lb iv s ns (.inr ((x,false,goals),l2)) w e w':=by
 have hlt:=h.lt
 have hlb:lb<w.heap.size:=af hb
 obtain⟨hS,hK,hB0,hB1⟩:=dO h hb
 unfold boxZ at hS hK hB0 hB1
 have HS:=hide hS
 have HK:=hide hK
 have aT:=hide hB0
 have aZ:=hide hB1
 have I:=hide (fun W (hW:St W rb s l ns nv e0)=>term_all 8 W rb s l ns nv e0 1 rfl hW)
 rw[hT]at I
 have fp:(Za.hd l1).kind≠0:=by rw[Za.cK has];omega
 have fE:(ak t.kind == 1)=true:=by rw[hkk];rfl
 clear hkk
 have sP:=hide fp
 clear hS hK hB0 hB1 h hb fp
 go_enter Tryz.func80,Tryz.ntmps80
 go_wp2_with fail
 refine(ae I _ (ae HS)).mono ?_
 rintro e w1 ⟨val,tx,ao,cap,ns1,nv1,e1,rfl,htx,hs,hk⟩
 have ft:=hide hs
 have bp:=hide (hs.below ((Below.refl _ _).alloc (Nat.le_refl _) (.cells #[.int .i64 (ak t.kind),.int .i64 val,.string tx,.slice ao t.args.length cap] 76)))
 have fL:=hide ((ae HK).trans hk)
 have hb0:=ai hk (ae aT) (by simp;omega)
 have hbl:=ai hk (ae aZ) (by simpa using hne)
 have hz0:w.heap.size<w1.heap.size:=af hb0
 have hzl:lb<w1.heap.size:=af hbl
 have dG:=hide hb0
 have df:=hide hbl
 have q:=ag hbl
 have y:=aq hbl
 have fP:=hide htx
 clear hs hk hb0 hbl htx
 go_wp2_with fail
 refine(bC _ rb s l1 ns1 nv1 e1 (ae bp)).mono ?_
 rintro e w2 ⟨rfl,hw⟩
 rw[hw]
 clear hw w2
 rw[aU]
 go_wp2_with fail
 refine(bl _ rb s l1 ns1 nv1 e1 _ (ae bp)).mono ?_
 rintro e w2 ⟨rfl,hw⟩
 rw[hw]
 simp only[ByteArray.toList_mk]
 clear hw w2
 rw[heq]
 go_wp2_with fail
 refine(bl _ rb s l1 ns1 nv1 e1 _ (ae bp)).mono ?_
 rintro e w2 ⟨rfl,hw⟩
 rw[hw]
 simp only[ByteArray.toList_mk]
 clear hw w2
 rw[has]
 go_wp2_with fail
 have np:Hid (St (w1.setCell ⟨lb,1,none⟩ (.bool false)) rb s l1 ns1 nv1 e1):=(ae ft).only ((aA.refl lb _).set 1 (.bool false)) hne hn0 (by unfold aL;rw[ae df];simp)
 have HW:Hid (St ((w1.setCell ⟨lb,1,none⟩ (.bool false)).alloc (.cells #[.int .i64 (ak t.kind),.int .i64 val,.string tx,.slice ao t.args.length cap] 76)).drew rb s l1 ns1 nv1 e1):=(ae np).below ((Below.refl _ _).alloc (Nat.le_refl _) _).drew
 have kq:Hid (KA rb [rb,lb] w ((w1.setCell ⟨lb,1,none⟩ (.bool false)).alloc (.cells #[.int .i64 (ak t.kind),.int .i64 val,.string tx,.slice ao t.args.length cap] 76)).drew):=(((ae fL).wide.fB (by simp) _).alloc _).drew
 have oU:Hid (((w1.setCell ⟨lb,1,none⟩ (.bool false)).alloc (.cells #[.int .i64 (ak t.kind),.int .i64 val,.string tx,.slice ao t.args.length cap] 76)).drew.heap[w.heap.size]?=some (.cells #[.int .i64 0,.int .i64 0,.string ⟨#[]⟩,.slice none 0 0,.string ⟨#[]⟩,.int .i64 0,.int .i64 0,.string ⟨#[]⟩,.slice none 0 0,.string ⟨#[]⟩,.int .i64 0,.int .i64 0,.string ⟨#[]⟩,.slice none 0 0] 151 (0,0))):=aw (aB (ae dG) (by omega) _ _) _
 have oV:Hid (((w1.setCell ⟨lb,1,none⟩ (.bool false)).alloc (.cells #[.int .i64 (ak t.kind),.int .i64 val,.string tx,.slice ao t.args.length cap] 76)).drew.heap[lb]?=some (.cells #[iv,.bool false,.bool goals] 82 (0,0))):=aw (au (ae df) 1 (.bool false)) _
 have Bz:Hid (aJ w1 ((w1.setCell ⟨lb,1,none⟩ (.bool false)).alloc (.cells #[.int .i64 (ak t.kind),.int .i64 val,.string tx,.slice ao t.args.length cap] 76)).drew):=(aJ.only ((aA.refl lb w1).set 1 (.bool false)) (by unfold aL;rw[ae df];simp)).trans (aJ.below ((Below.refl _ _).alloc (Nat.le_refl _) _).drew)
 have SD:=hide (fun W (hW:St W rb s l1 ns1 nv1 e1)=>qD W rb s l1 ns1 nv1 e1 ⟨ak t.kind,val,tx,ao,t.args.length,cap⟩ t goals hW (ae sP))
 rw[hR]at SD
 clear ft bp fL dG np hR
 go_region_with (go_at_call 135;refine(ae SD _ (ae HW)).mono ?_;rintro e w2 ⟨a,b,c,sg,op,ns',nv',e',rfl,⟨ha,hxl,hrt⟩,hs2,hk2⟩;have Ig:=hide hrt;have wT:=hide hxl;have Ih:=hide ha;clear hrt hxl ha;have BA:=hide ((ae Bz).trans (aJ.ka (ae HW) hk2));have bV:=hide hs2;have cQ:=hide ((ae kq).trans hk2.wide);have hb2:=ai hk2 (ae oU) (by simp;omega);have cX:=hide (ai hk2 (ae oV) (by simpa using hne));have r:=ag hb2;have x:=aq hb2;have aX:=hide hb2;clear hs2 hk2 hb2)
 all_goals
  go_wp2_with fail
  have RO:=(((((((((((((((aA.refl w.heap.size w2).set 0 (.int .i64 a.k)).set 1 (.int .i64 a.val)).set 2 (.string a.tx)).set 3 (.slice a.ao a.n a.cap)).set 4 (.string sg)).set 5 (.int .i64 b.k)).set 6 (.int .i64 b.val)).set 7 (.string b.tx)).set 8 (.slice b.ao b.n b.cap)).set 9 (.string op)).set 10 (.int .i64 c.k)).set 11 (.int .i64 c.val)).set 12 (.string c.tx)).set 13 (.slice c.ao c.n c.cap))
  have RS:=(ae bV).only RO (by omega) (by omega) (by unfold aL;rw[ae aX];simp)
  have RP:=aJ.only RO (by unfold aL;rw[ae aX];simp)
  have RK:=(ae cQ).dS RO (Nat.le_refl _)
  have RL:=(RO.block lb (by omega)).trans (ae cX)
  refine bodyPost_ret (v:= .tuple #[.agg #[.int .i64 a.k,.int .i64 a.val,.string a.tx,.slice a.ao a.n a.cap,.string sg,.int .i64 b.k,.int .i64 b.val,.string b.tx,.slice b.ao b.n b.cap,.string op,.int .i64 c.k,.int .i64 c.val,.string c.tx,.slice c.ao c.n c.cap],.bool true]) (by simp[results,Tryz.results80,go_sem,r]) rfl ?_
  exact⟨a,b,c,sg,op,ns',nv',e',rfl,oQ.of (ae fP) (ae Ih) (ae wT) (ae Ig) (ae BA) RP,RS,RL,RK⟩
end Go.Proofs.YthfjnfcekeknlaaGreatDoor
