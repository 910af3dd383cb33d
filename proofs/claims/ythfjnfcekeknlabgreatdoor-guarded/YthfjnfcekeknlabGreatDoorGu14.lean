import Derived.Test.YthfjnfcekeknlabGreatDoorGu10
set_option maxHeartbeats 8000000
set_option maxRecDepth 100000
namespace Go.Proofs.YthfjnfcekeknlabGreatDoor
open Go.RowKit
theorem BX (w:World) (rb lb:Nat) (s:ByteArray) (l:List Zf.Tok) (ns:List ByteArray) (nv iv:Value) (e0:Int) (tests goals:Bool) (h:St w rb s l ns nv e0) (hb:w.heap[lb]?=some (.cells #[iv,.bool tests,.bool goals] 80 (0,0))) (hne:lb≠rb) (hn0:lb≠0) (t:Zf.Tm) (l1:List Zf.Tok) (hT:Zf.term 8 l= .inr (t,l1)) (aV:Zf.bH l1=true) (er ps:Nat) (hR:Zf.sides t tests l1= .inl (er,ps)):
 Calls Tryz.prog 66 #[.pointer (some ⟨rb,0,none⟩),.pointer (some ⟨lb,0,none⟩)] w fun e w'=>nE rb lb iv s ns (.inl (er,ps)) w e w':=by
 have hlt:=h.lt
 have hlb:lb<w.heap.size:=af hb
 obtain⟨hS,hK,hB0,hB1⟩:=ed h hb
 unfold boxZ at hS hK hB0 hB1
 have HS:=hide hS
 have HK:=hide hK
 have aS:=hide hB0
 have bC:=hide hB1
 have I:=hide (fun W (hW:St W rb s l ns nv e0)=>term_all 8 W rb s l ns nv e0 1 rfl hW)
 rw[hT]at I
 have gh:(Zf.hd l1).kind≠0:=by simp only[Zf.bH,Bool.or_eq_true]at aV;rcases aV with((q | q) | q) | q<;>(rw[Zf.cW q];omega)
 have tB:=hide gh
 clear hS hK hB0 hB1 h hb gh
 go_enter Tryz.func66,Tryz.ntmps66
 go_wp2_with fail
 refine(ae I _ (ae HS)).mono ?_
 rintro e w1 ⟨val,tx,ao,cap,ns1,nv1,e1,rfl,htx,hs,hk⟩
 have fC:=hide hs
 have bF:=hide (hs.below ((Below.refl _ _).alloc (Nat.le_refl _) (.cells #[.int .i64 (ak t.kind),.int .i64 val,.string tx,.slice ao t.args.length cap] 74)))
 have fO:=hide ((ae HK).trans hk)
 have hb0:=aj hk (ae aS) (by simp;omega)
 have hbl:=aj hk (ae bC) (by simpa using hne)
 have hz0:w.heap.size<w1.heap.size:=af hb0
 have hzl:lb<w1.heap.size:=af hbl
 have eK:=hide hb0
 have dA:=hide hbl
 have q:=ah hbl
 have y:=au hbl
 clear hs hk hb0 hbl htx
 go_wp2_with fail
 refine(bK _ rb s l1 ns1 nv1 e1 (ae bF)).mono ?_
 rintro e w2 ⟨rfl,hw⟩
 rw[hw]
 clear hw w2
 rw[aV]
 go_wp2_with fail
 have nH:Hid (St (w1.setCell ⟨lb,2,none⟩ (.bool false)) rb s l1 ns1 nv1 e1):=(ae fC).only ((aB.refl lb _).set 2 (.bool false)) hne hn0 (by unfold aM;rw[ae dA];simp)
 have HW:Hid (St ((w1.setCell ⟨lb,2,none⟩ (.bool false)).alloc (.cells #[.int .i64 (ak t.kind),.int .i64 val,.string tx,.slice ao t.args.length cap] 74)).drew rb s l1 ns1 nv1 e1):=(ae nH).below ((Below.refl _ _).alloc (Nat.le_refl _) _).drew
 have kN:Hid (KA rb [rb,lb] w ((w1.setCell ⟨lb,2,none⟩ (.bool false)).alloc (.cells #[.int .i64 (ak t.kind),.int .i64 val,.string tx,.slice ao t.args.length cap] 74)).drew):=(((ae fO).wide.fH (by simp) _).alloc _).drew
 have pj:Hid (((w1.setCell ⟨lb,2,none⟩ (.bool false)).alloc (.cells #[.int .i64 (ak t.kind),.int .i64 val,.string tx,.slice ao t.args.length cap] 74)).drew.heap[w.heap.size]?=some (.cells #[.int .i64 0,.int .i64 0,.string ⟨#[]⟩,.slice none 0 0,.string ⟨#[]⟩,.int .i64 0,.int .i64 0,.string ⟨#[]⟩,.slice none 0 0,.string ⟨#[]⟩,.int .i64 0,.int .i64 0,.string ⟨#[]⟩,.slice none 0 0] 125 (0,0))):=aA (aF (ae eK) (by omega) _ _) _
 have pn:Hid (((w1.setCell ⟨lb,2,none⟩ (.bool false)).alloc (.cells #[.int .i64 (ak t.kind),.int .i64 val,.string tx,.slice ao t.args.length cap] 74)).drew.heap[lb]?=some (.cells #[iv,.bool tests,.bool false] 80 (0,0))):=aA (aw (ae dA) 2 (.bool false)) _
 have SD:=hide (fun W (hW:St W rb s l1 ns1 nv1 e1)=>pT W rb s l1 ns1 nv1 e1 ⟨ak t.kind,val,tx,ao,t.args.length,cap⟩ t tests hW (ae tB))
 rw[hR]at SD
 clear fC bF fO eK nH hR
 go_region_with (go_at_call 112;refine(ae SD _ (ae HW)).mono ?_;rintro e w2 ⟨a,b,c,sg,op,l',ns',nv',rfl,hs2,hpos,hk2⟩;have HP:=hide hpos;clear hpos;have cm:=hide hs2;have dt:=hide ((ae kN).trans hk2.wide);have hb2:=aj hk2 (ae pj) (by simp;omega);have dE:=hide (aj hk2 (ae pn) (by simpa using hne));have r:=ah hb2;have x:=au hb2;have aP:=hide hb2;clear hs2 hk2 hb2)
 all_goals
  go_wp2_with fail
  have RO:=(((((((((((((((aB.refl w.heap.size w2).set 0 (.int .i64 a.k)).set 1 (.int .i64 a.val)).set 2 (.string a.tx)).set 3 (.slice a.ao a.n a.cap)).set 4 (.string sg)).set 5 (.int .i64 b.k)).set 6 (.int .i64 b.val)).set 7 (.string b.tx)).set 8 (.slice b.ao b.n b.cap)).set 9 (.string op)).set 10 (.int .i64 c.k)).set 11 (.int .i64 c.val)).set 12 (.string c.tx)).set 13 (.slice c.ao c.n c.cap))
  have RS:=(ae cm).only RO (by omega) (by omega) (by unfold aM;rw[ae aP];simp)
  have RK:=(ae dt).eG RO (Nat.le_refl _)
  have RL:=(RO.block lb (by omega)).trans (ae dE)
  refine bodyPost_ret (v:= .tuple #[.agg #[.int .i64 a.k,.int .i64 a.val,.string a.tx,.slice a.ao a.n a.cap,.string sg,.int .i64 b.k,.int .i64 b.val,.string b.tx,.slice b.ao b.n b.cap,.string op,.int .i64 c.k,.int .i64 c.val,.string c.tx,.slice c.ao c.n c.cap],.bool false]) (by simp[results,Tryz.results66,go_sem,r]) rfl ?_
  exact⟨a,b,c,sg,op,l',ns',nv',rfl,RS,ae HP,RK⟩
theorem Am (w:World) (rb lb:Nat) (s:ByteArray) (l:List Zf.Tok) (ns:List ByteArray) (nv iv:Value) (e0:Int) (tests goals:Bool) (h:St w rb s l ns nv e0) (hb:w.heap[lb]?=some (.cells #[iv,.bool tests,.bool goals] 80 (0,0))) (hne:lb≠rb) (hn0:lb≠0) (t:Zf.Tm) (l1:List Zf.Tok) (hT:Zf.term 8 l= .inr (t,l1)) (aV:Zf.bH l1=true) (x:Zf.aD) (l2:List Zf.Tok) (hR:Zf.sides t tests l1= .inr (x,l2)):
 Calls Tryz.prog 66 #[.pointer (some ⟨rb,0,none⟩),.pointer (some ⟨lb,0,none⟩)] w fun e w'=>nE rb lb iv s ns (.inr ((x,tests,false),l2)) w e w':=by
 have hlt:=h.lt
 have hlb:lb<w.heap.size:=af hb
 obtain⟨hS,hK,hB0,hB1⟩:=ed h hb
 unfold boxZ at hS hK hB0 hB1
 have HS:=hide hS
 have HK:=hide hK
 have aS:=hide hB0
 have bC:=hide hB1
 have I:=hide (fun W (hW:St W rb s l ns nv e0)=>term_all 8 W rb s l ns nv e0 1 rfl hW)
 rw[hT]at I
 have gh:(Zf.hd l1).kind≠0:=by simp only[Zf.bH,Bool.or_eq_true]at aV;rcases aV with((q | q) | q) | q<;>(rw[Zf.cW q];omega)
 have tB:=hide gh
 clear hS hK hB0 hB1 h hb gh
 go_enter Tryz.func66,Tryz.ntmps66
 go_wp2_with fail
 refine(ae I _ (ae HS)).mono ?_
 rintro e w1 ⟨val,tx,ao,cap,ns1,nv1,e1,rfl,htx,hs,hk⟩
 have fC:=hide hs
 have bF:=hide (hs.below ((Below.refl _ _).alloc (Nat.le_refl _) (.cells #[.int .i64 (ak t.kind),.int .i64 val,.string tx,.slice ao t.args.length cap] 74)))
 have fO:=hide ((ae HK).trans hk)
 have hb0:=aj hk (ae aS) (by simp;omega)
 have hbl:=aj hk (ae bC) (by simpa using hne)
 have hz0:w.heap.size<w1.heap.size:=af hb0
 have hzl:lb<w1.heap.size:=af hbl
 have eK:=hide hb0
 have dA:=hide hbl
 have q:=ah hbl
 have y:=au hbl
 have fX:=hide htx
 clear hs hk hb0 hbl htx
 go_wp2_with fail
 refine(bK _ rb s l1 ns1 nv1 e1 (ae bF)).mono ?_
 rintro e w2 ⟨rfl,hw⟩
 rw[hw]
 clear hw w2
 rw[aV]
 go_wp2_with fail
 have nH:Hid (St (w1.setCell ⟨lb,2,none⟩ (.bool false)) rb s l1 ns1 nv1 e1):=(ae fC).only ((aB.refl lb _).set 2 (.bool false)) hne hn0 (by unfold aM;rw[ae dA];simp)
 have HW:Hid (St ((w1.setCell ⟨lb,2,none⟩ (.bool false)).alloc (.cells #[.int .i64 (ak t.kind),.int .i64 val,.string tx,.slice ao t.args.length cap] 74)).drew rb s l1 ns1 nv1 e1):=(ae nH).below ((Below.refl _ _).alloc (Nat.le_refl _) _).drew
 have kN:Hid (KA rb [rb,lb] w ((w1.setCell ⟨lb,2,none⟩ (.bool false)).alloc (.cells #[.int .i64 (ak t.kind),.int .i64 val,.string tx,.slice ao t.args.length cap] 74)).drew):=(((ae fO).wide.fH (by simp) _).alloc _).drew
 have pj:Hid (((w1.setCell ⟨lb,2,none⟩ (.bool false)).alloc (.cells #[.int .i64 (ak t.kind),.int .i64 val,.string tx,.slice ao t.args.length cap] 74)).drew.heap[w.heap.size]?=some (.cells #[.int .i64 0,.int .i64 0,.string ⟨#[]⟩,.slice none 0 0,.string ⟨#[]⟩,.int .i64 0,.int .i64 0,.string ⟨#[]⟩,.slice none 0 0,.string ⟨#[]⟩,.int .i64 0,.int .i64 0,.string ⟨#[]⟩,.slice none 0 0] 125 (0,0))):=aA (aF (ae eK) (by omega) _ _) _
 have pn:Hid (((w1.setCell ⟨lb,2,none⟩ (.bool false)).alloc (.cells #[.int .i64 (ak t.kind),.int .i64 val,.string tx,.slice ao t.args.length cap] 74)).drew.heap[lb]?=some (.cells #[iv,.bool tests,.bool false] 80 (0,0))):=aA (aw (ae dA) 2 (.bool false)) _
 have BZ:Hid (aK w1 ((w1.setCell ⟨lb,2,none⟩ (.bool false)).alloc (.cells #[.int .i64 (ak t.kind),.int .i64 val,.string tx,.slice ao t.args.length cap] 74)).drew):=(aK.only ((aB.refl lb w1).set 2 (.bool false)) (by unfold aM;rw[ae dA];simp)).trans (aK.below ((Below.refl _ _).alloc (Nat.le_refl _) _).drew)
 have SD:=hide (fun W (hW:St W rb s l1 ns1 nv1 e1)=>pT W rb s l1 ns1 nv1 e1 ⟨ak t.kind,val,tx,ao,t.args.length,cap⟩ t tests hW (ae tB))
 rw[hR]at SD
 clear fC bF fO eK nH hR
 go_region_with (go_at_call 112;refine(ae SD _ (ae HW)).mono ?_;rintro e w2 ⟨a,b,c,sg,op,ns',nv',e',rfl,⟨ha,hxl,hrt⟩,hs2,hk2⟩;have I6:=hide hrt;have xg:=hide hxl;have I7:=hide ha;clear hrt hxl ha;have B0:=hide ((ae BZ).trans (aK.ka (ae HW) hk2));have cm:=hide hs2;have dt:=hide ((ae kN).trans hk2.wide);have hb2:=aj hk2 (ae pj) (by simp;omega);have dE:=hide (aj hk2 (ae pn) (by simpa using hne));have r:=ah hb2;have x:=au hb2;have aP:=hide hb2;clear hs2 hk2 hb2)
 all_goals
  go_wp2_with fail
  have RO:=(((((((((((((((aB.refl w.heap.size w2).set 0 (.int .i64 a.k)).set 1 (.int .i64 a.val)).set 2 (.string a.tx)).set 3 (.slice a.ao a.n a.cap)).set 4 (.string sg)).set 5 (.int .i64 b.k)).set 6 (.int .i64 b.val)).set 7 (.string b.tx)).set 8 (.slice b.ao b.n b.cap)).set 9 (.string op)).set 10 (.int .i64 c.k)).set 11 (.int .i64 c.val)).set 12 (.string c.tx)).set 13 (.slice c.ao c.n c.cap))
  have RS:=(ae cm).only RO (by omega) (by omega) (by unfold aM;rw[ae aP];simp)
  have RP:=aK.only RO (by unfold aM;rw[ae aP];simp)
  have RK:=(ae dt).eG RO (Nat.le_refl _)
  have RL:=(RO.block lb (by omega)).trans (ae dE)
  refine bodyPost_ret (v:= .tuple #[.agg #[.int .i64 a.k,.int .i64 a.val,.string a.tx,.slice a.ao a.n a.cap,.string sg,.int .i64 b.k,.int .i64 b.val,.string b.tx,.slice b.ao b.n b.cap,.string op,.int .i64 c.k,.int .i64 c.val,.string c.tx,.slice c.ao c.n c.cap],.bool true]) (by simp[results,Tryz.results66,go_sem,r]) rfl ?_
  exact⟨a,b,c,sg,op,ns',nv',e',rfl,o7.of (ae fX) (ae I7) (ae xg) (ae I6) (ae B0) RP,RS,RL,RK⟩
theorem vS (w:World) (rb lb:Nat) (s:ByteArray) (l:List Zf.Tok) (ns:List ByteArray) (nv iv:Value) (e0:Int) (h:St w rb s l ns nv e0) (hb:w.heap[lb]?=some (.cells #[iv,.bool true,.bool true] 80 (0,0))) (hne:lb≠rb) (hn0:lb≠0) (t:Zf.Tm) (l1:List Zf.Tok) (hkk:t.kind=2) (hi:Zf.isInt t=false) (hT:Zf.term 8 l= .inr (t,l1)) (aV:Zf.bH l1=false) (heq:Zf.sees l1 [61]=false):
 Calls Tryz.prog 66 #[.pointer (some ⟨rb,0,none⟩),.pointer (some ⟨lb,0,none⟩)] w fun e w'=>nE rb lb iv s ns (.inr ((⟨t,[],none,[],none⟩,false,true),l1)) w e w':=by
 have hlt:=h.lt
 have hlb:lb<w.heap.size:=af hb
 obtain⟨hS,hK,hB0,hB1⟩:=ed h hb
 unfold boxZ at hS hK hB0 hB1
 have HS:=hide hS
 have HK:=hide hK
 have aS:=hide hB0
 have bC:=hide hB1
 have I:=hide (fun W (hW:St W rb s l ns nv e0)=>term_all 8 W rb s l ns nv e0 1 rfl hW)
 rw[hT]at I
 clear hS hK hB0 hB1 h hb
 go_enter Tryz.func66,Tryz.ntmps66
 go_wp2_with fail
 refine(ae I _ (ae HS)).mono ?_
 have fJ:ak t.kind=3:=by rw[hkk];rfl
 have jY:=hide hkk
 clear hkk
 rintro e w1 ⟨val,tx,ao,cap,ns1,nv1,e1,rfl,htx,hs,hk⟩
 rw[fJ]
 have nY:=hide fJ
 clear fJ
 have fX:=hide htx
 clear htx
 have fC:=hide hs
 have bF:=hide (hs.below ((Below.refl _ _).alloc (Nat.le_refl _) (.cells #[.int .i64 3,.int .i64 val,.string tx,.slice ao t.args.length cap] 74)))
 have fO:=hide ((ae HK).trans hk)
 have hb0:=aj hk (ae aS) (by simp;omega)
 have hbl:=aj hk (ae bC) (by simpa using hne)
 have hz0:w.heap.size<w1.heap.size:=af hb0
 have hzl:lb<w1.heap.size:=af hbl
 have eK:=hide hb0
 have dA:=hide hbl
 have q:=ah hbl
 have y:=au hbl
 clear hs hk hb0 hbl
 go_wp2_with fail
 refine(bK _ rb s l1 ns1 nv1 e1 (ae bF)).mono ?_
 rintro e w2 ⟨rfl,hw⟩
 rw[hw]
 clear hw w2
 rw[aV]
 go_wp2_with fail
 refine(bD _ rb s l1 ns1 nv1 e1 _ (ae bF)).mono ?_
 rintro e w2 ⟨rfl,hw⟩
 rw[hw]
 simp only[ByteArray.toList_mk]
 clear hw w2
 rw[heq]
 go_wp2_with fail
 have mE:=hide (je (w1.alloc (.cells #[.int .i64 3,.int .i64 val,.string tx,.slice ao t.args.length cap] 74)) t val tx ao cap (ae fX).txt (by have:=ae jY;omega))
 rw[ae nY]at mE
 refine(ae mE).mono ?_
 rintro e w2 ⟨rfl,dO⟩
 rw[hi]
 have Eo:=hide dO
 have xt:=hide ((ae bF).below dO)
 have hz2:w1.heap.size<w2.heap.size:=by have:=dO.size;simp at this;omega
 have gI:=(dO.block lb (by simp;omega)).trans (aA (ae dA) (.cells #[.int .i64 3,.int .i64 val,.string tx,.slice ao t.args.length cap] 74))
 have mn:=(dO.block w1.heap.size (by simp)).trans (heap_alloc_new w1 (.cells #[.int .i64 3,.int .i64 val,.string tx,.slice ao t.args.length cap] 74))
 have jI:=(dO.block w.heap.size (by simp;omega)).trans (aA (ae eK) (.cells #[.int .i64 3,.int .i64 val,.string tx,.slice ao t.args.length cap] 74))
 have kN:=hide (((ae fO).alloc (.cells #[.int .i64 3,.int .i64 val,.string tx,.slice ao t.args.length cap] 74)).trans (KA.of_below dO))
 have q2:=ah gI
 have y2:=au gI
 have vv:=ah mn
 have dE:=hide gI
 have kC:=hide jI
 clear dO gI mn jI q y
 have nZ:Hid (St (w2.setCell ⟨lb,1,none⟩ (.bool false)) rb s l1 ns1 nv1 e1):=(ae xt).only ((aB.refl lb _).set 1 (.bool false)) hne hn0 (by unfold aM;rw[ae dE];simp)
 have df:Hid (KA rb [rb,lb] w (w2.setCell ⟨lb,1,none⟩ (.bool false))):=(ae kN).wide.fH (by simp) _
 have nR:Hid ((w2.setCell ⟨lb,1,none⟩ (.bool false)).heap[lb]?=some (.cells #[iv,.bool false,.bool true] 80 (0,0))):=aw (ae dE) 1 (.bool false)
 have dF:Hid ((w2.setCell ⟨lb,1,none⟩ (.bool false)).heap[w.heap.size]?=some (.cells #[.int .i64 0,.int .i64 0,.string ⟨#[]⟩,.slice none 0 0,.string ⟨#[]⟩,.int .i64 0,.int .i64 0,.string ⟨#[]⟩,.slice none 0 0,.string ⟨#[]⟩,.int .i64 0,.int .i64 0,.string ⟨#[]⟩,.slice none 0 0] 125 (0,0))):=aF (ae kC) (by omega) _ _
 have r:=ah (ae kC)
 have x:=au (ae kC)
 go_wp2_with fail
 have RO:=(((((((((((((((aB.refl w.heap.size (w2.setCell ⟨lb,1,none⟩ (.bool false))).set 0 (.int .i64 3)).set 1 (.int .i64 val)).set 2 (.string tx)).set 3 (.slice ao t.args.length cap)).set 4 (.string ⟨#[]⟩)).set 5 (.int .i64 0)).set 6 (.int .i64 0)).set 7 (.string ⟨#[]⟩)).set 8 (.slice none 0 0)).set 9 (.string ⟨#[]⟩)).set 10 (.int .i64 0)).set 11 (.int .i64 0)).set 12 (.string ⟨#[]⟩)).set 13 (.slice none 0 0))
 have RS:=(ae nZ).only RO (by omega) (by omega) (by unfold aM;rw[ae dF];simp)
 have RK:=(ae df).eG RO (Nat.le_refl _)
 have RL:=(RO.block lb (by omega)).trans (ae nR)
 refine bodyPost_ret (v:= .tuple #[.agg #[.int .i64 3,.int .i64 val,.string tx,.slice ao t.args.length cap,.string ⟨#[]⟩,.int .i64 0,.int .i64 0,.string ⟨#[]⟩,.slice none 0 0,.string ⟨#[]⟩,.int .i64 0,.int .i64 0,.string ⟨#[]⟩,.slice none 0 0],.bool true]) (by simp[results,Tryz.results66,go_sem,r]) rfl ?_
 exact⟨⟨3,val,tx,ao,t.args.length,cap⟩,⟨0,0,⟨#[]⟩,none,0,0⟩,⟨0,0,⟨#[]⟩,none,0,0⟩,⟨#[]⟩,⟨#[]⟩,ns1,nv1,e1,rfl,(by have q:=o7.plain (b:=⟨0,0,⟨#[]⟩,none,0,0⟩) (c:=⟨0,0,⟨#[]⟩,none,0,0⟩) (ae fX) ((((aK.alloc _ _).trans (aK.below (ae Eo))).trans (aK.only ((aB.refl lb w2).set 1 (.bool false)) (by unfold aM;rw[ae dE];simp))).trans (aK.only RO (by unfold aM;rw[ae dF];simp)));rw[ae nY]at q;exact q),RS,RL,RK⟩
theorem vT (w:World) (rb lb:Nat) (s:ByteArray) (l:List Zf.Tok) (ns:List ByteArray) (nv iv:Value) (e0:Int) (h:St w rb s l ns nv e0) (hb:w.heap[lb]?=some (.cells #[iv,.bool true,.bool false] 80 (0,0))) (hne:lb≠rb) (hn0:lb≠0) (t:Zf.Tm) (l1:List Zf.Tok) (hkk:t.kind=2) (hi:Zf.isInt t=false) (hT:Zf.term 8 l= .inr (t,l1)) (aV:Zf.bH l1=false) (heq:Zf.sees l1 [61]=false):
 Calls Tryz.prog 66 #[.pointer (some ⟨rb,0,none⟩),.pointer (some ⟨lb,0,none⟩)] w fun e w'=>nE rb lb iv s ns (Zf.bad 2 l1) w e w':=by
 have hlt:=h.lt
 have hlb:lb<w.heap.size:=af hb
 obtain⟨hS,hK,hB0,hB1⟩:=ed h hb
 unfold boxZ at hS hK hB0 hB1
 have HS:=hide hS
 have HK:=hide hK
 have aS:=hide hB0
 have bC:=hide hB1
 have I:=hide (fun W (hW:St W rb s l ns nv e0)=>term_all 8 W rb s l ns nv e0 1 rfl hW)
 rw[hT]at I
 clear hS hK hB0 hB1 h hb
 go_enter Tryz.func66,Tryz.ntmps66
 go_wp2_with fail
 refine(ae I _ (ae HS)).mono ?_
 have fJ:ak t.kind=3:=by rw[hkk];rfl
 have jY:=hide hkk
 clear hkk
 rintro e w1 ⟨val,tx,ao,cap,ns1,nv1,e1,rfl,htx,hs,hk⟩
 rw[fJ]
 have nY:=hide fJ
 clear fJ
 have fX:=hide htx
 clear htx
 have fC:=hide hs
 have bF:=hide (hs.below ((Below.refl _ _).alloc (Nat.le_refl _) (.cells #[.int .i64 3,.int .i64 val,.string tx,.slice ao t.args.length cap] 74)))
 have fO:=hide ((ae HK).trans hk)
 have hb0:=aj hk (ae aS) (by simp;omega)
 have hbl:=aj hk (ae bC) (by simpa using hne)
 have hz0:w.heap.size<w1.heap.size:=af hb0
 have hzl:lb<w1.heap.size:=af hbl
 have eK:=hide hb0
 have dA:=hide hbl
 have q:=ah hbl
 have y:=au hbl
 clear hs hk hb0 hbl
 go_wp2_with fail
 refine(bK _ rb s l1 ns1 nv1 e1 (ae bF)).mono ?_
 rintro e w2 ⟨rfl,hw⟩
 rw[hw]
 clear hw w2
 rw[aV]
 go_wp2_with fail
 refine(bD _ rb s l1 ns1 nv1 e1 _ (ae bF)).mono ?_
 rintro e w2 ⟨rfl,hw⟩
 rw[hw]
 simp only[ByteArray.toList_mk]
 clear hw w2
 rw[heq]
 go_wp2_with fail
 have mE:=hide (je (w1.alloc (.cells #[.int .i64 3,.int .i64 val,.string tx,.slice ao t.args.length cap] 74)) t val tx ao cap (ae fX).txt (by have:=ae jY;omega))
 rw[ae nY]at mE
 refine(ae mE).mono ?_
 rintro e w2 ⟨rfl,dO⟩
 rw[hi]
 have Eo:=hide dO
 have xt:=hide ((ae bF).below dO)
 have hz2:w1.heap.size<w2.heap.size:=by have:=dO.size;simp at this;omega
 have gI:=(dO.block lb (by simp;omega)).trans (aA (ae dA) (.cells #[.int .i64 3,.int .i64 val,.string tx,.slice ao t.args.length cap] 74))
 have mn:=(dO.block w1.heap.size (by simp)).trans (heap_alloc_new w1 (.cells #[.int .i64 3,.int .i64 val,.string tx,.slice ao t.args.length cap] 74))
 have jI:=(dO.block w.heap.size (by simp;omega)).trans (aA (ae eK) (.cells #[.int .i64 3,.int .i64 val,.string tx,.slice ao t.args.length cap] 74))
 have kN:=hide (((ae fO).alloc (.cells #[.int .i64 3,.int .i64 val,.string tx,.slice ao t.args.length cap] 74)).trans (KA.of_below dO))
 have q2:=ah gI
 have y2:=au gI
 have vv:=ah mn
 have dE:=hide gI
 have kC:=hide jI
 clear dO gI mn jI q y
 have nZ:Hid (St (w2.setCell ⟨lb,1,none⟩ (.bool false)) rb s l1 ns1 nv1 e1):=(ae xt).only ((aB.refl lb _).set 1 (.bool false)) hne hn0 (by unfold aM;rw[ae dE];simp)
 have df:Hid (KA rb [rb,lb] w (w2.setCell ⟨lb,1,none⟩ (.bool false))):=(ae kN).wide.fH (by simp) _
 have nR:Hid ((w2.setCell ⟨lb,1,none⟩ (.bool false)).heap[lb]?=some (.cells #[iv,.bool false,.bool false] 80 (0,0))):=aw (ae dE) 1 (.bool false)
 have dF:Hid ((w2.setCell ⟨lb,1,none⟩ (.bool false)).heap[w.heap.size]?=some (.cells #[.int .i64 0,.int .i64 0,.string ⟨#[]⟩,.slice none 0 0,.string ⟨#[]⟩,.int .i64 0,.int .i64 0,.string ⟨#[]⟩,.slice none 0 0,.string ⟨#[]⟩,.int .i64 0,.int .i64 0,.string ⟨#[]⟩,.slice none 0 0] 125 (0,0))):=aF (ae kC) (by omega) _ _
 go_wp2_with fail
 refine(cg _ rb s l1 ns1 nv1 e1 2 (ae nZ)).mono ?_
 rintro e w3 ⟨rfl,hs3,hk3⟩
 have eI:=hide hs3
 have eo:=hide ((ae df).trans hk3.wide)
 have hb3:=aj hk3 (ae dF) (by simp;omega)
 have r:=ah hb3
 have x:=au hb3
 have bu:=hide hb3
 clear hs3 hk3 hb3
 go_wp2_with fail
 have RO:=(((((((((((((((aB.refl w.heap.size w3).set 0 (.int .i64 0)).set 1 (.int .i64 0)).set 2 (.string ⟨#[]⟩)).set 3 (.slice none 0 0)).set 4 (.string ⟨#[]⟩)).set 5 (.int .i64 0)).set 6 (.int .i64 0)).set 7 (.string ⟨#[]⟩)).set 8 (.slice none 0 0)).set 9 (.string ⟨#[]⟩)).set 10 (.int .i64 0)).set 11 (.int .i64 0)).set 12 (.string ⟨#[]⟩)).set 13 (.slice none 0 0))
 have RS:=(ae eI).only RO (by omega) (by omega) (by unfold aM;rw[ae bu];simp)
 have RK:=(ae eo).eG RO (Nat.le_refl _)
 refine bodyPost_ret (v:= .tuple #[.agg #[.int .i64 0,.int .i64 0,.string ⟨#[]⟩,.slice none 0 0,.string ⟨#[]⟩,.int .i64 0,.int .i64 0,.string ⟨#[]⟩,.slice none 0 0,.string ⟨#[]⟩,.int .i64 0,.int .i64 0,.string ⟨#[]⟩,.slice none 0 0],.bool false]) (by simp[results,Tryz.results66,go_sem,r]) rfl ?_
 exact⟨⟨0,0,⟨#[]⟩,none,0,0⟩,⟨0,0,⟨#[]⟩,none,0,0⟩,⟨0,0,⟨#[]⟩,none,0,0⟩,⟨#[]⟩,⟨#[]⟩,l1,ns1,nv1,rfl,RS,rfl,RK⟩
theorem uR (w:World) (rb lb:Nat) (s:ByteArray) (l:List Zf.Tok) (ns:List ByteArray) (nv iv:Value) (e0:Int) (goals:Bool) (h:St w rb s l ns nv e0) (hb:w.heap[lb]?=some (.cells #[iv,.bool false,.bool goals] 80 (0,0))) (hne:lb≠rb) (hn0:lb≠0) (t:Zf.Tm) (l1:List Zf.Tok) (hkk:t.kind=3) (hT:Zf.term 8 l= .inr (t,l1)) (aV:Zf.bH l1=false) (heq:Zf.sees l1 [61]=false) (has:Zf.sees l1 [58,61]=false):
 Calls Tryz.prog 66 #[.pointer (some ⟨rb,0,none⟩),.pointer (some ⟨lb,0,none⟩)] w fun e w'=>nE rb lb iv s ns (Zf.bad 2 l1) w e w':=by
 have hlt:=h.lt
 have hlb:lb<w.heap.size:=af hb
 obtain⟨hS,hK,hB0,hB1⟩:=ed h hb
 unfold boxZ at hS hK hB0 hB1
 have HS:=hide hS
 have HK:=hide hK
 have aS:=hide hB0
 have bC:=hide hB1
 have I:=hide (fun W (hW:St W rb s l ns nv e0)=>term_all 8 W rb s l ns nv e0 1 rfl hW)
 rw[hT]at I
 clear hS hK hB0 hB1 h hb
 go_enter Tryz.func66,Tryz.ntmps66
 go_wp2_with fail
 refine(ae I _ (ae HS)).mono ?_
 have fJ:ak t.kind=1:=by rw[hkk];rfl
 have jY:=hide hkk
 clear hkk
 rintro e w1 ⟨val,tx,ao,cap,ns1,nv1,e1,rfl,htx,hs,hk⟩
 rw[fJ]
 have nY:=hide fJ
 clear fJ
 have fX:=hide htx
 clear htx
 have fC:=hide hs
 have bF:=hide (hs.below ((Below.refl _ _).alloc (Nat.le_refl _) (.cells #[.int .i64 1,.int .i64 val,.string tx,.slice ao t.args.length cap] 74)))
 have fO:=hide ((ae HK).trans hk)
 have hb0:=aj hk (ae aS) (by simp;omega)
 have hbl:=aj hk (ae bC) (by simpa using hne)
 have hz0:w.heap.size<w1.heap.size:=af hb0
 have hzl:lb<w1.heap.size:=af hbl
 have eK:=hide hb0
 have dA:=hide hbl
 have q:=ah hbl
 have y:=au hbl
 clear hs hk hb0 hbl
 go_wp2_with fail
 refine(bK _ rb s l1 ns1 nv1 e1 (ae bF)).mono ?_
 rintro e w2 ⟨rfl,hw⟩
 rw[hw]
 clear hw w2
 rw[aV]
 go_wp2_with fail
 refine(bD _ rb s l1 ns1 nv1 e1 _ (ae bF)).mono ?_
 rintro e w2 ⟨rfl,hw⟩
 rw[hw]
 simp only[ByteArray.toList_mk]
 clear hw w2
 rw[heq]
 go_wp2_with fail
 refine(bD _ rb s l1 ns1 nv1 e1 _ (ae bF)).mono ?_
 rintro e w2 ⟨rfl,hw⟩
 rw[hw]
 simp only[ByteArray.toList_mk]
 clear hw w2
 rw[has]
 go_wp2_with fail
 have nZ:Hid (St ((w1.setCell ⟨lb,1,none⟩ (.bool false)).alloc (.cells #[.int .i64 1,.int .i64 val,.string tx,.slice ao t.args.length cap] 74)) rb s l1 ns1 nv1 e1):=((ae fC).only ((aB.refl lb _).set 1 (.bool false)) hne hn0 (by unfold aM;rw[ae dA];simp)).below ((Below.refl _ _).alloc (Nat.le_refl _) _)
 have df:Hid (KA rb [rb,lb] w ((w1.setCell ⟨lb,1,none⟩ (.bool false)).alloc (.cells #[.int .i64 1,.int .i64 val,.string tx,.slice ao t.args.length cap] 74))):=((ae fO).wide.fH (by simp) _).alloc _
 have nR:Hid (((w1.setCell ⟨lb,1,none⟩ (.bool false)).alloc (.cells #[.int .i64 1,.int .i64 val,.string tx,.slice ao t.args.length cap] 74)).heap[lb]?=some (.cells #[iv,.bool false,.bool goals] 80 (0,0))):=aA (aw (ae dA) 1 (.bool false)) _
 have dF:Hid (((w1.setCell ⟨lb,1,none⟩ (.bool false)).alloc (.cells #[.int .i64 1,.int .i64 val,.string tx,.slice ao t.args.length cap] 74)).heap[w.heap.size]?=some (.cells #[.int .i64 0,.int .i64 0,.string ⟨#[]⟩,.slice none 0 0,.string ⟨#[]⟩,.int .i64 0,.int .i64 0,.string ⟨#[]⟩,.slice none 0 0,.string ⟨#[]⟩,.int .i64 0,.int .i64 0,.string ⟨#[]⟩,.slice none 0 0] 125 (0,0))):=aA (aF (ae eK) (by omega) _ _) _
 go_wp2_with fail
 refine(cg _ rb s l1 ns1 nv1 e1 2 (ae nZ)).mono ?_
 rintro e w3 ⟨rfl,hs3,hk3⟩
 have eI:=hide hs3
 have eo:=hide ((ae df).trans hk3.wide)
 have hb3:=aj hk3 (ae dF) (by simp;omega)
 have r:=ah hb3
 have x:=au hb3
 have bu:=hide hb3
 clear hs3 hk3 hb3
 go_wp2_with fail
 have RO:=(((((((((((((((aB.refl w.heap.size w3).set 0 (.int .i64 0)).set 1 (.int .i64 0)).set 2 (.string ⟨#[]⟩)).set 3 (.slice none 0 0)).set 4 (.string ⟨#[]⟩)).set 5 (.int .i64 0)).set 6 (.int .i64 0)).set 7 (.string ⟨#[]⟩)).set 8 (.slice none 0 0)).set 9 (.string ⟨#[]⟩)).set 10 (.int .i64 0)).set 11 (.int .i64 0)).set 12 (.string ⟨#[]⟩)).set 13 (.slice none 0 0))
 have RS:=(ae eI).only RO (by omega) (by omega) (by unfold aM;rw[ae bu];simp)
 have RK:=(ae eo).eG RO (Nat.le_refl _)
 refine bodyPost_ret (v:= .tuple #[.agg #[.int .i64 0,.int .i64 0,.string ⟨#[]⟩,.slice none 0 0,.string ⟨#[]⟩,.int .i64 0,.int .i64 0,.string ⟨#[]⟩,.slice none 0 0,.string ⟨#[]⟩,.int .i64 0,.int .i64 0,.string ⟨#[]⟩,.slice none 0 0],.bool false]) (by simp[results,Tryz.results66,go_sem,r]) rfl ?_
 exact⟨⟨0,0,⟨#[]⟩,none,0,0⟩,⟨0,0,⟨#[]⟩,none,0,0⟩,⟨0,0,⟨#[]⟩,none,0,0⟩,⟨#[]⟩,⟨#[]⟩,l1,ns1,nv1,rfl,RS,rfl,RK⟩
end Go.Proofs.YthfjnfcekeknlabGreatDoor
