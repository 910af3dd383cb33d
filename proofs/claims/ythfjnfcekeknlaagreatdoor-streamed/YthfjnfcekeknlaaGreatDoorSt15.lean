import Derived.Test.YthfjnfcekeknlaaGreatDoorSt12
set_option maxHeartbeats 8000000
set_option maxRecDepth 100000
namespace Go.Proofs.YthfjnfcekeknlaaGreatDoor
open Go.RowKit
theorem vJ (w:World) (rb lb:Nat) (s:ByteArray) (l:List Za.Tok) (ns:List ByteArray) (nv iv:Value) (e0:Int) (goals:Bool) (h:St w rb s l ns nv e0) (hb:w.heap[lb]?=some (.cells #[iv,.bool true,.bool goals] 82 (0,0))) (hne:lb≠rb) (hn0:lb≠0) (t:Za.Tm) (l1:List Za.Tok) (hkk:t.kind=3) (hi:Za.isInt t=false) (hT:Za.term 8 l= .inr (t,l1)) (aU:Za.br l1=false) (heq:Za.sees l1 [61]=false) (has:Za.sees l1 [58,61]=false):
 Calls Tryz.prog 80 #[.pointer (some ⟨rb,0,none⟩),.pointer (some ⟨lb,0,none⟩)] w fun e w'=>nk rb lb iv s ns (Za.bad 2 l1) w e w':=by
 have hlt:=h.lt
 have hlb:lb<w.heap.size:=af hb
 obtain⟨hS,hK,hB0,hB1⟩:=dO h hb
 unfold boxZ at hS hK hB0 hB1
 have HS:=hide hS
 have HK:=hide hK
 have aT:=hide hB0
 have aZ:=hide hB1
 have I:=hide (fun W (hW:St W rb s l ns nv e0)=>term_all 8 W rb s l ns nv e0 1 rfl hW)
 rw[hT]at I
 clear hS hK hB0 hB1 h hb
 go_enter Tryz.func80,Tryz.ntmps80
 go_wp2_with fail
 refine(ae I _ (ae HS)).mono ?_
 have fE:ak t.kind=1:=by rw[hkk];rfl
 have jI:=hide hkk
 clear hkk
 rintro e w1 ⟨val,tx,ao,cap,ns1,nv1,e1,rfl,htx,hs,hk⟩
 rw[fE]
 have nR:=hide fE
 clear fE
 have fP:=hide htx
 clear htx
 have ft:=hide hs
 have bp:=hide (hs.below ((Below.refl _ _).alloc (Nat.le_refl _) (.cells #[.int .i64 1,.int .i64 val,.string tx,.slice ao t.args.length cap] 76)))
 have fL:=hide ((ae HK).trans hk)
 have hb0:=ai hk (ae aT) (by simp;omega)
 have hbl:=ai hk (ae aZ) (by simpa using hne)
 have hz0:w.heap.size<w1.heap.size:=af hb0
 have hzl:lb<w1.heap.size:=af hbl
 have dG:=hide hb0
 have df:=hide hbl
 have q:=ag hbl
 have y:=aq hbl
 clear hs hk hb0 hbl
 go_wp2_with fail
 refine(bC _ rb s l1 ns1 nv1 e1 (ae bp)).mono ?_
 rintro e w2 ⟨rfl,hw⟩
 rw[hw]
 clear hw w2
 rw[aU]
 go_wp2_with fail
 refine(bl _ rb s l1 ns1 nv1 e1 _ (ae bp)).mono ?_
 rintro e w2 ⟨rfl,hw⟩
 rw[hw]
 simp only[ByteArray.toList_mk]
 clear hw w2
 rw[heq]
 go_wp2_with fail
 refine(bl _ rb s l1 ns1 nv1 e1 _ (ae bp)).mono ?_
 rintro e w2 ⟨rfl,hw⟩
 rw[hw]
 simp only[ByteArray.toList_mk]
 clear hw w2
 rw[has]
 go_wp2_with fail
 have l9:=hide (iT (w1.alloc (.cells #[.int .i64 1,.int .i64 val,.string tx,.slice ao t.args.length cap] 76)) t val tx ao cap (ae fP).txt (by have:=ae jI;omega))
 rw[ae nR]at l9
 refine(ae l9).mono ?_
 rintro e w2 ⟨rfl,cY⟩
 rw[hi]
 have uU:=hide cY
 have wZ:=hide ((ae bp).below cY)
 have hz2:w1.heap.size<w2.heap.size:=by have:=cY.size;simp at this;omega
 have gh:=(cY.block lb (by simp;omega)).trans (aw (ae df) (.cells #[.int .i64 1,.int .i64 val,.string tx,.slice ao t.args.length cap] 76))
 have lQ:=(cY.block w1.heap.size (by simp)).trans (heap_alloc_new w1 (.cells #[.int .i64 1,.int .i64 val,.string tx,.slice ao t.args.length cap] 76))
 have lR:=(cY.block w.heap.size (by simp;omega)).trans (aw (ae dG) (.cells #[.int .i64 1,.int .i64 val,.string tx,.slice ao t.args.length cap] 76))
 have kq:=hide (((ae fL).alloc (.cells #[.int .i64 1,.int .i64 val,.string tx,.slice ao t.args.length cap] 76)).trans (KA.of_below cY))
 have q2:=ag gh
 have y2:=aq gh
 have vv:=ag lQ
 have cX:=hide gh
 have jU:=hide lR
 clear cY gh lQ lR q y
 have nS:Hid (St (w2.setCell ⟨lb,1,none⟩ (.bool false)) rb s l1 ns1 nv1 e1):=(ae wZ).only ((aA.refl lb _).set 1 (.bool false)) hne hn0 (by unfold aL;rw[ae cX];simp)
 have cO:Hid (KA rb [rb,lb] w (w2.setCell ⟨lb,1,none⟩ (.bool false))):=(ae kq).wide.fB (by simp) _
 have nH:Hid ((w2.setCell ⟨lb,1,none⟩ (.bool false)).heap[lb]?=some (.cells #[iv,.bool false,.bool goals] 82 (0,0))):=au (ae cX) 1 (.bool false)
 have cZ:Hid ((w2.setCell ⟨lb,1,none⟩ (.bool false)).heap[w.heap.size]?=some (.cells #[.int .i64 0,.int .i64 0,.string ⟨#[]⟩,.slice none 0 0,.string ⟨#[]⟩,.int .i64 0,.int .i64 0,.string ⟨#[]⟩,.slice none 0 0,.string ⟨#[]⟩,.int .i64 0,.int .i64 0,.string ⟨#[]⟩,.slice none 0 0] 151 (0,0))):=aB (ae jU) (by omega) _ _
 go_wp2_with fail
 refine(bT _ rb s l1 ns1 nv1 e1 2 (ae nS)).mono ?_
 rintro e w3 ⟨rfl,hs3,hk3⟩
 have dV:=hide hs3
 have dQ:=hide ((ae cO).trans hk3.wide)
 have hb3:=ai hk3 (ae cZ) (by simp;omega)
 have r:=ag hb3
 have x:=aq hb3
 have bH:=hide hb3
 clear hs3 hk3 hb3
 go_wp2_with fail
 have RO:=(((((((((((((((aA.refl w.heap.size w3).set 0 (.int .i64 0)).set 1 (.int .i64 0)).set 2 (.string ⟨#[]⟩)).set 3 (.slice none 0 0)).set 4 (.string ⟨#[]⟩)).set 5 (.int .i64 0)).set 6 (.int .i64 0)).set 7 (.string ⟨#[]⟩)).set 8 (.slice none 0 0)).set 9 (.string ⟨#[]⟩)).set 10 (.int .i64 0)).set 11 (.int .i64 0)).set 12 (.string ⟨#[]⟩)).set 13 (.slice none 0 0))
 have RS:=(ae dV).only RO (by omega) (by omega) (by unfold aL;rw[ae bH];simp)
 have RK:=(ae dQ).dS RO (Nat.le_refl _)
 refine bodyPost_ret (v:= .tuple #[.agg #[.int .i64 0,.int .i64 0,.string ⟨#[]⟩,.slice none 0 0,.string ⟨#[]⟩,.int .i64 0,.int .i64 0,.string ⟨#[]⟩,.slice none 0 0,.string ⟨#[]⟩,.int .i64 0,.int .i64 0,.string ⟨#[]⟩,.slice none 0 0],.bool false]) (by simp[results,Tryz.results80,go_sem,r]) rfl ?_
 exact⟨⟨0,0,⟨#[]⟩,none,0,0⟩,⟨0,0,⟨#[]⟩,none,0,0⟩,⟨0,0,⟨#[]⟩,none,0,0⟩,⟨#[]⟩,⟨#[]⟩,l1,ns1,nv1,rfl,RS,rfl,RK⟩
theorem uD (w:World) (rb lb:Nat) (s:ByteArray) (l:List Za.Tok) (ns:List ByteArray) (nv iv:Value) (e0:Int) (goals:Bool) (h:St w rb s l ns nv e0) (hb:w.heap[lb]?=some (.cells #[iv,.bool false,.bool goals] 82 (0,0))) (hne:lb≠rb) (hn0:lb≠0) (t:Za.Tm) (l1:List Za.Tok) (hkk:t.kind=4) (hT:Za.term 8 l= .inr (t,l1)) (aU:Za.br l1=false) (heq:Za.sees l1 [61]=false):
 Calls Tryz.prog 80 #[.pointer (some ⟨rb,0,none⟩),.pointer (some ⟨lb,0,none⟩)] w fun e w'=>nk rb lb iv s ns (Za.bad 2 l1) w e w':=by
 have hlt:=h.lt
 have hlb:lb<w.heap.size:=af hb
 obtain⟨hS,hK,hB0,hB1⟩:=dO h hb
 unfold boxZ at hS hK hB0 hB1
 have HS:=hide hS
 have HK:=hide hK
 have aT:=hide hB0
 have aZ:=hide hB1
 have I:=hide (fun W (hW:St W rb s l ns nv e0)=>term_all 8 W rb s l ns nv e0 1 rfl hW)
 rw[hT]at I
 clear hS hK hB0 hB1 h hb
 go_enter Tryz.func80,Tryz.ntmps80
 go_wp2_with fail
 refine(ae I _ (ae HS)).mono ?_
 have fE:ak t.kind=2:=by rw[hkk];rfl
 have jI:=hide hkk
 clear hkk
 rintro e w1 ⟨val,tx,ao,cap,ns1,nv1,e1,rfl,htx,hs,hk⟩
 rw[fE]
 have nR:=hide fE
 clear fE
 have fP:=hide htx
 clear htx
 have ft:=hide hs
 have bp:=hide (hs.below ((Below.refl _ _).alloc (Nat.le_refl _) (.cells #[.int .i64 2,.int .i64 val,.string tx,.slice ao t.args.length cap] 76)))
 have fL:=hide ((ae HK).trans hk)
 have hb0:=ai hk (ae aT) (by simp;omega)
 have hbl:=ai hk (ae aZ) (by simpa using hne)
 have hz0:w.heap.size<w1.heap.size:=af hb0
 have hzl:lb<w1.heap.size:=af hbl
 have dG:=hide hb0
 have df:=hide hbl
 have q:=ag hbl
 have y:=aq hbl
 clear hs hk hb0 hbl
 go_wp2_with fail
 refine(bC _ rb s l1 ns1 nv1 e1 (ae bp)).mono ?_
 rintro e w2 ⟨rfl,hw⟩
 rw[hw]
 clear hw w2
 rw[aU]
 go_wp2_with fail
 refine(bl _ rb s l1 ns1 nv1 e1 _ (ae bp)).mono ?_
 rintro e w2 ⟨rfl,hw⟩
 rw[hw]
 simp only[ByteArray.toList_mk]
 clear hw w2
 rw[heq]
 go_wp2_with fail
 have nS:Hid (St ((w1.setCell ⟨lb,1,none⟩ (.bool false)).alloc (.cells #[.int .i64 2,.int .i64 val,.string tx,.slice ao t.args.length cap] 76)) rb s l1 ns1 nv1 e1):=((ae ft).only ((aA.refl lb _).set 1 (.bool false)) hne hn0 (by unfold aL;rw[ae df];simp)).below ((Below.refl _ _).alloc (Nat.le_refl _) _)
 have cO:Hid (KA rb [rb,lb] w ((w1.setCell ⟨lb,1,none⟩ (.bool false)).alloc (.cells #[.int .i64 2,.int .i64 val,.string tx,.slice ao t.args.length cap] 76))):=((ae fL).wide.fB (by simp) _).alloc _
 have nH:Hid (((w1.setCell ⟨lb,1,none⟩ (.bool false)).alloc (.cells #[.int .i64 2,.int .i64 val,.string tx,.slice ao t.args.length cap] 76)).heap[lb]?=some (.cells #[iv,.bool false,.bool goals] 82 (0,0))):=aw (au (ae df) 1 (.bool false)) _
 have cZ:Hid (((w1.setCell ⟨lb,1,none⟩ (.bool false)).alloc (.cells #[.int .i64 2,.int .i64 val,.string tx,.slice ao t.args.length cap] 76)).heap[w.heap.size]?=some (.cells #[.int .i64 0,.int .i64 0,.string ⟨#[]⟩,.slice none 0 0,.string ⟨#[]⟩,.int .i64 0,.int .i64 0,.string ⟨#[]⟩,.slice none 0 0,.string ⟨#[]⟩,.int .i64 0,.int .i64 0,.string ⟨#[]⟩,.slice none 0 0] 151 (0,0))):=aw (aB (ae dG) (by omega) _ _) _
 go_wp2_with fail
 refine(bT _ rb s l1 ns1 nv1 e1 2 (ae nS)).mono ?_
 rintro e w3 ⟨rfl,hs3,hk3⟩
 have dV:=hide hs3
 have dQ:=hide ((ae cO).trans hk3.wide)
 have hb3:=ai hk3 (ae cZ) (by simp;omega)
 have r:=ag hb3
 have x:=aq hb3
 have bH:=hide hb3
 clear hs3 hk3 hb3
 go_wp2_with fail
 have RO:=(((((((((((((((aA.refl w.heap.size w3).set 0 (.int .i64 0)).set 1 (.int .i64 0)).set 2 (.string ⟨#[]⟩)).set 3 (.slice none 0 0)).set 4 (.string ⟨#[]⟩)).set 5 (.int .i64 0)).set 6 (.int .i64 0)).set 7 (.string ⟨#[]⟩)).set 8 (.slice none 0 0)).set 9 (.string ⟨#[]⟩)).set 10 (.int .i64 0)).set 11 (.int .i64 0)).set 12 (.string ⟨#[]⟩)).set 13 (.slice none 0 0))
 have RS:=(ae dV).only RO (by omega) (by omega) (by unfold aL;rw[ae bH];simp)
 have RK:=(ae dQ).dS RO (Nat.le_refl _)
 refine bodyPost_ret (v:= .tuple #[.agg #[.int .i64 0,.int .i64 0,.string ⟨#[]⟩,.slice none 0 0,.string ⟨#[]⟩,.int .i64 0,.int .i64 0,.string ⟨#[]⟩,.slice none 0 0,.string ⟨#[]⟩,.int .i64 0,.int .i64 0,.string ⟨#[]⟩,.slice none 0 0],.bool false]) (by simp[results,Tryz.results80,go_sem,r]) rfl ?_
 exact⟨⟨0,0,⟨#[]⟩,none,0,0⟩,⟨0,0,⟨#[]⟩,none,0,0⟩,⟨0,0,⟨#[]⟩,none,0,0⟩,⟨#[]⟩,⟨#[]⟩,l1,ns1,nv1,rfl,RS,rfl,RK⟩
theorem vK (w:World) (rb lb:Nat) (s:ByteArray) (l:List Za.Tok) (ns:List ByteArray) (nv iv:Value) (e0:Int) (goals:Bool) (h:St w rb s l ns nv e0) (hb:w.heap[lb]?=some (.cells #[iv,.bool true,.bool goals] 82 (0,0))) (hne:lb≠rb) (hn0:lb≠0) (t:Za.Tm) (l1:List Za.Tok) (hkk:t.kind=4) (hi:Za.isInt t=false) (hT:Za.term 8 l= .inr (t,l1)) (aU:Za.br l1=false) (heq:Za.sees l1 [61]=false):
 Calls Tryz.prog 80 #[.pointer (some ⟨rb,0,none⟩),.pointer (some ⟨lb,0,none⟩)] w fun e w'=>nk rb lb iv s ns (Za.bad 2 l1) w e w':=by
 have hlt:=h.lt
 have hlb:lb<w.heap.size:=af hb
 obtain⟨hS,hK,hB0,hB1⟩:=dO h hb
 unfold boxZ at hS hK hB0 hB1
 have HS:=hide hS
 have HK:=hide hK
 have aT:=hide hB0
 have aZ:=hide hB1
 have I:=hide (fun W (hW:St W rb s l ns nv e0)=>term_all 8 W rb s l ns nv e0 1 rfl hW)
 rw[hT]at I
 clear hS hK hB0 hB1 h hb
 go_enter Tryz.func80,Tryz.ntmps80
 go_wp2_with fail
 refine(ae I _ (ae HS)).mono ?_
 have fE:ak t.kind=2:=by rw[hkk];rfl
 have jI:=hide hkk
 clear hkk
 rintro e w1 ⟨val,tx,ao,cap,ns1,nv1,e1,rfl,htx,hs,hk⟩
 rw[fE]
 have nR:=hide fE
 clear fE
 have fP:=hide htx
 clear htx
 have ft:=hide hs
 have bp:=hide (hs.below ((Below.refl _ _).alloc (Nat.le_refl _) (.cells #[.int .i64 2,.int .i64 val,.string tx,.slice ao t.args.length cap] 76)))
 have fL:=hide ((ae HK).trans hk)
 have hb0:=ai hk (ae aT) (by simp;omega)
 have hbl:=ai hk (ae aZ) (by simpa using hne)
 have hz0:w.heap.size<w1.heap.size:=af hb0
 have hzl:lb<w1.heap.size:=af hbl
 have dG:=hide hb0
 have df:=hide hbl
 have q:=ag hbl
 have y:=aq hbl
 clear hs hk hb0 hbl
 go_wp2_with fail
 refine(bC _ rb s l1 ns1 nv1 e1 (ae bp)).mono ?_
 rintro e w2 ⟨rfl,hw⟩
 rw[hw]
 clear hw w2
 rw[aU]
 go_wp2_with fail
 refine(bl _ rb s l1 ns1 nv1 e1 _ (ae bp)).mono ?_
 rintro e w2 ⟨rfl,hw⟩
 rw[hw]
 simp only[ByteArray.toList_mk]
 clear hw w2
 rw[heq]
 go_wp2_with fail
 have l9:=hide (iT (w1.alloc (.cells #[.int .i64 2,.int .i64 val,.string tx,.slice ao t.args.length cap] 76)) t val tx ao cap (ae fP).txt (by have:=ae jI;omega))
 rw[ae nR]at l9
 refine(ae l9).mono ?_
 rintro e w2 ⟨rfl,cY⟩
 rw[hi]
 have uU:=hide cY
 have wZ:=hide ((ae bp).below cY)
 have hz2:w1.heap.size<w2.heap.size:=by have:=cY.size;simp at this;omega
 have gh:=(cY.block lb (by simp;omega)).trans (aw (ae df) (.cells #[.int .i64 2,.int .i64 val,.string tx,.slice ao t.args.length cap] 76))
 have lQ:=(cY.block w1.heap.size (by simp)).trans (heap_alloc_new w1 (.cells #[.int .i64 2,.int .i64 val,.string tx,.slice ao t.args.length cap] 76))
 have lR:=(cY.block w.heap.size (by simp;omega)).trans (aw (ae dG) (.cells #[.int .i64 2,.int .i64 val,.string tx,.slice ao t.args.length cap] 76))
 have kq:=hide (((ae fL).alloc (.cells #[.int .i64 2,.int .i64 val,.string tx,.slice ao t.args.length cap] 76)).trans (KA.of_below cY))
 have q2:=ag gh
 have y2:=aq gh
 have vv:=ag lQ
 have cX:=hide gh
 have jU:=hide lR
 clear cY gh lQ lR q y
 have nS:Hid (St (w2.setCell ⟨lb,1,none⟩ (.bool false)) rb s l1 ns1 nv1 e1):=(ae wZ).only ((aA.refl lb _).set 1 (.bool false)) hne hn0 (by unfold aL;rw[ae cX];simp)
 have cO:Hid (KA rb [rb,lb] w (w2.setCell ⟨lb,1,none⟩ (.bool false))):=(ae kq).wide.fB (by simp) _
 have nH:Hid ((w2.setCell ⟨lb,1,none⟩ (.bool false)).heap[lb]?=some (.cells #[iv,.bool false,.bool goals] 82 (0,0))):=au (ae cX) 1 (.bool false)
 have cZ:Hid ((w2.setCell ⟨lb,1,none⟩ (.bool false)).heap[w.heap.size]?=some (.cells #[.int .i64 0,.int .i64 0,.string ⟨#[]⟩,.slice none 0 0,.string ⟨#[]⟩,.int .i64 0,.int .i64 0,.string ⟨#[]⟩,.slice none 0 0,.string ⟨#[]⟩,.int .i64 0,.int .i64 0,.string ⟨#[]⟩,.slice none 0 0] 151 (0,0))):=aB (ae jU) (by omega) _ _
 go_wp2_with fail
 refine(bT _ rb s l1 ns1 nv1 e1 2 (ae nS)).mono ?_
 rintro e w3 ⟨rfl,hs3,hk3⟩
 have dV:=hide hs3
 have dQ:=hide ((ae cO).trans hk3.wide)
 have hb3:=ai hk3 (ae cZ) (by simp;omega)
 have r:=ag hb3
 have x:=aq hb3
 have bH:=hide hb3
 clear hs3 hk3 hb3
 go_wp2_with fail
 have RO:=(((((((((((((((aA.refl w.heap.size w3).set 0 (.int .i64 0)).set 1 (.int .i64 0)).set 2 (.string ⟨#[]⟩)).set 3 (.slice none 0 0)).set 4 (.string ⟨#[]⟩)).set 5 (.int .i64 0)).set 6 (.int .i64 0)).set 7 (.string ⟨#[]⟩)).set 8 (.slice none 0 0)).set 9 (.string ⟨#[]⟩)).set 10 (.int .i64 0)).set 11 (.int .i64 0)).set 12 (.string ⟨#[]⟩)).set 13 (.slice none 0 0))
 have RS:=(ae dV).only RO (by omega) (by omega) (by unfold aL;rw[ae bH];simp)
 have RK:=(ae dQ).dS RO (Nat.le_refl _)
 refine bodyPost_ret (v:= .tuple #[.agg #[.int .i64 0,.int .i64 0,.string ⟨#[]⟩,.slice none 0 0,.string ⟨#[]⟩,.int .i64 0,.int .i64 0,.string ⟨#[]⟩,.slice none 0 0,.string ⟨#[]⟩,.int .i64 0,.int .i64 0,.string ⟨#[]⟩,.slice none 0 0],.bool false]) (by simp[results,Tryz.results80,go_sem,r]) rfl ?_
 exact⟨⟨0,0,⟨#[]⟩,none,0,0⟩,⟨0,0,⟨#[]⟩,none,0,0⟩,⟨0,0,⟨#[]⟩,none,0,0⟩,⟨#[]⟩,⟨#[]⟩,l1,ns1,nv1,rfl,RS,rfl,RK⟩
theorem Ii (w:World) (rb:Nat) (s:ByteArray) (l:List Za.Tok) (ns:List ByteArray) (nv:Value) (e0:Int) (a:TV) (left:Za.Tm) (h:St w rb s l ns nv e0) (h0:(Za.hd l).kind≠0):
 Calls Tryz.prog 135 #[.pointer (some ⟨rb,0,none⟩),.agg #[.int .i64 a.k,.int .i64 a.val,.string a.tx,.slice a.ao a.n a.cap],.bool false] w fun e w'=>mU rb s a left ns (Za.assignment left false l) w e w':=by
 have hlt:=h.lt
 have h0':=hide h0
 obtain⟨hS,hK,hB1,hB2,hz⟩:=jE a (Za.hd l).text h
 unfold jT boxZ kL at hS hK hB1 hB2 hz
 have HS:=hide hS
 have HK:=hide hK
 have aZ:=hide hB1
 have aX:=hide hB2
 have HZ:=hide hz
 clear hS hK hB1 hB2 hz
 obtain⟨⟨c0,c1,c2,c3,c4,c5,f1,f2,f3,f4,f5⟩,own,chain,isn,few,short,signs,pos,lt⟩:=h
 clear own chain isn few short signs c0 c1 c2 c4 c5 f1 f2 f3 f4 f5 h0
 have hc2:∀o1 o2,((w.alloc o1).alloc o2).cell? ⟨rb,3,none⟩=some (.string (Za.hd l).text):=fun o1 o2=>by rw[World.cell?_alloc_past _ _ _ (by simp;omega),World.cell?_alloc_past _ _ _ hlt];exact c3
 have hc3:∀o1 o2 o3,(((w.alloc o1).alloc o2).alloc o3).cell? ⟨rb,3,none⟩=some (.string (Za.hd l).text):=fun o1 o2 o3=>by rw[World.cell?_alloc_past _ _ _ (by simp;omega)];exact hc2 o1 o2
 show Calls _ _ _ _ fun e w'=>mU rb s a left ns (Za.bad 2 l) w e w'
 go_enter Tryz.func135,Tryz.ntmps135
 go_wp2_with fail
 go_big_region
 go_wp2_with fail
 refine(dA _ rb s l ns nv e0 false (ae HS) (fun q=>by cases q)).mono ?_
 rintro e w1 ⟨rfl,hs,hk⟩
 have hb1:=ai hk (ae aZ) (by simp;omega)
 have hb2:=ai hk (ae aX) (by simp;omega)
 have bp:=hide hs
 have cO:=hide ((ae HK).trans hk)
 clear hs hk hc2 hc3 c3
 have r:=ag hb1
 have x:=aq hb1
 have q:=ag hb2
 have y:=aq hb2
 have HB1':=hide hb1
 clear hb1 hb2
 go_wp2_with fail
 have R:=bO (ae bp) (ae cO) hlt (by omega) (ae HB1') (((((((((((((((aA.refl _ _).set 0 (.int .i64 a.k)).set 1 (.int .i64 a.val)).set 2 (.string a.tx)).set 3 (.slice a.ao a.n a.cap)).set 4 (.string (Za.hd l).text)).set 5 (.int .i64 0)).set 6 (.int .i64 0)).set 7 (.string ⟨#[]⟩)).set 8 (.slice none 0 0)).set 9 (.string ⟨#[]⟩)).set 10 (.int .i64 0)).set 11 (.int .i64 0)).set 12 (.string ⟨#[]⟩)).set 13 (.slice none 0 0))
 refine bodyPost_ret (v:= .tuple #[.agg #[.int .i64 a.k,.int .i64 a.val,.string a.tx,.slice a.ao a.n a.cap,.string (Za.hd l).text,.int .i64 0,.int .i64 0,.string ⟨#[]⟩,.slice none 0 0,.string ⟨#[]⟩,.int .i64 0,.int .i64 0,.string ⟨#[]⟩,.slice none 0 0],.bool false]) (by simp[results,Tryz.results135,go_sem,r]) rfl ?_
 exact⟨a,⟨0,0,⟨#[]⟩,none,0,0⟩,⟨0,0,⟨#[]⟩,none,0,0⟩,(Za.hd l).text,⟨#[]⟩,l,ns,nv,rfl,R.1,rfl,R.2⟩
theorem BB (w:World) (rb:Nat) (s:ByteArray) (l:List Za.Tok) (ns:List ByteArray) (nv:Value) (e0:Int) (a:TV) (left:Za.Tm) (er ps:Nat) (h:St w rb s l ns nv e0) (h0:(Za.hd l).kind≠0) (hO:Za.operand l.tail= .inl (er,ps)):
 Calls Tryz.prog 135 #[.pointer (some ⟨rb,0,none⟩),.agg #[.int .i64 a.k,.int .i64 a.val,.string a.tx,.slice a.ao a.n a.cap],.bool true] w fun e w'=>mU rb s a left ns (Za.assignment left true l) w e w':=by
 have hlt:=h.lt
 have h0':=hide h0
 have I:=hide (fun W nv (hW:St W rb s l.tail ns nv e0)=>jc W rb s l.tail ns nv e0 hW)
 rw[hO]at I
 obtain⟨hS,hK,hB1,hB2,hz⟩:=jE a (Za.hd l).text h
 unfold jT boxZ kL at hS hK hB1 hB2 hz
 have HS:=hide hS
 have HK:=hide hK
 have aZ:=hide hB1
 have aX:=hide hB2
 have HZ:=hide hz
 clear hS hK hB1 hB2 hz
 obtain⟨⟨c0,c1,c2,c3,c4,c5,f1,f2,f3,f4,f5⟩,own,chain,isn,few,short,signs,pos,lt⟩:=h
 clear own chain isn few short signs c0 c1 c2 c4 c5 f1 f2 f3 f4 f5 h0
 have hc2:∀o1 o2,((w.alloc o1).alloc o2).cell? ⟨rb,3,none⟩=some (.string (Za.hd l).text):=fun o1 o2=>by rw[World.cell?_alloc_past _ _ _ (by simp;omega),World.cell?_alloc_past _ _ _ hlt];exact c3
 have hc3:∀o1 o2 o3,(((w.alloc o1).alloc o2).alloc o3).cell? ⟨rb,3,none⟩=some (.string (Za.hd l).text):=fun o1 o2 o3=>by rw[World.cell?_alloc_past _ _ _ (by simp;omega)];exact hc2 o1 o2
 have HA:Za.assignment left true l= .inl (er,ps):=by unfold Za.assignment;rw[if_pos rfl,hO]
 rw[HA]
 clear HA hO
 go_enter Tryz.func135,Tryz.ntmps135
 go_wp2_with fail
 go_big_region
 go_wp2_with fail
 refine(dA _ rb s l ns nv e0 true (ae HS) (fun _=>ae h0')).mono ?_
 rintro e w1 ⟨rfl,hs,hk⟩
 have HB1':=hide (ai hk (ae aZ) (by simp;omega))
 have HB2':=hide (ai hk (ae aX) (by simp;omega))
 have bp:=hide hs
 have cO:=hide ((ae HK).trans hk)
 clear hs hk hc2 hc3 c3
 go_wp2_with fail
 refine(ae I _ _ (ae bp)).mono ?_
 rintro e w2 ⟨k,val,tx,ao,n,cap,l',ns',nv',rfl,hs2,hpos,hk2⟩
 have HP:=hide hpos
 clear hpos
 have hb1:=ai hk2 (ae HB1') (by simp;omega)
 have hb2:=ai hk2 (ae HB2') (by simp;omega)
 have hz1:w.heap.size+1<w2.heap.size:=af hb1
 have hz2:w.heap.size+1+1<w2.heap.size:=af hb2
 have bV:=hide hs2
 have cQ:=hide ((ae cO).trans hk2)
 clear hs2 hk2
 have r:=ag hb1
 have x:=aq hb1
 have q:=ag hb2
 have y:=aq hb2
 have HB1'':=hide hb1
 have HB2'':=hide hb2
 clear hb1 hb2
 go_wp2_with fail
 have R:=qV (ae bV) (ae cQ) hlt (by omega) (by omega) (ae HB2'') (ae HB1'') (((((aA.refl _ _).set 5 (.int .i64 k)).set 6 (.int .i64 val)).set 7 (.string tx)).set 8 (.slice ao n cap)) (((((((((((((((aA.refl _ _).set 0 (.int .i64 a.k)).set 1 (.int .i64 a.val)).set 2 (.string a.tx)).set 3 (.slice a.ao a.n a.cap)).set 4 (.string (Za.hd l).text)).set 5 (.int .i64 k)).set 6 (.int .i64 val)).set 7 (.string tx)).set 8 (.slice ao n cap)).set 9 (.string ⟨#[]⟩)).set 10 (.int .i64 0)).set 11 (.int .i64 0)).set 12 (.string ⟨#[]⟩)).set 13 (.slice none 0 0))
 refine bodyPost_ret (v:= .tuple #[.agg #[.int .i64 a.k,.int .i64 a.val,.string a.tx,.slice a.ao a.n a.cap,.string (Za.hd l).text,.int .i64 k,.int .i64 val,.string tx,.slice ao n cap,.string ⟨#[]⟩,.int .i64 0,.int .i64 0,.string ⟨#[]⟩,.slice none 0 0],.bool false]) (by simp[results,Tryz.results135,go_sem,hz1,r]) rfl ?_
 exact⟨a,⟨k,val,tx,ao,n,cap⟩,⟨0,0,⟨#[]⟩,none,0,0⟩,(Za.hd l).text,⟨#[]⟩,l',ns',nv',rfl,R.1.below ((Below.refl _ _).alloc (Nat.le_refl _) _),ae HP,R.2.alloc _⟩
end Go.Proofs.YthfjnfcekeknlaaGreatDoor
