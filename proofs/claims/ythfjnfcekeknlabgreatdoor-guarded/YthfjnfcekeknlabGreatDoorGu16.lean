import Derived.Test.YthfjnfcekeknlabGreatDoorGu10
set_option maxHeartbeats 8000000
set_option maxRecDepth 100000
namespace Go.Proofs.YthfjnfcekeknlabGreatDoor
open Go.RowKit
theorem vV (w:World) (rb lb:Nat) (s:ByteArray) (l:List Zf.Tok) (ns:List ByteArray) (nv iv:Value) (e0:Int) (goals:Bool) (h:St w rb s l ns nv e0) (hb:w.heap[lb]?=some (.cells #[iv,.bool true,.bool goals] 80 (0,0))) (hne:lb≠rb) (hn0:lb≠0) (t:Zf.Tm) (l1:List Zf.Tok) (hkk:t.kind=3) (hi:Zf.isInt t=false) (hT:Zf.term 8 l= .inr (t,l1)) (aV:Zf.bH l1=false) (heq:Zf.sees l1 [61]=false) (has:Zf.sees l1 [58,61]=false):
 Calls Tryz.prog 66 #[.pointer (some ⟨rb,0,none⟩),.pointer (some ⟨lb,0,none⟩)] w fun e w'=>nE rb lb iv s ns (Zf.bad 2 l1) w e w':=by
 have hlt:=h.lt
 have hlb:lb<w.heap.size:=af hb
 obtain⟨hS,hK,hB0,hB1⟩:=ed h hb
 unfold boxZ at hS hK hB0 hB1
 have HS:=hide hS
 have HK:=hide hK
 have aS:=hide hB0
 have bC:=hide hB1
 have I:=hide (fun W (hW:St W rb s l ns nv e0)=>term_all 8 W rb s l ns nv e0 1 rfl hW)
 rw[hT]at I
 clear hS hK hB0 hB1 h hb
 go_enter Tryz.func66,Tryz.ntmps66
 go_wp2_with fail
 refine(ae I _ (ae HS)).mono ?_
 have fJ:ak t.kind=1:=by rw[hkk];rfl
 have jY:=hide hkk
 clear hkk
 rintro e w1 ⟨val,tx,ao,cap,ns1,nv1,e1,rfl,htx,hs,hk⟩
 rw[fJ]
 have nY:=hide fJ
 clear fJ
 have fX:=hide htx
 clear htx
 have fC:=hide hs
 have bF:=hide (hs.below ((Below.refl _ _).alloc (Nat.le_refl _) (.cells #[.int .i64 1,.int .i64 val,.string tx,.slice ao t.args.length cap] 74)))
 have fO:=hide ((ae HK).trans hk)
 have hb0:=aj hk (ae aS) (by simp;omega)
 have hbl:=aj hk (ae bC) (by simpa using hne)
 have hz0:w.heap.size<w1.heap.size:=af hb0
 have hzl:lb<w1.heap.size:=af hbl
 have eK:=hide hb0
 have dA:=hide hbl
 have q:=ah hbl
 have y:=au hbl
 clear hs hk hb0 hbl
 go_wp2_with fail
 refine(bK _ rb s l1 ns1 nv1 e1 (ae bF)).mono ?_
 rintro e w2 ⟨rfl,hw⟩
 rw[hw]
 clear hw w2
 rw[aV]
 go_wp2_with fail
 refine(bD _ rb s l1 ns1 nv1 e1 _ (ae bF)).mono ?_
 rintro e w2 ⟨rfl,hw⟩
 rw[hw]
 simp only[ByteArray.toList_mk]
 clear hw w2
 rw[heq]
 go_wp2_with fail
 refine(bD _ rb s l1 ns1 nv1 e1 _ (ae bF)).mono ?_
 rintro e w2 ⟨rfl,hw⟩
 rw[hw]
 simp only[ByteArray.toList_mk]
 clear hw w2
 rw[has]
 go_wp2_with fail
 have mE:=hide (je (w1.alloc (.cells #[.int .i64 1,.int .i64 val,.string tx,.slice ao t.args.length cap] 74)) t val tx ao cap (ae fX).txt (by have:=ae jY;omega))
 rw[ae nY]at mE
 refine(ae mE).mono ?_
 rintro e w2 ⟨rfl,dO⟩
 rw[hi]
 have Eo:=hide dO
 have xt:=hide ((ae bF).below dO)
 have hz2:w1.heap.size<w2.heap.size:=by have:=dO.size;simp at this;omega
 have gI:=(dO.block lb (by simp;omega)).trans (aA (ae dA) (.cells #[.int .i64 1,.int .i64 val,.string tx,.slice ao t.args.length cap] 74))
 have mn:=(dO.block w1.heap.size (by simp)).trans (heap_alloc_new w1 (.cells #[.int .i64 1,.int .i64 val,.string tx,.slice ao t.args.length cap] 74))
 have jI:=(dO.block w.heap.size (by simp;omega)).trans (aA (ae eK) (.cells #[.int .i64 1,.int .i64 val,.string tx,.slice ao t.args.length cap] 74))
 have kN:=hide (((ae fO).alloc (.cells #[.int .i64 1,.int .i64 val,.string tx,.slice ao t.args.length cap] 74)).trans (KA.of_below dO))
 have q2:=ah gI
 have y2:=au gI
 have vv:=ah mn
 have dE:=hide gI
 have kC:=hide jI
 clear dO gI mn jI q y
 have nZ:Hid (St (w2.setCell ⟨lb,1,none⟩ (.bool false)) rb s l1 ns1 nv1 e1):=(ae xt).only ((aB.refl lb _).set 1 (.bool false)) hne hn0 (by unfold aM;rw[ae dE];simp)
 have df:Hid (KA rb [rb,lb] w (w2.setCell ⟨lb,1,none⟩ (.bool false))):=(ae kN).wide.fH (by simp) _
 have nR:Hid ((w2.setCell ⟨lb,1,none⟩ (.bool false)).heap[lb]?=some (.cells #[iv,.bool false,.bool goals] 80 (0,0))):=aw (ae dE) 1 (.bool false)
 have dF:Hid ((w2.setCell ⟨lb,1,none⟩ (.bool false)).heap[w.heap.size]?=some (.cells #[.int .i64 0,.int .i64 0,.string ⟨#[]⟩,.slice none 0 0,.string ⟨#[]⟩,.int .i64 0,.int .i64 0,.string ⟨#[]⟩,.slice none 0 0,.string ⟨#[]⟩,.int .i64 0,.int .i64 0,.string ⟨#[]⟩,.slice none 0 0] 125 (0,0))):=aF (ae kC) (by omega) _ _
 go_wp2_with fail
 refine(cg _ rb s l1 ns1 nv1 e1 2 (ae nZ)).mono ?_
 rintro e w3 ⟨rfl,hs3,hk3⟩
 have eI:=hide hs3
 have eo:=hide ((ae df).trans hk3.wide)
 have hb3:=aj hk3 (ae dF) (by simp;omega)
 have r:=ah hb3
 have x:=au hb3
 have bu:=hide hb3
 clear hs3 hk3 hb3
 go_wp2_with fail
 have RO:=(((((((((((((((aB.refl w.heap.size w3).set 0 (.int .i64 0)).set 1 (.int .i64 0)).set 2 (.string ⟨#[]⟩)).set 3 (.slice none 0 0)).set 4 (.string ⟨#[]⟩)).set 5 (.int .i64 0)).set 6 (.int .i64 0)).set 7 (.string ⟨#[]⟩)).set 8 (.slice none 0 0)).set 9 (.string ⟨#[]⟩)).set 10 (.int .i64 0)).set 11 (.int .i64 0)).set 12 (.string ⟨#[]⟩)).set 13 (.slice none 0 0))
 have RS:=(ae eI).only RO (by omega) (by omega) (by unfold aM;rw[ae bu];simp)
 have RK:=(ae eo).eG RO (Nat.le_refl _)
 refine bodyPost_ret (v:= .tuple #[.agg #[.int .i64 0,.int .i64 0,.string ⟨#[]⟩,.slice none 0 0,.string ⟨#[]⟩,.int .i64 0,.int .i64 0,.string ⟨#[]⟩,.slice none 0 0,.string ⟨#[]⟩,.int .i64 0,.int .i64 0,.string ⟨#[]⟩,.slice none 0 0],.bool false]) (by simp[results,Tryz.results66,go_sem,r]) rfl ?_
 exact⟨⟨0,0,⟨#[]⟩,none,0,0⟩,⟨0,0,⟨#[]⟩,none,0,0⟩,⟨0,0,⟨#[]⟩,none,0,0⟩,⟨#[]⟩,⟨#[]⟩,l1,ns1,nv1,rfl,RS,rfl,RK⟩
theorem uU (w:World) (rb lb:Nat) (s:ByteArray) (l:List Zf.Tok) (ns:List ByteArray) (nv iv:Value) (e0:Int) (goals:Bool) (h:St w rb s l ns nv e0) (hb:w.heap[lb]?=some (.cells #[iv,.bool false,.bool goals] 80 (0,0))) (hne:lb≠rb) (hn0:lb≠0) (t:Zf.Tm) (l1:List Zf.Tok) (hkk:t.kind=4) (hT:Zf.term 8 l= .inr (t,l1)) (aV:Zf.bH l1=false) (heq:Zf.sees l1 [61]=false):
 Calls Tryz.prog 66 #[.pointer (some ⟨rb,0,none⟩),.pointer (some ⟨lb,0,none⟩)] w fun e w'=>nE rb lb iv s ns (Zf.bad 2 l1) w e w':=by
 have hlt:=h.lt
 have hlb:lb<w.heap.size:=af hb
 obtain⟨hS,hK,hB0,hB1⟩:=ed h hb
 unfold boxZ at hS hK hB0 hB1
 have HS:=hide hS
 have HK:=hide hK
 have aS:=hide hB0
 have bC:=hide hB1
 have I:=hide (fun W (hW:St W rb s l ns nv e0)=>term_all 8 W rb s l ns nv e0 1 rfl hW)
 rw[hT]at I
 clear hS hK hB0 hB1 h hb
 go_enter Tryz.func66,Tryz.ntmps66
 go_wp2_with fail
 refine(ae I _ (ae HS)).mono ?_
 have fJ:ak t.kind=2:=by rw[hkk];rfl
 have jY:=hide hkk
 clear hkk
 rintro e w1 ⟨val,tx,ao,cap,ns1,nv1,e1,rfl,htx,hs,hk⟩
 rw[fJ]
 have nY:=hide fJ
 clear fJ
 have fX:=hide htx
 clear htx
 have fC:=hide hs
 have bF:=hide (hs.below ((Below.refl _ _).alloc (Nat.le_refl _) (.cells #[.int .i64 2,.int .i64 val,.string tx,.slice ao t.args.length cap] 74)))
 have fO:=hide ((ae HK).trans hk)
 have hb0:=aj hk (ae aS) (by simp;omega)
 have hbl:=aj hk (ae bC) (by simpa using hne)
 have hz0:w.heap.size<w1.heap.size:=af hb0
 have hzl:lb<w1.heap.size:=af hbl
 have eK:=hide hb0
 have dA:=hide hbl
 have q:=ah hbl
 have y:=au hbl
 clear hs hk hb0 hbl
 go_wp2_with fail
 refine(bK _ rb s l1 ns1 nv1 e1 (ae bF)).mono ?_
 rintro e w2 ⟨rfl,hw⟩
 rw[hw]
 clear hw w2
 rw[aV]
 go_wp2_with fail
 refine(bD _ rb s l1 ns1 nv1 e1 _ (ae bF)).mono ?_
 rintro e w2 ⟨rfl,hw⟩
 rw[hw]
 simp only[ByteArray.toList_mk]
 clear hw w2
 rw[heq]
 go_wp2_with fail
 have nZ:Hid (St ((w1.setCell ⟨lb,1,none⟩ (.bool false)).alloc (.cells #[.int .i64 2,.int .i64 val,.string tx,.slice ao t.args.length cap] 74)) rb s l1 ns1 nv1 e1):=((ae fC).only ((aB.refl lb _).set 1 (.bool false)) hne hn0 (by unfold aM;rw[ae dA];simp)).below ((Below.refl _ _).alloc (Nat.le_refl _) _)
 have df:Hid (KA rb [rb,lb] w ((w1.setCell ⟨lb,1,none⟩ (.bool false)).alloc (.cells #[.int .i64 2,.int .i64 val,.string tx,.slice ao t.args.length cap] 74))):=((ae fO).wide.fH (by simp) _).alloc _
 have nR:Hid (((w1.setCell ⟨lb,1,none⟩ (.bool false)).alloc (.cells #[.int .i64 2,.int .i64 val,.string tx,.slice ao t.args.length cap] 74)).heap[lb]?=some (.cells #[iv,.bool false,.bool goals] 80 (0,0))):=aA (aw (ae dA) 1 (.bool false)) _
 have dF:Hid (((w1.setCell ⟨lb,1,none⟩ (.bool false)).alloc (.cells #[.int .i64 2,.int .i64 val,.string tx,.slice ao t.args.length cap] 74)).heap[w.heap.size]?=some (.cells #[.int .i64 0,.int .i64 0,.string ⟨#[]⟩,.slice none 0 0,.string ⟨#[]⟩,.int .i64 0,.int .i64 0,.string ⟨#[]⟩,.slice none 0 0,.string ⟨#[]⟩,.int .i64 0,.int .i64 0,.string ⟨#[]⟩,.slice none 0 0] 125 (0,0))):=aA (aF (ae eK) (by omega) _ _) _
 go_wp2_with fail
 refine(cg _ rb s l1 ns1 nv1 e1 2 (ae nZ)).mono ?_
 rintro e w3 ⟨rfl,hs3,hk3⟩
 have eI:=hide hs3
 have eo:=hide ((ae df).trans hk3.wide)
 have hb3:=aj hk3 (ae dF) (by simp;omega)
 have r:=ah hb3
 have x:=au hb3
 have bu:=hide hb3
 clear hs3 hk3 hb3
 go_wp2_with fail
 have RO:=(((((((((((((((aB.refl w.heap.size w3).set 0 (.int .i64 0)).set 1 (.int .i64 0)).set 2 (.string ⟨#[]⟩)).set 3 (.slice none 0 0)).set 4 (.string ⟨#[]⟩)).set 5 (.int .i64 0)).set 6 (.int .i64 0)).set 7 (.string ⟨#[]⟩)).set 8 (.slice none 0 0)).set 9 (.string ⟨#[]⟩)).set 10 (.int .i64 0)).set 11 (.int .i64 0)).set 12 (.string ⟨#[]⟩)).set 13 (.slice none 0 0))
 have RS:=(ae eI).only RO (by omega) (by omega) (by unfold aM;rw[ae bu];simp)
 have RK:=(ae eo).eG RO (Nat.le_refl _)
 refine bodyPost_ret (v:= .tuple #[.agg #[.int .i64 0,.int .i64 0,.string ⟨#[]⟩,.slice none 0 0,.string ⟨#[]⟩,.int .i64 0,.int .i64 0,.string ⟨#[]⟩,.slice none 0 0,.string ⟨#[]⟩,.int .i64 0,.int .i64 0,.string ⟨#[]⟩,.slice none 0 0],.bool false]) (by simp[results,Tryz.results66,go_sem,r]) rfl ?_
 exact⟨⟨0,0,⟨#[]⟩,none,0,0⟩,⟨0,0,⟨#[]⟩,none,0,0⟩,⟨0,0,⟨#[]⟩,none,0,0⟩,⟨#[]⟩,⟨#[]⟩,l1,ns1,nv1,rfl,RS,rfl,RK⟩
theorem vW (w:World) (rb lb:Nat) (s:ByteArray) (l:List Zf.Tok) (ns:List ByteArray) (nv iv:Value) (e0:Int) (goals:Bool) (h:St w rb s l ns nv e0) (hb:w.heap[lb]?=some (.cells #[iv,.bool true,.bool goals] 80 (0,0))) (hne:lb≠rb) (hn0:lb≠0) (t:Zf.Tm) (l1:List Zf.Tok) (hkk:t.kind=4) (hi:Zf.isInt t=false) (hT:Zf.term 8 l= .inr (t,l1)) (aV:Zf.bH l1=false) (heq:Zf.sees l1 [61]=false):
 Calls Tryz.prog 66 #[.pointer (some ⟨rb,0,none⟩),.pointer (some ⟨lb,0,none⟩)] w fun e w'=>nE rb lb iv s ns (Zf.bad 2 l1) w e w':=by
 have hlt:=h.lt
 have hlb:lb<w.heap.size:=af hb
 obtain⟨hS,hK,hB0,hB1⟩:=ed h hb
 unfold boxZ at hS hK hB0 hB1
 have HS:=hide hS
 have HK:=hide hK
 have aS:=hide hB0
 have bC:=hide hB1
 have I:=hide (fun W (hW:St W rb s l ns nv e0)=>term_all 8 W rb s l ns nv e0 1 rfl hW)
 rw[hT]at I
 clear hS hK hB0 hB1 h hb
 go_enter Tryz.func66,Tryz.ntmps66
 go_wp2_with fail
 refine(ae I _ (ae HS)).mono ?_
 have fJ:ak t.kind=2:=by rw[hkk];rfl
 have jY:=hide hkk
 clear hkk
 rintro e w1 ⟨val,tx,ao,cap,ns1,nv1,e1,rfl,htx,hs,hk⟩
 rw[fJ]
 have nY:=hide fJ
 clear fJ
 have fX:=hide htx
 clear htx
 have fC:=hide hs
 have bF:=hide (hs.below ((Below.refl _ _).alloc (Nat.le_refl _) (.cells #[.int .i64 2,.int .i64 val,.string tx,.slice ao t.args.length cap] 74)))
 have fO:=hide ((ae HK).trans hk)
 have hb0:=aj hk (ae aS) (by simp;omega)
 have hbl:=aj hk (ae bC) (by simpa using hne)
 have hz0:w.heap.size<w1.heap.size:=af hb0
 have hzl:lb<w1.heap.size:=af hbl
 have eK:=hide hb0
 have dA:=hide hbl
 have q:=ah hbl
 have y:=au hbl
 clear hs hk hb0 hbl
 go_wp2_with fail
 refine(bK _ rb s l1 ns1 nv1 e1 (ae bF)).mono ?_
 rintro e w2 ⟨rfl,hw⟩
 rw[hw]
 clear hw w2
 rw[aV]
 go_wp2_with fail
 refine(bD _ rb s l1 ns1 nv1 e1 _ (ae bF)).mono ?_
 rintro e w2 ⟨rfl,hw⟩
 rw[hw]
 simp only[ByteArray.toList_mk]
 clear hw w2
 rw[heq]
 go_wp2_with fail
 have mE:=hide (je (w1.alloc (.cells #[.int .i64 2,.int .i64 val,.string tx,.slice ao t.args.length cap] 74)) t val tx ao cap (ae fX).txt (by have:=ae jY;omega))
 rw[ae nY]at mE
 refine(ae mE).mono ?_
 rintro e w2 ⟨rfl,dO⟩
 rw[hi]
 have Eo:=hide dO
 have xt:=hide ((ae bF).below dO)
 have hz2:w1.heap.size<w2.heap.size:=by have:=dO.size;simp at this;omega
 have gI:=(dO.block lb (by simp;omega)).trans (aA (ae dA) (.cells #[.int .i64 2,.int .i64 val,.string tx,.slice ao t.args.length cap] 74))
 have mn:=(dO.block w1.heap.size (by simp)).trans (heap_alloc_new w1 (.cells #[.int .i64 2,.int .i64 val,.string tx,.slice ao t.args.length cap] 74))
 have jI:=(dO.block w.heap.size (by simp;omega)).trans (aA (ae eK) (.cells #[.int .i64 2,.int .i64 val,.string tx,.slice ao t.args.length cap] 74))
 have kN:=hide (((ae fO).alloc (.cells #[.int .i64 2,.int .i64 val,.string tx,.slice ao t.args.length cap] 74)).trans (KA.of_below dO))
 have q2:=ah gI
 have y2:=au gI
 have vv:=ah mn
 have dE:=hide gI
 have kC:=hide jI
 clear dO gI mn jI q y
 have nZ:Hid (St (w2.setCell ⟨lb,1,none⟩ (.bool false)) rb s l1 ns1 nv1 e1):=(ae xt).only ((aB.refl lb _).set 1 (.bool false)) hne hn0 (by unfold aM;rw[ae dE];simp)
 have df:Hid (KA rb [rb,lb] w (w2.setCell ⟨lb,1,none⟩ (.bool false))):=(ae kN).wide.fH (by simp) _
 have nR:Hid ((w2.setCell ⟨lb,1,none⟩ (.bool false)).heap[lb]?=some (.cells #[iv,.bool false,.bool goals] 80 (0,0))):=aw (ae dE) 1 (.bool false)
 have dF:Hid ((w2.setCell ⟨lb,1,none⟩ (.bool false)).heap[w.heap.size]?=some (.cells #[.int .i64 0,.int .i64 0,.string ⟨#[]⟩,.slice none 0 0,.string ⟨#[]⟩,.int .i64 0,.int .i64 0,.string ⟨#[]⟩,.slice none 0 0,.string ⟨#[]⟩,.int .i64 0,.int .i64 0,.string ⟨#[]⟩,.slice none 0 0] 125 (0,0))):=aF (ae kC) (by omega) _ _
 go_wp2_with fail
 refine(cg _ rb s l1 ns1 nv1 e1 2 (ae nZ)).mono ?_
 rintro e w3 ⟨rfl,hs3,hk3⟩
 have eI:=hide hs3
 have eo:=hide ((ae df).trans hk3.wide)
 have hb3:=aj hk3 (ae dF) (by simp;omega)
 have r:=ah hb3
 have x:=au hb3
 have bu:=hide hb3
 clear hs3 hk3 hb3
 go_wp2_with fail
 have RO:=(((((((((((((((aB.refl w.heap.size w3).set 0 (.int .i64 0)).set 1 (.int .i64 0)).set 2 (.string ⟨#[]⟩)).set 3 (.slice none 0 0)).set 4 (.string ⟨#[]⟩)).set 5 (.int .i64 0)).set 6 (.int .i64 0)).set 7 (.string ⟨#[]⟩)).set 8 (.slice none 0 0)).set 9 (.string ⟨#[]⟩)).set 10 (.int .i64 0)).set 11 (.int .i64 0)).set 12 (.string ⟨#[]⟩)).set 13 (.slice none 0 0))
 have RS:=(ae eI).only RO (by omega) (by omega) (by unfold aM;rw[ae bu];simp)
 have RK:=(ae eo).eG RO (Nat.le_refl _)
 refine bodyPost_ret (v:= .tuple #[.agg #[.int .i64 0,.int .i64 0,.string ⟨#[]⟩,.slice none 0 0,.string ⟨#[]⟩,.int .i64 0,.int .i64 0,.string ⟨#[]⟩,.slice none 0 0,.string ⟨#[]⟩,.int .i64 0,.int .i64 0,.string ⟨#[]⟩,.slice none 0 0],.bool false]) (by simp[results,Tryz.results66,go_sem,r]) rfl ?_
 exact⟨⟨0,0,⟨#[]⟩,none,0,0⟩,⟨0,0,⟨#[]⟩,none,0,0⟩,⟨0,0,⟨#[]⟩,none,0,0⟩,⟨#[]⟩,⟨#[]⟩,l1,ns1,nv1,rfl,RS,rfl,RK⟩
theorem I8 (w:World) (rb:Nat) (s:ByteArray) (l:List Zf.Tok) (ns:List ByteArray) (nv:Value) (e0:Int) (a:TV) (left:Zf.Tm) (h:St w rb s l ns nv e0) (h0:(Zf.hd l).kind≠0):
 Calls Tryz.prog 113 #[.pointer (some ⟨rb,0,none⟩),.agg #[.int .i64 a.k,.int .i64 a.val,.string a.tx,.slice a.ao a.n a.cap],.bool false] w fun e w'=>np rb s a left ns (Zf.assignment left false l) w e w':=by
 have hlt:=h.lt
 have h0':=hide h0
 obtain⟨hS,hK,hB1,hB2,hz⟩:=jU a (Zf.hd l).text h
 unfold kB boxZ lq at hS hK hB1 hB2 hz
 have HS:=hide hS
 have HK:=hide hK
 have bC:=hide hB1
 have aP:=hide hB2
 have HZ:=hide hz
 clear hS hK hB1 hB2 hz
 obtain⟨⟨c0,c1,c2,c3,c4,c5,f1,f2,f3,f4,f5⟩,own,chain,isn,few,short,signs,pos,lt⟩:=h
 clear own chain isn few short signs c0 c1 c2 c4 c5 f1 f2 f3 f4 f5 h0
 have hc2:∀o1 o2,((w.alloc o1).alloc o2).cell? ⟨rb,3,none⟩=some (.string (Zf.hd l).text):=fun o1 o2=>by rw[World.cell?_alloc_past _ _ _ (by simp;omega),World.cell?_alloc_past _ _ _ hlt];exact c3
 have hc3:∀o1 o2 o3,(((w.alloc o1).alloc o2).alloc o3).cell? ⟨rb,3,none⟩=some (.string (Zf.hd l).text):=fun o1 o2 o3=>by rw[World.cell?_alloc_past _ _ _ (by simp;omega)];exact hc2 o1 o2
 show Calls _ _ _ _ fun e w'=>np rb s a left ns (Zf.bad 2 l) w e w'
 go_enter Tryz.func113,Tryz.ntmps113
 go_wp2_with fail
 go_big_region
 go_wp2_with fail
 refine(dJ _ rb s l ns nv e0 false (ae HS) (fun q=>by cases q)).mono ?_
 rintro e w1 ⟨rfl,hs,hk⟩
 have hb1:=aj hk (ae bC) (by simp;omega)
 have hb2:=aj hk (ae aP) (by simp;omega)
 have bF:=hide hs
 have df:=hide ((ae HK).trans hk)
 clear hs hk hc2 hc3 c3
 have r:=ah hb1
 have x:=au hb1
 have q:=ah hb2
 have y:=au hb2
 have HB1':=hide hb1
 clear hb1 hb2
 go_wp2_with fail
 have R:=bW (ae bF) (ae df) hlt (by omega) (ae HB1') (((((((((((((((aB.refl _ _).set 0 (.int .i64 a.k)).set 1 (.int .i64 a.val)).set 2 (.string a.tx)).set 3 (.slice a.ao a.n a.cap)).set 4 (.string (Zf.hd l).text)).set 5 (.int .i64 0)).set 6 (.int .i64 0)).set 7 (.string ⟨#[]⟩)).set 8 (.slice none 0 0)).set 9 (.string ⟨#[]⟩)).set 10 (.int .i64 0)).set 11 (.int .i64 0)).set 12 (.string ⟨#[]⟩)).set 13 (.slice none 0 0))
 refine bodyPost_ret (v:= .tuple #[.agg #[.int .i64 a.k,.int .i64 a.val,.string a.tx,.slice a.ao a.n a.cap,.string (Zf.hd l).text,.int .i64 0,.int .i64 0,.string ⟨#[]⟩,.slice none 0 0,.string ⟨#[]⟩,.int .i64 0,.int .i64 0,.string ⟨#[]⟩,.slice none 0 0],.bool false]) (by simp[results,Tryz.results113,go_sem,r]) rfl ?_
 exact⟨a,⟨0,0,⟨#[]⟩,none,0,0⟩,⟨0,0,⟨#[]⟩,none,0,0⟩,(Zf.hd l).text,⟨#[]⟩,l,ns,nv,rfl,R.1,rfl,R.2⟩
theorem B6 (w:World) (rb:Nat) (s:ByteArray) (l:List Zf.Tok) (ns:List ByteArray) (nv:Value) (e0:Int) (a:TV) (left:Zf.Tm) (er ps:Nat) (h:St w rb s l ns nv e0) (h0:(Zf.hd l).kind≠0) (hO:Zf.operand l.tail= .inl (er,ps)):
 Calls Tryz.prog 113 #[.pointer (some ⟨rb,0,none⟩),.agg #[.int .i64 a.k,.int .i64 a.val,.string a.tx,.slice a.ao a.n a.cap],.bool true] w fun e w'=>np rb s a left ns (Zf.assignment left true l) w e w':=by
 have hlt:=h.lt
 have h0':=hide h0
 have I:=hide (fun W nv (hW:St W rb s l.tail ns nv e0)=>jn W rb s l.tail ns nv e0 hW)
 rw[hO]at I
 obtain⟨hS,hK,hB1,hB2,hz⟩:=jU a (Zf.hd l).text h
 unfold kB boxZ lq at hS hK hB1 hB2 hz
 have HS:=hide hS
 have HK:=hide hK
 have bC:=hide hB1
 have aP:=hide hB2
 have HZ:=hide hz
 clear hS hK hB1 hB2 hz
 obtain⟨⟨c0,c1,c2,c3,c4,c5,f1,f2,f3,f4,f5⟩,own,chain,isn,few,short,signs,pos,lt⟩:=h
 clear own chain isn few short signs c0 c1 c2 c4 c5 f1 f2 f3 f4 f5 h0
 have hc2:∀o1 o2,((w.alloc o1).alloc o2).cell? ⟨rb,3,none⟩=some (.string (Zf.hd l).text):=fun o1 o2=>by rw[World.cell?_alloc_past _ _ _ (by simp;omega),World.cell?_alloc_past _ _ _ hlt];exact c3
 have hc3:∀o1 o2 o3,(((w.alloc o1).alloc o2).alloc o3).cell? ⟨rb,3,none⟩=some (.string (Zf.hd l).text):=fun o1 o2 o3=>by rw[World.cell?_alloc_past _ _ _ (by simp;omega)];exact hc2 o1 o2
 have HA:Zf.assignment left true l= .inl (er,ps):=by unfold Zf.assignment;rw[if_pos rfl,hO]
 rw[HA]
 clear HA hO
 go_enter Tryz.func113,Tryz.ntmps113
 go_wp2_with fail
 go_big_region
 go_wp2_with fail
 refine(dJ _ rb s l ns nv e0 true (ae HS) (fun _=>ae h0')).mono ?_
 rintro e w1 ⟨rfl,hs,hk⟩
 have HB1':=hide (aj hk (ae bC) (by simp;omega))
 have HB2':=hide (aj hk (ae aP) (by simp;omega))
 have bF:=hide hs
 have df:=hide ((ae HK).trans hk)
 clear hs hk hc2 hc3 c3
 go_wp2_with fail
 refine(ae I _ _ (ae bF)).mono ?_
 rintro e w2 ⟨k,val,tx,ao,n,cap,l',ns',nv',rfl,hs2,hpos,hk2⟩
 have HP:=hide hpos
 clear hpos
 have hb1:=aj hk2 (ae HB1') (by simp;omega)
 have hb2:=aj hk2 (ae HB2') (by simp;omega)
 have hz1:w.heap.size+1<w2.heap.size:=af hb1
 have hz2:w.heap.size+1+1<w2.heap.size:=af hb2
 have cm:=hide hs2
 have dt:=hide ((ae df).trans hk2)
 clear hs2 hk2
 have r:=ah hb1
 have x:=au hb1
 have q:=ah hb2
 have y:=au hb2
 have HB1'':=hide hb1
 have HB2'':=hide hb2
 clear hb1 hb2
 go_wp2_with fail
 have R:=qY (ae cm) (ae dt) hlt (by omega) (by omega) (ae HB2'') (ae HB1'') (((((aB.refl _ _).set 5 (.int .i64 k)).set 6 (.int .i64 val)).set 7 (.string tx)).set 8 (.slice ao n cap)) (((((((((((((((aB.refl _ _).set 0 (.int .i64 a.k)).set 1 (.int .i64 a.val)).set 2 (.string a.tx)).set 3 (.slice a.ao a.n a.cap)).set 4 (.string (Zf.hd l).text)).set 5 (.int .i64 k)).set 6 (.int .i64 val)).set 7 (.string tx)).set 8 (.slice ao n cap)).set 9 (.string ⟨#[]⟩)).set 10 (.int .i64 0)).set 11 (.int .i64 0)).set 12 (.string ⟨#[]⟩)).set 13 (.slice none 0 0))
 refine bodyPost_ret (v:= .tuple #[.agg #[.int .i64 a.k,.int .i64 a.val,.string a.tx,.slice a.ao a.n a.cap,.string (Zf.hd l).text,.int .i64 k,.int .i64 val,.string tx,.slice ao n cap,.string ⟨#[]⟩,.int .i64 0,.int .i64 0,.string ⟨#[]⟩,.slice none 0 0],.bool false]) (by simp[results,Tryz.results113,go_sem,hz1,r]) rfl ?_
 exact⟨a,⟨k,val,tx,ao,n,cap⟩,⟨0,0,⟨#[]⟩,none,0,0⟩,(Zf.hd l).text,⟨#[]⟩,l',ns',nv',rfl,R.1.below ((Below.refl _ _).alloc (Nat.le_refl _) _),ae HP,R.2.alloc _⟩
theorem Ca (w:World) (rb:Nat) (s:ByteArray) (l:List Zf.Tok) (ns:List ByteArray) (nv:Value) (e0:Int) (a:TV) (left:Zf.Tm) (t:Zf.Tm) (l2:List Zf.Tok) (h:St w rb s l ns nv e0) (h0:(Zf.hd l).kind≠0) (hO:Zf.operand l.tail= .inr (t,l2)) (hop:Zf.gQ l2=false):
 Calls Tryz.prog 113 #[.pointer (some ⟨rb,0,none⟩),.agg #[.int .i64 a.k,.int .i64 a.val,.string a.tx,.slice a.ao a.n a.cap],.bool true] w fun e w'=>np rb s a left ns (Zf.assignment left true l) w e w':=by
 have hlt:=h.lt
 have h0':=hide h0
 have I:=hide (fun W nv (hW:St W rb s l.tail ns nv e0)=>jn W rb s l.tail ns nv e0 hW)
 rw[hO]at I
 obtain⟨hS,hK,hB1,hB2,hz⟩:=jU a (Zf.hd l).text h
 unfold kB boxZ lq at hS hK hB1 hB2 hz
 have HS:=hide hS
 have HK:=hide hK
 have bC:=hide hB1
 have aP:=hide hB2
 have HZ:=hide hz
 clear hS hK hB1 hB2 hz
 obtain⟨⟨c0,c1,c2,c3,c4,c5,f1,f2,f3,f4,f5⟩,own,chain,isn,few,short,signs,pos,lt⟩:=h
 clear own chain isn few short signs c0 c1 c2 c4 c5 f1 f2 f3 f4 f5 h0
 have hc2:∀o1 o2,((w.alloc o1).alloc o2).cell? ⟨rb,3,none⟩=some (.string (Zf.hd l).text):=fun o1 o2=>by rw[World.cell?_alloc_past _ _ _ (by simp;omega),World.cell?_alloc_past _ _ _ hlt];exact c3
 have hc3:∀o1 o2 o3,(((w.alloc o1).alloc o2).alloc o3).cell? ⟨rb,3,none⟩=some (.string (Zf.hd l).text):=fun o1 o2 o3=>by rw[World.cell?_alloc_past _ _ _ (by simp;omega)];exact hc2 o1 o2
 have HA:Zf.assignment left true l= .inr (⟨left,(Zf.hd l).text.toList,some t,[],none⟩,l2):=by unfold Zf.assignment;rw[if_pos rfl,hO];simp only[hop];rfl
 rw[HA]
 clear HA hO
 go_enter Tryz.func113,Tryz.ntmps113
 go_wp2_with fail
 go_big_region
 go_wp2_with fail
 refine(dJ _ rb s l ns nv e0 true (ae HS) (fun _=>ae h0')).mono ?_
 rintro e w1 ⟨rfl,hs,hk⟩
 have HB1':=hide (aj hk (ae bC) (by simp;omega))
 have HB2':=hide (aj hk (ae aP) (by simp;omega))
 have bF:=hide hs
 have df:=hide ((ae HK).trans hk)
 clear hs hk hc2 hc3 c3
 go_wp2_with fail
 refine(ae I _ _ (ae bF)).mono ?_
 rintro e w2 ⟨val,tx,ao,cap,ns',nv',e',rfl,htx,hs2,hk2⟩
 have fX:=hide htx
 clear htx
 have hb1:=aj hk2 (ae HB1') (by simp;omega)
 have hb2:=aj hk2 (ae HB2') (by simp;omega)
 have hz1:w.heap.size+1<w2.heap.size:=af hb1
 have hz2:w.heap.size+1+1<w2.heap.size:=af hb2
 have cm:=hide hs2
 have dt:=hide ((ae df).trans hk2)
 clear hs2 hk2
 have r:=ah hb1
 have x:=au hb1
 have q:=ah hb2
 have y:=au hb2
 have HB1'':=hide hb1
 have HB2'':=hide hb2
 clear hb1 hb2
 have RB:=hide (bW (ae cm) (ae dt) hlt (by omega) (ae HB2'') (((((aB.refl _ _).set 5 (.int .i64 (ak t.kind))).set 6 (.int .i64 val)).set 7 (.string tx)).set 8 (.slice ao t.args.length cap)))
 go_wp2_with fail
 refine(lh _ rb s l2 ns' nv' e' ((ae RB).1.below ((Below.refl _ _).alloc (Nat.le_refl _) _))).mono ?_
 rintro e w3 ⟨rfl,hw⟩
 rw[hw]
 clear hw w3
 go_wp2_with fail
 have RK:=sZ (ae cm) (ae dt) hlt (by omega) (by omega) (ae HB2'') (ae HB1'') (((((aB.refl _ _).set 5 (.int .i64 (ak t.kind))).set 6 (.int .i64 val)).set 7 (.string tx)).set 8 (.slice ao t.args.length cap)) (((((((((((((((aB.refl _ _).set 0 (.int .i64 a.k)).set 1 (.int .i64 a.val)).set 2 (.string a.tx)).set 3 (.slice a.ao a.n a.cap)).set 4 (.string (Zf.hd l).text)).set 5 (.int .i64 (ak t.kind))).set 6 (.int .i64 val)).set 7 (.string tx)).set 8 (.slice ao t.args.length cap)).set 9 (.string ⟨#[]⟩)).set 10 (.int .i64 0)).set 11 (.int .i64 0)).set 12 (.string ⟨#[]⟩)).set 13 (.slice none 0 0))
 have R:=RK.1
 refine bodyPost_ret (v:= .tuple #[.agg #[.int .i64 a.k,.int .i64 a.val,.string a.tx,.slice a.ao a.n a.cap,.string (Zf.hd l).text,.int .i64 (ak t.kind),.int .i64 val,.string tx,.slice ao t.args.length cap,.string ⟨#[]⟩,.int .i64 0,.int .i64 0,.string ⟨#[]⟩,.slice none 0 0],.bool true]) (by simp[results,Tryz.results113,go_sem,hz1,r]) rfl ?_
 exact⟨a,⟨ak t.kind,val,tx,ao,t.args.length,cap⟩,⟨0,0,⟨#[]⟩,none,0,0⟩,(Zf.hd l).text,⟨#[]⟩,ns',nv',e',rfl,⟨rfl,rfl,rfl,(fun r q=>by cases q;exact(RK.2.trans (aK.alloc _ _)).ra (ae fX).rep),empty_list,(fun z q=>by cases q),(ae fX).nms⟩,R.1.below ((Below.refl _ _).alloc (Nat.le_refl _) _),R.2.alloc _⟩
end Go.Proofs.YthfjnfcekeknlabGreatDoor
