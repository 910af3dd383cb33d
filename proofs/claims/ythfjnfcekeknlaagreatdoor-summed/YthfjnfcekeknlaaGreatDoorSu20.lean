import Derived.Test.YthfjnfcekeknlaaGreatDoorSu15
set_option maxHeartbeats 8000000
set_option maxRecDepth 100000
namespace Go.Proofs.YthfjnfcekeknlaaGreatDoor
open Go.RowKit
theorem Ig (w:World) (rb:Nat) (s:ByteArray) (l:List Za.aj) (ns:List ByteArray) (nv:Value) (e0:Int) (a:TV) (left:Za.Tm) (h:St w rb s l ns nv e0) (h0:(Za.hd l).kind≠0):
 Calls Tryz.prog 135 #[.pointer (some ⟨rb,0,none⟩),.agg #[.int .i64 a.k,.int .i64 a.val,.string a.tx,.slice a.ao a.n a.cap],.bool false] w fun e w'=>ni rb s a left ns (Za.assignment left false l) w e w':=by
 have hlt:=h.lt
 have h0':=af h0
 obtain⟨hS,hK,hB1,hB2,hz⟩:=jU a (Za.hd l).text h
 unfold kB boxZ lf at hS hK hB1 hB2 hz
 have HS:=af hS
 have HK:=af hK
 have bD:=af hB1
 have bf:=af hB2
 have HZ:=af hz
 clear hS hK hB1 hB2 hz
 obtain⟨⟨c0,c1,c2,c3,c4,c5,f1,f2,f3,f4,f5⟩,own,chain,isn,few,short,signs,pos,lt⟩:=h
 clear own chain isn few short signs c0 c1 c2 c4 c5 f1 f2 f3 f4 f5 h0
 have hc2:∀o1 o2,((w.alloc o1).alloc o2).cell? ⟨rb,3,none⟩=some (.string (Za.hd l).text):=fun o1 o2=>by rw[World.cell?_alloc_past _ _ _ (by simp;omega),World.cell?_alloc_past _ _ _ hlt];exact c3
 have hc3:∀o1 o2 o3,(((w.alloc o1).alloc o2).alloc o3).cell? ⟨rb,3,none⟩=some (.string (Za.hd l).text):=fun o1 o2 o3=>by rw[World.cell?_alloc_past _ _ _ (by simp;omega)];exact hc2 o1 o2
 show Calls _ _ _ _ fun e w'=>ni rb s a left ns (Za.bad 2 l) w e w'
 go_enter Tryz.func135,Tryz.ntmps135
 go_wp2_with fail
 go_big_region
 go_wp2_with fail
 refine(dI _ rb s l ns nv e0 false (ae HS) (fun q=>by cases q)).mono ?_
 rintro e w1 ⟨rfl,hs,hk⟩
 have hb1:=aq hk (ae bD) (by simp;omega)
 have hb2:=aq hk (ae bf) (by simp;omega)
 have bH:=af hs
 have df:=af ((ae HK).trans hk)
 clear hs hk hc2 hc3 c3
 have r:=ah hb1
 have x:=ay hb1
 have q:=ah hb2
 have y:=ay hb2
 have HB1':=af hb1
 clear hb1 hb2
 go_wp2_with fail
 have R:=bW (ae bH) (ae df) hlt (by omega) (ae HB1') (((((((((((((((aC.refl _ _).set 0 (.int .i64 a.k)).set 1 (.int .i64 a.val)).set 2 (.string a.tx)).set 3 (.slice a.ao a.n a.cap)).set 4 (.string (Za.hd l).text)).set 5 (.int .i64 0)).set 6 (.int .i64 0)).set 7 (.string ⟨#[]⟩)).set 8 (.slice none 0 0)).set 9 (.string ⟨#[]⟩)).set 10 (.int .i64 0)).set 11 (.int .i64 0)).set 12 (.string ⟨#[]⟩)).set 13 (.slice none 0 0))
 refine bodyPost_ret (v:= .tuple #[.agg #[.int .i64 a.k,.int .i64 a.val,.string a.tx,.slice a.ao a.n a.cap,.string (Za.hd l).text,.int .i64 0,.int .i64 0,.string ⟨#[]⟩,.slice none 0 0,.string ⟨#[]⟩,.int .i64 0,.int .i64 0,.string ⟨#[]⟩,.slice none 0 0],.bool false]) (by simp[results,Tryz.results135,go_sem,r]) rfl ?_
 exact⟨a,⟨0,0,⟨#[]⟩,none,0,0⟩,⟨0,0,⟨#[]⟩,none,0,0⟩,(Za.hd l).text,⟨#[]⟩,l,ns,nv,rfl,R.1,rfl,R.2⟩
theorem BL (w:World) (rb:Nat) (s:ByteArray) (l:List Za.aj) (ns:List ByteArray) (nv:Value) (e0:Int) (a:TV) (left:Za.Tm) (er ps:Nat) (h:St w rb s l ns nv e0) (h0:(Za.hd l).kind≠0) (hO:Za.operand l.tail= .inl (er,ps)):
 Calls Tryz.prog 135 #[.pointer (some ⟨rb,0,none⟩),.agg #[.int .i64 a.k,.int .i64 a.val,.string a.tx,.slice a.ao a.n a.cap],.bool true] w fun e w'=>ni rb s a left ns (Za.assignment left true l) w e w':=by
 have hlt:=h.lt
 have h0':=af h0
 have I:=af (fun W nv (hW:St W rb s l.tail ns nv e0)=>jo W rb s l.tail ns nv e0 hW)
 rw[hO]at I
 obtain⟨hS,hK,hB1,hB2,hz⟩:=jU a (Za.hd l).text h
 unfold kB boxZ lf at hS hK hB1 hB2 hz
 have HS:=af hS
 have HK:=af hK
 have bD:=af hB1
 have bf:=af hB2
 have HZ:=af hz
 clear hS hK hB1 hB2 hz
 obtain⟨⟨c0,c1,c2,c3,c4,c5,f1,f2,f3,f4,f5⟩,own,chain,isn,few,short,signs,pos,lt⟩:=h
 clear own chain isn few short signs c0 c1 c2 c4 c5 f1 f2 f3 f4 f5 h0
 have hc2:∀o1 o2,((w.alloc o1).alloc o2).cell? ⟨rb,3,none⟩=some (.string (Za.hd l).text):=fun o1 o2=>by rw[World.cell?_alloc_past _ _ _ (by simp;omega),World.cell?_alloc_past _ _ _ hlt];exact c3
 have hc3:∀o1 o2 o3,(((w.alloc o1).alloc o2).alloc o3).cell? ⟨rb,3,none⟩=some (.string (Za.hd l).text):=fun o1 o2 o3=>by rw[World.cell?_alloc_past _ _ _ (by simp;omega)];exact hc2 o1 o2
 have HA:Za.assignment left true l= .inl (er,ps):=by unfold Za.assignment;rw[if_pos rfl,hO]
 rw[HA]
 clear HA hO
 go_enter Tryz.func135,Tryz.ntmps135
 go_wp2_with fail
 go_big_region
 go_wp2_with fail
 refine(dI _ rb s l ns nv e0 true (ae HS) (fun _=>ae h0')).mono ?_
 rintro e w1 ⟨rfl,hs,hk⟩
 have HB1':=af (aq hk (ae bD) (by simp;omega))
 have HB2':=af (aq hk (ae bf) (by simp;omega))
 have bH:=af hs
 have df:=af ((ae HK).trans hk)
 clear hs hk hc2 hc3 c3
 go_wp2_with fail
 refine(ae I _ _ (ae bH)).mono ?_
 rintro e w2 ⟨k,val,tx,ao,n,cap,l',ns',nv',rfl,hs2,cu,hk2⟩
 have HP:=af cu
 clear cu
 have hb1:=aq hk2 (ae HB1') (by simp;omega)
 have hb2:=aq hk2 (ae HB2') (by simp;omega)
 have hz1:w.heap.size+1<w2.heap.size:=ag hb1
 have hz2:w.heap.size+1+1<w2.heap.size:=ag hb2
 have cg:=af hs2
 have di:=af ((ae df).trans hk2)
 clear hs2 hk2
 have r:=ah hb1
 have x:=ay hb1
 have q:=ah hb2
 have y:=ay hb2
 have HB1'':=af hb1
 have HB2'':=af hb2
 clear hb1 hb2
 go_wp2_with fail
 have R:=rB (ae cg) (ae di) hlt (by omega) (by omega) (ae HB2'') (ae HB1'') (((((aC.refl _ _).set 5 (.int .i64 k)).set 6 (.int .i64 val)).set 7 (.string tx)).set 8 (.slice ao n cap)) (((((((((((((((aC.refl _ _).set 0 (.int .i64 a.k)).set 1 (.int .i64 a.val)).set 2 (.string a.tx)).set 3 (.slice a.ao a.n a.cap)).set 4 (.string (Za.hd l).text)).set 5 (.int .i64 k)).set 6 (.int .i64 val)).set 7 (.string tx)).set 8 (.slice ao n cap)).set 9 (.string ⟨#[]⟩)).set 10 (.int .i64 0)).set 11 (.int .i64 0)).set 12 (.string ⟨#[]⟩)).set 13 (.slice none 0 0))
 refine bodyPost_ret (v:= .tuple #[.agg #[.int .i64 a.k,.int .i64 a.val,.string a.tx,.slice a.ao a.n a.cap,.string (Za.hd l).text,.int .i64 k,.int .i64 val,.string tx,.slice ao n cap,.string ⟨#[]⟩,.int .i64 0,.int .i64 0,.string ⟨#[]⟩,.slice none 0 0],.bool false]) (by simp[results,Tryz.results135,go_sem,hz1,r]) rfl ?_
 exact⟨a,⟨k,val,tx,ao,n,cap⟩,⟨0,0,⟨#[]⟩,none,0,0⟩,(Za.hd l).text,⟨#[]⟩,l',ns',nv',rfl,R.1.below ((Below.refl _ _).alloc (Nat.le_refl _) _),ae HP,R.2.alloc _⟩
end Go.Proofs.YthfjnfcekeknlaaGreatDoor
