import Derived.Test.YthfjnfcekeknlaaGreatDoorSt05
import Derived.Deep.RegionWith
set_option maxHeartbeats 8000000
set_option maxRecDepth 100000
namespace Go.Proofs.YthfjnfcekeknlaaGreatDoor
open Go.RowKit
def boxZ:Obj:= .cells #[.int .i64 0,.int .i64 0,.string ⟨#[]⟩,.slice none 0 0,.string ⟨#[]⟩,.int .i64 0,.int .i64 0,.string ⟨#[]⟩,.slice none 0 0,.string ⟨#[]⟩,.int .i64 0,.int .i64 0,.string ⟨#[]⟩,.slice none 0 0] 151
def jT (a:TV):Obj:= .cells #[.int .i64 a.k,.int .i64 a.val,.string a.tx,.slice a.ao a.n a.cap] 76
def kL (a:TV) (tx:ByteArray):Obj:= .cells #[.int .i64 a.k,.int .i64 a.val,.string a.tx,.slice a.ao a.n a.cap,.string tx,.int .i64 0,.int .i64 0,.string ⟨#[]⟩,.slice none 0 0,.string ⟨#[]⟩,.int .i64 0,.int .i64 0,.string ⟨#[]⟩,.slice none 0 0] 151
theorem jE {w:World} {rb:Nat} {s:ByteArray} {l:List Za.Tok} {ns:List ByteArray} {nv:Value} {e0:Int} (a:TV) (tx:ByteArray) (h:St w rb s l ns nv e0):
 St (((w.alloc (jT a)).alloc boxZ).alloc (kL a tx)).drew rb s l ns nv e0∧KA rb [rb] w (((w.alloc (jT a)).alloc boxZ).alloc (kL a tx)).drew∧
 (((w.alloc (jT a)).alloc boxZ).alloc (kL a tx)).drew.heap[w.heap.size+1]?=some (.cells #[.int .i64 0,.int .i64 0,.string ⟨#[]⟩,.slice none 0 0,.string ⟨#[]⟩,.int .i64 0,.int .i64 0,.string ⟨#[]⟩,.slice none 0 0,.string ⟨#[]⟩,.int .i64 0,.int .i64 0,.string ⟨#[]⟩,.slice none 0 0] 151 (0,0))∧
 (((w.alloc (jT a)).alloc boxZ).alloc (kL a tx)).drew.heap[w.heap.size+1+1]?=some (.cells #[.int .i64 a.k,.int .i64 a.val,.string a.tx,.slice a.ao a.n a.cap,.string tx,.int .i64 0,.int .i64 0,.string ⟨#[]⟩,.slice none 0 0,.string ⟨#[]⟩,.int .i64 0,.int .i64 0,.string ⟨#[]⟩,.slice none 0 0] 151 (0,0))∧w.heap.size+1+1<(((w.alloc (jT a)).alloc boxZ).alloc (kL a tx)).drew.heap.size:=by
 refine⟨h.below ((((Below.refl _ _).alloc (Nat.le_refl _) _).alloc (by simp) _).alloc (by simp;omega) _).drew,((((KA.refl rb [rb] w).alloc _).alloc _).alloc _).drew,?_,?_,by show _<(((w.alloc (jT a)).alloc boxZ).alloc (kL a tx)).heap.size;simp⟩
 ·show (((w.alloc (jT a)).alloc boxZ).alloc (kL a tx)).heap[w.heap.size+1]?=_
  refine aw ?_ _
  have:=heap_alloc_new (w.alloc (jT a)) boxZ
  rw[World.size_alloc]at this
  exact this
 ·show (((w.alloc (jT a)).alloc boxZ).alloc (kL a tx)).heap[w.heap.size+1+1]?=_
  have:=heap_alloc_new ((w.alloc (jT a)).alloc boxZ) (kL a tx)
  rw[World.size_alloc,World.size_alloc]at this
  exact this
theorem qV {w w1 w2 w3:World} {rb:Nat} {s:ByteArray} {l:List Za.Tok} {ns:List ByteArray} {nv:Value} {e:Int} {b b':Nat} {cs cs':Array Value} {T T':TypeId} (h:St w1 rb s l ns nv e) (hk:KA rb [rb] w w1) (hlt:rb<w.heap.size) (hb:w.heap.size≤b) (hb':w.heap.size≤b') (hc:w1.heap[b]?=some (.cells cs T (0,0))) (hc':w1.heap[b']?=some (.cells cs' T' (0,0))) (ho:aA b w1 w2) (ho':aA b' w2 w3) (hT:T≠9:=by decide) (hT':T'≠9:=by decide):
 St w3 rb s l ns nv e∧KA rb [rb] w w3:=by
 have R:=bO h hk hlt hb hc ho hT
 refine⟨R.1.only ho' (by omega) (by omega) ?_,R.2.dS ho' hb'⟩
 rw[ho.ty];unfold aL;rw[hc'];simpa using hT'
theorem empty_list:(⟨#[]⟩:ByteArray).toList=[]:=by rw[ByteArray.toList_mk]
theorem sO {w w1 w2 w3:World} {rb:Nat} {s:ByteArray} {l:List Za.Tok} {ns:List ByteArray} {nv:Value} {e:Int} {b b':Nat} {cs cs':Array Value} {T T':TypeId} (h:St w1 rb s l ns nv e) (hk:KA rb [rb] w w1) (hlt:rb<w.heap.size) (hb:w.heap.size≤b) (hb':w.heap.size≤b') (hc:w1.heap[b]?=some (.cells cs T (0,0))) (hc':w1.heap[b']?=some (.cells cs' T' (0,0))) (ho:aA b w1 w2) (ho':aA b' w2 w3) (hT:T≠9:=by decide) (hT':T'≠9:=by decide) (hU:T≠76:=by decide) (hU':T'≠76:=by decide):
 (St w3 rb s l ns nv e∧KA rb [rb] w w3)∧aJ w1 w3:=
 ⟨qV h hk hlt hb hb' hc hc' ho ho' hT hT',(aJ.only ho (by unfold aL;rw[hc];simpa using hU)).trans (aJ.only ho' (by rw[ho.ty];unfold aL;rw[hc'];simpa using hU'))⟩
theorem KF {left:Za.Tm} {l:List Za.Tok}:Za.sides left false l=Za.bad 2 l:=rfl
theorem Ie {left:Za.Tm} {l:List Za.Tok}:Za.sides left true l=match Za.term 8 l.tail with
 | .inl e=> .inl e
 | .inr (r,l2)=> .inr (⟨left,(Za.hd l).text.toList,some r,[],none⟩,l2):=by
 unfold Za.sides;rw[if_pos rfl]
 rcases Za.term 8 l.tail with e | ⟨r,l2⟩<;>rfl
theorem pN (w:World) (rb:Nat) (s:ByteArray) (l:List Za.Tok) (ns:List ByteArray) (nv:Value) (e0:Int) (a:TV) (left:Za.Tm) (fits:Bool) (h:St w rb s l ns nv e0) (h0:(Za.hd l).kind≠0):
 Calls Tryz.prog 134 #[.pointer (some ⟨rb,0,none⟩),.agg #[.int .i64 a.k,.int .i64 a.val,.string a.tx,.slice a.ao a.n a.cap],.bool fits] w fun e w'=>mU rb s a left ns (Za.sides left fits l) w e w':=by
 have hlt:=h.lt
 have h0':=hide h0
 have I:=hide (fun W nv (hW:St W rb s l.tail ns nv e0)=>term_all 8 W rb s l.tail ns nv e0 1 rfl hW)
 obtain⟨hS,hK,hB1,hB2,hz⟩:=jE a (Za.hd l).text h
 unfold jT boxZ kL at hS hK hB1 hB2 hz
 have HS:=hide hS
 have HK:=hide hK
 have aZ:=hide hB1
 have aX:=hide hB2
 have HZ:=hide hz
 clear hS hK hB1 hB2 hz
 obtain⟨⟨c0,c1,c2,c3,c4,c5,f1,f2,f3,f4,f5⟩,own,chain,isn,few,short,signs,pos,lt⟩:=h
 clear own chain isn few short signs c0 c1 c2 c4 c5 f1 f2 f3 f4 f5 h0
 have hc2:∀o1 o2,((w.alloc o1).alloc o2).cell? ⟨rb,3,none⟩=some (.string (Za.hd l).text):=fun o1 o2=>by rw[World.cell?_alloc_past _ _ _ (by simp;omega),World.cell?_alloc_past _ _ _ hlt];exact c3
 have hc3:∀o1 o2 o3,(((w.alloc o1).alloc o2).alloc o3).cell? ⟨rb,3,none⟩=some (.string (Za.hd l).text):=fun o1 o2 o3=>by rw[World.cell?_alloc_past _ _ _ (by simp;omega)];exact hc2 o1 o2
 cases fits
 ·rw[KF]
  clear I
  go_enter Tryz.func134,Tryz.ntmps134
  go_wp2_with fail
  go_big_region
  go_wp2_with fail
  refine(dA _ rb s l ns nv e0 false (ae HS) (fun q=>by cases q)).mono ?_
  rintro e w1 ⟨rfl,hs,hk⟩
  have hb1:=ai hk (ae aZ) (by simp;omega)
  have hb2:=ai hk (ae aX) (by simp;omega)
  have bp:=hide hs
  have cO:=hide ((ae HK).trans hk)
  clear hs hk hc2 hc3 c3
  have r:=ag hb1
  have x:=aq hb1
  have q:=ag hb2
  have y:=aq hb2
  have HB1':=hide hb1
  have HB2':=hide hb2
  clear hb1 hb2
  go_wp2_with fail
  have R:=bO (ae bp) (ae cO) hlt (by omega) (ae HB1') (((((((((((((((aA.refl _ _).set 0 (.int .i64 a.k)).set 1 (.int .i64 a.val)).set 2 (.string a.tx)).set 3 (.slice a.ao a.n a.cap)).set 4 (.string (Za.hd l).text)).set 5 (.int .i64 0)).set 6 (.int .i64 0)).set 7 (.string ⟨#[]⟩)).set 8 (.slice none 0 0)).set 9 (.string ⟨#[]⟩)).set 10 (.int .i64 0)).set 11 (.int .i64 0)).set 12 (.string ⟨#[]⟩)).set 13 (.slice none 0 0))
  refine bodyPost_ret (v:= .tuple #[.agg #[.int .i64 a.k,.int .i64 a.val,.string a.tx,.slice a.ao a.n a.cap,.string (Za.hd l).text,.int .i64 0,.int .i64 0,.string ⟨#[]⟩,.slice none 0 0,.string ⟨#[]⟩,.int .i64 0,.int .i64 0,.string ⟨#[]⟩,.slice none 0 0],.bool false]) (by simp[results,Tryz.results134,go_sem,r]) rfl ?_
  exact⟨a,⟨0,0,⟨#[]⟩,none,0,0⟩,⟨0,0,⟨#[]⟩,none,0,0⟩,(Za.hd l).text,⟨#[]⟩,l,ns,nv,rfl,R.1,rfl,R.2⟩
 ·rw[Ie]
  generalize Za.term 8 l.tail=r at I⊢
  rcases r with⟨er,pos⟩ | ⟨t,l2⟩
  ·show Calls _ _ _ _ fun e w'=>mU rb s a left ns (.inl (er,pos)) w e w'
   go_enter Tryz.func134,Tryz.ntmps134
   go_wp2_with fail
   go_big_region
   go_wp2_with fail
   refine(dA _ rb s l ns nv e0 true (ae HS) (fun _=>ae h0')).mono ?_
   rintro e w1 ⟨rfl,hs,hk⟩
   have HB1':=hide (ai hk (ae aZ) (by simp;omega))
   have HB2':=hide (ai hk (ae aX) (by simp;omega))
   have bp:=hide hs
   have cO:=hide ((ae HK).trans hk)
   clear hs hk hc2 hc3 c3
   go_wp2_with fail
   refine(ae I _ _ (ae bp)).mono ?_
   rintro e w2 ⟨k,val,tx,ao,n,cap,l',ns',nv',rfl,hs2,hpos,hk2⟩
   have HP:=hide hpos
   clear hpos
   have hb1:=ai hk2 (ae HB1') (by simp;omega)
   have hb2:=ai hk2 (ae HB2') (by simp;omega)
   have hz1:w.heap.size+1<w2.heap.size:=af hb1
   have hz2:w.heap.size+1+1<w2.heap.size:=af hb2
   have bV:=hide hs2
   have cQ:=hide ((ae cO).trans hk2)
   clear hs2 hk2
   have r:=ag hb1
   have x:=aq hb1
   have q:=ag hb2
   have y:=aq hb2
   have HB1'':=hide hb1
   have HB2'':=hide hb2
   clear hb1 hb2
   go_wp2_with fail
   have R:=qV (ae bV) (ae cQ) hlt (by omega) (by omega) (ae HB2'') (ae HB1'') (((((aA.refl _ _).set 5 (.int .i64 k)).set 6 (.int .i64 val)).set 7 (.string tx)).set 8 (.slice ao n cap)) (((((((((((((((aA.refl _ _).set 0 (.int .i64 a.k)).set 1 (.int .i64 a.val)).set 2 (.string a.tx)).set 3 (.slice a.ao a.n a.cap)).set 4 (.string (Za.hd l).text)).set 5 (.int .i64 k)).set 6 (.int .i64 val)).set 7 (.string tx)).set 8 (.slice ao n cap)).set 9 (.string ⟨#[]⟩)).set 10 (.int .i64 0)).set 11 (.int .i64 0)).set 12 (.string ⟨#[]⟩)).set 13 (.slice none 0 0))
   refine bodyPost_ret (v:= .tuple #[.agg #[.int .i64 a.k,.int .i64 a.val,.string a.tx,.slice a.ao a.n a.cap,.string (Za.hd l).text,.int .i64 k,.int .i64 val,.string tx,.slice ao n cap,.string ⟨#[]⟩,.int .i64 0,.int .i64 0,.string ⟨#[]⟩,.slice none 0 0],.bool false]) (by simp[results,Tryz.results134,go_sem,hz1,r]) rfl ?_
   exact⟨a,⟨k,val,tx,ao,n,cap⟩,⟨0,0,⟨#[]⟩,none,0,0⟩,(Za.hd l).text,⟨#[]⟩,l',ns',nv',rfl,R.1.below ((Below.refl _ _).alloc (Nat.le_refl _) _),ae HP,R.2.alloc _⟩
  ·show Calls _ _ _ _ fun e w'=>mU rb s a left ns (.inr (⟨left,(Za.hd l).text.toList,some t,[],none⟩,l2)) w e w'
   go_enter Tryz.func134,Tryz.ntmps134
   go_wp2_with fail
   go_big_region
   go_wp2_with fail
   refine(dA _ rb s l ns nv e0 true (ae HS) (fun _=>ae h0')).mono ?_
   rintro e w1 ⟨rfl,hs,hk⟩
   have HB1':=hide (ai hk (ae aZ) (by simp;omega))
   have HB2':=hide (ai hk (ae aX) (by simp;omega))
   have bp:=hide hs
   have cO:=hide ((ae HK).trans hk)
   clear hs hk hc2 hc3 c3
   go_wp2_with fail
   refine(ae I _ _ (ae bp)).mono ?_
   rintro e w2 ⟨val,tx,ao,cap,ns',nv',e',rfl,htx,hs2,hk2⟩
   have fP:=hide htx
   clear htx
   have hb1:=ai hk2 (ae HB1') (by simp;omega)
   have hb2:=ai hk2 (ae HB2') (by simp;omega)
   have hz1:w.heap.size+1<w2.heap.size:=af hb1
   have hz2:w.heap.size+1+1<w2.heap.size:=af hb2
   have bV:=hide hs2
   have cQ:=hide ((ae cO).trans hk2)
   clear hs2 hk2
   have r:=ag hb1
   have x:=aq hb1
   have q:=ag hb2
   have y:=aq hb2
   have HB1'':=hide hb1
   have HB2'':=hide hb2
   clear hb1 hb2
   go_wp2_with fail
   have RK:=sO (ae bV) (ae cQ) hlt (by omega) (by omega) (ae HB2'') (ae HB1'') (((((aA.refl _ _).set 5 (.int .i64 (ak t.kind))).set 6 (.int .i64 val)).set 7 (.string tx)).set 8 (.slice ao t.args.length cap)) (((((((((((((((aA.refl _ _).set 0 (.int .i64 a.k)).set 1 (.int .i64 a.val)).set 2 (.string a.tx)).set 3 (.slice a.ao a.n a.cap)).set 4 (.string (Za.hd l).text)).set 5 (.int .i64 (ak t.kind))).set 6 (.int .i64 val)).set 7 (.string tx)).set 8 (.slice ao t.args.length cap)).set 9 (.string ⟨#[]⟩)).set 10 (.int .i64 0)).set 11 (.int .i64 0)).set 12 (.string ⟨#[]⟩)).set 13 (.slice none 0 0))
   have R:=RK.1
   refine bodyPost_ret (v:= .tuple #[.agg #[.int .i64 a.k,.int .i64 a.val,.string a.tx,.slice a.ao a.n a.cap,.string (Za.hd l).text,.int .i64 (ak t.kind),.int .i64 val,.string tx,.slice ao t.args.length cap,.string ⟨#[]⟩,.int .i64 0,.int .i64 0,.string ⟨#[]⟩,.slice none 0 0],.bool true]) (by simp[results,Tryz.results134,go_sem,hz1,r]) rfl ?_
   exact⟨a,⟨ak t.kind,val,tx,ao,t.args.length,cap⟩,⟨0,0,⟨#[]⟩,none,0,0⟩,(Za.hd l).text,⟨#[]⟩,ns',nv',e',rfl,⟨rfl,rfl,rfl,(fun r q=>by cases q;exact(RK.2.trans (aJ.alloc _ _)).ra (ae fP).rep),empty_list,(fun z q=>by cases q),(ae fP).nms⟩,R.1.below ((Below.refl _ _).alloc (Nat.le_refl _) _),R.2.alloc _⟩
structure oQ (ns ns':List ByteArray) (w':World) (a b c:TV) (sg op:ByteArray) (x:Za.aC):Prop where
 left:RA 8 (aR ns') anyA w' a x.left
 sign:sg.toList=x.sign
 right:∀r,x.right=some r→RA 8 (aR ns') anyA w' b r
 op:op.toList=x.op
 last:∀z,x.last=some z→RA 8 (aR ns') anyA w' c z
 nms:aR ns'=Za.aK (aR ns) x
theorem oQ.of {ns ns1 ns':List ByteArray} {W w1 w2 w':World} {val:Int} {tx:ByteArray} {ao:Option Addr} {cap:Nat} {t:Za.Tm} {a b c:TV} {sg op:ByteArray} {x:Za.aC} (hl:TA 8 ns ns1 W w1 val tx ao cap t) (ha:a=⟨ak t.kind,val,tx,ao,t.args.length,cap⟩) (hx:x.left=t) (hr:GZ ns1 ns' w2 b c sg op x) (hk:aJ w1 w2) (hk2:aJ w2 w'):oQ ns ns' w' a b c sg op x:=by
 subst ha
 obtain⟨M1,e1,_⟩:=Za.pK (ns:=aR ns1) (t:=x.right) (fun r q=>(hr.right r q).mZ)
 obtain⟨M2,e2,_⟩:=Za.pK (ns:=Za.cg (aR ns1) x.right) (t:=x.last) (fun r q=>(hr.last r q).mZ)
 have he:aR ns'=aR ns1++(M1++M2):=by rw[hr.nms,e2,e1,List.append_assoc]
 refine⟨?_,hr.sign,fun r q=>hk2.ra (hr.right r q),hr.op,fun z q=>hk2.ra (hr.last z q),?_⟩
 ·rw[hx,he]
  exact((hk.trans hk2).ra hl.rep).more _
 ·rw[hr.nms,hl.nms]
  unfold Za.aK
  rw[hx]
theorem oQ.plain {ns ns1:List ByteArray} {W w1 w':World} {val:Int} {tx:ByteArray} {ao:Option Addr} {cap:Nat} {t:Za.Tm} {b c:TV} (hl:TA 8 ns ns1 W w1 val tx ao cap t) (hk:aJ w1 w'):oQ ns ns1 w' ⟨ak t.kind,val,tx,ao,t.args.length,cap⟩ b c ⟨#[]⟩ ⟨#[]⟩ ⟨t,[],none,[],none⟩:=
 oQ.of hl rfl rfl ⟨empty_list,(fun r q=>by cases q),empty_list,(fun r q=>by cases q),rfl⟩ hk (aJ.refl _)
def nk (rb lb:Nat) (iv:Value) (s:ByteArray) (ns:List ByteArray) (r:Za.dH (Za.aC×Bool×Bool)) (w:World) (e:Ending) (w':World):Prop:=match r with
 | .inl (er,pos)=>∃(a b c:TV) (sg op:ByteArray) (l':List Za.Tok) (ns':List ByteArray) (nv':Value),
  e= .returned (.tuple #[.agg #[.int .i64 a.k,.int .i64 a.val,.string a.tx,.slice a.ao a.n a.cap,.string sg,.int .i64 b.k,.int .i64 b.val,.string b.tx,.slice b.ao b.n b.cap,.string op,.int .i64 c.k,.int .i64 c.val,.string c.tx,.slice c.ao c.n c.cap],.bool false])∧St w' rb s l' ns' nv' (er:Int)∧(Za.hd l').pos=pos∧KA rb [rb,lb] w w'
 | .inr ((x,t1,g1),l1)=>∃(a b c:TV) (sg op:ByteArray) (ns':List ByteArray) (nv':Value) (e':Int),
  e= .returned (.tuple #[.agg #[.int .i64 a.k,.int .i64 a.val,.string a.tx,.slice a.ao a.n a.cap,.string sg,.int .i64 b.k,.int .i64 b.val,.string b.tx,.slice b.ao b.n b.cap,.string op,.int .i64 c.k,.int .i64 c.val,.string c.tx,.slice c.ao c.n c.cap],.bool true])∧oQ ns ns' w' a b c sg op x∧St w' rb s l1 ns' nv' e'∧w'.heap[lb]?=some (.cells #[iv,.bool t1,.bool g1] 82 (0,0))∧KA rb [rb,lb] w w'
theorem KA.wide {rb lb:Nat} {w w':World} (h:KA rb [rb] w w'):KA rb [rb,lb] w w':=h.mono (by simp)
theorem dO {w:World} {rb lb:Nat} {s:ByteArray} {l:List Za.Tok} {ns:List ByteArray} {nv:Value} {e0:Int} {C:Array Value} (h:St w rb s l ns nv e0) (hb:w.heap[lb]?=some (.cells C 82 (0,0))):
 St (w.alloc boxZ) rb s l ns nv e0∧KA rb [rb] w (w.alloc boxZ)∧(w.alloc boxZ).heap[w.heap.size]?=some (.cells #[.int .i64 0,.int .i64 0,.string ⟨#[]⟩,.slice none 0 0,.string ⟨#[]⟩,.int .i64 0,.int .i64 0,.string ⟨#[]⟩,.slice none 0 0,.string ⟨#[]⟩,.int .i64 0,.int .i64 0,.string ⟨#[]⟩,.slice none 0 0] 151 (0,0))∧(w.alloc boxZ).heap[lb]?=some (.cells C 82 (0,0)):=
 ⟨h.below ((Below.refl _ _).alloc (Nat.le_refl _) _),(KA.refl _ _ _).alloc _,heap_alloc_new w _,aw hb _⟩
theorem KH (w:World) (rb lb:Nat) (s:ByteArray) (l:List Za.Tok) (ns:List ByteArray) (nv iv:Value) (e0:Int) (tests goals:Bool) (h:St w rb s l ns nv e0) (hb:w.heap[lb]?=some (.cells #[iv,.bool tests,.bool goals] 82 (0,0))) (_hne:lb≠rb) (_hn0:lb≠0) (er ps:Nat) (hT:Za.term 8 l= .inl (er,ps)):
 Calls Tryz.prog 80 #[.pointer (some ⟨rb,0,none⟩),.pointer (some ⟨lb,0,none⟩)] w fun e w'=>nk rb lb iv s ns (.inl (er,ps)) w e w':=by
 have hlt:=h.lt
 have hlb:lb<w.heap.size:=af hb
 obtain⟨hS,hK,hB0,hB1⟩:=dO h hb
 unfold boxZ at hS hK hB0 hB1
 have HS:=hide hS
 have HK:=hide hK
 have aT:=hide hB0
 have aZ:=hide hB1
 have I:=hide (fun W (hW:St W rb s l ns nv e0)=>term_all 8 W rb s l ns nv e0 1 rfl hW)
 rw[hT]at I
 clear hS hK hB0 hB1 h hb
 go_enter Tryz.func80,Tryz.ntmps80
 go_wp2_with fail
 refine(ae I _ (ae HS)).mono ?_
 rintro e w1 ⟨k,val,tx,ao,n,cap,l',ns',nv',rfl,hs,hpos,hk⟩
 have bp:=hide hs
 have HP:=hide hpos
 have cO:=hide ((ae HK).trans hk)
 have hb0:=ai hk (ae aT) (by simp;omega)
 have hz0:w.heap.size<w1.heap.size:=af hb0
 have r:=ag hb0
 have x:=aq hb0
 have HB0':=hide hb0
 clear hs hpos hk hb0
 go_wp2_with fail
 have R:=bO (ae bp) (ae cO) hlt (Nat.le_refl _) (ae HB0') (((((((((((((((aA.refl _ _).set 0 (.int .i64 0)).set 1 (.int .i64 0)).set 2 (.string ⟨#[]⟩)).set 3 (.slice none 0 0)).set 4 (.string ⟨#[]⟩)).set 5 (.int .i64 0)).set 6 (.int .i64 0)).set 7 (.string ⟨#[]⟩)).set 8 (.slice none 0 0)).set 9 (.string ⟨#[]⟩)).set 10 (.int .i64 0)).set 11 (.int .i64 0)).set 12 (.string ⟨#[]⟩)).set 13 (.slice none 0 0))
 refine bodyPost_ret (v:= .tuple #[.agg #[.int .i64 0,.int .i64 0,.string ⟨#[]⟩,.slice none 0 0,.string ⟨#[]⟩,.int .i64 0,.int .i64 0,.string ⟨#[]⟩,.slice none 0 0,.string ⟨#[]⟩,.int .i64 0,.int .i64 0,.string ⟨#[]⟩,.slice none 0 0],.bool false]) (by simp[results,Tryz.results80,go_sem,hz0,r]) rfl ?_
 exact⟨⟨0,0,⟨#[]⟩,none,0,0⟩,⟨0,0,⟨#[]⟩,none,0,0⟩,⟨0,0,⟨#[]⟩,none,0,0⟩,⟨#[]⟩,⟨#[]⟩,l',ns',nv',rfl,R.1.below ((Below.refl _ _).alloc (Nat.le_refl _) _),ae HP,(R.2.alloc _).wide⟩
theorem Bw (w:World) (rb:Nat) (s:ByteArray) (l:List Za.Tok) (ns:List ByteArray) (nv:Value) (e0:Int) (a:TV) (left:Za.Tm) (t:Za.Tm) (l2:List Za.Tok) (h:St w rb s l ns nv e0) (h0:(Za.hd l).kind≠0) (hO:Za.operand l.tail= .inr (t,l2)) (hop:Za.gB l2=false):
 Calls Tryz.prog 135 #[.pointer (some ⟨rb,0,none⟩),.agg #[.int .i64 a.k,.int .i64 a.val,.string a.tx,.slice a.ao a.n a.cap],.bool true] w fun e w'=>mU rb s a left ns (Za.assignment left true l) w e w':=by
 have hlt:=h.lt
 have h0':=hide h0
 have I:=hide (fun W nv (hW:St W rb s l.tail ns nv e0)=>jc W rb s l.tail ns nv e0 hW)
 rw[hO]at I
 obtain⟨hS,hK,hB1,hB2,hz⟩:=jE a (Za.hd l).text h
 unfold jT boxZ kL at hS hK hB1 hB2 hz
 have HS:=hide hS
 have HK:=hide hK
 have aZ:=hide hB1
 have aX:=hide hB2
 have HZ:=hide hz
 clear hS hK hB1 hB2 hz
 obtain⟨⟨c0,c1,c2,c3,c4,c5,f1,f2,f3,f4,f5⟩,own,chain,isn,few,short,signs,pos,lt⟩:=h
 clear own chain isn few short signs c0 c1 c2 c4 c5 f1 f2 f3 f4 f5 h0
 have hc2:∀o1 o2,((w.alloc o1).alloc o2).cell? ⟨rb,3,none⟩=some (.string (Za.hd l).text):=fun o1 o2=>by rw[World.cell?_alloc_past _ _ _ (by simp;omega),World.cell?_alloc_past _ _ _ hlt];exact c3
 have hc3:∀o1 o2 o3,(((w.alloc o1).alloc o2).alloc o3).cell? ⟨rb,3,none⟩=some (.string (Za.hd l).text):=fun o1 o2 o3=>by rw[World.cell?_alloc_past _ _ _ (by simp;omega)];exact hc2 o1 o2
 have HA:Za.assignment left true l= .inr (⟨left,(Za.hd l).text.toList,some t,[],none⟩,l2):=by unfold Za.assignment;rw[if_pos rfl,hO];simp only[hop];rfl
 rw[HA]
 clear HA hO
 go_enter Tryz.func135,Tryz.ntmps135
 go_wp2_with fail
 go_big_region
 go_wp2_with fail
 refine(dA _ rb s l ns nv e0 true (ae HS) (fun _=>ae h0')).mono ?_
 rintro e w1 ⟨rfl,hs,hk⟩
 have HB1':=hide (ai hk (ae aZ) (by simp;omega))
 have HB2':=hide (ai hk (ae aX) (by simp;omega))
 have bp:=hide hs
 have cO:=hide ((ae HK).trans hk)
 clear hs hk hc2 hc3 c3
 go_wp2_with fail
 refine(ae I _ _ (ae bp)).mono ?_
 rintro e w2 ⟨val,tx,ao,cap,ns',nv',e',rfl,htx,hs2,hk2⟩
 have fP:=hide htx
 clear htx
 have hb1:=ai hk2 (ae HB1') (by simp;omega)
 have hb2:=ai hk2 (ae HB2') (by simp;omega)
 have hz1:w.heap.size+1<w2.heap.size:=af hb1
 have hz2:w.heap.size+1+1<w2.heap.size:=af hb2
 have bV:=hide hs2
 have cQ:=hide ((ae cO).trans hk2)
 clear hs2 hk2
 have r:=ag hb1
 have x:=aq hb1
 have q:=ag hb2
 have y:=aq hb2
 have HB1'':=hide hb1
 have HB2'':=hide hb2
 clear hb1 hb2
 have RB:=hide (bO (ae bV) (ae cQ) hlt (by omega) (ae HB2'') (((((aA.refl _ _).set 5 (.int .i64 (ak t.kind))).set 6 (.int .i64 val)).set 7 (.string tx)).set 8 (.slice ao t.args.length cap)))
 go_wp2_with fail
 refine(kG _ rb s l2 ns' nv' e' ((ae RB).1.below ((Below.refl _ _).alloc (Nat.le_refl _) _))).mono ?_
 rintro e w3 ⟨rfl,hw⟩
 rw[hw]
 clear hw w3
 go_wp2_with fail
 have RK:=sO (ae bV) (ae cQ) hlt (by omega) (by omega) (ae HB2'') (ae HB1'') (((((aA.refl _ _).set 5 (.int .i64 (ak t.kind))).set 6 (.int .i64 val)).set 7 (.string tx)).set 8 (.slice ao t.args.length cap)) (((((((((((((((aA.refl _ _).set 0 (.int .i64 a.k)).set 1 (.int .i64 a.val)).set 2 (.string a.tx)).set 3 (.slice a.ao a.n a.cap)).set 4 (.string (Za.hd l).text)).set 5 (.int .i64 (ak t.kind))).set 6 (.int .i64 val)).set 7 (.string tx)).set 8 (.slice ao t.args.length cap)).set 9 (.string ⟨#[]⟩)).set 10 (.int .i64 0)).set 11 (.int .i64 0)).set 12 (.string ⟨#[]⟩)).set 13 (.slice none 0 0))
 have R:=RK.1
 refine bodyPost_ret (v:= .tuple #[.agg #[.int .i64 a.k,.int .i64 a.val,.string a.tx,.slice a.ao a.n a.cap,.string (Za.hd l).text,.int .i64 (ak t.kind),.int .i64 val,.string tx,.slice ao t.args.length cap,.string ⟨#[]⟩,.int .i64 0,.int .i64 0,.string ⟨#[]⟩,.slice none 0 0],.bool true]) (by simp[results,Tryz.results135,go_sem,hz1,r]) rfl ?_
 exact⟨a,⟨ak t.kind,val,tx,ao,t.args.length,cap⟩,⟨0,0,⟨#[]⟩,none,0,0⟩,(Za.hd l).text,⟨#[]⟩,ns',nv',e',rfl,⟨rfl,rfl,rfl,(fun r q=>by cases q;exact(RK.2.trans (aJ.alloc _ _)).ra (ae fP).rep),empty_list,(fun z q=>by cases q),(ae fP).nms⟩,R.1.below ((Below.refl _ _).alloc (Nat.le_refl _) _),R.2.alloc _⟩
end Go.Proofs.YthfjnfcekeknlaaGreatDoor
