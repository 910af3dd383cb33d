import Derived.Test.YthfjnfcekeknlaaGreatDoorSu05
import Derived.Deep.RegionWith
set_option maxHeartbeats 8000000
set_option maxRecDepth 100000
namespace Go.Proofs.YthfjnfcekeknlaaGreatDoor
open Go.RowKit
def boxZ:Obj:= .cells #[.int .i64 0,.int .i64 0,.string ⟨#[]⟩,.slice none 0 0,.string ⟨#[]⟩,.int .i64 0,.int .i64 0,.string ⟨#[]⟩,.slice none 0 0,.string ⟨#[]⟩,.int .i64 0,.int .i64 0,.string ⟨#[]⟩,.slice none 0 0] 151
def kB (a:TV):Obj:= .cells #[.int .i64 a.k,.int .i64 a.val,.string a.tx,.slice a.ao a.n a.cap] 76
def lf (a:TV) (tx:ByteArray):Obj:= .cells #[.int .i64 a.k,.int .i64 a.val,.string a.tx,.slice a.ao a.n a.cap,.string tx,.int .i64 0,.int .i64 0,.string ⟨#[]⟩,.slice none 0 0,.string ⟨#[]⟩,.int .i64 0,.int .i64 0,.string ⟨#[]⟩,.slice none 0 0] 151
theorem jU {w:World} {rb:Nat} {s:ByteArray} {l:List Za.aj} {ns:List ByteArray} {nv:Value} {e0:Int} (a:TV) (tx:ByteArray) (h:St w rb s l ns nv e0):
 St (((w.alloc (kB a)).alloc boxZ).alloc (lf a tx)).drew rb s l ns nv e0∧KA rb [rb] w (((w.alloc (kB a)).alloc boxZ).alloc (lf a tx)).drew∧
 (((w.alloc (kB a)).alloc boxZ).alloc (lf a tx)).drew.heap[w.heap.size+1]?=some (.cells #[.int .i64 0,.int .i64 0,.string ⟨#[]⟩,.slice none 0 0,.string ⟨#[]⟩,.int .i64 0,.int .i64 0,.string ⟨#[]⟩,.slice none 0 0,.string ⟨#[]⟩,.int .i64 0,.int .i64 0,.string ⟨#[]⟩,.slice none 0 0] 151 (0,0))∧
 (((w.alloc (kB a)).alloc boxZ).alloc (lf a tx)).drew.heap[w.heap.size+1+1]?=some (.cells #[.int .i64 a.k,.int .i64 a.val,.string a.tx,.slice a.ao a.n a.cap,.string tx,.int .i64 0,.int .i64 0,.string ⟨#[]⟩,.slice none 0 0,.string ⟨#[]⟩,.int .i64 0,.int .i64 0,.string ⟨#[]⟩,.slice none 0 0] 151 (0,0))∧w.heap.size+1+1<(((w.alloc (kB a)).alloc boxZ).alloc (lf a tx)).drew.heap.size:=by
 refine⟨h.below ((((Below.refl _ _).alloc (Nat.le_refl _) _).alloc (by simp) _).alloc (by simp;omega) _).drew,((((KA.refl rb [rb] w).alloc _).alloc _).alloc _).drew,?_,?_,by show _<(((w.alloc (kB a)).alloc boxZ).alloc (lf a tx)).heap.size;simp⟩
 ·show (((w.alloc (kB a)).alloc boxZ).alloc (lf a tx)).heap[w.heap.size+1]?=_
  refine aB ?_ _
  have:=heap_alloc_new (w.alloc (kB a)) boxZ
  rw[World.size_alloc]at this
  exact this
 ·show (((w.alloc (kB a)).alloc boxZ).alloc (lf a tx)).heap[w.heap.size+1+1]?=_
  have:=heap_alloc_new ((w.alloc (kB a)).alloc boxZ) (lf a tx)
  rw[World.size_alloc,World.size_alloc]at this
  exact this
theorem rB {w w1 w2 w3:World} {rb:Nat} {s:ByteArray} {l:List Za.aj} {ns:List ByteArray} {nv:Value} {e:Int} {b b':Nat} {cs cs':Array Value} {T T':TypeId} (h:St w1 rb s l ns nv e) (hk:KA rb [rb] w w1) (hlt:rb<w.heap.size) (hb:w.heap.size≤b) (hb':w.heap.size≤b') (hc:w1.heap[b]?=some (.cells cs T (0,0))) (hc':w1.heap[b']?=some (.cells cs' T' (0,0))) (ho:aC b w1 w2) (BG:aC b' w2 w3) (hT:T≠9:=by decide) (hT':T'≠9:=by decide):
 St w3 rb s l ns nv e∧KA rb [rb] w w3:=by
 have R:=bW h hk hlt hb hc ho hT
 refine⟨R.1.only BG (by omega) (by omega) ?_,R.2.eI BG hb'⟩
 rw[ho.ty];unfold aP;rw[hc'];simpa using hT'
theorem empty_list:(⟨#[]⟩:ByteArray).toList=[]:=by rw[ByteArray.toList_mk]
theorem tK {w w1 w2 w3:World} {rb:Nat} {s:ByteArray} {l:List Za.aj} {ns:List ByteArray} {nv:Value} {e:Int} {b b':Nat} {cs cs':Array Value} {T T':TypeId} (h:St w1 rb s l ns nv e) (hk:KA rb [rb] w w1) (hlt:rb<w.heap.size) (hb:w.heap.size≤b) (hb':w.heap.size≤b') (hc:w1.heap[b]?=some (.cells cs T (0,0))) (hc':w1.heap[b']?=some (.cells cs' T' (0,0))) (ho:aC b w1 w2) (BG:aC b' w2 w3) (hT:T≠9:=by decide) (hT':T'≠9:=by decide) (hU:T≠76:=by decide) (hU':T'≠76:=by decide):
 (St w3 rb s l ns nv e∧KA rb [rb] w w3)∧aN w1 w3:=
 ⟨rB h hk hlt hb hb' hc hc' ho BG hT hT',(aN.only ho (by unfold aP;rw[hc];simpa using hU)).trans (aN.only BG (by rw[ho.ty];unfold aP;rw[hc'];simpa using hU'))⟩
theorem KB {left:Za.Tm} {l:List Za.aj}:Za.sides left false l=Za.bad 2 l:=rfl
theorem Ib {left:Za.Tm} {l:List Za.aj}:Za.sides left true l=match Za.term 8 l.tail with
 | .inl e=> .inl e
 | .inr (r,l2)=> .inr (⟨left,(Za.hd l).text.toList,some r,[],none⟩,l2):=by
 unfold Za.sides;rw[if_pos rfl]
 rcases Za.term 8 l.tail with e | ⟨r,l2⟩<;>rfl
theorem p7 (w:World) (rb:Nat) (s:ByteArray) (l:List Za.aj) (ns:List ByteArray) (nv:Value) (e0:Int) (a:TV) (left:Za.Tm) (fits:Bool) (h:St w rb s l ns nv e0) (h0:(Za.hd l).kind≠0):
 Calls Tryz.prog 134 #[.pointer (some ⟨rb,0,none⟩),.agg #[.int .i64 a.k,.int .i64 a.val,.string a.tx,.slice a.ao a.n a.cap],.bool fits] w fun e w'=>ni rb s a left ns (Za.sides left fits l) w e w':=by
 have hlt:=h.lt
 have h0':=af h0
 have I:=af (fun W nv (hW:St W rb s l.tail ns nv e0)=>term_all 8 W rb s l.tail ns nv e0 1 rfl hW)
 obtain⟨hS,hK,hB1,hB2,hz⟩:=jU a (Za.hd l).text h
 unfold kB boxZ lf at hS hK hB1 hB2 hz
 have HS:=af hS
 have HK:=af hK
 have bD:=af hB1
 have bf:=af hB2
 have HZ:=af hz
 clear hS hK hB1 hB2 hz
 obtain⟨⟨c0,c1,c2,c3,c4,c5,f1,f2,f3,f4,f5⟩,own,chain,isn,few,short,signs,pos,lt⟩:=h
 clear own chain isn few short signs c0 c1 c2 c4 c5 f1 f2 f3 f4 f5 h0
 have hc2:∀o1 o2,((w.alloc o1).alloc o2).cell? ⟨rb,3,none⟩=some (.string (Za.hd l).text):=fun o1 o2=>by rw[World.cell?_alloc_past _ _ _ (by simp;omega),World.cell?_alloc_past _ _ _ hlt];exact c3
 have hc3:∀o1 o2 o3,(((w.alloc o1).alloc o2).alloc o3).cell? ⟨rb,3,none⟩=some (.string (Za.hd l).text):=fun o1 o2 o3=>by rw[World.cell?_alloc_past _ _ _ (by simp;omega)];exact hc2 o1 o2
 cases fits
 ·rw[KB]
  clear I
  go_enter Tryz.func134,Tryz.ntmps134
  go_wp2_with fail
  go_big_region
  go_wp2_with fail
  refine(dI _ rb s l ns nv e0 false (ae HS) (fun q=>by cases q)).mono ?_
  rintro e w1 ⟨rfl,hs,hk⟩
  have hb1:=aq hk (ae bD) (by simp;omega)
  have hb2:=aq hk (ae bf) (by simp;omega)
  have bH:=af hs
  have df:=af ((ae HK).trans hk)
  clear hs hk hc2 hc3 c3
  have r:=ah hb1
  have x:=ay hb1
  have q:=ah hb2
  have y:=ay hb2
  have HB1':=af hb1
  have HB2':=af hb2
  clear hb1 hb2
  go_wp2_with fail
  have R:=bW (ae bH) (ae df) hlt (by omega) (ae HB1') (((((((((((((((aC.refl _ _).set 0 (.int .i64 a.k)).set 1 (.int .i64 a.val)).set 2 (.string a.tx)).set 3 (.slice a.ao a.n a.cap)).set 4 (.string (Za.hd l).text)).set 5 (.int .i64 0)).set 6 (.int .i64 0)).set 7 (.string ⟨#[]⟩)).set 8 (.slice none 0 0)).set 9 (.string ⟨#[]⟩)).set 10 (.int .i64 0)).set 11 (.int .i64 0)).set 12 (.string ⟨#[]⟩)).set 13 (.slice none 0 0))
  refine bodyPost_ret (v:= .tuple #[.agg #[.int .i64 a.k,.int .i64 a.val,.string a.tx,.slice a.ao a.n a.cap,.string (Za.hd l).text,.int .i64 0,.int .i64 0,.string ⟨#[]⟩,.slice none 0 0,.string ⟨#[]⟩,.int .i64 0,.int .i64 0,.string ⟨#[]⟩,.slice none 0 0],.bool false]) (by simp[results,Tryz.results134,go_sem,r]) rfl ?_
  exact⟨a,⟨0,0,⟨#[]⟩,none,0,0⟩,⟨0,0,⟨#[]⟩,none,0,0⟩,(Za.hd l).text,⟨#[]⟩,l,ns,nv,rfl,R.1,rfl,R.2⟩
 ·rw[Ib]
  generalize Za.term 8 l.tail=r at I⊢
  rcases r with⟨er,pos⟩ | ⟨t,l2⟩
  ·show Calls _ _ _ _ fun e w'=>ni rb s a left ns (.inl (er,pos)) w e w'
   go_enter Tryz.func134,Tryz.ntmps134
   go_wp2_with fail
   go_big_region
   go_wp2_with fail
   refine(dI _ rb s l ns nv e0 true (ae HS) (fun _=>ae h0')).mono ?_
   rintro e w1 ⟨rfl,hs,hk⟩
   have HB1':=af (aq hk (ae bD) (by simp;omega))
   have HB2':=af (aq hk (ae bf) (by simp;omega))
   have bH:=af hs
   have df:=af ((ae HK).trans hk)
   clear hs hk hc2 hc3 c3
   go_wp2_with fail
   refine(ae I _ _ (ae bH)).mono ?_
   rintro e w2 ⟨k,val,tx,ao,n,cap,l',ns',nv',rfl,hs2,cu,hk2⟩
   have HP:=af cu
   clear cu
   have hb1:=aq hk2 (ae HB1') (by simp;omega)
   have hb2:=aq hk2 (ae HB2') (by simp;omega)
   have hz1:w.heap.size+1<w2.heap.size:=ag hb1
   have hz2:w.heap.size+1+1<w2.heap.size:=ag hb2
   have cg:=af hs2
   have di:=af ((ae df).trans hk2)
   clear hs2 hk2
   have r:=ah hb1
   have x:=ay hb1
   have q:=ah hb2
   have y:=ay hb2
   have HB1'':=af hb1
   have HB2'':=af hb2
   clear hb1 hb2
   go_wp2_with fail
   have R:=rB (ae cg) (ae di) hlt (by omega) (by omega) (ae HB2'') (ae HB1'') (((((aC.refl _ _).set 5 (.int .i64 k)).set 6 (.int .i64 val)).set 7 (.string tx)).set 8 (.slice ao n cap)) (((((((((((((((aC.refl _ _).set 0 (.int .i64 a.k)).set 1 (.int .i64 a.val)).set 2 (.string a.tx)).set 3 (.slice a.ao a.n a.cap)).set 4 (.string (Za.hd l).text)).set 5 (.int .i64 k)).set 6 (.int .i64 val)).set 7 (.string tx)).set 8 (.slice ao n cap)).set 9 (.string ⟨#[]⟩)).set 10 (.int .i64 0)).set 11 (.int .i64 0)).set 12 (.string ⟨#[]⟩)).set 13 (.slice none 0 0))
   refine bodyPost_ret (v:= .tuple #[.agg #[.int .i64 a.k,.int .i64 a.val,.string a.tx,.slice a.ao a.n a.cap,.string (Za.hd l).text,.int .i64 k,.int .i64 val,.string tx,.slice ao n cap,.string ⟨#[]⟩,.int .i64 0,.int .i64 0,.string ⟨#[]⟩,.slice none 0 0],.bool false]) (by simp[results,Tryz.results134,go_sem,hz1,r]) rfl ?_
   exact⟨a,⟨k,val,tx,ao,n,cap⟩,⟨0,0,⟨#[]⟩,none,0,0⟩,(Za.hd l).text,⟨#[]⟩,l',ns',nv',rfl,R.1.below ((Below.refl _ _).alloc (Nat.le_refl _) _),ae HP,R.2.alloc _⟩
  ·show Calls _ _ _ _ fun e w'=>ni rb s a left ns (.inr (⟨left,(Za.hd l).text.toList,some t,[],none⟩,l2)) w e w'
   go_enter Tryz.func134,Tryz.ntmps134
   go_wp2_with fail
   go_big_region
   go_wp2_with fail
   refine(dI _ rb s l ns nv e0 true (ae HS) (fun _=>ae h0')).mono ?_
   rintro e w1 ⟨rfl,hs,hk⟩
   have HB1':=af (aq hk (ae bD) (by simp;omega))
   have HB2':=af (aq hk (ae bf) (by simp;omega))
   have bH:=af hs
   have df:=af ((ae HK).trans hk)
   clear hs hk hc2 hc3 c3
   go_wp2_with fail
   refine(ae I _ _ (ae bH)).mono ?_
   rintro e w2 ⟨val,tx,ao,cap,ns',nv',e',rfl,bj,hs2,hk2⟩
   have fW:=af bj
   clear bj
   have hb1:=aq hk2 (ae HB1') (by simp;omega)
   have hb2:=aq hk2 (ae HB2') (by simp;omega)
   have hz1:w.heap.size+1<w2.heap.size:=ag hb1
   have hz2:w.heap.size+1+1<w2.heap.size:=ag hb2
   have cg:=af hs2
   have di:=af ((ae df).trans hk2)
   clear hs2 hk2
   have r:=ah hb1
   have x:=ay hb1
   have q:=ah hb2
   have y:=ay hb2
   have HB1'':=af hb1
   have HB2'':=af hb2
   clear hb1 hb2
   go_wp2_with fail
   have RK:=tK (ae cg) (ae di) hlt (by omega) (by omega) (ae HB2'') (ae HB1'') (((((aC.refl _ _).set 5 (.int .i64 (ak t.kind))).set 6 (.int .i64 val)).set 7 (.string tx)).set 8 (.slice ao t.args.length cap)) (((((((((((((((aC.refl _ _).set 0 (.int .i64 a.k)).set 1 (.int .i64 a.val)).set 2 (.string a.tx)).set 3 (.slice a.ao a.n a.cap)).set 4 (.string (Za.hd l).text)).set 5 (.int .i64 (ak t.kind))).set 6 (.int .i64 val)).set 7 (.string tx)).set 8 (.slice ao t.args.length cap)).set 9 (.string ⟨#[]⟩)).set 10 (.int .i64 0)).set 11 (.int .i64 0)).set 12 (.string ⟨#[]⟩)).set 13 (.slice none 0 0))
   have R:=RK.1
   refine bodyPost_ret (v:= .tuple #[.agg #[.int .i64 a.k,.int .i64 a.val,.string a.tx,.slice a.ao a.n a.cap,.string (Za.hd l).text,.int .i64 (ak t.kind),.int .i64 val,.string tx,.slice ao t.args.length cap,.string ⟨#[]⟩,.int .i64 0,.int .i64 0,.string ⟨#[]⟩,.slice none 0 0],.bool true]) (by simp[results,Tryz.results134,go_sem,hz1,r]) rfl ?_
   exact⟨a,⟨ak t.kind,val,tx,ao,t.args.length,cap⟩,⟨0,0,⟨#[]⟩,none,0,0⟩,(Za.hd l).text,⟨#[]⟩,ns',nv',e',rfl,⟨rfl,rfl,rfl,(fun r q=>by cases q;exact(RK.2.trans (aN.alloc _ _)).ra (ae fW).rep),empty_list,(fun z q=>by cases q),(ae fW).nms⟩,R.1.below ((Below.refl _ _).alloc (Nat.le_refl _) _),R.2.alloc _⟩
structure o9 (ns ns':List ByteArray) (w':World) (a b c:TV) (sg op:ByteArray) (x:Za.aH):Prop where
 left:RA 8 (aV ns') anyA w' a x.left
 sign:sg.toList=x.sign
 right:∀r,x.right=some r→RA 8 (aV ns') anyA w' b r
 op:op.toList=x.op
 last:∀z,x.last=some z→RA 8 (aV ns') anyA w' c z
 nms:aV ns'=Za.aQ (aV ns) x
theorem o9.of {ns ns1 ns':List ByteArray} {W w1 w2 w':World} {val:Int} {tx:ByteArray} {ao:Option Addr} {cap:Nat} {t:Za.Tm} {a b c:TV} {sg op:ByteArray} {x:Za.aH} (hl:TA 8 ns ns1 W w1 val tx ao cap t) (ha:a=⟨ak t.kind,val,tx,ao,t.args.length,cap⟩) (hx:x.left=t) (hr:G1 ns1 ns' w2 b c sg op x) (hk:aN w1 w2) (hk2:aN w2 w'):o9 ns ns' w' a b c sg op x:=by
 subst ha
 obtain⟨M1,e1,_⟩:=Za.pV (ns:=aV ns1) (t:=x.right) (fun r q=>(hr.right r q).nA)
 obtain⟨M2,e2,_⟩:=Za.pV (ns:=Za.cG (aV ns1) x.right) (t:=x.last) (fun r q=>(hr.last r q).nA)
 have he:aV ns'=aV ns1++(M1++M2):=by rw[hr.nms,e2,e1,List.append_assoc]
 refine⟨?_,hr.sign,fun r q=>hk2.ra (hr.right r q),hr.op,fun z q=>hk2.ra (hr.last z q),?_⟩
 ·rw[hx,he]
  exact((hk.trans hk2).ra hl.rep).more _
 ·rw[hr.nms,hl.nms]
  unfold Za.aQ
  rw[hx]
theorem o9.plain {ns ns1:List ByteArray} {W w1 w':World} {val:Int} {tx:ByteArray} {ao:Option Addr} {cap:Nat} {t:Za.Tm} {b c:TV} (hl:TA 8 ns ns1 W w1 val tx ao cap t) (hk:aN w1 w'):o9 ns ns1 w' ⟨ak t.kind,val,tx,ao,t.args.length,cap⟩ b c ⟨#[]⟩ ⟨#[]⟩ ⟨t,[],none,[],none⟩:=
 o9.of hl rfl rfl ⟨empty_list,(fun r q=>by cases q),empty_list,(fun r q=>by cases q),rfl⟩ hk (aN.refl _)
def nG (rb lb:Nat) (iv:Value) (s:ByteArray) (ns:List ByteArray) (r:Za.dQ (Za.aH×Bool×Bool)) (w:World) (e:Ending) (w':World):Prop:=match r with
 | .inl (er,pos)=>∃(a b c:TV) (sg op:ByteArray) (l':List Za.aj) (ns':List ByteArray) (nv':Value),
  e= .returned (.tuple #[.agg #[.int .i64 a.k,.int .i64 a.val,.string a.tx,.slice a.ao a.n a.cap,.string sg,.int .i64 b.k,.int .i64 b.val,.string b.tx,.slice b.ao b.n b.cap,.string op,.int .i64 c.k,.int .i64 c.val,.string c.tx,.slice c.ao c.n c.cap],.bool false])∧St w' rb s l' ns' nv' (er:Int)∧(Za.hd l').pos=pos∧KA rb [rb,lb] w w'
 | .inr ((x,t1,g1),l1)=>∃(a b c:TV) (sg op:ByteArray) (ns':List ByteArray) (nv':Value) (e':Int),
  e= .returned (.tuple #[.agg #[.int .i64 a.k,.int .i64 a.val,.string a.tx,.slice a.ao a.n a.cap,.string sg,.int .i64 b.k,.int .i64 b.val,.string b.tx,.slice b.ao b.n b.cap,.string op,.int .i64 c.k,.int .i64 c.val,.string c.tx,.slice c.ao c.n c.cap],.bool true])∧o9 ns ns' w' a b c sg op x∧St w' rb s l1 ns' nv' e'∧w'.heap[lb]?=some (.cells #[iv,.bool t1,.bool g1] 82 (0,0))∧KA rb [rb,lb] w w'
theorem KA.wide {rb lb:Nat} {w w':World} (h:KA rb [rb] w w'):KA rb [rb,lb] w w':=h.mono (by simp)
theorem ez {w:World} {rb lb:Nat} {s:ByteArray} {l:List Za.aj} {ns:List ByteArray} {nv:Value} {e0:Int} {C:Array Value} (h:St w rb s l ns nv e0) (hb:w.heap[lb]?=some (.cells C 82 (0,0))):
 St (w.alloc boxZ) rb s l ns nv e0∧KA rb [rb] w (w.alloc boxZ)∧(w.alloc boxZ).heap[w.heap.size]?=some (.cells #[.int .i64 0,.int .i64 0,.string ⟨#[]⟩,.slice none 0 0,.string ⟨#[]⟩,.int .i64 0,.int .i64 0,.string ⟨#[]⟩,.slice none 0 0,.string ⟨#[]⟩,.int .i64 0,.int .i64 0,.string ⟨#[]⟩,.slice none 0 0] 151 (0,0))∧(w.alloc boxZ).heap[lb]?=some (.cells C 82 (0,0)):=
 ⟨h.below ((Below.refl _ _).alloc (Nat.le_refl _) _),(KA.refl _ _ _).alloc _,heap_alloc_new w _,aB hb _⟩
theorem KC (w:World) (rb lb:Nat) (s:ByteArray) (l:List Za.aj) (ns:List ByteArray) (nv iv:Value) (e0:Int) (tests goals:Bool) (h:St w rb s l ns nv e0) (hb:w.heap[lb]?=some (.cells #[iv,.bool tests,.bool goals] 82 (0,0))) (_hne:lb≠rb) (_hn0:lb≠0) (er ps:Nat) (hT:Za.term 8 l= .inl (er,ps)):
 Calls Tryz.prog 80 #[.pointer (some ⟨rb,0,none⟩),.pointer (some ⟨lb,0,none⟩)] w fun e w'=>nG rb lb iv s ns (.inl (er,ps)) w e w':=by
 have hlt:=h.lt
 have eR:lb<w.heap.size:=ag hb
 obtain⟨hS,hK,hB0,hB1⟩:=ez h hb
 unfold boxZ at hS hK hB0 hB1
 have HS:=af hS
 have HK:=af hK
 have aY:=af hB0
 have bD:=af hB1
 have I:=af (fun W (hW:St W rb s l ns nv e0)=>term_all 8 W rb s l ns nv e0 1 rfl hW)
 rw[hT]at I
 clear hS hK hB0 hB1 h hb
 go_enter Tryz.func80,Tryz.ntmps80
 go_wp2_with fail
 refine(ae I _ (ae HS)).mono ?_
 rintro e w1 ⟨k,val,tx,ao,n,cap,l',ns',nv',rfl,hs,cu,hk⟩
 have bH:=af hs
 have HP:=af cu
 have df:=af ((ae HK).trans hk)
 have hb0:=aq hk (ae aY) (by simp;omega)
 have hz0:w.heap.size<w1.heap.size:=ag hb0
 have r:=ah hb0
 have x:=ay hb0
 have HB0':=af hb0
 clear hs cu hk hb0
 go_wp2_with fail
 have R:=bW (ae bH) (ae df) hlt (Nat.le_refl _) (ae HB0') (((((((((((((((aC.refl _ _).set 0 (.int .i64 0)).set 1 (.int .i64 0)).set 2 (.string ⟨#[]⟩)).set 3 (.slice none 0 0)).set 4 (.string ⟨#[]⟩)).set 5 (.int .i64 0)).set 6 (.int .i64 0)).set 7 (.string ⟨#[]⟩)).set 8 (.slice none 0 0)).set 9 (.string ⟨#[]⟩)).set 10 (.int .i64 0)).set 11 (.int .i64 0)).set 12 (.string ⟨#[]⟩)).set 13 (.slice none 0 0))
 refine bodyPost_ret (v:= .tuple #[.agg #[.int .i64 0,.int .i64 0,.string ⟨#[]⟩,.slice none 0 0,.string ⟨#[]⟩,.int .i64 0,.int .i64 0,.string ⟨#[]⟩,.slice none 0 0,.string ⟨#[]⟩,.int .i64 0,.int .i64 0,.string ⟨#[]⟩,.slice none 0 0],.bool false]) (by simp[results,Tryz.results80,go_sem,hz0,r]) rfl ?_
 exact⟨⟨0,0,⟨#[]⟩,none,0,0⟩,⟨0,0,⟨#[]⟩,none,0,0⟩,⟨0,0,⟨#[]⟩,none,0,0⟩,⟨#[]⟩,⟨#[]⟩,l',ns',nv',rfl,R.1.below ((Below.refl _ _).alloc (Nat.le_refl _) _),ae HP,(R.2.alloc _).wide⟩
end Go.Proofs.YthfjnfcekeknlaaGreatDoor
