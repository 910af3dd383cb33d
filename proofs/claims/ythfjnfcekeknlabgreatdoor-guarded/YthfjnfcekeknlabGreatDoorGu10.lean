import Derived.Test.YthfjnfcekeknlabGreatDoorGu04
import Derived.Deep.RegionWith
set_option maxHeartbeats 8000000
set_option maxRecDepth 100000
namespace Zf
def ay (ns:List (List UInt8)) (xs:List aD):List (List UInt8):=xs.foldl aL ns
theorem Il {α:Type} {F:List (List UInt8)→α→List (List UInt8)} {c:Nat} (xs:List α):(∀t∈xs,∀ns,∃M,F ns t=ns++M∧M.length≤c)→∀ns,∃M,xs.foldl F ns=ns++M∧M.length≤xs.length*c:=by
 induction xs with
 | nil=>exact fun _ ns=>⟨[],by simp,by simp⟩
 | cons t ts ih=>
  intro h ns
  obtain⟨M,hM,hl⟩:=h t (by simp) ns
  obtain⟨M2,hM2,hl2⟩:=ih (fun u hu=>h u (by simp[hu])) (F ns t)
  refine⟨M++M2,by rw[List.foldl_cons,hM2,hM,List.append_assoc],?_⟩
  rw[List.length_append,List.length_cons,Nat.add_mul]
  omega
theorem sY (xs:List aD) (h:∀x∈xs,Hr x) (ns:List (List UInt8)):∃M,xs.foldl aL ns=ns++M∧M.length≤xs.length*20000:=
 Il (F:=aL) (c:=20000) xs (fun t ht=>xe t (h t ht)) ns
def NH (c:aI):List (List UInt8):=namesF 8 [] c.head
def NT (c:aI):List (List UInt8):=ay (NH c) c.tests
def NG (c:aI):List (List UInt8):=ay (NT c) c.goals
end Zf
namespace Go.Proofs.YthfjnfcekeknlabGreatDoor
open Go
theorem dX (l m:List UInt8):(⟨l.toArray⟩:ByteArray)++⟨m.toArray⟩=⟨(l++m).toArray⟩:=by
 show (⟨l.toArray⟩:ByteArray).append ⟨m.toArray⟩=_
 simp[ByteArray.append]
theorem yr (b:ByteArray):(⟨b.toList.toArray⟩:ByteArray)=b:=by
 obtain⟨d⟩:=b
 rw[ByteArray.toList_mk]
theorem bR.at {α β:Type} {R:α→β→Prop}:∀{xs:List α} {ys:List β},bR R xs ys→∀(i:Nat) (h:i<xs.length) (h':i<ys.length),R xs[i] ys[i]
 | _ :: _,_ :: _,q,0,_,_=>q.1
 | _ :: _,_ :: _,q,i+1,h,h'=>bR.at q.2 i (by simpa using h) (by simpa using h')
theorem Im (c:UInt8):(⟨#[c]⟩:ByteArray)=⟨[c].toArray⟩:=rfl
theorem eU {b:ByteArray} {l:List UInt8} (h:b.toList=l):b=⟨l.toArray⟩:=by rw[←h,yr]
end Go.Proofs.YthfjnfcekeknlabGreatDoor
namespace Go.Proofs.YthfjnfcekeknlabGreatDoor
open Go.RowKit
theorem infoStrS:(Tryz.prog.info? 9).map (fun i=>(i.zero,i.size,i.bytes))=some (some (.string ⟨#[]⟩),1,16):=by kernel_rfl
def boxZ:Obj:= .cells #[.int .i64 0,.int .i64 0,.string ⟨#[]⟩,.slice none 0 0,.string ⟨#[]⟩,.int .i64 0,.int .i64 0,.string ⟨#[]⟩,.slice none 0 0,.string ⟨#[]⟩,.int .i64 0,.int .i64 0,.string ⟨#[]⟩,.slice none 0 0] 125
def kB (a:TV):Obj:= .cells #[.int .i64 a.k,.int .i64 a.val,.string a.tx,.slice a.ao a.n a.cap] 74
def lq (a:TV) (tx:ByteArray):Obj:= .cells #[.int .i64 a.k,.int .i64 a.val,.string a.tx,.slice a.ao a.n a.cap,.string tx,.int .i64 0,.int .i64 0,.string ⟨#[]⟩,.slice none 0 0,.string ⟨#[]⟩,.int .i64 0,.int .i64 0,.string ⟨#[]⟩,.slice none 0 0] 125
theorem jU {w:World} {rb:Nat} {s:ByteArray} {l:List Zf.Tok} {ns:List ByteArray} {nv:Value} {e0:Int} (a:TV) (tx:ByteArray) (h:St w rb s l ns nv e0):
 St (((w.alloc (kB a)).alloc boxZ).alloc (lq a tx)).drew rb s l ns nv e0∧KA rb [rb] w (((w.alloc (kB a)).alloc boxZ).alloc (lq a tx)).drew∧
 (((w.alloc (kB a)).alloc boxZ).alloc (lq a tx)).drew.heap[w.heap.size+1]?=some (.cells #[.int .i64 0,.int .i64 0,.string ⟨#[]⟩,.slice none 0 0,.string ⟨#[]⟩,.int .i64 0,.int .i64 0,.string ⟨#[]⟩,.slice none 0 0,.string ⟨#[]⟩,.int .i64 0,.int .i64 0,.string ⟨#[]⟩,.slice none 0 0] 125 (0,0))∧
 (((w.alloc (kB a)).alloc boxZ).alloc (lq a tx)).drew.heap[w.heap.size+1+1]?=some (.cells #[.int .i64 a.k,.int .i64 a.val,.string a.tx,.slice a.ao a.n a.cap,.string tx,.int .i64 0,.int .i64 0,.string ⟨#[]⟩,.slice none 0 0,.string ⟨#[]⟩,.int .i64 0,.int .i64 0,.string ⟨#[]⟩,.slice none 0 0] 125 (0,0))∧w.heap.size+1+1<(((w.alloc (kB a)).alloc boxZ).alloc (lq a tx)).drew.heap.size:=by
 refine⟨h.below ((((Below.refl _ _).alloc (Nat.le_refl _) _).alloc (by simp) _).alloc (by simp;omega) _).drew,((((KA.refl rb [rb] w).alloc _).alloc _).alloc _).drew,?_,?_,by show _<(((w.alloc (kB a)).alloc boxZ).alloc (lq a tx)).heap.size;simp⟩
 ·show (((w.alloc (kB a)).alloc boxZ).alloc (lq a tx)).heap[w.heap.size+1]?=_
  refine aA ?_ _
  have:=heap_alloc_new (w.alloc (kB a)) boxZ
  rw[World.size_alloc]at this
  exact this
 ·show (((w.alloc (kB a)).alloc boxZ).alloc (lq a tx)).heap[w.heap.size+1+1]?=_
  have:=heap_alloc_new ((w.alloc (kB a)).alloc boxZ) (lq a tx)
  rw[World.size_alloc,World.size_alloc]at this
  exact this
theorem qY {w w1 w2 w3:World} {rb:Nat} {s:ByteArray} {l:List Zf.Tok} {ns:List ByteArray} {nv:Value} {e:Int} {b b':Nat} {cs cs':Array Value} {T T':TypeId} (h:St w1 rb s l ns nv e) (hk:KA rb [rb] w w1) (hlt:rb<w.heap.size) (hb:w.heap.size≤b) (hb':w.heap.size≤b') (hc:w1.heap[b]?=some (.cells cs T (0,0))) (hc':w1.heap[b']?=some (.cells cs' T' (0,0))) (ho:aB b w1 w2) (ho':aB b' w2 w3) (hT:T≠9:=by decide) (hT':T'≠9:=by decide):
 St w3 rb s l ns nv e∧KA rb [rb] w w3:=by
 have R:=bW h hk hlt hb hc ho hT
 refine⟨R.1.only ho' (by omega) (by omega) ?_,R.2.eG ho' hb'⟩
 rw[ho.ty];unfold aM;rw[hc'];simpa using hT'
theorem empty_list:(⟨#[]⟩:ByteArray).toList=[]:=by rw[ByteArray.toList_mk]
theorem sZ {w w1 w2 w3:World} {rb:Nat} {s:ByteArray} {l:List Zf.Tok} {ns:List ByteArray} {nv:Value} {e:Int} {b b':Nat} {cs cs':Array Value} {T T':TypeId} (h:St w1 rb s l ns nv e) (hk:KA rb [rb] w w1) (hlt:rb<w.heap.size) (hb:w.heap.size≤b) (hb':w.heap.size≤b') (hc:w1.heap[b]?=some (.cells cs T (0,0))) (hc':w1.heap[b']?=some (.cells cs' T' (0,0))) (ho:aB b w1 w2) (ho':aB b' w2 w3) (hT:T≠9:=by decide) (hT':T'≠9:=by decide) (hU:T≠74:=by decide) (hU':T'≠74:=by decide):
 (St w3 rb s l ns nv e∧KA rb [rb] w w3)∧aK w1 w3:=
 ⟨qY h hk hlt hb hb' hc hc' ho ho' hT hT',(aK.only ho (by unfold aM;rw[hc];simpa using hU)).trans (aK.only ho' (by rw[ho.ty];unfold aM;rw[hc'];simpa using hU'))⟩
theorem K6 {left:Zf.Tm} {l:List Zf.Tok}:Zf.sides left false l=Zf.bad 2 l:=rfl
theorem Io {left:Zf.Tm} {l:List Zf.Tok}:Zf.sides left true l=match Zf.term 8 l.tail with
 | .inl e=> .inl e
 | .inr (r,l2)=> .inr (⟨left,(Zf.hd l).text.toList,some r,[],none⟩,l2):=by
 unfold Zf.sides;rw[if_pos rfl]
 rcases Zf.term 8 l.tail with e | ⟨r,l2⟩<;>rfl
theorem pT (w:World) (rb:Nat) (s:ByteArray) (l:List Zf.Tok) (ns:List ByteArray) (nv:Value) (e0:Int) (a:TV) (left:Zf.Tm) (fits:Bool) (h:St w rb s l ns nv e0) (h0:(Zf.hd l).kind≠0):
 Calls Tryz.prog 112 #[.pointer (some ⟨rb,0,none⟩),.agg #[.int .i64 a.k,.int .i64 a.val,.string a.tx,.slice a.ao a.n a.cap],.bool fits] w fun e w'=>np rb s a left ns (Zf.sides left fits l) w e w':=by
 have hlt:=h.lt
 have h0':=hide h0
 have I:=hide (fun W nv (hW:St W rb s l.tail ns nv e0)=>term_all 8 W rb s l.tail ns nv e0 1 rfl hW)
 obtain⟨hS,hK,hB1,hB2,hz⟩:=jU a (Zf.hd l).text h
 unfold kB boxZ lq at hS hK hB1 hB2 hz
 have HS:=hide hS
 have HK:=hide hK
 have bC:=hide hB1
 have aP:=hide hB2
 have HZ:=hide hz
 clear hS hK hB1 hB2 hz
 obtain⟨⟨c0,c1,c2,c3,c4,c5,f1,f2,f3,f4,f5⟩,own,chain,isn,few,short,signs,pos,lt⟩:=h
 clear own chain isn few short signs c0 c1 c2 c4 c5 f1 f2 f3 f4 f5 h0
 have hc2:∀o1 o2,((w.alloc o1).alloc o2).cell? ⟨rb,3,none⟩=some (.string (Zf.hd l).text):=fun o1 o2=>by rw[World.cell?_alloc_past _ _ _ (by simp;omega),World.cell?_alloc_past _ _ _ hlt];exact c3
 have hc3:∀o1 o2 o3,(((w.alloc o1).alloc o2).alloc o3).cell? ⟨rb,3,none⟩=some (.string (Zf.hd l).text):=fun o1 o2 o3=>by rw[World.cell?_alloc_past _ _ _ (by simp;omega)];exact hc2 o1 o2
 cases fits
 ·rw[K6]
  clear I
  go_enter Tryz.func112,Tryz.ntmps112
  go_wp2_with fail
  go_big_region
  go_wp2_with fail
  refine(dJ _ rb s l ns nv e0 false (ae HS) (fun q=>by cases q)).mono ?_
  rintro e w1 ⟨rfl,hs,hk⟩
  have hb1:=aj hk (ae bC) (by simp;omega)
  have hb2:=aj hk (ae aP) (by simp;omega)
  have bF:=hide hs
  have df:=hide ((ae HK).trans hk)
  clear hs hk hc2 hc3 c3
  have r:=ah hb1
  have x:=au hb1
  have q:=ah hb2
  have y:=au hb2
  have HB1':=hide hb1
  have HB2':=hide hb2
  clear hb1 hb2
  go_wp2_with fail
  have R:=bW (ae bF) (ae df) hlt (by omega) (ae HB1') (((((((((((((((aB.refl _ _).set 0 (.int .i64 a.k)).set 1 (.int .i64 a.val)).set 2 (.string a.tx)).set 3 (.slice a.ao a.n a.cap)).set 4 (.string (Zf.hd l).text)).set 5 (.int .i64 0)).set 6 (.int .i64 0)).set 7 (.string ⟨#[]⟩)).set 8 (.slice none 0 0)).set 9 (.string ⟨#[]⟩)).set 10 (.int .i64 0)).set 11 (.int .i64 0)).set 12 (.string ⟨#[]⟩)).set 13 (.slice none 0 0))
  refine bodyPost_ret (v:= .tuple #[.agg #[.int .i64 a.k,.int .i64 a.val,.string a.tx,.slice a.ao a.n a.cap,.string (Zf.hd l).text,.int .i64 0,.int .i64 0,.string ⟨#[]⟩,.slice none 0 0,.string ⟨#[]⟩,.int .i64 0,.int .i64 0,.string ⟨#[]⟩,.slice none 0 0],.bool false]) (by simp[results,Tryz.results112,go_sem,r]) rfl ?_
  exact⟨a,⟨0,0,⟨#[]⟩,none,0,0⟩,⟨0,0,⟨#[]⟩,none,0,0⟩,(Zf.hd l).text,⟨#[]⟩,l,ns,nv,rfl,R.1,rfl,R.2⟩
 ·rw[Io]
  generalize Zf.term 8 l.tail=r at I⊢
  rcases r with⟨er,pos⟩ | ⟨t,l2⟩
  ·show Calls _ _ _ _ fun e w'=>np rb s a left ns (.inl (er,pos)) w e w'
   go_enter Tryz.func112,Tryz.ntmps112
   go_wp2_with fail
   go_big_region
   go_wp2_with fail
   refine(dJ _ rb s l ns nv e0 true (ae HS) (fun _=>ae h0')).mono ?_
   rintro e w1 ⟨rfl,hs,hk⟩
   have HB1':=hide (aj hk (ae bC) (by simp;omega))
   have HB2':=hide (aj hk (ae aP) (by simp;omega))
   have bF:=hide hs
   have df:=hide ((ae HK).trans hk)
   clear hs hk hc2 hc3 c3
   go_wp2_with fail
   refine(ae I _ _ (ae bF)).mono ?_
   rintro e w2 ⟨k,val,tx,ao,n,cap,l',ns',nv',rfl,hs2,hpos,hk2⟩
   have HP:=hide hpos
   clear hpos
   have hb1:=aj hk2 (ae HB1') (by simp;omega)
   have hb2:=aj hk2 (ae HB2') (by simp;omega)
   have hz1:w.heap.size+1<w2.heap.size:=af hb1
   have hz2:w.heap.size+1+1<w2.heap.size:=af hb2
   have cm:=hide hs2
   have dt:=hide ((ae df).trans hk2)
   clear hs2 hk2
   have r:=ah hb1
   have x:=au hb1
   have q:=ah hb2
   have y:=au hb2
   have HB1'':=hide hb1
   have HB2'':=hide hb2
   clear hb1 hb2
   go_wp2_with fail
   have R:=qY (ae cm) (ae dt) hlt (by omega) (by omega) (ae HB2'') (ae HB1'') (((((aB.refl _ _).set 5 (.int .i64 k)).set 6 (.int .i64 val)).set 7 (.string tx)).set 8 (.slice ao n cap)) (((((((((((((((aB.refl _ _).set 0 (.int .i64 a.k)).set 1 (.int .i64 a.val)).set 2 (.string a.tx)).set 3 (.slice a.ao a.n a.cap)).set 4 (.string (Zf.hd l).text)).set 5 (.int .i64 k)).set 6 (.int .i64 val)).set 7 (.string tx)).set 8 (.slice ao n cap)).set 9 (.string ⟨#[]⟩)).set 10 (.int .i64 0)).set 11 (.int .i64 0)).set 12 (.string ⟨#[]⟩)).set 13 (.slice none 0 0))
   refine bodyPost_ret (v:= .tuple #[.agg #[.int .i64 a.k,.int .i64 a.val,.string a.tx,.slice a.ao a.n a.cap,.string (Zf.hd l).text,.int .i64 k,.int .i64 val,.string tx,.slice ao n cap,.string ⟨#[]⟩,.int .i64 0,.int .i64 0,.string ⟨#[]⟩,.slice none 0 0],.bool false]) (by simp[results,Tryz.results112,go_sem,hz1,r]) rfl ?_
   exact⟨a,⟨k,val,tx,ao,n,cap⟩,⟨0,0,⟨#[]⟩,none,0,0⟩,(Zf.hd l).text,⟨#[]⟩,l',ns',nv',rfl,R.1.below ((Below.refl _ _).alloc (Nat.le_refl _) _),ae HP,R.2.alloc _⟩
  ·show Calls _ _ _ _ fun e w'=>np rb s a left ns (.inr (⟨left,(Zf.hd l).text.toList,some t,[],none⟩,l2)) w e w'
   go_enter Tryz.func112,Tryz.ntmps112
   go_wp2_with fail
   go_big_region
   go_wp2_with fail
   refine(dJ _ rb s l ns nv e0 true (ae HS) (fun _=>ae h0')).mono ?_
   rintro e w1 ⟨rfl,hs,hk⟩
   have HB1':=hide (aj hk (ae bC) (by simp;omega))
   have HB2':=hide (aj hk (ae aP) (by simp;omega))
   have bF:=hide hs
   have df:=hide ((ae HK).trans hk)
   clear hs hk hc2 hc3 c3
   go_wp2_with fail
   refine(ae I _ _ (ae bF)).mono ?_
   rintro e w2 ⟨val,tx,ao,cap,ns',nv',e',rfl,htx,hs2,hk2⟩
   have fX:=hide htx
   clear htx
   have hb1:=aj hk2 (ae HB1') (by simp;omega)
   have hb2:=aj hk2 (ae HB2') (by simp;omega)
   have hz1:w.heap.size+1<w2.heap.size:=af hb1
   have hz2:w.heap.size+1+1<w2.heap.size:=af hb2
   have cm:=hide hs2
   have dt:=hide ((ae df).trans hk2)
   clear hs2 hk2
   have r:=ah hb1
   have x:=au hb1
   have q:=ah hb2
   have y:=au hb2
   have HB1'':=hide hb1
   have HB2'':=hide hb2
   clear hb1 hb2
   go_wp2_with fail
   have RK:=sZ (ae cm) (ae dt) hlt (by omega) (by omega) (ae HB2'') (ae HB1'') (((((aB.refl _ _).set 5 (.int .i64 (ak t.kind))).set 6 (.int .i64 val)).set 7 (.string tx)).set 8 (.slice ao t.args.length cap)) (((((((((((((((aB.refl _ _).set 0 (.int .i64 a.k)).set 1 (.int .i64 a.val)).set 2 (.string a.tx)).set 3 (.slice a.ao a.n a.cap)).set 4 (.string (Zf.hd l).text)).set 5 (.int .i64 (ak t.kind))).set 6 (.int .i64 val)).set 7 (.string tx)).set 8 (.slice ao t.args.length cap)).set 9 (.string ⟨#[]⟩)).set 10 (.int .i64 0)).set 11 (.int .i64 0)).set 12 (.string ⟨#[]⟩)).set 13 (.slice none 0 0))
   have R:=RK.1
   refine bodyPost_ret (v:= .tuple #[.agg #[.int .i64 a.k,.int .i64 a.val,.string a.tx,.slice a.ao a.n a.cap,.string (Zf.hd l).text,.int .i64 (ak t.kind),.int .i64 val,.string tx,.slice ao t.args.length cap,.string ⟨#[]⟩,.int .i64 0,.int .i64 0,.string ⟨#[]⟩,.slice none 0 0],.bool true]) (by simp[results,Tryz.results112,go_sem,hz1,r]) rfl ?_
   exact⟨a,⟨ak t.kind,val,tx,ao,t.args.length,cap⟩,⟨0,0,⟨#[]⟩,none,0,0⟩,(Zf.hd l).text,⟨#[]⟩,ns',nv',e',rfl,⟨rfl,rfl,rfl,(fun r q=>by cases q;exact(RK.2.trans (aK.alloc _ _)).ra (ae fX).rep),empty_list,(fun z q=>by cases q),(ae fX).nms⟩,R.1.below ((Below.refl _ _).alloc (Nat.le_refl _) _),R.2.alloc _⟩
structure o7 (ns ns':List ByteArray) (w':World) (a b c:TV) (sg op:ByteArray) (x:Zf.aD):Prop where
 left:RA 8 (aR ns') anyA w' a x.left
 sign:sg.toList=x.sign
 right:∀r,x.right=some r→RA 8 (aR ns') anyA w' b r
 op:op.toList=x.op
 last:∀z,x.last=some z→RA 8 (aR ns') anyA w' c z
 nms:aR ns'=Zf.aL (aR ns) x
theorem o7.of {ns ns1 ns':List ByteArray} {W w1 w2 w':World} {val:Int} {tx:ByteArray} {ao:Option Addr} {cap:Nat} {t:Zf.Tm} {a b c:TV} {sg op:ByteArray} {x:Zf.aD} (hl:TA 8 ns ns1 W w1 val tx ao cap t) (ha:a=⟨ak t.kind,val,tx,ao,t.args.length,cap⟩) (hx:x.left=t) (hr:Hs ns1 ns' w2 b c sg op x) (hk:aK w1 w2) (hk2:aK w2 w'):o7 ns ns' w' a b c sg op x:=by
 subst ha
 obtain⟨M1,e1,_⟩:=Zf.pS (ns:=aR ns1) (t:=x.right) (fun r q=>(hr.right r q).ny)
 obtain⟨M2,e2,_⟩:=Zf.pS (ns:=Zf.cL (aR ns1) x.right) (t:=x.last) (fun r q=>(hr.last r q).ny)
 have he:aR ns'=aR ns1++(M1++M2):=by rw[hr.nms,e2,e1,List.append_assoc]
 refine⟨?_,hr.sign,fun r q=>hk2.ra (hr.right r q),hr.op,fun z q=>hk2.ra (hr.last z q),?_⟩
 ·rw[hx,he]
  exact((hk.trans hk2).ra hl.rep).more _
 ·rw[hr.nms,hl.nms]
  unfold Zf.aL
  rw[hx]
theorem o7.plain {ns ns1:List ByteArray} {W w1 w':World} {val:Int} {tx:ByteArray} {ao:Option Addr} {cap:Nat} {t:Zf.Tm} {b c:TV} (hl:TA 8 ns ns1 W w1 val tx ao cap t) (hk:aK w1 w'):o7 ns ns1 w' ⟨ak t.kind,val,tx,ao,t.args.length,cap⟩ b c ⟨#[]⟩ ⟨#[]⟩ ⟨t,[],none,[],none⟩:=
 o7.of hl rfl rfl ⟨empty_list,(fun r q=>by cases q),empty_list,(fun r q=>by cases q),rfl⟩ hk (aK.refl _)
def nE (rb lb:Nat) (iv:Value) (s:ByteArray) (ns:List ByteArray) (r:Zf.dP (Zf.aD×Bool×Bool)) (w:World) (e:Ending) (w':World):Prop:=match r with
 | .inl (er,pos)=>∃(a b c:TV) (sg op:ByteArray) (l':List Zf.Tok) (ns':List ByteArray) (nv':Value),
  e= .returned (.tuple #[.agg #[.int .i64 a.k,.int .i64 a.val,.string a.tx,.slice a.ao a.n a.cap,.string sg,.int .i64 b.k,.int .i64 b.val,.string b.tx,.slice b.ao b.n b.cap,.string op,.int .i64 c.k,.int .i64 c.val,.string c.tx,.slice c.ao c.n c.cap],.bool false])∧St w' rb s l' ns' nv' (er:Int)∧(Zf.hd l').pos=pos∧KA rb [rb,lb] w w'
 | .inr ((x,t1,g1),l1)=>∃(a b c:TV) (sg op:ByteArray) (ns':List ByteArray) (nv':Value) (e':Int),
  e= .returned (.tuple #[.agg #[.int .i64 a.k,.int .i64 a.val,.string a.tx,.slice a.ao a.n a.cap,.string sg,.int .i64 b.k,.int .i64 b.val,.string b.tx,.slice b.ao b.n b.cap,.string op,.int .i64 c.k,.int .i64 c.val,.string c.tx,.slice c.ao c.n c.cap],.bool true])∧o7 ns ns' w' a b c sg op x∧St w' rb s l1 ns' nv' e'∧w'.heap[lb]?=some (.cells #[iv,.bool t1,.bool g1] 80 (0,0))∧KA rb [rb,lb] w w'
theorem KA.wide {rb lb:Nat} {w w':World} (h:KA rb [rb] w w'):KA rb [rb,lb] w w':=h.mono (by simp)
theorem ed {w:World} {rb lb:Nat} {s:ByteArray} {l:List Zf.Tok} {ns:List ByteArray} {nv:Value} {e0:Int} {C:Array Value} (h:St w rb s l ns nv e0) (hb:w.heap[lb]?=some (.cells C 80 (0,0))):
 St (w.alloc boxZ) rb s l ns nv e0∧KA rb [rb] w (w.alloc boxZ)∧(w.alloc boxZ).heap[w.heap.size]?=some (.cells #[.int .i64 0,.int .i64 0,.string ⟨#[]⟩,.slice none 0 0,.string ⟨#[]⟩,.int .i64 0,.int .i64 0,.string ⟨#[]⟩,.slice none 0 0,.string ⟨#[]⟩,.int .i64 0,.int .i64 0,.string ⟨#[]⟩,.slice none 0 0] 125 (0,0))∧(w.alloc boxZ).heap[lb]?=some (.cells C 80 (0,0)):=
 ⟨h.below ((Below.refl _ _).alloc (Nat.le_refl _) _),(KA.refl _ _ _).alloc _,heap_alloc_new w _,aA hb _⟩
theorem K7 (w:World) (rb lb:Nat) (s:ByteArray) (l:List Zf.Tok) (ns:List ByteArray) (nv iv:Value) (e0:Int) (tests goals:Bool) (h:St w rb s l ns nv e0) (hb:w.heap[lb]?=some (.cells #[iv,.bool tests,.bool goals] 80 (0,0))) (_hne:lb≠rb) (_hn0:lb≠0) (er ps:Nat) (hT:Zf.term 8 l= .inl (er,ps)):
 Calls Tryz.prog 66 #[.pointer (some ⟨rb,0,none⟩),.pointer (some ⟨lb,0,none⟩)] w fun e w'=>nE rb lb iv s ns (.inl (er,ps)) w e w':=by
 have hlt:=h.lt
 have hlb:lb<w.heap.size:=af hb
 obtain⟨hS,hK,hB0,hB1⟩:=ed h hb
 unfold boxZ at hS hK hB0 hB1
 have HS:=hide hS
 have HK:=hide hK
 have aS:=hide hB0
 have bC:=hide hB1
 have I:=hide (fun W (hW:St W rb s l ns nv e0)=>term_all 8 W rb s l ns nv e0 1 rfl hW)
 rw[hT]at I
 clear hS hK hB0 hB1 h hb
 go_enter Tryz.func66,Tryz.ntmps66
 go_wp2_with fail
 refine(ae I _ (ae HS)).mono ?_
 rintro e w1 ⟨k,val,tx,ao,n,cap,l',ns',nv',rfl,hs,hpos,hk⟩
 have bF:=hide hs
 have HP:=hide hpos
 have df:=hide ((ae HK).trans hk)
 have hb0:=aj hk (ae aS) (by simp;omega)
 have hz0:w.heap.size<w1.heap.size:=af hb0
 have r:=ah hb0
 have x:=au hb0
 have HB0':=hide hb0
 clear hs hpos hk hb0
 go_wp2_with fail
 have R:=bW (ae bF) (ae df) hlt (Nat.le_refl _) (ae HB0') (((((((((((((((aB.refl _ _).set 0 (.int .i64 0)).set 1 (.int .i64 0)).set 2 (.string ⟨#[]⟩)).set 3 (.slice none 0 0)).set 4 (.string ⟨#[]⟩)).set 5 (.int .i64 0)).set 6 (.int .i64 0)).set 7 (.string ⟨#[]⟩)).set 8 (.slice none 0 0)).set 9 (.string ⟨#[]⟩)).set 10 (.int .i64 0)).set 11 (.int .i64 0)).set 12 (.string ⟨#[]⟩)).set 13 (.slice none 0 0))
 refine bodyPost_ret (v:= .tuple #[.agg #[.int .i64 0,.int .i64 0,.string ⟨#[]⟩,.slice none 0 0,.string ⟨#[]⟩,.int .i64 0,.int .i64 0,.string ⟨#[]⟩,.slice none 0 0,.string ⟨#[]⟩,.int .i64 0,.int .i64 0,.string ⟨#[]⟩,.slice none 0 0],.bool false]) (by simp[results,Tryz.results66,go_sem,hz0,r]) rfl ?_
 exact⟨⟨0,0,⟨#[]⟩,none,0,0⟩,⟨0,0,⟨#[]⟩,none,0,0⟩,⟨0,0,⟨#[]⟩,none,0,0⟩,⟨#[]⟩,⟨#[]⟩,l',ns',nv',rfl,R.1.below ((Below.refl _ _).alloc (Nat.le_refl _) _),ae HP,(R.2.alloc _).wide⟩
end Go.Proofs.YthfjnfcekeknlabGreatDoor
