import Derived.Test.YthfjnfcekeknlabGreatDoorPx04
import Derived.Maps.AppendAt
import Derived.Deep.AppendLies
import Derived.Deep.LoopGhost
import Derived.Deep.RegionHeld3
import Derived.Deep.RegionLaw
set_option maxHeartbeats 8000000
set_option maxRecDepth 100000
set_option linter.unusedSimpArgs false
namespace Go.Proofs.YthfjnfcekeknlabGreatDoor
open Go.RowKit af
variable {e i val:Int} {w w' w0 w3 w1 w2 wr a u W:World} {s x tx:ByteArray} {rb d f cap b0 n sz k g b:Nat} {l l1:List bX} {nv v1 v0 v2 v3 v v':Value} {t:Tm} {o1 o2:Obj} {ts:List Tm} {ao:Option Addr} {T:TypeId} {xs:List Value} {row:Option Nat} {p:List bX->jM Tm} {er:Nat×Nat} {ns0 ns2 ns1:List ByteArray} {us:List AV} {cs:Array Value} {X:List Nat} {N:List (List UInt8)} {P:Nat->Prop}
theorem Dx (w:World) (rb:Nat) (s:ByteArray) (l:List bX) (ns:List ByteArray) (nv:Value) (e0:Int) (f d:Nat) (h:St w rb s l ns nv e0) (hm:iC d (af.hd l)≠0):
 Calls Tryz.prog 61 #[.pointer (some ⟨rb,0,none⟩),.int .i64 (d:Int)] w fun e w'=>q8 f rb s ns (af.bad (iC d (af.hd l)) l) w e w':=by
 have hb2:Below w.heap.size w ((w.alloc lR).alloc (n8 (af.hd l))):=(Qx.alloc Qw _).alloc (by simp) _;have H2:=ah (h.below hb2);have hlt:=h.lt;unfold lR n8 at H2;obtain⟨⟨c0,c1,c2,c3,c4,c5,f1,f2,f3,f4,f5⟩,own,chain,isn,few,short,signs,pos,lt⟩:=h;clear own chain isn few short signs hb2;have hmf:(iC d (af.hd l) == 0)=false:=by simpa using hm
 go_enter Tryz.func61,Tryz.ntmps61;go_wp2_with (go_at_call 107;refine(i8 _ rb s l ns nv e0 d (ae H2)).mono ?_;rintro e w1 ⟨rfl,hs,hk⟩;rw[aG hm]at hs;obtain⟨r0,r1,r2,r3,x0,x1,x2,x3,t0,t2⟩:=boxes hlt hk;have HS:=ah hs;have HK:=ah hk;clear hs hk);have R:=pG (ae HK) (ae HS) hlt (.int .i64 0) (.int .i64 0) (.string ⟨#[]⟩) (.slice none 0 0);refine aI (v:= .tuple #[.agg #[.int .i64 0,.int .i64 0,.string ⟨#[]⟩,.slice none 0 0],.bool false]) (by simp[results,Tryz.results61,go_sem,r0,r1,r2,r3]) rfl ?_;exact⟨_,_,_,_,_,_,l,ns,nv,rfl,R.1,rfl,R.2⟩
theorem St.Gd {ns:List ByteArray} (h:St w rb s l ns nv e):(af.hd l).text.size<=240:=by obtain⟨p,e⟩:=h.CN;have h1:=h.short;have h2:=@qq s p;rw[e];omega
theorem Hz {t:bX} (h:iC d t=0) (hk:t.kind=4):t.text.size<=6:=by
 unfold iC at h;split at h
 ·split at h
  ·cases h
  ·omega
 ·cases h
theorem MQ {ns ns':List ByteArray} (hz:x.size<=240) (hn:dj ns'=jf (dj ns) x.toList) (hi:i=((dj ns).idxOf x.toList:Int)):TA (f+1) ns ns' w w' i ⟨#[]⟩ none 0 ⟨3,x,[]⟩:=by
 have hm:x.toList∈jf (dj ns) x.toList:=by
  unfold jf;split
  ·assumption
  ·simp
 have hx:=JF (dj ns) [] x.toList;rw[br]at hx;exact⟨RA.one ⟨rfl,rfl,fun _=>⟨by rw[hn];exact hm,by rw[hi,hn];show _=((List.idxOf x.toList _:Nat):Int);rw[hx]⟩,(fun q=>by cases q),(fun q=>by cases q),by simp,hz,by simp⟩ rfl,by rw[hn];simp[aP]⟩
theorem MR {ns:List ByteArray} (hz:x.size<=240) (h6:x.size<=6) (hi:i=(numOf x:Int)):TA (f+1) ns ns w w' i ⟨#[]⟩ none 0 ⟨4,x,[]⟩:=
 ⟨RA.one ⟨rfl,rfl,(fun q=>by cases q),fun _=>⟨hi,h6,rfl⟩,(fun q=>by cases q),by simp,hz,by simp⟩ rfl,by simp[aP]⟩
def P8 (f b:Nat) (ns ns':List ByteArray) (w':World) (ao:Option Addr) (ts:List Tm):Prop:=
 (ts≠[]->∃(g:Nat) (us:List AV) (cs:Array Value),ao=some ⟨g,0,none⟩/\b<g/\w'.heap[g]?=some (.cells cs 74 (0,0))/\cs.toList.take (us.length*4)=us.flatMap oq/\eO (RA f (dj ns') (fun g=>b<g) w') us ts)/\dj ns'=ts.foldl (aP f) (dj ns)/\ts.length<=3
theorem AA.up {ns ns':List ByteArray} (h:AA f ns ns' w w' ao ts) (hz:((w0.alloc o1).alloc o2).heap.size<=w.heap.size):P8 f w0.heap.size ns ns' w' ao ts:=by
 have hz':w0.heap.size+2<=w.heap.size:=by simpa using hz
 refine⟨fun q=> ?_,h.uv,h.few⟩;obtain⟨g,us,cs,h1,h2,h3,h4,h5⟩:=h.rows q;exact⟨g,us,cs,h1,by omega,h3,h4,h5.imp fun _ _ r=>r.imp fun g hg _=>by omega⟩
theorem Kj {ns ns':List ByteArray} (hz:x.size<=240) (h:P8 f w.heap.size ns ns' w3 ao ts):
 TA (f+1) ns ns' w ((((w3.setCell ⟨w.heap.size,0,none⟩ v0).setCell ⟨w.heap.size,1,none⟩ v1).setCell ⟨w.heap.size,2,none⟩ v2).setCell ⟨w.heap.size,3,none⟩ v3) 0 x ao cap ⟨2,x,ts⟩:=by
 obtain⟨h1,h2,h3⟩:=h;refine⟨⟨⟨rfl,rfl,(fun q=>by cases q),(fun q=>by cases q),fun _=>rfl,by simp,hz,h3⟩,fun q=> ?_⟩,by rw[h2];simp[aP]⟩;obtain⟨g,us,cs,e1,e2,e3,e4,e5⟩:=h1 q;have k:∀(u:World) (o:Nat) (v:Value),(u.setCell ⟨w.heap.size,o,none⟩ v).heap[g]?=u.heap[g]?:=fun u o v=>eY _ _ _ _ (by show g≠w.heap.size;omega);refine⟨g,us,cs,e1,by omega,by rw[k,k,k,k];exact e3,e4,e5.imp fun _ _ r=> ?_⟩;exact((((r.set (fun g hg=>by omega) 0 v0).set (fun g hg=>by omega) 1 v1).set (fun g hg=>by omega) 2 v2).set (fun g hg=>by omega) 3 v3).imp fun g hg _=>by omega
theorem Iv {ns:List ByteArray} (h:St w rb s l ns nv e):ns.length+l.tail.length<1000:=by
 have:=h.few;rcases l with _ | ⟨a,r⟩
 ·exact absurd h.chain (by simp[eM])
 ·simp at this⊢;omega
theorem Gk (w:World) (rb:Nat) (s:ByteArray) (l:List bX) (ns:List ByteArray) (nv:Value) (e0:Int) (d f:Nat) (h:St w rb s l ns nv e0) (hm:iC d (af.hd l)=0) (hk3:(af.hd l).kind=3):
 Calls Tryz.prog 61 #[.pointer (some ⟨rb,0,none⟩),.int .i64 (d:Int)] w fun e w'=>q8 (f+1) rb s ns (term (f+1) l) w e w':=by
 rw[uO hm (ay hk3),hk3];have hb2:Below w.heap.size w ((w.alloc lR).alloc (n8 (af.hd l))):=(Qx.alloc Qw _).alloc (by simp) _;have H2:=ah (h.below hb2);have hfew:=Iv h;have hlt:=h.lt;have hz:=h.Gd;have hk0:=ah (show (af.hd l).kind≠0 by omega)
 unfold lR n8 at H2;obtain⟨⟨c0,c1,c2,c3,c4,c5,f1,f2,f3,f4,f5⟩,own,chain,isn,few,short,signs,pos,lt⟩:=h;clear own chain isn few short signs hb2;have hmf:(iC d (af.hd l) == 0)=true:=by simpa using hm
 have HK3:=ah hk3;clear hk3;go_enter Tryz.func61,Tryz.ntmps61;go_wp2_with fail;refine(i8 _ rb s l ns nv e0 d (ae H2)).mono ?_;rintro e w1 ⟨rfl,hs,hk⟩;rw[aH hm]at hs;have HS:=ah hs;have HK:=ah hk;clear hs hk;go_wp2_with fail;refine(f' _ rb s l ns nv e0 (ae HS) (ae hk0)).mono ?_;rintro e w2 ⟨rfl,hs,hk⟩;have HS2:=ah hs;have HK2:=ah ((ae HK).trans hk);clear hs hk HS HK;obtain⟨r0,r1,r2,r3,x0,x1,x2,x3,t0,t2⟩:=boxes hlt (ae HK2);rw[ae HK3]at t0;go_wp2_with fail;refine(wh _ rb s l.tail ns nv e0 _ (ae HS2) hfew).mono ?_;rintro e w3 ⟨ns',nv',rfl,hnm,hs,hk⟩;have HNM:=ah hnm;generalize hii:(((dj ns).idxOf (af.hd l).text.toList:Nat):Int)=i;have HII:=ah hii;clear hnm hii;have HS3:=ah hs;have HK3:=ah ((ae HK2).trans hk);clear hs hk HS2 HK2 r0 r1 r2 r3 x0 x1 x2 x3 t0 t2;obtain⟨r0,r1,r2,r3,x0,x1,x2,x3,t0,t2⟩:=boxes hlt (ae HK3);go_wp2_with fail;have R:=pG (ae HK3) (ae HS3) hlt (.int .i64 1) (.int .i64 i) (.string ⟨#[]⟩) (.slice none 0 0);refine aI (v:= .tuple #[.agg #[.int .i64 1,.int .i64 i,.string ⟨#[]⟩,.slice none 0 0],.bool true]) (by simp[results,Tryz.results61,go_sem,r0,r1,r2,r3]) rfl ?_;exact⟨_,_,_,_,ns',nv',e0,rfl,MQ hz (ae HNM) (ae HII).symm,R.1,R.2⟩
theorem Gm (w:World) (rb:Nat) (s:ByteArray) (l:List bX) (ns:List ByteArray) (nv:Value) (e0:Int) (d f:Nat) (h:St w rb s l ns nv e0) (hm:iC d (af.hd l)=0) (hk4:(af.hd l).kind=4):
 Calls Tryz.prog 61 #[.pointer (some ⟨rb,0,none⟩),.int .i64 (d:Int)] w fun e w'=>q8 (f+1) rb s ns (term (f+1) l) w e w':=by
 rw[uO hm (aw hk4),hk4];have hb2:Below w.heap.size w ((w.alloc lR).alloc (n8 (af.hd l))):=(Qx.alloc Qw _).alloc (by simp) _;have H2:=ah (h.below hb2);have hlt:=h.lt;have hz:=h.Gd;have hz6:=Hz hm hk4;have hk0:=ah (show (af.hd l).kind≠0 by omega)
 unfold lR n8 at H2;obtain⟨⟨c0,c1,c2,c3,c4,c5,f1,f2,f3,f4,f5⟩,own,chain,isn,few,short,signs,pos,lt⟩:=h;clear own chain isn few short signs hb2;have hmf:(iC d (af.hd l) == 0)=true:=by simpa using hm
 have HK4:=ah hk4;clear hk4;go_enter Tryz.func61,Tryz.ntmps61;go_wp2_with fail;refine(i8 _ rb s l ns nv e0 d (ae H2)).mono ?_;rintro e w1 ⟨rfl,hs,hk⟩;rw[aH hm]at hs;have HS:=ah hs;have HK:=ah hk;clear hs hk;go_wp2_with fail;refine(f' _ rb s l ns nv e0 (ae HS) (ae hk0)).mono ?_;rintro e w2 ⟨rfl,hs,hk⟩;have HS2:=ah hs;have HK2:=ah ((ae HK).trans hk);clear hs hk HS HK;obtain⟨r0,r1,r2,r3,x0,x1,x2,x3,t0,t2⟩:=boxes hlt (ae HK2);rw[ae HK4]at t0;go_wp2_with fail;refine(xW _ _ hz6).mono ?_;rintro e w3 ⟨rfl,rfl⟩;generalize hii:((numOf (af.hd l).text:Nat):Int)=i;have HII:=ah hii;clear hii;go_wp2_with fail;have R:=pG (ae HK2) (ae HS2) hlt (.int .i64 2) (.int .i64 i) (.string ⟨#[]⟩) (.slice none 0 0);refine aI (v:= .tuple #[.agg #[.int .i64 2,.int .i64 i,.string ⟨#[]⟩,.slice none 0 0],.bool true]) (by simp[results,Tryz.results61,go_sem,r0,r1,r2,r3]) rfl ?_;exact⟨_,_,_,_,ns,nv,e0,rfl,MR hz hz6 (ae HII).symm,R.1,R.2⟩
theorem Gp (f:Nat) (IH:tZ f) (w:World) (rb:Nat) (s:ByteArray) (l:List bX) (ns:List ByteArray) (nv:Value) (e0:Int) (d:Nat) (hfd:f+1+d=9) (h:St w rb s l ns nv e0) (hm:iC d (af.hd l)=0) (hk2:(af.hd l).kind=2):
 Calls Tryz.prog 61 #[.pointer (some ⟨rb,0,none⟩),.int .i64 (d:Int)] w fun e w'=>q8 (f+1) rb s ns (term (f+1) l) w e w':=by
 rw[EI hm hk2];have hb2:Below w.heap.size w ((w.alloc lR).alloc (n8 (af.hd l))):=(Qx.alloc Qw _).alloc (by simp) _;have H2:=ah (h.below hb2);have hlt:=h.lt;have hz:=h.Gd;have hk0:=ah (show (af.hd l).kind≠0 by omega)
 unfold lR n8 at H2;have I:=ah (fun w (hs:St w rb s l.tail ns nv e0)=>IH w rb s l.tail ns nv e0 (d+1) (by omega) hs);generalize km f l.tail=r at I⊢;obtain⟨⟨c0,c1,c2,c3,c4,c5,f1,f2,f3,f4,f5⟩,own,chain,isn,few,short,signs,pos,lt⟩:=h;clear own chain isn few short signs hb2 IH;have hmf:(iC d (af.hd l) == 0)=true:=by simpa using hm
 have HK2:=ah hk2;clear hk2;rcases r with⟨er,pos⟩ | ⟨ts,l2⟩
 ·show Calls _ _ _ _ fun e w'=>q8 (f+1) rb s ns (.inl (er,pos)) w e w';go_enter Tryz.func61,Tryz.ntmps61;go_wp2_with fail;refine(i8 _ rb s l ns nv e0 d (ae H2)).mono ?_;rintro e w1 ⟨rfl,hs,hk⟩;rw[aH hm]at hs;have HS:=ah hs;have HK:=ah hk;clear hs hk;go_wp2_with fail;refine(f' _ rb s l ns nv e0 (ae HS) (ae hk0)).mono ?_;rintro e w2 ⟨rfl,hs,hk⟩;have HS2:=ah hs;have HKK:=ah ((ae HK).trans hk);clear hs hk HS HK;obtain⟨r0,r1,r2,r3,x0,x1,x2,x3,t0,t2⟩:=boxes hlt (ae HKK);rw[ae HK2]at t0;go_wp2_with fail;rw[show ((d:Int)+1)=((d+1:Nat):Int)by omega];refine(ae I _ (ae HS2)).mono ?_;clear r0 r1 r2 r3 x0 x1 x2 x3 t0 t2;rintro e w3 ⟨l',ns',nv',ao,n,cap,rfl,hs,hpos,hk⟩;have HS3:=ah hs;have HK3:=ah ((ae HKK).trans hk);have HP:=ah hpos;clear hs hk HS2 HKK hpos;obtain⟨r0,r1,r2,r3,x0,x1,x2,x3,t0,t2⟩:=boxes hlt (ae HK3);go_wp2_with fail;have R:=pG (ae HK3) (ae HS3) hlt (.int .i64 3) (.int .i64 0) (.string (af.hd l).text) (.slice ao n cap);refine aI (v:= .tuple #[.agg #[.int .i64 3,.int .i64 0,.string (af.hd l).text,.slice ao n cap],.bool false]) (by simp[results,Tryz.results61,go_sem,r0,r1,r2,r3]) rfl ?_;exact⟨_,_,_,_,_,_,l',ns',nv',rfl,R.1,ae HP,R.2⟩
 ·show Calls _ _ _ _ fun e w'=>q8 (f+1) rb s ns (.inr (⟨2,(af.hd l).text,ts⟩,l2)) w e w';go_enter Tryz.func61,Tryz.ntmps61;go_wp2_with fail;refine(i8 _ rb s l ns nv e0 d (ae H2)).mono ?_;rintro e w1 ⟨rfl,hs,hk⟩;rw[aH hm]at hs;have HS:=ah hs;have HK:=ah hk;clear hs hk;go_wp2_with fail;refine(f' _ rb s l ns nv e0 (ae HS) (ae hk0)).mono ?_;rintro e w2 ⟨rfl,hs,hk⟩;have HS2:=ah hs;have HKK:=ah ((ae HK).trans hk);clear hs hk HS HK;obtain⟨r0,r1,r2,r3,x0,x1,x2,x3,t0,t2⟩:=boxes hlt (ae HKK);rw[ae HK2]at t0;go_wp2_with fail;rw[show ((d:Int)+1)=((d+1:Nat):Int)by omega];refine(ae I _ (ae HS2)).mono ?_;clear r0 r1 r2 r3 x0 x1 x2 x3 t0 t2;rintro e w3 ⟨ao,cap,ns',nv',e',rfl,haa,hs,hk⟩;have HAA:=ah (haa.up (ae HKK).size);clear haa;have HS3:=ah hs;have HK3:=ah ((ae HKK).trans hk);clear hs hk HS2 HKK;obtain⟨r0,r1,r2,r3,x0,x1,x2,x3,t0,t2⟩:=boxes hlt (ae HK3);go_wp2_with fail;have R:=pG (ae HK3) (ae HS3) hlt (.int .i64 3) (.int .i64 0) (.string (af.hd l).text) (.slice ao ts.length cap);refine aI (v:= .tuple #[.agg #[.int .i64 3,.int .i64 0,.string (af.hd l).text,.slice ao ts.length cap],.bool true]) (by simp[results,Tryz.results61,go_sem,r0,r1,r2,r3]) rfl ?_;exact⟨_,_,_,_,ns',nv',e',rfl,Kj hz (ae HAA),R.1,R.2⟩
theorem EG (f:Nat) (IH:tZ f):pN (f+1):=by
 intro w rb s l ns nv e0 d hfd h;by_cases hm:iC d (af.hd l)=0
 ·rcases Ff hm with hk | hk | hk
  ·exact Gp f IH w rb s l ns nv e0 d hfd h hm hk
  ·exact Gk w rb s l ns nv e0 d f h hm hk
  ·exact Gm w rb s l ns nv e0 d f h hm hk
 ·rw[Gr (by omega) hm];exact Dx w rb s l ns nv e0 _ d h hm
theorem EH:pN 0:=by
 intro w rb s l ns nv e0 d hfd h;obtain rfl:d=9:=by omega
 rw[EE];exact Dx w rb s l ns nv e0 0 9 h (Oz _)
theorem Tryz.Il:(Tryz.prog.info? 74).map (fun i=>(i.zero,i.size,i.bytes))=some (some (.agg #[.int .i64 0,.int .i64 0,.string ⟨#[]⟩,.slice none 0 0]),4,56):=by kernel_rfl
theorem sG (h:w.ownsRow b0 T sz v n xs) (hk:KA rb [rb] w w1) (hb:rb<b0) (hT:T≠9):w1.ownsRow b0 T sz v n xs:=
 ⟨h.1,h.2.imp id fun⟨g,cap,cur,a,b,c,d⟩=>⟨g,cap,cur,a,b,(hk.block g (bd.1 c).1 (by simp;omega) (aw (by unfold dg;rw[c];simpa using hT))).trans c,d⟩⟩
theorem St.grown {ns:List ByteArray} (h:St w rb s l ns nv e) (hg:w.grownBy w2 row) (hr:∀k,row=some k->rb<k/\dg w k≠some 9):St w2 rb s l ns nv e:=by
 have k:∀q,q<w.heap.size->some q≠row->w2.heap[q]?=w.heap[q]?:=hg.block;have hrb:=k rb h.lt (fun e=>by have:=(hr rb e.symm).1;omega);have h0:=k 0 (by have:=h.lt;omega) (fun e=>by have:=(hr 0 e.symm).1;omega);have c:∀o,w2.cell? ⟨rb,o,none⟩=w.cell? ⟨rb,o,none⟩:=fun o=>dC hrb;have f:∀o,w2.frozen? ⟨rb,o,none⟩=w.frozen? ⟨rb,o,none⟩:=fun o=>gm hrb;have z:∀o,w2.cell? ⟨0,o,none⟩=w.cell? ⟨0,o,none⟩:=fun o=>dC h0;obtain⟨⟨c0,c1,c2,c3,c4,c5,f1,f2,f3,f4,f5⟩,own,chain,isn,few,short,signs,pos,lt⟩:=h;refine⟨⟨(c 0).trans c0,(c 1).trans c1,(c 2).trans c2,(c 3).trans c3,(c 4).trans c4,(c 5).trans c5,(f 1).trans f1,(f 2).trans f2,(f 3).trans f3,(f 4).trans f4,(f 5).trans f5⟩,⟨own.1,?_⟩,chain,isn,few,short,⟨(z 0).trans signs.s0,(z 1).trans signs.s1,(z 2).trans signs.s2,(z 3).trans signs.s3,(z 4).trans signs.s4⟩,pos,by have:=hg.size;omega⟩;rcases own.2 with q | ⟨g,cap,cur,a,b',c',d⟩
 ·exact ay q
 ·refine aw ⟨g,cap,cur,a,b',?_,d⟩;rw[k g (bd.1 c').1 (fun e=>(hr g e.symm).2 (by unfold dg;rw[c']))];exact c'
def pre (ts:List Tm) (r:jM (List Tm)):jM (List Tm):=match r with
 | .inl e=> .inl e
 | .inr (us,l2)=> .inr (ts++us,l2)
theorem KJ (r:jM (List Tm)):r=pre [] r:=by rcases r with e | ⟨us,l2⟩<;>rfl
theorem Js (h:p l= .inl er):cE p k l= .inl er:=by unfold cE;rw[h]
theorem Jr (h:p l= .inr (t,l1)) (hc:sees l1 [44]=false):cE p k l=if sees l1 [41]=true then .inr ([t],l1.tail)else af.bad 2 l1:=by unfold cE;rw[h];simp only[hc];rfl
theorem FJ (h:p l= .inr (t,l1)) (hc:sees l1 [44]=true):cE p 0 l=af.bad 3 l1:=by unfold cE;rw[h];simp only[hc];rfl
theorem FI (h:p l= .inr (t,l1)) (hc:sees l1 [44]=true) (ts:List Tm):pre ts (cE p (k+1) l)=pre (ts++[t]) (cE p k l1.tail):=by
 conv=>lhs;unfold cE
 rw[h];simp only[hc];rcases cE p k l1.tail with e | ⟨us,l2⟩
 ·rfl
 ·simp[pre]
theorem AQ (W:World) (o:Obj) (a b c d:Value) (T:TypeId):∀j u,([a,b,c,d]:List Value)[j]?=some u->((W.alloc o).alloc (.cells #[a,b,c,d] T)).cell? ((⟨W.heap.size+1,0,none⟩:Addr).add j)=some u:=by
 intro j u hj
 match j,hj with
 | 0,hj=>simp at hj;subst hj;simp[Addr.add]
 | 1,hj=>simp at hj;subst hj;simp[Addr.add]
 | 2,hj=>simp at hj;subst hj;simp[Addr.add]
 | 3,hj=>simp at hj;subst hj;simp[Addr.add]
theorem Bk (a b:Int) (c:ByteArray) (ao:Option Addr) (n cap:Nat):∀u∈([.int .i64 a,.int .i64 b,.string c,.slice ao n cap]:List Value),u.oneCell'=true:=by intro u hu;simp at hu;rcases hu with rfl | rfl | rfl | rfl<;>rfl
theorem vS {ns:List ByteArray} (h:St w2 rb s l ns nv e) (hk:KA rb [rb] w w2) (ho:w2.ownsRow w.heap.size T sz v n xs) (hlt:rb<w.heap.size) (hg:((w2.alloc o1).alloc o2).grownBy w3 v.ownBlock) (hT:T≠9:=by decide):
 St w3 rb s l ns nv e/\KA rb [rb] w w3:=by
 have hb:Below w2.heap.size w2 ((w2.alloc o1).alloc o2):=(Qx.alloc Qw _).alloc (by simp) _;have hty:∀k,v.ownBlock=some k->dg ((w2.alloc o1).alloc o2) k≠some 9:=fun k hk'=>by
  have:=ho.lt k hk';rcases ho.2 with⟨rfl,_⟩ | ⟨g,cap,cur,rfl,_,c,_⟩
  ·simp[Value.ownBlock]at hk'
  ·simp[Value.ownBlock]at hk';subst hk';unfold dg;rw[hb.block g this.2,c];simpa using hT
 refine⟨(h.below hb).grown hg (fun k q=>⟨by have:=(ho.lt k q).1;omega,hty k q⟩),((hk.alloc o1).alloc o2).grown hg (fun k q=>ay (ho.lt k q).1)⟩
def jx (f:Nat) (w:World) (ns0 ns:List ByteArray) (v:Value) (wr:World) (us:List AV) (ts:List Tm):Prop:=
 eO (RA f (dj ns) (fun g=>w.heap.size<=g/\some g≠v.ownBlock) wr) us ts/\dj ns=ts.foldl (aP f) (dj ns0)
theorem jx.keep {f:Nat} {w:World} {ns0 ns:List ByteArray} {v:Value} {wr w2:World} {us:List AV} {ts:List Tm} (h:jx f w ns0 ns v wr us ts) (hk:b9 wr w2):jx f w ns0 ns v w2 us ts:=
 ⟨h.1.imp fun _ _ r=>r.keep fun g cs hp hc hi=>⟨hk g cs hc hi,hp⟩,h.2⟩
theorem jx.next (h:jx f w ns0 ns1 v wr us ts) (hs:St wr rb s l ns1 nv e) (hk:KA rb [rb] wr w2) (ho:wr.ownsRow w.heap.size T sz v n xs) (hw:w.heap.size<=wr.heap.size) (ht:TA f ns1 ns2 wr w2 val tx ao cap t):
 jx f w ns0 ns2 v w2 (us++[⟨ak t.kind,val,tx,ao,t.args.length,cap⟩]) (ts++[t]):=by
 obtain⟨M,hM,_⟩:=kL f t ht.rep.AL (dj ns1);have he:dj ns2=dj ns1++M:=ht.uv.trans hM;refine⟨eO.snoc ?_ ?_,by rw[cT,<-h.2];exact ht.uv⟩
 ·exact ht.rep.imp fun g hg _=>⟨by omega,fun q=>by have:=(ho.lt g q.symm).2;omega⟩
 ·rw[he];exact(h.keep (b9.ka hs hk)).1.imp fun _ _ r=>r.more M
theorem jx.grown {ns:List ByteArray} (h:jx f w ns0 ns v w2 us ts) (hg:((w2.alloc o1).alloc o2).grownBy w3 v.ownBlock) (hat:v'.ownBlock=v.ownBlock\/v'.ownBlock=some ((w2.alloc o1).alloc o2).heap.size):jx f w ns0 ns v' w3 us ts:=by
 have hb:Below w2.heap.size w2 ((w2.alloc o1).alloc o2):=(Qx.alloc Qw _).alloc (by simp) _;have hz:w2.heap.size<=((w2.alloc o1).alloc o2).heap.size:=hb.size;refine⟨h.1.imp fun _ _ r=>r.keep fun g cs hp hc hi=> ?_,h.2⟩;have hlt:g<w2.heap.size:=(bd.1 hc).1;refine⟨((hg.block g (by omega) hp.2).trans (hb.block g hlt)).trans hc,hp.1,fun q=> ?_⟩;rcases hat with a | a
 ·exact hp.2 (q.trans a)
 ·rw[a]at q;injection q with q;omega
theorem jx.done {ns:List ByteArray} (h:jx f w ns0 ns (.slice (some ⟨g,0,none⟩) ts.length cap) wr us ts) (ho:wr.ownsRow w.heap.size 74 4 (.slice (some ⟨g,0,none⟩) ts.length cap) ts.length (us.flatMap oq)) (h3:ts.length<=3):AA f ns0 ns w wr (some ⟨g,0,none⟩) ts:=by
 refine⟨fun _=> ?_,h.2,h3⟩;rcases ho.2 with⟨q,_⟩ | ⟨g',cap',cur,q,hb,hc,_,_,_,ht⟩
 ·cases q
 ·simp only[aS,aM,qK,J0,OY]at q;obtain⟨rfl,rfl⟩:=q;exact⟨g,us,cur,rfl,hb,hc,by rw[h.1.length];exact ht,h.1.imp fun _ _ r=>r.imp fun _ q _=>q.1⟩
def ArgRel (w:World) (rb:Nat) (s:ByteArray) (f:Nat) (l0:List bX) (ns0:List ByteArray) (v:Value) (wr:World):Prop:=
 ∃(ts:List Tm) (us:List AV) (l:List bX) (ns:List ByteArray) (nv:Value) (e:Int),St wr rb s l ns nv e/\wr.ownsRow w.heap.size 74 4 v ts.length (us.flatMap oq)/\ts.length<=2/\
  cE (term f) 2 l0=pre ts (cE (term f) (2 - ts.length) l)/\KA rb [rb] w wr/\jx f w ns0 ns v wr us ts
def lenOf:Value->Nat | .slice _ n _=>n | _=>0
theorem KR {e:TypeId} (h:w.ownsRow b e sz v n xs):lenOf v=n:=by
 rcases h.2 with⟨rfl,q⟩ | ⟨g,cap,cur,rfl,_⟩
 ·exact q.symm
 ·rfl
theorem FH (f:Nat) (IH:pN f):tZ f:=by
 intro w rb s l ns nv e0 d hfd h;obtain⟨i0,hi,hz0,hz1,hz2⟩:=dH Tryz.Il;have H:=ah h;have hlt:=h.lt;cases hs0:sees l [40]
 ·have HO:=ah (show km f l= .inr ([],l)by unfold km;rw[hs0];rfl)
  go_enter Tryz.func110,Tryz.ntmps110;go_wp2_with (go_at_call 62;refine(cY _ rb s l ns nv e0 _ (ae H)).mono ?_;rintro e w1 ⟨rfl,rfl⟩;simp only[aV]);go_ret2;refine(?_:vU f rb s ns (km f l) w1 _ _);rw[ae HO];exact⟨none,0,ns,nv,e0,rfl,⟨fun q=>absurd rfl q,rfl,by simp⟩,ae H,KA.refl _ _ _⟩
 ·have HO:=ah (show km f l=cE (term f) 2 l.tail by unfold km;rw[hs0];rfl)
  have hk0:=ah (show (af.hd l).kind≠0 by rw[d8 hs0];omega)
  rw[ae HO];clear HO;go_enter Tryz.func110,Tryz.ntmps110;go_wp2_with fail;refine(cY _ rb s l ns nv e0 _ (ae H)).mono ?_;rintro e w1 ⟨rfl,hw⟩;rw[hw];simp only[aV];rw[hs0];clear hw w1;go_wp2_with fail;refine(f' _ rb s l ns nv e0 (ae H) (ae hk0)).mono ?_;rintro e w1 ⟨rfl,hs1,hk1⟩;have HS1:=ah hs1;have HK1:=ah hk1;clear hs1 hk1;go_wp2_with fail;go_loopw [6] (fun v wr=>ArgRel w rb s f l.tail ns v wr) (fun v _=>2 - lenOf v)
  case atStart=>exact⟨[],[],l.tail,ns,nv,e0,ae HS1,bD _ _ _ _,by simp,KJ _,ae HK1,trivial,rfl⟩
  case round=>
   obtain⟨ts,us,l1,ns1,nv1,e1,hst,hown,hts,hpre,hka,hrep⟩:=hrel;have HREP:=ah hrep;have HST:=ah hst;have HOWN:=ah hown;have HLEN:=ah (KR hown);have HPRE:=ah hpre;have HKA:=ah hka;clear hst hown hpre hka hrep;have I:=ah (IH wr rb s l1 ns1 nv1 e1 d hfd (ae HST));generalize hr:term f l1=r at I;have HR:=ah hr;clear hr;rcases r with⟨er,pos⟩ | ⟨t,l2⟩
   ·have HF:Hid (cE (term f) 2 l.tail= .inl (er,pos)):=(ae HPRE).trans (by rw[Js (ae HR)];rfl);go_wp2_with fail;refine(ae I).mono ?_;rintro e w2 ⟨k,val,tx,ao,n,cap,l',ns',nv',rfl,hs2,hpos,hk2⟩;have HS2:=ah hs2;have HP:=ah hpos;have HK2:=ah ((ae HKA).trans hk2);clear hs2 hpos hk2;go_wp2_with fail;go_ret2;refine(?_:vU f rb s ns _ w _ _);rw[ae HF];exact⟨l',ns',nv',none,0,0,rfl,(ae HS2).below (Qx.alloc Qw _),ae HP,(ae HK2).alloc _⟩
   ·go_wp2_with fail;refine(ae I).mono ?_;rintro e w2 ⟨val,tx,ao,cap,ns2,nv2,e2,rfl,htx,hs2,hk2⟩;have HREP2:=ah ((ae HREP).next (ae HST) hk2 (ae HOWN) (ae HKA).size htx);have HS2:=ah hs2;have HO2:=ah (sG (ae HOWN) hk2 hlt (by decide));have HK2:=ah ((ae HKA).trans hk2);have hlt2:w.heap.size<=w2.heap.size:=(ae HK2).size;clear hs2 hk2 htx;go_wp2_with (first | (at_builtin;refine wpList_append_own_at _ rfl (.tmp 23) (.tmp 25) 72 rfl w.heap.size 74 i0 (.agg #[.int .i64 0,.int .i64 0,.string ⟨#[]⟩,.slice none 0 0]) 4 56 Tryz.underlying72 hi hz0 hz1 hz2 rfl (by decide) _ ts.length (us.flatMap oq) rfl (((ae HO2).alloc _).alloc _) ⟨w2.heap.size+1,0,none⟩ 1 1 [.int .i64 (ak t.kind),.int .i64 val,.string tx,.slice ao t.args.length cap] rfl rfl (AQ _ _ _ _ _ _ _) (Bk _ _ _ _ _ _) (by unfold maxLen;omega) (by omega) (by simp;omega) ?_;intro v' w3 hown' hgrow _ hat;have HREP3:=ah ((ae HREP2).grown hgrow hat);clear hat;have HOWN3:=ah hown';have R3:=ah (vS (ae HS2) (ae HK2) (ae HO2) hlt hgrow);obtain⟨g',cap',hv,hcm⟩:=fR hown';rw[hv]at HOWN3 HREP3⊢;clear hown' hgrow hv));have HS3:=ah (ae R3).1;have HK3:=ah (ae R3).2;clear R3;cases hc:sees l2 [44]
    ·have HF:=ah ((ae HPRE).trans (by rw[Jr (ae HR) hc]));refine(cY _ rb s l2 ns2 nv2 e2 _ (ae HS3)).mono ?_;rintro e w4 ⟨rfl,hw⟩;rw[hw];simp only[aV];rw[hc];clear hw w4;go_wp2_with fail;refine(cY _ rb s l2 ns2 nv2 e2 _ (ae HS3)).mono ?_;rintro e w4 ⟨rfl,hw⟩;rw[hw];simp only[aV];clear hw w4;cases hb:sees l2 [41]
     ·rw[hb]at HF;go_wp2_with fail;refine(eH _ rb s l2 ns2 nv2 e2 false (ae HS3) (fun q=>by cases q)).mono ?_;rintro e w4 ⟨rfl,hs4,hk4⟩;have HS4:=ah hs4;have HK4:=ah ((ae HK3).trans hk4);clear hs4 hk4;go_wp2_with fail;go_ret2;refine(?_:vU f rb s ns _ w _ _);rw[ae HF];exact⟨l2,ns2,nv2,_,_,_,rfl,ae HS4,rfl,ae HK4⟩
     ·rw[hb]at HF;have hk5:=ah (show (af.hd l2).kind≠0 by rw[d8 hb];omega)
      go_wp2_with fail;refine(eH _ rb s l2 ns2 nv2 e2 true (ae HS3) (fun _=>ae hk5)).mono ?_;rintro e w4 ⟨rfl,hs4,hk4⟩;have HKP4:=ah (b9.ka (ae HS3) hk4);have HO4:=ah (sG (ae HOWN3) hk4 hlt (by decide));have HS4:=ah hs4;have HK4:=ah ((ae HK3).trans hk4);clear hs4 hk4;go_wp2_with fail;go_ret2;refine(?_:vU f rb s ns _ w _ _);rw[ae HF];exact⟨some ⟨g',0,none⟩,cap',ns2,nv2,e2,by simp,jx.done (by simpa using (ae HREP3).keep (ae HKP4)) (by simpa [oq] using ae HO4) (by simp;omega),ae HS4,ae HK4⟩
    ·have hk5:=ah (show (af.hd l2).kind≠0 by rw[d8 hc];omega)
     refine(cY _ rb s l2 ns2 nv2 e2 _ (ae HS3)).mono ?_;rintro e w4 ⟨rfl,hw⟩;rw[hw];simp only[aV];rw[hc];clear hw w4;go_wp2_with fail;rw[show ((ts.length:Int)+1)=((ts.length+1:Nat):Int)by omega];refine(vJ _ rb s l2 ns2 nv2 e2 (ts.length+1) 3 (ae HS3) (ae hk5)).mono ?_;by_cases hn:ts.length+1<3
     ·have HF:=ah ((ae HPRE).trans (by rw[show 2 - ts.length=(2 - (ts.length+1))+1 by omega,FI (ae HR) hc]));rw[aH hn,aH hn,eN hn];rintro e w4 ⟨rfl,hs4,hk4⟩;have HS4:=ah hs4;have HKP4:=ah (b9.ka (ae HS3) hk4);have HO4:=ah (sG (ae HOWN3) hk4 hlt (by decide));have HK4:=ah ((ae HK3).trans hk4);clear hs4 hk4;go_wp2_with fail;go_roundw
      case rel=>exact⟨ts++[t],us++[⟨ak t.kind,val,tx,ao,t.args.length,cap⟩],l2.tail,ns2,nv2,e2,ae HS4,by simpa [oq] using ae HO4,by simp;omega,by simpa using ae HF,ae HK4,(ae HREP3).keep (ae HKP4)⟩
      case measure=>show 2 - (ts.length+1)<2 - lenOf _;rw[ae HLEN];omega
     ·have h0:ts.length=2:=by omega
      have HF:=ah ((ae HPRE).trans (by rw[show 2 - ts.length=0 by omega,FJ (ae HR) hc]));rw[aG hn,aG hn,dK hn];rintro e w4 ⟨rfl,hs4,hk4⟩;have HS4:=ah hs4;have HK4:=ah ((ae HK3).trans hk4);clear hs4 hk4 h0;go_wp2_with fail;go_ret2;refine(?_:vU f rb s ns _ w _ _);rw[ae HF];exact⟨l2,ns2,nv2,_,_,_,rfl,ae HS4,rfl,ae HK4⟩
theorem dP:∀f,pN f
 | 0=>EH
 | f+1=>EG f (FH f (dP f))
theorem rk (h:w.heap[b]?=some (.cells cs T (0,0))) (i:Nat) (hv:cs[i]?=some v):w.cell? ⟨b,i,none⟩=some v:=by simp[World.cell?,h,hv]
theorem qH (h:w.heap[b]?=some (.cells cs T (0,0))) (i:Nat):w.frozen? ⟨b,i,none⟩=false:=by simp[World.frozen?,h]
theorem aN (h:w.heap[b]?=some (.cells cs T (0,0))):∀i,w.cell? ⟨b,i,none⟩=cs[i]?:=fun i=>by simp[World.cell?,h]
theorem bI (h:w.heap[b]?=some (.cells cs T (0,0))):∀i,w.frozen? ⟨b,i,none⟩=false:=fun i=>qH h i
theorem LV (w:World) (cs:Array Value) (T:TypeId):(w.alloc (.cells cs T)).heap[w.heap.size]?=some (.cells cs T (0,0)):=aB w _
theorem aQ {x:Obj} (h:w.heap[b]?=some x) (o:Obj):(w.alloc o).heap[b]?=some x:=by rw[aZ _ _ _ (bd.1 h).1];exact h
theorem bf (hk:KA rb X w w') (h:w.heap[b]?=some (.cells cs T (0,0))) (hb:b∉X) (hT:T≠9:=by decide):w'.heap[b]?=some (.cells cs T (0,0)):=
 (hk.block b (bd.1 h).1 hb (aw (by unfold dg;rw[h];simpa using hT))).trans h
theorem aD {x:Obj} (h:w.heap[b]?=some x):b<w.heap.size:=(bd.1 h).1
structure bJ (b:Nat) (w w':World):Prop where
 os:w'.os=w.os
 tape:w'.tape=w.tape
 output:w'.output=w.output
 size:w'.heap.size=w.heap.size
 block:∀k,k≠b->w'.heap[k]?=w.heap[k]?
 ty:∀k,dg w' k=dg w k
theorem bJ.refl (b:Nat) (w:World):bJ b w w:=⟨rfl,rfl,rfl,rfl,fun _ _=>rfl,fun _=>rfl⟩
theorem bJ.set (h:bJ b a w) (i:Nat) (v:Value):bJ b a (w.setCell ⟨b,i,none⟩ v):=
 ⟨h.os,h.tape,h.output,by simp[World.setCell];exact h.size,fun k hk=>(eY _ _ _ _ hk).trans (h.block k hk),fun k=>(gG _ _ _ _).trans (h.ty k)⟩
theorem St.only {ns:List ByteArray} (h:St w rb s l ns nv e) (ho:bJ b w w') (hb:b≠rb) (h0:b≠0) (ht:dg w b≠some 9):St w' rb s l ns nv e:=by
 have k:=ho.block;have c:∀o,w'.cell? ⟨rb,o,none⟩=w.cell? ⟨rb,o,none⟩:=fun o=>dC (k rb (de hb));have f:∀o,w'.frozen? ⟨rb,o,none⟩=w.frozen? ⟨rb,o,none⟩:=fun o=>gm (k rb (de hb));have z:∀o,w'.cell? ⟨0,o,none⟩=w.cell? ⟨0,o,none⟩:=fun o=>dC (k 0 (de h0));obtain⟨⟨c0,c1,c2,c3,c4,c5,f1,f2,f3,f4,f5⟩,own,chain,isn,few,short,signs,pos,lt⟩:=h;refine⟨⟨(c 0).trans c0,(c 1).trans c1,(c 2).trans c2,(c 3).trans c3,(c 4).trans c4,(c 5).trans c5,(f 1).trans f1,(f 2).trans f2,(f 3).trans f3,(f 4).trans f4,(f 5).trans f5⟩,⟨own.1,?_⟩,chain,isn,few,short,⟨(z 0).trans signs.s0,(z 1).trans signs.s1,(z 2).trans signs.s2,(z 3).trans signs.s3,(z 4).trans signs.s4⟩,pos,by rw[ho.size];exact lt⟩;rcases own.2 with q | ⟨g,cap,cur,a,b',c',d⟩
 ·exact ay q
 ·refine aw ⟨g,cap,cur,a,b',?_,d⟩;rw[k g (fun e=>ht (by rw[<-e];unfold dg;rw[c']))];exact c'
theorem KA.fI (h:KA rb X u w) (ho:bJ b w w') (hb:u.heap.size<=b):KA rb X u w':=
 ⟨ho.os.trans h.os,ho.tape.trans h.tape,ho.output.trans h.output,by rw[ho.size];exact h.size,fun k hk hX ht=>(ho.block k (by omega)).trans (h.block k hk hX ht)⟩
theorem KA.Nd (h:KA rb X u w) (ho:bJ b w w') (hb:b∈X):KA rb X u w':=
 h.trans ⟨ho.os,ho.tape,ho.output,by rw[ho.size];exact Qw,fun k _ hX _=>ho.block k (fun e=>hX (e ▸ hb))⟩
theorem MY (h:(af.hd l).kind=5) (g:List UInt8):sees l g=((af.hd l).text.toList == g):=by simp[sees,h]
theorem Kr (h:(af.hd l).kind≠5) (g:List UInt8):sees l g=false:=by simp[sees,h]
theorem cM (w:World) (rb:Nat) (s:ByteArray) (l:List bX) (ns:List ByteArray) (nv:Value) (e0:Int) (h:St w rb s l ns nv e0):
 Calls Tryz.prog 111 #[.pointer (some ⟨rb,0,none⟩)] w fun e w'=>e= .returned (.bool (dd l))/\w'=w:=by
 obtain⟨⟨c0,c1,c2,c3,c4,c5,f1,f2,f3,f4,f5⟩,own,chain,isn,few,short,signs,pos,lt⟩:=h;clear own chain isn few short signs pos lt c0 c2 c4 c5 f1 f2 f3 f4 f5;by_cases hk:(af.hd l).kind=5
 ·have HT:=ah (show dd l=(((af.hd l).text.toList == [60])||((af.hd l).text.toList == [61,60])||((af.hd l).text.toList == [61,61])||((af.hd l).text.toList == [92,61]))by simp only[dd,MY hk])
  rw[hk]at c1;clear hk;generalize (af.hd l).text=tx at*;cases b1:(tx.toList == [60])
  ·cases b2:(tx.toList == [61,60])
   ·cases b3:(tx.toList == [61,61])
    ·cases b4:(tx.toList == [92,61])
     all_goals
      go_enter Tryz.func111,Tryz.ntmps111;go_wp2_with fail;go_ret;exact⟨dX (by rw[ae HT,b1,b2,b3,b4];rfl),rfl⟩
    ·go_enter Tryz.func111,Tryz.ntmps111;go_wp2_with fail;go_ret;exact⟨dX (by rw[ae HT,b1,b2,b3];rfl),rfl⟩
   ·go_enter Tryz.func111,Tryz.ntmps111;go_wp2_with fail;go_ret;exact⟨dX (by rw[ae HT,b1,b2];rfl),rfl⟩
  ·go_enter Tryz.func111,Tryz.ntmps111;go_wp2_with fail;go_ret;exact⟨dX (by rw[ae HT,b1];rfl),rfl⟩
 ·have HT:=ah (show dd l=false by simp[dd,Kr hk])
  have hk':(((af.hd l).kind:Int) != 5)=true:=by simp;omega
  clear hk;go_enter Tryz.func111,Tryz.ntmps111;go_wp2_with fail;go_ret;exact⟨dX (by rw[ae HT]),rfl⟩
theorem jo (w:World) (rb:Nat) (s:ByteArray) (l:List bX) (ns:List ByteArray) (nv:Value) (e0:Int) (h:St w rb s l ns nv e0):
 Calls Tryz.prog 154 #[.pointer (some ⟨rb,0,none⟩)] w fun e w'=>e= .returned (.bool (ig l))/\w'=w:=by
 have HT:=ah (show ig l=(sees l [43]||sees l [45]||sees l [42])from rfl)
 have H:=ah h;clear h;cases b1:sees l [43]
 ·cases b2:sees l [45]
  ·go_enter Tryz.func154,Tryz.ntmps154;go_wp2_with (go_at_call 62;refine(cY _ rb s l ns nv e0 _ (ae H)).mono ?_;rintro e w1 ⟨rfl,hw⟩;rw[hw];clear hw;simp only[aV]);go_ret;exact⟨dX (by rw[ae HT,b1,b2];rfl),rfl⟩
  ·go_enter Tryz.func154,Tryz.ntmps154;go_wp2_with (go_at_call 62;refine(cY _ rb s l ns nv e0 _ (ae H)).mono ?_;rintro e w1 ⟨rfl,hw⟩;rw[hw];clear hw;simp only[aV]);go_ret;exact⟨dX (by rw[ae HT,b1,b2];rfl),rfl⟩
 ·go_enter Tryz.func154,Tryz.ntmps154;go_wp2_with (go_at_call 62;refine(cY _ rb s l ns nv e0 _ (ae H)).mono ?_;rintro e w1 ⟨rfl,hw⟩;rw[hw];clear hw;simp only[aV]);go_ret;exact⟨dX (by rw[ae HT,b1];rfl),rfl⟩
theorem iI (w:World) (t:Tm) (val:Int) (tx:ByteArray) (ao:Option Addr) (cap:Nat) (ht:t.kind=2->tx=t.text) (hk:t.kind=2\/t.kind=3\/t.kind=4):
 Calls Tryz.prog 114 #[.agg #[.int .i64 (ak t.kind),.int .i64 val,.string tx,.slice ao t.args.length cap]] w fun e w'=>e= .returned (.bool (isInt t))/\Below w.heap.size w w':=by
 by_cases h2:t.kind=2
 ·have HT:=ah (show isInt t=((tx.toList == [105,110,116])&&(t.args.length == 1))by simp[isInt,h2,ht h2])
  have ha:ak t.kind=3:=by rw[h2];rfl
  rw[ha];clear ha h2 ht hk;generalize t.args.length=n at*;cases b1:(tx.toList == [105,110,116])
  ·go_enter Tryz.func114,Tryz.ntmps114;go_wp2_with fail;go_ret;exact⟨dX (by rw[ae HT,b1];rfl),Qx.alloc Qw _⟩
  ·by_cases hn:n=1
   ·have hn':((n:Int) == 1)=true:=by simp;omega
    go_enter Tryz.func114,Tryz.ntmps114;go_wp2_with fail;go_ret;exact⟨dX (by rw[ae HT,b1,hn];rfl),Qx.alloc Qw _⟩
   ·have hn':((n:Int) == 1)=false:=by simp;omega
    go_enter Tryz.func114,Tryz.ntmps114;go_wp2_with fail;go_ret;exact⟨dX (by rw[ae HT,b1];simp[hn]),Qx.alloc Qw _⟩
 ·have HT:=ah (show isInt t=false by simp[isInt,h2])
  have ha:(ak t.kind == 3)=false:=by rcases hk with e | e | e<;>simp_all [ak]
  generalize ak t.kind=q at*;clear h2 ht hk;go_enter Tryz.func114,Tryz.ntmps114;go_wp2_with fail;go_ret;exact⟨dX (by rw[ae HT]),Qx.alloc Qw _⟩
abbrev TV:=AV
theorem TA.box {ns ns':List ByteArray} (h:TA f ns ns' W w1 val tx ao cap t) (hW:w.heap.size<W.heap.size) (v0 v1 v2 v3:Value):
 TA f ns ns' w ((((w1.setCell ⟨w.heap.size,0,none⟩ v0).setCell ⟨w.heap.size,1,none⟩ v1).setCell ⟨w.heap.size,2,none⟩ v2).setCell ⟨w.heap.size,3,none⟩ v3) val tx ao cap t:=by
 refine⟨?_,h.uv⟩;have r:=h.rep.imp (Q:=fun g=>w.heap.size<g) fun g hg _=>by omega
 exact((((r.set (fun g hg=>by omega) 0 v0).set (fun g hg=>by omega) 1 v1).set (fun g hg=>by omega) 2 v2).set (fun g hg=>by omega) 3 v3).imp fun g hg _=>by omega
def fk:Nat->Prop:=fun _=>True
structure JJ (ns ns':List ByteArray) (w':World) (b c:TV) (sg op:ByteArray) (x:dq):Prop where
 sign:sg.toList=x.sign
 right:∀r,x.right=some r->RA 8 (dj ns') fk w' b r
 op:op.toList=x.op
 last:∀z,x.last=some z->RA 8 (dj ns') fk w' c z
 uv:dj ns'=e7 (e7 (dj ns) x.right) x.last
theorem b9.ra (h:b9 w w') {a:AV} (q:RA f N P w a t):RA f N fk w' a t:=q.keep fun g cs _ hc hi=>⟨h g cs hc hi,trivial⟩
theorem b9.refl (w:World):b9 w w:=fun _ _ h _=>h
theorem b9.alloc (w:World) (o:Obj):b9 w (w.alloc o):=b9.below (Qx.alloc Qw o)
theorem b9.only (ho:bJ b w w') (ht:dg w b≠some 74):b9 w w':=fun g cs hc _=>(ho.block g (fun q=>by subst q;exact ht (by unfold dg;rw[hc]))).trans hc
def ot (rb:Nat) (s:ByteArray) (a0:TV) (left:Tm) (ns:List ByteArray) (r:jM dq) (w:World) (e:Ending) (w':World):Prop:=match r with
 | .inl (er,pos)=>∃(a b c:TV) (sg op:ByteArray) (l':List bX) (ns':List ByteArray) (nv':Value),
  e= .returned (.tuple #[.agg #[.int .i64 a.k,.int .i64 a.val,.string a.tx,.slice a.ao a.n a.cap,.string sg,.int .i64 b.k,.int .i64 b.val,.string b.tx,.slice b.ao b.n b.cap,.string op,.int .i64 c.k,.int .i64 c.val,.string c.tx,.slice c.ao c.n c.cap],.bool false])/\St w' rb s l' ns' nv' (er:Int)/\(af.hd l').pos=pos/\KA rb [rb] w w'
 | .inr (x,l1)=>∃(a b c:TV) (sg op:ByteArray) (ns':List ByteArray) (nv':Value) (e':Int),
  e= .returned (.tuple #[.agg #[.int .i64 a.k,.int .i64 a.val,.string a.tx,.slice a.ao a.n a.cap,.string sg,.int .i64 b.k,.int .i64 b.val,.string b.tx,.slice b.ao b.n b.cap,.string op,.int .i64 c.k,.int .i64 c.val,.string c.tx,.slice c.ao c.n c.cap],.bool true])/\(a=a0/\x.left=left/\JJ ns ns' w' b c sg op x)/\St w' rb s l1 ns' nv' e'/\KA rb [rb] w w'
theorem dy {ns:List ByteArray} (h:St w1 rb s l ns nv e) (hk:KA rb [rb] w w1) (hlt:rb<w.heap.size) (hb:w.heap.size<=b) (hc:w1.heap[b]?=some (.cells cs T (0,0))) (ho:bJ b w1 w2) (hT:T≠9:=by decide):
 St w2 rb s l ns nv e/\KA rb [rb] w w2:=
 ⟨h.only ho (by omega) (by omega) (by unfold dg;rw[hc];simpa using hT),hk.fI ho hb⟩
theorem vP {ns:List ByteArray} (h:St w1 rb s l ns nv e) (hk:KA rb [rb] w w1) (hlt:rb<w.heap.size) (hb:w.heap.size<=b) (hc:w1.heap[b]?=some (.cells cs T (0,0))) (ho:bJ b w1 w2) (hT:T≠9:=by decide) (hT':T≠74:=by decide):
 (St w2 rb s l ns nv e/\KA rb [rb] w w2)/\b9 w1 w2:=
 ⟨dy h hk hlt hb hc ho hT,b9.only ho (by unfold dg;rw[hc];simpa using hT')⟩
theorem iU (w:World) (rb:Nat) (s:ByteArray) (l:List bX) (ns:List ByteArray) (nv:Value) (e0:Int) (h:St w rb s l ns nv e0):
 Calls Tryz.prog 153 #[.pointer (some ⟨rb,0,none⟩)] w fun e w'=>q8 8 rb s ns (operand l) w e w':=by
 have hb2:Below w.heap.size w (w.alloc lR):=Qx.alloc Qw _;have H2:=ah (h.below hb2);have hlt:=h.lt;have hK0:=ah ((KA.refl rb [rb] w).alloc lR);have hB0:=ah (LV w #[.int .i64 0,.int .i64 0,.string ⟨#[]⟩,.slice none 0 0] 74);have I:=ah (fun W (hW:St W rb s l ns nv e0)=>dP 8 W rb s l ns nv e0 1 rfl hW);unfold lR at H2 hK0;obtain⟨⟨c0,c1,c2,c3,c4,c5,f1,f2,f3,f4,f5⟩,own,chain,isn,few,short,signs,pos,lt⟩:=h;clear own chain isn few short signs hb2 c0 c2 c3 c4 c5 f1 f2 f3 f4 f5;by_cases hk:(af.hd l).kind=2
 ·have HO:=ah (show operand l=af.bad 2 l by unfold operand;rw[aH hk])
  rw[ae HO];have hk':(((af.hd l).kind:Int) == 2)=true:=by simp;omega
  clear hk HO;go_enter Tryz.func153,Tryz.ntmps153;go_wp2_with fail;refine(dr _ rb s l ns nv e0 2 (ae H2)).mono ?_;rintro e w1 ⟨rfl,hs,hk⟩;have HS:=ah hs;have HK:=ah ((ae hK0).trans hk);have hB:=bf hk (ae hB0) (by simp;omega);clear hs hk;have r0:=rk (hB) 0 rfl;have r1:=rk (hB) 1 rfl;have r2:=rk (hB) 2 rfl;have r3:=rk (hB) 3 rfl;have x0:=qH (hB) 0;have x1:=qH (hB) 1;have x2:=qH (hB) 2;have x3:=qH (hB) 3;have HB:=ah hB;clear hB;go_wp2_with fail;have R:=dy (ae HS) (ae HK) hlt Qw (ae HB) (((((bJ.refl _ _).set 0 (.int .i64 0)).set 1 (.int .i64 0)).set 2 (.string ⟨#[]⟩)).set 3 (.slice none 0 0));refine aI (v:= .tuple #[.agg #[.int .i64 0,.int .i64 0,.string ⟨#[]⟩,.slice none 0 0],.bool false]) (by simp[results,Tryz.results153,go_sem,r0,r1,r2,r3]) rfl ?_;exact⟨_,_,_,_,_,_,l,ns,nv,rfl,R.1,rfl,R.2⟩
 ·have HO:=ah (show operand l=term 8 l by unfold operand;rw[aG hk])
  rw[ae HO];generalize term 8 l=r at I⊢;have hk':(((af.hd l).kind:Int) == 2)=false:=by simp;omega
  clear hk HO;rcases r with⟨er,pos⟩ | ⟨t,l2⟩
  ·go_enter Tryz.func153,Tryz.ntmps153;go_wp2_with fail;refine(ae I _ (ae H2)).mono ?_;rintro e w1 ⟨k,val,tx,ao,n,cap,l',ns',nv',rfl,hs,hpos,hk⟩;have HS:=ah hs;have HP:=ah hpos;have HK:=ah ((ae hK0).trans hk);have hB:=bf hk (ae hB0) (by simp;omega);clear hs hk hpos;have r0:=rk (hB) 0 rfl;have r1:=rk (hB) 1 rfl;have r2:=rk (hB) 2 rfl;have r3:=rk (hB) 3 rfl;have x0:=qH (hB) 0;have x1:=qH (hB) 1;have x2:=qH (hB) 2;have x3:=qH (hB) 3;have HB:=ah hB;clear hB;go_wp2_with fail;have R:=dy (ae HS) (ae HK) hlt Qw (ae HB) (((((bJ.refl _ _).set 0 (.int .i64 k)).set 1 (.int .i64 val)).set 2 (.string tx)).set 3 (.slice ao n cap));refine aI (v:= .tuple #[.agg #[.int .i64 k,.int .i64 val,.string tx,.slice ao n cap],.bool false]) (by simp[results,Tryz.results153,go_sem,r0,r1,r2,r3]) rfl ?_;exact⟨_,_,_,_,_,_,l',ns',nv',rfl,R.1,ae HP,R.2⟩
  ·go_enter Tryz.func153,Tryz.ntmps153;go_wp2_with fail;refine(ae I _ (ae H2)).mono ?_;rintro e w1 ⟨val,tx,ao,cap,ns',nv',e',rfl,htx,hs,hk⟩;have HS:=ah hs;have HP:=ah htx;have HK:=ah ((ae hK0).trans hk);have hB:=bf hk (ae hB0) (by simp;omega);clear hs hk htx;have r0:=rk (hB) 0 rfl;have r1:=rk (hB) 1 rfl;have r2:=rk (hB) 2 rfl;have r3:=rk (hB) 3 rfl;have x0:=qH (hB) 0;have x1:=qH (hB) 1;have x2:=qH (hB) 2;have x3:=qH (hB) 3;have HB:=ah hB;clear hB;go_wp2_with fail;have R:=dy (ae HS) (ae HK) hlt Qw (ae HB) (((((bJ.refl _ _).set 0 (.int .i64 (ak t.kind))).set 1 (.int .i64 val)).set 2 (.string tx)).set 3 (.slice ao t.args.length cap));refine aI (v:= .tuple #[.agg #[.int .i64 (ak t.kind),.int .i64 val,.string tx,.slice ao t.args.length cap],.bool true]) (by simp[results,Tryz.results153,go_sem,r0,r1,r2,r3]) rfl ?_;exact⟨_,_,_,_,ns',nv',e',rfl,(ae HP).box (by simp) _ _ _ _,R.1,R.2⟩
end Go.Proofs.YthfjnfcekeknlabGreatDoor
namespace af
variable {l l1:List bX} {ps er:Nat} {t:Tm}
theorem J' (h:term 8 l= .inl (er,ps)):whole l= .inl (er,ps):=by unfold whole;rw[h]
theorem J9 (h:term 8 l= .inr (t,l1)) (hk:(hd l1).kind=0):whole l= .inr (t,l1):=by unfold whole;rw[h];dsimp only;rw[aH hk]
theorem J7 (h:term 8 l= .inr (t,l1)) (hk:(hd l1).kind≠0):whole l= .inl (2,(hd l1).pos):=by unfold whole;rw[h];dsimp only;rw[aG hk];rfl
end af
namespace Go.Proofs.YthfjnfcekeknlabGreatDoor
open Go.RowKit af
variable {w1 w w2 w':World} {s:ByteArray} {L:List bX} {b n sz g k b0 b1 i sc wc lb cap':Nat} {e:TypeId} {v:Value} {xs:List Value} {T W:List Nat} {us:List AV} {so wo:Option Addr} {S:List Int} {no:Bool} {R:Nat->Prop}
theorem uT (hsg:fu w1) (h0:0<w1.heap.size) (hL:eM s L) (hh:af.hd L=af.next s 0) (hl:L.length<=1000) (hs:s.size<=240):
 St (w1.alloc (.cells #[.string s,.int .i64 ((af.next s 0).kind:Int),.int .i64 ((af.next s 0).pos:Int),.string (af.next s 0).text,.slice none 0 0,.int .i64 0] 71)) w1.heap.size s L [] (.slice none 0 0) 0:=by
 have hb:=aB w1 (.cells #[.string s,.int .i64 ((af.next s 0).kind:Int),.int .i64 ((af.next s 0).pos:Int),.string (af.next s 0).text,.slice none 0 0,.int .i64 0] 71);have c:=aN hb;have f:=bI hb;exact⟨⟨by rw[c];rfl,by rw[c,hh];rfl,by rw[c,hh];rfl,by rw[c,hh];rfl,by rw[c];rfl,by rw[c];rfl,f 1,f 2,f 3,f 4,f 5⟩,bD _ _ _ _,hL,⟨0,hh⟩,by simpa using hl,hs,hsg.below (Qx.alloc Qw _) h0,h0,by simp⟩
theorem gI (h:w.ownsRow b e sz v n xs):∃o cap,v= .slice o n cap:=by
 rcases h.2 with⟨q,rfl⟩ | ⟨g,cap,cur,q,_⟩
 ·exact⟨none,0,q⟩
 ·exact⟨some ⟨g,0,none⟩,cap,q⟩
theorem b6 (w:World) (b i:Nat) (v:Value) (h:g≠b):(w.setCell ⟨b,i,none⟩ v).heap[g]?=w.heap[g]?:=eY _ _ _ _ h
theorem fj (w:World) (p:Addr) (v:Value):(w.setCell p v).heap.size=w.heap.size:=by simp[World.setCell]
theorem sy (w2:World) (v0 v1 v2 v3 v4 v5:Value) (h:k≠b):((((((w2.setCell ⟨b,0,none⟩ v0).setCell ⟨b,1,none⟩ v1).setCell ⟨b,2,none⟩ v2).setCell ⟨b,3,none⟩ v3).setCell ⟨b,4,none⟩ v4).setCell ⟨b,5,none⟩ v5).heap[k]?=w2.heap[k]?:=by rw[b6 _ _ _ _ h,b6 _ _ _ _ h,b6 _ _ _ _ h,b6 _ _ _ _ h,b6 _ _ _ _ h,b6 _ _ _ _ h]
theorem qf (w2:World) (v0 v1 v2 v3 v4 v5:Value):((((((w2.setCell ⟨b,0,none⟩ v0).setCell ⟨b,1,none⟩ v1).setCell ⟨b,2,none⟩ v2).setCell ⟨b,3,none⟩ v3).setCell ⟨b,4,none⟩ v4).setCell ⟨b,5,none⟩ v5).heap.size=w2.heap.size:=by simp only[fj]
theorem oE (h:Below w.heap.size w w2) (v0 v1 v2 v3 v4 v5:Value):Below w.heap.size w ((((((w2.setCell ⟨w.heap.size,0,none⟩ v0).setCell ⟨w.heap.size,1,none⟩ v1).setCell ⟨w.heap.size,2,none⟩ v2).setCell ⟨w.heap.size,3,none⟩ v3).setCell ⟨w.heap.size,4,none⟩ v4).setCell ⟨w.heap.size,5,none⟩ v5):=
 (((((h.setCell (p:=⟨w.heap.size,0,none⟩) Qw _).setCell (p:=⟨w.heap.size,1,none⟩) Qw _).setCell (p:=⟨w.heap.size,2,none⟩) Qw _).setCell (p:=⟨w.heap.size,3,none⟩) Qw _).setCell (p:=⟨w.heap.size,4,none⟩) Qw _).setCell (p:=⟨w.heap.size,5,none⟩) Qw _
theorem KU {T:TypeId} (h:w.ownsRow b0 T sz v n xs) (hb:b<b0) (v0 v1 v2 v3 v4 v5:Value):((((((w.setCell ⟨b,0,none⟩ v0).setCell ⟨b,1,none⟩ v1).setCell ⟨b,2,none⟩ v2).setCell ⟨b,3,none⟩ v3).setCell ⟨b,4,none⟩ v4).setCell ⟨b,5,none⟩ v5).ownsRow b0 T sz v n xs:=
 ⟨h.1,h.2.imp id fun⟨g,cap,cur,a,c,d,e⟩=>⟨g,cap,cur,a,c,(sy w _ _ _ _ _ _ (by omega)).trans d,e⟩⟩
theorem dh {T:TypeId} (h:w.ownsRow b1 T sz v n xs) (hb:b0<=b1):w.ownsRow b0 T sz v n xs:=
 ⟨h.1,h.2.imp id fun⟨g,cap,cur,a,b,c,d⟩=>⟨g,cap,cur,a,aW hb b,c,d⟩⟩
def Qd (r:jM Tm) (w:World) (e:Ending) (w':World):Prop:=
 ∃(a:AV) (no:Option Addr) (nl nc:Nat),e= .returned (.agg #[.int .i64 a.k,.int .i64 a.val,.string a.tx,.slice a.ao a.n a.cap,.slice no nl nc,.int .i64 (PF r:Int)])/\
  (match r with
   | .inl _=>True
   | .inr (t,_)=>∃ns:List ByteArray,RA 8 (dj ns) fk w' a t/\dj ns=aP 8 [] t/\w'.ownsRow w.heap.size 9 1 (.slice no nl nc) ns.length (ns.map Value.string))/\Below w.heap.size w w'
theorem Kt (w:World) (s:ByteArray) (hs:64<s.size):
 Calls Tryz.prog 43 #[.string s] w fun e w'=>e= .returned (.agg #[.int .i64 0,.int .i64 0,.string ⟨#[]⟩,.slice none 0 0,.slice none 0 0,.int .i64 1])/\Below w.heap.size w w':=by
 have hsz:decide (64<(s.size:Int))=true:=by simp;omega
 go_enter Tryz.func43,Tryz.ntmps43;go_wp2_with fail;refine aI (v:= .agg #[.int .i64 0,.int .i64 0,.string ⟨#[]⟩,.slice none 0 0,.slice none 0 0,.int .i64 1]) (by simp[results,Tryz.results43,go_sem]) rfl ?_;exact⟨rfl,Qx.alloc Qw _⟩
theorem Ee (w:World) (rb:Nat) (s:ByteArray) (l:List bX) (ns:List ByteArray) (nv:Value) (e0:Int) (h:St w rb s l ns nv e0) (hk:(af.hd l).kind=0):
 Calls Tryz.prog 33 #[.pointer (some ⟨rb,0,none⟩)] w fun e w'=>e= .returned (.bool true)/\w'=w:=by
 have c1:=h.rd.c1;have zr:=h.lt;rw[hk]at c1;clear h hk;go_enter Tryz.func33,Tryz.ntmps33;go_wp2_with fail;go_ret;exact⟨rfl,rfl⟩
theorem Ef (w:World) (rb:Nat) (s:ByteArray) (l:List bX) (ns:List ByteArray) (nv:Value) (e0:Int) (h:St w rb s l ns nv e0) (hk:(af.hd l).kind≠0):
 Calls Tryz.prog 33 #[.pointer (some ⟨rb,0,none⟩)] w fun e w'=>e= .returned (.bool false)/\St w' rb s l ns nv 2/\KA rb [rb] w w':=by
 have c1:=h.rd.c1;have zr:=h.lt;have hq:(((af.hd l).kind:Int) != 0)=true:=by simp;omega
 have H:=ah h;clear h hk;generalize ((af.hd l).kind:Int)=gk at*;go_enter Tryz.func33,Tryz.ntmps33;go_wp2_with fail;refine(dr _ rb s l ns nv e0 2 (ae H)).mono ?_;rintro e w3 ⟨rfl,hs3,hk3⟩;have HS3:=ah hs3;have HK3:=ah hk3;clear hs3 hk3;go_wp2_with fail;go_ret;exact⟨rfl,ae HS3,ae HK3⟩
theorem M4 (w:World) (s:ByteArray) (L:List bX) (hs:s.size<=64) (hL:eM s L) (hh:af.hd L=af.next s 0) (hl:L.length<=1000) (hsg:fu w) (h0:0<w.heap.size):
 Calls Tryz.prog 43 #[.string s] w fun e w'=>Qd (whole L) w e w':=by
 have hsz:decide (64<(s.size:Int))=false:=by simp;omega
 have HSG:=ah hsg;clear hsg;go_enter Tryz.func43,Tryz.ntmps43;go_wp2_with fail;refine(o9 s 0 _ (by unfold maxLen;omega) (cI _) ((ae HSG).below (Qx.alloc Qw _) h0) (by simp)).mono ?_;rintro e w1 ⟨rfl,hb1⟩;have hsg1:=((ae HSG).below (Qx.alloc Qw (.cells #[.int .i64 0,.int .i64 0,.string ⟨#[]⟩,.slice none 0 0,.slice none 0 0,.int .i64 0] 97)) h0).below hb1 (by simp);have hw1:w.heap.size<w1.heap.size:=by have:=hb1.size;simp at this;omega
 have HS:=ah (uT hsg1 (by omega) hL hh hl (by omega));have HB0:=ah (aQ ((hb1.block w.heap.size (by simp)).trans (aB w (.cells #[.int .i64 0,.int .i64 0,.string ⟨#[]⟩,.slice none 0 0,.slice none 0 0,.int .i64 0] 97))) (.cells #[.string s,.int .i64 ((af.next s 0).kind:Int),.int .i64 ((af.next s 0).pos:Int),.string (af.next s 0).text,.slice none 0 0,.int .i64 0] 71));have HBL:=ah ((((al w.heap.size w).alloc Qw (.cells #[.int .i64 0,.int .i64 0,.string ⟨#[]⟩,.slice none 0 0,.slice none 0 0,.int .i64 0] 97)).trans (hb1.mono (by simp))).alloc (by omega) (.cells #[.string s,.int .i64 ((af.next s 0).kind:Int),.int .i64 ((af.next s 0).pos:Int),.string (af.next s 0).text,.slice none 0 0,.int .i64 0] 71));clear hb1 hsg1 HSG hL hh hl;generalize (af.next s 0).kind=tk at*;generalize (af.next s 0).pos=tp at*;generalize (af.next s 0).text=tt at*;have hrz:(w1.alloc (.cells #[.string s,.int .i64 (tk:Int),.int .i64 (tp:Int),.string tt,.slice none 0 0,.int .i64 0] 71)).heap.size=w1.heap.size+1:=by simp
 have I:=ah (dP 8 _ w1.heap.size s L [] (.slice none 0 0) 0 1 rfl (ae HS));go_wp2_with fail;refine(ae I).mono ?_;generalize hW:w1.alloc (.cells #[.string s,.int .i64 (tk:Int),.int .i64 (tp:Int),.string tt,.slice none 0 0,.int .i64 0] 71)=W at*;generalize hrb:w1.heap.size=rb at*;clear I hW hrb;generalize hr:term 8 L=r;have HR:=ah hr;clear hr;rcases r with⟨er,pos⟩ | ⟨t,l1⟩
 ·rintro e w2 ⟨k,val,tx,ao,n,cap,l',ns',nv',rfl,hs2,-,hk2⟩;have hz2:=hk2.size;have b0:=bf hk2 (ae HB0) (by simp;omega);have y0:=aN b0;have x0:=bI b0;have z0:=aD b0;have c5:=hs2.rd.c5;have zr:=hs2.lt;have HBL2:=ah (show Below w.heap.size w w2 from (ae HBL).trans (hk2.below (by have:=(ae HBL).size;omega) (by omega) (by simp;omega)))
  clear hs2 hk2 b0;go_wp2_with fail;refine aI (v:= .agg #[.int .i64 0,.int .i64 0,.string ⟨#[]⟩,.slice none 0 0,.slice none 0 0,.int .i64 er]) (by simp[results,Tryz.results43,go_sem,y0,z0]) rfl ?_;rw[J' (ae HR)];refine⟨⟨0,0,⟨#[]⟩,none,0,0⟩,none,0,0,rfl,trivial,?_⟩;exact(oE (ae HBL2) _ _ _ _ _ _).alloc (by rw[qf];omega) _
 ·rintro e w2 ⟨val,tx,ao,cap,ns',nv',e',rfl,hta,hs2,hk2⟩;have hz2:=hk2.size;have b0:=bf hk2 (ae HB0) (by simp;omega);have zr:=hs2.lt;have HBL2:=ah (show Below w.heap.size w w2 from (ae HBL).trans (hk2.below (by have:=(ae HBL).size;omega) (by omega) (by simp;omega)))
  have HTA:=ah hta;have HS2:=ah hs2;have HB02:=ah b0;have c1:=hs2.rd.c1;have c4:=hs2.rd.c4;obtain⟨oo,cp,hnv⟩:=gI hs2.own;subst hnv;have HOW:=ah hs2.own;clear hs2 hk2 b0 hta;by_cases hk:(af.hd l1).kind=0
  ·rw[hk]at c1;have HW:=ah (J9 (ae HR) hk);have y0:=aN (ae HB02);have x0:=bI (ae HB02);have z0:=aD (ae HB02);go_wp2_with fail;refine(Ee _ rb s l1 ns' _ e' ((ae HS2).below (Qx.alloc Qw _)) hk).mono ?_;rintro e w3 ⟨rfl,rfl⟩;clear hk;go_wp2_with fail;refine aI (v:= .agg #[.int .i64 (ak t.kind),.int .i64 val,.string tx,.slice ao t.args.length cap,.slice oo ns'.length cp,.int .i64 0]) (by simp[results,Tryz.results43,go_sem,y0,z0]) rfl ?_;rw[ae HW];refine⟨⟨ak t.kind,val,tx,ao,t.args.length,cap⟩,oo,ns'.length,cp,rfl,⟨ns',?_,(ae HTA).uv,?_⟩,?_⟩
   ·refine(ae HTA).rep.keep fun g cs hg hc _=>⟨?_,trivial⟩;have hl:=aD hc;rw[aZ _ _ _ (by rw[qf];exact hl),sy _ _ _ _ _ _ _ (by omega)];exact hc
   ·have h1:=KU (b:=w.heap.size) (ae HOW) (by omega) (.int .i64 (ak t.kind)) (.int .i64 val) (.string tx) (.slice ao t.args.length cap) (.slice oo ns'.length cp) (.int .i64 0);exact dh (h1.alloc _) (by omega)
   ·exact(oE (ae HBL2) _ _ _ _ _ _).alloc (by rw[qf];omega) _
  ·have HW:=ah (J7 (ae HR) hk);go_wp2_with fail;refine(Ef _ rb s l1 ns' _ e' ((ae HS2).below (Qx.alloc Qw _)) hk).mono ?_;clear hk;rintro e w3 ⟨rfl,hs3,hk3⟩;have b3:=bf hk3 (aQ (ae HB02) _) (by simp;omega);have y0:=aN b3;have x0:=bI b3;have z0:=aD b3;have c5:=hs3.rd.c5;have zr3:=hs3.lt;have HBL3:=ah (show Below w.heap.size w w3 from ((ae HBL2).alloc (ae HBL2).size _).trans (hk3.below (by have:=(ae HBL2).size;simp;omega) (by omega) (by simp;omega)))
   clear hs3 hk3 b3 c1 c4;go_wp2_with fail;refine aI (v:= .agg #[.int .i64 0,.int .i64 0,.string ⟨#[]⟩,.slice none 0 0,.slice none 0 0,.int .i64 2]) (by simp[results,Tryz.results43,go_sem,y0]) rfl ?_;rw[ae HW];exact⟨⟨0,0,⟨#[]⟩,none,0,0⟩,none,0,0,rfl,trivial,oE (ae HBL3) _ _ _ _ _ _⟩
theorem pD {α:Type} {F:α->List Value} {c:Nat} (hF:∀a,(F a).length=c):∀{us:List α} {i:Nat} (h:i<us.length) (j:Nat),j<c->(us.flatMap F)[i*c+j]?=(F us[i])[j]?
 | t :: r,0,_,j,hj=>by rw[bM,cg (by rw[hF];omega)];simp
 | t :: r,i+1,h,j,hj=>by rw[bM,cZ (by rw[hF,d9];omega),hF];rw[show (i+1)*c+j - c=i*c+j by rw[d9];omega];simpa using pD hF (by simpa using h) j hj
def cN (n:Nat):Value:= .int .i64 (n:Int)
theorem CP:(Tryz.prog.info? 147).map (fun i=>(i.zero,i.size,i.bytes))=some (some (.agg #[.int .i64 0,.int .i64 0,.string ⟨#[]⟩,.int .i64 0,.slice none 0 0,.int .i64 0,.int .i64 0]),7,80):=by kernel_rfl
theorem kO:(Tryz.prog.info? 3).map (fun i=>(i.zero,i.size,i.bytes))=some (some (.int .i64 0),1,8):=by kernel_rfl
theorem lq (W:World) (n:Nat) (a:Value) (T:TypeId) (hn:n=W.heap.size):∀j u,([a]:List Value)[j]?=some u->(W.alloc (.cells #[a] T)).cell? ((⟨n,0,none⟩:Addr).add j)=some u:=by
 subst hn;intro j u hj
 match j,hj with
 | 0,hj=>simp at hj;subst hj;simp[Addr.add]
theorem Ov (W:World) (n:Nat) (A:Array Value) (T:TypeId) (xs:List Value) (hn:n=W.heap.size) (hx:A.toList=xs):∀j u,xs[j]?=some u->(W.alloc (.cells A T)).cell? ((⟨n,0,none⟩:Addr).add j)=some u:=by subst hn hx;intro j u hj;have:=aN (aB W (.cells A T)) j;rw[show (⟨W.heap.size,0,none⟩:Addr).add j=⟨W.heap.size,j,none⟩by cases j<;>simp[Addr.add],this];simpa using hj
def mC (a:AV):Int:=if a.k=2 then a.val else 0
theorem pn (w:World) (a:AV):
 Calls Tryz.prog 78 #[.agg #[.int .i64 a.k,.int .i64 a.val,.string a.tx,.slice a.ao a.n a.cap]] w fun e w'=>e= .returned (.agg #[.int .i64 a.k,.int .i64 (mC a),.string a.tx,.int .i64 (a.n:Int)])/\Below w.heap.size w w':=by
 cases hk:(a.k == 2)
 ·have HV:=ah (show mC a=0 by unfold mC;rw[aG (by simpa using hk)])
  go_enter Tryz.func78,Tryz.ntmps78;go_wp2_with fail;refine aI (v:= .agg #[.int .i64 a.k,.int .i64 0,.string a.tx,.int .i64 (a.n:Int)]) (by simp[results,Tryz.results78,go_sem]) rfl ?_;exact⟨by rw[ae HV],((Qx.alloc Qw _).alloc (by simp) _).alloc (by simp;omega) _⟩
 ·have hk2:a.k=2:=by simpa using hk
  have HV:=ah (show mC a=a.val by unfold mC;rw[aH hk2])
  obtain⟨k,val,tx,ao,n,cap⟩:=a;dsimp only at hk2 HV⊢;subst hk2;clear hk;go_enter Tryz.func78,Tryz.ntmps78;go_wp2_with fail;refine aI (v:= .agg #[.int .i64 2,.int .i64 val,.string tx,.int .i64 (n:Int)]) (by simp[results,Tryz.results78,go_sem]) rfl ?_;exact⟨by rw[ae HV],((Qx.alloc Qw _).alloc (by simp) _).alloc (by simp;omega) _⟩
theorem qi (h:w.ownsRow b e sz v (n+1) xs):∃g cap,v= .slice (some ⟨g,0,none⟩) (n+1) cap:=by
 rcases h.2 with⟨_,q⟩ | ⟨g,cap,cur,q,_⟩
 ·omega
 ·exact⟨g,cap,q⟩
theorem eO.ui {α β:Type} {R:α->β->Prop}:∀{xs:List α} {ys:List β},eO R xs ys->∀(i:Nat) (h:i<xs.length) (h':i<ys.length),R xs[i] ys[i]
 | _ :: _,_ :: _,q,0,_,_=>q.1
 | _ :: _,_ :: _,q,i+1,h,h'=>eO.ui q.2 i (by simpa using h) (by simpa using h')
theorem LZ (h:i<us.length) (j:Nat) (hj:j<4):(us.flatMap oq)[i*4+j]?=(oq us[i])[j]?:=pD (F:=oq) (c:=4) (fun _=>rfl) h j hj
def jI (n:Int):Value:= .int .i64 n
def gW (lb:Nat) (so wo:Option Addr) (k:Nat):Prop:=k=lb\/(∃p,so=some p/\k=p.block)\/(∃p,wo=some p/\k=p.block)
structure tY (w:World) (lb:Nat) (S:List Int) (W:List Nat) (no:Bool) (so:Option Addr) (sc:Nat) (wo:Option Addr) (wc:Nat):Prop where
 blk:w.heap[lb]?=some (.cells #[.slice so S.length sc,.slice wo W.length wc,.bool no] 102 (0,0))
 lH:w.ownsRow (lb+1) 3 1 (.slice so S.length sc) S.length (S.map jI)
 lh:w.ownsRow (lb+1) 3 1 (.slice wo W.length wc) W.length (W.map cN)
 apart:∀p q,so=some p->wo=some q->p.block≠q.block
def iR (w:World) (lb:Nat) (S:List Int) (W:List Nat) (no:Bool) (R:Nat->Prop):Prop:=∃so sc wo wc,tY w lb S W no so sc wo wc/\R=gW lb so wo
theorem tY.rows (h:tY w lb S W no so sc wo wc):∀k,gW lb so wo k->lb<=k/\k<w.heap.size:=by
 have h1:=aD h.blk;rintro k (rfl | ⟨p,rfl,rfl⟩ | ⟨p,rfl,rfl⟩)
 ·omega
 ·have:=h.lH.lt p.block rfl;omega
 ·have:=h.lh.lt p.block rfl;omega
theorem tY.keep (h:tY w lb S W no so sc wo wc) (hk:∀k,gW lb so wo k->w'.heap[k]?=w.heap[k]?):tY w' lb S W no so sc wo wc:=by
 refine⟨(hk lb (ay rfl)).trans h.blk,aO h.lH (fun g q=>hk g ?_),aO h.lh (fun g q=>hk g ?_),h.apart⟩
 ·cases so with
  | none=>simp[Value.ownBlock]at q
  | some s=>simp[Value.ownBlock]at q;exact aw (ay ⟨s,rfl,q.symm⟩)
 ·cases wo with
  | none=>simp[Value.ownBlock]at q
  | some s=>simp[Value.ownBlock]at q;exact aw (aw ⟨s,rfl,q.symm⟩)
theorem iR.below (h:iR w lb S W no R) (hb:Below w.heap.size w w'):iR w' lb S W no R:=by obtain⟨so,sc,wo,wc,h,rfl⟩:=h;exact⟨so,sc,wo,wc,h.keep fun k q=>hb.block k (h.rows k q).2,rfl⟩
theorem ve (w:World) (lb:Nat) (S:List Int) (W:List Nat) (no:Bool) (R:Nat->Prop) (h:iR w lb S W no R):
 Calls Tryz.prog 47 #[.pointer (some ⟨lb,0,none⟩)] w fun e w'=>e= .returned (.int .i64 (if no=true then 2 else if W=[]then 1 else 3))/\w'=w:=by
 obtain⟨so,sc,wo,wc,h,rfl⟩:=h;have s1:=aN h.blk 1;have s2:=aN h.blk 2;have sz:=aD h.blk;simp only[aE,aq,aA]at s1 s2;clear h;cases no with
 | true=>go_enter Tryz.func47,Tryz.ntmps47;go_wp2_with fail;go_ret;exact⟨rfl,rfl⟩
 | false=>
  cases W with
  | nil=>go_enter Tryz.func47,Tryz.ntmps47;go_wp2_with fail;go_ret;exact⟨rfl,rfl⟩
  | cons x W=>
   have t1:decide (0<W.length+1)=true:=by simp
   have t2:decide ((0:Int)<(W.length:Int)+1)=true:=by simp
   go_enter Tryz.func47,Tryz.ntmps47;go_wp2_with fail;go_ret;exact⟨by simp,rfl⟩
theorem we (w:World) (lb:Nat) (S:List Int) (W:List Nat) (no:Bool) (R:Nat->Prop) (n:Nat) (h:iR w lb S W no R) (hl:W.length<=100000000):
 Calls Tryz.prog 83 #[.pointer (some ⟨lb,0,none⟩),.int .i64 (n:Int)] w fun e w'=>e= .returned (.bool (decide (n∈W)))/\w'=w:=by
 obtain⟨so,sc,wo,wc,h,rfl⟩:=h;have s1:=aN h.blk 1;have sz:=aD h.blk;simp only[aE,aq,aA]at s1;have H:=ah h;clear h;go_enter Tryz.func83,Tryz.ntmps83;go_wp2_with fail;go_loopg [12] W.length (fun k iv wr=>∃j:Nat,k+j=W.length/\iv= .int .i64 (j:Int)/\wr=w/\n∉W.take j)
 case atStart=>exact⟨0,by omega,rfl,rfl,by simp⟩
 case round=>
  obtain⟨j,hkj,rfl,rfl,hno⟩:=hrel;by_cases hlt:j<W.length
  ·obtain⟨g,hg⟩:∃g,wo=some ⟨g,0,none⟩:=by
    rcases(ae H).lh.2 with⟨q,q2⟩ | ⟨g,cp,cur,q,_⟩
    ·omega
    ·simp only[aS]at q;exact⟨g,q.1⟩
   subst hg;have f0:wr.cell? ⟨g,j,none⟩=some (.int .i64 (W[j]:Int)):=by rw[(ae H).lh.cellAt j (by omega),bC,aj hlt];rfl
   have gz:=((ae H).lh.lt g rfl).2;have i0:(0:Int)<=(j:Int):=by omega
   have i1:(j:Int)<(W.length:Int):=by omega
   by_cases he:W[j]=n
   ·have HIN:=ah (show n∈W from he ▸ aL hlt)
    rw[he]at f0;clear he hno hkj;go_wp2_with fail;go_ret;exact⟨by rw[eN (ae HIN)];rfl,rfl⟩
   ·have HNO:=ah hno;have HE:=ah he;have HLT:=ah hlt;have HKJ:=ah hkj;have t1:(((W[j]:Nat):Int) == ((n:Nat):Int))=false:=by simp;omega
    have HM:=ah (show W.take (j+1)=W.take j++[W[j]]by rw[bR,aj hlt];rfl)
    generalize hm:W[j]=m at*;clear he hno hkj hm;go_wp2_with fail;go_roundg (gk - 1)
    case measure=>have:=ae HKJ;have:=ae HLT;omega
    case rel=>refine⟨j+1,by have:=ae HKJ;have:=ae HLT;omega,by go_num,rfl,?_⟩;rw[ae HM];simp only[bA,a8,not_or];exact⟨ae HNO,fun q=>ae HE q.symm⟩
  ·have hno':n∉W:=by rwa [cV (by omega)]at hno
   have HNO:=ah hno';clear hno hno';obtain rfl:j=W.length:=by omega
   go_wp2_with fail;go_ret;exact⟨by rw[dK (ae HNO)];rfl,rfl⟩
theorem tY.Oe {W:World} (h:tY w lb S T no so sc wo wc) (hW:Below w.heap.size w W) (hown:w1.ownsRow (lb+1) 3 1 (.slice (some ⟨g,0,none⟩) (T.length+1) cap') (T.length+1) (T.map cN++[cN n])) (hg:W.grownBy w1 (Value.slice wo T.length wc).ownBlock) (hat:(Value.slice wo T.length wc).ownBlock=some g\/w.heap.size<=g):
 tY (w1.setCell ⟨lb,1,none⟩ (.slice (some ⟨g,0,none⟩) (T.length+1) cap')) lb S (T++[n]) no so sc (some ⟨g,0,none⟩) cap'/\bZ (gW lb so wo) (gW lb so (some ⟨g,0,none⟩)) w (w1.setCell ⟨lb,1,none⟩ (.slice (some ⟨g,0,none⟩) (T.length+1) cap')):=by
 have hz:=hW.size;have s0:=aD h.blk;have keep:∀k,k<w.heap.size->k≠lb->(∀p,wo=some p->k≠p.block)->(w1.setCell ⟨lb,1,none⟩ (.slice (some ⟨g,0,none⟩) (T.length+1) cap')).heap[k]?=w.heap[k]?:=fun k h1 h2 h3=>by rw[b6 _ _ _ _ h2,hg.block k (by omega) (i7 h3),hW.block k h1]
 have row:∀k,gW lb so (some ⟨g,0,none⟩) k->gW lb so wo k\/w.heap.size<=k:=by
  rintro k (e | e | ⟨p,q,e⟩)
  ·exact ay (ay e)
  ·exact ay (aw (ay e))
  ·cases q;dsimp only at e;rcases hat with a | a
   ·left;right;right;cases wo with
    | none=>simp[Value.ownBlock]at a
    | some s=>simp[Value.ownBlock]at a;exact⟨s,rfl,by omega⟩
   ·right;omega
 have keepR:∀k,k<w.heap.size->¬gW lb so wo k->(w1.setCell ⟨lb,1,none⟩ (.slice (some ⟨g,0,none⟩) (T.length+1) cap')).heap[k]?=w.heap[k]?:=fun k hk hr=>keep k hk (fun e=>hr (ay e)) (fun p q e=>hr (aw (aw ⟨p,q,e⟩)));refine⟨⟨?_,?_,?_,?_⟩,⟨hg.os.trans hW.os,hg.tape.trans hW.tape,hg.output.trans hW.output,by rw[fj];have:=hg.size;omega,keepR,row⟩⟩
 ·have q0:w1.heap[lb]?=some (.cells #[.slice so S.length sc,.slice wo T.length wc,.bool no] 102 (0,0)):=by
   rw[hg.block lb (by omega) (i7 (fun p q e=>by have:=h.lh.lt p.block (by rw[q];rfl);omega)),hW.block lb s0];exact h.blk
  have:=bB q0 1 (.slice (some ⟨g,0,none⟩) (T.length+1) cap');simpa using this
 ·refine aO h.lH (fun k q=>keep k (h.lH.lt k q).2 (by have:=(h.lH.lt k q).1;omega) (fun p e r=> ?_));cases so with
  | none=>simp[Value.ownBlock]at q
  | some s=>simp[Value.ownBlock]at q;exact h.apart s p rfl e (by omega)
 ·have:=aO hown (w':=w1.setCell ⟨lb,1,none⟩ (.slice (some ⟨g,0,none⟩) (T.length+1) cap')) (fun k q=>b6 _ _ _ _ (by have:=(hown.lt k q).1;omega));simpa using this
 ·intro p q hp hq;cases hq;have hsp:=(h.lH.lt p.block (by rw[hp];rfl)).2;rcases hat with a | a
  ·cases wo with
   | none=>simp[Value.ownBlock]at a
   | some s=>simp[Value.ownBlock]at a;have:=h.apart p s hp rfl;dsimp only;omega
  ·dsimp only;omega
def FL (T:List Nat) (n:Nat):List Nat:=if n∈T then T else T++[n]
theorem pZ (w:World) (lb:Nat) (S:List Int) (T:List Nat) (no:Bool) (R:Nat->Prop) (n:Nat) (h:iR w lb S T no R) (hl:T.length<=100000000):
 Calls Tryz.prog 126 #[.pointer (some ⟨lb,0,none⟩),.int .i64 (n:Int)] w fun e w'=>e= .returned (.tuple #[])/\∃R',iR w' lb S (FL T n) no R'/\bZ R R' w w':=by
 have HF:=ah (we w lb S T no R n h hl);have HA:=ah h;obtain⟨so,sc,wo,wc,h,rfl⟩:=h;have s1:=aN h.blk 1;have sf:=bI h.blk 1;have sz:=aD h.blk;simp only[aE,aq,aA]at s1;have H:=ah h;have HNS:=ah (show some lb≠(Value.slice wo T.length wc).ownBlock from fun q=>by have:=(h.lh.lt lb q.symm).1;omega)
 obtain⟨tj,hj,hy0,hy1,hy2⟩:=dH kO;clear h;by_cases hm:n∈T
 ·have HM:=ah hm;rw[eN hm]at HF;clear hm;go_enter Tryz.func126,Tryz.ntmps126;go_wp2_with fail;refine(ae HF).mono ?_;rintro e w2 ⟨rfl,rfl⟩;go_wp2_with fail;go_end0;refine⟨rfl,_,?_,bZ.aX Qx⟩;unfold FL;rw[aH (ae HM)];exact ae HA
 ·have HM:=ah hm;rw[dK hm]at HF;clear hm;go_enter Tryz.func126,Tryz.ntmps126;go_wp2_with fail;refine(ae HF).mono ?_;rintro e w2 ⟨rfl,rfl⟩;go_wp2_with (at_builtin;go_must (refine wpList_append_own_at _ rfl (.tmp 12) (.tmp 14) 25 rfl (lb+1) 3 tj (.int .i64 0) 1 8 Tryz.underlying25 hj hy0 hy1 hy2 rfl (by decide) _ T.length (T.map cN) rfl ((ae H).lh.alloc _) ⟨w2.heap.size,0,none⟩ 1 1 [.int .i64 (n:Int)] rfl rfl (lq _ _ _ _ rfl) (by simp[Value.oneCell']) (by unfold maxLen;omega) (by omega) (by simp;omega) ?_);go_must (intro v' w7 hown' hgrow _ hat;obtain⟨g',cap',hv'⟩:=qi hown';subst hv';have HN:=ah ((ae H).Oe (Qx.alloc Qw _) (n:=n) hown' hgrow (by rcases hat with q | q;exact ay q.symm;(right;simp[Value.ownBlock]at q;omega)));have k1:=(hgrow.cell_far ⟨lb,1,none⟩ (by simp;omega) (ae HNS)).trans ((aC _ _ _ sz).trans s1);have k3:w7.frozen? ⟨lb,1,none⟩=false:=(by have:=bI (ae HN).1.blk 1;rwa [cH]at this);have zz7:lb<w7.heap.size:=(by have:=aD (ae HN).1.blk;rwa [fj]at this);clear hown' hgrow hat));go_end0;refine⟨rfl,_,?_,(ae HN).2⟩;unfold FL;rw[aG (ae HM)];exact⟨_,_,_,_,(ae HN).1,rfl⟩
theorem tY.bad (h:tY w lb S T no so sc wo wc):tY (w.setCell ⟨lb,2,none⟩ (.bool true)) lb S T true so sc wo wc/\bZ (gW lb so wo) (gW lb so wo) w (w.setCell ⟨lb,2,none⟩ (.bool true)):=by refine⟨⟨?_,aO h.lH (fun g q=>b6 _ _ _ _ (by have:=(h.lH.lt g q).1;omega)),aO h.lh (fun g q=>b6 _ _ _ _ (by have:=(h.lh.lt g q).1;omega)),h.apart⟩,rfl,rfl,rfl,by rw[fj];exact Qw,fun k _ hr=>b6 _ _ _ _ (fun e=>hr (ay e)),fun _ q=>ay q⟩;have:=bB h.blk 2 (.bool true);simpa using this
end Go.Proofs.YthfjnfcekeknlabGreatDoor
namespace af
def bE (ns:List (List UInt8)) (xs:List dq):List (List UInt8):=xs.foldl bU ns
theorem Fw {α:Type} {F:List (List UInt8)->α->List (List UInt8)} {c:Nat} (xs:List α):(∀t∈xs,∀ns,∃M,F ns t=ns++M/\M.length<=c)->∀ns,∃M,xs.foldl F ns=ns++M/\M.length<=xs.length*c:=by
 induction xs with
 | nil=>exact fun _ ns=>⟨[],by simp,by simp⟩
 | cons t ts ih=>intro h ns;obtain⟨M,hM,hl⟩:=h t (by simp) ns;obtain⟨M2,hM2,hl2⟩:=ih (fun u hu=>h u (by simp[hu])) (F ns t);refine⟨M++M2,by rw[bF,hM2,hM,aK],?_⟩;rw[au,aT,d9];omega
theorem qE (xs:List dq) (h:∀x∈xs,Ot x) (ns:List (List UInt8)):∃M,xs.foldl bU ns=ns++M/\M.length<=xs.length*20000:=
 Fw (F:=bU) (c:=20000) xs (fun t ht=>sS t (h t ht)) ns
