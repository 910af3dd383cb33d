import Derived.Test.YthfjnfcekeknlaaGreatDoorMe02
import Derived.Maps.AppendAt
import Derived.Deep.AppendLies
import Derived.Deep.LoopGhost
import Derived.Deep.RegionHeld3
import Derived.Deep.RegionLaw
set_option maxHeartbeats 8000000
set_option maxRecDepth 100000
namespace Go.Proofs.YthfjnfcekeknlaaGreatDoor
open Go.RowKit
theorem Tryz.info9:(Tryz.prog.info? 9).map (fun i=>(i.zero,i.size,i.bytes))=some (some (.string ⟨#[]⟩),1,16):=by kernel_rfl
theorem DG (g:ByteArray) (w:World) (hg:g.size≤6):Calls Tryz.prog 131 #[.string g] w fun e w'=>e= .returned (.int .i64 (Zc.numOf g:Int))∧w'=w:=by
 go_enter Tryz.func131,Tryz.ntmps131
 go_wp2
 go_loop [3,4] (fun v i=>∃(k:Nat),k≤g.size∧i= .int .i64 k∧v= .int .i64 (Zc.lU (g.toList.take k):Int)) (fun _ i=>g.size - (intOf i).toNat)
 case atStart=>exact⟨0,by omega,rfl,rfl⟩
 case round=>
  obtain⟨k,hk,rfl,rfl⟩:=hrel
  by_cases hlt:k<g.size
  ·go_wp2
   go_round
   case rel=>
    refine⟨k+1,by omega,by go_num,?_⟩
    rw[Kq hlt]
    have hb:=Zc.D2 (g.toList.take k) (by simp;omega)
    generalize Zc.lU (g.toList.take k)=v at*
    have hc:g[k].toNat<256:=g[k].toNat_lt
    generalize g[k].toNat=c at*
    congr 1
    unfold wrap64
    omega
   case measure=>simp[intOf];omega
  ·go_wp2
   go_ret
   obtain rfl:k=g.size:=by omega
   exact⟨by rw[N7];rfl,rfl⟩
theorem xw {w w1:World} {rb:Nat} {s:ByteArray} {l:List Zc.aj} {ns:List ByteArray} {nv:Value} {e0:Int} {o:Obj} (h:St w rb s l ns nv e0) (hg:(w.alloc o).grownBy w1 nv.ownBlock):
 w1.cell? ⟨rb,4,none⟩=some nv∧w1.frozen? ⟨rb,4,none⟩=false:=by
 have hne:some rb≠nv.ownBlock:=fun e=>by have:=(h.own.lt rb e.symm).1;omega
 have hb:=hg.block rb (by simp;have:=h.lt;omega) hne
 exact⟨by rw[World.cell?_of_block (a:=⟨rb,4,none⟩) hb,World.cell?_alloc_past _ _ _ h.lt];exact h.rd.c4,by rw[World.frozen?_of_block (a:=⟨rb,4,none⟩) hb,World.frozen?_alloc_past _ _ _ h.lt];exact h.rd.f4⟩
theorem fp {w:World} {b:Nat} {e:TypeId} {sz:Nat} {v:Value} {n:Nat} {xs:List Value} (h:w.ownsRow b e sz v (n+1) xs):∃g cap,v= .slice (some ⟨g,0,none⟩) (n+1) cap∧cap≤maxLen:=by
 rcases h.2 with⟨_,q⟩ | ⟨g,cap,cur,q,_,_,_,m,_⟩
 ·omega
 ·exact⟨g,cap,q,m⟩
theorem zq {w w1:World} {rb:Nat} {s:ByteArray} {l:List Zc.aj} {ns:List ByteArray} {nv nv':Value} {e0:Int} {g:ByteArray} {o:Obj} (h:St w rb s l ns nv e0) (few:ns.length+l.length<1000)
 (hown:w1.ownsRow (rb+1) 9 1 nv' (ns.length+1) (ns.map Value.string++[.string g])) (hg:(w.alloc o).grownBy w1 nv.ownBlock):
 St (w1.setCell ⟨rb,4,none⟩ nv') rb s l (ns++[g]) nv' e0∧KA rb [rb] w (w1.setCell ⟨rb,4,none⟩ nv'):=by
 have hka:KA rb [rb] w w1:=((KA.refl rb [rb] w).alloc o).grown hg (fun k hk=>by
  have h1:=h.own.lt k hk
  rcases h.own.2 with⟨rfl,_⟩ | ⟨q,cap,cur,rfl,hb,hq,_⟩
  ·simp[Value.ownBlock]at hk
  ·simp[Value.ownBlock]at hk
   subst hk
   refine Or.inr (Or.inr ⟨by omega,?_⟩)
   unfold aP
   rw[Below.heap_alloc _ _ _ h1.2,hq])
 have hne:some rb≠nv.ownBlock:=fun e=>by have:=(h.own.lt rb e.symm).1;omega
 have cell:∀i v,w.cell? ⟨rb,i,none⟩=some v→w1.cell? ⟨rb,i,none⟩=some v:=fun i v q=>by
  rw[World.cell?_of_block (a:=⟨rb,i,none⟩) (hg.block rb (by simp;have:=h.lt;omega) hne),World.cell?_alloc_past _ _ _ h.lt];exact q
 have fro:∀i,w.frozen? ⟨rb,i,none⟩=false→w1.frozen? ⟨rb,i,none⟩=false:=fun i q=>by
  rw[World.frozen?_of_block (a:=⟨rb,i,none⟩) (hg.block rb (by simp;have:=h.lt;omega) hne),World.frozen?_alloc_past _ _ _ h.lt];exact q
 have z:rb≠0:=by have:=h.pos;omega
 have sg:dN w1:=h.signs.ka hka (by have:=h.lt;omega) (by simp;omega) h.pos
 obtain⟨⟨c0,c1,c2,c3,c4,c5,f1,f2,f3,f4,f5⟩,own,chain,isn,few1,short,signs,pos,lt⟩:=h
 have d0:=cell _ _ c0
 have d1:=cell _ _ c1
 have d2:=cell _ _ c2
 have d3:=cell _ _ c3
 have d4:=cell _ _ c4
 have d5:=cell _ _ c5
 have g1:=fro _ f1
 have g2:=fro _ f2
 have g3:=fro _ f3
 have g4:=fro _ f4
 have g5:=fro _ f5
 refine⟨⟨⟨by go_cell,by go_cell,by go_cell,by go_cell,by go_cell,by go_cell,by go_cell,by go_cell,by go_cell,by go_cell,by go_cell⟩,?_,chain,isn,by simp;omega,short,sg.setCell (by exact z) _,pos,by have:=hka.size;simp;omega⟩,hka.fI (by simp) _⟩
 have:=kM hown 4 nv'
 simpa using this
def Vy (rb:Nat) (s:ByteArray) (l:List Zc.aj) (ns:List ByteArray) (g:ByteArray) (e0:Int) (w:World) (e:Ending) (w':World):Prop:=∃(ns':List ByteArray) (nv':Value),e= .returned (.int .i64 ((aT ns).idxOf g.toList:Int))∧aT ns'=Zc.dK (aT ns) g.toList∧St w' rb s l ns' nv' e0∧KA rb [rb] w w'
theorem Br (w:World) (rb:Nat) (s:ByteArray) (l:List Zc.aj) (ns:List ByteArray) (nv:Value) (e0:Int) (g:ByteArray) (h:St w rb s l ns nv e0) (few:ns.length+l.length<1000):
 Calls Tryz.prog 130 #[.pointer (some ⟨rb,0,none⟩),.string g] w fun e w'=>Vy rb s l ns g e0 w e w':=by
 have H:=af h
 obtain⟨i0,hi,hz0,hz1,hz2⟩:=info_parts Tryz.info9
 have pT:ns.length≤1000:=by have:=h.few;omega
 rcases h.own.2 with⟨gR,cI⟩ | ⟨q,cap,cur,gR,hb,hq,KH,hmx,_⟩
 ·subst gR
  obtain rfl:ns=[]:=List.length_eq_zero_iff.1 cI
  have hown:=h.own
  obtain⟨⟨c0,c1,c2,c3,c4,c5,f1,f2,f3,f4,f5⟩,own,chain,isn,few1,short,signs,pos,lt⟩:=h
  clear own chain isn few1 short signs
  go_enter Tryz.func130,Tryz.ntmps130
  go_wp2
  refine wp_loop_rounds 1 ?_
  rw[rounds_succ]
  go_wp2_with (first | (at_builtin;refine wpList_append_own _ rfl (.tmp 26) (.tmp 28) 29 rfl (rb+1) 9 i0 (.string ⟨#[]⟩) 1 16 Tryz.underlying29 hi hz0 hz1 hz2 rfl (by decide) _ 0 [] rfl (hown.alloc _) ⟨w.heap.size,0,none⟩ 1 1 [.string g] rfl rfl (by intro j u hj;match j,hj with | 0,hj=>simp at hj;subst hj;simp[Addr.add]) (by intro u hu;simp at hu;subst hu;rfl) (by unfold maxLen;omega) (by omega) (by simp;omega) ?_;intro v' w1 hown' hgrow _;have R:=af (zq (ae H) few hown' hgrow);obtain⟨d4,x4⟩:=xw (ae H) hgrow;obtain⟨g',cap',hv,hcm⟩:=fp hown';rw[hv]at R⊢;clear hown' hgrow hv))
  go_ret
  exact⟨_,_,rfl,by simp[aT,Zc.dK],(ae R).1,(ae R).2⟩
 ·subst gR
  have hown:=h.own
  have hcell:=af (fun k (hk:k<ns.length)=>(h.own.cellAt k (by omega)))
  obtain⟨⟨c0,c1,c2,c3,c4,c5,f1,f2,f3,f4,f5⟩,own,chain,isn,few1,short,signs,pos,lt⟩:=h
  clear own chain isn few1 short signs hq
  go_enter Tryz.func130,Tryz.ntmps130
  go_wp2
  go_loop [12] (fun v=>∃k:Nat,k≤ns.length∧v= .int .i64 k∧∀m (hm:m<ns.length),m<k→ns[m].toList≠g.toList) (fun v=>ns.length - (intOf v).toNat)
  case atStart=>exact⟨0,by omega,rfl,fun m _ q=>by omega⟩
  case round=>
   obtain⟨k,hk,rfl,hno⟩:=hrel
   have gS:=af hno
   clear hno
   by_cases hlt:k<ns.length
   ·have hc:w.cell? ⟨q,k,none⟩=some (.string ns[k]):=by rw[ae hcell k hlt];simp[hlt]
    cases he:(ns[k].toList == g.toList)
    ·go_wp2_with fail
     go_round
     case rel=>exact⟨k+1,by omega,by go_num,fun m hm q=>by
      by_cases sZ:m=k
      ·subst sZ;simpa using he
      ·exact ae gS m hm (by omega)⟩
     case measure=>simp[intOf];omega
    ·go_wp2_with fail
     go_ret
     exact⟨ns,_,by rw[Og hlt (by simpa using he) (ae gS)];rfl,(PG hlt (by simpa using he)).symm,ae H,KA.refl _ _ _⟩
   ·go_wp2_with (first | (at_builtin;refine wpList_append_own _ rfl (.tmp 26) (.tmp 28) 29 rfl (rb+1) 9 i0 (.string ⟨#[]⟩) 1 16 Tryz.underlying29 hi hz0 hz1 hz2 rfl (by decide) _ ns.length _ rfl (hown.alloc _) ⟨w.heap.size,0,none⟩ 1 1 [.string g] rfl rfl (by intro j u hj;match j,hj with | 0,hj=>simp at hj;subst hj;simp[Addr.add]) (by intro u hu;simp at hu;subst hu;rfl) (by unfold maxLen;omega) (by omega) (by simp;omega) ?_;intro v' w1 hown' hgrow _;have R:=af (zq (ae H) few hown' hgrow);obtain⟨d4,x4⟩:=xw (ae H) hgrow;obtain⟨g',cap',hv,hcm⟩:=fp hown';rw[hv]at R⊢;clear hown' hgrow hv))
    go_ret
    obtain⟨q1,q2⟩:=Oi (Oh fun m hm=>ae gS m hm (by omega))
    exact⟨_,_,by rw[q2];simp,q1,(ae R).1,(ae R).2⟩
def pU (f rb:Nat) (s:ByteArray) (ns:List ByteArray) (r:Zc.dR Zc.Tm) (w:World) (e:Ending) (w':World):Prop:=match r with
 | .inl (er,pos)=>∃(k val:Int) (tx:ByteArray) (ao:Option Addr) (n cap:Nat) (l':List Zc.aj) (ns':List ByteArray) (nv':Value),
  e= .returned (.tuple #[.agg #[.int .i64 k,.int .i64 val,.string tx,.slice ao n cap],.bool false])∧St w' rb s l' ns' nv' (er:Int)∧(Zc.hd l').pos=pos∧KA rb [rb] w w'
 | .inr (t,l1)=>∃(val:Int) (tx:ByteArray) (ao:Option Addr) (cap:Nat) (ns':List ByteArray) (nv':Value) (e':Int),
  e= .returned (.tuple #[.agg #[.int .i64 (ak t.kind),.int .i64 val,.string tx,.slice ao t.args.length cap],.bool true])∧TA f ns ns' w w' val tx ao cap t∧St w' rb s l1 ns' nv' e'∧KA rb [rb] w w'
def uO (f rb:Nat) (s:ByteArray) (ns:List ByteArray) (r:Zc.dR (List Zc.Tm)) (w:World) (e:Ending) (w':World):Prop:=match r with
 | .inl (er,pos)=>∃(l':List Zc.aj) (ns':List ByteArray) (nv':Value) (ao:Option Addr) (n cap:Nat),
  e= .returned (.tuple #[.slice ao n cap,.bool false])∧St w' rb s l' ns' nv' (er:Int)∧(Zc.hd l').pos=pos∧KA rb [rb] w w'
 | .inr (ts,l1)=>∃(ao:Option Addr) (cap:Nat) (ns':List ByteArray) (nv':Value) (e':Int),
  e= .returned (.tuple #[.slice ao ts.length cap,.bool true])∧AA f ns ns' w w' ao ts∧St w' rb s l1 ns' nv' e'∧KA rb [rb] w w'
def jS (f:Nat) (l:List Zc.aj):Zc.dR (List Zc.Tm):=if Zc.sees l [40]=true then Zc.bL (Zc.term f) 2 l.tail else .inr ([],l)
def rG (f:Nat):Prop:=∀(w:World) (rb:Nat) (s:ByteArray) (l:List Zc.aj) (ns:List ByteArray) (nv:Value) (e0:Int) (d:Nat),f+d=9→St w rb s l ns nv e0→
 Calls Tryz.prog 75 #[.pointer (some ⟨rb,0,none⟩),.int .i64 (d:Int)] w fun e w'=>pU f rb s ns (Zc.term f l) w e w'
def wm (f:Nat):Prop:=∀(w:World) (rb:Nat) (s:ByteArray) (l:List Zc.aj) (ns:List ByteArray) (nv:Value) (e0:Int) (d:Nat),f+d=9→St w rb s l ns nv e0→
 Calls Tryz.prog 132 #[.pointer (some ⟨rb,0,none⟩),.int .i64 (d:Int)] w fun e w'=>uO f rb s ns (jS f l) w e w'
theorem Hf (l:List Zc.aj):Zc.term 0 l=Zc.bad (eh 9 (Zc.hd l)) l:=by
 unfold Zc.term eh
 by_cases h:Zc.dw (Zc.hd l)=true
 ·rw[if_pos h,if_pos h,if_pos (by omega)]
 ·rw[if_neg h,if_neg h]
theorem Ti (t:Zc.aj):eh 9 t≠0:=by unfold eh;split<;>(try rw[if_pos (by omega)])<;>omega
theorem KI {f d:Nat} {l:List Zc.aj} (hd:d≤8) (h:eh d (Zc.hd l)≠0):Zc.term (f+1) l=Zc.bad (eh d (Zc.hd l)) l:=by
 unfold Zc.term eh at*
 by_cases hb:Zc.dw (Zc.hd l)=true
 ·rw[if_pos hb]at h⊢
  rw[if_pos hb]
  by_cases hc:(Zc.hd l).kind=4∧6<(Zc.hd l).text.size
  ·rw[if_pos hc,if_pos (Or.inl hc)]
  ·rw[if_neg (by omega)]at h;exact absurd rfl h
 ·rw[if_neg hb,if_neg hb]
theorem Hg {f d:Nat} {l:List Zc.aj} (_h:eh d (Zc.hd l)=0) (hk:(Zc.hd l).kind=2):Zc.term (f+1) l=match jS f l.tail with
 | .inl e=> .inl e
 | .inr (ts,l2)=> .inr (⟨2,(Zc.hd l).text,ts⟩,l2):=by
 have hb:Zc.dw (Zc.hd l)=true:=by simp[Zc.dw,hk]
 rw[Zc.term,if_pos hb,if_neg (by omega),if_pos hk]
 unfold jS
 by_cases hs:Zc.sees l.tail [40]=true
 ·rw[if_pos hs,if_pos hs]
  rcases Zc.bL (Zc.term f) 2 l.tail.tail with e | ⟨ts,l2⟩<;>rfl
 ·rw[if_neg hs,if_neg hs]
theorem zt {f d:Nat} {l:List Zc.aj} (h:eh d (Zc.hd l)=0) (hk:(Zc.hd l).kind=3∨(Zc.hd l).kind=4):Zc.term (f+1) l= .inr (⟨(Zc.hd l).kind,(Zc.hd l).text,[]⟩,l.tail):=by
 have hb:Zc.dw (Zc.hd l)=true:=by rcases hk with e | e<;>simp[Zc.dw,e]
 unfold eh at h
 rw[if_pos hb]at h
 have hc:¬((Zc.hd l).kind=4∧6<(Zc.hd l).text.size):=fun q=>by rw[if_pos (Or.inl q)]at h;omega
 rw[Zc.term,if_pos hb,if_neg hc,if_neg (by omega)]
theorem Hh {d:Nat} {t:Zc.aj} (h:eh d t=0):t.kind=2∨t.kind=3∨t.kind=4:=by
 unfold eh at h
 by_cases hb:Zc.dw t=true
 ·simpa [Zc.dw,or_assoc] using hb
 ·rw[if_neg hb]at h;omega
theorem KA.loc {rb:Nat} {W w:World} (hk:KA rb [rb] W w) {b i:Nat} {v:Value} (hc:W.cell? ⟨b,i,none⟩=some v) (hb:b<W.heap.size) (hne:b≠rb) (ht:aP W b≠some 9):w.cell? ⟨b,i,none⟩=some v:=
 (hk.cell (p:=⟨b,i,none⟩) hb (by simpa using hne) (Or.inr ht)).trans hc
theorem KA.Fx {rb:Nat} {W w:World} (hk:KA rb [rb] W w) {b i:Nat} (hc:W.frozen? ⟨b,i,none⟩=false) (hb:b<W.heap.size) (hne:b≠rb) (ht:aP W b≠some 9):w.frozen? ⟨b,i,none⟩=false:=
 (hk.frozen (p:=⟨b,i,none⟩) hb (by simpa using hne) (Or.inr ht)).trans hc
def boxR:Obj:= .cells #[.int .i64 0,.int .i64 0,.string ⟨#[]⟩,.slice none 0 0] 76
def kD (t:Zc.aj):Obj:= .cells #[.int .i64 (t.kind:Int),.int .i64 (t.pos:Int),.string t.text] 70
structure Tj (w:World) (n:Nat) (t:Zc.aj):Prop where
 r0:w.cell? ⟨n,0,none⟩=some (.int .i64 0)
 r1:w.cell? ⟨n,1,none⟩=some (.int .i64 0)
 r2:w.cell? ⟨n,2,none⟩=some (.string ⟨#[]⟩)
 r3:w.cell? ⟨n,3,none⟩=some (.slice none 0 0)
 x0:w.frozen? ⟨n,0,none⟩=false
 x1:w.frozen? ⟨n,1,none⟩=false
 x2:w.frozen? ⟨n,2,none⟩=false
 x3:w.frozen? ⟨n,3,none⟩=false
 t0:w.cell? ⟨n+1,0,none⟩=some (.int .i64 (t.kind:Int))
 t2:w.cell? ⟨n+1,2,none⟩=some (.string t.text)
theorem boxes {rb:Nat} {w w1:World} {t:Zc.aj} (hlt:rb<w.heap.size) (hk:KA rb [rb] ((w.alloc boxR).alloc (kD t)) w1):Tj w1 w.heap.size t:=by
 have ty0:aP ((w.alloc boxR).alloc (kD t)) w.heap.size≠some 9:=by
  unfold aP;rw[Below.heap_alloc _ _ _ (by simp),heap_alloc_new];simp[boxR]
 have ty1:aP ((w.alloc boxR).alloc (kD t)) (w.heap.size+1)≠some 9:=by
  unfold aP
  have:=heap_alloc_new (w.alloc boxR) (kD t)
  rw[World.size_alloc]at this
  rw[this];simp[kD]
 refine⟨hk.loc ?_ ?_ ?_ ty0,hk.loc ?_ ?_ ?_ ty0,hk.loc ?_ ?_ ?_ ty0,hk.loc ?_ ?_ ?_ ty0,hk.Fx ?_ ?_ ?_ ty0,hk.Fx ?_ ?_ ?_ ty0,hk.Fx ?_ ?_ ?_ ty0,hk.Fx ?_ ?_ ?_ ty0,hk.loc ?_ ?_ ?_ ty1,hk.loc ?_ ?_ ?_ ty1⟩
 all_goals first | (simp;done) | omega | (simp;omega) | (simp[boxR,kD];done)
theorem gT (w:World) (a:Addr) (v:Value) (k:Nat):aP (w.setCell a v) k=aP w k:=by
 unfold aP World.setCell
 simp only[Array.getElem?_modify]
 by_cases h:a.block=k
 ·rw[if_pos h]
  cases hq:w.heap[k]? with
  | none=>rfl
  | some o=>cases o<;>rfl
 ·rw[if_neg h]
theorem KA.ty {b:Nat} {X:List Nat} {w w':World} (h:KA b X w w') {k:Nat} (hk:k<w.heap.size) (hX:k∉X) (ht:aP w k≠some 9):aP w' k=aP w k:=by
 unfold aP;rw[h.block k hk hX (Or.inr ht)]
theorem St.xA {w:World} {rb:Nat} {s:ByteArray} {l:List Zc.aj} {ns:List ByteArray} {nv:Value} {e:Int} (h:St w rb s l ns nv e) {b:Nat} (hb:b≠rb) (h0:b≠0) (ht:aP w b≠some 9) (i:Nat) (v:Value):St (w.setCell ⟨b,i,none⟩ v) rb s l ns nv e:=by
 have k:∀q,q≠b→(w.setCell ⟨b,i,none⟩ v).heap[q]?=w.heap[q]?:=fun q hq=>Below.heap_setCell _ _ _ _ hq
 have c:∀o,(w.setCell ⟨b,i,none⟩ v).cell? ⟨rb,o,none⟩=w.cell? ⟨rb,o,none⟩:=fun o=>World.cell?_of_block (k rb (Ne.symm hb))
 have f:∀o,(w.setCell ⟨b,i,none⟩ v).frozen? ⟨rb,o,none⟩=w.frozen? ⟨rb,o,none⟩:=fun o=>World.frozen?_of_block (k rb (Ne.symm hb))
 obtain⟨⟨c0,c1,c2,c3,c4,c5,f1,f2,f3,f4,f5⟩,own,chain,isn,few,short,signs,pos,lt⟩:=h
 refine⟨⟨(c 0).trans c0,(c 1).trans c1,(c 2).trans c2,(c 3).trans c3,(c 4).trans c4,(c 5).trans c5,(f 1).trans f1,(f 2).trans f2,(f 3).trans f3,(f 4).trans f4,(f 5).trans f5⟩,⟨own.1,?_⟩,chain,isn,few,short,signs.setCell h0 _,pos,by simpa using lt⟩
 rcases own.2 with q | ⟨g,cap,cur,a,b',c',d⟩
 ·exact Or.inl q
 ·refine Or.inr ⟨g,cap,cur,a,b',?_,d⟩
  rw[k g (fun e=>ht (by rw[←e];unfold aP;rw[c']))]
  exact c'
theorem qR {w w1:World} {rb:Nat} {s:ByteArray} {l':List Zc.aj} {ns:List ByteArray} {nv:Value} {e:Int} {t:Zc.aj} (hk:KA rb [rb] ((w.alloc boxR).alloc (kD t)) w1) (h:St w1 rb s l' ns nv e) (hlt:rb<w.heap.size) (v0 v1 v2 v3:Value):
 St ((((w1.setCell ⟨w.heap.size,0,none⟩ v0).setCell ⟨w.heap.size,1,none⟩ v1).setCell ⟨w.heap.size,2,none⟩ v2).setCell ⟨w.heap.size,3,none⟩ v3) rb s l' ns nv e∧
 KA rb [rb] w ((((w1.setCell ⟨w.heap.size,0,none⟩ v0).setCell ⟨w.heap.size,1,none⟩ v1).setCell ⟨w.heap.size,2,none⟩ v2).setCell ⟨w.heap.size,3,none⟩ v3):=by
 have ty0:aP ((w.alloc boxR).alloc (kD t)) w.heap.size=some 76:=by
  unfold aP;rw[Below.heap_alloc _ _ _ (by simp),heap_alloc_new];simp[boxR]
 have ne:w.heap.size≠rb:=by omega
 have n0:w.heap.size≠0:=by omega
 have ty1:aP w1 w.heap.size≠some 9:=by
  rw[hk.ty (by simp;omega) (by simpa using ne) (by rw[ty0];simp),ty0];simp
 have base:KA rb [rb] w w1:=(((KA.refl rb [rb] w).alloc _).alloc _).trans hk
 refine⟨?_,(((base.xt (Nat.le_refl _) _).xt (Nat.le_refl _) _).xt (Nat.le_refl _) _).xt (Nat.le_refl _) _⟩
 have a1:=h.xA ne n0 ty1 0 v0
 have a2:=a1.xA ne n0 (by rw[gT];exact ty1) 1 v1
 have a3:=a2.xA ne n0 (by rw[gT,gT];exact ty1) 2 v2
 exact a3.xA ne n0 (by rw[gT,gT,gT];exact ty1) 3 v3
theorem Eb (w:World) (rb:Nat) (s:ByteArray) (l:List Zc.aj) (ns:List ByteArray) (nv:Value) (e0:Int) (f d:Nat) (h:St w rb s l ns nv e0) (hm:eh d (Zc.hd l)≠0):
 Calls Tryz.prog 75 #[.pointer (some ⟨rb,0,none⟩),.int .i64 (d:Int)] w fun e w'=>pU f rb s ns (Zc.bad (eh d (Zc.hd l)) l) w e w':=by
 have hb2:Below w.heap.size w ((w.alloc boxR).alloc (kD (Zc.hd l))):=((Below.refl _ _).alloc (Nat.le_refl _) _).alloc (by simp) _
 have H2:=af (h.below hb2)
 have hlt:=h.lt
 unfold boxR kD at H2
 obtain⟨⟨c0,c1,c2,c3,c4,c5,f1,f2,f3,f4,f5⟩,own,chain,isn,few,short,signs,pos,lt⟩:=h
 clear own chain isn few short signs hb2
 have PK:(eh d (Zc.hd l) == 0)=false:=by simpa using hm
 go_enter Tryz.func75,Tryz.ntmps75
 go_wp2_with (go_at_call 129;refine(jE _ rb s l ns nv e0 d (ae H2)).mono ?_;rintro e w1 ⟨rfl,hs,hk⟩;rw[if_neg hm]at hs;obtain⟨r0,r1,r2,r3,x0,x1,x2,x3,t0,t2⟩:=boxes hlt hk;have HS:=af hs;have HK:=af hk;clear hs hk)
 have R:=qR (ae HK) (ae HS) hlt (.int .i64 0) (.int .i64 0) (.string ⟨#[]⟩) (.slice none 0 0)
 refine bodyPost_ret (v:= .tuple #[.agg #[.int .i64 0,.int .i64 0,.string ⟨#[]⟩,.slice none 0 0],.bool false]) (by simp[results,Tryz.results75,go_sem,r0,r1,r2,r3]) rfl ?_
 exact⟨_,_,_,_,_,_,l,ns,nv,rfl,R.1,rfl,R.2⟩
theorem St.Fy {w:World} {rb:Nat} {s:ByteArray} {l:List Zc.aj} {ns:List ByteArray} {nv:Value} {e:Int} (h:St w rb s l ns nv e):(Zc.hd l).text.size≤240:=by obtain⟨p,e⟩:=h.isNext;have h1:=h.short;have h2:=@Zc.sP s p;rw[e];omega
theorem KJ {d:Nat} {t:Zc.aj} (h:eh d t=0) (hk:t.kind=4):t.text.size≤6:=by
 unfold eh at h
 split at h
 ·split at h
  ·cases h
  ·omega
 ·cases h
theorem PL {f:Nat} {ns ns':List ByteArray} {w w':World} {x:ByteArray} {i:Int} (hz:x.size≤240) (hn:aT ns'=Zc.dK (aT ns) x.toList) (hi:i=((aT ns).idxOf x.toList:Int)):TA (f+1) ns ns' w w' i ⟨#[]⟩ none 0 ⟨3,x,[]⟩:=by
 have hm:x.toList∈Zc.dK (aT ns) x.toList:=by
  unfold Zc.dK
  split
  ·assumption
  ·simp
 have hx:=Zc.Kr (aT ns) [] x.toList
 rw[List.append_nil]at hx
 exact⟨RA.one ⟨rfl,rfl,fun _=>⟨by rw[hn];exact hm,by rw[hi,hn];show _=((List.idxOf x.toList _:Nat):Int);rw[hx]⟩,(fun q=>by cases q),(fun q=>by cases q),by simp,hz,by simp⟩ rfl,by rw[hn];simp[Zc.namesF]⟩
theorem PM {f:Nat} {ns:List ByteArray} {w w':World} {x:ByteArray} {i:Int} (hz:x.size≤240) (h6:x.size≤6) (hi:i=(Zc.numOf x:Int)):TA (f+1) ns ns w w' i ⟨#[]⟩ none 0 ⟨4,x,[]⟩:=
 ⟨RA.one ⟨rfl,rfl,(fun q=>by cases q),fun _=>⟨hi,h6,rfl⟩,(fun q=>by cases q),by simp,hz,by simp⟩ rfl,by simp[Zc.namesF]⟩
def TZ (f b:Nat) (ns ns':List ByteArray) (w':World) (ao:Option Addr) (ts:List Zc.Tm):Prop:=
 (ts≠[]→∃(g:Nat) (us:List AV) (cs:Array Value),ao=some ⟨g,0,none⟩∧b<g∧w'.heap[g]?=some (.cells cs 76 (0,0))∧cs.toList.take (us.length*4)=us.flatMap gN∧bO (RA f (aT ns') (fun g=>b<g) w') us ts)∧aT ns'=ts.foldl (Zc.namesF f) (aT ns)∧ts.length≤3
theorem AA.up {f:Nat} {ns ns':List ByteArray} {w0 w w':World} {o1 o2:Obj} {ao:Option Addr} {ts:List Zc.Tm} (h:AA f ns ns' w w' ao ts) (hz:((w0.alloc o1).alloc o2).heap.size≤w.heap.size):TZ f w0.heap.size ns ns' w' ao ts:=by
 have hz':w0.heap.size+2≤w.heap.size:=by simpa using hz
 refine⟨fun q=> ?_,h.nms,h.few⟩
 obtain⟨g,us,cs,h1,h2,h3,h4,h5⟩:=h.rows q
 exact⟨g,us,cs,h1,by omega,h3,h4,h5.imp fun _ _ r=>r.imp fun g hg _=>by omega⟩
theorem Ol {f:Nat} {ns ns':List ByteArray} {w w3:World} {x:ByteArray} {ao:Option Addr} {cap:Nat} {ts:List Zc.Tm} {v0 v1 v2 v3:Value} (hz:x.size≤240) (h:TZ f w.heap.size ns ns' w3 ao ts):
 TA (f+1) ns ns' w ((((w3.setCell ⟨w.heap.size,0,none⟩ v0).setCell ⟨w.heap.size,1,none⟩ v1).setCell ⟨w.heap.size,2,none⟩ v2).setCell ⟨w.heap.size,3,none⟩ v3) 0 x ao cap ⟨2,x,ts⟩:=by
 obtain⟨h1,h2,h3⟩:=h
 refine⟨⟨⟨rfl,rfl,(fun q=>by cases q),(fun q=>by cases q),fun _=>rfl,by simp,hz,h3⟩,fun q=> ?_⟩,by rw[h2];simp[Zc.namesF]⟩
 obtain⟨g,us,cs,e1,e2,e3,e4,e5⟩:=h1 q
 have k:∀(u:World) (o:Nat) (v:Value),(u.setCell ⟨w.heap.size,o,none⟩ v).heap[g]?=u.heap[g]?:=fun u o v=>Below.heap_setCell _ _ _ _ (by show g≠w.heap.size;omega)
 refine⟨g,us,cs,e1,by omega,by rw[k,k,k,k];exact e3,e4,e5.imp fun _ _ r=> ?_⟩
 exact((((r.set (fun g hg=>by omega) 0 v0).set (fun g hg=>by omega) 1 v1).set (fun g hg=>by omega) 2 v2).set (fun g hg=>by omega) 3 v3).imp fun g hg _=>by omega
theorem KL {w:World} {rb:Nat} {s:ByteArray} {l:List Zc.aj} {ns:List ByteArray} {nv:Value} {e:Int} (h:St w rb s l ns nv e):ns.length+l.tail.length<1000:=by
 have:=h.few
 rcases l with _ | ⟨a,r⟩
 ·exact absurd h.chain (by simp[Zc.eo])
 ·simp at this⊢;omega
theorem KM (w:World) (rb:Nat) (s:ByteArray) (l:List Zc.aj) (ns:List ByteArray) (nv:Value) (e0:Int) (d f:Nat) (h:St w rb s l ns nv e0) (hm:eh d (Zc.hd l)=0) (hk3:(Zc.hd l).kind=3):
 Calls Tryz.prog 75 #[.pointer (some ⟨rb,0,none⟩),.int .i64 (d:Int)] w fun e w'=>pU (f+1) rb s ns (Zc.term (f+1) l) w e w':=by
 rw[zt hm (Or.inl hk3),hk3]
 have hb2:Below w.heap.size w ((w.alloc boxR).alloc (kD (Zc.hd l))):=((Below.refl _ _).alloc (Nat.le_refl _) _).alloc (by simp) _
 have H2:=af (h.below hb2)
 have wq:=KL h
 have hlt:=h.lt
 have hz:=h.Fy
 have gp:=af (show (Zc.hd l).kind≠0 by omega)
 unfold boxR kD at H2
 obtain⟨⟨c0,c1,c2,c3,c4,c5,f1,f2,f3,f4,f5⟩,own,chain,isn,few,short,signs,pos,lt⟩:=h
 clear own chain isn few short signs hb2
 have PK:(eh d (Zc.hd l) == 0)=true:=by simpa using hm
 have ez:=af hk3
 clear hk3
 go_enter Tryz.func75,Tryz.ntmps75
 go_wp2_with fail
 refine(jE _ rb s l ns nv e0 d (ae H2)).mono ?_
 rintro e w1 ⟨rfl,hs,hk⟩
 rw[if_pos hm]at hs
 have HS:=af hs
 have HK:=af hk
 clear hs hk
 go_wp2_with fail
 refine(fP _ rb s l ns nv e0 (ae HS) (ae gp)).mono ?_
 rintro e w2 ⟨rfl,hs,hk⟩
 have bZ:=af hs
 have dh:=af ((ae HK).trans hk)
 clear hs hk HS HK
 obtain⟨r0,r1,r2,r3,x0,x1,x2,x3,t0,t2⟩:=boxes hlt (ae dh)
 rw[ae ez]at t0
 go_wp2_with fail
 refine(Br _ rb s l.tail ns nv e0 _ (ae bZ) wq).mono ?_
 rintro e w3 ⟨ns',nv',rfl,kO,hs,hk⟩
 have gW:=af kO
 generalize Hi:(((aT ns).idxOf (Zc.hd l).text.toList:Nat):Int)=i
 have mF:=af Hi
 clear kO Hi
 have eK:=af hs
 have ez:=af ((ae dh).trans hk)
 clear hs hk bZ dh r0 r1 r2 r3 x0 x1 x2 x3 t0 t2
 obtain⟨r0,r1,r2,r3,x0,x1,x2,x3,t0,t2⟩:=boxes hlt (ae ez)
 go_wp2_with fail
 have R:=qR (ae ez) (ae eK) hlt (.int .i64 1) (.int .i64 i) (.string ⟨#[]⟩) (.slice none 0 0)
 refine bodyPost_ret (v:= .tuple #[.agg #[.int .i64 1,.int .i64 i,.string ⟨#[]⟩,.slice none 0 0],.bool true]) (by simp[results,Tryz.results75,go_sem,r0,r1,r2,r3]) rfl ?_
 exact⟨_,_,_,_,ns',nv',e0,rfl,PL hz (ae gW) (ae mF).symm,R.1,R.2⟩
theorem KN (w:World) (rb:Nat) (s:ByteArray) (l:List Zc.aj) (ns:List ByteArray) (nv:Value) (e0:Int) (d f:Nat) (h:St w rb s l ns nv e0) (hm:eh d (Zc.hd l)=0) (hk4:(Zc.hd l).kind=4):
 Calls Tryz.prog 75 #[.pointer (some ⟨rb,0,none⟩),.int .i64 (d:Int)] w fun e w'=>pU (f+1) rb s ns (Zc.term (f+1) l) w e w':=by
 rw[zt hm (Or.inr hk4),hk4]
 have hb2:Below w.heap.size w ((w.alloc boxR).alloc (kD (Zc.hd l))):=((Below.refl _ _).alloc (Nat.le_refl _) _).alloc (by simp) _
 have H2:=af (h.below hb2)
 have hlt:=h.lt
 have hz:=h.Fy
 have zu:=KJ hm hk4
 have gp:=af (show (Zc.hd l).kind≠0 by omega)
 unfold boxR kD at H2
 obtain⟨⟨c0,c1,c2,c3,c4,c5,f1,f2,f3,f4,f5⟩,own,chain,isn,few,short,signs,pos,lt⟩:=h
 clear own chain isn few short signs hb2
 have PK:(eh d (Zc.hd l) == 0)=true:=by simpa using hm
 have j9:=af hk4
 clear hk4
 go_enter Tryz.func75,Tryz.ntmps75
 go_wp2_with fail
 refine(jE _ rb s l ns nv e0 d (ae H2)).mono ?_
 rintro e w1 ⟨rfl,hs,hk⟩
 rw[if_pos hm]at hs
 have HS:=af hs
 have HK:=af hk
 clear hs hk
 go_wp2_with fail
 refine(fP _ rb s l ns nv e0 (ae HS) (ae gp)).mono ?_
 rintro e w2 ⟨rfl,hs,hk⟩
 have bZ:=af hs
 have dh:=af ((ae HK).trans hk)
 clear hs hk HS HK
 obtain⟨r0,r1,r2,r3,x0,x1,x2,x3,t0,t2⟩:=boxes hlt (ae dh)
 rw[ae j9]at t0
 go_wp2_with fail
 refine(DG _ _ zu).mono ?_
 rintro e w3 ⟨rfl,rfl⟩
 generalize Hi:((Zc.numOf (Zc.hd l).text:Nat):Int)=i
 have mF:=af Hi
 clear Hi
 go_wp2_with fail
 have R:=qR (ae dh) (ae bZ) hlt (.int .i64 2) (.int .i64 i) (.string ⟨#[]⟩) (.slice none 0 0)
 refine bodyPost_ret (v:= .tuple #[.agg #[.int .i64 2,.int .i64 i,.string ⟨#[]⟩,.slice none 0 0],.bool true]) (by simp[results,Tryz.results75,go_sem,r0,r1,r2,r3]) rfl ?_
 exact⟨_,_,_,_,ns,nv,e0,rfl,PM hz zu (ae mF).symm,R.1,R.2⟩
theorem KO (f:Nat) (IH:wm f) (w:World) (rb:Nat) (s:ByteArray) (l:List Zc.aj) (ns:List ByteArray) (nv:Value) (e0:Int) (d:Nat) (pV:f+1+d=9) (h:St w rb s l ns nv e0) (hm:eh d (Zc.hd l)=0) (hk2:(Zc.hd l).kind=2):
 Calls Tryz.prog 75 #[.pointer (some ⟨rb,0,none⟩),.int .i64 (d:Int)] w fun e w'=>pU (f+1) rb s ns (Zc.term (f+1) l) w e w':=by
 rw[Hg hm hk2]
 have hb2:Below w.heap.size w ((w.alloc boxR).alloc (kD (Zc.hd l))):=((Below.refl _ _).alloc (Nat.le_refl _) _).alloc (by simp) _
 have H2:=af (h.below hb2)
 have hlt:=h.lt
 have hz:=h.Fy
 have gp:=af (show (Zc.hd l).kind≠0 by omega)
 unfold boxR kD at H2
 have I:=af (fun w (hs:St w rb s l.tail ns nv e0)=>IH w rb s l.tail ns nv e0 (d+1) (by omega) hs)
 generalize jS f l.tail=r at I⊢
 obtain⟨⟨c0,c1,c2,c3,c4,c5,f1,f2,f3,f4,f5⟩,own,chain,isn,few,short,signs,pos,lt⟩:=h
 clear own chain isn few short signs hb2 IH
 have PK:(eh d (Zc.hd l) == 0)=true:=by simpa using hm
 have dh:=af hk2
 clear hk2
 rcases r with⟨er,pos⟩ | ⟨ts,l2⟩
 ·show Calls _ _ _ _ fun e w'=>pU (f+1) rb s ns (.inl (er,pos)) w e w'
  go_enter Tryz.func75,Tryz.ntmps75
  go_wp2_with fail
  refine(jE _ rb s l ns nv e0 d (ae H2)).mono ?_
  rintro e w1 ⟨rfl,hs,hk⟩
  rw[if_pos hm]at hs
  have HS:=af hs
  have HK:=af hk
  clear hs hk
  go_wp2_with fail
  refine(fP _ rb s l ns nv e0 (ae HS) (ae gp)).mono ?_
  rintro e w2 ⟨rfl,hs,hk⟩
  have bZ:=af hs
  have kj:=af ((ae HK).trans hk)
  clear hs hk HS HK
  obtain⟨r0,r1,r2,r3,x0,x1,x2,x3,t0,t2⟩:=boxes hlt (ae kj)
  rw[ae dh]at t0
  go_wp2_with fail
  rw[show ((d:Int)+1)=((d+1:Nat):Int)by omega]
  refine(ae I _ (ae bZ)).mono ?_
  clear r0 r1 r2 r3 x0 x1 x2 x3 t0 t2
  rintro e w3 ⟨l',ns',nv',ao,n,cap,rfl,hs,cm,hk⟩
  have eK:=af hs
  have ez:=af ((ae kj).trans hk)
  have HP:=af cm
  clear hs hk bZ kj cm
  obtain⟨r0,r1,r2,r3,x0,x1,x2,x3,t0,t2⟩:=boxes hlt (ae ez)
  go_wp2_with fail
  have R:=qR (ae ez) (ae eK) hlt (.int .i64 3) (.int .i64 0) (.string (Zc.hd l).text) (.slice ao n cap)
  refine bodyPost_ret (v:= .tuple #[.agg #[.int .i64 3,.int .i64 0,.string (Zc.hd l).text,.slice ao n cap],.bool false]) (by simp[results,Tryz.results75,go_sem,r0,r1,r2,r3]) rfl ?_
  exact⟨_,_,_,_,_,_,l',ns',nv',rfl,R.1,ae HP,R.2⟩
 ·show Calls _ _ _ _ fun e w'=>pU (f+1) rb s ns (.inr (⟨2,(Zc.hd l).text,ts⟩,l2)) w e w'
  go_enter Tryz.func75,Tryz.ntmps75
  go_wp2_with fail
  refine(jE _ rb s l ns nv e0 d (ae H2)).mono ?_
  rintro e w1 ⟨rfl,hs,hk⟩
  rw[if_pos hm]at hs
  have HS:=af hs
  have HK:=af hk
  clear hs hk
  go_wp2_with fail
  refine(fP _ rb s l ns nv e0 (ae HS) (ae gp)).mono ?_
  rintro e w2 ⟨rfl,hs,hk⟩
  have bZ:=af hs
  have kj:=af ((ae HK).trans hk)
  clear hs hk HS HK
  obtain⟨r0,r1,r2,r3,x0,x1,x2,x3,t0,t2⟩:=boxes hlt (ae kj)
  rw[ae dh]at t0
  go_wp2_with fail
  rw[show ((d:Int)+1)=((d+1:Nat):Int)by omega]
  refine(ae I _ (ae bZ)).mono ?_
  clear r0 r1 r2 r3 x0 x1 x2 x3 t0 t2
  rintro e w3 ⟨ao,cap,ns',nv',e',rfl,mG,hs,hk⟩
  have Hj:=af (mG.up (ae kj).size)
  clear mG
  have eK:=af hs
  have ez:=af ((ae kj).trans hk)
  clear hs hk bZ kj
  obtain⟨r0,r1,r2,r3,x0,x1,x2,x3,t0,t2⟩:=boxes hlt (ae ez)
  go_wp2_with fail
  have R:=qR (ae ez) (ae eK) hlt (.int .i64 3) (.int .i64 0) (.string (Zc.hd l).text) (.slice ao ts.length cap)
  refine bodyPost_ret (v:= .tuple #[.agg #[.int .i64 3,.int .i64 0,.string (Zc.hd l).text,.slice ao ts.length cap],.bool true]) (by simp[results,Tryz.results75,go_sem,r0,r1,r2,r3]) rfl ?_
  exact⟨_,_,_,_,ns',nv',e',rfl,Ol hz (ae Hj),R.1,R.2⟩
theorem Hk (f:Nat) (IH:wm f):rG (f+1):=by
 intro w rb s l ns nv e0 d pV h
 by_cases hm:eh d (Zc.hd l)=0
 ·rcases Hh hm with hk | hk | hk
  ·exact KO f IH w rb s l ns nv e0 d pV h hm hk
  ·exact KM w rb s l ns nv e0 d f h hm hk
  ·exact KN w rb s l ns nv e0 d f h hm hk
 ·rw[KI (by omega) hm]
  exact Eb w rb s l ns nv e0 _ d h hm
theorem term_none:rG 0:=by
 intro w rb s l ns nv e0 d pV h
 obtain rfl:d=9:=by omega
 rw[Hf]
 exact Eb w rb s l ns nv e0 0 9 h (Ti _)
theorem Tryz.info76:(Tryz.prog.info? 76).map (fun i=>(i.zero,i.size,i.bytes))=some (some (.agg #[.int .i64 0,.int .i64 0,.string ⟨#[]⟩,.slice none 0 0]),4,56):=by kernel_rfl
theorem td {rb b0:Nat} {w w1:World} {T:TypeId} {sz:Nat} {v:Value} {n:Nat} {xs:List Value} (h:w.ownsRow b0 T sz v n xs) (hk:KA rb [rb] w w1) (hb:rb<b0) (hT:T≠9):w1.ownsRow b0 T sz v n xs:=
 ⟨h.1,h.2.imp id fun⟨g,cap,cur,a,b,c,d⟩=>⟨g,cap,cur,a,b,(hk.block g (Array.getElem?_eq_some_iff.1 c).1 (by simp;omega) (Or.inr (by unfold aP;rw[c];simpa using hT))).trans c,d⟩⟩
theorem St.grown {w w2:World} {rb:Nat} {s:ByteArray} {l:List Zc.aj} {ns:List ByteArray} {nv:Value} {e:Int} {row:Option Nat} (h:St w rb s l ns nv e) (hg:w.grownBy w2 row) (hr:∀k,row=some k→rb<k∧aP w k≠some 9):St w2 rb s l ns nv e:=by
 have k:∀q,q<w.heap.size→some q≠row→w2.heap[q]?=w.heap[q]?:=hg.block
 have mH:=k rb h.lt (fun e=>by have:=(hr rb e.symm).1;omega)
 have h0:=k 0 (by have:=h.lt;omega) (fun e=>by have:=(hr 0 e.symm).1;omega)
 have c:∀o,w2.cell? ⟨rb,o,none⟩=w.cell? ⟨rb,o,none⟩:=fun o=>World.cell?_of_block mH
 have f:∀o,w2.frozen? ⟨rb,o,none⟩=w.frozen? ⟨rb,o,none⟩:=fun o=>World.frozen?_of_block mH
 have z:∀o,w2.cell? ⟨0,o,none⟩=w.cell? ⟨0,o,none⟩:=fun o=>World.cell?_of_block h0
 obtain⟨⟨c0,c1,c2,c3,c4,c5,f1,f2,f3,f4,f5⟩,own,chain,isn,few,short,signs,pos,lt⟩:=h
 refine⟨⟨(c 0).trans c0,(c 1).trans c1,(c 2).trans c2,(c 3).trans c3,(c 4).trans c4,(c 5).trans c5,(f 1).trans f1,(f 2).trans f2,(f 3).trans f3,(f 4).trans f4,(f 5).trans f5⟩,⟨own.1,?_⟩,chain,isn,few,short,⟨(z 0).trans signs.s0,(z 1).trans signs.s1,(z 2).trans signs.s2,(z 3).trans signs.s3,(z 4).trans signs.s4⟩,pos,by have:=hg.size;omega⟩
 rcases own.2 with q | ⟨g,cap,cur,a,b',c',d⟩
 ·exact Or.inl q
 ·refine Or.inr ⟨g,cap,cur,a,b',?_,d⟩
  rw[k g (Array.getElem?_eq_some_iff.1 c').1 (fun e=>(hr g e.symm).2 (by unfold aP;rw[c']))]
  exact c'
def pre (ts:List Zc.Tm) (r:Zc.dR (List Zc.Tm)):Zc.dR (List Zc.Tm):=match r with
 | .inl e=> .inl e
 | .inr (us,l2)=> .inr (ts++us,l2)
theorem Om (r:Zc.dR (List Zc.Tm)):r=pre [] r:=by rcases r with e | ⟨us,l2⟩<;>rfl
theorem KP {p:List Zc.aj→Zc.dR Zc.Tm} {k:Nat} {l:List Zc.aj} {er:Nat×Nat} (h:p l= .inl er):Zc.bL p k l= .inl er:=by
 unfold Zc.bL;rw[h]
theorem KQ {p:List Zc.aj→Zc.dR Zc.Tm} {k:Nat} {l l1:List Zc.aj} {t:Zc.Tm} (h:p l= .inr (t,l1)) (hc:Zc.sees l1 [44]=false):Zc.bL p k l=if Zc.sees l1 [41]=true then .inr ([t],l1.tail)else Zc.bad 2 l1:=by
 unfold Zc.bL;rw[h];simp only[hc];rfl
theorem Hl {p:List Zc.aj→Zc.dR Zc.Tm} {l l1:List Zc.aj} {t:Zc.Tm} (h:p l= .inr (t,l1)) (hc:Zc.sees l1 [44]=true):Zc.bL p 0 l=Zc.bad 3 l1:=by
 unfold Zc.bL;rw[h];simp only[hc];rfl
theorem Hm {p:List Zc.aj→Zc.dR Zc.Tm} {k:Nat} {l l1:List Zc.aj} {t:Zc.Tm} (h:p l= .inr (t,l1)) (hc:Zc.sees l1 [44]=true) (ts:List Zc.Tm):pre ts (Zc.bL p (k+1) l)=pre (ts++[t]) (Zc.bL p k l1.tail):=by
 conv=>lhs;unfold Zc.bL
 rw[h];simp only[hc]
 rcases Zc.bL p k l1.tail with e | ⟨us,l2⟩
 ·rfl
 ·simp[pre]
theorem Bt (W:World) (o:Obj) (a b c d:Value) (T:TypeId):∀j u,([a,b,c,d]:List Value)[j]?=some u→((W.alloc o).alloc (.cells #[a,b,c,d] T)).cell? ((⟨W.heap.size+1,0,none⟩:Addr).add j)=some u:=by
 intro j u hj
 match j,hj with
 | 0,hj=>simp at hj;subst hj;simp[Addr.add]
 | 1,hj=>simp at hj;subst hj;simp[Addr.add]
 | 2,hj=>simp at hj;subst hj;simp[Addr.add]
 | 3,hj=>simp at hj;subst hj;simp[Addr.add]
theorem Bu (a b:Int) (c:ByteArray) (ao:Option Addr) (n cap:Nat):∀u∈([.int .i64 a,.int .i64 b,.string c,.slice ao n cap]:List Value),u.oneCell'=true:=by
 intro u hu;simp at hu;rcases hu with rfl | rfl | rfl | rfl<;>rfl
theorem zv {w w2 w3:World} {rb:Nat} {s:ByteArray} {l:List Zc.aj} {ns:List ByteArray} {nv:Value} {e:Int} {v:Value} {n:Nat} {xs:List Value} {o1 o2:Obj} {T:TypeId} {sz:Nat} (h:St w2 rb s l ns nv e) (hk:KA rb [rb] w w2) (ho:w2.ownsRow w.heap.size T sz v n xs) (hlt:rb<w.heap.size) (hg:((w2.alloc o1).alloc o2).grownBy w3 v.ownBlock) (hT:T≠9:=by decide):
 St w3 rb s l ns nv e∧KA rb [rb] w w3:=by
 have hb:Below w2.heap.size w2 ((w2.alloc o1).alloc o2):=((Below.refl _ _).alloc (Nat.le_refl _) _).alloc (by simp) _
 have PN:∀k,v.ownBlock=some k→aP ((w2.alloc o1).alloc o2) k≠some 9:=fun k gj=>by
  have:=ho.lt k gj
  rcases ho.2 with⟨rfl,_⟩ | ⟨g,cap,cur,rfl,_,c,_⟩
  ·simp[Value.ownBlock]at gj
  ·simp[Value.ownBlock]at gj
   subst gj
   unfold aP;rw[hb.block g this.2,c];simpa using hT
 refine⟨(h.below hb).grown hg (fun k q=>⟨by have:=(ho.lt k q).1;omega,PN k q⟩),((hk.alloc o1).alloc o2).grown hg (fun k q=>Or.inl (ho.lt k q).1)⟩
def iQ (f:Nat) (w:World) (ns0 ns:List ByteArray) (v:Value) (wr:World) (us:List AV) (ts:List Zc.Tm):Prop:=
 bO (RA f (aT ns) (fun g=>w.heap.size≤g∧some g≠v.ownBlock) wr) us ts∧aT ns=ts.foldl (Zc.namesF f) (aT ns0)
theorem iQ.keep {f:Nat} {w:World} {ns0 ns:List ByteArray} {v:Value} {wr w2:World} {us:List AV} {ts:List Zc.Tm} (h:iQ f w ns0 ns v wr us ts) (hk:aN wr w2):iQ f w ns0 ns v w2 us ts:=
 ⟨h.1.imp fun _ _ r=>r.keep fun g cs hp hc hi=>⟨hk g cs hc hi,hp⟩,h.2⟩
theorem iQ.next {f rb:Nat} {w:World} {ns0 ns1 ns2:List ByteArray} {v nv:Value} {wr w2:World} {us:List AV} {ts:List Zc.Tm} {s:ByteArray} {l:List Zc.aj} {e:Int} {T:TypeId} {sz n:Nat} {xs:List Value} {val:Int} {tx:ByteArray} {ao:Option Addr} {cap:Nat} {t:Zc.Tm}
 (h:iQ f w ns0 ns1 v wr us ts) (hs:St wr rb s l ns1 nv e) (hk:KA rb [rb] wr w2) (ho:wr.ownsRow w.heap.size T sz v n xs) (hw:w.heap.size≤wr.heap.size) (ht:TA f ns1 ns2 wr w2 val tx ao cap t):
 iQ f w ns0 ns2 v w2 (us++[⟨ak t.kind,val,tx,ao,t.args.length,cap⟩]) (ts++[t]):=by
 obtain⟨M,hM,_⟩:=Zc.namesF_ext f t ht.rep.nI (aT ns1)
 have he:aT ns2=aT ns1++M:=ht.nms.trans hM
 refine⟨bO.snoc ?_ ?_,by rw[List.foldl_append,←h.2];exact ht.nms⟩
 ·exact ht.rep.imp fun g hg _=>⟨by omega,fun q=>by have:=(ho.lt g q.symm).2;omega⟩
 ·rw[he]
  exact(h.keep (aN.ka hs hk)).1.imp fun _ _ r=>r.more M
theorem iQ.grown {f:Nat} {w:World} {ns0 ns:List ByteArray} {v v':Value} {w2 w3:World} {us:List AV} {ts:List Zc.Tm} {o1 o2:Obj} (h:iQ f w ns0 ns v w2 us ts) (hg:((w2.alloc o1).alloc o2).grownBy w3 v.ownBlock) (hat:v'.ownBlock=v.ownBlock∨v'.ownBlock=some ((w2.alloc o1).alloc o2).heap.size):iQ f w ns0 ns v' w3 us ts:=by
 have hb:Below w2.heap.size w2 ((w2.alloc o1).alloc o2):=((Below.refl _ _).alloc (Nat.le_refl _) _).alloc (by simp) _
 have hz:w2.heap.size≤((w2.alloc o1).alloc o2).heap.size:=hb.size
 refine⟨h.1.imp fun _ _ r=>r.keep fun g cs hp hc hi=> ?_,h.2⟩
 have hlt:g<w2.heap.size:=(Array.getElem?_eq_some_iff.1 hc).1
 refine⟨((hg.block g (by omega) hp.2).trans (hb.block g hlt)).trans hc,hp.1,fun q=> ?_⟩
 rcases hat with a | a
 ·exact hp.2 (q.trans a)
 ·rw[a]at q
  injection q with q
  omega
theorem iQ.done {f:Nat} {w:World} {ns0 ns:List ByteArray} {g cap:Nat} {wr:World} {us:List AV} {ts:List Zc.Tm} (h:iQ f w ns0 ns (.slice (some ⟨g,0,none⟩) ts.length cap) wr us ts) (ho:wr.ownsRow w.heap.size 76 4 (.slice (some ⟨g,0,none⟩) ts.length cap) ts.length (us.flatMap gN)) (h3:ts.length≤3):AA f ns0 ns w wr (some ⟨g,0,none⟩) ts:=by
 refine⟨fun _=> ?_,h.2,h3⟩
 rcases ho.2 with⟨q,_⟩ | ⟨g',cap',cur,q,hb,hc,_,_,_,ht⟩
 ·cases q
 ·simp only[Value.slice.injEq,Option.some.injEq,Addr.mk.injEq,and_true,true_and]at q
  obtain⟨rfl,rfl⟩:=q
  exact⟨g,us,cur,rfl,hb,hc,by rw[h.1.length];exact ht,h.1.imp fun _ _ r=>r.imp fun _ q _=>q.1⟩
def ArgRel (w:World) (rb:Nat) (s:ByteArray) (f:Nat) (l0:List Zc.aj) (ns0:List ByteArray) (v:Value) (wr:World):Prop:=
 ∃(ts:List Zc.Tm) (us:List AV) (l:List Zc.aj) (ns:List ByteArray) (nv:Value) (e:Int),St wr rb s l ns nv e∧wr.ownsRow w.heap.size 76 4 v ts.length (us.flatMap gN)∧ts.length≤2∧
  Zc.bL (Zc.term f) 2 l0=pre ts (Zc.bL (Zc.term f) (2 - ts.length) l)∧KA rb [rb] w wr∧iQ f w ns0 ns v wr us ts
def lenOf:Value→Nat | .slice _ n _=>n | _=>0
theorem Oo {w:World} {b:Nat} {e:TypeId} {sz:Nat} {v:Value} {n:Nat} {xs:List Value} (h:w.ownsRow b e sz v n xs):lenOf v=n:=by
 rcases h.2 with⟨rfl,q⟩ | ⟨g,cap,cur,rfl,_⟩
 ·exact q.symm
 ·rfl
theorem Hn (f:Nat) (IH:rG f):wm f:=by
 intro w rb s l ns nv e0 d pV h
 obtain⟨i0,hi,hz0,hz1,hz2⟩:=info_parts Tryz.info76
 have H:=af h
 have hlt:=h.lt
 cases hs0:Zc.sees l [40]
 ·have HO:=af (show jS f l= .inr ([],l)by unfold jS;rw[hs0];rfl)
  go_enter Tryz.func132,Tryz.ntmps132
  go_wp2_with (go_at_call 76;refine(bC _ rb s l ns nv e0 _ (ae H)).mono ?_;rintro e w1 ⟨rfl,rfl⟩;simp only[ByteArray.toList_mk])
  go_ret2
  refine(?_:uO f rb s ns (jS f l) w1 _ _)
  rw[ae HO]
  exact⟨none,0,ns,nv,e0,rfl,⟨fun q=>absurd rfl q,rfl,by simp⟩,ae H,KA.refl _ _ _⟩
 ·have HO:=af (show jS f l=Zc.bL (Zc.term f) 2 l.tail by unfold jS;rw[hs0];rfl)
  have gp:=af (show (Zc.hd l).kind≠0 by rw[Zc.cV hs0];omega)
  rw[ae HO]
  clear HO
  go_enter Tryz.func132,Tryz.ntmps132
  go_wp2_with fail
  refine(bC _ rb s l ns nv e0 _ (ae H)).mono ?_
  rintro e w1 ⟨rfl,hw⟩
  rw[hw]
  simp only[ByteArray.toList_mk]
  rw[hs0]
  clear hw w1
  go_wp2_with fail
  refine(fP _ rb s l ns nv e0 (ae H) (ae gp)).mono ?_
  rintro e w1 ⟨rfl,hs1,ft⟩
  have bE:=af hs1
  have cZ:=af ft
  clear hs1 ft
  go_wp2_with fail
  go_loopw [6] (fun v wr=>ArgRel w rb s f l.tail ns v wr) (fun v _=>2 - lenOf v)
  case atStart=>exact⟨[],[],l.tail,ns,nv,e0,ae bE,World.ownsRow_nil _ _ _ _,by simp,Om _,ae cZ,trivial,rfl⟩
  case round=>
   obtain⟨ts,us,l1,ns1,nv1,e1,hst,hown,su,Bv,hka,PO⟩:=hrel
   have Vz:=af PO
   have HST:=af hst
   have mV:=af hown
   have HLEN:=af (Oo hown)
   have Fz:=af Bv
   have Bw:=af hka
   clear hst hown Bv hka PO
   have I:=af (IH wr rb s l1 ns1 nv1 e1 d pV (ae HST))
   generalize hr:Zc.term f l1=r at I
   have HR:=af hr
   clear hr
   rcases r with⟨er,pos⟩ | ⟨t,l2⟩
   ·have HF:Hid (Zc.bL (Zc.term f) 2 l.tail= .inl (er,pos)):=(ae Fz).trans (by rw[KP (ae HR)];rfl)
    go_wp2_with fail
    refine(ae I).mono ?_
    rintro e w2 ⟨k,val,tx,ao,n,cap,l',ns',nv',rfl,hs2,cm,hk2⟩
    have bZ:=af hs2
    have HP:=af cm
    have dh:=af ((ae Bw).trans hk2)
    clear hs2 cm hk2
    go_wp2_with fail
    go_ret2
    refine(?_:uO f rb s ns _ w _ _)
    rw[ae HF]
    exact⟨l',ns',nv',none,0,0,rfl,(ae bZ).below ((Below.refl _ _).alloc (Nat.le_refl _) _),ae HP,(ae dh).alloc _⟩
   ·go_wp2_with fail
    refine(ae I).mono ?_
    rintro e w2 ⟨val,tx,ao,cap,ns2,nv2,e2,rfl,bj,hs2,hk2⟩
    have Tl:=af ((ae Vz).next (ae HST) hk2 (ae mV) (ae Bw).size bj)
    have bZ:=af hs2
    have vG:=af (td (ae mV) hk2 hlt (by decide))
    have dh:=af ((ae Bw).trans hk2)
    have KR:w.heap.size≤w2.heap.size:=(ae dh).size
    clear hs2 hk2 bj
    go_wp2_with (first | (at_builtin;refine wpList_append_own_at _ rfl (.tmp 23) (.tmp 25) 74 rfl w.heap.size 76 i0 (.agg #[.int .i64 0,.int .i64 0,.string ⟨#[]⟩,.slice none 0 0]) 4 56 Tryz.underlying74 hi hz0 hz1 hz2 rfl (by decide) _ ts.length (us.flatMap gN) rfl (((ae vG).alloc _).alloc _) ⟨w2.heap.size+1,0,none⟩ 1 1 [.int .i64 (ak t.kind),.int .i64 val,.string tx,.slice ao t.args.length cap] rfl rfl (Bt _ _ _ _ _ _ _) (Bu _ _ _ _ _ _) (by unfold maxLen;omega) (by omega) (by simp;omega) ?_;intro v' w3 hown' hgrow _ hat;have FC:=af ((ae Tl).grown hgrow hat);clear hat;have FD:=af hown';have R3:=af (zv (ae bZ) (ae dh) (ae vG) hlt hgrow);obtain⟨g',cap',hv,hcm⟩:=fp hown';rw[hv]at FD FC⊢;clear hown' hgrow hv))
    have eK:=af (ae R3).1
    have ez:=af (ae R3).2
    clear R3
    cases hc:Zc.sees l2 [44]
    ·have HF:=af ((ae Fz).trans (by rw[KQ (ae HR) hc]))
     refine(bC _ rb s l2 ns2 nv2 e2 _ (ae eK)).mono ?_
     rintro e w4 ⟨rfl,hw⟩
     rw[hw]
     simp only[ByteArray.toList_mk]
     rw[hc]
     clear hw w4
     go_wp2_with fail
     refine(bC _ rb s l2 ns2 nv2 e2 _ (ae eK)).mono ?_
     rintro e w4 ⟨rfl,hw⟩
     rw[hw]
     simp only[ByteArray.toList_mk]
     clear hw w4
     cases hb:Zc.sees l2 [41]
     ·rw[hb]at HF
      go_wp2_with fail
      refine(dI _ rb s l2 ns2 nv2 e2 false (ae eK) (fun q=>by cases q)).mono ?_
      rintro e w4 ⟨rfl,nL,hk4⟩
      have iR:=af nL
      have j9:=af ((ae ez).trans hk4)
      clear nL hk4
      go_wp2_with fail
      go_ret2
      refine(?_:uO f rb s ns _ w _ _)
      rw[ae HF]
      exact⟨l2,ns2,nv2,_,_,_,rfl,ae iR,rfl,ae j9⟩
     ·rw[hb]at HF
      have bU:=af (show (Zc.hd l2).kind≠0 by rw[Zc.cV hb];omega)
      go_wp2_with fail
      refine(dI _ rb s l2 ns2 nv2 e2 true (ae eK) (fun _=>ae bU)).mono ?_
      rintro e w4 ⟨rfl,nL,hk4⟩
      have Bx:=af (aN.ka (ae eK) hk4)
      have PR:=af (td (ae FD) hk4 hlt (by decide))
      have iR:=af nL
      have j9:=af ((ae ez).trans hk4)
      clear nL hk4
      go_wp2_with fail
      go_ret2
      refine(?_:uO f rb s ns _ w _ _)
      rw[ae HF]
      exact⟨some ⟨g',0,none⟩,cap',ns2,nv2,e2,by simp,iQ.done (by simpa using (ae FC).keep (ae Bx)) (by simpa [gN] using ae PR) (by simp;omega),ae iR,ae j9⟩
    ·have bU:=af (show (Zc.hd l2).kind≠0 by rw[Zc.cV hc];omega)
     refine(bC _ rb s l2 ns2 nv2 e2 _ (ae eK)).mono ?_
     rintro e w4 ⟨rfl,hw⟩
     rw[hw]
     simp only[ByteArray.toList_mk]
     rw[hc]
     clear hw w4
     go_wp2_with fail
     rw[show ((ts.length:Int)+1)=((ts.length+1:Nat):Int)by omega]
     refine(zi _ rb s l2 ns2 nv2 e2 (ts.length+1) 3 (ae eK) (ae bU)).mono ?_
     by_cases hn:ts.length+1<3
     ·have HF:=af ((ae Fz).trans (by rw[show 2 - ts.length=(2 - (ts.length+1))+1 by omega,Hm (ae HR) hc]))
      rw[if_pos hn,if_pos hn,decide_eq_true hn]
      rintro e w4 ⟨rfl,nL,hk4⟩
      have iR:=af nL
      have Bx:=af (aN.ka (ae eK) hk4)
      have PR:=af (td (ae FD) hk4 hlt (by decide))
      have j9:=af ((ae ez).trans hk4)
      clear nL hk4
      go_wp2_with fail
      go_roundw
      case rel=>exact⟨ts++[t],us++[⟨ak t.kind,val,tx,ao,t.args.length,cap⟩],l2.tail,ns2,nv2,e2,ae iR,by simpa [gN] using ae PR,by simp;omega,by simpa using ae HF,ae j9,(ae FC).keep (ae Bx)⟩
      case measure=>show 2 - (ts.length+1)<2 - lenOf _;rw[ae HLEN];omega
     ·have h0:ts.length=2:=by omega
      have HF:=af ((ae Fz).trans (by rw[show 2 - ts.length=0 by omega,Hl (ae HR) hc]))
      rw[if_neg hn,if_neg hn,decide_eq_false hn]
      rintro e w4 ⟨rfl,nL,hk4⟩
      have iR:=af nL
      have j9:=af ((ae ez).trans hk4)
      clear nL hk4 h0
      go_wp2_with fail
      go_ret2
      refine(?_:uO f rb s ns _ w _ _)
      rw[ae HF]
      exact⟨l2,ns2,nv2,_,_,_,rfl,ae iR,rfl,ae j9⟩
theorem term_all:∀f,rG f
 | 0=>term_none
 | f+1=>Hk f (Hn f (term_all f))
theorem nW {w:World} {b:Nat} {cs:Array Value} {T:TypeId} (h:w.heap[b]?=some (.cells cs T (0,0))) (i:Nat) {v:Value} (hv:cs[i]?=some v):w.cell? ⟨b,i,none⟩=some v:=by
 simp[World.cell?,h,hv]
theorem mW {w:World} {b:Nat} {cs:Array Value} {T:TypeId} (h:w.heap[b]?=some (.cells cs T (0,0))) (i:Nat):w.frozen? ⟨b,i,none⟩=false:=by
 simp[World.frozen?,h]
theorem ah {w:World} {b:Nat} {cs:Array Value} {T:TypeId} (h:w.heap[b]?=some (.cells cs T (0,0))):∀i,w.cell? ⟨b,i,none⟩=cs[i]?:=fun i=>by
 simp[World.cell?,h]
theorem ay {w:World} {b:Nat} {cs:Array Value} {T:TypeId} (h:w.heap[b]?=some (.cells cs T (0,0))):∀i,w.frozen? ⟨b,i,none⟩=false:=fun i=>mW h i
theorem Oq (w:World) (cs:Array Value) (T:TypeId):(w.alloc (.cells cs T)).heap[w.heap.size]?=some (.cells cs T (0,0)):=heap_alloc_new w _
theorem aB {w:World} {b:Nat} {x:Obj} (h:w.heap[b]?=some x) (o:Obj):(w.alloc o).heap[b]?=some x:=by
 rw[Below.heap_alloc _ _ _ (Array.getElem?_eq_some_iff.1 h).1];exact h
theorem aq {w w':World} {rb b:Nat} {X:List Nat} {cs:Array Value} {T:TypeId} (hk:KA rb X w w') (h:w.heap[b]?=some (.cells cs T (0,0))) (hb:b∉X) (hT:T≠9:=by decide):w'.heap[b]?=some (.cells cs T (0,0)):=
 (hk.block b (Array.getElem?_eq_some_iff.1 h).1 hb (Or.inr (by unfold aP;rw[h];simpa using hT))).trans h
theorem ag {w:World} {b:Nat} {x:Obj} (h:w.heap[b]?=some x):b<w.heap.size:=(Array.getElem?_eq_some_iff.1 h).1
structure aD (b:Nat) (w w':World):Prop where
 os:w'.os=w.os
 tape:w'.tape=w.tape
 output:w'.output=w.output
 size:w'.heap.size=w.heap.size
 block:∀k,k≠b→w'.heap[k]?=w.heap[k]?
 ty:∀k,aP w' k=aP w k
theorem aD.refl (b:Nat) (w:World):aD b w w:=⟨rfl,rfl,rfl,rfl,fun _ _=>rfl,fun _=>rfl⟩
theorem aD.set {b:Nat} {a w:World} (h:aD b a w) (i:Nat) (v:Value):aD b a (w.setCell ⟨b,i,none⟩ v):=
 ⟨h.os,h.tape,h.output,by simp[World.setCell];exact h.size,fun k hk=>(Below.heap_setCell _ _ _ _ hk).trans (h.block k hk),fun k=>(gT _ _ _ _).trans (h.ty k)⟩
theorem St.only {w w':World} {rb:Nat} {s:ByteArray} {l:List Zc.aj} {ns:List ByteArray} {nv:Value} {e:Int} {b:Nat} (h:St w rb s l ns nv e) (ho:aD b w w') (hb:b≠rb) (h0:b≠0) (ht:aP w b≠some 9):St w' rb s l ns nv e:=by
 have k:=ho.block
 have c:∀o,w'.cell? ⟨rb,o,none⟩=w.cell? ⟨rb,o,none⟩:=fun o=>World.cell?_of_block (k rb (Ne.symm hb))
 have f:∀o,w'.frozen? ⟨rb,o,none⟩=w.frozen? ⟨rb,o,none⟩:=fun o=>World.frozen?_of_block (k rb (Ne.symm hb))
 have z:∀o,w'.cell? ⟨0,o,none⟩=w.cell? ⟨0,o,none⟩:=fun o=>World.cell?_of_block (k 0 (Ne.symm h0))
 obtain⟨⟨c0,c1,c2,c3,c4,c5,f1,f2,f3,f4,f5⟩,own,chain,isn,few,short,signs,pos,lt⟩:=h
 refine⟨⟨(c 0).trans c0,(c 1).trans c1,(c 2).trans c2,(c 3).trans c3,(c 4).trans c4,(c 5).trans c5,(f 1).trans f1,(f 2).trans f2,(f 3).trans f3,(f 4).trans f4,(f 5).trans f5⟩,⟨own.1,?_⟩,chain,isn,few,short,⟨(z 0).trans signs.s0,(z 1).trans signs.s1,(z 2).trans signs.s2,(z 3).trans signs.s3,(z 4).trans signs.s4⟩,pos,by rw[ho.size];exact lt⟩
 rcases own.2 with q | ⟨g,cap,cur,a,b',c',d⟩
 ·exact Or.inl q
 ·refine Or.inr ⟨g,cap,cur,a,b',?_,d⟩
  rw[k g (fun e=>ht (by rw[←e];unfold aP;rw[c']))]
  exact c'
theorem KA.eI {rb b:Nat} {X:List Nat} {u w w':World} (h:KA rb X u w) (ho:aD b w w') (hb:u.heap.size≤b):KA rb X u w':=
 ⟨ho.os.trans h.os,ho.tape.trans h.tape,ho.output.trans h.output,by rw[ho.size];exact h.size,fun k hk hX ht=>(ho.block k (by omega)).trans (h.block k hk hX ht)⟩
theorem KA.PS {rb b:Nat} {X:List Nat} {u w w':World} (h:KA rb X u w) (ho:aD b w w') (hb:b∈X):KA rb X u w':=
 h.trans ⟨ho.os,ho.tape,ho.output,by rw[ho.size];exact Nat.le_refl _,fun k _ hX _=>ho.block k (fun e=>hX (e ▸ hb))⟩
theorem PT {l:List Zc.aj} (h:(Zc.hd l).kind=5) (g:List UInt8):Zc.sees l g=((Zc.hd l).text.toList == g):=by simp[Zc.sees,h]
theorem Ot {l:List Zc.aj} (h:(Zc.hd l).kind≠5) (g:List UInt8):Zc.sees l g=false:=by simp[Zc.sees,h]
theorem bI (w:World) (rb:Nat) (s:ByteArray) (l:List Zc.aj) (ns:List ByteArray) (nv:Value) (e0:Int) (h:St w rb s l ns nv e0):
 Calls Tryz.prog 133 #[.pointer (some ⟨rb,0,none⟩)] w fun e w'=>e= .returned (.bool (Zc.bF l))∧w'=w:=by
 obtain⟨⟨c0,c1,c2,c3,c4,c5,f1,f2,f3,f4,f5⟩,own,chain,isn,few,short,signs,pos,lt⟩:=h
 clear own chain isn few short signs pos lt c0 c2 c4 c5 f1 f2 f3 f4 f5
 by_cases hk:(Zc.hd l).kind=5
 ·have HT:=af (show Zc.bF l=(((Zc.hd l).text.toList == [60])||((Zc.hd l).text.toList == [61,60])||((Zc.hd l).text.toList == [61,61])||((Zc.hd l).text.toList == [92,61]))by simp only[Zc.bF,PT hk])
  rw[hk]at c1
  clear hk
  generalize (Zc.hd l).text=tx at*
  cases b1:(tx.toList == [60])
  ·cases b2:(tx.toList == [61,60])
   ·cases b3:(tx.toList == [61,61])
    ·cases b4:(tx.toList == [92,61])
     all_goals
      go_enter Tryz.func133,Tryz.ntmps133
      go_wp2_with fail
      go_ret
      exact⟨cK (by rw[ae HT,b1,b2,b3,b4];rfl),rfl⟩
    ·go_enter Tryz.func133,Tryz.ntmps133
     go_wp2_with fail
     go_ret
     exact⟨cK (by rw[ae HT,b1,b2,b3];rfl),rfl⟩
   ·go_enter Tryz.func133,Tryz.ntmps133
    go_wp2_with fail
    go_ret
    exact⟨cK (by rw[ae HT,b1,b2];rfl),rfl⟩
  ·go_enter Tryz.func133,Tryz.ntmps133
   go_wp2_with fail
   go_ret
   exact⟨cK (by rw[ae HT,b1];rfl),rfl⟩
 ·have HT:=af (show Zc.bF l=false by simp[Zc.bF,Ot hk])
  have gj:(((Zc.hd l).kind:Int) != 5)=true:=by simp;omega
  clear hk
  go_enter Tryz.func133,Tryz.ntmps133
  go_wp2_with fail
  go_ret
  exact⟨cK (by rw[ae HT]),rfl⟩
theorem lj (w:World) (rb:Nat) (s:ByteArray) (l:List Zc.aj) (ns:List ByteArray) (nv:Value) (e0:Int) (h:St w rb s l ns nv e0):
 Calls Tryz.prog 177 #[.pointer (some ⟨rb,0,none⟩)] w fun e w'=>e= .returned (.bool (Zc.gQ l))∧w'=w:=by
 have HT:=af (show Zc.gQ l=(Zc.sees l [43]||Zc.sees l [45]||Zc.sees l [42])from rfl)
 have H:=af h
 clear h
 cases b1:Zc.sees l [43]
 ·cases b2:Zc.sees l [45]
  ·go_enter Tryz.func177,Tryz.ntmps177
   go_wp2_with (go_at_call 76;refine(bC _ rb s l ns nv e0 _ (ae H)).mono ?_;rintro e w1 ⟨rfl,hw⟩;rw[hw];clear hw;simp only[ByteArray.toList_mk])
   go_ret
   exact⟨cK (by rw[ae HT,b1,b2];rfl),rfl⟩
  ·go_enter Tryz.func177,Tryz.ntmps177
   go_wp2_with (go_at_call 76;refine(bC _ rb s l ns nv e0 _ (ae H)).mono ?_;rintro e w1 ⟨rfl,hw⟩;rw[hw];clear hw;simp only[ByteArray.toList_mk])
   go_ret
   exact⟨cK (by rw[ae HT,b1,b2];rfl),rfl⟩
 ·go_enter Tryz.func177,Tryz.ntmps177
  go_wp2_with (go_at_call 76;refine(bC _ rb s l ns nv e0 _ (ae H)).mono ?_;rintro e w1 ⟨rfl,hw⟩;rw[hw];clear hw;simp only[ByteArray.toList_mk])
  go_ret
  exact⟨cK (by rw[ae HT,b1];rfl),rfl⟩
theorem jk (w:World) (t:Zc.Tm) (val:Int) (tx:ByteArray) (ao:Option Addr) (cap:Nat) (ht:t.kind=2→tx=t.text) (hk:t.kind=2∨t.kind=3∨t.kind=4):
 Calls Tryz.prog 136 #[.agg #[.int .i64 (ak t.kind),.int .i64 val,.string tx,.slice ao t.args.length cap]] w fun e w'=>e= .returned (.bool (Zc.isInt t))∧Below w.heap.size w w':=by
 by_cases h2:t.kind=2
 ·have HT:=af (show Zc.isInt t=((tx.toList == [105,110,116])&&(t.args.length == 1))by simp[Zc.isInt,h2,ht h2])
  have ha:ak t.kind=3:=by rw[h2];rfl
  rw[ha]
  clear ha h2 ht hk
  generalize t.args.length=n at*
  cases b1:(tx.toList == [105,110,116])
  ·go_enter Tryz.func136,Tryz.ntmps136
   go_wp2_with fail
   go_ret
   exact⟨cK (by rw[ae HT,b1];rfl),(Below.refl _ _).alloc (Nat.le_refl _) _⟩
  ·by_cases hn:n=1
   ·have pW:((n:Int) == 1)=true:=by simp;omega
    go_enter Tryz.func136,Tryz.ntmps136
    go_wp2_with fail
    go_ret
    exact⟨cK (by rw[ae HT,b1,hn];rfl),(Below.refl _ _).alloc (Nat.le_refl _) _⟩
   ·have pW:((n:Int) == 1)=false:=by simp;omega
    go_enter Tryz.func136,Tryz.ntmps136
    go_wp2_with fail
    go_ret
    exact⟨cK (by rw[ae HT,b1];simp[hn]),(Below.refl _ _).alloc (Nat.le_refl _) _⟩
 ·have HT:=af (show Zc.isInt t=false by simp[Zc.isInt,h2])
  have ha:(ak t.kind == 3)=false:=by rcases hk with e | e | e<;>simp_all [ak]
  generalize ak t.kind=q at*
  clear h2 ht hk
  go_enter Tryz.func136,Tryz.ntmps136
  go_wp2_with fail
  go_ret
  exact⟨cK (by rw[ae HT]),(Below.refl _ _).alloc (Nat.le_refl _) _⟩
end Go.Proofs.YthfjnfcekeknlaaGreatDoor
namespace Zc
def YH (N:List (List UInt8)) (x:aH):List UInt8:=
 strF 8 N x.left++(match x.right with
  | none=>[]
  | some r=>x.sign++strF 8 N r)++(match x.last with
  | none=>[]
  | some z=>x.op++strF 8 N z)
def cq (ns:List (List UInt8)):Option Tm→List (List UInt8)
 | none=>ns
 | some t=>namesF 8 ns t
def aO (ns:List (List UInt8)) (x:aH):List (List UInt8):=cq (cq (namesF 8 ns x.left) x.right) x.last
def Ho (x:aH):Prop:=nI 8 x.left∧(∀r,x.right=some r→nI 8 r)∧(∀z,x.last=some z→nI 8 z)
theorem pX {ns:List (List UInt8)} {t:Option Tm} (h:∀r,t=some r→nI 8 r):∃M,cq ns t=ns++M∧M.length≤3 ^ 8:=by
 cases t with
 | none=>exact⟨[],by simp[cq],by simp⟩
 | some r=>exact namesF_ext 8 r (h r rfl) ns
theorem xB (x:aH) (h:Ho x) (ns:List (List UInt8)):∃M,aO ns x=ns++M∧M.length≤20000:=by
 obtain⟨M1,h1,l1⟩:=namesF_ext 8 x.left h.1 ns
 obtain⟨M2,h2,l2⟩:=pX (ns:=namesF 8 ns x.left) (t:=x.right) h.2.1
 obtain⟨M3,h3,l3⟩:=pX (ns:=cq (namesF 8 ns x.left) x.right) (t:=x.last) h.2.2
 refine⟨M1++(M2++M3),by unfold aO;rw[h3,h2,h1];simp,?_⟩
 simp at l1 l2 l3⊢
 omega
end Zc
namespace Go.Proofs.YthfjnfcekeknlaaGreatDoor
open Go.RowKit
abbrev TV:=AV
theorem TA.box {f:Nat} {ns ns':List ByteArray} {w W w1:World} {val:Int} {tx:ByteArray} {ao:Option Addr} {cap:Nat} {t:Zc.Tm} (h:TA f ns ns' W w1 val tx ao cap t) (hW:w.heap.size<W.heap.size) (v0 v1 v2 v3:Value):
 TA f ns ns' w ((((w1.setCell ⟨w.heap.size,0,none⟩ v0).setCell ⟨w.heap.size,1,none⟩ v1).setCell ⟨w.heap.size,2,none⟩ v2).setCell ⟨w.heap.size,3,none⟩ v3) val tx ao cap t:=by
 refine⟨?_,h.nms⟩
 have r:=h.rep.imp (Q:=fun g=>w.heap.size<g) fun g hg _=>by omega
 exact((((r.set (fun g hg=>by omega) 0 v0).set (fun g hg=>by omega) 1 v1).set (fun g hg=>by omega) 2 v2).set (fun g hg=>by omega) 3 v3).imp fun g hg _=>by omega
def anyA:Nat→Prop:=fun _=>True
structure Hp (ns ns':List ByteArray) (w':World) (b c:TV) (sg op:ByteArray) (x:Zc.aH):Prop where
 sign:sg.toList=x.sign
 right:∀r,x.right=some r→RA 8 (aT ns') anyA w' b r
 op:op.toList=x.op
 last:∀z,x.last=some z→RA 8 (aT ns') anyA w' c z
 nms:aT ns'=Zc.cq (Zc.cq (aT ns) x.right) x.last
theorem aN.ra {w w':World} (h:aN w w') {f:Nat} {N:List (List UInt8)} {P:Nat→Prop} {a:AV} {t:Zc.Tm} (q:RA f N P w a t):RA f N anyA w' a t:=q.keep fun g cs _ hc hi=>⟨h g cs hc hi,trivial⟩
theorem aN.refl (w:World):aN w w:=fun _ _ h _=>h
theorem aN.alloc (w:World) (o:Obj):aN w (w.alloc o):=aN.below ((Below.refl _ _).alloc (Nat.le_refl _) o)
theorem aN.only {w w':World} {b:Nat} (ho:aD b w w') (ht:aP w b≠some 76):aN w w':=fun g cs hc _=>(ho.block g (fun q=>by subst q;exact ht (by unfold aP;rw[hc]))).trans hc
def nA (rb:Nat) (s:ByteArray) (a0:TV) (left:Zc.Tm) (ns:List ByteArray) (r:Zc.dR Zc.aH) (w:World) (e:Ending) (w':World):Prop:=match r with
 | .inl (er,pos)=>∃(a b c:TV) (sg op:ByteArray) (l':List Zc.aj) (ns':List ByteArray) (nv':Value),
  e= .returned (.tuple #[.agg #[.int .i64 a.k,.int .i64 a.val,.string a.tx,.slice a.ao a.n a.cap,.string sg,.int .i64 b.k,.int .i64 b.val,.string b.tx,.slice b.ao b.n b.cap,.string op,.int .i64 c.k,.int .i64 c.val,.string c.tx,.slice c.ao c.n c.cap],.bool false])∧St w' rb s l' ns' nv' (er:Int)∧(Zc.hd l').pos=pos∧KA rb [rb] w w'
 | .inr (x,l1)=>∃(a b c:TV) (sg op:ByteArray) (ns':List ByteArray) (nv':Value) (e':Int),
  e= .returned (.tuple #[.agg #[.int .i64 a.k,.int .i64 a.val,.string a.tx,.slice a.ao a.n a.cap,.string sg,.int .i64 b.k,.int .i64 b.val,.string b.tx,.slice b.ao b.n b.cap,.string op,.int .i64 c.k,.int .i64 c.val,.string c.tx,.slice c.ao c.n c.cap],.bool true])∧(a=a0∧x.left=left∧Hp ns ns' w' b c sg op x)∧St w' rb s l1 ns' nv' e'∧KA rb [rb] w w'
theorem bR {w w1 w2:World} {rb:Nat} {s:ByteArray} {l:List Zc.aj} {ns:List ByteArray} {nv:Value} {e:Int} {b:Nat} {cs:Array Value} {T:TypeId} (h:St w1 rb s l ns nv e) (hk:KA rb [rb] w w1) (hlt:rb<w.heap.size) (hb:w.heap.size≤b) (hc:w1.heap[b]?=some (.cells cs T (0,0))) (ho:aD b w1 w2) (hT:T≠9:=by decide):
 St w2 rb s l ns nv e∧KA rb [rb] w w2:=
 ⟨h.only ho (by omega) (by omega) (by unfold aP;rw[hc];simpa using hT),hk.eI ho hb⟩
theorem zC {w w1 w2:World} {rb:Nat} {s:ByteArray} {l:List Zc.aj} {ns:List ByteArray} {nv:Value} {e:Int} {b:Nat} {cs:Array Value} {T:TypeId} (h:St w1 rb s l ns nv e) (hk:KA rb [rb] w w1) (hlt:rb<w.heap.size) (hb:w.heap.size≤b) (hc:w1.heap[b]?=some (.cells cs T (0,0))) (ho:aD b w1 w2) (hT:T≠9:=by decide) (hT':T≠76:=by decide):
 (St w2 rb s l ns nv e∧KA rb [rb] w w2)∧aN w1 w2:=
 ⟨bR h hk hlt hb hc ho hT,aN.only ho (by unfold aP;rw[hc];simpa using hT')⟩
theorem jr (w:World) (rb:Nat) (s:ByteArray) (l:List Zc.aj) (ns:List ByteArray) (nv:Value) (e0:Int) (h:St w rb s l ns nv e0):
 Calls Tryz.prog 176 #[.pointer (some ⟨rb,0,none⟩)] w fun e w'=>pU 8 rb s ns (Zc.operand l) w e w':=by
 have hb2:Below w.heap.size w (w.alloc boxR):=(Below.refl _ _).alloc (Nat.le_refl _) _
 have H2:=af (h.below hb2)
 have hlt:=h.lt
 have hK0:=af ((KA.refl rb [rb] w).alloc boxR)
 have hB0:=af (Oq w #[.int .i64 0,.int .i64 0,.string ⟨#[]⟩,.slice none 0 0] 76)
 have I:=af (fun W (hW:St W rb s l ns nv e0)=>term_all 8 W rb s l ns nv e0 1 rfl hW)
 unfold boxR at H2 hK0
 obtain⟨⟨c0,c1,c2,c3,c4,c5,f1,f2,f3,f4,f5⟩,own,chain,isn,few,short,signs,pos,lt⟩:=h
 clear own chain isn few short signs hb2 c0 c2 c3 c4 c5 f1 f2 f3 f4 f5
 by_cases hk:(Zc.hd l).kind=2
 ·have HO:=af (show Zc.operand l=Zc.bad 2 l by unfold Zc.operand;rw[if_pos hk])
  rw[ae HO]
  have gj:(((Zc.hd l).kind:Int) == 2)=true:=by simp;omega
  clear hk HO
  go_enter Tryz.func176,Tryz.ntmps176
  go_wp2_with fail
  refine(bW _ rb s l ns nv e0 2 (ae H2)).mono ?_
  rintro e w1 ⟨rfl,hs,hk⟩
  have HS:=af hs
  have HK:=af ((ae hK0).trans hk)
  have hB:=aq hk (ae hB0) (by simp;omega)
  clear hs hk
  have r0:=nW (hB) 0 rfl
  have r1:=nW (hB) 1 rfl
  have r2:=nW (hB) 2 rfl
  have r3:=nW (hB) 3 rfl
  have x0:=mW (hB) 0
  have x1:=mW (hB) 1
  have x2:=mW (hB) 2
  have x3:=mW (hB) 3
  have HB:=af hB
  clear hB
  go_wp2_with fail
  have R:=bR (ae HS) (ae HK) hlt (Nat.le_refl _) (ae HB) (((((aD.refl _ _).set 0 (.int .i64 0)).set 1 (.int .i64 0)).set 2 (.string ⟨#[]⟩)).set 3 (.slice none 0 0))
  refine bodyPost_ret (v:= .tuple #[.agg #[.int .i64 0,.int .i64 0,.string ⟨#[]⟩,.slice none 0 0],.bool false]) (by simp[results,Tryz.results176,go_sem,r0,r1,r2,r3]) rfl ?_
  exact⟨_,_,_,_,_,_,l,ns,nv,rfl,R.1,rfl,R.2⟩
 ·have HO:=af (show Zc.operand l=Zc.term 8 l by unfold Zc.operand;rw[if_neg hk])
  rw[ae HO]
  generalize Zc.term 8 l=r at I⊢
  have gj:(((Zc.hd l).kind:Int) == 2)=false:=by simp;omega
  clear hk HO
  rcases r with⟨er,pos⟩ | ⟨t,l2⟩
  ·go_enter Tryz.func176,Tryz.ntmps176
   go_wp2_with fail
   refine(ae I _ (ae H2)).mono ?_
   rintro e w1 ⟨k,val,tx,ao,n,cap,l',ns',nv',rfl,hs,cm,hk⟩
   have HS:=af hs
   have HP:=af cm
   have HK:=af ((ae hK0).trans hk)
   have hB:=aq hk (ae hB0) (by simp;omega)
   clear hs hk cm
   have r0:=nW (hB) 0 rfl
   have r1:=nW (hB) 1 rfl
   have r2:=nW (hB) 2 rfl
   have r3:=nW (hB) 3 rfl
   have x0:=mW (hB) 0
   have x1:=mW (hB) 1
   have x2:=mW (hB) 2
   have x3:=mW (hB) 3
   have HB:=af hB
   clear hB
   go_wp2_with fail
   have R:=bR (ae HS) (ae HK) hlt (Nat.le_refl _) (ae HB) (((((aD.refl _ _).set 0 (.int .i64 k)).set 1 (.int .i64 val)).set 2 (.string tx)).set 3 (.slice ao n cap))
   refine bodyPost_ret (v:= .tuple #[.agg #[.int .i64 k,.int .i64 val,.string tx,.slice ao n cap],.bool false]) (by simp[results,Tryz.results176,go_sem,r0,r1,r2,r3]) rfl ?_
   exact⟨_,_,_,_,_,_,l',ns',nv',rfl,R.1,ae HP,R.2⟩
  ·go_enter Tryz.func176,Tryz.ntmps176
   go_wp2_with fail
   refine(ae I _ (ae H2)).mono ?_
   rintro e w1 ⟨val,tx,ao,cap,ns',nv',e',rfl,bj,hs,hk⟩
   have HS:=af hs
   have HP:=af bj
   have HK:=af ((ae hK0).trans hk)
   have hB:=aq hk (ae hB0) (by simp;omega)
   clear hs hk bj
   have r0:=nW (hB) 0 rfl
   have r1:=nW (hB) 1 rfl
   have r2:=nW (hB) 2 rfl
   have r3:=nW (hB) 3 rfl
   have x0:=mW (hB) 0
   have x1:=mW (hB) 1
   have x2:=mW (hB) 2
   have x3:=mW (hB) 3
   have HB:=af hB
   clear hB
   go_wp2_with fail
   have R:=bR (ae HS) (ae HK) hlt (Nat.le_refl _) (ae HB) (((((aD.refl _ _).set 0 (.int .i64 (ak t.kind))).set 1 (.int .i64 val)).set 2 (.string tx)).set 3 (.slice ao t.args.length cap))
   refine bodyPost_ret (v:= .tuple #[.agg #[.int .i64 (ak t.kind),.int .i64 val,.string tx,.slice ao t.args.length cap],.bool true]) (by simp[results,Tryz.results176,go_sem,r0,r1,r2,r3]) rfl ?_
   exact⟨_,_,_,_,ns',nv',e',rfl,(ae HP).box (by simp) _ _ _ _,R.1,R.2⟩
end Go.Proofs.YthfjnfcekeknlaaGreatDoor
namespace Zc
end Zc
namespace Go.Proofs.YthfjnfcekeknlaaGreatDoor
open Go.RowKit
theorem Hq {w1:World} {s:ByteArray} {L:List Zc.aj} (aV:dN w1) (h0:0<w1.heap.size) (hL:Zc.eo s L) (hh:Zc.hd L=Zc.next s 0) (hl:L.length≤1000) (hs:s.size≤240):
 St (w1.alloc (.cells #[.string s,.int .i64 ((Zc.next s 0).kind:Int),.int .i64 ((Zc.next s 0).pos:Int),.string (Zc.next s 0).text,.slice none 0 0,.int .i64 0] 73)) w1.heap.size s L [] (.slice none 0 0) 0:=by
 have hb:=heap_alloc_new w1 (.cells #[.string s,.int .i64 ((Zc.next s 0).kind:Int),.int .i64 ((Zc.next s 0).pos:Int),.string (Zc.next s 0).text,.slice none 0 0,.int .i64 0] 73)
 have c:=ah hb
 have f:=ay hb
 exact⟨⟨by rw[c];rfl,by rw[c,hh];rfl,by rw[c,hh];rfl,by rw[c,hh];rfl,by rw[c];rfl,by rw[c];rfl,f 1,f 2,f 3,f 4,f 5⟩,World.ownsRow_nil _ _ _ _,hL,⟨0,hh⟩,by simpa using hl,hs,aV.below ((Below.refl _ _).alloc (Nat.le_refl _) _) h0,h0,by simp⟩
theorem fu {w:World} {b:Nat} {e:TypeId} {sz:Nat} {v:Value} {n:Nat} {xs:List Value} (h:w.ownsRow b e sz v n xs):∃o cap,v= .slice o n cap:=by
 rcases h.2 with⟨q,rfl⟩ | ⟨g,cap,cur,q,_⟩
 ·exact⟨none,0,q⟩
 ·exact⟨some ⟨g,0,none⟩,cap,q⟩
theorem aL (w:World) (b i:Nat) (v:Value) {g:Nat} (h:g≠b):(w.setCell ⟨b,i,none⟩ v).heap[g]?=w.heap[g]?:=Below.heap_setCell _ _ _ _ h
theorem cN (w:World) (p:Addr) (v:Value):(w.setCell p v).heap.size=w.heap.size:=by simp[World.setCell]
theorem cf {b0 b1:Nat} {w:World} {T:TypeId} {sz:Nat} {v:Value} {n:Nat} {xs:List Value} (h:w.ownsRow b1 T sz v n xs) (hb:b0≤b1):w.ownsRow b0 T sz v n xs:=
 ⟨h.1,h.2.imp id fun⟨g,cap,cur,a,b,c,d⟩=>⟨g,cap,cur,a,Nat.le_trans hb b,c,d⟩⟩
theorem Ou (w:World) (rb:Nat) (s:ByteArray) (l:List Zc.aj) (ns:List ByteArray) (nv:Value) (e0:Int) (h:St w rb s l ns nv e0) (hk:(Zc.hd l).kind=0):
 Calls Tryz.prog 41 #[.pointer (some ⟨rb,0,none⟩)] w fun e w'=>e= .returned (.bool true)∧w'=w:=by
 have c1:=h.rd.c1
 have zr:=h.lt
 rw[hk]at c1
 clear h hk
 go_enter Tryz.func41,Tryz.ntmps41
 go_wp2_with fail
 go_ret
 exact⟨rfl,rfl⟩
theorem Ov (w:World) (rb:Nat) (s:ByteArray) (l:List Zc.aj) (ns:List ByteArray) (nv:Value) (e0:Int) (h:St w rb s l ns nv e0) (hk:(Zc.hd l).kind≠0):
 Calls Tryz.prog 41 #[.pointer (some ⟨rb,0,none⟩)] w fun e w'=>e= .returned (.bool false)∧St w' rb s l ns nv 2∧KA rb [rb] w w':=by
 have c1:=h.rd.c1
 have zr:=h.lt
 have hq:(((Zc.hd l).kind:Int) != 0)=true:=by simp;omega
 have H:=af h
 clear h hk
 generalize ((Zc.hd l).kind:Int)=gk at*
 go_enter Tryz.func41,Tryz.ntmps41
 go_wp2_with fail
 refine(bW _ rb s l ns nv e0 2 (ae H)).mono ?_
 rintro e w3 ⟨rfl,hs3,hk3⟩
 have eK:=af hs3
 have ez:=af hk3
 clear hs3 hk3
 go_wp2_with fail
 go_ret
 exact⟨rfl,ae eK,ae ez⟩
theorem aA {w:World} {b:Nat} {cs:Array Value} {T:TypeId} (h:w.heap[b]?=some (.cells cs T (0,0))) (i:Nat) (v:Value):(w.setCell ⟨b,i,none⟩ v).heap[b]?=some (.cells (cs.setIfInBounds i v) T (0,0)):=by
 simp[World.setCell,Array.getElem?_modify,h]
theorem aG {w:World} {b:Nat} {x:Obj} (h:w.heap[b]?=some x) {b':Nat} (hne:b≠b') (i:Nat) (v:Value):(w.setCell ⟨b',i,none⟩ v).heap[b]?=some x:=(Below.heap_setCell _ _ _ _ hne).trans h
theorem Bz {w:World} {b:Nat} {T:TypeId} {c0 c1 c2 c3 c4 c5 c6 c7 c8 c9 c10 c11 c12 c13:Value} (v5 v6 v7 v8 v9:Value) (h:w.heap[b]?=some (.cells #[c0,c1,c2,c3,c4,c5,c6,c7,c8,c9,c10,c11,c12,c13] T (0,0))):(((((w.setCell ⟨b,5,none⟩ v5).setCell ⟨b,6,none⟩ v6).setCell ⟨b,7,none⟩ v7).setCell ⟨b,8,none⟩ v8).setCell ⟨b,9,none⟩ v9).heap[b]?=some (.cells #[c0,c1,c2,c3,c4,v5,v6,v7,v8,v9,c10,c11,c12,c13] T (0,0)):=by
 have:=aA (aA (aA (aA (aA h 5 v5) 6 v6) 7 v7) 8 v8) 9 v9
 simpa using this
theorem xC {w:World} {b b':Nat} {x:Obj} (v5 v6 v7 v8 v9:Value) (h:w.heap[b']?=some x) (hne:b'≠b):(((((w.setCell ⟨b,5,none⟩ v5).setCell ⟨b,6,none⟩ v6).setCell ⟨b,7,none⟩ v7).setCell ⟨b,8,none⟩ v8).setCell ⟨b,9,none⟩ v9).heap[b']?=some x:=
 aG (aG (aG (aG (aG h hne 5 v5) hne 6 v6) hne 7 v7) hne 8 v8) hne 9 v9
theorem qT {α:Type} {F:α→List Value} {c:Nat} (hF:∀a,(F a).length=c):∀{us:List α} {i:Nat} (h:i<us.length) (j:Nat),j<c→(us.flatMap F)[i*c+j]?=(F us[i])[j]?
 | t :: r,0,_,j,hj=>by rw[List.flatMap_cons,List.getElem?_append_left (by rw[hF];omega)];simp
 | t :: r,i+1,h,j,hj=>by
  rw[List.flatMap_cons,List.getElem?_append_right (by rw[hF,Nat.add_mul];omega),hF]
  rw[show (i+1)*c+j - c=i*c+j by rw[Nat.add_mul];omega]
  simpa using qT hF (by simpa using h) j hj
def aK (n:Nat):Value:= .int .i64 (n:Int)
theorem infoNd:(Tryz.prog.info? 180).map (fun i=>(i.zero,i.size,i.bytes))=some (some (.agg #[.int .i64 0,.int .i64 0,.string ⟨#[]⟩,.int .i64 0,.slice none 0 0,.int .i64 0,.int .i64 0]),7,80):=by kernel_rfl
theorem infoIn:(Tryz.prog.info? 3).map (fun i=>(i.zero,i.size,i.bytes))=some (some (.int .i64 0),1,8):=by kernel_rfl
theorem jd (W:World) (n:Nat) (a:Value) (T:TypeId) (hn:n=W.heap.size):∀j u,([a]:List Value)[j]?=some u→(W.alloc (.cells #[a] T)).cell? ((⟨n,0,none⟩:Addr).add j)=some u:=by
 subst hn
 intro j u hj
 match j,hj with
 | 0,hj=>simp at hj;subst hj;simp[Addr.add]
theorem Tn (W:World) (n:Nat) (A:Array Value) (T:TypeId) (xs:List Value) (hn:n=W.heap.size) (hx:A.toList=xs):∀j u,xs[j]?=some u→(W.alloc (.cells A T)).cell? ((⟨n,0,none⟩:Addr).add j)=some u:=by
 subst hn hx
 intro j u hj
 have:=ah (heap_alloc_new W (.cells A T)) j
 rw[show (⟨W.heap.size,0,none⟩:Addr).add j=⟨W.heap.size,j,none⟩by cases j<;>simp[Addr.add],this]
 simpa using hj
def jt (a:AV):Int:=if a.k=2 then a.val else 0
theorem qU (w:World) (a:AV):
 Calls Tryz.prog 95 #[.agg #[.int .i64 a.k,.int .i64 a.val,.string a.tx,.slice a.ao a.n a.cap]] w fun e w'=>e= .returned (.agg #[.int .i64 a.k,.int .i64 (jt a),.string a.tx,.int .i64 (a.n:Int)])∧Below w.heap.size w w':=by
 cases hk:(a.k == 2)
 ·have HV:=af (show jt a=0 by unfold jt;rw[if_neg (by simpa using hk)])
  go_enter Tryz.func95,Tryz.ntmps95
  go_wp2_with fail
  refine bodyPost_ret (v:= .agg #[.int .i64 a.k,.int .i64 0,.string a.tx,.int .i64 (a.n:Int)]) (by simp[results,Tryz.results95,go_sem]) rfl ?_
  exact⟨by rw[ae HV],(((Below.refl _ _).alloc (Nat.le_refl _) _).alloc (by simp) _).alloc (by simp;omega) _⟩
 ·have hk2:a.k=2:=by simpa using hk
  have HV:=af (show jt a=a.val by unfold jt;rw[if_pos hk2])
  obtain⟨k,val,tx,ao,n,cap⟩:=a
  dsimp only at hk2 HV⊢
  subst hk2
  clear hk
  go_enter Tryz.func95,Tryz.ntmps95
  go_wp2_with fail
  refine bodyPost_ret (v:= .agg #[.int .i64 2,.int .i64 val,.string tx,.int .i64 (n:Int)]) (by simp[results,Tryz.results95,go_sem]) rfl ?_
  exact⟨by rw[ae HV],(((Below.refl _ _).alloc (Nat.le_refl _) _).alloc (by simp) _).alloc (by simp;omega) _⟩
theorem th {w:World} {b:Nat} {e:TypeId} {sz:Nat} {v:Value} {n:Nat} {xs:List Value} (h:w.ownsRow b e sz v (n+1) xs):∃g cap,v= .slice (some ⟨g,0,none⟩) (n+1) cap:=by
 rcases h.2 with⟨_,q⟩ | ⟨g,cap,cur,q,_⟩
 ·omega
 ·exact⟨g,cap,q⟩
theorem bO.jw {α β:Type} {R:α→β→Prop}:∀{xs:List α} {ys:List β},bO R xs ys→∀(i:Nat) (h:i<xs.length) (h':i<ys.length),R xs[i] ys[i]
 | _ :: _,_ :: _,q,0,_,_=>q.1
 | _ :: _,_ :: _,q,i+1,h,h'=>bO.jw q.2 i (by simpa using h) (by simpa using h')
theorem Ow {us:List AV} {i:Nat} (h:i<us.length) (j:Nat) (hj:j<4):(us.flatMap gN)[i*4+j]?=(gN us[i])[j]?:=qT (F:=gN) (c:=4) (fun _=>rfl) h j hj
def fX (n:Int):Value:= .int .i64 n
def fJ (lb:Nat) (so wo:Option Addr) (k:Nat):Prop:=k=lb∨(∃p,so=some p∧k=p.block)∨(∃p,wo=some p∧k=p.block)
structure mI (w:World) (lb:Nat) (S:List Int) (W:List Nat) (no:Bool) (so:Option Addr) (sc:Nat) (wo:Option Addr) (wc:Nat):Prop where
 blk:w.heap[lb]?=some (.cells #[.slice so S.length sc,.slice wo W.length wc,.bool no] 189 (0,0))
 sown:w.ownsRow (lb+1) 3 1 (.slice so S.length sc) S.length (S.map fX)
 wown:w.ownsRow (lb+1) 3 1 (.slice wo W.length wc) W.length (W.map aK)
 apart:∀p q,so=some p→wo=some q→p.block≠q.block
def dp (w:World) (lb:Nat) (S:List Int) (W:List Nat) (no:Bool) (R:Nat→Prop):Prop:=∃so sc wo wc,mI w lb S W no so sc wo wc∧R=fJ lb so wo
theorem mI.rows {w:World} {lb:Nat} {S:List Int} {W:List Nat} {no:Bool} {so:Option Addr} {sc:Nat} {wo:Option Addr} {wc:Nat} (h:mI w lb S W no so sc wo wc):∀k,fJ lb so wo k→lb≤k∧k<w.heap.size:=by
 have h1:=ag h.blk
 rintro k (rfl | ⟨p,rfl,rfl⟩ | ⟨p,rfl,rfl⟩)
 ·omega
 ·have:=h.sown.lt p.block rfl;omega
 ·have:=h.wown.lt p.block rfl;omega
theorem mI.keep {w w':World} {lb:Nat} {S:List Int} {W:List Nat} {no:Bool} {so:Option Addr} {sc:Nat} {wo:Option Addr} {wc:Nat} (h:mI w lb S W no so sc wo wc) (hk:∀k,fJ lb so wo k→w'.heap[k]?=w.heap[k]?):mI w' lb S W no so sc wo wc:=by
 refine⟨(hk lb (Or.inl rfl)).trans h.blk,ai h.sown (fun g q=>hk g ?_),ai h.wown (fun g q=>hk g ?_),h.apart⟩
 ·cases so with
  | none=>simp[Value.ownBlock]at q
  | some s=>simp[Value.ownBlock]at q;exact Or.inr (Or.inl ⟨s,rfl,q.symm⟩)
 ·cases wo with
  | none=>simp[Value.ownBlock]at q
  | some s=>simp[Value.ownBlock]at q;exact Or.inr (Or.inr ⟨s,rfl,q.symm⟩)
theorem dp.below {w w':World} {lb:Nat} {S:List Int} {W:List Nat} {no:Bool} {R:Nat→Prop} (h:dp w lb S W no R) (hb:Below w.heap.size w w'):dp w' lb S W no R:=by
 obtain⟨so,sc,wo,wc,h,rfl⟩:=h
 exact⟨so,sc,wo,wc,h.keep fun k q=>hb.block k (h.rows k q).2,rfl⟩
theorem zD (w:World) (lb:Nat) (S:List Int) (W:List Nat) (no:Bool) (R:Nat→Prop) (h:dp w lb S W no R):
 Calls Tryz.prog 110 #[.pointer (some ⟨lb,0,none⟩)] w fun e w'=>e= .returned (.int .i64 (if no=true then 2 else if W=[]then 1 else 3))∧w'=w:=by
 obtain⟨so,sc,wo,wc,h,rfl⟩:=h
 have s1:=ah h.blk 1
 have s2:=ah h.blk 2
 have sz:=ag h.blk
 simp only[List.getElem?_toArray,List.getElem?_cons_zero,List.getElem?_cons_succ]at s1 s2
 clear h
 cases no with
 | true=>
  go_enter Tryz.func110,Tryz.ntmps110
  go_wp2_with fail
  go_ret
  exact⟨rfl,rfl⟩
 | false=>
  cases W with
  | nil=>
   go_enter Tryz.func110,Tryz.ntmps110
   go_wp2_with fail
   go_ret
   exact⟨rfl,rfl⟩
  | cons x W=>
   have t1:decide (0<W.length+1)=true:=by simp
   have t2:decide ((0:Int)<(W.length:Int)+1)=true:=by simp
   go_enter Tryz.func110,Tryz.ntmps110
   go_wp2_with fail
   go_ret
   exact⟨by simp,rfl⟩
theorem BA (w:World) (lb:Nat) (S:List Int) (W:List Nat) (no:Bool) (R:Nat→Prop) (n:Nat) (h:dp w lb S W no R) (hl:W.length≤100000000):
 Calls Tryz.prog 163 #[.pointer (some ⟨lb,0,none⟩),.int .i64 (n:Int)] w fun e w'=>e= .returned (.bool (decide (n∈W)))∧w'=w:=by
 obtain⟨so,sc,wo,wc,h,rfl⟩:=h
 have s1:=ah h.blk 1
 have sz:=ag h.blk
 simp only[List.getElem?_toArray,List.getElem?_cons_zero,List.getElem?_cons_succ]at s1
 have H:=af h
 clear h
 go_enter Tryz.func163,Tryz.ntmps163
 go_wp2_with fail
 go_loopg [12] W.length (fun k iv wr=>∃j:Nat,k+j=W.length∧iv= .int .i64 (j:Int)∧wr=w∧n∉W.take j)
 case atStart=>exact⟨0,by omega,rfl,rfl,by simp⟩
 case round=>
  obtain⟨j,hkj,rfl,rfl,hno⟩:=hrel
  by_cases hlt:j<W.length
  ·obtain⟨g,hg⟩:∃g,wo=some ⟨g,0,none⟩:=by
    rcases(ae H).wown.2 with⟨q,q2⟩ | ⟨g,cp,cur,q,_⟩
    ·omega
    ·simp only[Value.slice.injEq]at q
     exact⟨g,q.1⟩
   subst hg
   have f0:wr.cell? ⟨g,j,none⟩=some (.int .i64 (W[j]:Int)):=by
    rw[(ae H).wown.cellAt j (by omega),List.getElem?_map,List.getElem?_eq_getElem hlt]
    rfl
   have gz:=((ae H).wown.lt g rfl).2
   have i0:(0:Int)≤(j:Int):=by omega
   have i1:(j:Int)<(W.length:Int):=by omega
   by_cases he:W[j]=n
   ·have o6:=af (show n∈W from he ▸ List.getElem_mem hlt)
    rw[he]at f0
    clear he hno hkj
    go_wp2_with fail
    go_ret
    exact⟨by rw[decide_eq_true (ae o6)];rfl,rfl⟩
   ·have gS:=af hno
    have HE:=af he
    have bh:=af hlt
    have aW:=af hkj
    have t1:(((W[j]:Nat):Int) == ((n:Nat):Int))=false:=by simp;omega
    have HM:=af (show W.take (j+1)=W.take j++[W[j]]by rw[List.take_add_one,List.getElem?_eq_getElem hlt];rfl)
    generalize hm:W[j]=m at*
    clear he hno hkj hm
    go_wp2_with fail
    go_roundg (gk - 1)
    case measure=>have:=ae aW;have:=ae bh;omega
    case rel=>
     refine⟨j+1,by have:=ae aW;have:=ae bh;omega,by go_num,rfl,?_⟩
     rw[ae HM]
     simp only[List.mem_append,List.mem_singleton,not_or]
     exact⟨ae gS,fun q=>ae HE q.symm⟩
  ·have FE:n∉W:=by rwa [List.take_of_length_le (by omega)]at hno
   have gS:=af FE
   clear hno FE
   obtain rfl:j=W.length:=by omega
   go_wp2_with fail
   go_ret
   exact⟨by rw[decide_eq_false (ae gS)];rfl,rfl⟩
theorem mI.Tp {w W w1:World} {lb:Nat} {S:List Int} {T:List Nat} {no:Bool} {so:Option Addr} {sc:Nat} {wo:Option Addr} {wc:Nat} (h:mI w lb S T no so sc wo wc) (hW:Below w.heap.size w W) {g cap' n:Nat}
 (hown:w1.ownsRow (lb+1) 3 1 (.slice (some ⟨g,0,none⟩) (T.length+1) cap') (T.length+1) (T.map aK++[aK n])) (hg:W.grownBy w1 (Value.slice wo T.length wc).ownBlock) (hat:(Value.slice wo T.length wc).ownBlock=some g∨w.heap.size≤g):
 mI (w1.setCell ⟨lb,1,none⟩ (.slice (some ⟨g,0,none⟩) (T.length+1) cap')) lb S (T++[n]) no so sc (some ⟨g,0,none⟩) cap'∧au (fJ lb so wo) (fJ lb so (some ⟨g,0,none⟩)) w (w1.setCell ⟨lb,1,none⟩ (.slice (some ⟨g,0,none⟩) (T.length+1) cap')):=by
 have hz:=hW.size
 have s0:=ag h.blk
 have keep:∀k,k<w.heap.size→k≠lb→(∀p,wo=some p→k≠p.block)→(w1.setCell ⟨lb,1,none⟩ (.slice (some ⟨g,0,none⟩) (T.length+1) cap')).heap[k]?=w.heap[k]?:=fun k h1 h2 h3=>by
  rw[aL _ _ _ _ h2,hg.block k (by omega) (jc h3),hW.block k h1]
 have row:∀k,fJ lb so (some ⟨g,0,none⟩) k→fJ lb so wo k∨w.heap.size≤k:=by
  rintro k (e | e | ⟨p,q,e⟩)
  ·exact Or.inl (Or.inl e)
  ·exact Or.inl (Or.inr (Or.inl e))
  ·cases q
   dsimp only at e
   rcases hat with a | a
   ·left
    right
    right
    cases wo with
    | none=>simp[Value.ownBlock]at a
    | some s=>simp[Value.ownBlock]at a;exact⟨s,rfl,by omega⟩
   ·right;omega
 have keepR:∀k,k<w.heap.size→¬fJ lb so wo k→(w1.setCell ⟨lb,1,none⟩ (.slice (some ⟨g,0,none⟩) (T.length+1) cap')).heap[k]?=w.heap[k]?:=fun k hk hr=>keep k hk (fun e=>hr (Or.inl e)) (fun p q e=>hr (Or.inr (Or.inr ⟨p,q,e⟩)))
 refine⟨⟨?_,?_,?_,?_⟩,⟨hg.os.trans hW.os,hg.tape.trans hW.tape,hg.output.trans hW.output,by rw[cN];have:=hg.size;omega,keepR,row⟩⟩
 ·have q0:w1.heap[lb]?=some (.cells #[.slice so S.length sc,.slice wo T.length wc,.bool no] 189 (0,0)):=by
   rw[hg.block lb (by omega) (jc (fun p q e=>by have:=h.wown.lt p.block (by rw[q];rfl);omega)),hW.block lb s0]
   exact h.blk
  have:=aA q0 1 (.slice (some ⟨g,0,none⟩) (T.length+1) cap')
  simpa using this
 ·refine ai h.sown (fun k q=>keep k (h.sown.lt k q).2 (by have:=(h.sown.lt k q).1;omega) (fun p e r=> ?_))
  cases so with
  | none=>simp[Value.ownBlock]at q
  | some s=>simp[Value.ownBlock]at q;exact h.apart s p rfl e (by omega)
 ·have:=ai hown (w':=w1.setCell ⟨lb,1,none⟩ (.slice (some ⟨g,0,none⟩) (T.length+1) cap')) (fun k q=>aL _ _ _ _ (by have:=(hown.lt k q).1;omega))
  simpa using this
 ·intro p q hp hq
  cases hq
  have hsp:=(h.sown.lt p.block (by rw[hp];rfl)).2
  rcases hat with a | a
  ·cases wo with
   | none=>simp[Value.ownBlock]at a
   | some s=>simp[Value.ownBlock]at a;have:=h.apart p s hp rfl;dsimp only;omega
  ·dsimp only;omega
def FH (T:List Nat) (n:Nat):List Nat:=if n∈T then T else T++[n]
theorem Hr (w:World) (lb:Nat) (S:List Int) (T:List Nat) (no:Bool) (R:Nat→Prop) (n:Nat) (h:dp w lb S T no R) (hl:T.length≤100000000):
 Calls Tryz.prog 189 #[.pointer (some ⟨lb,0,none⟩),.int .i64 (n:Int)] w fun e w'=>e= .returned (.tuple #[])∧∃R',dp w' lb S (FH T n) no R'∧au R R' w w':=by
 have HF:=af (BA w lb S T no R n h hl)
 have HA:=af h
 obtain⟨so,sc,wo,wc,h,rfl⟩:=h
 have s1:=ah h.blk 1
 have sf:=ay h.blk 1
 have sz:=ag h.blk
 simp only[List.getElem?_toArray,List.getElem?_cons_zero,List.getElem?_cons_succ]at s1
 have H:=af h
 have tq:=af (show some lb≠(Value.slice wo T.length wc).ownBlock from fun q=>by have:=(h.wown.lt lb q.symm).1;omega)
 obtain⟨tj,hj,iA,iB,iC⟩:=info_parts infoIn
 clear h
 by_cases hm:n∈T
 ·have HM:=af hm
  rw[decide_eq_true hm]at HF
  clear hm
  go_enter Tryz.func189,Tryz.ntmps189
  go_wp2_with fail
  refine(ae HF).mono ?_
  rintro e w2 ⟨rfl,rfl⟩
  go_wp2_with fail
  go_end0
  refine⟨rfl,_,?_,au.aw (Below.refl _ _)⟩
  unfold FH
  rw[if_pos (ae HM)]
  exact ae HA
 ·have HM:=af hm
  rw[decide_eq_false hm]at HF
  clear hm
  go_enter Tryz.func189,Tryz.ntmps189
  go_wp2_with fail
  refine(ae HF).mono ?_
  rintro e w2 ⟨rfl,rfl⟩
  go_wp2_with (at_builtin;go_must (refine wpList_append_own_at _ rfl (.tmp 12) (.tmp 14) 25 rfl (lb+1) 3 tj (.int .i64 0) 1 8 Tryz.underlying25 hj iA iB iC rfl (by decide) _ T.length (T.map aK) rfl ((ae H).wown.alloc _) ⟨w2.heap.size,0,none⟩ 1 1 [.int .i64 (n:Int)] rfl rfl (jd _ _ _ _ rfl) (by simp[Value.oneCell']) (by unfold maxLen;omega) (by omega) (by simp;omega) ?_);go_must (intro v' w7 hown' hgrow _ hat;obtain⟨g',cap',hv'⟩:=th hown';subst hv';have HN:=af ((ae H).Tp ((Below.refl _ _).alloc (Nat.le_refl _) _) (n:=n) hown' hgrow (by rcases hat with q | q;exact Or.inl q.symm;(right;simp[Value.ownBlock]at q;omega)));have k1:=(hgrow.cell_far ⟨lb,1,none⟩ (by simp;omega) (ae tq)).trans ((World.cell?_alloc_past _ _ _ sz).trans s1);have k3:w7.frozen? ⟨lb,1,none⟩=false:=(by have:=ay (ae HN).1.blk 1;rwa [World.frozen?_setCell]at this);have zz7:lb<w7.heap.size:=(by have:=ag (ae HN).1.blk;rwa [cN]at this);clear hown' hgrow hat))
  go_end0
  refine⟨rfl,_,?_,(ae HN).2⟩
  unfold FH
  rw[if_neg (ae HM)]
  exact⟨_,_,_,_,(ae HN).1,rfl⟩
theorem mI.bad {w:World} {lb:Nat} {S:List Int} {T:List Nat} {no:Bool} {so:Option Addr} {sc:Nat} {wo:Option Addr} {wc:Nat} (h:mI w lb S T no so sc wo wc):mI (w.setCell ⟨lb,2,none⟩ (.bool true)) lb S T true so sc wo wc∧au (fJ lb so wo) (fJ lb so wo) w (w.setCell ⟨lb,2,none⟩ (.bool true)):=by
 refine⟨⟨?_,ai h.sown (fun g q=>aL _ _ _ _ (by have:=(h.sown.lt g q).1;omega)),ai h.wown (fun g q=>aL _ _ _ _ (by have:=(h.wown.lt g q).1;omega)),h.apart⟩,rfl,rfl,rfl,by rw[cN];exact Nat.le_refl _,fun k _ hr=>aL _ _ _ _ (fun e=>hr (Or.inl e)),fun _ q=>Or.inl q⟩
 have:=aA h.blk 2 (.bool true)
 simpa using this
end Go.Proofs.YthfjnfcekeknlaaGreatDoor
