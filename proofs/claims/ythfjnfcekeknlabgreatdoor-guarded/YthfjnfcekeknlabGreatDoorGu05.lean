import Derived.Test.YthfjnfcekeknlabGreatDoorGu02
import Derived.Test.YthfjnfcekeknlabGreatDoorGu04
import Derived.Maps.AppendAt
import Derived.Deep.AppendLies
import Derived.Deep.LoopGhost
import Derived.Deep.RegionHeld3
import Derived.Deep.RegionLaw
set_option maxHeartbeats 8000000
set_option maxRecDepth 100000
namespace Zf
end Zf
namespace Go.Proofs.YthfjnfcekeknlabGreatDoor
open Go.RowKit
theorem Ht {w1:World} {s:ByteArray} {L:List Zf.Tok} (aV:dK w1) (h0:0<w1.heap.size) (hL:Zf.ek s L) (hh:Zf.hd L=Zf.next s 0) (hl:L.length≤1000) (hs:s.size≤240):
 St (w1.alloc (.cells #[.string s,.int .i64 ((Zf.next s 0).kind:Int),.int .i64 ((Zf.next s 0).pos:Int),.string (Zf.next s 0).text,.slice none 0 0,.int .i64 0] 71)) w1.heap.size s L [] (.slice none 0 0) 0:=by
 have hb:=heap_alloc_new w1 (.cells #[.string s,.int .i64 ((Zf.next s 0).kind:Int),.int .i64 ((Zf.next s 0).pos:Int),.string (Zf.next s 0).text,.slice none 0 0,.int .i64 0] 71)
 have c:=ah hb
 have f:=au hb
 exact⟨⟨by rw[c];rfl,by rw[c,hh];rfl,by rw[c,hh];rfl,by rw[c,hh];rfl,by rw[c];rfl,by rw[c];rfl,f 1,f 2,f 3,f 4,f 5⟩,World.ownsRow_nil _ _ _ _,hL,⟨0,hh⟩,by simpa using hl,hs,aV.below ((Below.refl _ _).alloc (Nat.le_refl _) _) h0,h0,by simp⟩
theorem gH {w:World} {b:Nat} {e:TypeId} {sz:Nat} {v:Value} {n:Nat} {xs:List Value} (h:w.ownsRow b e sz v n xs):∃o cap,v= .slice o n cap:=by
 rcases h.2 with⟨q,rfl⟩ | ⟨g,cap,cur,q,_⟩
 ·exact⟨none,0,q⟩
 ·exact⟨some ⟨g,0,none⟩,cap,q⟩
theorem aC (w:World) (b i:Nat) (v:Value) {g:Nat} (h:g≠b):(w.setCell ⟨b,i,none⟩ v).heap[g]?=w.heap[g]?:=Below.heap_setCell _ _ _ _ h
theorem bS (w:World) (p:Addr) (v:Value):(w.setCell p v).heap.size=w.heap.size:=by simp[World.setCell]
theorem bV {b0 b1:Nat} {w:World} {T:TypeId} {sz:Nat} {v:Value} {n:Nat} {xs:List Value} (h:w.ownsRow b1 T sz v n xs) (hb:b0≤b1):w.ownsRow b0 T sz v n xs:=
 ⟨h.1,h.2.imp id fun⟨g,cap,cur,a,b,c,d⟩=>⟨g,cap,cur,a,Nat.le_trans hb b,c,d⟩⟩
theorem OS (w:World) (rb:Nat) (s:ByteArray) (l:List Zf.Tok) (ns:List ByteArray) (nv:Value) (e0:Int) (h:St w rb s l ns nv e0) (hk:(Zf.hd l).kind=0):
 Calls Tryz.prog 33 #[.pointer (some ⟨rb,0,none⟩)] w fun e w'=>e= .returned (.bool true)∧w'=w:=by
 have c1:=h.rd.c1
 have zr:=h.lt
 rw[hk]at c1
 clear h hk
 go_enter Tryz.func33,Tryz.ntmps33
 go_wp2_with fail
 go_ret
 exact⟨rfl,rfl⟩
theorem OT (w:World) (rb:Nat) (s:ByteArray) (l:List Zf.Tok) (ns:List ByteArray) (nv:Value) (e0:Int) (h:St w rb s l ns nv e0) (hk:(Zf.hd l).kind≠0):
 Calls Tryz.prog 33 #[.pointer (some ⟨rb,0,none⟩)] w fun e w'=>e= .returned (.bool false)∧St w' rb s l ns nv 2∧KA rb [rb] w w':=by
 have c1:=h.rd.c1
 have zr:=h.lt
 have hq:(((Zf.hd l).kind:Int) != 0)=true:=by simp;omega
 have H:=hide h
 clear h hk
 generalize ((Zf.hd l).kind:Int)=gk at*
 go_enter Tryz.func33,Tryz.ntmps33
 go_wp2_with fail
 refine(cg _ rb s l ns nv e0 2 (ae H)).mono ?_
 rintro e w3 ⟨rfl,hs3,hk3⟩
 have eI:=hide hs3
 have eo:=hide hk3
 clear hs3 hk3
 go_wp2_with fail
 go_ret
 exact⟨rfl,ae eI,ae eo⟩
theorem qB {α:Type} {F:α→List Value} {c:Nat} (hF:∀a,(F a).length=c):∀{us:List α} {i:Nat} (h:i<us.length) (j:Nat),j<c→(us.flatMap F)[i*c+j]?=(F us[i])[j]?
 | t :: r,0,_,j,hj=>by rw[List.flatMap_cons,List.getElem?_append_left (by rw[hF];omega)];simp
 | t :: r,i+1,h,j,hj=>by
  rw[List.flatMap_cons,List.getElem?_append_right (by rw[hF,Nat.add_mul];omega),hF]
  rw[show (i+1)*c+j - c=i*c+j by rw[Nat.add_mul];omega]
  simpa using qB hF (by simpa using h) j hj
def aJ (n:Nat):Value:= .int .i64 (n:Int)
theorem infoNd:(Tryz.prog.info? 147).map (fun i=>(i.zero,i.size,i.bytes))=some (some (.agg #[.int .i64 0,.int .i64 0,.string ⟨#[]⟩,.int .i64 0,.slice none 0 0,.int .i64 0,.int .i64 0]),7,80):=by kernel_rfl
theorem infoIn:(Tryz.prog.info? 3).map (fun i=>(i.zero,i.size,i.bytes))=some (some (.int .i64 0),1,8):=by kernel_rfl
theorem ju (W:World) (n:Nat) (a:Value) (T:TypeId) (hn:n=W.heap.size):∀j u,([a]:List Value)[j]?=some u→(W.alloc (.cells #[a] T)).cell? ((⟨n,0,none⟩:Addr).add j)=some u:=by
 subst hn
 intro j u hj
 match j,hj with
 | 0,hj=>simp at hj;subst hj;simp[Addr.add]
theorem TD (W:World) (n:Nat) (A:Array Value) (T:TypeId) (xs:List Value) (hn:n=W.heap.size) (hx:A.toList=xs):∀j u,xs[j]?=some u→(W.alloc (.cells A T)).cell? ((⟨n,0,none⟩:Addr).add j)=some u:=by
 subst hn hx
 intro j u hj
 have:=ah (heap_alloc_new W (.cells A T)) j
 rw[show (⟨W.heap.size,0,none⟩:Addr).add j=⟨W.heap.size,j,none⟩by cases j<;>simp[Addr.add],this]
 simpa using hj
def jq (a:AV):Int:=if a.k=2 then a.val else 0
theorem qC (w:World) (a:AV):
 Calls Tryz.prog 78 #[.agg #[.int .i64 a.k,.int .i64 a.val,.string a.tx,.slice a.ao a.n a.cap]] w fun e w'=>e= .returned (.agg #[.int .i64 a.k,.int .i64 (jq a),.string a.tx,.int .i64 (a.n:Int)])∧Below w.heap.size w w':=by
 cases hk:(a.k == 2)
 ·have HV:=hide (show jq a=0 by unfold jq;rw[if_neg (by simpa using hk)])
  go_enter Tryz.func78,Tryz.ntmps78
  go_wp2_with fail
  refine bodyPost_ret (v:= .agg #[.int .i64 a.k,.int .i64 0,.string a.tx,.int .i64 (a.n:Int)]) (by simp[results,Tryz.results78,go_sem]) rfl ?_
  exact⟨by rw[ae HV],(((Below.refl _ _).alloc (Nat.le_refl _) _).alloc (by simp) _).alloc (by simp;omega) _⟩
 ·have hk2:a.k=2:=by simpa using hk
  have HV:=hide (show jq a=a.val by unfold jq;rw[if_pos hk2])
  obtain⟨k,val,tx,ao,n,cap⟩:=a
  dsimp only at hk2 HV⊢
  subst hk2
  clear hk
  go_enter Tryz.func78,Tryz.ntmps78
  go_wp2_with fail
  refine bodyPost_ret (v:= .agg #[.int .i64 2,.int .i64 val,.string tx,.int .i64 (n:Int)]) (by simp[results,Tryz.results78,go_sem]) rfl ?_
  exact⟨by rw[ae HV],(((Below.refl _ _).alloc (Nat.le_refl _) _).alloc (by simp) _).alloc (by simp;omega) _⟩
theorem sN {w:World} {b:Nat} {e:TypeId} {sz:Nat} {v:Value} {n:Nat} {xs:List Value} (h:w.ownsRow b e sz v (n+1) xs):∃g cap,v= .slice (some ⟨g,0,none⟩) (n+1) cap:=by
 rcases h.2 with⟨_,q⟩ | ⟨g,cap,cur,q,_⟩
 ·omega
 ·exact⟨g,cap,q⟩
theorem bR.lD {α β:Type} {R:α→β→Prop}:∀{xs:List α} {ys:List β},bR R xs ys→∀(i:Nat) (h:i<xs.length) (h':i<ys.length),R xs[i] ys[i]
 | _ :: _,_ :: _,q,0,_,_=>q.1
 | _ :: _,_ :: _,q,i+1,h,h'=>bR.lD q.2 i (by simpa using h) (by simpa using h')
theorem OU {us:List AV} {i:Nat} (h:i<us.length) (j:Nat) (hj:j<4):(us.flatMap gP)[i*4+j]?=(gP us[i])[j]?:=qB (F:=gP) (c:=4) (fun _=>rfl) h j hj
def fT (n:Int):Value:= .int .i64 n
def eY (lb:Nat) (so wo:Option Addr) (k:Nat):Prop:=k=lb∨(∃p,so=some p∧k=p.block)∨(∃p,wo=some p∧k=p.block)
structure jC (w:World) (lb:Nat) (S:List Int) (W:List Nat) (no:Bool) (so:Option Addr) (sc:Nat) (wo:Option Addr) (wc:Nat):Prop where
 blk:w.heap[lb]?=some (.cells #[.slice so S.length sc,.slice wo W.length wc,.bool no] 102 (0,0))
 sown:w.ownsRow (lb+1) 3 1 (.slice so S.length sc) S.length (S.map fT)
 wown:w.ownsRow (lb+1) 3 1 (.slice wo W.length wc) W.length (W.map aJ)
 apart:∀p q,so=some p→wo=some q→p.block≠q.block
def cO (w:World) (lb:Nat) (S:List Int) (W:List Nat) (no:Bool) (R:Nat→Prop):Prop:=∃so sc wo wc,jC w lb S W no so sc wo wc∧R=eY lb so wo
theorem jC.rows {w:World} {lb:Nat} {S:List Int} {W:List Nat} {no:Bool} {so:Option Addr} {sc:Nat} {wo:Option Addr} {wc:Nat} (h:jC w lb S W no so sc wo wc):∀k,eY lb so wo k→lb≤k∧k<w.heap.size:=by
 have h1:=af h.blk
 rintro k (rfl | ⟨p,rfl,rfl⟩ | ⟨p,rfl,rfl⟩)
 ·omega
 ·have:=h.sown.lt p.block rfl;omega
 ·have:=h.wown.lt p.block rfl;omega
theorem jC.keep {w w':World} {lb:Nat} {S:List Int} {W:List Nat} {no:Bool} {so:Option Addr} {sc:Nat} {wo:Option Addr} {wc:Nat} (h:jC w lb S W no so sc wo wc) (hk:∀k,eY lb so wo k→w'.heap[k]?=w.heap[k]?):jC w' lb S W no so sc wo wc:=by
 refine⟨(hk lb (Or.inl rfl)).trans h.blk,ai h.sown (fun g q=>hk g ?_),ai h.wown (fun g q=>hk g ?_),h.apart⟩
 ·cases so with
  | none=>simp[Value.ownBlock]at q
  | some s=>simp[Value.ownBlock]at q;exact Or.inr (Or.inl ⟨s,rfl,q.symm⟩)
 ·cases wo with
  | none=>simp[Value.ownBlock]at q
  | some s=>simp[Value.ownBlock]at q;exact Or.inr (Or.inr ⟨s,rfl,q.symm⟩)
theorem cO.below {w w':World} {lb:Nat} {S:List Int} {W:List Nat} {no:Bool} {R:Nat→Prop} (h:cO w lb S W no R) (hb:Below w.heap.size w w'):cO w' lb S W no R:=by
 obtain⟨so,sc,wo,wc,h,rfl⟩:=h
 exact⟨so,sc,wo,wc,h.keep fun k q=>hb.block k (h.rows k q).2,rfl⟩
theorem zj (w:World) (lb:Nat) (S:List Int) (W:List Nat) (no:Bool) (R:Nat→Prop) (h:cO w lb S W no R):
 Calls Tryz.prog 47 #[.pointer (some ⟨lb,0,none⟩)] w fun e w'=>e= .returned (.int .i64 (if no=true then 2 else if W=[]then 1 else 3))∧w'=w:=by
 obtain⟨so,sc,wo,wc,h,rfl⟩:=h
 have s1:=ah h.blk 1
 have s2:=ah h.blk 2
 have sz:=af h.blk
 simp only[List.getElem?_toArray,List.getElem?_cons_zero,List.getElem?_cons_succ]at s1 s2
 clear h
 cases no with
 | true=>
  go_enter Tryz.func47,Tryz.ntmps47
  go_wp2_with fail
  go_ret
  exact⟨rfl,rfl⟩
 | false=>
  cases W with
  | nil=>
   go_enter Tryz.func47,Tryz.ntmps47
   go_wp2_with fail
   go_ret
   exact⟨rfl,rfl⟩
  | cons x W=>
   have t1:decide (0<W.length+1)=true:=by simp
   have t2:decide ((0:Int)<(W.length:Int)+1)=true:=by simp
   go_enter Tryz.func47,Tryz.ntmps47
   go_wp2_with fail
   go_ret
   exact⟨by simp,rfl⟩
theorem Bw (w:World) (lb:Nat) (S:List Int) (W:List Nat) (no:Bool) (R:Nat→Prop) (n:Nat) (h:cO w lb S W no R) (hl:W.length≤100000000):
 Calls Tryz.prog 83 #[.pointer (some ⟨lb,0,none⟩),.int .i64 (n:Int)] w fun e w'=>e= .returned (.bool (decide (n∈W)))∧w'=w:=by
 obtain⟨so,sc,wo,wc,h,rfl⟩:=h
 have s1:=ah h.blk 1
 have sz:=af h.blk
 simp only[List.getElem?_toArray,List.getElem?_cons_zero,List.getElem?_cons_succ]at s1
 have H:=hide h
 clear h
 go_enter Tryz.func83,Tryz.ntmps83
 go_wp2_with fail
 go_loopg [12] W.length (fun k iv wr=>∃j:Nat,k+j=W.length∧iv= .int .i64 (j:Int)∧wr=w∧n∉W.take j)
 case atStart=>exact⟨0,by omega,rfl,rfl,by simp⟩
 case round=>
  obtain⟨j,hkj,rfl,rfl,hno⟩:=hrel
  by_cases hlt:j<W.length
  ·obtain⟨g,hg⟩:∃g,wo=some ⟨g,0,none⟩:=by
    rcases(ae H).wown.2 with⟨q,q2⟩ | ⟨g,cp,cur,q,_⟩
    ·omega
    ·simp only[Value.slice.injEq]at q
     exact⟨g,q.1⟩
   subst hg
   have f0:wr.cell? ⟨g,j,none⟩=some (.int .i64 (W[j]:Int)):=by
    rw[(ae H).wown.cellAt j (by omega),List.getElem?_map,List.getElem?_eq_getElem hlt]
    rfl
   have gz:=((ae H).wown.lt g rfl).2
   have i0:(0:Int)≤(j:Int):=by omega
   have i1:(j:Int)<(W.length:Int):=by omega
   by_cases he:W[j]=n
   ·have oZ:=hide (show n∈W from he ▸ List.getElem_mem hlt)
    rw[he]at f0
    clear he hno hkj
    go_wp2_with fail
    go_ret
    exact⟨by rw[decide_eq_true (ae oZ)];rfl,rfl⟩
   ·have gf:=hide hno
    have HE:=hide he
    have ba:=hide hlt
    have aW:=hide hkj
    have t1:(((W[j]:Nat):Int) == ((n:Nat):Int))=false:=by simp;omega
    have HM:=hide (show W.take (j+1)=W.take j++[W[j]]by rw[List.take_add_one,List.getElem?_eq_getElem hlt];rfl)
    generalize hm:W[j]=m at*
    clear he hno hkj hm
    go_wp2_with fail
    go_roundg (gk - 1)
    case measure=>have:=ae aW;have:=ae ba;omega
    case rel=>
     refine⟨j+1,by have:=ae aW;have:=ae ba;omega,by go_num,rfl,?_⟩
     rw[ae HM]
     simp only[List.mem_append,List.mem_singleton,not_or]
     exact⟨ae gf,fun q=>ae HE q.symm⟩
  ·have FI:n∉W:=by rwa [List.take_of_length_le (by omega)]at hno
   have gf:=hide FI
   clear hno FI
   obtain rfl:j=W.length:=by omega
   go_wp2_with fail
   go_ret
   exact⟨by rw[decide_eq_false (ae gf)];rfl,rfl⟩
theorem jC.TE {w W w1:World} {lb:Nat} {S:List Int} {T:List Nat} {no:Bool} {so:Option Addr} {sc:Nat} {wo:Option Addr} {wc:Nat} (h:jC w lb S T no so sc wo wc) (hW:Below w.heap.size w W) {g cap' n:Nat}
 (hown:w1.ownsRow (lb+1) 3 1 (.slice (some ⟨g,0,none⟩) (T.length+1) cap') (T.length+1) (T.map aJ++[aJ n])) (hg:W.grownBy w1 (Value.slice wo T.length wc).ownBlock) (hat:(Value.slice wo T.length wc).ownBlock=some g∨w.heap.size≤g):
 jC (w1.setCell ⟨lb,1,none⟩ (.slice (some ⟨g,0,none⟩) (T.length+1) cap')) lb S (T++[n]) no so sc (some ⟨g,0,none⟩) cap'∧aq (eY lb so wo) (eY lb so (some ⟨g,0,none⟩)) w (w1.setCell ⟨lb,1,none⟩ (.slice (some ⟨g,0,none⟩) (T.length+1) cap')):=by
 have hz:=hW.size
 have s0:=af h.blk
 have keep:∀k,k<w.heap.size→k≠lb→(∀p,wo=some p→k≠p.block)→(w1.setCell ⟨lb,1,none⟩ (.slice (some ⟨g,0,none⟩) (T.length+1) cap')).heap[k]?=w.heap[k]?:=fun k h1 h2 h3=>by
  rw[aC _ _ _ _ h2,hg.block k (by omega) (iQ h3),hW.block k h1]
 have row:∀k,eY lb so (some ⟨g,0,none⟩) k→eY lb so wo k∨w.heap.size≤k:=by
  rintro k (e | e | ⟨p,q,e⟩)
  ·exact Or.inl (Or.inl e)
  ·exact Or.inl (Or.inr (Or.inl e))
  ·cases q
   dsimp only at e
   rcases hat with a | a
   ·left
    right
    right
    cases wo with
    | none=>simp[Value.ownBlock]at a
    | some s=>simp[Value.ownBlock]at a;exact⟨s,rfl,by omega⟩
   ·right;omega
 have keepR:∀k,k<w.heap.size→¬eY lb so wo k→(w1.setCell ⟨lb,1,none⟩ (.slice (some ⟨g,0,none⟩) (T.length+1) cap')).heap[k]?=w.heap[k]?:=fun k hk hr=>keep k hk (fun e=>hr (Or.inl e)) (fun p q e=>hr (Or.inr (Or.inr ⟨p,q,e⟩)))
 refine⟨⟨?_,?_,?_,?_⟩,⟨hg.os.trans hW.os,hg.tape.trans hW.tape,hg.output.trans hW.output,by rw[bS];have:=hg.size;omega,keepR,row⟩⟩
 ·have q0:w1.heap[lb]?=some (.cells #[.slice so S.length sc,.slice wo T.length wc,.bool no] 102 (0,0)):=by
   rw[hg.block lb (by omega) (iQ (fun p q e=>by have:=h.wown.lt p.block (by rw[q];rfl);omega)),hW.block lb s0]
   exact h.blk
  have:=aw q0 1 (.slice (some ⟨g,0,none⟩) (T.length+1) cap')
  simpa using this
 ·refine ai h.sown (fun k q=>keep k (h.sown.lt k q).2 (by have:=(h.sown.lt k q).1;omega) (fun p e r=> ?_))
  cases so with
  | none=>simp[Value.ownBlock]at q
  | some s=>simp[Value.ownBlock]at q;exact h.apart s p rfl e (by omega)
 ·have:=ai hown (w':=w1.setCell ⟨lb,1,none⟩ (.slice (some ⟨g,0,none⟩) (T.length+1) cap')) (fun k q=>aC _ _ _ _ (by have:=(hown.lt k q).1;omega))
  simpa using this
 ·intro p q hp hq
  cases hq
  have hsp:=(h.sown.lt p.block (by rw[hp];rfl)).2
  rcases hat with a | a
  ·cases wo with
   | none=>simp[Value.ownBlock]at a
   | some s=>simp[Value.ownBlock]at a;have:=h.apart p s hp rfl;dsimp only;omega
  ·dsimp only;omega
def yj (T:List Nat) (n:Nat):List Nat:=if n∈T then T else T++[n]
theorem sO (w:World) (lb:Nat) (S:List Int) (T:List Nat) (no:Bool) (R:Nat→Prop) (n:Nat) (h:cO w lb S T no R) (hl:T.length≤100000000):
 Calls Tryz.prog 126 #[.pointer (some ⟨lb,0,none⟩),.int .i64 (n:Int)] w fun e w'=>e= .returned (.tuple #[])∧∃R',cO w' lb S (yj T n) no R'∧aq R R' w w':=by
 have HF:=hide (Bw w lb S T no R n h hl)
 have HA:=hide h
 obtain⟨so,sc,wo,wc,h,rfl⟩:=h
 have s1:=ah h.blk 1
 have sf:=au h.blk 1
 have sz:=af h.blk
 simp only[List.getElem?_toArray,List.getElem?_cons_zero,List.getElem?_cons_succ]at s1
 have H:=hide h
 have sP:=hide (show some lb≠(Value.slice wo T.length wc).ownBlock from fun q=>by have:=(h.wown.lt lb q.symm).1;omega)
 obtain⟨tj,hj,hy0,hy1,hy2⟩:=info_parts infoIn
 clear h
 by_cases hm:n∈T
 ·have HM:=hide hm
  rw[decide_eq_true hm]at HF
  clear hm
  go_enter Tryz.func126,Tryz.ntmps126
  go_wp2_with fail
  refine(ae HF).mono ?_
  rintro e w2 ⟨rfl,rfl⟩
  go_wp2_with fail
  go_end0
  refine⟨rfl,_,?_,aq.of_below (Below.refl _ _)⟩
  unfold yj
  rw[if_pos (ae HM)]
  exact ae HA
 ·have HM:=hide hm
  rw[decide_eq_false hm]at HF
  clear hm
  go_enter Tryz.func126,Tryz.ntmps126
  go_wp2_with fail
  refine(ae HF).mono ?_
  rintro e w2 ⟨rfl,rfl⟩
  go_wp2_with (at_builtin;go_must (refine wpList_append_own_at _ rfl (.tmp 12) (.tmp 14) 25 rfl (lb+1) 3 tj (.int .i64 0) 1 8 Tryz.underlying25 hj hy0 hy1 hy2 rfl (by decide) _ T.length (T.map aJ) rfl ((ae H).wown.alloc _) ⟨w2.heap.size,0,none⟩ 1 1 [.int .i64 (n:Int)] rfl rfl (ju _ _ _ _ rfl) (by simp[Value.oneCell']) (by unfold maxLen;omega) (by omega) (by simp;omega) ?_);go_must (intro v' w7 hown' hgrow _ hat;obtain⟨g',cap',hv'⟩:=sN hown';subst hv';have HN:=hide ((ae H).TE ((Below.refl _ _).alloc (Nat.le_refl _) _) (n:=n) hown' hgrow (by rcases hat with q | q;exact Or.inl q.symm;(right;simp[Value.ownBlock]at q;omega)));have k1:=(hgrow.cell_far ⟨lb,1,none⟩ (by simp;omega) (ae sP)).trans ((World.cell?_alloc_past _ _ _ sz).trans s1);have k3:w7.frozen? ⟨lb,1,none⟩=false:=(by have:=au (ae HN).1.blk 1;rwa [World.frozen?_setCell]at this);have zz7:lb<w7.heap.size:=(by have:=af (ae HN).1.blk;rwa [bS]at this);clear hown' hgrow hat))
  go_end0
  refine⟨rfl,_,?_,(ae HN).2⟩
  unfold yj
  rw[if_neg (ae HM)]
  exact⟨_,_,_,_,(ae HN).1,rfl⟩
theorem jC.bad {w:World} {lb:Nat} {S:List Int} {T:List Nat} {no:Bool} {so:Option Addr} {sc:Nat} {wo:Option Addr} {wc:Nat} (h:jC w lb S T no so sc wo wc):jC (w.setCell ⟨lb,2,none⟩ (.bool true)) lb S T true so sc wo wc∧aq (eY lb so wo) (eY lb so wo) w (w.setCell ⟨lb,2,none⟩ (.bool true)):=by
 refine⟨⟨?_,ai h.sown (fun g q=>aC _ _ _ _ (by have:=(h.sown.lt g q).1;omega)),ai h.wown (fun g q=>aC _ _ _ _ (by have:=(h.wown.lt g q).1;omega)),h.apart⟩,rfl,rfl,rfl,by rw[bS];exact Nat.le_refl _,fun k _ hr=>aC _ _ _ _ (fun e=>hr (Or.inl e)),fun _ q=>Or.inl q⟩
 have:=aw h.blk 2 (.bool true)
 simpa using this
theorem cO.rows {w:World} {lb:Nat} {S:List Int} {T:List Nat} {no:Bool} {R:Nat→Prop} (h:cO w lb S T no R):∀k,R k→lb≤k∧k<w.heap.size:=by
 obtain⟨so,sc,wo,wc,h,rfl⟩:=h
 exact h.rows
theorem cO.under {w w' u:World} {lb:Nat} {S:List Int} {T:List Nat} {no:Bool} {R R':Nat→Prop} (h:cO w lb S T no R) (hf:aq R R' w w') (hu:Below u.heap.size u w) (hl:u.heap.size≤lb):Below u.heap.size u w':=
 ⟨hf.os.trans hu.os,hf.tape.trans hu.tape,hf.output.trans hu.output,Nat.le_trans hu.size hf.size,fun k hk=>(hf.block k (by have:=hu.size;omega) (fun q=>by have:=(h.rows k q).1;omega)).trans (hu.block k hk)⟩
theorem Hu {x y:ByteArray} (h:x.toList=y.toList):x=y:=by
 rw[ByteArray.toList_eq,ByteArray.toList_eq]at h
 exact ByteArray.ext (Array.ext' h)
theorem jC.P5 {w W w1:World} {lb:Nat} {S:List Int} {T:List Nat} {no:Bool} {so:Option Addr} {sc:Nat} {wo:Option Addr} {wc:Nat} (h:jC w lb S T no so sc wo wc) (hW:Below w.heap.size w W) {g cap':Nat} {n:Int}
 (hown:w1.ownsRow (lb+1) 3 1 (.slice (some ⟨g,0,none⟩) (S.length+1) cap') (S.length+1) (S.map fT++[fT n])) (hg:W.grownBy w1 (Value.slice so S.length sc).ownBlock) (hat:(Value.slice so S.length sc).ownBlock=some g∨w.heap.size≤g):
 jC (w1.setCell ⟨lb,0,none⟩ (.slice (some ⟨g,0,none⟩) (S.length+1) cap')) lb (S++[n]) T no (some ⟨g,0,none⟩) cap' wo wc∧aq (eY lb so wo) (eY lb (some ⟨g,0,none⟩) wo) w (w1.setCell ⟨lb,0,none⟩ (.slice (some ⟨g,0,none⟩) (S.length+1) cap')):=by
 have hz:=hW.size
 have s0:=af h.blk
 have keep:∀k,k<w.heap.size→k≠lb→(∀p,so=some p→k≠p.block)→(w1.setCell ⟨lb,0,none⟩ (.slice (some ⟨g,0,none⟩) (S.length+1) cap')).heap[k]?=w.heap[k]?:=fun k h1 h2 h3=>by
  rw[aC _ _ _ _ h2,hg.block k (by omega) (iQ h3),hW.block k h1]
 have row:∀k,eY lb (some ⟨g,0,none⟩) wo k→eY lb so wo k∨w.heap.size≤k:=by
  rintro k (e | ⟨p,q,e⟩ | e)
  ·exact Or.inl (Or.inl e)
  ·cases q
   dsimp only at e
   rcases hat with a | a
   ·left
    right
    left
    cases so with
    | none=>simp[Value.ownBlock]at a
    | some s=>simp[Value.ownBlock]at a;exact⟨s,rfl,by omega⟩
   ·right;omega
  ·exact Or.inl (Or.inr (Or.inr e))
 have keepR:∀k,k<w.heap.size→¬eY lb so wo k→(w1.setCell ⟨lb,0,none⟩ (.slice (some ⟨g,0,none⟩) (S.length+1) cap')).heap[k]?=w.heap[k]?:=fun k hk hr=>keep k hk (fun e=>hr (Or.inl e)) (fun p q e=>hr (Or.inr (Or.inl ⟨p,q,e⟩)))
 refine⟨⟨?_,?_,?_,?_⟩,⟨hg.os.trans hW.os,hg.tape.trans hW.tape,hg.output.trans hW.output,by rw[bS];have:=hg.size;omega,keepR,row⟩⟩
 ·have q0:w1.heap[lb]?=some (.cells #[.slice so S.length sc,.slice wo T.length wc,.bool no] 102 (0,0)):=by
   rw[hg.block lb (by omega) (iQ (fun p q e=>by have:=h.sown.lt p.block (by rw[q];rfl);omega)),hW.block lb s0]
   exact h.blk
  have:=aw q0 0 (.slice (some ⟨g,0,none⟩) (S.length+1) cap')
  simpa using this
 ·have:=ai hown (w':=w1.setCell ⟨lb,0,none⟩ (.slice (some ⟨g,0,none⟩) (S.length+1) cap')) (fun k q=>aC _ _ _ _ (by have:=(hown.lt k q).1;omega))
  simpa using this
 ·refine ai h.wown (fun k q=>keep k (h.wown.lt k q).2 (by have:=(h.wown.lt k q).1;omega) (fun p e r=> ?_))
  cases wo with
  | none=>simp[Value.ownBlock]at q
  | some s=>simp[Value.ownBlock]at q;exact h.apart p s e rfl (by omega)
 ·intro p q hp hq
  cases hp
  have hsp:=(h.wown.lt q.block (by rw[hq];rfl)).2
  rcases hat with a | a
  ·cases so with
   | none=>simp[Value.ownBlock]at a
   | some s=>simp[Value.ownBlock]at a;have:=h.apart s q rfl hq;dsimp only;omega
  ·dsimp only;omega
theorem jC.put {w:World} {lb:Nat} {S:List Int} {T:List Nat} {no:Bool} {g sc:Nat} {wo:Option Addr} {wc:Nat} (h:jC w lb S T no (some ⟨g,0,none⟩) sc wo wc) {i:Nat} (_hi:i<S.length) (n:Int):
 jC (w.setCell ⟨g,i,none⟩ (.int .i64 n)) lb (S.set i n) T no (some ⟨g,0,none⟩) sc wo wc∧aq (eY lb (some ⟨g,0,none⟩) wo) (eY lb (some ⟨g,0,none⟩) wo) w (w.setCell ⟨g,i,none⟩ (.int .i64 n)):=by
 have hg:=h.sown.lt g rfl
 refine⟨⟨?_,?_,ai h.wown (fun k q=>aC _ _ _ _ (fun e=> ?_)),h.apart⟩,rfl,rfl,rfl,by rw[bS];exact Nat.le_refl _,fun k _ hr=>aC _ _ _ _ (fun e=>hr (Or.inr (Or.inl ⟨_,rfl,e⟩))),fun _ q=>Or.inl q⟩
 ·rw[aC _ _ _ _ (by omega),List.length_set]
  exact h.blk
 ·rcases h.sown.2 with⟨q,_⟩ | ⟨g',cap,cur,q1,q2,q3,q4,q5,q6,q7⟩
  ·cases q
  ·simp only[Value.slice.injEq,Option.some.injEq,Addr.mk.injEq]at q1
   obtain⟨⟨rfl,_,_⟩,_,rfl⟩:=q1
   refine⟨by simp,Or.inr ⟨g,sc,cur.setIfInBounds i (.int .i64 n),by rw[List.length_set],q2,by exact aw q3 i (.int .i64 n),by rw[List.length_set];exact q4,q5,by simp[q6],?_⟩⟩
   rw[List.length_set,List.map_set,←q7,Array.toList_setIfInBounds,Nat.mul_one,List.take_set]
   rfl
 ·cases wo with
  | none=>simp[Value.ownBlock]at q
  | some s=>simp[Value.ownBlock]at q;exact h.apart ⟨g,0,none⟩ s rfl rfl (by dsimp only at e⊢;omega)
end Go.Proofs.YthfjnfcekeknlabGreatDoor
