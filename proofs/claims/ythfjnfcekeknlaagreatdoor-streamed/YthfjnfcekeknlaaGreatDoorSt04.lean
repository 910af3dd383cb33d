import Derived.Test.YthfjnfcekeknlaaGreatDoorSt02
set_option maxHeartbeats 8000000
set_option maxRecDepth 100000
namespace Go.Proofs.YthfjnfcekeknlaaGreatDoor
open Go.RowKit
theorem fJ (w:World) (rb:Nat) (s:ByteArray) (l:List Za.Tok) (ns:List ByteArray) (nv:Value) (e0:Int) (h:St w rb s l ns nv e0) (h0:(Za.hd l).kind≠0):
 Calls Tryz.prog 77 #[.pointer (some ⟨rb,0,none⟩)] w fun e w'=>e= .returned (.tuple #[])∧St w' rb s l.tail ns nv e0∧KA rb [rb] w w':=by
 have HS:=hide h
 obtain⟨⟨c0,c1,c2,c3,c4,c5,f1,f2,f3,f4,f5⟩,own,chain,⟨p,isn⟩,few,short,signs,pos,lt⟩:=h
 have hfit:(Za.hd l).pos+(Za.hd l).text.size≤s.size:=by rw[isn];exact Za.rR
 have hmx:s.size≤maxLen:=by unfold maxLen;omega
 have hz:0<w.heap.size:=by omega
 have hC:=hide chain
 have HG:=hide signs
 have hw:IntKind.i64.wrap (((Za.hd l).pos:Int)+((Za.hd l).text.size:Int))=((Za.hd l).pos:Int)+((Za.hd l).text.size:Int):=by rw[IntWalk.i64_in _ ⟨by omega,by omega⟩]
 have HP:=hide (show ((Za.hd l).pos:Int)+((Za.hd l).text.size:Int)=(((Za.hd l).pos+(Za.hd l).text.size:Nat):Int)by omega)
 clear chain own isn few signs
 go_enter Tryz.func77,Tryz.ntmps77
 go_wp2
 go_region_with (go_at_call 38;rw[ae HP];refine(vw s ((Za.hd l).pos+(Za.hd l).text.size) _ hmx hfit ((ae HG).draws 1) hz).mono ?_;rintro e w1 ⟨rfl,hb⟩;obtain⟨d0,d1,d2,d3,d4,d5,g1,g2,g3,g4,g5⟩:=(ae HS).rd.below (Below.trans (Below.refl _ _).drew hb) lt)
 all_goals
  go_wp2
  go_end0
  exact⟨rfl,J5 (ae HS) h0 (Below.trans (Below.refl _ _).drew hb)⟩
theorem dA (w:World) (rb:Nat) (s:ByteArray) (l:List Za.Tok) (ns:List ByteArray) (nv:Value) (e0:Int) (f:Bool) (h:St w rb s l ns nv e0) (h0:f=true→(Za.hd l).kind≠0):
 Calls Tryz.prog 79 #[.pointer (some ⟨rb,0,none⟩),.bool f] w fun e w'=>e= .returned (.bool f)∧St w' rb s (if f then l.tail else l) ns nv (if f then e0 else 2)∧KA rb [rb] w w':=by
 have H:=hide h
 clear h
 cases f
 ·go_enter Tryz.func79,Tryz.ntmps79
  go_wp2_with (go_at_call 82;refine(bT _ _ _ _ _ _ _ 2 (ae H)).mono ?_;rintro e w1 ⟨rfl,hs,hk⟩;have HS:=hide hs;have HK:=hide hk;clear hs hk)
  go_ret
  exact⟨rfl,ae HS,ae HK⟩
 ·have h0':=hide (h0 rfl)
  clear h0
  go_enter Tryz.func79,Tryz.ntmps79
  go_wp2_with (go_at_call 77;refine(fJ _ _ _ _ _ _ _ (ae H) (ae h0')).mono ?_;rintro e w1 ⟨rfl,hs,hk⟩;have HS:=hide hs;have HK:=hide hk;clear hs hk)
  go_ret
  exact⟨rfl,ae HS,ae HK⟩
theorem yR (w:World) (rb:Nat) (s:ByteArray) (l:List Za.Tok) (ns:List ByteArray) (nv:Value) (e0:Int) (c m:Nat) (h:St w rb s l ns nv e0) (h0:(Za.hd l).kind≠0):
 Calls Tryz.prog 81 #[.pointer (some ⟨rb,0,none⟩),.int .i64 (c:Int),.int .i64 (m:Int)] w fun e w'=>e= .returned (.bool (decide (c<m)))∧St w' rb s (if c<m then l.tail else l) ns nv (if c<m then e0 else 3)∧KA rb [rb] w w':=by
 have H:=hide h
 have h0':=hide h0
 clear h h0
 by_cases hc:c<m
 ·rw[if_pos hc,if_pos hc]
  go_enter Tryz.func81,Tryz.ntmps81
  go_wp2_with (go_at_call 77;refine(fJ _ _ _ _ _ _ _ (ae H) (ae h0')).mono ?_;rintro e w1 ⟨rfl,hs,hk⟩;have HS:=hide hs;have HK:=hide hk;clear hs hk)
  go_ret
  exact⟨cu (by simp[hc]),ae HS,ae HK⟩
 ·rw[if_neg hc,if_neg hc]
  go_enter Tryz.func81,Tryz.ntmps81
  go_wp2_with (go_at_call 82;refine(bT _ _ _ _ _ _ _ 3 (ae H)).mono ?_;rintro e w1 ⟨rfl,hs,hk⟩;have HS:=hide hs;have HK:=hide hk;clear hs hk)
  go_ret
  exact⟨cu (by simp;omega),ae HS,ae HK⟩
def dN (d:Nat) (t:Za.Tok):Nat:=if Za.begins t=true then(if t.kind=4∧6<t.text.size∨8<d then 3 else 0)else 2
theorem Kb {d:Nat} {t:Za.Tok} (h:¬(t.kind=2∨t.kind=3∨t.kind=4)):dN d t=2:=by
 unfold dN Za.begins;rw[if_neg];simp;omega
theorem ET {d:Nat} {t:Za.Tok} (h:t.kind=2∨t.kind=3∨t.kind=4) (b:t.kind=4∧6<t.text.size∨8<d):dN d t=3:=by
 unfold dN Za.begins;rw[if_pos,if_pos b];simp;omega
theorem GK {d:Nat} {t:Za.Tok} (h:t.kind=2∨t.kind=3∨t.kind=4) (b:¬(t.kind=4∧6<t.text.size∨8<d)):dN d t=0:=by
 unfold dN Za.begins;rw[if_pos,if_neg b];simp;omega
theorem GL (w:World) (rb:Nat) (s:ByteArray) (l:List Za.Tok) (ns:List ByteArray) (nv:Value) (e0:Int) (d k z:Nat) (h:St w rb s l ns nv e0) (hkk:(Za.hd l).kind=k) (hzz:(Za.hd l).text.size=z) (hz:z≤240) (m:Nat)
 (hm:(m=2∧¬(k=2∨k=3∨k=4))∨(m=3∧(k=2∨k=3∨k=4)∧(k=4∧6<z∨8<d))):
 Calls Tryz.prog 129 #[.pointer (some ⟨rb,0,none⟩),.int .i64 (d:Int)] w fun e w'=>e= .returned (.bool false)∧St w' rb s l ns nv (m:Int)∧KA rb [rb] w w':=by
 have H:=hide h
 obtain⟨⟨c0,c1,c2,c3,c4,c5,f1,f2,f3,f4,f5⟩,own,chain,isn,few,short,signs,pos,lt⟩:=h
 clear own chain isn few short signs pos lt c0 c2 c4 c5 f1 f2 f3 f4 f5
 rw[hkk]at c1
 generalize (Za.hd l).text=tx at c3 hzz
 clear hkk
 subst hzz
 rcases hm with⟨rfl,hn⟩ | ⟨rfl,hk,hb⟩
 ·have n2:((k:Int) != 2)=true:=by simp;omega
  have n3:((k:Int) != 3)=true:=by simp;omega
  have n4:((k:Int) != 4)=true:=by simp;omega
  clear hn
  go_enter Tryz.func129,Tryz.ntmps129
  go_wp2_with (go_at_call 82;refine(bT _ _ _ _ _ _ _ 2 (ae H)).mono ?_;rintro e w1 ⟨rfl,hs,hk⟩;have HS:=hide hs;have HK:=hide hk;clear hs hk)
  go_ret
  exact⟨rfl,ae HS,ae HK⟩
 ·rcases hk with rfl | rfl | rfl
  ·have Pj:8<d:=by omega
   clear hb
   go_enter Tryz.func129,Tryz.ntmps129
   go_wp2_with (go_at_call 82;refine(bT _ _ _ _ _ _ _ 3 (ae H)).mono ?_;rintro e w1 ⟨rfl,hs,hk⟩;have HS:=hide hs;have HK:=hide hk;clear hs hk)
   go_ret
   exact⟨rfl,ae HS,ae HK⟩
  ·have Pj:8<d:=by omega
   clear hb
   go_enter Tryz.func129,Tryz.ntmps129
   go_wp2_with (go_at_call 82;refine(bT _ _ _ _ _ _ _ 3 (ae H)).mono ?_;rintro e w1 ⟨rfl,hs,hk⟩;have HS:=hide hs;have HK:=hide hk;clear hs hk)
   go_ret
   exact⟨rfl,ae HS,ae HK⟩
  ·by_cases h6:6<tx.size
   ·clear hb
    go_enter Tryz.func129,Tryz.ntmps129
    go_wp2_with (go_at_call 82;refine(bT _ _ _ _ _ _ _ 3 (ae H)).mono ?_;rintro e w1 ⟨rfl,hs,hk⟩;have HS:=hide hs;have HK:=hide hk;clear hs hk)
    go_ret
    exact⟨rfl,ae HS,ae HK⟩
   ·have Pj:8<d:=by omega
    clear hb
    go_enter Tryz.func129,Tryz.ntmps129
    go_wp2_with (go_at_call 82;refine(bT _ _ _ _ _ _ _ 3 (ae H)).mono ?_;rintro e w1 ⟨rfl,hs,hk⟩;have HS:=hide hs;have HK:=hide hk;clear hs hk)
    go_ret
    exact⟨rfl,ae HS,ae HK⟩
theorem NU (w:World) (rb:Nat) (s:ByteArray) (l:List Za.Tok) (ns:List ByteArray) (nv:Value) (e0:Int) (d k z:Nat) (h:St w rb s l ns nv e0) (hkk:(Za.hd l).kind=k) (hzz:(Za.hd l).text.size=z) (hz:z≤240)
 (hk:k=2∨k=3∨k=4) (hn:¬(k=4∧6<z∨8<d)):
 Calls Tryz.prog 129 #[.pointer (some ⟨rb,0,none⟩),.int .i64 (d:Int)] w fun e w'=>e= .returned (.bool true)∧w'=w:=by
 obtain⟨⟨c0,c1,c2,c3,c4,c5,f1,f2,f3,f4,f5⟩,own,chain,isn,few,short,signs,pos,lt⟩:=h
 clear own chain isn few short signs pos lt c0 c2 c4 c5 f1 f2 f3 f4 f5
 rw[hkk]at c1
 generalize (Za.hd l).text=tx at c3 hzz
 clear hkk
 subst hzz
 have Pj:d≤8:=by omega
 rcases hk with rfl | rfl | rfl
 ·clear hn
  go_enter Tryz.func129,Tryz.ntmps129
  go_wp2_with fail
  go_ret
  exact⟨rfl,rfl⟩
 ·clear hn
  go_enter Tryz.func129,Tryz.ntmps129
  go_wp2_with fail
  go_ret
  exact⟨rfl,rfl⟩
 ·have h6:tx.size≤6:=by omega
  clear hn
  go_enter Tryz.func129,Tryz.ntmps129
  go_wp2_with fail
  go_ret
  exact⟨rfl,rfl⟩
theorem jo (w:World) (rb:Nat) (s:ByteArray) (l:List Za.Tok) (ns:List ByteArray) (nv:Value) (e0:Int) (d:Nat) (h:St w rb s l ns nv e0):
 Calls Tryz.prog 129 #[.pointer (some ⟨rb,0,none⟩),.int .i64 (d:Int)] w fun e w'=>e= .returned (.bool (dN d (Za.hd l) == 0))∧St w' rb s l ns nv (if dN d (Za.hd l)=0 then e0 else(dN d (Za.hd l):Int))∧KA rb [rb] w w':=by
 have hz:(Za.hd l).text.size≤240:=by obtain⟨p,e⟩:=h.isNext;have h1:=h.short;have h2:=@Za.rR s p;rw[e];omega
 by_cases hk:(Za.hd l).kind=2∨(Za.hd l).kind=3∨(Za.hd l).kind=4
 ·by_cases hb:(Za.hd l).kind=4∧6<(Za.hd l).text.size∨8<d
  ·rw[ET hk hb]
   exact GL w rb s l ns nv e0 d _ _ h rfl rfl hz 3 (Or.inr ⟨rfl,hk,hb⟩)
  ·rw[GK hk hb]
   refine(NU w rb s l ns nv e0 d _ _ h rfl rfl hz hk hb).mono ?_
   rintro e w' ⟨rfl,rfl⟩
   exact⟨rfl,h,KA.refl _ _ _⟩
 ·rw[Kb hk]
  exact GL w rb s l ns nv e0 d _ _ h rfl rfl hz 2 (Or.inl ⟨rfl,hk⟩)
def aR (ns:List ByteArray):List (List UInt8):=ns.map fun b=>b.toList
theorem NV {ns:List ByteArray} {k:Nat} {x:List UInt8} (h:k<ns.length) (he:ns[k].toList=x) (hno:∀j (hj:j<ns.length),j<k→ns[j].toList≠x):(aR ns).idxOf x=k:=by
 unfold aR
 induction ns generalizing k with
 | nil=>simp at h
 | cons u us ih=>
  rw[List.map_cons]
  cases k with
  | zero=>rw[List.idxOf_cons];simp at he;simp[he]
  | succ k=>
   have h0:u.toList≠x:=hno 0 (by simp) (by omega)
   rw[List.idxOf_cons]
   simp only[beq_iff_eq,h0,cond_eq_ite,if_false]
   have:=ih (k:=k) (by simpa using h) (by simpa using he) (fun j hj q=>by have:=hno (j+1) (by simpa using hj) (by omega);simpa using this)
   rw[this]
theorem Pk {ns:List ByteArray} {k:Nat} {x:List UInt8} (h:k<ns.length) (he:ns[k].toList=x):Za.cW (aR ns) x=aR ns:=by
 unfold Za.cW
 rw[if_pos]
 subst he
 exact List.mem_map.2 ⟨ns[k],by simp,rfl⟩
theorem NW {ns:List ByteArray} {x:List UInt8} (hno:∀j (hj:j<ns.length),ns[j].toList≠x):x∉aR ns:=by
 intro q
 obtain⟨u,hu,rfl⟩:=List.mem_map.1 q
 obtain⟨i,hi,rfl⟩:=List.getElem_of_mem hu
 exact hno i hi rfl
theorem NY {ns:List ByteArray} {g:ByteArray} (h:g.toList∉aR ns):aR (ns++[g])=Za.cW (aR ns) g.toList∧(aR ns).idxOf g.toList=ns.length:=by
 unfold Za.cW
 rw[if_neg h,List.idxOf_eq_length h]
 simp[aR]
structure AV where
 k:Int
 val:Int
 tx:ByteArray
 ao:Option Addr
 n:Nat
 cap:Nat
def gq (a:AV):List Value:=[.int .i64 a.k,.int .i64 a.val,.string a.tx,.slice a.ao a.n a.cap]
def ak (k:Nat):Int:=if k=3 then 1 else if k=4 then 2 else 3
def lG (N:List (List UInt8)) (a:AV) (t:Za.Tm):Prop:=a.k=ak t.kind∧a.n=t.args.length∧(t.kind=3→t.text.toList∈N∧a.val=(N.idxOf t.text.toList:Int))∧(t.kind=4→a.val=(Za.numOf t.text:Int)∧t.text.size≤6∧a.tx=⟨#[]⟩)∧(t.kind=2→a.tx=t.text)∧(t.kind=2∨t.kind=3∨t.kind=4)∧t.text.size≤240∧t.args.length≤3
def RA:Nat→List (List UInt8)→(Nat→Prop)→World→AV→Za.Tm→Prop
 | 0,_,_,_,_,_=>False
 | f+1,N,P,w,a,t=>lG N a t∧(t.args≠[]→∃(g:Nat) (us:List AV) (cs:Array Value),a.ao=some ⟨g,0,none⟩∧P g∧w.heap[g]?=some (.cells cs 76 (0,0))∧cs.toList.take (us.length*4)=us.flatMap gq∧bK (RA f N P w) us t.args)
theorem RA.keep {N:List (List UInt8)} {P Q:Nat→Prop} {w w':World} (hk:∀(g:Nat) (cs:Array Value),P g→w.heap[g]?=some (.cells cs 76 (0,0))→(∃k r,cs.toList= .int .i64 k :: r)→w'.heap[g]?=some (.cells cs 76 (0,0))∧Q g):∀{f:Nat} {a:AV} {t:Za.Tm},RA f N P w a t→RA f N Q w' a t
 | f+1,_,_,⟨h,q⟩=>⟨h,fun n=>by
  obtain⟨g,us,cs,h1,h2,h3,h4,h5⟩:=q n
  have hi:∃k r,cs.toList= .int .i64 k :: r:=by
   cases us with
   | nil=>have:=h5.length;simp at this;exact absurd (List.length_eq_zero_iff.1 this.symm) n
   | cons u us=>
    cases hc:cs.toList with
    | nil=>rw[hc]at h4;simp[gq]at h4
    | cons c r=>
     rw[hc]at h4
     simp only[List.length_cons,Nat.add_mul,Nat.one_mul,List.flatMap_cons,gq,List.cons_append,List.take_succ_cons]at h4
     injection h4 with h4 _
     exact⟨_,r,by rw[h4]⟩
  obtain⟨r1,r2⟩:=hk g cs h2 h3 hi
  exact⟨g,us,cs,h1,r2,r1,h4,h5.imp fun _ _=>RA.keep hk⟩⟩
theorem RA.imp {N:List (List UInt8)} {P Q:Nat→Prop} {w:World} {f:Nat} {a:AV} {t:Za.Tm} (h:RA f N P w a t) (hk:∀g,P g→g<w.heap.size→Q g):RA f N Q w a t:=
 h.keep fun g _ hp hg _=>⟨hg,hk g hp (Array.getElem?_eq_some_iff.1 hg).1⟩
theorem RA.set {N:List (List UInt8)} {P:Nat→Prop} {w:World} {f:Nat} {a:AV} {t:Za.Tm} (h:RA f N P w a t) {b:Nat} (hP:∀g,P g→g≠b) (o:Nat) (v:Value):RA f N P (w.setCell ⟨b,o,none⟩ v) a t:=
 h.keep fun g _ hp hg _=>⟨(Below.heap_setCell _ _ _ _ (fun e=>hP g hp e)).trans hg,hp⟩
theorem lG.more {N:List (List UInt8)} {a:AV} {t:Za.Tm} (h:lG N a t) (M:List (List UInt8)):lG (N++M) a t:=
 ⟨h.1,h.2.1,fun k=>⟨List.mem_append_left _ (h.2.2.1 k).1,by rw[(h.2.2.1 k).2,List.idxOf_append,if_pos (h.2.2.1 k).1]⟩,h.2.2.2⟩
theorem RA.more {P:Nat→Prop} {w:World} {N:List (List UInt8)} (M:List (List UInt8)):∀{f:Nat} {a:AV} {t:Za.Tm},RA f N P w a t→RA f (N++M) P w a t
 | f+1,_,_,⟨h,q⟩=>⟨h.more M,fun n=>by
  obtain⟨g,us,cs,h1,h2,h3,h4,h5⟩:=q n
  exact⟨g,us,cs,h1,h2,h3,h4,h5.imp fun _ _=>RA.more M⟩⟩
theorem RA.mZ {P:Nat→Prop} {w:World} {N:List (List UInt8)}:∀{f:Nat} {a:AV} {t:Za.Tm},RA f N P w a t→Za.mZ f t
 | f+1,a,t,⟨h,q⟩=>by
  obtain⟨h1,h2,h3,h4,h5,h6,h7,h8⟩:=h
  refine⟨h7,h8,fun k=>(h4 k).2.1,?_⟩
  intro u hu
  obtain⟨g,us,cs,_,_,_,_,ha⟩:=q (fun e=>by rw[e]at hu;cases hu)
  have:∀(us:List AV) (ts:List Za.Tm),bK (RA f N P w) us ts→∀u∈ts,Za.mZ f u:=by
   intro us
   induction us with
   | nil=>intro ts ha u hu;cases ts with
    | nil=>cases hu
    | cons t ts=>exact ha.elim
   | cons v us ih=>intro ts ha u hu;cases ts with
    | nil=>cases hu
    | cons t ts=>
     rcases List.mem_cons.1 hu with rfl | hu
     ·exact RA.mZ ha.1
     ·exact ih ts ha.2 u hu
  exact this us t.args ha u hu
structure TA (f:Nat) (ns ns':List ByteArray) (w w':World) (val:Int) (tx:ByteArray) (ao:Option Addr) (cap:Nat) (t:Za.Tm):Prop where
 rep:RA f (aR ns') (fun g=>w.heap.size≤g) w' ⟨ak t.kind,val,tx,ao,t.args.length,cap⟩ t
 nms:aR ns'=Za.namesF f (aR ns) t
theorem RA.leaf {f:Nat} {N:List (List UInt8)} {P:Nat→Prop} {w:World} {a:AV} {t:Za.Tm} (h:RA f N P w a t):lG N a t:=by
 cases f with
 | zero=>exact h.elim
 | succ f=>exact h.1
theorem TA.txt {f:Nat} {ns ns':List ByteArray} {w w':World} {val:Int} {tx:ByteArray} {ao:Option Addr} {cap:Nat} {t:Za.Tm} (h:TA f ns ns' w w' val tx ao cap t):t.kind=2→tx=t.text:=h.rep.leaf.2.2.2.2.1
theorem RA.one {f:Nat} {N:List (List UInt8)} {P:Nat→Prop} {w:World} {a:AV} {t:Za.Tm} (h:lG N a t) (h0:t.args=[]):RA (f+1) N P w a t:=⟨h,fun q=>absurd h0 q⟩
structure AA (f:Nat) (ns ns':List ByteArray) (w w':World) (ao:Option Addr) (ts:List Za.Tm):Prop where
 rows:ts≠[]→∃(g:Nat) (us:List AV) (cs:Array Value),ao=some ⟨g,0,none⟩∧w.heap.size≤g∧w'.heap[g]?=some (.cells cs 76 (0,0))∧cs.toList.take (us.length*4)=us.flatMap gq∧bK (RA f (aR ns') (fun g=>w.heap.size≤g) w') us ts
 nms:aR ns'=ts.foldl (Za.namesF f) (aR ns)
 few:ts.length≤3
def aJ (w w':World):Prop:=∀(g:Nat) (cs:Array Value),w.heap[g]?=some (.cells cs 76 (0,0))→(∃k r,cs.toList= .int .i64 k :: r)→w'.heap[g]?=some (.cells cs 76 (0,0))
theorem aJ.trans {u v w:World} (h:aJ u v) (k:aJ v w):aJ u w:=fun g cs a b=>k g cs (h g cs a b) b
theorem aJ.below {w w':World} (h:Below w.heap.size w w'):aJ w w':=fun g _ a _=>(h.block g (Array.getElem?_eq_some_iff.1 a).1).trans a
theorem aJ.ka {w w':World} {rb:Nat} {s:ByteArray} {l:List Za.Tok} {ns:List ByteArray} {nv:Value} {e:Int} (hs:St w rb s l ns nv e) (hk:KA rb [rb] w w'):aJ w w':=fun g cs hg hi=>(hk.block g (Array.getElem?_eq_some_iff.1 hg).1 (fun q=>by
 obtain rfl:g=rb:=by simpa using q
 obtain⟨k,r,hc⟩:=hi
 have:=hs.rd.c0
 simp[World.cell?,hg]at this
 rw[←Array.getElem?_toList,hc]at this
 simp at this) (Or.inr (by unfold aL;rw[hg];simp))).trans hg
theorem aJ.grown {w w':World} {b0:Nat} {T:TypeId} {sz:Nat} {av:Value} {n:Nat} {xs:List Value} (ho:w.ownsRow b0 T sz av n xs) (hg:w.grownBy w' av.ownBlock) (hT:T≠76:=by decide):aJ w w':=fun g cs hc _=>(hg.block g (Array.getElem?_eq_some_iff.1 hc).1 (fun q=>by
 rcases ho.2 with⟨rfl,_⟩ | ⟨g',cap,cur,rfl,_,c,_⟩
 ·simp[Value.ownBlock]at q
 ·simp[Value.ownBlock]at q
  subst q
  rw[c]at hc;simp at hc;exact hT hc.2)).trans hc
theorem Tryz.info9:(Tryz.prog.info? 9).map (fun i=>(i.zero,i.size,i.bytes))=some (some (.string ⟨#[]⟩),1,16):=by kernel_rfl
theorem Dn (g:ByteArray) (w:World) (hg:g.size≤6):Calls Tryz.prog 131 #[.string g] w fun e w'=>e= .returned (.int .i64 (Za.numOf g:Int))∧w'=w:=by
 go_enter Tryz.func131,Tryz.ntmps131
 go_wp2
 go_loop [3,4] (fun v i=>∃(k:Nat),k≤g.size∧i= .int .i64 k∧v= .int .i64 (Za.lC (g.toList.take k):Int)) (fun _ i=>g.size - (intOf i).toNat)
 case atStart=>exact⟨0,by omega,rfl,rfl⟩
 case round=>
  obtain⟨k,hk,rfl,rfl⟩:=hrel
  by_cases hlt:k<g.size
  ·go_wp2
   go_round
   case rel=>
    refine⟨k+1,by omega,by go_num,?_⟩
    rw[JY hlt]
    have hb:=Za.DC (g.toList.take k) (by simp;omega)
    generalize Za.lC (g.toList.take k)=v at*
    have hc:g[k].toNat<256:=g[k].toNat_lt
    generalize g[k].toNat=c at*
    congr 1
    unfold wrap64
    omega
   case measure=>simp[intOf];omega
  ·go_wp2
   go_ret
   obtain rfl:k=g.size:=by omega
   exact⟨by rw[NJ];rfl,rfl⟩
theorem wP {w w1:World} {rb:Nat} {s:ByteArray} {l:List Za.Tok} {ns:List ByteArray} {nv:Value} {e0:Int} {o:Obj} (h:St w rb s l ns nv e0) (hg:(w.alloc o).grownBy w1 nv.ownBlock):
 w1.cell? ⟨rb,4,none⟩=some nv∧w1.frozen? ⟨rb,4,none⟩=false:=by
 have hne:some rb≠nv.ownBlock:=fun e=>by have:=(h.own.lt rb e.symm).1;omega
 have hb:=hg.block rb (by simp;have:=h.lt;omega) hne
 exact⟨by rw[World.cell?_of_block (a:=⟨rb,4,none⟩) hb,World.cell?_alloc_past _ _ _ h.lt];exact h.rd.c4,by rw[World.frozen?_of_block (a:=⟨rb,4,none⟩) hb,World.frozen?_alloc_past _ _ _ h.lt];exact h.rd.f4⟩
theorem ed {w:World} {b:Nat} {e:TypeId} {sz:Nat} {v:Value} {n:Nat} {xs:List Value} (h:w.ownsRow b e sz v (n+1) xs):∃g cap,v= .slice (some ⟨g,0,none⟩) (n+1) cap∧cap≤maxLen:=by
 rcases h.2 with⟨_,q⟩ | ⟨g,cap,cur,q,_,_,_,m,_⟩
 ·omega
 ·exact⟨g,cap,q,m⟩
theorem yS {w w1:World} {rb:Nat} {s:ByteArray} {l:List Za.Tok} {ns:List ByteArray} {nv nv':Value} {e0:Int} {g:ByteArray} {o:Obj} (h:St w rb s l ns nv e0) (few:ns.length+l.length<1000)
 (hown:w1.ownsRow (rb+1) 9 1 nv' (ns.length+1) (ns.map Value.string++[.string g])) (hg:(w.alloc o).grownBy w1 nv.ownBlock):
 St (w1.setCell ⟨rb,4,none⟩ nv') rb s l (ns++[g]) nv' e0∧KA rb [rb] w (w1.setCell ⟨rb,4,none⟩ nv'):=by
 have hka:KA rb [rb] w w1:=((KA.refl rb [rb] w).alloc o).grown hg (fun k hk=>by
  have h1:=h.own.lt k hk
  rcases h.own.2 with⟨rfl,_⟩ | ⟨q,cap,cur,rfl,hb,hq,_⟩
  ·simp[Value.ownBlock]at hk
  ·simp[Value.ownBlock]at hk
   subst hk
   refine Or.inr (Or.inr ⟨by omega,?_⟩)
   unfold aL
   rw[Below.heap_alloc _ _ _ h1.2,hq])
 have hne:some rb≠nv.ownBlock:=fun e=>by have:=(h.own.lt rb e.symm).1;omega
 have cell:∀i v,w.cell? ⟨rb,i,none⟩=some v→w1.cell? ⟨rb,i,none⟩=some v:=fun i v q=>by
  rw[World.cell?_of_block (a:=⟨rb,i,none⟩) (hg.block rb (by simp;have:=h.lt;omega) hne),World.cell?_alloc_past _ _ _ h.lt];exact q
 have fro:∀i,w.frozen? ⟨rb,i,none⟩=false→w1.frozen? ⟨rb,i,none⟩=false:=fun i q=>by
  rw[World.frozen?_of_block (a:=⟨rb,i,none⟩) (hg.block rb (by simp;have:=h.lt;omega) hne),World.frozen?_alloc_past _ _ _ h.lt];exact q
 have z:rb≠0:=by have:=h.pos;omega
 have sg:dD w1:=h.signs.ka hka (by have:=h.lt;omega) (by simp;omega) h.pos
 obtain⟨⟨c0,c1,c2,c3,c4,c5,f1,f2,f3,f4,f5⟩,own,chain,isn,few1,short,signs,pos,lt⟩:=h
 have d0:=cell _ _ c0
 have d1:=cell _ _ c1
 have d2:=cell _ _ c2
 have d3:=cell _ _ c3
 have d4:=cell _ _ c4
 have d5:=cell _ _ c5
 have g1:=fro _ f1
 have g2:=fro _ f2
 have g3:=fro _ f3
 have g4:=fro _ f4
 have g5:=fro _ f5
 refine⟨⟨⟨by go_cell,by go_cell,by go_cell,by go_cell,by go_cell,by go_cell,by go_cell,by go_cell,by go_cell,by go_cell,by go_cell⟩,?_,chain,isn,by simp;omega,short,sg.setCell (by exact z) _,pos,by have:=hka.size;simp;omega⟩,hka.fB (by simp) _⟩
 have:=jZ hown 4 nv'
 simpa using this
def U0 (rb:Nat) (s:ByteArray) (l:List Za.Tok) (ns:List ByteArray) (g:ByteArray) (e0:Int) (w:World) (e:Ending) (w':World):Prop:=∃(ns':List ByteArray) (nv':Value),e= .returned (.int .i64 ((aR ns).idxOf g.toList:Int))∧aR ns'=Za.cW (aR ns) g.toList∧St w' rb s l ns' nv' e0∧KA rb [rb] w w'
theorem A0 (w:World) (rb:Nat) (s:ByteArray) (l:List Za.Tok) (ns:List ByteArray) (nv:Value) (e0:Int) (g:ByteArray) (h:St w rb s l ns nv e0) (few:ns.length+l.length<1000):
 Calls Tryz.prog 130 #[.pointer (some ⟨rb,0,none⟩),.string g] w fun e w'=>U0 rb s l ns g e0 w e w':=by
 have H:=hide h
 obtain⟨i0,hi,hz0,hz1,hz2⟩:=info_parts Tryz.info9
 have hnl:ns.length≤1000:=by have:=h.few;omega
 rcases h.own.2 with⟨gD,hn0⟩ | ⟨q,cap,cur,gD,hb,hq,hcap,hmx,_⟩
 ·subst gD
  obtain rfl:ns=[]:=List.length_eq_zero_iff.1 hn0
  have hown:=h.own
  obtain⟨⟨c0,c1,c2,c3,c4,c5,f1,f2,f3,f4,f5⟩,own,chain,isn,few1,short,signs,pos,lt⟩:=h
  clear own chain isn few1 short signs
  go_enter Tryz.func130,Tryz.ntmps130
  go_wp2
  refine wp_loop_rounds 1 ?_
  rw[rounds_succ]
  go_wp2_with (first | (at_builtin;refine wpList_append_own _ rfl (.tmp 26) (.tmp 28) 29 rfl (rb+1) 9 i0 (.string ⟨#[]⟩) 1 16 Tryz.underlying29 hi hz0 hz1 hz2 rfl (by decide) _ 0 [] rfl (hown.alloc _) ⟨w.heap.size,0,none⟩ 1 1 [.string g] rfl rfl (by intro j u hj;match j,hj with | 0,hj=>simp at hj;subst hj;simp[Addr.add]) (by intro u hu;simp at hu;subst hu;rfl) (by unfold maxLen;omega) (by omega) (by simp;omega) ?_;intro v' w1 hown' hgrow _;have R:=hide (yS (ae H) few hown' hgrow);obtain⟨d4,x4⟩:=wP (ae H) hgrow;obtain⟨g',cap',hv,hcm⟩:=ed hown';rw[hv]at R⊢;clear hown' hgrow hv))
  go_ret
  exact⟨_,_,rfl,by simp[aR,Za.cW],(ae R).1,(ae R).2⟩
 ·subst gD
  have hown:=h.own
  have hcell:=hide (fun k (hk:k<ns.length)=>(h.own.cellAt k (by omega)))
  obtain⟨⟨c0,c1,c2,c3,c4,c5,f1,f2,f3,f4,f5⟩,own,chain,isn,few1,short,signs,pos,lt⟩:=h
  clear own chain isn few1 short signs hq
  go_enter Tryz.func130,Tryz.ntmps130
  go_wp2
  go_loop [12] (fun v=>∃k:Nat,k≤ns.length∧v= .int .i64 k∧∀m (hm:m<ns.length),m<k→ns[m].toList≠g.toList) (fun v=>ns.length - (intOf v).toNat)
  case atStart=>exact⟨0,by omega,rfl,fun m _ q=>by omega⟩
  case round=>
   obtain⟨k,hk,rfl,hno⟩:=hrel
   have gF:=hide hno
   clear hno
   by_cases hlt:k<ns.length
   ·have hc:w.cell? ⟨q,k,none⟩=some (.string ns[k]):=by rw[ae hcell k hlt];simp[hlt]
    cases he:(ns[k].toList == g.toList)
    ·go_wp2_with fail
     go_round
     case rel=>exact⟨k+1,by omega,by go_num,fun m hm q=>by
      by_cases hmk:m=k
      ·subst hmk;simpa using he
      ·exact ae gF m hm (by omega)⟩
     case measure=>simp[intOf];omega
    ·go_wp2_with fail
     go_ret
     exact⟨ns,_,by rw[NV hlt (by simpa using he) (ae gF)];rfl,(Pk hlt (by simpa using he)).symm,ae H,KA.refl _ _ _⟩
   ·go_wp2_with (first | (at_builtin;refine wpList_append_own _ rfl (.tmp 26) (.tmp 28) 29 rfl (rb+1) 9 i0 (.string ⟨#[]⟩) 1 16 Tryz.underlying29 hi hz0 hz1 hz2 rfl (by decide) _ ns.length _ rfl (hown.alloc _) ⟨w.heap.size,0,none⟩ 1 1 [.string g] rfl rfl (by intro j u hj;match j,hj with | 0,hj=>simp at hj;subst hj;simp[Addr.add]) (by intro u hu;simp at hu;subst hu;rfl) (by unfold maxLen;omega) (by omega) (by simp;omega) ?_;intro v' w1 hown' hgrow _;have R:=hide (yS (ae H) few hown' hgrow);obtain⟨d4,x4⟩:=wP (ae H) hgrow;obtain⟨g',cap',hv,hcm⟩:=ed hown';rw[hv]at R⊢;clear hown' hgrow hv))
    go_ret
    obtain⟨q1,q2⟩:=NY (NW fun m hm=>ae gF m hm (by omega))
    exact⟨_,_,by rw[q2];simp,q1,(ae R).1,(ae R).2⟩
def pI (f rb:Nat) (s:ByteArray) (ns:List ByteArray) (r:Za.dH Za.Tm) (w:World) (e:Ending) (w':World):Prop:=match r with
 | .inl (er,pos)=>∃(k val:Int) (tx:ByteArray) (ao:Option Addr) (n cap:Nat) (l':List Za.Tok) (ns':List ByteArray) (nv':Value),
  e= .returned (.tuple #[.agg #[.int .i64 k,.int .i64 val,.string tx,.slice ao n cap],.bool false])∧St w' rb s l' ns' nv' (er:Int)∧(Za.hd l').pos=pos∧KA rb [rb] w w'
 | .inr (t,l1)=>∃(val:Int) (tx:ByteArray) (ao:Option Addr) (cap:Nat) (ns':List ByteArray) (nv':Value) (e':Int),
  e= .returned (.tuple #[.agg #[.int .i64 (ak t.kind),.int .i64 val,.string tx,.slice ao t.args.length cap],.bool true])∧TA f ns ns' w w' val tx ao cap t∧St w' rb s l1 ns' nv' e'∧KA rb [rb] w w'
def tX (f rb:Nat) (s:ByteArray) (ns:List ByteArray) (r:Za.dH (List Za.Tm)) (w:World) (e:Ending) (w':World):Prop:=match r with
 | .inl (er,pos)=>∃(l':List Za.Tok) (ns':List ByteArray) (nv':Value) (ao:Option Addr) (n cap:Nat),
  e= .returned (.tuple #[.slice ao n cap,.bool false])∧St w' rb s l' ns' nv' (er:Int)∧(Za.hd l').pos=pos∧KA rb [rb] w w'
 | .inr (ts,l1)=>∃(ao:Option Addr) (cap:Nat) (ns':List ByteArray) (nv':Value) (e':Int),
  e= .returned (.tuple #[.slice ao ts.length cap,.bool true])∧AA f ns ns' w w' ao ts∧St w' rb s l1 ns' nv' e'∧KA rb [rb] w w'
def jB (f:Nat) (l:List Za.Tok):Za.dH (List Za.Tm):=if Za.sees l [40]=true then Za.bG (Za.term f) 2 l.tail else .inr ([],l)
def qQ (f:Nat):Prop:=∀(w:World) (rb:Nat) (s:ByteArray) (l:List Za.Tok) (ns:List ByteArray) (nv:Value) (e0:Int) (d:Nat),f+d=9→St w rb s l ns nv e0→
 Calls Tryz.prog 75 #[.pointer (some ⟨rb,0,none⟩),.int .i64 (d:Int)] w fun e w'=>pI f rb s ns (Za.term f l) w e w'
def vz (f:Nat):Prop:=∀(w:World) (rb:Nat) (s:ByteArray) (l:List Za.Tok) (ns:List ByteArray) (nv:Value) (e0:Int) (d:Nat),f+d=9→St w rb s l ns nv e0→
 Calls Tryz.prog 132 #[.pointer (some ⟨rb,0,none⟩),.int .i64 (d:Int)] w fun e w'=>tX f rb s ns (jB f l) w e w'
theorem GM (l:List Za.Tok):Za.term 0 l=Za.bad (dN 9 (Za.hd l)) l:=by
 unfold Za.term dN
 by_cases h:Za.begins (Za.hd l)=true
 ·rw[if_pos h,if_pos h,if_pos (by omega)]
 ·rw[if_neg h,if_neg h]
theorem SS (t:Za.Tok):dN 9 t≠0:=by unfold dN;split<;>(try rw[if_pos (by omega)])<;>omega
theorem Kc {f d:Nat} {l:List Za.Tok} (hd:d≤8) (h:dN d (Za.hd l)≠0):Za.term (f+1) l=Za.bad (dN d (Za.hd l)) l:=by
 unfold Za.term dN at*
 by_cases hb:Za.begins (Za.hd l)=true
 ·rw[if_pos hb]at h⊢
  rw[if_pos hb]
  by_cases hc:(Za.hd l).kind=4∧6<(Za.hd l).text.size
  ·rw[if_pos hc,if_pos (Or.inl hc)]
  ·rw[if_neg (by omega)]at h;exact absurd rfl h
 ·rw[if_neg hb,if_neg hb]
theorem GN {f d:Nat} {l:List Za.Tok} (_h:dN d (Za.hd l)=0) (hk:(Za.hd l).kind=2):Za.term (f+1) l=match jB f l.tail with
 | .inl e=> .inl e
 | .inr (ts,l2)=> .inr (⟨2,(Za.hd l).text,ts⟩,l2):=by
 have hb:Za.begins (Za.hd l)=true:=by simp[Za.begins,hk]
 rw[Za.term,if_pos hb,if_neg (by omega),if_pos hk]
 unfold jB
 by_cases hs:Za.sees l.tail [40]=true
 ·rw[if_pos hs,if_pos hs]
  rcases Za.bG (Za.term f) 2 l.tail.tail with e | ⟨ts,l2⟩<;>rfl
 ·rw[if_neg hs,if_neg hs]
theorem yT {f d:Nat} {l:List Za.Tok} (h:dN d (Za.hd l)=0) (hk:(Za.hd l).kind=3∨(Za.hd l).kind=4):Za.term (f+1) l= .inr (⟨(Za.hd l).kind,(Za.hd l).text,[]⟩,l.tail):=by
 have hb:Za.begins (Za.hd l)=true:=by rcases hk with e | e<;>simp[Za.begins,e]
 unfold dN at h
 rw[if_pos hb]at h
 have hc:¬((Za.hd l).kind=4∧6<(Za.hd l).text.size):=fun q=>by rw[if_pos (Or.inl q)]at h;omega
 rw[Za.term,if_pos hb,if_neg hc,if_neg (by omega)]
theorem GP {d:Nat} {t:Za.Tok} (h:dN d t=0):t.kind=2∨t.kind=3∨t.kind=4:=by
 unfold dN at h
 by_cases hb:Za.begins t=true
 ·simpa [Za.begins,or_assoc] using hb
 ·rw[if_neg hb]at h;omega
theorem KA.loc {rb:Nat} {W w:World} (hk:KA rb [rb] W w) {b i:Nat} {v:Value} (hc:W.cell? ⟨b,i,none⟩=some v) (hb:b<W.heap.size) (hne:b≠rb) (ht:aL W b≠some 9):w.cell? ⟨b,i,none⟩=some v:=
 (hk.cell (p:=⟨b,i,none⟩) hb (by simpa using hne) (Or.inr ht)).trans hc
theorem KA.EU {rb:Nat} {W w:World} (hk:KA rb [rb] W w) {b i:Nat} (hc:W.frozen? ⟨b,i,none⟩=false) (hb:b<W.heap.size) (hne:b≠rb) (ht:aL W b≠some 9):w.frozen? ⟨b,i,none⟩=false:=
 (hk.frozen (p:=⟨b,i,none⟩) hb (by simpa using hne) (Or.inr ht)).trans hc
def boxR:Obj:= .cells #[.int .i64 0,.int .i64 0,.string ⟨#[]⟩,.slice none 0 0] 76
def jR (t:Za.Tok):Obj:= .cells #[.int .i64 (t.kind:Int),.int .i64 (t.pos:Int),.string t.text] 70
structure SU (w:World) (n:Nat) (t:Za.Tok):Prop where
 r0:w.cell? ⟨n,0,none⟩=some (.int .i64 0)
 r1:w.cell? ⟨n,1,none⟩=some (.int .i64 0)
 r2:w.cell? ⟨n,2,none⟩=some (.string ⟨#[]⟩)
 r3:w.cell? ⟨n,3,none⟩=some (.slice none 0 0)
 x0:w.frozen? ⟨n,0,none⟩=false
 x1:w.frozen? ⟨n,1,none⟩=false
 x2:w.frozen? ⟨n,2,none⟩=false
 x3:w.frozen? ⟨n,3,none⟩=false
 t0:w.cell? ⟨n+1,0,none⟩=some (.int .i64 (t.kind:Int))
 t2:w.cell? ⟨n+1,2,none⟩=some (.string t.text)
theorem boxes {rb:Nat} {w w1:World} {t:Za.Tok} (hlt:rb<w.heap.size) (hk:KA rb [rb] ((w.alloc boxR).alloc (jR t)) w1):SU w1 w.heap.size t:=by
 have ty0:aL ((w.alloc boxR).alloc (jR t)) w.heap.size≠some 9:=by
  unfold aL;rw[Below.heap_alloc _ _ _ (by simp),heap_alloc_new];simp[boxR]
 have ty1:aL ((w.alloc boxR).alloc (jR t)) (w.heap.size+1)≠some 9:=by
  unfold aL
  have:=heap_alloc_new (w.alloc boxR) (jR t)
  rw[World.size_alloc]at this
  rw[this];simp[jR]
 refine⟨hk.loc ?_ ?_ ?_ ty0,hk.loc ?_ ?_ ?_ ty0,hk.loc ?_ ?_ ?_ ty0,hk.loc ?_ ?_ ?_ ty0,hk.EU ?_ ?_ ?_ ty0,hk.EU ?_ ?_ ?_ ty0,hk.EU ?_ ?_ ?_ ty0,hk.EU ?_ ?_ ?_ ty0,hk.loc ?_ ?_ ?_ ty1,hk.loc ?_ ?_ ?_ ty1⟩
 all_goals first | (simp;done) | omega | (simp;omega) | (simp[boxR,jR];done)
theorem gG (w:World) (a:Addr) (v:Value) (k:Nat):aL (w.setCell a v) k=aL w k:=by
 unfold aL World.setCell
 simp only[Array.getElem?_modify]
 by_cases h:a.block=k
 ·rw[if_pos h]
  cases hq:w.heap[k]? with
  | none=>rfl
  | some o=>cases o<;>rfl
 ·rw[if_neg h]
theorem KA.ty {b:Nat} {X:List Nat} {w w':World} (h:KA b X w w') {k:Nat} (hk:k<w.heap.size) (hX:k∉X) (ht:aL w k≠some 9):aL w' k=aL w k:=by
 unfold aL;rw[h.block k hk hX (Or.inr ht)]
theorem St.wQ {w:World} {rb:Nat} {s:ByteArray} {l:List Za.Tok} {ns:List ByteArray} {nv:Value} {e:Int} (h:St w rb s l ns nv e) {b:Nat} (hb:b≠rb) (h0:b≠0) (ht:aL w b≠some 9) (i:Nat) (v:Value):St (w.setCell ⟨b,i,none⟩ v) rb s l ns nv e:=by
 have k:∀q,q≠b→(w.setCell ⟨b,i,none⟩ v).heap[q]?=w.heap[q]?:=fun q hq=>Below.heap_setCell _ _ _ _ hq
 have c:∀o,(w.setCell ⟨b,i,none⟩ v).cell? ⟨rb,o,none⟩=w.cell? ⟨rb,o,none⟩:=fun o=>World.cell?_of_block (k rb (Ne.symm hb))
 have f:∀o,(w.setCell ⟨b,i,none⟩ v).frozen? ⟨rb,o,none⟩=w.frozen? ⟨rb,o,none⟩:=fun o=>World.frozen?_of_block (k rb (Ne.symm hb))
 obtain⟨⟨c0,c1,c2,c3,c4,c5,f1,f2,f3,f4,f5⟩,own,chain,isn,few,short,signs,pos,lt⟩:=h
 refine⟨⟨(c 0).trans c0,(c 1).trans c1,(c 2).trans c2,(c 3).trans c3,(c 4).trans c4,(c 5).trans c5,(f 1).trans f1,(f 2).trans f2,(f 3).trans f3,(f 4).trans f4,(f 5).trans f5⟩,⟨own.1,?_⟩,chain,isn,few,short,signs.setCell h0 _,pos,by simpa using lt⟩
 rcases own.2 with q | ⟨g,cap,cur,a,b',c',d⟩
 ·exact Or.inl q
 ·refine Or.inr ⟨g,cap,cur,a,b',?_,d⟩
  rw[k g (fun e=>ht (by rw[←e];unfold aL;rw[c']))]
  exact c'
theorem qq {w w1:World} {rb:Nat} {s:ByteArray} {l':List Za.Tok} {ns:List ByteArray} {nv:Value} {e:Int} {t:Za.Tok} (hk:KA rb [rb] ((w.alloc boxR).alloc (jR t)) w1) (h:St w1 rb s l' ns nv e) (hlt:rb<w.heap.size) (v0 v1 v2 v3:Value):
 St ((((w1.setCell ⟨w.heap.size,0,none⟩ v0).setCell ⟨w.heap.size,1,none⟩ v1).setCell ⟨w.heap.size,2,none⟩ v2).setCell ⟨w.heap.size,3,none⟩ v3) rb s l' ns nv e∧
 KA rb [rb] w ((((w1.setCell ⟨w.heap.size,0,none⟩ v0).setCell ⟨w.heap.size,1,none⟩ v1).setCell ⟨w.heap.size,2,none⟩ v2).setCell ⟨w.heap.size,3,none⟩ v3):=by
 have ty0:aL ((w.alloc boxR).alloc (jR t)) w.heap.size=some 76:=by
  unfold aL;rw[Below.heap_alloc _ _ _ (by simp),heap_alloc_new];simp[boxR]
 have ne:w.heap.size≠rb:=by omega
 have n0:w.heap.size≠0:=by omega
 have ty1:aL w1 w.heap.size≠some 9:=by
  rw[hk.ty (by simp;omega) (by simpa using ne) (by rw[ty0];simp),ty0];simp
 have base:KA rb [rb] w w1:=(((KA.refl rb [rb] w).alloc _).alloc _).trans hk
 refine⟨?_,(((base.wM (Nat.le_refl _) _).wM (Nat.le_refl _) _).wM (Nat.le_refl _) _).wM (Nat.le_refl _) _⟩
 have a1:=h.wQ ne n0 ty1 0 v0
 have a2:=a1.wQ ne n0 (by rw[gG];exact ty1) 1 v1
 have a3:=a2.wQ ne n0 (by rw[gG,gG];exact ty1) 2 v2
 exact a3.wQ ne n0 (by rw[gG,gG,gG];exact ty1) 3 v3
theorem DL (w:World) (rb:Nat) (s:ByteArray) (l:List Za.Tok) (ns:List ByteArray) (nv:Value) (e0:Int) (f d:Nat) (h:St w rb s l ns nv e0) (hm:dN d (Za.hd l)≠0):
 Calls Tryz.prog 75 #[.pointer (some ⟨rb,0,none⟩),.int .i64 (d:Int)] w fun e w'=>pI f rb s ns (Za.bad (dN d (Za.hd l)) l) w e w':=by
 have hb2:Below w.heap.size w ((w.alloc boxR).alloc (jR (Za.hd l))):=((Below.refl _ _).alloc (Nat.le_refl _) _).alloc (by simp) _
 have H2:=hide (h.below hb2)
 have hlt:=h.lt
 unfold boxR jR at H2
 obtain⟨⟨c0,c1,c2,c3,c4,c5,f1,f2,f3,f4,f5⟩,own,chain,isn,few,short,signs,pos,lt⟩:=h
 clear own chain isn few short signs hb2
 have Pm:(dN d (Za.hd l) == 0)=false:=by simpa using hm
 go_enter Tryz.func75,Tryz.ntmps75
 go_wp2_with (go_at_call 129;refine(jo _ rb s l ns nv e0 d (ae H2)).mono ?_;rintro e w1 ⟨rfl,hs,hk⟩;rw[if_neg hm]at hs;obtain⟨r0,r1,r2,r3,x0,x1,x2,x3,t0,t2⟩:=boxes hlt hk;have HS:=hide hs;have HK:=hide hk;clear hs hk)
 have R:=qq (ae HK) (ae HS) hlt (.int .i64 0) (.int .i64 0) (.string ⟨#[]⟩) (.slice none 0 0)
 refine bodyPost_ret (v:= .tuple #[.agg #[.int .i64 0,.int .i64 0,.string ⟨#[]⟩,.slice none 0 0],.bool false]) (by simp[results,Tryz.results75,go_sem,r0,r1,r2,r3]) rfl ?_
 exact⟨_,_,_,_,_,_,l,ns,nv,rfl,R.1,rfl,R.2⟩
theorem St.EW {w:World} {rb:Nat} {s:ByteArray} {l:List Za.Tok} {ns:List ByteArray} {nv:Value} {e:Int} (h:St w rb s l ns nv e):(Za.hd l).text.size≤240:=by obtain⟨p,e⟩:=h.isNext;have h1:=h.short;have h2:=@Za.rR s p;rw[e];omega
theorem Ke {d:Nat} {t:Za.Tok} (h:dN d t=0) (hk:t.kind=4):t.text.size≤6:=by
 unfold dN at h
 split at h
 ·split at h
  ·cases h
  ·omega
 ·cases h
theorem Pn {f:Nat} {ns ns':List ByteArray} {w w':World} {x:ByteArray} {i:Int} (hz:x.size≤240) (hn:aR ns'=Za.cW (aR ns) x.toList) (hi:i=((aR ns).idxOf x.toList:Int)):TA (f+1) ns ns' w w' i ⟨#[]⟩ none 0 ⟨3,x,[]⟩:=by
 have hm:x.toList∈Za.cW (aR ns) x.toList:=by
  unfold Za.cW
  split
  ·assumption
  ·simp
 have hx:=Za.JZ (aR ns) [] x.toList
 rw[List.append_nil]at hx
 exact⟨RA.one ⟨rfl,rfl,fun _=>⟨by rw[hn];exact hm,by rw[hi,hn];show _=((List.idxOf x.toList _:Nat):Int);rw[hx]⟩,(fun q=>by cases q),(fun q=>by cases q),by simp,hz,by simp⟩ rfl,by rw[hn];simp[Za.namesF]⟩
theorem Po {f:Nat} {ns:List ByteArray} {w w':World} {x:ByteArray} {i:Int} (hz:x.size≤240) (h6:x.size≤6) (hi:i=(Za.numOf x:Int)):TA (f+1) ns ns w w' i ⟨#[]⟩ none 0 ⟨4,x,[]⟩:=
 ⟨RA.one ⟨rfl,rfl,(fun q=>by cases q),fun _=>⟨hi,h6,rfl⟩,(fun q=>by cases q),by simp,hz,by simp⟩ rfl,by simp[Za.namesF]⟩
def Tz (f b:Nat) (ns ns':List ByteArray) (w':World) (ao:Option Addr) (ts:List Za.Tm):Prop:=
 (ts≠[]→∃(g:Nat) (us:List AV) (cs:Array Value),ao=some ⟨g,0,none⟩∧b<g∧w'.heap[g]?=some (.cells cs 76 (0,0))∧cs.toList.take (us.length*4)=us.flatMap gq∧bK (RA f (aR ns') (fun g=>b<g) w') us ts)∧aR ns'=ts.foldl (Za.namesF f) (aR ns)∧ts.length≤3
theorem AA.up {f:Nat} {ns ns':List ByteArray} {w0 w w':World} {o1 o2:Obj} {ao:Option Addr} {ts:List Za.Tm} (h:AA f ns ns' w w' ao ts) (hz:((w0.alloc o1).alloc o2).heap.size≤w.heap.size):Tz f w0.heap.size ns ns' w' ao ts:=by
 have hz':w0.heap.size+2≤w.heap.size:=by simpa using hz
 refine⟨fun q=> ?_,h.nms,h.few⟩
 obtain⟨g,us,cs,h1,h2,h3,h4,h5⟩:=h.rows q
 exact⟨g,us,cs,h1,by omega,h3,h4,h5.imp fun _ _ r=>r.imp fun g hg _=>by omega⟩
theorem N5 {f:Nat} {ns ns':List ByteArray} {w w3:World} {x:ByteArray} {ao:Option Addr} {cap:Nat} {ts:List Za.Tm} {v0 v1 v2 v3:Value} (hz:x.size≤240) (h:Tz f w.heap.size ns ns' w3 ao ts):
 TA (f+1) ns ns' w ((((w3.setCell ⟨w.heap.size,0,none⟩ v0).setCell ⟨w.heap.size,1,none⟩ v1).setCell ⟨w.heap.size,2,none⟩ v2).setCell ⟨w.heap.size,3,none⟩ v3) 0 x ao cap ⟨2,x,ts⟩:=by
 obtain⟨h1,h2,h3⟩:=h
 refine⟨⟨⟨rfl,rfl,(fun q=>by cases q),(fun q=>by cases q),fun _=>rfl,by simp,hz,h3⟩,fun q=> ?_⟩,by rw[h2];simp[Za.namesF]⟩
 obtain⟨g,us,cs,e1,e2,e3,e4,e5⟩:=h1 q
 have k:∀(u:World) (o:Nat) (v:Value),(u.setCell ⟨w.heap.size,o,none⟩ v).heap[g]?=u.heap[g]?:=fun u o v=>Below.heap_setCell _ _ _ _ (by show g≠w.heap.size;omega)
 refine⟨g,us,cs,e1,by omega,by rw[k,k,k,k];exact e3,e4,e5.imp fun _ _ r=> ?_⟩
 exact((((r.set (fun g hg=>by omega) 0 v0).set (fun g hg=>by omega) 1 v1).set (fun g hg=>by omega) 2 v2).set (fun g hg=>by omega) 3 v3).imp fun g hg _=>by omega
theorem Kf {w:World} {rb:Nat} {s:ByteArray} {l:List Za.Tok} {ns:List ByteArray} {nv:Value} {e:Int} (h:St w rb s l ns nv e):ns.length+l.tail.length<1000:=by
 have:=h.few
 rcases l with _ | ⟨a,r⟩
 ·exact absurd h.chain (by simp[Za.dP])
 ·simp at this⊢;omega
theorem Kg (w:World) (rb:Nat) (s:ByteArray) (l:List Za.Tok) (ns:List ByteArray) (nv:Value) (e0:Int) (d f:Nat) (h:St w rb s l ns nv e0) (hm:dN d (Za.hd l)=0) (hk3:(Za.hd l).kind=3):
 Calls Tryz.prog 75 #[.pointer (some ⟨rb,0,none⟩),.int .i64 (d:Int)] w fun e w'=>pI (f+1) rb s ns (Za.term (f+1) l) w e w':=by
 rw[yT hm (Or.inl hk3),hk3]
 have hb2:Below w.heap.size w ((w.alloc boxR).alloc (jR (Za.hd l))):=((Below.refl _ _).alloc (Nat.le_refl _) _).alloc (by simp) _
 have H2:=hide (h.below hb2)
 have vA:=Kf h
 have hlt:=h.lt
 have hz:=h.EW
 have fp:=hide (show (Za.hd l).kind≠0 by omega)
 unfold boxR jR at H2
 obtain⟨⟨c0,c1,c2,c3,c4,c5,f1,f2,f3,f4,f5⟩,own,chain,isn,few,short,signs,pos,lt⟩:=h
 clear own chain isn few short signs hb2
 have Pm:(dN d (Za.hd l) == 0)=true:=by simpa using hm
 have dQ:=hide hk3
 clear hk3
 go_enter Tryz.func75,Tryz.ntmps75
 go_wp2_with fail
 refine(jo _ rb s l ns nv e0 d (ae H2)).mono ?_
 rintro e w1 ⟨rfl,hs,hk⟩
 rw[if_pos hm]at hs
 have HS:=hide hs
 have HK:=hide hk
 clear hs hk
 go_wp2_with fail
 refine(fJ _ rb s l ns nv e0 (ae HS) (ae fp)).mono ?_
 rintro e w2 ⟨rfl,hs,hk⟩
 have bV:=hide hs
 have cQ:=hide ((ae HK).trans hk)
 clear hs hk HS HK
 obtain⟨r0,r1,r2,r3,x0,x1,x2,x3,t0,t2⟩:=boxes hlt (ae cQ)
 rw[ae dQ]at t0
 go_wp2_with fail
 refine(A0 _ rb s l.tail ns nv e0 _ (ae bV) vA).mono ?_
 rintro e w3 ⟨ns',nv',rfl,kj,hs,hk⟩
 have gK:=hide kj
 generalize GQ:(((aR ns).idxOf (Za.hd l).text.toList:Nat):Int)=i
 have l9:=hide GQ
 clear kj GQ
 have dV:=hide hs
 have dQ:=hide ((ae cQ).trans hk)
 clear hs hk bV cQ r0 r1 r2 r3 x0 x1 x2 x3 t0 t2
 obtain⟨r0,r1,r2,r3,x0,x1,x2,x3,t0,t2⟩:=boxes hlt (ae dQ)
 go_wp2_with fail
 have R:=qq (ae dQ) (ae dV) hlt (.int .i64 1) (.int .i64 i) (.string ⟨#[]⟩) (.slice none 0 0)
 refine bodyPost_ret (v:= .tuple #[.agg #[.int .i64 1,.int .i64 i,.string ⟨#[]⟩,.slice none 0 0],.bool true]) (by simp[results,Tryz.results75,go_sem,r0,r1,r2,r3]) rfl ?_
 exact⟨_,_,_,_,ns',nv',e0,rfl,Pn hz (ae gK) (ae l9).symm,R.1,R.2⟩
theorem Kh (w:World) (rb:Nat) (s:ByteArray) (l:List Za.Tok) (ns:List ByteArray) (nv:Value) (e0:Int) (d f:Nat) (h:St w rb s l ns nv e0) (hm:dN d (Za.hd l)=0) (hk4:(Za.hd l).kind=4):
 Calls Tryz.prog 75 #[.pointer (some ⟨rb,0,none⟩),.int .i64 (d:Int)] w fun e w'=>pI (f+1) rb s ns (Za.term (f+1) l) w e w':=by
 rw[yT hm (Or.inr hk4),hk4]
 have hb2:Below w.heap.size w ((w.alloc boxR).alloc (jR (Za.hd l))):=((Below.refl _ _).alloc (Nat.le_refl _) _).alloc (by simp) _
 have H2:=hide (h.below hb2)
 have hlt:=h.lt
 have hz:=h.EW
 have yU:=Ke hm hk4
 have fp:=hide (show (Za.hd l).kind≠0 by omega)
 unfold boxR jR at H2
 obtain⟨⟨c0,c1,c2,c3,c4,c5,f1,f2,f3,f4,f5⟩,own,chain,isn,few,short,signs,pos,lt⟩:=h
 clear own chain isn few short signs hb2
 have Pm:(dN d (Za.hd l) == 0)=true:=by simpa using hm
 have jH:=hide hk4
 clear hk4
 go_enter Tryz.func75,Tryz.ntmps75
 go_wp2_with fail
 refine(jo _ rb s l ns nv e0 d (ae H2)).mono ?_
 rintro e w1 ⟨rfl,hs,hk⟩
 rw[if_pos hm]at hs
 have HS:=hide hs
 have HK:=hide hk
 clear hs hk
 go_wp2_with fail
 refine(fJ _ rb s l ns nv e0 (ae HS) (ae fp)).mono ?_
 rintro e w2 ⟨rfl,hs,hk⟩
 have bV:=hide hs
 have cQ:=hide ((ae HK).trans hk)
 clear hs hk HS HK
 obtain⟨r0,r1,r2,r3,x0,x1,x2,x3,t0,t2⟩:=boxes hlt (ae cQ)
 rw[ae jH]at t0
 go_wp2_with fail
 refine(Dn _ _ yU).mono ?_
 rintro e w3 ⟨rfl,rfl⟩
 generalize GQ:((Za.numOf (Za.hd l).text:Nat):Int)=i
 have l9:=hide GQ
 clear GQ
 go_wp2_with fail
 have R:=qq (ae cQ) (ae bV) hlt (.int .i64 2) (.int .i64 i) (.string ⟨#[]⟩) (.slice none 0 0)
 refine bodyPost_ret (v:= .tuple #[.agg #[.int .i64 2,.int .i64 i,.string ⟨#[]⟩,.slice none 0 0],.bool true]) (by simp[results,Tryz.results75,go_sem,r0,r1,r2,r3]) rfl ?_
 exact⟨_,_,_,_,ns,nv,e0,rfl,Po hz yU (ae l9).symm,R.1,R.2⟩
theorem Ki (f:Nat) (IH:vz f) (w:World) (rb:Nat) (s:ByteArray) (l:List Za.Tok) (ns:List ByteArray) (nv:Value) (e0:Int) (d:Nat) (pJ:f+1+d=9) (h:St w rb s l ns nv e0) (hm:dN d (Za.hd l)=0) (hk2:(Za.hd l).kind=2):
 Calls Tryz.prog 75 #[.pointer (some ⟨rb,0,none⟩),.int .i64 (d:Int)] w fun e w'=>pI (f+1) rb s ns (Za.term (f+1) l) w e w':=by
 rw[GN hm hk2]
 have hb2:Below w.heap.size w ((w.alloc boxR).alloc (jR (Za.hd l))):=((Below.refl _ _).alloc (Nat.le_refl _) _).alloc (by simp) _
 have H2:=hide (h.below hb2)
 have hlt:=h.lt
 have hz:=h.EW
 have fp:=hide (show (Za.hd l).kind≠0 by omega)
 unfold boxR jR at H2
 have I:=hide (fun w (hs:St w rb s l.tail ns nv e0)=>IH w rb s l.tail ns nv e0 (d+1) (by omega) hs)
 generalize jB f l.tail=r at I⊢
 obtain⟨⟨c0,c1,c2,c3,c4,c5,f1,f2,f3,f4,f5⟩,own,chain,isn,few,short,signs,pos,lt⟩:=h
 clear own chain isn few short signs hb2 IH
 have Pm:(dN d (Za.hd l) == 0)=true:=by simpa using hm
 have cQ:=hide hk2
 clear hk2
 rcases r with⟨er,pos⟩ | ⟨ts,l2⟩
 ·show Calls _ _ _ _ fun e w'=>pI (f+1) rb s ns (.inl (er,pos)) w e w'
  go_enter Tryz.func75,Tryz.ntmps75
  go_wp2_with fail
  refine(jo _ rb s l ns nv e0 d (ae H2)).mono ?_
  rintro e w1 ⟨rfl,hs,hk⟩
  rw[if_pos hm]at hs
  have HS:=hide hs
  have HK:=hide hk
  clear hs hk
  go_wp2_with fail
  refine(fJ _ rb s l ns nv e0 (ae HS) (ae fp)).mono ?_
  rintro e w2 ⟨rfl,hs,hk⟩
  have bV:=hide hs
  have jI:=hide ((ae HK).trans hk)
  clear hs hk HS HK
  obtain⟨r0,r1,r2,r3,x0,x1,x2,x3,t0,t2⟩:=boxes hlt (ae jI)
  rw[ae cQ]at t0
  go_wp2_with fail
  rw[show ((d:Int)+1)=((d+1:Nat):Int)by omega]
  refine(ae I _ (ae bV)).mono ?_
  clear r0 r1 r2 r3 x0 x1 x2 x3 t0 t2
  rintro e w3 ⟨l',ns',nv',ao,n,cap,rfl,hs,hpos,hk⟩
  have dV:=hide hs
  have dQ:=hide ((ae jI).trans hk)
  have HP:=hide hpos
  clear hs hk bV jI hpos
  obtain⟨r0,r1,r2,r3,x0,x1,x2,x3,t0,t2⟩:=boxes hlt (ae dQ)
  go_wp2_with fail
  have R:=qq (ae dQ) (ae dV) hlt (.int .i64 3) (.int .i64 0) (.string (Za.hd l).text) (.slice ao n cap)
  refine bodyPost_ret (v:= .tuple #[.agg #[.int .i64 3,.int .i64 0,.string (Za.hd l).text,.slice ao n cap],.bool false]) (by simp[results,Tryz.results75,go_sem,r0,r1,r2,r3]) rfl ?_
  exact⟨_,_,_,_,_,_,l',ns',nv',rfl,R.1,ae HP,R.2⟩
 ·show Calls _ _ _ _ fun e w'=>pI (f+1) rb s ns (.inr (⟨2,(Za.hd l).text,ts⟩,l2)) w e w'
  go_enter Tryz.func75,Tryz.ntmps75
  go_wp2_with fail
  refine(jo _ rb s l ns nv e0 d (ae H2)).mono ?_
  rintro e w1 ⟨rfl,hs,hk⟩
  rw[if_pos hm]at hs
  have HS:=hide hs
  have HK:=hide hk
  clear hs hk
  go_wp2_with fail
  refine(fJ _ rb s l ns nv e0 (ae HS) (ae fp)).mono ?_
  rintro e w2 ⟨rfl,hs,hk⟩
  have bV:=hide hs
  have jI:=hide ((ae HK).trans hk)
  clear hs hk HS HK
  obtain⟨r0,r1,r2,r3,x0,x1,x2,x3,t0,t2⟩:=boxes hlt (ae jI)
  rw[ae cQ]at t0
  go_wp2_with fail
  rw[show ((d:Int)+1)=((d+1:Nat):Int)by omega]
  refine(ae I _ (ae bV)).mono ?_
  clear r0 r1 r2 r3 x0 x1 x2 x3 t0 t2
  rintro e w3 ⟨ao,cap,ns',nv',e',rfl,mf,hs,hk⟩
  have GR:=hide (mf.up (ae jI).size)
  clear mf
  have dV:=hide hs
  have dQ:=hide ((ae jI).trans hk)
  clear hs hk bV jI
  obtain⟨r0,r1,r2,r3,x0,x1,x2,x3,t0,t2⟩:=boxes hlt (ae dQ)
  go_wp2_with fail
  have R:=qq (ae dQ) (ae dV) hlt (.int .i64 3) (.int .i64 0) (.string (Za.hd l).text) (.slice ao ts.length cap)
  refine bodyPost_ret (v:= .tuple #[.agg #[.int .i64 3,.int .i64 0,.string (Za.hd l).text,.slice ao ts.length cap],.bool true]) (by simp[results,Tryz.results75,go_sem,r0,r1,r2,r3]) rfl ?_
  exact⟨_,_,_,_,ns',nv',e',rfl,N5 hz (ae GR),R.1,R.2⟩
theorem GU (f:Nat) (IH:vz f):qQ (f+1):=by
 intro w rb s l ns nv e0 d pJ h
 by_cases hm:dN d (Za.hd l)=0
 ·rcases GP hm with hk | hk | hk
  ·exact Ki f IH w rb s l ns nv e0 d pJ h hm hk
  ·exact Kg w rb s l ns nv e0 d f h hm hk
  ·exact Kh w rb s l ns nv e0 d f h hm hk
 ·rw[Kc (by omega) hm]
  exact DL w rb s l ns nv e0 _ d h hm
theorem term_none:qQ 0:=by
 intro w rb s l ns nv e0 d pJ h
 obtain rfl:d=9:=by omega
 rw[GM]
 exact DL w rb s l ns nv e0 0 9 h (SS _)
theorem Tryz.info76:(Tryz.prog.info? 76).map (fun i=>(i.zero,i.size,i.bytes))=some (some (.agg #[.int .i64 0,.int .i64 0,.string ⟨#[]⟩,.slice none 0 0]),4,56):=by kernel_rfl
theorem sj {rb b0:Nat} {w w1:World} {T:TypeId} {sz:Nat} {v:Value} {n:Nat} {xs:List Value} (h:w.ownsRow b0 T sz v n xs) (hk:KA rb [rb] w w1) (hb:rb<b0) (hT:T≠9):w1.ownsRow b0 T sz v n xs:=
 ⟨h.1,h.2.imp id fun⟨g,cap,cur,a,b,c,d⟩=>⟨g,cap,cur,a,b,(hk.block g (Array.getElem?_eq_some_iff.1 c).1 (by simp;omega) (Or.inr (by unfold aL;rw[c];simpa using hT))).trans c,d⟩⟩
theorem St.grown {w w2:World} {rb:Nat} {s:ByteArray} {l:List Za.Tok} {ns:List ByteArray} {nv:Value} {e:Int} {row:Option Nat} (h:St w rb s l ns nv e) (hg:w.grownBy w2 row) (hr:∀k,row=some k→rb<k∧aL w k≠some 9):St w2 rb s l ns nv e:=by
 have k:∀q,q<w.heap.size→some q≠row→w2.heap[q]?=w.heap[q]?:=hg.block
 have mg:=k rb h.lt (fun e=>by have:=(hr rb e.symm).1;omega)
 have h0:=k 0 (by have:=h.lt;omega) (fun e=>by have:=(hr 0 e.symm).1;omega)
 have c:∀o,w2.cell? ⟨rb,o,none⟩=w.cell? ⟨rb,o,none⟩:=fun o=>World.cell?_of_block mg
 have f:∀o,w2.frozen? ⟨rb,o,none⟩=w.frozen? ⟨rb,o,none⟩:=fun o=>World.frozen?_of_block mg
 have z:∀o,w2.cell? ⟨0,o,none⟩=w.cell? ⟨0,o,none⟩:=fun o=>World.cell?_of_block h0
 obtain⟨⟨c0,c1,c2,c3,c4,c5,f1,f2,f3,f4,f5⟩,own,chain,isn,few,short,signs,pos,lt⟩:=h
 refine⟨⟨(c 0).trans c0,(c 1).trans c1,(c 2).trans c2,(c 3).trans c3,(c 4).trans c4,(c 5).trans c5,(f 1).trans f1,(f 2).trans f2,(f 3).trans f3,(f 4).trans f4,(f 5).trans f5⟩,⟨own.1,?_⟩,chain,isn,few,short,⟨(z 0).trans signs.s0,(z 1).trans signs.s1,(z 2).trans signs.s2,(z 3).trans signs.s3,(z 4).trans signs.s4⟩,pos,by have:=hg.size;omega⟩
 rcases own.2 with q | ⟨g,cap,cur,a,b',c',d⟩
 ·exact Or.inl q
 ·refine Or.inr ⟨g,cap,cur,a,b',?_,d⟩
  rw[k g (Array.getElem?_eq_some_iff.1 c').1 (fun e=>(hr g e.symm).2 (by unfold aL;rw[c']))]
  exact c'
def pre (ts:List Za.Tm) (r:Za.dH (List Za.Tm)):Za.dH (List Za.Tm):=match r with
 | .inl e=> .inl e
 | .inr (us,l2)=> .inr (ts++us,l2)
theorem pre_nil (r:Za.dH (List Za.Tm)):r=pre [] r:=by rcases r with e | ⟨us,l2⟩<;>rfl
theorem Kj {p:List Za.Tok→Za.dH Za.Tm} {k:Nat} {l:List Za.Tok} {er:Nat×Nat} (h:p l= .inl er):Za.bG p k l= .inl er:=by
 unfold Za.bG;rw[h]
theorem Kk {p:List Za.Tok→Za.dH Za.Tm} {k:Nat} {l l1:List Za.Tok} {t:Za.Tm} (h:p l= .inr (t,l1)) (hc:Za.sees l1 [44]=false):Za.bG p k l=if Za.sees l1 [41]=true then .inr ([t],l1.tail)else Za.bad 2 l1:=by
 unfold Za.bG;rw[h];simp only[hc];rfl
theorem GV {p:List Za.Tok→Za.dH Za.Tm} {l l1:List Za.Tok} {t:Za.Tm} (h:p l= .inr (t,l1)) (hc:Za.sees l1 [44]=true):Za.bG p 0 l=Za.bad 3 l1:=by
 unfold Za.bG;rw[h];simp only[hc];rfl
theorem GW {p:List Za.Tok→Za.dH Za.Tm} {k:Nat} {l l1:List Za.Tok} {t:Za.Tm} (h:p l= .inr (t,l1)) (hc:Za.sees l1 [44]=true) (ts:List Za.Tm):pre ts (Za.bG p (k+1) l)=pre (ts++[t]) (Za.bG p k l1.tail):=by
 conv=>lhs;unfold Za.bG
 rw[h];simp only[hc]
 rcases Za.bG p k l1.tail with e | ⟨us,l2⟩
 ·rfl
 ·simp[pre]
end Go.Proofs.YthfjnfcekeknlaaGreatDoor
namespace Za
def Yc (N:List (List UInt8)) (x:aC):List UInt8:=
 strF 8 N x.left++(match x.right with
  | none=>[]
  | some r=>x.sign++strF 8 N r)++(match x.last with
  | none=>[]
  | some z=>x.op++strF 8 N z)
def cg (ns:List (List UInt8)):Option Tm→List (List UInt8)
 | none=>ns
 | some t=>namesF 8 ns t
def aK (ns:List (List UInt8)) (x:aC):List (List UInt8):=cg (cg (namesF 8 ns x.left) x.right) x.last
def GX (x:aC):Prop:=mZ 8 x.left∧(∀r,x.right=some r→mZ 8 r)∧(∀z,x.last=some z→mZ 8 z)
theorem pK {ns:List (List UInt8)} {t:Option Tm} (h:∀r,t=some r→mZ 8 r):∃M,cg ns t=ns++M∧M.length≤3 ^ 8:=by
 cases t with
 | none=>exact⟨[],by simp[cg],by simp⟩
 | some r=>exact namesF_ext 8 r (h r rfl) ns
theorem wR (x:aC) (h:GX x) (ns:List (List UInt8)):∃M,aK ns x=ns++M∧M.length≤20000:=by
 obtain⟨M1,h1,l1⟩:=namesF_ext 8 x.left h.1 ns
 obtain⟨M2,h2,l2⟩:=pK (ns:=namesF 8 ns x.left) (t:=x.right) h.2.1
 obtain⟨M3,h3,l3⟩:=pK (ns:=cg (namesF 8 ns x.left) x.right) (t:=x.last) h.2.2
 refine⟨M1++(M2++M3),by unfold aK;rw[h3,h2,h1];simp,?_⟩
 simp at l1 l2 l3⊢
 omega
end Za
namespace Go.Proofs.YthfjnfcekeknlaaGreatDoor
open Go.RowKit
theorem au {w:World} {b:Nat} {cs:Array Value} {T:TypeId} (h:w.heap[b]?=some (.cells cs T (0,0))) (i:Nat) (v:Value):(w.setCell ⟨b,i,none⟩ v).heap[b]?=some (.cells (cs.setIfInBounds i v) T (0,0)):=by
 simp[World.setCell,Array.getElem?_modify,h]
theorem aB {w:World} {b:Nat} {x:Obj} (h:w.heap[b]?=some x) {b':Nat} (hne:b≠b') (i:Nat) (v:Value):(w.setCell ⟨b',i,none⟩ v).heap[b]?=some x:=(Below.heap_setCell _ _ _ _ hne).trans h
theorem A1 {w:World} {b:Nat} {T:TypeId} {c0 c1 c2 c3 c4 c5 c6 c7 c8 c9 c10 c11 c12 c13:Value} (v5 v6 v7 v8 v9:Value) (h:w.heap[b]?=some (.cells #[c0,c1,c2,c3,c4,c5,c6,c7,c8,c9,c10,c11,c12,c13] T (0,0))):(((((w.setCell ⟨b,5,none⟩ v5).setCell ⟨b,6,none⟩ v6).setCell ⟨b,7,none⟩ v7).setCell ⟨b,8,none⟩ v8).setCell ⟨b,9,none⟩ v9).heap[b]?=some (.cells #[c0,c1,c2,c3,c4,v5,v6,v7,v8,v9,c10,c11,c12,c13] T (0,0)):=by
 have:=au (au (au (au (au h 5 v5) 6 v6) 7 v7) 8 v8) 9 v9
 simpa using this
theorem wS {w:World} {b b':Nat} {x:Obj} (v5 v6 v7 v8 v9:Value) (h:w.heap[b']?=some x) (hne:b'≠b):(((((w.setCell ⟨b,5,none⟩ v5).setCell ⟨b,6,none⟩ v6).setCell ⟨b,7,none⟩ v7).setCell ⟨b,8,none⟩ v8).setCell ⟨b,9,none⟩ v9).heap[b']?=some x:=
 aB (aB (aB (aB (aB h hne 5 v5) hne 6 v6) hne 7 v7) hne 8 v8) hne 9 v9
end Go.Proofs.YthfjnfcekeknlaaGreatDoor
namespace Za
open Go
def At (s:ByteArray) (p:Nat) (x:List UInt8):Prop:=p≤s.size∧s.data.toList.drop p=x
theorem At.start (s:ByteArray):At s 0 s.data.toList:=⟨Nat.zero_le _,rfl⟩
theorem At.head {s:ByteArray} {p:Nat} {c:UInt8} {x:List UInt8} (h:At s p (c :: x)):p<s.size∧bN s p=c.toNat∧At s (p+1) x:=by
 have hl:=oL s
 have hp:p<s.size:=by
  have:=congrArg List.length h.2
  rw[List.length_drop]at this
  simp at this
  have:=h.1
  omega
 have h2:=h.2
 rw[List.drop_eq_getElem_cons (by omega)]at h2
 injection h2 with h3 h4
 exact⟨hp,by rw[gP hp,←h3,get_eq hp],by omega,h4⟩
theorem At.nil {s:ByteArray} {p:Nat} (h:At s p []):p=s.size:=by
 have hl:=oL s
 have:=congrArg List.length h.2
 rw[List.length_drop]at this
 simp at this
 have:=h.1
 omega
theorem At.more {s:ByteArray}:∀{x y:List UInt8} {p:Nat},At s p (x++y)→At s (p+x.length) y
 | [],_,_,h=>h
 | c :: x,y,p,h=>by
  have:=(At.head (c:=c) (x:=x++y) h).2.2.more
  rw[List.length_cons]
  rwa [show p+(x.length+1)=p+1+x.length by omega]
theorem At.text {s:ByteArray} {p:Nat} {x y:List UInt8} (h:At s p (x++y)):s.extract p (p+x.length)=⟨x.toArray⟩:=by
 have e:(s.extract p (p+x.length)).toList=x:=by
  rw[Lib.extract_toList,h.2,show p+x.length - p=x.length by omega]
  simp
 rw[ByteArray.toList_eq]at e
 exact ByteArray.ext (Array.ext' (by simpa using e))
def Tk (s:ByteArray) (p:Nat) (l:List Tok):Prop:=dP s l∧hd l=next s p
theorem Tk.blank {s:ByteArray} {p:Nat} {l:List Tok} {c:UInt8} {x:List UInt8} (h:Tk s p l) (ha:At s p (c :: x)) (hb:Za.blank c.toNat=true):Tk s (p+1) l∧At s (p+1) x:=by
 obtain⟨h1,h2,h3⟩:=ha.head
 exact⟨⟨h.1,h.2.trans (EP h1 (by rw[h2];exact hb))⟩,h3⟩
theorem Tk.tok {s:ByteArray} {p:Nat} {l:List Tok} {c:UInt8} {x:List UInt8} (h:Tk s p l) (ha:At s p (c :: x)) (hb:Za.blank c.toNat=false):l=⟨aO s p,p,s.extract p (cM s p)⟩ :: l.tail∧Tk s (cM s p) l.tail:=by
 obtain⟨h1,h2,h3⟩:=ha.head
 have hn:=Gz h1 (by rw[h2];exact hb)
 have hk:(hd l).kind≠0:=by
  rw[h.2,hn]
  show aO s p≠0
  rw[Ne,p9]
  omega
 have Wo:(hd l).pos+(hd l).text.size=cM s p:=by
  have e:skip s p=p:=pF (by rw[h2,hb];simp)
  rw[h.2]
  have:=@mS s p (by rw[e];exact h1)
  rw[e]at this
  exact this
 obtain⟨t1,t2,t3⟩:=h.1.tail hk
 rw[Wo]at t2
 refine⟨?_,t1,t2⟩
 rw[h.2,hn]at t3
 exact t3
theorem Tk.done {s:ByteArray} {p:Nat} {l:List Tok} (h:Tk s p l) (ha:At s p []):(hd l).kind=0:=by
 rw[h.2,kQ]
 have:=oq s p
 have:=ha.nil
 omega
theorem A2 {s:ByteArray} {k:Nat}:∀{wd rest:List UInt8} {p:Nat},At s p (wd++rest)→(∀c∈wd,cV k c.toNat=true)→(∀c r,rest=c :: r→cV k c.toNat=false)→cN s k p=p+wd.length
 | [],rest,p,h,_,hr=>by
  refine oI ?_
  cases rest with
  | nil=>have:=h.nil;omega
  | cons c r=>
   obtain⟨h1,h2,h3⟩:=At.head (c:=c) (x:=r) h
   rw[h2,hr c r rfl]
   simp
 | c :: wd,rest,p,h,hw,hr=>by
  obtain⟨h1,h2,h3⟩:=At.head (c:=c) (x:=wd++rest) h
  rw[oH h1 (by rw[h2];exact hw c (by simp)),A2 h3 (fun d hd=>hw d (by simp[hd])) hr,List.length_cons]
  omega
theorem Kl {k c:Nat} (h:cV 3 c=false) (hk:k=2∨k=3∨k=4):cV k c=false:=by
 unfold cV at h⊢
 rcases hk with rfl | rfl | rfl
 ·simp at h⊢
  exact h.1
 ·exact h
 ·simp at h⊢
  exact h.1.2
def kC (k:Nat) (x:List UInt8):Prop:=∃c r,x=c :: r∧(k=2∧low c.toNat=true∨k=3∧iH c.toNat=true∨k=4∧ik c.toNat=true)∧∀d∈x,cV k d.toNat=true
theorem N6 {c:Nat} (h:iH c=true):low c=false:=by unfold iH at h;unfold low;simp at h⊢;omega
theorem DM {c:Nat} (h:ik c=true):low c=false∧iH c=false:=by unfold ik at h;unfold low iH;simp at h⊢;omega
theorem pL {c:Nat} (h:low c=true∨iH c=true∨ik c=true):blank c=false:=by unfold low iH ik at h;unfold blank;simp at h⊢;omega
theorem Tk.word {s:ByteArray} {k p:Nat} {l:List Tok} {x rest:List UInt8} (h:Tk s p l) (hx:kC k x) (ha:At s p (x++rest)) (hr:∀c r,rest=c :: r→cV 3 c.toNat=false):l=⟨k,p,⟨x.toArray⟩⟩ :: l.tail∧Tk s (p+x.length) l.tail∧At s (p+x.length) rest:=by
 obtain⟨c,r,rfl,hc,hw⟩:=hx
 have hk:k=2∨k=3∨k=4:=by omega
 obtain⟨h1,h2,h3⟩:=At.head (c:=c) (x:=r++rest) ha
 have hb:Za.blank c.toNat=false:=by
  rcases hc with⟨_,q⟩ | ⟨_,q⟩ | ⟨_,q⟩
  ·exact pL (Or.inl q)
  ·exact pL (Or.inr (Or.inl q))
  ·exact pL (Or.inr (Or.inr q))
 have hend:=A2 (k:=k) ha hw (fun c r q=>Kl (hr c r q) hk)
 have qs:aO s p=k∧cM s p=p+(c :: r).length:=by
  rw[←hend]
  rcases hc with⟨rfl,q⟩ | ⟨rfl,q⟩ | ⟨rfl,q⟩
  ·exact yK h1 (by rw[h2];exact q)
  ·exact J2 h1 (by rw[h2];exact N6 q) (by rw[h2];exact q)
  ·exact J3 h1 (by rw[h2];exact(DM q).1) (by rw[h2];exact(DM q).2) (by rw[h2];exact q)
 obtain⟨t1,t2⟩:=h.tok ha hb
 rw[qs.1,qs.2,ha.text]at t1
 rw[qs.2]at t2
 exact⟨t1,t2,ha.more⟩
def sk (c:Nat):Bool:= !low c&& !iH c&& !ik c&& !blank c
theorem Tk.Ah {s:ByteArray} {p:Nat} {l:List Tok} {a b:UInt8} {rest:List UInt8} (h:Tk s p l) (ha:At s p (a :: b :: rest)) (hn:sk a.toNat=true) (hl:cU a.toNat b.toNat=true):l=⟨5,p,⟨#[a,b]⟩⟩ :: l.tail∧Tk s (p+2) l.tail∧At s (p+2) rest:=by
 obtain⟨h1,h2,h3⟩:=ha.head
 obtain⟨k1,k2,k3⟩:=h3.head
 unfold sk at hn
 simp only[Bool.and_eq_true,Bool.not_eq_true']at hn
 obtain⟨⟨⟨n1,n2⟩,n3⟩,n4⟩:=hn
 have hs:cr s p=2:=by unfold cr;rw[h2,k2,if_pos ⟨by omega,hl⟩]
 have qs:=yL h1 (by rw[h2];exact n1) (by rw[h2];exact n2) (by rw[h2];exact n3) (by omega)
 rw[hs]at qs
 obtain⟨t1,t2⟩:=h.tok ha n4
 rw[qs.1,qs.2,show s.extract p (p+2)=_ from At.text (x:=[a,b]) (y:=rest) ha]at t1
 rw[qs.2]at t2
 exact⟨t1,t2,k3⟩
theorem Tk.MB {s:ByteArray} {p:Nat} {l:List Tok} {a:UInt8} {rest:List UInt8} (h:Tk s p l) (ha:At s p (a :: rest)) (hn:sk a.toNat=true) (hs:fo a.toNat=true) (hl:∀c r,rest=c :: r→cU a.toNat c.toNat=false):l=⟨5,p,⟨#[a]⟩⟩ :: l.tail∧Tk s (p+1) l.tail∧At s (p+1) rest:=by
 obtain⟨h1,h2,h3⟩:=ha.head
 unfold sk at hn
 simp only[Bool.and_eq_true,Bool.not_eq_true']at hn
 obtain⟨⟨⟨n1,n2⟩,n3⟩,n4⟩:=hn
 have hs:cr s p=1:=by
  unfold cr
  rw[if_neg,if_pos ⟨h1,by rw[h2];exact hs⟩]
  rintro⟨q1,q2⟩
  cases rest with
  | nil=>have:=h3.nil;omega
  | cons c r=>
   obtain⟨k1,k2,k3⟩:=h3.head
   rw[h2,k2,hl c r rfl]at q2
   cases q2
 have qs:=yL h1 (by rw[h2];exact n1) (by rw[h2];exact n2) (by rw[h2];exact n3) (by omega)
 rw[hs]at qs
 obtain⟨t1,t2⟩:=h.tok ha n4
 rw[qs.1,qs.2,show s.extract p (p+1)=_ from At.text (x:=[a]) (y:=rest) ha]at t1
 rw[qs.2]at t2
 exact⟨t1,t2,h3⟩
theorem Tk.first {s:ByteArray} {p:Nat} {l:List Tok} {c:UInt8} {x:List UInt8} (h:Tk s p l) (ha:At s p (c :: x)) (hb:Za.blank c.toNat=false):∃r,(hd l).text.toList=c :: r:=by
 obtain⟨h1,h2,h3⟩:=ha.head
 obtain⟨t1,_⟩:=h.tok ha hb
 rw[t1]
 show∃r,(s.extract p (cM s p)).toList=c :: r
 have:=oJ h1
 rw[Lib.extract_toList,ha.2]
 cases hq:cM s p - p with
 | zero=>omega
 | succ n=>exact⟨_,rfl⟩
end Za
