import Derived.Test.YthfjnfcekeknlaaGreatDoorSu02
import Derived.Maps.AppendAt
set_option maxHeartbeats 8000000
set_option maxRecDepth 100000
namespace Go.Proofs.YthfjnfcekeknlaaGreatDoor
open Go.RowKit
theorem fP (w:World) (rb:Nat) (s:ByteArray) (l:List Za.aj) (ns:List ByteArray) (nv:Value) (e0:Int) (h:St w rb s l ns nv e0) (h0:(Za.hd l).kind≠0):
 Calls Tryz.prog 77 #[.pointer (some ⟨rb,0,none⟩)] w fun e w'=>e= .returned (.tuple #[])∧St w' rb s l.tail ns nv e0∧KA rb [rb] w w':=by
 have HS:=af h
 obtain⟨⟨c0,c1,c2,c3,c4,c5,f1,f2,f3,f4,f5⟩,own,chain,⟨p,isn⟩,few,short,signs,pos,lt⟩:=h
 have UY:(Za.hd l).pos+(Za.hd l).text.size≤s.size:=by rw[isn];exact Za.sF
 have hmx:s.size≤maxLen:=by unfold maxLen;omega
 have hz:0<w.heap.size:=by omega
 have hC:=af chain
 have HG:=af signs
 have hw:IntKind.i64.wrap (((Za.hd l).pos:Int)+((Za.hd l).text.size:Int))=((Za.hd l).pos:Int)+((Za.hd l).text.size:Int):=by rw[IntWalk.i64_in _ ⟨by omega,by omega⟩]
 have HP:=af (show ((Za.hd l).pos:Int)+((Za.hd l).text.size:Int)=(((Za.hd l).pos+(Za.hd l).text.size:Nat):Int)by omega)
 clear chain own isn few signs
 go_enter Tryz.func77,Tryz.ntmps77
 go_wp2
 go_region_with (go_at_call 38;rw[ae HP];refine(vT s ((Za.hd l).pos+(Za.hd l).text.size) _ hmx UY ((ae HG).draws 1) hz).mono ?_;rintro e w1 ⟨rfl,hb⟩;obtain⟨d0,d1,d2,d3,d4,d5,g1,g2,g3,g4,g5⟩:=(ae HS).rd.below (Below.trans (Below.refl _ _).drew hb) lt)
 all_goals
  go_wp2
  go_end0
  exact⟨rfl,JY (ae HS) h0 (Below.trans (Below.refl _ _).drew hb)⟩
theorem dI (w:World) (rb:Nat) (s:ByteArray) (l:List Za.aj) (ns:List ByteArray) (nv:Value) (e0:Int) (f:Bool) (h:St w rb s l ns nv e0) (h0:f=true→(Za.hd l).kind≠0):
 Calls Tryz.prog 79 #[.pointer (some ⟨rb,0,none⟩),.bool f] w fun e w'=>e= .returned (.bool f)∧St w' rb s (if f then l.tail else l) ns nv (if f then e0 else 2)∧KA rb [rb] w w':=by
 have H:=af h
 clear h
 cases f
 ·go_enter Tryz.func79,Tryz.ntmps79
  go_wp2_with (go_at_call 82;refine(b8 _ _ _ _ _ _ _ 2 (ae H)).mono ?_;rintro e w1 ⟨rfl,hs,hk⟩;have HS:=af hs;have HK:=af hk;clear hs hk)
  go_ret
  exact⟨rfl,ae HS,ae HK⟩
 ·have h0':=af (h0 rfl)
  clear h0
  go_enter Tryz.func79,Tryz.ntmps79
  go_wp2_with (go_at_call 77;refine(fP _ _ _ _ _ _ _ (ae H) (ae h0')).mono ?_;rintro e w1 ⟨rfl,hs,hk⟩;have HS:=af hs;have HK:=af hk;clear hs hk)
  go_ret
  exact⟨rfl,ae HS,ae HK⟩
theorem yR (w:World) (rb:Nat) (s:ByteArray) (l:List Za.aj) (ns:List ByteArray) (nv:Value) (e0:Int) (c m:Nat) (h:St w rb s l ns nv e0) (h0:(Za.hd l).kind≠0):
 Calls Tryz.prog 81 #[.pointer (some ⟨rb,0,none⟩),.int .i64 (c:Int),.int .i64 (m:Int)] w fun e w'=>e= .returned (.bool (decide (c<m)))∧St w' rb s (if c<m then l.tail else l) ns nv (if c<m then e0 else 3)∧KA rb [rb] w w':=by
 have H:=af h
 have h0':=af h0
 clear h h0
 by_cases hc:c<m
 ·rw[if_pos hc,if_pos hc]
  go_enter Tryz.func81,Tryz.ntmps81
  go_wp2_with (go_at_call 77;refine(fP _ _ _ _ _ _ _ (ae H) (ae h0')).mono ?_;rintro e w1 ⟨rfl,hs,hk⟩;have HS:=af hs;have HK:=af hk;clear hs hk)
  go_ret
  exact⟨cK (by simp[hc]),ae HS,ae HK⟩
 ·rw[if_neg hc,if_neg hc]
  go_enter Tryz.func81,Tryz.ntmps81
  go_wp2_with (go_at_call 82;refine(b8 _ _ _ _ _ _ _ 3 (ae H)).mono ?_;rintro e w1 ⟨rfl,hs,hk⟩;have HS:=af hs;have HK:=af hk;clear hs hk)
  go_ret
  exact⟨cK (by simp;omega),ae HS,ae HK⟩
def eo (d:Nat) (t:Za.aj):Nat:=if Za.dx t=true then(if t.kind=4∧6<t.text.size∨8<d then 3 else 0)else 2
theorem J9 {d:Nat} {t:Za.aj} (h:¬(t.kind=2∨t.kind=3∨t.kind=4)):eo d t=2:=by
 unfold eo Za.dx;rw[if_neg];simp;omega
theorem E5 {d:Nat} {t:Za.aj} (h:t.kind=2∨t.kind=3∨t.kind=4) (b:t.kind=4∧6<t.text.size∨8<d):eo d t=3:=by
 unfold eo Za.dx;rw[if_pos,if_pos b];simp;omega
theorem GM {d:Nat} {t:Za.aj} (h:t.kind=2∨t.kind=3∨t.kind=4) (b:¬(t.kind=4∧6<t.text.size∨8<d)):eo d t=0:=by
 unfold eo Za.dx;rw[if_pos,if_neg b];simp;omega
theorem GN (w:World) (rb:Nat) (s:ByteArray) (l:List Za.aj) (ns:List ByteArray) (nv:Value) (e0:Int) (d k z:Nat) (h:St w rb s l ns nv e0) (dB:(Za.hd l).kind=k) (hzz:(Za.hd l).text.size=z) (hz:z≤240) (m:Nat)
 (hm:(m=2∧¬(k=2∨k=3∨k=4))∨(m=3∧(k=2∨k=3∨k=4)∧(k=4∧6<z∨8<d))):
 Calls Tryz.prog 129 #[.pointer (some ⟨rb,0,none⟩),.int .i64 (d:Int)] w fun e w'=>e= .returned (.bool false)∧St w' rb s l ns nv (m:Int)∧KA rb [rb] w w':=by
 have H:=af h
 obtain⟨⟨c0,c1,c2,c3,c4,c5,f1,f2,f3,f4,f5⟩,own,chain,isn,few,short,signs,pos,lt⟩:=h
 clear own chain isn few short signs pos lt c0 c2 c4 c5 f1 f2 f3 f4 f5
 rw[dB]at c1
 generalize (Za.hd l).text=tx at c3 hzz
 clear dB
 subst hzz
 rcases hm with⟨rfl,hn⟩ | ⟨rfl,hk,hb⟩
 ·have n2:((k:Int) != 2)=true:=by simp;omega
  have n3:((k:Int) != 3)=true:=by simp;omega
  have n4:((k:Int) != 4)=true:=by simp;omega
  clear hn
  go_enter Tryz.func129,Tryz.ntmps129
  go_wp2_with (go_at_call 82;refine(b8 _ _ _ _ _ _ _ 2 (ae H)).mono ?_;rintro e w1 ⟨rfl,hs,hk⟩;have HS:=af hs;have HK:=af hk;clear hs hk)
  go_ret
  exact⟨rfl,ae HS,ae HK⟩
 ·rcases hk with rfl | rfl | rfl
  ·have OX:8<d:=by omega
   clear hb
   go_enter Tryz.func129,Tryz.ntmps129
   go_wp2_with (go_at_call 82;refine(b8 _ _ _ _ _ _ _ 3 (ae H)).mono ?_;rintro e w1 ⟨rfl,hs,hk⟩;have HS:=af hs;have HK:=af hk;clear hs hk)
   go_ret
   exact⟨rfl,ae HS,ae HK⟩
  ·have OX:8<d:=by omega
   clear hb
   go_enter Tryz.func129,Tryz.ntmps129
   go_wp2_with (go_at_call 82;refine(b8 _ _ _ _ _ _ _ 3 (ae H)).mono ?_;rintro e w1 ⟨rfl,hs,hk⟩;have HS:=af hs;have HK:=af hk;clear hs hk)
   go_ret
   exact⟨rfl,ae HS,ae HK⟩
  ·by_cases h6:6<tx.size
   ·clear hb
    go_enter Tryz.func129,Tryz.ntmps129
    go_wp2_with (go_at_call 82;refine(b8 _ _ _ _ _ _ _ 3 (ae H)).mono ?_;rintro e w1 ⟨rfl,hs,hk⟩;have HS:=af hs;have HK:=af hk;clear hs hk)
    go_ret
    exact⟨rfl,ae HS,ae HK⟩
   ·have OX:8<d:=by omega
    clear hb
    go_enter Tryz.func129,Tryz.ntmps129
    go_wp2_with (go_at_call 82;refine(b8 _ _ _ _ _ _ _ 3 (ae H)).mono ?_;rintro e w1 ⟨rfl,hs,hk⟩;have HS:=af hs;have HK:=af hk;clear hs hk)
    go_ret
    exact⟨rfl,ae HS,ae HK⟩
theorem Nw (w:World) (rb:Nat) (s:ByteArray) (l:List Za.aj) (ns:List ByteArray) (nv:Value) (e0:Int) (d k z:Nat) (h:St w rb s l ns nv e0) (dB:(Za.hd l).kind=k) (hzz:(Za.hd l).text.size=z) (hz:z≤240)
 (hk:k=2∨k=3∨k=4) (hn:¬(k=4∧6<z∨8<d)):
 Calls Tryz.prog 129 #[.pointer (some ⟨rb,0,none⟩),.int .i64 (d:Int)] w fun e w'=>e= .returned (.bool true)∧w'=w:=by
 obtain⟨⟨c0,c1,c2,c3,c4,c5,f1,f2,f3,f4,f5⟩,own,chain,isn,few,short,signs,pos,lt⟩:=h
 clear own chain isn few short signs pos lt c0 c2 c4 c5 f1 f2 f3 f4 f5
 rw[dB]at c1
 generalize (Za.hd l).text=tx at c3 hzz
 clear dB
 subst hzz
 have OX:d≤8:=by omega
 rcases hk with rfl | rfl | rfl
 ·clear hn
  go_enter Tryz.func129,Tryz.ntmps129
  go_wp2_with fail
  go_ret
  exact⟨rfl,rfl⟩
 ·clear hn
  go_enter Tryz.func129,Tryz.ntmps129
  go_wp2_with fail
  go_ret
  exact⟨rfl,rfl⟩
 ·have h6:tx.size≤6:=by omega
  clear hn
  go_enter Tryz.func129,Tryz.ntmps129
  go_wp2_with fail
  go_ret
  exact⟨rfl,rfl⟩
theorem jC (w:World) (rb:Nat) (s:ByteArray) (l:List Za.aj) (ns:List ByteArray) (nv:Value) (e0:Int) (d:Nat) (h:St w rb s l ns nv e0):
 Calls Tryz.prog 129 #[.pointer (some ⟨rb,0,none⟩),.int .i64 (d:Int)] w fun e w'=>e= .returned (.bool (eo d (Za.hd l) == 0))∧St w' rb s l ns nv (if eo d (Za.hd l)=0 then e0 else(eo d (Za.hd l):Int))∧KA rb [rb] w w':=by
 have hz:(Za.hd l).text.size≤240:=by obtain⟨p,e⟩:=h.isNext;have h1:=h.short;have h2:=@Za.sF s p;rw[e];omega
 by_cases hk:(Za.hd l).kind=2∨(Za.hd l).kind=3∨(Za.hd l).kind=4
 ·by_cases hb:(Za.hd l).kind=4∧6<(Za.hd l).text.size∨8<d
  ·rw[E5 hk hb]
   exact GN w rb s l ns nv e0 d _ _ h rfl rfl hz 3 (Or.inr ⟨rfl,hk,hb⟩)
  ·rw[GM hk hb]
   refine(Nw w rb s l ns nv e0 d _ _ h rfl rfl hz hk hb).mono ?_
   rintro e w' ⟨rfl,rfl⟩
   exact⟨rfl,h,KA.refl _ _ _⟩
 ·rw[J9 hk]
  exact GN w rb s l ns nv e0 d _ _ h rfl rfl hz 2 (Or.inl ⟨rfl,hk⟩)
def aV (ns:List ByteArray):List (List UInt8):=ns.map fun b=>b.toList
theorem Nx {ns:List ByteArray} {k:Nat} {x:List UInt8} (h:k<ns.length) (he:ns[k].toList=x) (hno:∀j (hj:j<ns.length),j<k→ns[j].toList≠x):(aV ns).idxOf x=k:=by
 unfold aV
 induction ns generalizing k with
 | nil=>simp at h
 | cons u us ih=>
  rw[List.map_cons]
  cases k with
  | zero=>rw[List.idxOf_cons];simp at he;simp[he]
  | succ k=>
   have h0:u.toList≠x:=hno 0 (by simp) (by omega)
   rw[List.idxOf_cons]
   simp only[beq_iff_eq,h0,cond_eq_ite,if_false]
   have:=ih (k:=k) (by simpa using h) (by simpa using he) (fun j hj q=>by have:=hno (j+1) (by simpa using hj) (by omega);simpa using this)
   rw[this]
theorem OY {ns:List ByteArray} {k:Nat} {x:List UInt8} (h:k<ns.length) (he:ns[k].toList=x):Za.eK (aV ns) x=aV ns:=by
 unfold Za.eK
 rw[if_pos]
 subst he
 exact List.mem_map.2 ⟨ns[k],by simp,rfl⟩
theorem Ny {ns:List ByteArray} {x:List UInt8} (hno:∀j (hj:j<ns.length),ns[j].toList≠x):x∉aV ns:=by
 intro q
 obtain⟨u,hu,rfl⟩:=List.mem_map.1 q
 obtain⟨i,hi,rfl⟩:=List.getElem_of_mem hu
 exact hno i hi rfl
theorem Nz {ns:List ByteArray} {g:ByteArray} (h:g.toList∉aV ns):aV (ns++[g])=Za.eK (aV ns) g.toList∧(aV ns).idxOf g.toList=ns.length:=by
 unfold Za.eK
 rw[if_neg h,List.idxOf_eq_length h]
 simp[aV]
structure AV where
 k:Int
 val:Int
 tx:ByteArray
 ao:Option Addr
 n:Nat
 cap:Nat
def gM (a:AV):List Value:=[.int .i64 a.k,.int .i64 a.val,.string a.tx,.slice a.ao a.n a.cap]
def ak (k:Nat):Int:=if k=3 then 1 else if k=4 then 2 else 3
def lT (N:List (List UInt8)) (a:AV) (t:Za.Tm):Prop:=a.k=ak t.kind∧a.n=t.args.length∧(t.kind=3→t.text.toList∈N∧a.val=(N.idxOf t.text.toList:Int))∧(t.kind=4→a.val=(Za.numOf t.text:Int)∧t.text.size≤6∧a.tx=⟨#[]⟩)∧(t.kind=2→a.tx=t.text)∧(t.kind=2∨t.kind=3∨t.kind=4)∧t.text.size≤240∧t.args.length≤3
def RA:Nat→List (List UInt8)→(Nat→Prop)→World→AV→Za.Tm→Prop
 | 0,_,_,_,_,_=>False
 | f+1,N,P,w,a,t=>lT N a t∧(t.args≠[]→∃(g:Nat) (us:List AV) (cs:Array Value),a.ao=some ⟨g,0,none⟩∧P g∧w.heap[g]?=some (.cells cs 76 (0,0))∧cs.toList.take (us.length*4)=us.flatMap gM∧bR (RA f N P w) us t.args)
theorem RA.keep {N:List (List UInt8)} {P Q:Nat→Prop} {w w':World} (hk:∀(g:Nat) (cs:Array Value),P g→w.heap[g]?=some (.cells cs 76 (0,0))→(∃k r,cs.toList= .int .i64 k :: r)→w'.heap[g]?=some (.cells cs 76 (0,0))∧Q g):∀{f:Nat} {a:AV} {t:Za.Tm},RA f N P w a t→RA f N Q w' a t
 | f+1,_,_,⟨h,q⟩=>⟨h,fun n=>by
  obtain⟨g,us,cs,h1,h2,h3,h4,h5⟩:=q n
  have hi:∃k r,cs.toList= .int .i64 k :: r:=by
   cases us with
   | nil=>have:=h5.length;simp at this;exact absurd (List.length_eq_zero_iff.1 this.symm) n
   | cons u us=>
    cases hc:cs.toList with
    | nil=>rw[hc]at h4;simp[gM]at h4
    | cons c r=>
     rw[hc]at h4
     simp only[List.length_cons,Nat.add_mul,Nat.one_mul,List.flatMap_cons,gM,List.cons_append,List.take_succ_cons]at h4
     injection h4 with h4 _
     exact⟨_,r,by rw[h4]⟩
  obtain⟨r1,r2⟩:=hk g cs h2 h3 hi
  exact⟨g,us,cs,h1,r2,r1,h4,h5.imp fun _ _=>RA.keep hk⟩⟩
theorem RA.imp {N:List (List UInt8)} {P Q:Nat→Prop} {w:World} {f:Nat} {a:AV} {t:Za.Tm} (h:RA f N P w a t) (hk:∀g,P g→g<w.heap.size→Q g):RA f N Q w a t:=
 h.keep fun g _ hp hg _=>⟨hg,hk g hp (Array.getElem?_eq_some_iff.1 hg).1⟩
theorem RA.set {N:List (List UInt8)} {P:Nat→Prop} {w:World} {f:Nat} {a:AV} {t:Za.Tm} (h:RA f N P w a t) {b:Nat} (hP:∀g,P g→g≠b) (o:Nat) (v:Value):RA f N P (w.setCell ⟨b,o,none⟩ v) a t:=
 h.keep fun g _ hp hg _=>⟨(Below.heap_setCell _ _ _ _ (fun e=>hP g hp e)).trans hg,hp⟩
theorem lT.more {N:List (List UInt8)} {a:AV} {t:Za.Tm} (h:lT N a t) (M:List (List UInt8)):lT (N++M) a t:=
 ⟨h.1,h.2.1,fun k=>⟨List.mem_append_left _ (h.2.2.1 k).1,by rw[(h.2.2.1 k).2,List.idxOf_append,if_pos (h.2.2.1 k).1]⟩,h.2.2.2⟩
theorem RA.more {P:Nat→Prop} {w:World} {N:List (List UInt8)} (M:List (List UInt8)):∀{f:Nat} {a:AV} {t:Za.Tm},RA f N P w a t→RA f (N++M) P w a t
 | f+1,_,_,⟨h,q⟩=>⟨h.more M,fun n=>by
  obtain⟨g,us,cs,h1,h2,h3,h4,h5⟩:=q n
  exact⟨g,us,cs,h1,h2,h3,h4,h5.imp fun _ _=>RA.more M⟩⟩
theorem RA.nA {P:Nat→Prop} {w:World} {N:List (List UInt8)}:∀{f:Nat} {a:AV} {t:Za.Tm},RA f N P w a t→Za.nA f t
 | f+1,a,t,⟨h,q⟩=>by
  obtain⟨h1,h2,h3,h4,h5,h6,h7,h8⟩:=h
  refine⟨h7,h8,fun k=>(h4 k).2.1,?_⟩
  intro u hu
  obtain⟨g,us,cs,_,_,_,_,ha⟩:=q (fun e=>by rw[e]at hu;cases hu)
  have:∀(us:List AV) (ts:List Za.Tm),bR (RA f N P w) us ts→∀u∈ts,Za.nA f u:=by
   intro us
   induction us with
   | nil=>intro ts ha u hu;cases ts with
    | nil=>cases hu
    | cons t ts=>exact ha.elim
   | cons v us ih=>intro ts ha u hu;cases ts with
    | nil=>cases hu
    | cons t ts=>
     rcases List.mem_cons.1 hu with rfl | hu
     ·exact RA.nA ha.1
     ·exact ih ts ha.2 u hu
  exact this us t.args ha u hu
structure TA (f:Nat) (ns ns':List ByteArray) (w w':World) (val:Int) (tx:ByteArray) (ao:Option Addr) (cap:Nat) (t:Za.Tm):Prop where
 rep:RA f (aV ns') (fun g=>w.heap.size≤g) w' ⟨ak t.kind,val,tx,ao,t.args.length,cap⟩ t
 nms:aV ns'=Za.namesF f (aV ns) t
theorem RA.leaf {f:Nat} {N:List (List UInt8)} {P:Nat→Prop} {w:World} {a:AV} {t:Za.Tm} (h:RA f N P w a t):lT N a t:=by
 cases f with
 | zero=>exact h.elim
 | succ f=>exact h.1
theorem TA.txt {f:Nat} {ns ns':List ByteArray} {w w':World} {val:Int} {tx:ByteArray} {ao:Option Addr} {cap:Nat} {t:Za.Tm} (h:TA f ns ns' w w' val tx ao cap t):t.kind=2→tx=t.text:=h.rep.leaf.2.2.2.2.1
theorem RA.one {f:Nat} {N:List (List UInt8)} {P:Nat→Prop} {w:World} {a:AV} {t:Za.Tm} (h:lT N a t) (h0:t.args=[]):RA (f+1) N P w a t:=⟨h,fun q=>absurd h0 q⟩
structure AA (f:Nat) (ns ns':List ByteArray) (w w':World) (ao:Option Addr) (ts:List Za.Tm):Prop where
 rows:ts≠[]→∃(g:Nat) (us:List AV) (cs:Array Value),ao=some ⟨g,0,none⟩∧w.heap.size≤g∧w'.heap[g]?=some (.cells cs 76 (0,0))∧cs.toList.take (us.length*4)=us.flatMap gM∧bR (RA f (aV ns') (fun g=>w.heap.size≤g) w') us ts
 nms:aV ns'=ts.foldl (Za.namesF f) (aV ns)
 few:ts.length≤3
def aN (w w':World):Prop:=∀(g:Nat) (cs:Array Value),w.heap[g]?=some (.cells cs 76 (0,0))→(∃k r,cs.toList= .int .i64 k :: r)→w'.heap[g]?=some (.cells cs 76 (0,0))
theorem aN.trans {u v w:World} (h:aN u v) (k:aN v w):aN u w:=fun g cs a b=>k g cs (h g cs a b) b
theorem aN.below {w w':World} (h:Below w.heap.size w w'):aN w w':=fun g _ a _=>(h.block g (Array.getElem?_eq_some_iff.1 a).1).trans a
theorem aN.ka {w w':World} {rb:Nat} {s:ByteArray} {l:List Za.aj} {ns:List ByteArray} {nv:Value} {e:Int} (hs:St w rb s l ns nv e) (hk:KA rb [rb] w w'):aN w w':=fun g cs hg hi=>(hk.block g (Array.getElem?_eq_some_iff.1 hg).1 (fun q=>by
 obtain rfl:g=rb:=by simpa using q
 obtain⟨k,r,hc⟩:=hi
 have:=hs.rd.c0
 simp[World.cell?,hg]at this
 rw[←Array.getElem?_toList,hc]at this
 simp at this) (Or.inr (by unfold aP;rw[hg];simp))).trans hg
theorem aN.grown {w w':World} {b0:Nat} {T:TypeId} {sz:Nat} {av:Value} {n:Nat} {xs:List Value} (ho:w.ownsRow b0 T sz av n xs) (hg:w.grownBy w' av.ownBlock) (hT:T≠76:=by decide):aN w w':=fun g cs hc _=>(hg.block g (Array.getElem?_eq_some_iff.1 hc).1 (fun q=>by
 rcases ho.2 with⟨rfl,_⟩ | ⟨g',cap,cur,rfl,_,c,_⟩
 ·simp[Value.ownBlock]at q
 ·simp[Value.ownBlock]at q
  subst q
  rw[c]at hc;simp at hc;exact hT hc.2)).trans hc
theorem Tryz.info9:(Tryz.prog.info? 9).map (fun i=>(i.zero,i.size,i.bytes))=some (some (.string ⟨#[]⟩),1,16):=by kernel_rfl
theorem Dg (g:ByteArray) (w:World) (hg:g.size≤6):Calls Tryz.prog 131 #[.string g] w fun e w'=>e= .returned (.int .i64 (Za.numOf g:Int))∧w'=w:=by
 go_enter Tryz.func131,Tryz.ntmps131
 go_wp2
 go_loop [3,4] (fun v i=>∃(k:Nat),k≤g.size∧i= .int .i64 k∧v= .int .i64 (Za.lR (g.toList.take k):Int)) (fun _ i=>g.size - (intOf i).toNat)
 case atStart=>exact⟨0,by omega,rfl,rfl⟩
 case round=>
  obtain⟨k,hk,rfl,rfl⟩:=hrel
  by_cases hlt:k<g.size
  ·go_wp2
   go_round
   case rel=>
    refine⟨k+1,by omega,by go_num,?_⟩
    rw[JQ hlt]
    have hb:=Za.Dw (g.toList.take k) (by simp;omega)
    generalize Za.lR (g.toList.take k)=v at*
    have hc:g[k].toNat<256:=g[k].toNat_lt
    generalize g[k].toNat=c at*
    congr 1
    unfold wrap64
    omega
   case measure=>simp[intOf];omega
  ·go_wp2
   go_ret
   obtain rfl:k=g.size:=by omega
   exact⟨by rw[Nf];rfl,rfl⟩
theorem xh {w w1:World} {rb:Nat} {s:ByteArray} {l:List Za.aj} {ns:List ByteArray} {nv:Value} {e0:Int} {o:Obj} (h:St w rb s l ns nv e0) (hg:(w.alloc o).grownBy w1 nv.ownBlock):
 w1.cell? ⟨rb,4,none⟩=some nv∧w1.frozen? ⟨rb,4,none⟩=false:=by
 have hne:some rb≠nv.ownBlock:=fun e=>by have:=(h.own.lt rb e.symm).1;omega
 have hb:=hg.block rb (by simp;have:=h.lt;omega) hne
 exact⟨by rw[World.cell?_of_block (a:=⟨rb,4,none⟩) hb,World.cell?_alloc_past _ _ _ h.lt];exact h.rd.c4,by rw[World.frozen?_of_block (a:=⟨rb,4,none⟩) hb,World.frozen?_alloc_past _ _ _ h.lt];exact h.rd.f4⟩
theorem fk {w:World} {b:Nat} {e:TypeId} {sz:Nat} {v:Value} {n:Nat} {xs:List Value} (h:w.ownsRow b e sz v (n+1) xs):∃g cap,v= .slice (some ⟨g,0,none⟩) (n+1) cap∧cap≤maxLen:=by
 rcases h.2 with⟨_,q⟩ | ⟨g,cap,cur,q,_,_,_,m,_⟩
 ·omega
 ·exact⟨g,cap,q,m⟩
theorem yS {w w1:World} {rb:Nat} {s:ByteArray} {l:List Za.aj} {ns:List ByteArray} {nv nv':Value} {e0:Int} {g:ByteArray} {o:Obj} (h:St w rb s l ns nv e0) (few:ns.length+l.length<1000)
 (hown:w1.ownsRow (rb+1) 9 1 nv' (ns.length+1) (ns.map Value.string++[.string g])) (hg:(w.alloc o).grownBy w1 nv.ownBlock):
 St (w1.setCell ⟨rb,4,none⟩ nv') rb s l (ns++[g]) nv' e0∧KA rb [rb] w (w1.setCell ⟨rb,4,none⟩ nv'):=by
 have hka:KA rb [rb] w w1:=((KA.refl rb [rb] w).alloc o).grown hg (fun k hk=>by
  have h1:=h.own.lt k hk
  rcases h.own.2 with⟨rfl,_⟩ | ⟨q,cap,cur,rfl,hb,hq,_⟩
  ·simp[Value.ownBlock]at hk
  ·simp[Value.ownBlock]at hk
   subst hk
   refine Or.inr (Or.inr ⟨by omega,?_⟩)
   unfold aP
   rw[Below.heap_alloc _ _ _ h1.2,hq])
 have hne:some rb≠nv.ownBlock:=fun e=>by have:=(h.own.lt rb e.symm).1;omega
 have cell:∀i v,w.cell? ⟨rb,i,none⟩=some v→w1.cell? ⟨rb,i,none⟩=some v:=fun i v q=>by
  rw[World.cell?_of_block (a:=⟨rb,i,none⟩) (hg.block rb (by simp;have:=h.lt;omega) hne),World.cell?_alloc_past _ _ _ h.lt];exact q
 have fro:∀i,w.frozen? ⟨rb,i,none⟩=false→w1.frozen? ⟨rb,i,none⟩=false:=fun i q=>by
  rw[World.frozen?_of_block (a:=⟨rb,i,none⟩) (hg.block rb (by simp;have:=h.lt;omega) hne),World.frozen?_alloc_past _ _ _ h.lt];exact q
 have z:rb≠0:=by have:=h.pos;omega
 have sg:dM w1:=h.signs.ka hka (by have:=h.lt;omega) (by simp;omega) h.pos
 obtain⟨⟨c0,c1,c2,c3,c4,c5,f1,f2,f3,f4,f5⟩,own,chain,isn,few1,short,signs,pos,lt⟩:=h
 have d0:=cell _ _ c0
 have d1:=cell _ _ c1
 have d2:=cell _ _ c2
 have d3:=cell _ _ c3
 have d4:=cell _ _ c4
 have d5:=cell _ _ c5
 have g1:=fro _ f1
 have g2:=fro _ f2
 have g3:=fro _ f3
 have g4:=fro _ f4
 have g5:=fro _ f5
 refine⟨⟨⟨by go_cell,by go_cell,by go_cell,by go_cell,by go_cell,by go_cell,by go_cell,by go_cell,by go_cell,by go_cell,by go_cell⟩,?_,chain,isn,by simp;omega,short,sg.setCell (by exact z) _,pos,by have:=hka.size;simp;omega⟩,hka.fG (by simp) _⟩
 have:=kH hown 4 nv'
 simpa using this
def UZ (rb:Nat) (s:ByteArray) (l:List Za.aj) (ns:List ByteArray) (g:ByteArray) (e0:Int) (w:World) (e:Ending) (w':World):Prop:=∃(ns':List ByteArray) (nv':Value),e= .returned (.int .i64 ((aV ns).idxOf g.toList:Int))∧aV ns'=Za.eK (aV ns) g.toList∧St w' rb s l ns' nv' e0∧KA rb [rb] w w'
theorem A7 (w:World) (rb:Nat) (s:ByteArray) (l:List Za.aj) (ns:List ByteArray) (nv:Value) (e0:Int) (g:ByteArray) (h:St w rb s l ns nv e0) (few:ns.length+l.length<1000):
 Calls Tryz.prog 130 #[.pointer (some ⟨rb,0,none⟩),.string g] w fun e w'=>UZ rb s l ns g e0 w e w':=by
 have H:=af h
 obtain⟨i0,hi,hz0,hz1,hz2⟩:=info_parts Tryz.info9
 have pS:ns.length≤1000:=by have:=h.few;omega
 rcases h.own.2 with⟨gP,cf⟩ | ⟨q,cap,cur,gP,hb,hq,Ka,hmx,_⟩
 ·subst gP
  obtain rfl:ns=[]:=List.length_eq_zero_iff.1 cf
  have hown:=h.own
  obtain⟨⟨c0,c1,c2,c3,c4,c5,f1,f2,f3,f4,f5⟩,own,chain,isn,few1,short,signs,pos,lt⟩:=h
  clear own chain isn few1 short signs
  go_enter Tryz.func130,Tryz.ntmps130
  go_wp2
  refine wp_loop_rounds 1 ?_
  rw[rounds_succ]
  go_wp2_with (first | (at_builtin;refine wpList_append_own _ rfl (.tmp 26) (.tmp 28) 29 rfl (rb+1) 9 i0 (.string ⟨#[]⟩) 1 16 Tryz.underlying29 hi hz0 hz1 hz2 rfl (by decide) _ 0 [] rfl (hown.alloc _) ⟨w.heap.size,0,none⟩ 1 1 [.string g] rfl rfl (by intro j u hj;match j,hj with | 0,hj=>simp at hj;subst hj;simp[Addr.add]) (by intro u hu;simp at hu;subst hu;rfl) (by unfold maxLen;omega) (by omega) (by simp;omega) ?_;intro v' w1 hown' hgrow _;have R:=af (yS (ae H) few hown' hgrow);obtain⟨d4,x4⟩:=xh (ae H) hgrow;obtain⟨g',cap',hv,hcm⟩:=fk hown';rw[hv]at R⊢;clear hown' hgrow hv))
  go_ret
  exact⟨_,_,rfl,by simp[aV,Za.eK],(ae R).1,(ae R).2⟩
 ·subst gP
  have hown:=h.own
  have hcell:=af (fun k (hk:k<ns.length)=>(h.own.cellAt k (by omega)))
  obtain⟨⟨c0,c1,c2,c3,c4,c5,f1,f2,f3,f4,f5⟩,own,chain,isn,few1,short,signs,pos,lt⟩:=h
  clear own chain isn few1 short signs hq
  go_enter Tryz.func130,Tryz.ntmps130
  go_wp2
  go_loop [12] (fun v=>∃k:Nat,k≤ns.length∧v= .int .i64 k∧∀m (hm:m<ns.length),m<k→ns[m].toList≠g.toList) (fun v=>ns.length - (intOf v).toNat)
  case atStart=>exact⟨0,by omega,rfl,fun m _ q=>by omega⟩
  case round=>
   obtain⟨k,hk,rfl,hno⟩:=hrel
   have gQ:=af hno
   clear hno
   by_cases hlt:k<ns.length
   ·have hc:w.cell? ⟨q,k,none⟩=some (.string ns[k]):=by rw[ae hcell k hlt];simp[hlt]
    cases he:(ns[k].toList == g.toList)
    ·go_wp2_with fail
     go_round
     case rel=>exact⟨k+1,by omega,by go_num,fun m hm q=>by
      by_cases sW:m=k
      ·subst sW;simpa using he
      ·exact ae gQ m hm (by omega)⟩
     case measure=>simp[intOf];omega
    ·go_wp2_with fail
     go_ret
     exact⟨ns,_,by rw[Nx hlt (by simpa using he) (ae gQ)];rfl,(OY hlt (by simpa using he)).symm,ae H,KA.refl _ _ _⟩
   ·go_wp2_with (first | (at_builtin;refine wpList_append_own _ rfl (.tmp 26) (.tmp 28) 29 rfl (rb+1) 9 i0 (.string ⟨#[]⟩) 1 16 Tryz.underlying29 hi hz0 hz1 hz2 rfl (by decide) _ ns.length _ rfl (hown.alloc _) ⟨w.heap.size,0,none⟩ 1 1 [.string g] rfl rfl (by intro j u hj;match j,hj with | 0,hj=>simp at hj;subst hj;simp[Addr.add]) (by intro u hu;simp at hu;subst hu;rfl) (by unfold maxLen;omega) (by omega) (by simp;omega) ?_;intro v' w1 hown' hgrow _;have R:=af (yS (ae H) few hown' hgrow);obtain⟨d4,x4⟩:=xh (ae H) hgrow;obtain⟨g',cap',hv,hcm⟩:=fk hown';rw[hv]at R⊢;clear hown' hgrow hv))
    go_ret
    obtain⟨q1,q2⟩:=Nz (Ny fun m hm=>ae gQ m hm (by omega))
    exact⟨_,_,by rw[q2];simp,q1,(ae R).1,(ae R).2⟩
def pT (f rb:Nat) (s:ByteArray) (ns:List ByteArray) (r:Za.dQ Za.Tm) (w:World) (e:Ending) (w':World):Prop:=match r with
 | .inl (er,pos)=>∃(k val:Int) (tx:ByteArray) (ao:Option Addr) (n cap:Nat) (l':List Za.aj) (ns':List ByteArray) (nv':Value),
  e= .returned (.tuple #[.agg #[.int .i64 k,.int .i64 val,.string tx,.slice ao n cap],.bool false])∧St w' rb s l' ns' nv' (er:Int)∧(Za.hd l').pos=pos∧KA rb [rb] w w'
 | .inr (t,l1)=>∃(val:Int) (tx:ByteArray) (ao:Option Addr) (cap:Nat) (ns':List ByteArray) (nv':Value) (e':Int),
  e= .returned (.tuple #[.agg #[.int .i64 (ak t.kind),.int .i64 val,.string tx,.slice ao t.args.length cap],.bool true])∧TA f ns ns' w w' val tx ao cap t∧St w' rb s l1 ns' nv' e'∧KA rb [rb] w w'
def uF (f rb:Nat) (s:ByteArray) (ns:List ByteArray) (r:Za.dQ (List Za.Tm)) (w:World) (e:Ending) (w':World):Prop:=match r with
 | .inl (er,pos)=>∃(l':List Za.aj) (ns':List ByteArray) (nv':Value) (ao:Option Addr) (n cap:Nat),
  e= .returned (.tuple #[.slice ao n cap,.bool false])∧St w' rb s l' ns' nv' (er:Int)∧(Za.hd l').pos=pos∧KA rb [rb] w w'
 | .inr (ts,l1)=>∃(ao:Option Addr) (cap:Nat) (ns':List ByteArray) (nv':Value) (e':Int),
  e= .returned (.tuple #[.slice ao ts.length cap,.bool true])∧AA f ns ns' w w' ao ts∧St w' rb s l1 ns' nv' e'∧KA rb [rb] w w'
def jR (f:Nat) (l:List Za.aj):Za.dQ (List Za.Tm):=if Za.sees l [40]=true then Za.bM (Za.term f) 2 l.tail else .inr ([],l)
def rk (f:Nat):Prop:=∀(w:World) (rb:Nat) (s:ByteArray) (l:List Za.aj) (ns:List ByteArray) (nv:Value) (e0:Int) (d:Nat),f+d=9→St w rb s l ns nv e0→
 Calls Tryz.prog 75 #[.pointer (some ⟨rb,0,none⟩),.int .i64 (d:Int)] w fun e w'=>pT f rb s ns (Za.term f l) w e w'
def vU (f:Nat):Prop:=∀(w:World) (rb:Nat) (s:ByteArray) (l:List Za.aj) (ns:List ByteArray) (nv:Value) (e0:Int) (d:Nat),f+d=9→St w rb s l ns nv e0→
 Calls Tryz.prog 132 #[.pointer (some ⟨rb,0,none⟩),.int .i64 (d:Int)] w fun e w'=>uF f rb s ns (jR f l) w e w'
theorem GP (l:List Za.aj):Za.term 0 l=Za.bad (eo 9 (Za.hd l)) l:=by
 unfold Za.term eo
 by_cases h:Za.dx (Za.hd l)=true
 ·rw[if_pos h,if_pos h,if_pos (by omega)]
 ·rw[if_neg h,if_neg h]
theorem SC (t:Za.aj):eo 9 t≠0:=by unfold eo;split<;>(try rw[if_pos (by omega)])<;>omega
theorem Kb {f d:Nat} {l:List Za.aj} (hd:d≤8) (h:eo d (Za.hd l)≠0):Za.term (f+1) l=Za.bad (eo d (Za.hd l)) l:=by
 unfold Za.term eo at*
 by_cases hb:Za.dx (Za.hd l)=true
 ·rw[if_pos hb]at h⊢
  rw[if_pos hb]
  by_cases hc:(Za.hd l).kind=4∧6<(Za.hd l).text.size
  ·rw[if_pos hc,if_pos (Or.inl hc)]
  ·rw[if_neg (by omega)]at h;exact absurd rfl h
 ·rw[if_neg hb,if_neg hb]
theorem GQ {f d:Nat} {l:List Za.aj} (_h:eo d (Za.hd l)=0) (hk:(Za.hd l).kind=2):Za.term (f+1) l=match jR f l.tail with
 | .inl e=> .inl e
 | .inr (ts,l2)=> .inr (⟨2,(Za.hd l).text,ts⟩,l2):=by
 have hb:Za.dx (Za.hd l)=true:=by simp[Za.dx,hk]
 rw[Za.term,if_pos hb,if_neg (by omega),if_pos hk]
 unfold jR
 by_cases hs:Za.sees l.tail [40]=true
 ·rw[if_pos hs,if_pos hs]
  rcases Za.bM (Za.term f) 2 l.tail.tail with e | ⟨ts,l2⟩<;>rfl
 ·rw[if_neg hs,if_neg hs]
theorem yT {f d:Nat} {l:List Za.aj} (h:eo d (Za.hd l)=0) (hk:(Za.hd l).kind=3∨(Za.hd l).kind=4):Za.term (f+1) l= .inr (⟨(Za.hd l).kind,(Za.hd l).text,[]⟩,l.tail):=by
 have hb:Za.dx (Za.hd l)=true:=by rcases hk with e | e<;>simp[Za.dx,e]
 unfold eo at h
 rw[if_pos hb]at h
 have hc:¬((Za.hd l).kind=4∧6<(Za.hd l).text.size):=fun q=>by rw[if_pos (Or.inl q)]at h;omega
 rw[Za.term,if_pos hb,if_neg hc,if_neg (by omega)]
theorem GR {d:Nat} {t:Za.aj} (h:eo d t=0):t.kind=2∨t.kind=3∨t.kind=4:=by
 unfold eo at h
 by_cases hb:Za.dx t=true
 ·simpa [Za.dx,or_assoc] using hb
 ·rw[if_neg hb]at h;omega
theorem KA.loc {rb:Nat} {W w:World} (hk:KA rb [rb] W w) {b i:Nat} {v:Value} (hc:W.cell? ⟨b,i,none⟩=some v) (hb:b<W.heap.size) (hne:b≠rb) (ht:aP W b≠some 9):w.cell? ⟨b,i,none⟩=some v:=
 (hk.cell (p:=⟨b,i,none⟩) hb (by simpa using hne) (Or.inr ht)).trans hc
theorem KA.E6 {rb:Nat} {W w:World} (hk:KA rb [rb] W w) {b i:Nat} (hc:W.frozen? ⟨b,i,none⟩=false) (hb:b<W.heap.size) (hne:b≠rb) (ht:aP W b≠some 9):w.frozen? ⟨b,i,none⟩=false:=
 (hk.frozen (p:=⟨b,i,none⟩) hb (by simpa using hne) (Or.inr ht)).trans hc
def boxR:Obj:= .cells #[.int .i64 0,.int .i64 0,.string ⟨#[]⟩,.slice none 0 0] 76
def ky (t:Za.aj):Obj:= .cells #[.int .i64 (t.kind:Int),.int .i64 (t.pos:Int),.string t.text] 70
structure SE (w:World) (n:Nat) (t:Za.aj):Prop where
 r0:w.cell? ⟨n,0,none⟩=some (.int .i64 0)
 r1:w.cell? ⟨n,1,none⟩=some (.int .i64 0)
 r2:w.cell? ⟨n,2,none⟩=some (.string ⟨#[]⟩)
 r3:w.cell? ⟨n,3,none⟩=some (.slice none 0 0)
 x0:w.frozen? ⟨n,0,none⟩=false
 x1:w.frozen? ⟨n,1,none⟩=false
 x2:w.frozen? ⟨n,2,none⟩=false
 x3:w.frozen? ⟨n,3,none⟩=false
 t0:w.cell? ⟨n+1,0,none⟩=some (.int .i64 (t.kind:Int))
 t2:w.cell? ⟨n+1,2,none⟩=some (.string t.text)
theorem boxes {rb:Nat} {w w1:World} {t:Za.aj} (hlt:rb<w.heap.size) (hk:KA rb [rb] ((w.alloc boxR).alloc (ky t)) w1):SE w1 w.heap.size t:=by
 have ty0:aP ((w.alloc boxR).alloc (ky t)) w.heap.size≠some 9:=by
  unfold aP;rw[Below.heap_alloc _ _ _ (by simp),heap_alloc_new];simp[boxR]
 have ty1:aP ((w.alloc boxR).alloc (ky t)) (w.heap.size+1)≠some 9:=by
  unfold aP
  have:=heap_alloc_new (w.alloc boxR) (ky t)
  rw[World.size_alloc]at this
  rw[this];simp[ky]
 refine⟨hk.loc ?_ ?_ ?_ ty0,hk.loc ?_ ?_ ?_ ty0,hk.loc ?_ ?_ ?_ ty0,hk.loc ?_ ?_ ?_ ty0,hk.E6 ?_ ?_ ?_ ty0,hk.E6 ?_ ?_ ?_ ty0,hk.E6 ?_ ?_ ?_ ty0,hk.E6 ?_ ?_ ?_ ty0,hk.loc ?_ ?_ ?_ ty1,hk.loc ?_ ?_ ?_ ty1⟩
 all_goals first | (simp;done) | omega | (simp;omega) | (simp[boxR,ky];done)
theorem gR (w:World) (a:Addr) (v:Value) (k:Nat):aP (w.setCell a v) k=aP w k:=by
 unfold aP World.setCell
 simp only[Array.getElem?_modify]
 by_cases h:a.block=k
 ·rw[if_pos h]
  cases hq:w.heap[k]? with
  | none=>rfl
  | some o=>cases o<;>rfl
 ·rw[if_neg h]
theorem KA.ty {b:Nat} {X:List Nat} {w w':World} (h:KA b X w w') {k:Nat} (hk:k<w.heap.size) (hX:k∉X) (ht:aP w k≠some 9):aP w' k=aP w k:=by
 unfold aP;rw[h.block k hk hX (Or.inr ht)]
theorem St.xi {w:World} {rb:Nat} {s:ByteArray} {l:List Za.aj} {ns:List ByteArray} {nv:Value} {e:Int} (h:St w rb s l ns nv e) {b:Nat} (hb:b≠rb) (h0:b≠0) (ht:aP w b≠some 9) (i:Nat) (v:Value):St (w.setCell ⟨b,i,none⟩ v) rb s l ns nv e:=by
 have k:∀q,q≠b→(w.setCell ⟨b,i,none⟩ v).heap[q]?=w.heap[q]?:=fun q hq=>Below.heap_setCell _ _ _ _ hq
 have c:∀o,(w.setCell ⟨b,i,none⟩ v).cell? ⟨rb,o,none⟩=w.cell? ⟨rb,o,none⟩:=fun o=>World.cell?_of_block (k rb (Ne.symm hb))
 have f:∀o,(w.setCell ⟨b,i,none⟩ v).frozen? ⟨rb,o,none⟩=w.frozen? ⟨rb,o,none⟩:=fun o=>World.frozen?_of_block (k rb (Ne.symm hb))
 obtain⟨⟨c0,c1,c2,c3,c4,c5,f1,f2,f3,f4,f5⟩,own,chain,isn,few,short,signs,pos,lt⟩:=h
 refine⟨⟨(c 0).trans c0,(c 1).trans c1,(c 2).trans c2,(c 3).trans c3,(c 4).trans c4,(c 5).trans c5,(f 1).trans f1,(f 2).trans f2,(f 3).trans f3,(f 4).trans f4,(f 5).trans f5⟩,⟨own.1,?_⟩,chain,isn,few,short,signs.setCell h0 _,pos,by simpa using lt⟩
 rcases own.2 with q | ⟨g,cap,cur,a,b',c',d⟩
 ·exact Or.inl q
 ·refine Or.inr ⟨g,cap,cur,a,b',?_,d⟩
  rw[k g (fun e=>ht (by rw[←e];unfold aP;rw[c']))]
  exact c'
theorem qI {w w1:World} {rb:Nat} {s:ByteArray} {l':List Za.aj} {ns:List ByteArray} {nv:Value} {e:Int} {t:Za.aj} (hk:KA rb [rb] ((w.alloc boxR).alloc (ky t)) w1) (h:St w1 rb s l' ns nv e) (hlt:rb<w.heap.size) (v0 v1 v2 v3:Value):
 St ((((w1.setCell ⟨w.heap.size,0,none⟩ v0).setCell ⟨w.heap.size,1,none⟩ v1).setCell ⟨w.heap.size,2,none⟩ v2).setCell ⟨w.heap.size,3,none⟩ v3) rb s l' ns nv e∧
 KA rb [rb] w ((((w1.setCell ⟨w.heap.size,0,none⟩ v0).setCell ⟨w.heap.size,1,none⟩ v1).setCell ⟨w.heap.size,2,none⟩ v2).setCell ⟨w.heap.size,3,none⟩ v3):=by
 have ty0:aP ((w.alloc boxR).alloc (ky t)) w.heap.size=some 76:=by
  unfold aP;rw[Below.heap_alloc _ _ _ (by simp),heap_alloc_new];simp[boxR]
 have ne:w.heap.size≠rb:=by omega
 have n0:w.heap.size≠0:=by omega
 have ty1:aP w1 w.heap.size≠some 9:=by
  rw[hk.ty (by simp;omega) (by simpa using ne) (by rw[ty0];simp),ty0];simp
 have base:KA rb [rb] w w1:=(((KA.refl rb [rb] w).alloc _).alloc _).trans hk
 refine⟨?_,(((base.wZ (Nat.le_refl _) _).wZ (Nat.le_refl _) _).wZ (Nat.le_refl _) _).wZ (Nat.le_refl _) _⟩
 have a1:=h.xi ne n0 ty1 0 v0
 have a2:=a1.xi ne n0 (by rw[gR];exact ty1) 1 v1
 have a3:=a2.xi ne n0 (by rw[gR,gR];exact ty1) 2 v2
 exact a3.xi ne n0 (by rw[gR,gR,gR];exact ty1) 3 v3
theorem DG (w:World) (rb:Nat) (s:ByteArray) (l:List Za.aj) (ns:List ByteArray) (nv:Value) (e0:Int) (f d:Nat) (h:St w rb s l ns nv e0) (hm:eo d (Za.hd l)≠0):
 Calls Tryz.prog 75 #[.pointer (some ⟨rb,0,none⟩),.int .i64 (d:Int)] w fun e w'=>pT f rb s ns (Za.bad (eo d (Za.hd l)) l) w e w':=by
 have hb2:Below w.heap.size w ((w.alloc boxR).alloc (ky (Za.hd l))):=((Below.refl _ _).alloc (Nat.le_refl _) _).alloc (by simp) _
 have H2:=af (h.below hb2)
 have hlt:=h.lt
 unfold boxR ky at H2
 obtain⟨⟨c0,c1,c2,c3,c4,c5,f1,f2,f3,f4,f5⟩,own,chain,isn,few,short,signs,pos,lt⟩:=h
 clear own chain isn few short signs hb2
 have OZ:(eo d (Za.hd l) == 0)=false:=by simpa using hm
 go_enter Tryz.func75,Tryz.ntmps75
 go_wp2_with (go_at_call 129;refine(jC _ rb s l ns nv e0 d (ae H2)).mono ?_;rintro e w1 ⟨rfl,hs,hk⟩;rw[if_neg hm]at hs;obtain⟨r0,r1,r2,r3,x0,x1,x2,x3,t0,t2⟩:=boxes hlt hk;have HS:=af hs;have HK:=af hk;clear hs hk)
 have R:=qI (ae HK) (ae HS) hlt (.int .i64 0) (.int .i64 0) (.string ⟨#[]⟩) (.slice none 0 0)
 refine bodyPost_ret (v:= .tuple #[.agg #[.int .i64 0,.int .i64 0,.string ⟨#[]⟩,.slice none 0 0],.bool false]) (by simp[results,Tryz.results75,go_sem,r0,r1,r2,r3]) rfl ?_
 exact⟨_,_,_,_,_,_,l,ns,nv,rfl,R.1,rfl,R.2⟩
theorem St.E7 {w:World} {rb:Nat} {s:ByteArray} {l:List Za.aj} {ns:List ByteArray} {nv:Value} {e:Int} (h:St w rb s l ns nv e):(Za.hd l).text.size≤240:=by obtain⟨p,e⟩:=h.isNext;have h1:=h.short;have h2:=@Za.sF s p;rw[e];omega
theorem Kc {d:Nat} {t:Za.aj} (h:eo d t=0) (hk:t.kind=4):t.text.size≤6:=by
 unfold eo at h
 split at h
 ·split at h
  ·cases h
  ·omega
 ·cases h
theorem O0 {f:Nat} {ns ns':List ByteArray} {w w':World} {x:ByteArray} {i:Int} (hz:x.size≤240) (hn:aV ns'=Za.eK (aV ns) x.toList) (hi:i=((aV ns).idxOf x.toList:Int)):TA (f+1) ns ns' w w' i ⟨#[]⟩ none 0 ⟨3,x,[]⟩:=by
 have hm:x.toList∈Za.eK (aV ns) x.toList:=by
  unfold Za.eK
  split
  ·assumption
  ·simp
 have hx:=Za.JR (aV ns) [] x.toList
 rw[List.append_nil]at hx
 exact⟨RA.one ⟨rfl,rfl,fun _=>⟨by rw[hn];exact hm,by rw[hi,hn];show _=((List.idxOf x.toList _:Nat):Int);rw[hx]⟩,(fun q=>by cases q),(fun q=>by cases q),by simp,hz,by simp⟩ rfl,by rw[hn];simp[Za.namesF]⟩
theorem O2 {f:Nat} {ns:List ByteArray} {w w':World} {x:ByteArray} {i:Int} (hz:x.size≤240) (h6:x.size≤6) (hi:i=(Za.numOf x:Int)):TA (f+1) ns ns w w' i ⟨#[]⟩ none 0 ⟨4,x,[]⟩:=
 ⟨RA.one ⟨rfl,rfl,(fun q=>by cases q),fun _=>⟨hi,h6,rfl⟩,(fun q=>by cases q),by simp,hz,by simp⟩ rfl,by simp[Za.namesF]⟩
def Ti (f b:Nat) (ns ns':List ByteArray) (w':World) (ao:Option Addr) (ts:List Za.Tm):Prop:=
 (ts≠[]→∃(g:Nat) (us:List AV) (cs:Array Value),ao=some ⟨g,0,none⟩∧b<g∧w'.heap[g]?=some (.cells cs 76 (0,0))∧cs.toList.take (us.length*4)=us.flatMap gM∧bR (RA f (aV ns') (fun g=>b<g) w') us ts)∧aV ns'=ts.foldl (Za.namesF f) (aV ns)∧ts.length≤3
theorem AA.up {f:Nat} {ns ns':List ByteArray} {w0 w w':World} {o1 o2:Obj} {ao:Option Addr} {ts:List Za.Tm} (h:AA f ns ns' w w' ao ts) (hz:((w0.alloc o1).alloc o2).heap.size≤w.heap.size):Ti f w0.heap.size ns ns' w' ao ts:=by
 have hz':w0.heap.size+2≤w.heap.size:=by simpa using hz
 refine⟨fun q=> ?_,h.nms,h.few⟩
 obtain⟨g,us,cs,h1,h2,h3,h4,h5⟩:=h.rows q
 exact⟨g,us,cs,h1,by omega,h3,h4,h5.imp fun _ _ r=>r.imp fun g hg _=>by omega⟩
theorem NB {f:Nat} {ns ns':List ByteArray} {w w3:World} {x:ByteArray} {ao:Option Addr} {cap:Nat} {ts:List Za.Tm} {v0 v1 v2 v3:Value} (hz:x.size≤240) (h:Ti f w.heap.size ns ns' w3 ao ts):
 TA (f+1) ns ns' w ((((w3.setCell ⟨w.heap.size,0,none⟩ v0).setCell ⟨w.heap.size,1,none⟩ v1).setCell ⟨w.heap.size,2,none⟩ v2).setCell ⟨w.heap.size,3,none⟩ v3) 0 x ao cap ⟨2,x,ts⟩:=by
 obtain⟨h1,h2,h3⟩:=h
 refine⟨⟨⟨rfl,rfl,(fun q=>by cases q),(fun q=>by cases q),fun _=>rfl,by simp,hz,h3⟩,fun q=> ?_⟩,by rw[h2];simp[Za.namesF]⟩
 obtain⟨g,us,cs,e1,e2,e3,e4,e5⟩:=h1 q
 have k:∀(u:World) (o:Nat) (v:Value),(u.setCell ⟨w.heap.size,o,none⟩ v).heap[g]?=u.heap[g]?:=fun u o v=>Below.heap_setCell _ _ _ _ (by show g≠w.heap.size;omega)
 refine⟨g,us,cs,e1,by omega,by rw[k,k,k,k];exact e3,e4,e5.imp fun _ _ r=> ?_⟩
 exact((((r.set (fun g hg=>by omega) 0 v0).set (fun g hg=>by omega) 1 v1).set (fun g hg=>by omega) 2 v2).set (fun g hg=>by omega) 3 v3).imp fun g hg _=>by omega
theorem Kd {w:World} {rb:Nat} {s:ByteArray} {l:List Za.aj} {ns:List ByteArray} {nv:Value} {e:Int} (h:St w rb s l ns nv e):ns.length+l.tail.length<1000:=by
 have:=h.few
 rcases l with _ | ⟨a,r⟩
 ·exact absurd h.chain (by simp[Za.dT])
 ·simp at this⊢;omega
theorem Ke (w:World) (rb:Nat) (s:ByteArray) (l:List Za.aj) (ns:List ByteArray) (nv:Value) (e0:Int) (d f:Nat) (h:St w rb s l ns nv e0) (hm:eo d (Za.hd l)=0) (hk3:(Za.hd l).kind=3):
 Calls Tryz.prog 75 #[.pointer (some ⟨rb,0,none⟩),.int .i64 (d:Int)] w fun e w'=>pT (f+1) rb s ns (Za.term (f+1) l) w e w':=by
 rw[yT hm (Or.inl hk3),hk3]
 have hb2:Below w.heap.size w ((w.alloc boxR).alloc (ky (Za.hd l))):=((Below.refl _ _).alloc (Nat.le_refl _) _).alloc (by simp) _
 have H2:=af (h.below hb2)
 have vV:=Kd h
 have hlt:=h.lt
 have hz:=h.E7
 have fA:=af (show (Za.hd l).kind≠0 by omega)
 unfold boxR ky at H2
 obtain⟨⟨c0,c1,c2,c3,c4,c5,f1,f2,f3,f4,f5⟩,own,chain,isn,few,short,signs,pos,lt⟩:=h
 clear own chain isn few short signs hb2
 have OZ:(eo d (Za.hd l) == 0)=true:=by simpa using hm
 have eC:=af hk3
 clear hk3
 go_enter Tryz.func75,Tryz.ntmps75
 go_wp2_with fail
 refine(jC _ rb s l ns nv e0 d (ae H2)).mono ?_
 rintro e w1 ⟨rfl,hs,hk⟩
 rw[if_pos hm]at hs
 have HS:=af hs
 have HK:=af hk
 clear hs hk
 go_wp2_with fail
 refine(fP _ rb s l ns nv e0 (ae HS) (ae fA)).mono ?_
 rintro e w2 ⟨rfl,hs,hk⟩
 have cg:=af hs
 have di:=af ((ae HK).trans hk)
 clear hs hk HS HK
 obtain⟨r0,r1,r2,r3,x0,x1,x2,x3,t0,t2⟩:=boxes hlt (ae di)
 rw[ae eC]at t0
 go_wp2_with fail
 refine(A7 _ rb s l.tail ns nv e0 _ (ae cg) vV).mono ?_
 rintro e w3 ⟨ns',nv',rfl,kJ,hs,hk⟩
 have gT:=af kJ
 generalize GU:(((aV ns).idxOf (Za.hd l).text.toList:Nat):Int)=i
 have mv:=af GU
 clear kJ GU
 have eM:=af hs
 have eC:=af ((ae di).trans hk)
 clear hs hk cg di r0 r1 r2 r3 x0 x1 x2 x3 t0 t2
 obtain⟨r0,r1,r2,r3,x0,x1,x2,x3,t0,t2⟩:=boxes hlt (ae eC)
 go_wp2_with fail
 have R:=qI (ae eC) (ae eM) hlt (.int .i64 1) (.int .i64 i) (.string ⟨#[]⟩) (.slice none 0 0)
 refine bodyPost_ret (v:= .tuple #[.agg #[.int .i64 1,.int .i64 i,.string ⟨#[]⟩,.slice none 0 0],.bool true]) (by simp[results,Tryz.results75,go_sem,r0,r1,r2,r3]) rfl ?_
 exact⟨_,_,_,_,ns',nv',e0,rfl,O0 hz (ae gT) (ae mv).symm,R.1,R.2⟩
theorem Kf (w:World) (rb:Nat) (s:ByteArray) (l:List Za.aj) (ns:List ByteArray) (nv:Value) (e0:Int) (d f:Nat) (h:St w rb s l ns nv e0) (hm:eo d (Za.hd l)=0) (hk4:(Za.hd l).kind=4):
 Calls Tryz.prog 75 #[.pointer (some ⟨rb,0,none⟩),.int .i64 (d:Int)] w fun e w'=>pT (f+1) rb s ns (Za.term (f+1) l) w e w':=by
 rw[yT hm (Or.inr hk4),hk4]
 have hb2:Below w.heap.size w ((w.alloc boxR).alloc (ky (Za.hd l))):=((Below.refl _ _).alloc (Nat.le_refl _) _).alloc (by simp) _
 have H2:=af (h.below hb2)
 have hlt:=h.lt
 have hz:=h.E7
 have yU:=Kc hm hk4
 have fA:=af (show (Za.hd l).kind≠0 by omega)
 unfold boxR ky at H2
 obtain⟨⟨c0,c1,c2,c3,c4,c5,f1,f2,f3,f4,f5⟩,own,chain,isn,few,short,signs,pos,lt⟩:=h
 clear own chain isn few short signs hb2
 have OZ:(eo d (Za.hd l) == 0)=true:=by simpa using hm
 have jY:=af hk4
 clear hk4
 go_enter Tryz.func75,Tryz.ntmps75
 go_wp2_with fail
 refine(jC _ rb s l ns nv e0 d (ae H2)).mono ?_
 rintro e w1 ⟨rfl,hs,hk⟩
 rw[if_pos hm]at hs
 have HS:=af hs
 have HK:=af hk
 clear hs hk
 go_wp2_with fail
 refine(fP _ rb s l ns nv e0 (ae HS) (ae fA)).mono ?_
 rintro e w2 ⟨rfl,hs,hk⟩
 have cg:=af hs
 have di:=af ((ae HK).trans hk)
 clear hs hk HS HK
 obtain⟨r0,r1,r2,r3,x0,x1,x2,x3,t0,t2⟩:=boxes hlt (ae di)
 rw[ae jY]at t0
 go_wp2_with fail
 refine(Dg _ _ yU).mono ?_
 rintro e w3 ⟨rfl,rfl⟩
 generalize GU:((Za.numOf (Za.hd l).text:Nat):Int)=i
 have mv:=af GU
 clear GU
 go_wp2_with fail
 have R:=qI (ae di) (ae cg) hlt (.int .i64 2) (.int .i64 i) (.string ⟨#[]⟩) (.slice none 0 0)
 refine bodyPost_ret (v:= .tuple #[.agg #[.int .i64 2,.int .i64 i,.string ⟨#[]⟩,.slice none 0 0],.bool true]) (by simp[results,Tryz.results75,go_sem,r0,r1,r2,r3]) rfl ?_
 exact⟨_,_,_,_,ns,nv,e0,rfl,O2 hz yU (ae mv).symm,R.1,R.2⟩
theorem Kg (f:Nat) (IH:vU f) (w:World) (rb:Nat) (s:ByteArray) (l:List Za.aj) (ns:List ByteArray) (nv:Value) (e0:Int) (d:Nat) (pU:f+1+d=9) (h:St w rb s l ns nv e0) (hm:eo d (Za.hd l)=0) (hk2:(Za.hd l).kind=2):
 Calls Tryz.prog 75 #[.pointer (some ⟨rb,0,none⟩),.int .i64 (d:Int)] w fun e w'=>pT (f+1) rb s ns (Za.term (f+1) l) w e w':=by
 rw[GQ hm hk2]
 have hb2:Below w.heap.size w ((w.alloc boxR).alloc (ky (Za.hd l))):=((Below.refl _ _).alloc (Nat.le_refl _) _).alloc (by simp) _
 have H2:=af (h.below hb2)
 have hlt:=h.lt
 have hz:=h.E7
 have fA:=af (show (Za.hd l).kind≠0 by omega)
 unfold boxR ky at H2
 have I:=af (fun w (hs:St w rb s l.tail ns nv e0)=>IH w rb s l.tail ns nv e0 (d+1) (by omega) hs)
 generalize jR f l.tail=r at I⊢
 obtain⟨⟨c0,c1,c2,c3,c4,c5,f1,f2,f3,f4,f5⟩,own,chain,isn,few,short,signs,pos,lt⟩:=h
 clear own chain isn few short signs hb2 IH
 have OZ:(eo d (Za.hd l) == 0)=true:=by simpa using hm
 have di:=af hk2
 clear hk2
 rcases r with⟨er,pos⟩ | ⟨ts,l2⟩
 ·show Calls _ _ _ _ fun e w'=>pT (f+1) rb s ns (.inl (er,pos)) w e w'
  go_enter Tryz.func75,Tryz.ntmps75
  go_wp2_with fail
  refine(jC _ rb s l ns nv e0 d (ae H2)).mono ?_
  rintro e w1 ⟨rfl,hs,hk⟩
  rw[if_pos hm]at hs
  have HS:=af hs
  have HK:=af hk
  clear hs hk
  go_wp2_with fail
  refine(fP _ rb s l ns nv e0 (ae HS) (ae fA)).mono ?_
  rintro e w2 ⟨rfl,hs,hk⟩
  have cg:=af hs
  have jZ:=af ((ae HK).trans hk)
  clear hs hk HS HK
  obtain⟨r0,r1,r2,r3,x0,x1,x2,x3,t0,t2⟩:=boxes hlt (ae jZ)
  rw[ae di]at t0
  go_wp2_with fail
  rw[show ((d:Int)+1)=((d+1:Nat):Int)by omega]
  refine(ae I _ (ae cg)).mono ?_
  clear r0 r1 r2 r3 x0 x1 x2 x3 t0 t2
  rintro e w3 ⟨l',ns',nv',ao,n,cap,rfl,hs,cu,hk⟩
  have eM:=af hs
  have eC:=af ((ae jZ).trans hk)
  have HP:=af cu
  clear hs hk cg jZ cu
  obtain⟨r0,r1,r2,r3,x0,x1,x2,x3,t0,t2⟩:=boxes hlt (ae eC)
  go_wp2_with fail
  have R:=qI (ae eC) (ae eM) hlt (.int .i64 3) (.int .i64 0) (.string (Za.hd l).text) (.slice ao n cap)
  refine bodyPost_ret (v:= .tuple #[.agg #[.int .i64 3,.int .i64 0,.string (Za.hd l).text,.slice ao n cap],.bool false]) (by simp[results,Tryz.results75,go_sem,r0,r1,r2,r3]) rfl ?_
  exact⟨_,_,_,_,_,_,l',ns',nv',rfl,R.1,ae HP,R.2⟩
 ·show Calls _ _ _ _ fun e w'=>pT (f+1) rb s ns (.inr (⟨2,(Za.hd l).text,ts⟩,l2)) w e w'
  go_enter Tryz.func75,Tryz.ntmps75
  go_wp2_with fail
  refine(jC _ rb s l ns nv e0 d (ae H2)).mono ?_
  rintro e w1 ⟨rfl,hs,hk⟩
  rw[if_pos hm]at hs
  have HS:=af hs
  have HK:=af hk
  clear hs hk
  go_wp2_with fail
  refine(fP _ rb s l ns nv e0 (ae HS) (ae fA)).mono ?_
  rintro e w2 ⟨rfl,hs,hk⟩
  have cg:=af hs
  have jZ:=af ((ae HK).trans hk)
  clear hs hk HS HK
  obtain⟨r0,r1,r2,r3,x0,x1,x2,x3,t0,t2⟩:=boxes hlt (ae jZ)
  rw[ae di]at t0
  go_wp2_with fail
  rw[show ((d:Int)+1)=((d+1:Nat):Int)by omega]
  refine(ae I _ (ae cg)).mono ?_
  clear r0 r1 r2 r3 x0 x1 x2 x3 t0 t2
  rintro e w3 ⟨ao,cap,ns',nv',e',rfl,my,hs,hk⟩
  have GV:=af (my.up (ae jZ).size)
  clear my
  have eM:=af hs
  have eC:=af ((ae jZ).trans hk)
  clear hs hk cg jZ
  obtain⟨r0,r1,r2,r3,x0,x1,x2,x3,t0,t2⟩:=boxes hlt (ae eC)
  go_wp2_with fail
  have R:=qI (ae eC) (ae eM) hlt (.int .i64 3) (.int .i64 0) (.string (Za.hd l).text) (.slice ao ts.length cap)
  refine bodyPost_ret (v:= .tuple #[.agg #[.int .i64 3,.int .i64 0,.string (Za.hd l).text,.slice ao ts.length cap],.bool true]) (by simp[results,Tryz.results75,go_sem,r0,r1,r2,r3]) rfl ?_
  exact⟨_,_,_,_,ns',nv',e',rfl,NB hz (ae GV),R.1,R.2⟩
theorem GW (f:Nat) (IH:vU f):rk (f+1):=by
 intro w rb s l ns nv e0 d pU h
 by_cases hm:eo d (Za.hd l)=0
 ·rcases GR hm with hk | hk | hk
  ·exact Kg f IH w rb s l ns nv e0 d pU h hm hk
  ·exact Ke w rb s l ns nv e0 d f h hm hk
  ·exact Kf w rb s l ns nv e0 d f h hm hk
 ·rw[Kb (by omega) hm]
  exact DG w rb s l ns nv e0 _ d h hm
theorem term_none:rk 0:=by
 intro w rb s l ns nv e0 d pU h
 obtain rfl:d=9:=by omega
 rw[GP]
 exact DG w rb s l ns nv e0 0 9 h (SC _)
theorem Tryz.info76:(Tryz.prog.info? 76).map (fun i=>(i.zero,i.size,i.bytes))=some (some (.agg #[.int .i64 0,.int .i64 0,.string ⟨#[]⟩,.slice none 0 0]),4,56):=by kernel_rfl
theorem sX {rb b0:Nat} {w w1:World} {T:TypeId} {sz:Nat} {v:Value} {n:Nat} {xs:List Value} (h:w.ownsRow b0 T sz v n xs) (hk:KA rb [rb] w w1) (hb:rb<b0) (hT:T≠9):w1.ownsRow b0 T sz v n xs:=
 ⟨h.1,h.2.imp id fun⟨g,cap,cur,a,b,c,d⟩=>⟨g,cap,cur,a,b,(hk.block g (Array.getElem?_eq_some_iff.1 c).1 (by simp;omega) (Or.inr (by unfold aP;rw[c];simpa using hT))).trans c,d⟩⟩
theorem St.grown {w w2:World} {rb:Nat} {s:ByteArray} {l:List Za.aj} {ns:List ByteArray} {nv:Value} {e:Int} {row:Option Nat} (h:St w rb s l ns nv e) (hg:w.grownBy w2 row) (hr:∀k,row=some k→rb<k∧aP w k≠some 9):St w2 rb s l ns nv e:=by
 have k:∀q,q<w.heap.size→some q≠row→w2.heap[q]?=w.heap[q]?:=hg.block
 have mA:=k rb h.lt (fun e=>by have:=(hr rb e.symm).1;omega)
 have h0:=k 0 (by have:=h.lt;omega) (fun e=>by have:=(hr 0 e.symm).1;omega)
 have c:∀o,w2.cell? ⟨rb,o,none⟩=w.cell? ⟨rb,o,none⟩:=fun o=>World.cell?_of_block mA
 have f:∀o,w2.frozen? ⟨rb,o,none⟩=w.frozen? ⟨rb,o,none⟩:=fun o=>World.frozen?_of_block mA
 have z:∀o,w2.cell? ⟨0,o,none⟩=w.cell? ⟨0,o,none⟩:=fun o=>World.cell?_of_block h0
 obtain⟨⟨c0,c1,c2,c3,c4,c5,f1,f2,f3,f4,f5⟩,own,chain,isn,few,short,signs,pos,lt⟩:=h
 refine⟨⟨(c 0).trans c0,(c 1).trans c1,(c 2).trans c2,(c 3).trans c3,(c 4).trans c4,(c 5).trans c5,(f 1).trans f1,(f 2).trans f2,(f 3).trans f3,(f 4).trans f4,(f 5).trans f5⟩,⟨own.1,?_⟩,chain,isn,few,short,⟨(z 0).trans signs.s0,(z 1).trans signs.s1,(z 2).trans signs.s2,(z 3).trans signs.s3,(z 4).trans signs.s4⟩,pos,by have:=hg.size;omega⟩
 rcases own.2 with q | ⟨g,cap,cur,a,b',c',d⟩
 ·exact Or.inl q
 ·refine Or.inr ⟨g,cap,cur,a,b',?_,d⟩
  rw[k g (Array.getElem?_eq_some_iff.1 c').1 (fun e=>(hr g e.symm).2 (by unfold aP;rw[c']))]
  exact c'
def pre (ts:List Za.Tm) (r:Za.dQ (List Za.Tm)):Za.dQ (List Za.Tm):=match r with
 | .inl e=> .inl e
 | .inr (us,l2)=> .inr (ts++us,l2)
theorem NC (r:Za.dQ (List Za.Tm)):r=pre [] r:=by rcases r with e | ⟨us,l2⟩<;>rfl
theorem Kh {p:List Za.aj→Za.dQ Za.Tm} {k:Nat} {l:List Za.aj} {er:Nat×Nat} (h:p l= .inl er):Za.bM p k l= .inl er:=by
 unfold Za.bM;rw[h]
theorem Ki {p:List Za.aj→Za.dQ Za.Tm} {k:Nat} {l l1:List Za.aj} {t:Za.Tm} (h:p l= .inr (t,l1)) (hc:Za.sees l1 [44]=false):Za.bM p k l=if Za.sees l1 [41]=true then .inr ([t],l1.tail)else Za.bad 2 l1:=by
 unfold Za.bM;rw[h];simp only[hc];rfl
theorem GX {p:List Za.aj→Za.dQ Za.Tm} {l l1:List Za.aj} {t:Za.Tm} (h:p l= .inr (t,l1)) (hc:Za.sees l1 [44]=true):Za.bM p 0 l=Za.bad 3 l1:=by
 unfold Za.bM;rw[h];simp only[hc];rfl
theorem GY {p:List Za.aj→Za.dQ Za.Tm} {k:Nat} {l l1:List Za.aj} {t:Za.Tm} (h:p l= .inr (t,l1)) (hc:Za.sees l1 [44]=true) (ts:List Za.Tm):pre ts (Za.bM p (k+1) l)=pre (ts++[t]) (Za.bM p k l1.tail):=by
 conv=>lhs;unfold Za.bM
 rw[h];simp only[hc]
 rcases Za.bM p k l1.tail with e | ⟨us,l2⟩
 ·rfl
 ·simp[pre]
theorem A8 (W:World) (o:Obj) (a b c d:Value) (T:TypeId):∀j u,([a,b,c,d]:List Value)[j]?=some u→((W.alloc o).alloc (.cells #[a,b,c,d] T)).cell? ((⟨W.heap.size+1,0,none⟩:Addr).add j)=some u:=by
 intro j u hj
 match j,hj with
 | 0,hj=>simp at hj;subst hj;simp[Addr.add]
 | 1,hj=>simp at hj;subst hj;simp[Addr.add]
 | 2,hj=>simp at hj;subst hj;simp[Addr.add]
 | 3,hj=>simp at hj;subst hj;simp[Addr.add]
theorem A9 (a b:Int) (c:ByteArray) (ao:Option Addr) (n cap:Nat):∀u∈([.int .i64 a,.int .i64 b,.string c,.slice ao n cap]:List Value),u.oneCell'=true:=by
 intro u hu;simp at hu;rcases hu with rfl | rfl | rfl | rfl<;>rfl
theorem yV {w w2 w3:World} {rb:Nat} {s:ByteArray} {l:List Za.aj} {ns:List ByteArray} {nv:Value} {e:Int} {v:Value} {n:Nat} {xs:List Value} {o1 o2:Obj} {T:TypeId} {sz:Nat} (h:St w2 rb s l ns nv e) (hk:KA rb [rb] w w2) (ho:w2.ownsRow w.heap.size T sz v n xs) (hlt:rb<w.heap.size) (hg:((w2.alloc o1).alloc o2).grownBy w3 v.ownBlock) (hT:T≠9:=by decide):
 St w3 rb s l ns nv e∧KA rb [rb] w w3:=by
 have hb:Below w2.heap.size w2 ((w2.alloc o1).alloc o2):=((Below.refl _ _).alloc (Nat.le_refl _) _).alloc (by simp) _
 have O3:∀k,v.ownBlock=some k→aP ((w2.alloc o1).alloc o2) k≠some 9:=fun k fI=>by
  have:=ho.lt k fI
  rcases ho.2 with⟨rfl,_⟩ | ⟨g,cap,cur,rfl,_,c,_⟩
  ·simp[Value.ownBlock]at fI
  ·simp[Value.ownBlock]at fI
   subst fI
   unfold aP;rw[hb.block g this.2,c];simpa using hT
 refine⟨(h.below hb).grown hg (fun k q=>⟨by have:=(ho.lt k q).1;omega,O3 k q⟩),((hk.alloc o1).alloc o2).grown hg (fun k q=>Or.inl (ho.lt k q).1)⟩
def iK (f:Nat) (w:World) (ns0 ns:List ByteArray) (v:Value) (wr:World) (us:List AV) (ts:List Za.Tm):Prop:=
 bR (RA f (aV ns) (fun g=>w.heap.size≤g∧some g≠v.ownBlock) wr) us ts∧aV ns=ts.foldl (Za.namesF f) (aV ns0)
theorem iK.keep {f:Nat} {w:World} {ns0 ns:List ByteArray} {v:Value} {wr w2:World} {us:List AV} {ts:List Za.Tm} (h:iK f w ns0 ns v wr us ts) (hk:aN wr w2):iK f w ns0 ns v w2 us ts:=
 ⟨h.1.imp fun _ _ r=>r.keep fun g cs hp hc hi=>⟨hk g cs hc hi,hp⟩,h.2⟩
theorem iK.next {f rb:Nat} {w:World} {ns0 ns1 ns2:List ByteArray} {v nv:Value} {wr w2:World} {us:List AV} {ts:List Za.Tm} {s:ByteArray} {l:List Za.aj} {e:Int} {T:TypeId} {sz n:Nat} {xs:List Value} {val:Int} {tx:ByteArray} {ao:Option Addr} {cap:Nat} {t:Za.Tm}
 (h:iK f w ns0 ns1 v wr us ts) (hs:St wr rb s l ns1 nv e) (hk:KA rb [rb] wr w2) (ho:wr.ownsRow w.heap.size T sz v n xs) (hw:w.heap.size≤wr.heap.size) (ht:TA f ns1 ns2 wr w2 val tx ao cap t):
 iK f w ns0 ns2 v w2 (us++[⟨ak t.kind,val,tx,ao,t.args.length,cap⟩]) (ts++[t]):=by
 obtain⟨M,hM,_⟩:=Za.namesF_ext f t ht.rep.nA (aV ns1)
 have he:aV ns2=aV ns1++M:=ht.nms.trans hM
 refine⟨bR.snoc ?_ ?_,by rw[List.foldl_append,←h.2];exact ht.nms⟩
 ·exact ht.rep.imp fun g hg _=>⟨by omega,fun q=>by have:=(ho.lt g q.symm).2;omega⟩
 ·rw[he]
  exact(h.keep (aN.ka hs hk)).1.imp fun _ _ r=>r.more M
theorem iK.grown {f:Nat} {w:World} {ns0 ns:List ByteArray} {v v':Value} {w2 w3:World} {us:List AV} {ts:List Za.Tm} {o1 o2:Obj} (h:iK f w ns0 ns v w2 us ts) (hg:((w2.alloc o1).alloc o2).grownBy w3 v.ownBlock) (hat:v'.ownBlock=v.ownBlock∨v'.ownBlock=some ((w2.alloc o1).alloc o2).heap.size):iK f w ns0 ns v' w3 us ts:=by
 have hb:Below w2.heap.size w2 ((w2.alloc o1).alloc o2):=((Below.refl _ _).alloc (Nat.le_refl _) _).alloc (by simp) _
 have hz:w2.heap.size≤((w2.alloc o1).alloc o2).heap.size:=hb.size
 refine⟨h.1.imp fun _ _ r=>r.keep fun g cs hp hc hi=> ?_,h.2⟩
 have hlt:g<w2.heap.size:=(Array.getElem?_eq_some_iff.1 hc).1
 refine⟨((hg.block g (by omega) hp.2).trans (hb.block g hlt)).trans hc,hp.1,fun q=> ?_⟩
 rcases hat with a | a
 ·exact hp.2 (q.trans a)
 ·rw[a]at q
  injection q with q
  omega
theorem iK.done {f:Nat} {w:World} {ns0 ns:List ByteArray} {g cap:Nat} {wr:World} {us:List AV} {ts:List Za.Tm} (h:iK f w ns0 ns (.slice (some ⟨g,0,none⟩) ts.length cap) wr us ts) (ho:wr.ownsRow w.heap.size 76 4 (.slice (some ⟨g,0,none⟩) ts.length cap) ts.length (us.flatMap gM)) (h3:ts.length≤3):AA f ns0 ns w wr (some ⟨g,0,none⟩) ts:=by
 refine⟨fun _=> ?_,h.2,h3⟩
 rcases ho.2 with⟨q,_⟩ | ⟨g',cap',cur,q,hb,hc,_,_,_,ht⟩
 ·cases q
 ·simp only[Value.slice.injEq,Option.some.injEq,Addr.mk.injEq,and_true,true_and]at q
  obtain⟨rfl,rfl⟩:=q
  exact⟨g,us,cur,rfl,hb,hc,by rw[h.1.length];exact ht,h.1.imp fun _ _ r=>r.imp fun _ q _=>q.1⟩
def ArgRel (w:World) (rb:Nat) (s:ByteArray) (f:Nat) (l0:List Za.aj) (ns0:List ByteArray) (v:Value) (wr:World):Prop:=
 ∃(ts:List Za.Tm) (us:List AV) (l:List Za.aj) (ns:List ByteArray) (nv:Value) (e:Int),St wr rb s l ns nv e∧wr.ownsRow w.heap.size 76 4 v ts.length (us.flatMap gM)∧ts.length≤2∧
  Za.bM (Za.term f) 2 l0=pre ts (Za.bM (Za.term f) (2 - ts.length) l)∧KA rb [rb] w wr∧iK f w ns0 ns v wr us ts
def lenOf:Value→Nat | .slice _ n _=>n | _=>0
theorem ND {w:World} {b:Nat} {e:TypeId} {sz:Nat} {v:Value} {n:Nat} {xs:List Value} (h:w.ownsRow b e sz v n xs):lenOf v=n:=by
 rcases h.2 with⟨rfl,q⟩ | ⟨g,cap,cur,rfl,_⟩
 ·exact q.symm
 ·rfl
theorem GZ (f:Nat) (IH:rk f):vU f:=by
 intro w rb s l ns nv e0 d pU h
 obtain⟨i0,hi,hz0,hz1,hz2⟩:=info_parts Tryz.info76
 have H:=af h
 have hlt:=h.lt
 cases hs0:Za.sees l [40]
 ·have HO:=af (show jR f l= .inr ([],l)by unfold jR;rw[hs0];rfl)
  go_enter Tryz.func132,Tryz.ntmps132
  go_wp2_with (go_at_call 76;refine(bG _ rb s l ns nv e0 _ (ae H)).mono ?_;rintro e w1 ⟨rfl,rfl⟩;simp only[ByteArray.toList_mk])
  go_ret2
  refine(?_:uF f rb s ns (jR f l) w1 _ _)
  rw[ae HO]
  exact⟨none,0,ns,nv,e0,rfl,⟨fun q=>absurd rfl q,rfl,by simp⟩,ae H,KA.refl _ _ _⟩
 ·have HO:=af (show jR f l=Za.bM (Za.term f) 2 l.tail by unfold jR;rw[hs0];rfl)
  have fA:=af (show (Za.hd l).kind≠0 by rw[Za.cU hs0];omega)
  rw[ae HO]
  clear HO
  go_enter Tryz.func132,Tryz.ntmps132
  go_wp2_with fail
  refine(bG _ rb s l ns nv e0 _ (ae H)).mono ?_
  rintro e w1 ⟨rfl,hw⟩
  rw[hw]
  simp only[ByteArray.toList_mk]
  rw[hs0]
  clear hw w1
  go_wp2_with fail
  refine(fP _ rb s l ns nv e0 (ae H) (ae fA)).mono ?_
  rintro e w1 ⟨rfl,hs1,fo⟩
  have bH:=af hs1
  have df:=af fo
  clear hs1 fo
  go_wp2_with fail
  go_loopw [6] (fun v wr=>ArgRel w rb s f l.tail ns v wr) (fun v _=>2 - lenOf v)
  case atStart=>exact⟨[],[],l.tail,ns,nv,e0,ae bH,World.ownsRow_nil _ _ _ _,by simp,NC _,ae df,trivial,rfl⟩
  case round=>
   obtain⟨ts,us,l1,ns1,nv1,e1,hst,hown,rT,Ba,hka,O4⟩:=hrel
   have U0:=af O4
   have HST:=af hst
   have mO:=af hown
   have HLEN:=af (ND hown)
   have E8:=af Ba
   have Bb:=af hka
   clear hst hown Ba hka O4
   have I:=af (IH wr rb s l1 ns1 nv1 e1 d pU (ae HST))
   generalize hr:Za.term f l1=r at I
   have HR:=af hr
   clear hr
   rcases r with⟨er,pos⟩ | ⟨t,l2⟩
   ·have HF:Hid (Za.bM (Za.term f) 2 l.tail= .inl (er,pos)):=(ae E8).trans (by rw[Kh (ae HR)];rfl)
    go_wp2_with fail
    refine(ae I).mono ?_
    rintro e w2 ⟨k,val,tx,ao,n,cap,l',ns',nv',rfl,hs2,cu,hk2⟩
    have cg:=af hs2
    have HP:=af cu
    have di:=af ((ae Bb).trans hk2)
    clear hs2 cu hk2
    go_wp2_with fail
    go_ret2
    refine(?_:uF f rb s ns _ w _ _)
    rw[ae HF]
    exact⟨l',ns',nv',none,0,0,rfl,(ae cg).below ((Below.refl _ _).alloc (Nat.le_refl _) _),ae HP,(ae di).alloc _⟩
   ·go_wp2_with fail
    refine(ae I).mono ?_
    rintro e w2 ⟨val,tx,ao,cap,ns2,nv2,e2,rfl,bj,hs2,hk2⟩
    have SF:=af ((ae U0).next (ae HST) hk2 (ae mO) (ae Bb).size bj)
    have cg:=af hs2
    have Bc:=af (sX (ae mO) hk2 hlt (by decide))
    have di:=af ((ae Bb).trans hk2)
    have X7:w.heap.size≤w2.heap.size:=(ae di).size
    clear hs2 hk2 bj
    go_wp2_with (first | (at_builtin;refine wpList_append_own_at _ rfl (.tmp 23) (.tmp 25) 74 rfl w.heap.size 76 i0 (.agg #[.int .i64 0,.int .i64 0,.string ⟨#[]⟩,.slice none 0 0]) 4 56 Tryz.underlying74 hi hz0 hz1 hz2 rfl (by decide) _ ts.length (us.flatMap gM) rfl (((ae Bc).alloc _).alloc _) ⟨w2.heap.size+1,0,none⟩ 1 1 [.int .i64 (ak t.kind),.int .i64 val,.string tx,.slice ao t.args.length cap] rfl rfl (A8 _ _ _ _ _ _ _) (A9 _ _ _ _ _ _) (by unfold maxLen;omega) (by omega) (by simp;omega) ?_;intro v' w3 hown' hgrow _ hat;have E9:=af ((ae SF).grown hgrow hat);clear hat;have Fa:=af hown';have R3:=af (yV (ae cg) (ae di) (ae Bc) hlt hgrow);obtain⟨g',cap',hv,hcm⟩:=fk hown';rw[hv]at Fa E9⊢;clear hown' hgrow hv))
    have eM:=af (ae R3).1
    have eC:=af (ae R3).2
    clear R3
    cases hc:Za.sees l2 [44]
    ·have HF:=af ((ae E8).trans (by rw[Ki (ae HR) hc]))
     refine(bG _ rb s l2 ns2 nv2 e2 _ (ae eM)).mono ?_
     rintro e w4 ⟨rfl,hw⟩
     rw[hw]
     simp only[ByteArray.toList_mk]
     rw[hc]
     clear hw w4
     go_wp2_with fail
     refine(bG _ rb s l2 ns2 nv2 e2 _ (ae eM)).mono ?_
     rintro e w4 ⟨rfl,hw⟩
     rw[hw]
     simp only[ByteArray.toList_mk]
     clear hw w4
     cases hb:Za.sees l2 [41]
     ·rw[hb]at HF
      go_wp2_with fail
      refine(dI _ rb s l2 ns2 nv2 e2 false (ae eM) (fun q=>by cases q)).mono ?_
      rintro e w4 ⟨rfl,nE,hk4⟩
      have iL:=af nE
      have jY:=af ((ae eC).trans hk4)
      clear nE hk4
      go_wp2_with fail
      go_ret2
      refine(?_:uF f rb s ns _ w _ _)
      rw[ae HF]
      exact⟨l2,ns2,nv2,_,_,_,rfl,ae iL,rfl,ae jY⟩
     ·rw[hb]at HF
      have bZ:=af (show (Za.hd l2).kind≠0 by rw[Za.cU hb];omega)
      go_wp2_with fail
      refine(dI _ rb s l2 ns2 nv2 e2 true (ae eM) (fun _=>ae bZ)).mono ?_
      rintro e w4 ⟨rfl,nE,hk4⟩
      have Bd:=af (aN.ka (ae eM) hk4)
      have O5:=af (sX (ae Fa) hk4 hlt (by decide))
      have iL:=af nE
      have jY:=af ((ae eC).trans hk4)
      clear nE hk4
      go_wp2_with fail
      go_ret2
      refine(?_:uF f rb s ns _ w _ _)
      rw[ae HF]
      exact⟨some ⟨g',0,none⟩,cap',ns2,nv2,e2,by simp,iK.done (by simpa using (ae E9).keep (ae Bd)) (by simpa [gM] using ae O5) (by simp;omega),ae iL,ae jY⟩
    ·have bZ:=af (show (Za.hd l2).kind≠0 by rw[Za.cU hc];omega)
     refine(bG _ rb s l2 ns2 nv2 e2 _ (ae eM)).mono ?_
     rintro e w4 ⟨rfl,hw⟩
     rw[hw]
     simp only[ByteArray.toList_mk]
     rw[hc]
     clear hw w4
     go_wp2_with fail
     rw[show ((ts.length:Int)+1)=((ts.length+1:Nat):Int)by omega]
     refine(yR _ rb s l2 ns2 nv2 e2 (ts.length+1) 3 (ae eM) (ae bZ)).mono ?_
     by_cases hn:ts.length+1<3
     ·have HF:=af ((ae E8).trans (by rw[show 2 - ts.length=(2 - (ts.length+1))+1 by omega,GY (ae HR) hc]))
      rw[if_pos hn,if_pos hn,decide_eq_true hn]
      rintro e w4 ⟨rfl,nE,hk4⟩
      have iL:=af nE
      have Bd:=af (aN.ka (ae eM) hk4)
      have O5:=af (sX (ae Fa) hk4 hlt (by decide))
      have jY:=af ((ae eC).trans hk4)
      clear nE hk4
      go_wp2_with fail
      go_roundw
      case rel=>exact⟨ts++[t],us++[⟨ak t.kind,val,tx,ao,t.args.length,cap⟩],l2.tail,ns2,nv2,e2,ae iL,by simpa [gM] using ae O5,by simp;omega,by simpa using ae HF,ae jY,(ae E9).keep (ae Bd)⟩
      case measure=>show 2 - (ts.length+1)<2 - lenOf _;rw[ae HLEN];omega
     ·have h0:ts.length=2:=by omega
      have HF:=af ((ae E8).trans (by rw[show 2 - ts.length=0 by omega,GX (ae HR) hc]))
      rw[if_neg hn,if_neg hn,decide_eq_false hn]
      rintro e w4 ⟨rfl,nE,hk4⟩
      have iL:=af nE
      have jY:=af ((ae eC).trans hk4)
      clear nE hk4 h0
      go_wp2_with fail
      go_ret2
      refine(?_:uF f rb s ns _ w _ _)
      rw[ae HF]
      exact⟨l2,ns2,nv2,_,_,_,rfl,ae iL,rfl,ae jY⟩
theorem term_all:∀f,rk f
 | 0=>term_none
 | f+1=>GW f (GZ f (term_all f))
end Go.Proofs.YthfjnfcekeknlaaGreatDoor
namespace Za
def X8 (N:List (List UInt8)) (x:aH):List UInt8:=
 strF 8 N x.left++(match x.right with
  | none=>[]
  | some r=>x.sign++strF 8 N r)++(match x.last with
  | none=>[]
  | some z=>x.op++strF 8 N z)
def cG (ns:List (List UInt8)):Option Tm→List (List UInt8)
 | none=>ns
 | some t=>namesF 8 ns t
def aQ (ns:List (List UInt8)) (x:aH):List (List UInt8):=cG (cG (namesF 8 ns x.left) x.right) x.last
def G0 (x:aH):Prop:=nA 8 x.left∧(∀r,x.right=some r→nA 8 r)∧(∀z,x.last=some z→nA 8 z)
theorem pV {ns:List (List UInt8)} {t:Option Tm} (h:∀r,t=some r→nA 8 r):∃M,cG ns t=ns++M∧M.length≤3 ^ 8:=by
 cases t with
 | none=>exact⟨[],by simp[cG],by simp⟩
 | some r=>exact namesF_ext 8 r (h r rfl) ns
theorem xj (x:aH) (h:G0 x) (ns:List (List UInt8)):∃M,aQ ns x=ns++M∧M.length≤20000:=by
 obtain⟨M1,h1,l1⟩:=namesF_ext 8 x.left h.1 ns
 obtain⟨M2,h2,l2⟩:=pV (ns:=namesF 8 ns x.left) (t:=x.right) h.2.1
 obtain⟨M3,h3,l3⟩:=pV (ns:=cG (namesF 8 ns x.left) x.right) (t:=x.last) h.2.2
 refine⟨M1++(M2++M3),by unfold aQ;rw[h3,h2,h1];simp,?_⟩
 simp at l1 l2 l3⊢
 omega
end Za
namespace Go.Proofs.YthfjnfcekeknlaaGreatDoor
open Go.RowKit
theorem aA {w:World} {b:Nat} {cs:Array Value} {T:TypeId} (h:w.heap[b]?=some (.cells cs T (0,0))) (i:Nat) (v:Value):(w.setCell ⟨b,i,none⟩ v).heap[b]?=some (.cells (cs.setIfInBounds i v) T (0,0)):=by
 simp[World.setCell,Array.getElem?_modify,h]
theorem aG {w:World} {b:Nat} {x:Obj} (h:w.heap[b]?=some x) {b':Nat} (hne:b≠b') (i:Nat) (v:Value):(w.setCell ⟨b',i,none⟩ v).heap[b]?=some x:=(Below.heap_setCell _ _ _ _ hne).trans h
theorem Be {w:World} {b:Nat} {T:TypeId} {c0 c1 c2 c3 c4 c5 c6 c7 c8 c9 c10 c11 c12 c13:Value} (v5 v6 v7 v8 v9:Value) (h:w.heap[b]?=some (.cells #[c0,c1,c2,c3,c4,c5,c6,c7,c8,c9,c10,c11,c12,c13] T (0,0))):(((((w.setCell ⟨b,5,none⟩ v5).setCell ⟨b,6,none⟩ v6).setCell ⟨b,7,none⟩ v7).setCell ⟨b,8,none⟩ v8).setCell ⟨b,9,none⟩ v9).heap[b]?=some (.cells #[c0,c1,c2,c3,c4,v5,v6,v7,v8,v9,c10,c11,c12,c13] T (0,0)):=by
 have:=aA (aA (aA (aA (aA h 5 v5) 6 v6) 7 v7) 8 v8) 9 v9
 simpa using this
theorem xk {w:World} {b b':Nat} {x:Obj} (v5 v6 v7 v8 v9:Value) (h:w.heap[b']?=some x) (hne:b'≠b):(((((w.setCell ⟨b,5,none⟩ v5).setCell ⟨b,6,none⟩ v6).setCell ⟨b,7,none⟩ v7).setCell ⟨b,8,none⟩ v8).setCell ⟨b,9,none⟩ v9).heap[b']?=some x:=
 aG (aG (aG (aG (aG h hne 5 v5) hne 6 v6) hne 7 v7) hne 8 v8) hne 9 v9
end Go.Proofs.YthfjnfcekeknlaaGreatDoor
