import Derived.Test.YthfjnfcekeknlabGreatDoorGu02
import Derived.Maps.AppendAt
set_option maxHeartbeats 8000000
set_option maxRecDepth 100000
namespace Go.Proofs.YthfjnfcekeknlabGreatDoor
open Go.RowKit
theorem fN (w:World) (rb:Nat) (s:ByteArray) (l:List Zf.Tok) (ns:List ByteArray) (nv:Value) (e0:Int) (h:St w rb s l ns nv e0) (h0:(Zf.hd l).kind≠0):
 Calls Tryz.prog 63 #[.pointer (some ⟨rb,0,none⟩)] w fun e w'=>e= .returned (.tuple #[])∧St w' rb s l.tail ns nv e0∧KA rb [rb] w w':=by
 have HS:=hide h
 obtain⟨⟨c0,c1,c2,c3,c4,c5,f1,f2,f3,f4,f5⟩,own,chain,⟨p,isn⟩,few,short,signs,pos,lt⟩:=h
 have hfit:(Zf.hd l).pos+(Zf.hd l).text.size≤s.size:=by rw[isn];exact Zf.sk
 have hmx:s.size≤maxLen:=by unfold maxLen;omega
 have hz:0<w.heap.size:=by omega
 have hC:=hide chain
 have HG:=hide signs
 have hw:IntKind.i64.wrap (((Zf.hd l).pos:Int)+((Zf.hd l).text.size:Int))=((Zf.hd l).pos:Int)+((Zf.hd l).text.size:Int):=by rw[IntWalk.i64_in _ ⟨by omega,by omega⟩]
 have HP:=hide (show ((Zf.hd l).pos:Int)+((Zf.hd l).text.size:Int)=(((Zf.hd l).pos+(Zf.hd l).text.size:Nat):Int)by omega)
 clear chain own isn few signs
 go_enter Tryz.func63,Tryz.ntmps63
 go_wp2
 go_region_with (go_at_call 30;rw[ae HP];refine(vL s ((Zf.hd l).pos+(Zf.hd l).text.size) _ hmx hfit ((ae HG).draws 1) hz).mono ?_;rintro e w1 ⟨rfl,hb⟩;obtain⟨d0,d1,d2,d3,d4,d5,g1,g2,g3,g4,g5⟩:=(ae HS).rd.below (Below.trans (Below.refl _ _).drew hb) lt)
 all_goals
  go_wp2
  go_end0
  exact⟨rfl,Ky (ae HS) h0 (Below.trans (Below.refl _ _).drew hb)⟩
theorem dJ (w:World) (rb:Nat) (s:ByteArray) (l:List Zf.Tok) (ns:List ByteArray) (nv:Value) (e0:Int) (f:Bool) (h:St w rb s l ns nv e0) (h0:f=true→(Zf.hd l).kind≠0):
 Calls Tryz.prog 65 #[.pointer (some ⟨rb,0,none⟩),.bool f] w fun e w'=>e= .returned (.bool f)∧St w' rb s (if f then l.tail else l) ns nv (if f then e0 else 2)∧KA rb [rb] w w':=by
 have H:=hide h
 clear h
 cases f
 ·go_enter Tryz.func65,Tryz.ntmps65
  go_wp2_with (go_at_call 68;refine(cg _ _ _ _ _ _ _ 2 (ae H)).mono ?_;rintro e w1 ⟨rfl,hs,hk⟩;have HS:=hide hs;have HK:=hide hk;clear hs hk)
  go_ret
  exact⟨rfl,ae HS,ae HK⟩
 ·have h0':=hide (h0 rfl)
  clear h0
  go_enter Tryz.func65,Tryz.ntmps65
  go_wp2_with (go_at_call 63;refine(fN _ _ _ _ _ _ _ (ae H) (ae h0')).mono ?_;rintro e w1 ⟨rfl,hs,hk⟩;have HS:=hide hs;have HK:=hide hk;clear hs hk)
  go_ret
  exact⟨rfl,ae HS,ae HK⟩
theorem y9 (w:World) (rb:Nat) (s:ByteArray) (l:List Zf.Tok) (ns:List ByteArray) (nv:Value) (e0:Int) (c m:Nat) (h:St w rb s l ns nv e0) (h0:(Zf.hd l).kind≠0):
 Calls Tryz.prog 67 #[.pointer (some ⟨rb,0,none⟩),.int .i64 (c:Int),.int .i64 (m:Int)] w fun e w'=>e= .returned (.bool (decide (c<m)))∧St w' rb s (if c<m then l.tail else l) ns nv (if c<m then e0 else 3)∧KA rb [rb] w w':=by
 have H:=hide h
 have h0':=hide h0
 clear h h0
 by_cases hc:c<m
 ·rw[if_pos hc,if_pos hc]
  go_enter Tryz.func67,Tryz.ntmps67
  go_wp2_with (go_at_call 63;refine(fN _ _ _ _ _ _ _ (ae H) (ae h0')).mono ?_;rintro e w1 ⟨rfl,hs,hk⟩;have HS:=hide hs;have HK:=hide hk;clear hs hk)
  go_ret
  exact⟨cN (by simp[hc]),ae HS,ae HK⟩
 ·rw[if_neg hc,if_neg hc]
  go_enter Tryz.func67,Tryz.ntmps67
  go_wp2_with (go_at_call 68;refine(cg _ _ _ _ _ _ _ 3 (ae H)).mono ?_;rintro e w1 ⟨rfl,hs,hk⟩;have HS:=hide hs;have HK:=hide hk;clear hs hk)
  go_ret
  exact⟨cN (by simp;omega),ae HS,ae HK⟩
def dZ (d:Nat) (t:Zf.Tok):Nat:=if Zf.begins t=true then(if t.kind=4∧6<t.text.size∨8<d then 3 else 0)else 2
theorem KL {d:Nat} {t:Zf.Tok} (h:¬(t.kind=2∨t.kind=3∨t.kind=4)):dZ d t=2:=by
 unfold dZ Zf.begins;rw[if_neg];simp;omega
theorem Fy {d:Nat} {t:Zf.Tok} (h:t.kind=2∨t.kind=3∨t.kind=4) (b:t.kind=4∧6<t.text.size∨8<d):dZ d t=3:=by
 unfold dZ Zf.begins;rw[if_pos,if_pos b];simp;omega
theorem Hf {d:Nat} {t:Zf.Tok} (h:t.kind=2∨t.kind=3∨t.kind=4) (b:¬(t.kind=4∧6<t.text.size∨8<d)):dZ d t=0:=by
 unfold dZ Zf.begins;rw[if_pos,if_neg b];simp;omega
theorem Hg (w:World) (rb:Nat) (s:ByteArray) (l:List Zf.Tok) (ns:List ByteArray) (nv:Value) (e0:Int) (d k z:Nat) (h:St w rb s l ns nv e0) (hkk:(Zf.hd l).kind=k) (hzz:(Zf.hd l).text.size=z) (hz:z≤240) (m:Nat)
 (hm:(m=2∧¬(k=2∨k=3∨k=4))∨(m=3∧(k=2∨k=3∨k=4)∧(k=4∧6<z∨8<d))):
 Calls Tryz.prog 107 #[.pointer (some ⟨rb,0,none⟩),.int .i64 (d:Int)] w fun e w'=>e= .returned (.bool false)∧St w' rb s l ns nv (m:Int)∧KA rb [rb] w w':=by
 have H:=hide h
 obtain⟨⟨c0,c1,c2,c3,c4,c5,f1,f2,f3,f4,f5⟩,own,chain,isn,few,short,signs,pos,lt⟩:=h
 clear own chain isn few short signs pos lt c0 c2 c4 c5 f1 f2 f3 f4 f5
 rw[hkk]at c1
 generalize (Zf.hd l).text=tx at c3 hzz
 clear hkk
 subst hzz
 rcases hm with⟨rfl,hn⟩ | ⟨rfl,hk,hb⟩
 ·have n2:((k:Int) != 2)=true:=by simp;omega
  have n3:((k:Int) != 3)=true:=by simp;omega
  have n4:((k:Int) != 4)=true:=by simp;omega
  clear hn
  go_enter Tryz.func107,Tryz.ntmps107
  go_wp2_with (go_at_call 68;refine(cg _ _ _ _ _ _ _ 2 (ae H)).mono ?_;rintro e w1 ⟨rfl,hs,hk⟩;have HS:=hide hs;have HK:=hide hk;clear hs hk)
  go_ret
  exact⟨rfl,ae HS,ae HK⟩
 ·rcases hk with rfl | rfl | rfl
  ·have PS:8<d:=by omega
   clear hb
   go_enter Tryz.func107,Tryz.ntmps107
   go_wp2_with (go_at_call 68;refine(cg _ _ _ _ _ _ _ 3 (ae H)).mono ?_;rintro e w1 ⟨rfl,hs,hk⟩;have HS:=hide hs;have HK:=hide hk;clear hs hk)
   go_ret
   exact⟨rfl,ae HS,ae HK⟩
  ·have PS:8<d:=by omega
   clear hb
   go_enter Tryz.func107,Tryz.ntmps107
   go_wp2_with (go_at_call 68;refine(cg _ _ _ _ _ _ _ 3 (ae H)).mono ?_;rintro e w1 ⟨rfl,hs,hk⟩;have HS:=hide hs;have HK:=hide hk;clear hs hk)
   go_ret
   exact⟨rfl,ae HS,ae HK⟩
  ·by_cases h6:6<tx.size
   ·clear hb
    go_enter Tryz.func107,Tryz.ntmps107
    go_wp2_with (go_at_call 68;refine(cg _ _ _ _ _ _ _ 3 (ae H)).mono ?_;rintro e w1 ⟨rfl,hs,hk⟩;have HS:=hide hs;have HK:=hide hk;clear hs hk)
    go_ret
    exact⟨rfl,ae HS,ae HK⟩
   ·have PS:8<d:=by omega
    clear hb
    go_enter Tryz.func107,Tryz.ntmps107
    go_wp2_with (go_at_call 68;refine(cg _ _ _ _ _ _ _ 3 (ae H)).mono ?_;rintro e w1 ⟨rfl,hs,hk⟩;have HS:=hide hs;have HK:=hide hk;clear hs hk)
    go_ret
    exact⟨rfl,ae HS,ae HK⟩
theorem OH (w:World) (rb:Nat) (s:ByteArray) (l:List Zf.Tok) (ns:List ByteArray) (nv:Value) (e0:Int) (d k z:Nat) (h:St w rb s l ns nv e0) (hkk:(Zf.hd l).kind=k) (hzz:(Zf.hd l).text.size=z) (hz:z≤240)
 (hk:k=2∨k=3∨k=4) (hn:¬(k=4∧6<z∨8<d)):
 Calls Tryz.prog 107 #[.pointer (some ⟨rb,0,none⟩),.int .i64 (d:Int)] w fun e w'=>e= .returned (.bool true)∧w'=w:=by
 obtain⟨⟨c0,c1,c2,c3,c4,c5,f1,f2,f3,f4,f5⟩,own,chain,isn,few,short,signs,pos,lt⟩:=h
 clear own chain isn few short signs pos lt c0 c2 c4 c5 f1 f2 f3 f4 f5
 rw[hkk]at c1
 generalize (Zf.hd l).text=tx at c3 hzz
 clear hkk
 subst hzz
 have PS:d≤8:=by omega
 rcases hk with rfl | rfl | rfl
 ·clear hn
  go_enter Tryz.func107,Tryz.ntmps107
  go_wp2_with fail
  go_ret
  exact⟨rfl,rfl⟩
 ·clear hn
  go_enter Tryz.func107,Tryz.ntmps107
  go_wp2_with fail
  go_ret
  exact⟨rfl,rfl⟩
 ·have h6:tx.size≤6:=by omega
  clear hn
  go_enter Tryz.func107,Tryz.ntmps107
  go_wp2_with fail
  go_ret
  exact⟨rfl,rfl⟩
theorem jB (w:World) (rb:Nat) (s:ByteArray) (l:List Zf.Tok) (ns:List ByteArray) (nv:Value) (e0:Int) (d:Nat) (h:St w rb s l ns nv e0):
 Calls Tryz.prog 107 #[.pointer (some ⟨rb,0,none⟩),.int .i64 (d:Int)] w fun e w'=>e= .returned (.bool (dZ d (Zf.hd l) == 0))∧St w' rb s l ns nv (if dZ d (Zf.hd l)=0 then e0 else(dZ d (Zf.hd l):Int))∧KA rb [rb] w w':=by
 have hz:(Zf.hd l).text.size≤240:=by obtain⟨p,e⟩:=h.isNext;have h1:=h.short;have h2:=@Zf.sk s p;rw[e];omega
 by_cases hk:(Zf.hd l).kind=2∨(Zf.hd l).kind=3∨(Zf.hd l).kind=4
 ·by_cases hb:(Zf.hd l).kind=4∧6<(Zf.hd l).text.size∨8<d
  ·rw[Fy hk hb]
   exact Hg w rb s l ns nv e0 d _ _ h rfl rfl hz 3 (Or.inr ⟨rfl,hk,hb⟩)
  ·rw[Hf hk hb]
   refine(OH w rb s l ns nv e0 d _ _ h rfl rfl hz hk hb).mono ?_
   rintro e w' ⟨rfl,rfl⟩
   exact⟨rfl,h,KA.refl _ _ _⟩
 ·rw[KL hk]
  exact Hg w rb s l ns nv e0 d _ _ h rfl rfl hz 2 (Or.inl ⟨rfl,hk⟩)
def aR (ns:List ByteArray):List (List UInt8):=ns.map fun b=>b.toList
theorem OI {ns:List ByteArray} {k:Nat} {x:List UInt8} (h:k<ns.length) (he:ns[k].toList=x) (hno:∀j (hj:j<ns.length),j<k→ns[j].toList≠x):(aR ns).idxOf x=k:=by
 unfold aR
 induction ns generalizing k with
 | nil=>simp at h
 | cons u us ih=>
  rw[List.map_cons]
  cases k with
  | zero=>rw[List.idxOf_cons];simp at he;simp[he]
  | succ k=>
   have h0:u.toList≠x:=hno 0 (by simp) (by omega)
   rw[List.idxOf_cons]
   simp only[beq_iff_eq,h0,cond_eq_ite,if_false]
   have:=ih (k:=k) (by simpa using h) (by simpa using he) (fun j hj q=>by have:=hno (j+1) (by simpa using hj) (by omega);simpa using this)
   rw[this]
theorem PT {ns:List ByteArray} {k:Nat} {x:List UInt8} (h:k<ns.length) (he:ns[k].toList=x):Zf.dQ (aR ns) x=aR ns:=by
 unfold Zf.dQ
 rw[if_pos]
 subst he
 exact List.mem_map.2 ⟨ns[k],by simp,rfl⟩
theorem OJ {ns:List ByteArray} {x:List UInt8} (hno:∀j (hj:j<ns.length),ns[j].toList≠x):x∉aR ns:=by
 intro q
 obtain⟨u,hu,rfl⟩:=List.mem_map.1 q
 obtain⟨i,hi,rfl⟩:=List.getElem_of_mem hu
 exact hno i hi rfl
theorem OL {ns:List ByteArray} {g:ByteArray} (h:g.toList∉aR ns):aR (ns++[g])=Zf.dQ (aR ns) g.toList∧(aR ns).idxOf g.toList=ns.length:=by
 unfold Zf.dQ
 rw[if_neg h,List.idxOf_eq_length h]
 simp[aR]
structure AV where
 k:Int
 val:Int
 tx:ByteArray
 ao:Option Addr
 n:Nat
 cap:Nat
def gP (a:AV):List Value:=[.int .i64 a.k,.int .i64 a.val,.string a.tx,.slice a.ao a.n a.cap]
def ak (k:Nat):Int:=if k=3 then 1 else if k=4 then 2 else 3
def l7 (N:List (List UInt8)) (a:AV) (t:Zf.Tm):Prop:=a.k=ak t.kind∧a.n=t.args.length∧(t.kind=3→t.text.toList∈N∧a.val=(N.idxOf t.text.toList:Int))∧(t.kind=4→a.val=(Zf.numOf t.text:Int)∧t.text.size≤6∧a.tx=⟨#[]⟩)∧(t.kind=2→a.tx=t.text)∧(t.kind=2∨t.kind=3∨t.kind=4)∧t.text.size≤240∧t.args.length≤3
def RA:Nat→List (List UInt8)→(Nat→Prop)→World→AV→Zf.Tm→Prop
 | 0,_,_,_,_,_=>False
 | f+1,N,P,w,a,t=>l7 N a t∧(t.args≠[]→∃(g:Nat) (us:List AV) (cs:Array Value),a.ao=some ⟨g,0,none⟩∧P g∧w.heap[g]?=some (.cells cs 74 (0,0))∧cs.toList.take (us.length*4)=us.flatMap gP∧bR (RA f N P w) us t.args)
theorem RA.keep {N:List (List UInt8)} {P Q:Nat→Prop} {w w':World} (hk:∀(g:Nat) (cs:Array Value),P g→w.heap[g]?=some (.cells cs 74 (0,0))→(∃k r,cs.toList= .int .i64 k :: r)→w'.heap[g]?=some (.cells cs 74 (0,0))∧Q g):∀{f:Nat} {a:AV} {t:Zf.Tm},RA f N P w a t→RA f N Q w' a t
 | f+1,_,_,⟨h,q⟩=>⟨h,fun n=>by
  obtain⟨g,us,cs,h1,h2,h3,h4,h5⟩:=q n
  have hi:∃k r,cs.toList= .int .i64 k :: r:=by
   cases us with
   | nil=>have:=h5.length;simp at this;exact absurd (List.length_eq_zero_iff.1 this.symm) n
   | cons u us=>
    cases hc:cs.toList with
    | nil=>rw[hc]at h4;simp[gP]at h4
    | cons c r=>
     rw[hc]at h4
     simp only[List.length_cons,Nat.add_mul,Nat.one_mul,List.flatMap_cons,gP,List.cons_append,List.take_succ_cons]at h4
     injection h4 with h4 _
     exact⟨_,r,by rw[h4]⟩
  obtain⟨r1,r2⟩:=hk g cs h2 h3 hi
  exact⟨g,us,cs,h1,r2,r1,h4,h5.imp fun _ _=>RA.keep hk⟩⟩
theorem RA.imp {N:List (List UInt8)} {P Q:Nat→Prop} {w:World} {f:Nat} {a:AV} {t:Zf.Tm} (h:RA f N P w a t) (hk:∀g,P g→g<w.heap.size→Q g):RA f N Q w a t:=
 h.keep fun g _ hp hg _=>⟨hg,hk g hp (Array.getElem?_eq_some_iff.1 hg).1⟩
theorem RA.set {N:List (List UInt8)} {P:Nat→Prop} {w:World} {f:Nat} {a:AV} {t:Zf.Tm} (h:RA f N P w a t) {b:Nat} (hP:∀g,P g→g≠b) (o:Nat) (v:Value):RA f N P (w.setCell ⟨b,o,none⟩ v) a t:=
 h.keep fun g _ hp hg _=>⟨(Below.heap_setCell _ _ _ _ (fun e=>hP g hp e)).trans hg,hp⟩
theorem l7.more {N:List (List UInt8)} {a:AV} {t:Zf.Tm} (h:l7 N a t) (M:List (List UInt8)):l7 (N++M) a t:=
 ⟨h.1,h.2.1,fun k=>⟨List.mem_append_left _ (h.2.2.1 k).1,by rw[(h.2.2.1 k).2,List.idxOf_append,if_pos (h.2.2.1 k).1]⟩,h.2.2.2⟩
theorem RA.more {P:Nat→Prop} {w:World} {N:List (List UInt8)} (M:List (List UInt8)):∀{f:Nat} {a:AV} {t:Zf.Tm},RA f N P w a t→RA f (N++M) P w a t
 | f+1,_,_,⟨h,q⟩=>⟨h.more M,fun n=>by
  obtain⟨g,us,cs,h1,h2,h3,h4,h5⟩:=q n
  exact⟨g,us,cs,h1,h2,h3,h4,h5.imp fun _ _=>RA.more M⟩⟩
theorem RA.ny {P:Nat→Prop} {w:World} {N:List (List UInt8)}:∀{f:Nat} {a:AV} {t:Zf.Tm},RA f N P w a t→Zf.ny f t
 | f+1,a,t,⟨h,q⟩=>by
  obtain⟨h1,h2,h3,h4,h5,h6,h7,h8⟩:=h
  refine⟨h7,h8,fun k=>(h4 k).2.1,?_⟩
  intro u hu
  obtain⟨g,us,cs,_,_,_,_,ha⟩:=q (fun e=>by rw[e]at hu;cases hu)
  have:∀(us:List AV) (ts:List Zf.Tm),bR (RA f N P w) us ts→∀u∈ts,Zf.ny f u:=by
   intro us
   induction us with
   | nil=>intro ts ha u hu;cases ts with
    | nil=>cases hu
    | cons t ts=>exact ha.elim
   | cons v us ih=>intro ts ha u hu;cases ts with
    | nil=>cases hu
    | cons t ts=>
     rcases List.mem_cons.1 hu with rfl | hu
     ·exact RA.ny ha.1
     ·exact ih ts ha.2 u hu
  exact this us t.args ha u hu
structure TA (f:Nat) (ns ns':List ByteArray) (w w':World) (val:Int) (tx:ByteArray) (ao:Option Addr) (cap:Nat) (t:Zf.Tm):Prop where
 rep:RA f (aR ns') (fun g=>w.heap.size≤g) w' ⟨ak t.kind,val,tx,ao,t.args.length,cap⟩ t
 nms:aR ns'=Zf.namesF f (aR ns) t
theorem RA.leaf {f:Nat} {N:List (List UInt8)} {P:Nat→Prop} {w:World} {a:AV} {t:Zf.Tm} (h:RA f N P w a t):l7 N a t:=by
 cases f with
 | zero=>exact h.elim
 | succ f=>exact h.1
theorem TA.txt {f:Nat} {ns ns':List ByteArray} {w w':World} {val:Int} {tx:ByteArray} {ao:Option Addr} {cap:Nat} {t:Zf.Tm} (h:TA f ns ns' w w' val tx ao cap t):t.kind=2→tx=t.text:=h.rep.leaf.2.2.2.2.1
theorem RA.one {f:Nat} {N:List (List UInt8)} {P:Nat→Prop} {w:World} {a:AV} {t:Zf.Tm} (h:l7 N a t) (h0:t.args=[]):RA (f+1) N P w a t:=⟨h,fun q=>absurd h0 q⟩
structure AA (f:Nat) (ns ns':List ByteArray) (w w':World) (ao:Option Addr) (ts:List Zf.Tm):Prop where
 rows:ts≠[]→∃(g:Nat) (us:List AV) (cs:Array Value),ao=some ⟨g,0,none⟩∧w.heap.size≤g∧w'.heap[g]?=some (.cells cs 74 (0,0))∧cs.toList.take (us.length*4)=us.flatMap gP∧bR (RA f (aR ns') (fun g=>w.heap.size≤g) w') us ts
 nms:aR ns'=ts.foldl (Zf.namesF f) (aR ns)
 few:ts.length≤3
def aK (w w':World):Prop:=∀(g:Nat) (cs:Array Value),w.heap[g]?=some (.cells cs 74 (0,0))→(∃k r,cs.toList= .int .i64 k :: r)→w'.heap[g]?=some (.cells cs 74 (0,0))
theorem aK.trans {u v w:World} (h:aK u v) (k:aK v w):aK u w:=fun g cs a b=>k g cs (h g cs a b) b
theorem aK.below {w w':World} (h:Below w.heap.size w w'):aK w w':=fun g _ a _=>(h.block g (Array.getElem?_eq_some_iff.1 a).1).trans a
theorem aK.ka {w w':World} {rb:Nat} {s:ByteArray} {l:List Zf.Tok} {ns:List ByteArray} {nv:Value} {e:Int} (hs:St w rb s l ns nv e) (hk:KA rb [rb] w w'):aK w w':=fun g cs hg hi=>(hk.block g (Array.getElem?_eq_some_iff.1 hg).1 (fun q=>by
 obtain rfl:g=rb:=by simpa using q
 obtain⟨k,r,hc⟩:=hi
 have:=hs.rd.c0
 simp[World.cell?,hg]at this
 rw[←Array.getElem?_toList,hc]at this
 simp at this) (Or.inr (by unfold aM;rw[hg];simp))).trans hg
theorem aK.grown {w w':World} {b0:Nat} {T:TypeId} {sz:Nat} {av:Value} {n:Nat} {xs:List Value} (ho:w.ownsRow b0 T sz av n xs) (hg:w.grownBy w' av.ownBlock) (hT:T≠74:=by decide):aK w w':=fun g cs hc _=>(hg.block g (Array.getElem?_eq_some_iff.1 hc).1 (fun q=>by
 rcases ho.2 with⟨rfl,_⟩ | ⟨g',cap,cur,rfl,_,c,_⟩
 ·simp[Value.ownBlock]at q
 ·simp[Value.ownBlock]at q
  subst q
  rw[c]at hc;simp at hc;exact hT hc.2)).trans hc
theorem Tryz.info9:(Tryz.prog.info? 9).map (fun i=>(i.zero,i.size,i.bytes))=some (some (.string ⟨#[]⟩),1,16):=by kernel_rfl
theorem Dz (g:ByteArray) (w:World) (hg:g.size≤6):Calls Tryz.prog 109 #[.string g] w fun e w'=>e= .returned (.int .i64 (Zf.numOf g:Int))∧w'=w:=by
 go_enter Tryz.func109,Tryz.ntmps109
 go_wp2
 go_loop [3,4] (fun v i=>∃(k:Nat),k≤g.size∧i= .int .i64 k∧v= .int .i64 (Zf.lZ (g.toList.take k):Int)) (fun _ i=>g.size - (intOf i).toNat)
 case atStart=>exact⟨0,by omega,rfl,rfl⟩
 case round=>
  obtain⟨k,hk,rfl,rfl⟩:=hrel
  by_cases hlt:k<g.size
  ·go_wp2
   go_round
   case rel=>
    refine⟨k+1,by omega,by go_num,?_⟩
    rw[Kq hlt]
    have hb:=Zf.DX (g.toList.take k) (by simp;omega)
    generalize Zf.lZ (g.toList.take k)=v at*
    have hc:g[k].toNat<256:=g[k].toNat_lt
    generalize g[k].toNat=c at*
    congr 1
    unfold wrap64
    omega
   case measure=>simp[intOf];omega
  ·go_wp2
   go_ret
   obtain rfl:k=g.size:=by omega
   exact⟨by rw[Oq];rfl,rfl⟩
theorem wY {w w1:World} {rb:Nat} {s:ByteArray} {l:List Zf.Tok} {ns:List ByteArray} {nv:Value} {e0:Int} {o:Obj} (h:St w rb s l ns nv e0) (hg:(w.alloc o).grownBy w1 nv.ownBlock):
 w1.cell? ⟨rb,4,none⟩=some nv∧w1.frozen? ⟨rb,4,none⟩=false:=by
 have hne:some rb≠nv.ownBlock:=fun e=>by have:=(h.own.lt rb e.symm).1;omega
 have hb:=hg.block rb (by simp;have:=h.lt;omega) hne
 exact⟨by rw[World.cell?_of_block (a:=⟨rb,4,none⟩) hb,World.cell?_alloc_past _ _ _ h.lt];exact h.rd.c4,by rw[World.frozen?_of_block (a:=⟨rb,4,none⟩) hb,World.frozen?_alloc_past _ _ _ h.lt];exact h.rd.f4⟩
theorem ft {w:World} {b:Nat} {e:TypeId} {sz:Nat} {v:Value} {n:Nat} {xs:List Value} (h:w.ownsRow b e sz v (n+1) xs):∃g cap,v= .slice (some ⟨g,0,none⟩) (n+1) cap∧cap≤maxLen:=by
 rcases h.2 with⟨_,q⟩ | ⟨g,cap,cur,q,_,_,_,m,_⟩
 ·omega
 ·exact⟨g,cap,q,m⟩
theorem zf {w w1:World} {rb:Nat} {s:ByteArray} {l:List Zf.Tok} {ns:List ByteArray} {nv nv':Value} {e0:Int} {g:ByteArray} {o:Obj} (h:St w rb s l ns nv e0) (few:ns.length+l.length<1000)
 (hown:w1.ownsRow (rb+1) 9 1 nv' (ns.length+1) (ns.map Value.string++[.string g])) (hg:(w.alloc o).grownBy w1 nv.ownBlock):
 St (w1.setCell ⟨rb,4,none⟩ nv') rb s l (ns++[g]) nv' e0∧KA rb [rb] w (w1.setCell ⟨rb,4,none⟩ nv'):=by
 have hka:KA rb [rb] w w1:=((KA.refl rb [rb] w).alloc o).grown hg (fun k hk=>by
  have h1:=h.own.lt k hk
  rcases h.own.2 with⟨rfl,_⟩ | ⟨q,cap,cur,rfl,hb,hq,_⟩
  ·simp[Value.ownBlock]at hk
  ·simp[Value.ownBlock]at hk
   subst hk
   refine Or.inr (Or.inr ⟨by omega,?_⟩)
   unfold aM
   rw[Below.heap_alloc _ _ _ h1.2,hq])
 have hne:some rb≠nv.ownBlock:=fun e=>by have:=(h.own.lt rb e.symm).1;omega
 have cell:∀i v,w.cell? ⟨rb,i,none⟩=some v→w1.cell? ⟨rb,i,none⟩=some v:=fun i v q=>by
  rw[World.cell?_of_block (a:=⟨rb,i,none⟩) (hg.block rb (by simp;have:=h.lt;omega) hne),World.cell?_alloc_past _ _ _ h.lt];exact q
 have fro:∀i,w.frozen? ⟨rb,i,none⟩=false→w1.frozen? ⟨rb,i,none⟩=false:=fun i q=>by
  rw[World.frozen?_of_block (a:=⟨rb,i,none⟩) (hg.block rb (by simp;have:=h.lt;omega) hne),World.frozen?_alloc_past _ _ _ h.lt];exact q
 have z:rb≠0:=by have:=h.pos;omega
 have sg:dK w1:=h.signs.ka hka (by have:=h.lt;omega) (by simp;omega) h.pos
 obtain⟨⟨c0,c1,c2,c3,c4,c5,f1,f2,f3,f4,f5⟩,own,chain,isn,few1,short,signs,pos,lt⟩:=h
 have d0:=cell _ _ c0
 have d1:=cell _ _ c1
 have d2:=cell _ _ c2
 have d3:=cell _ _ c3
 have d4:=cell _ _ c4
 have d5:=cell _ _ c5
 have g1:=fro _ f1
 have g2:=fro _ f2
 have g3:=fro _ f3
 have g4:=fro _ f4
 have g5:=fro _ f5
 refine⟨⟨⟨by go_cell,by go_cell,by go_cell,by go_cell,by go_cell,by go_cell,by go_cell,by go_cell,by go_cell,by go_cell,by go_cell⟩,?_,chain,isn,by simp;omega,short,sg.setCell (by exact z) _,pos,by have:=hka.size;simp;omega⟩,hka.fH (by simp) _⟩
 have:=kJ hown 4 nv'
 simpa using this
def VG (rb:Nat) (s:ByteArray) (l:List Zf.Tok) (ns:List ByteArray) (g:ByteArray) (e0:Int) (w:World) (e:Ending) (w':World):Prop:=∃(ns':List ByteArray) (nv':Value),e= .returned (.int .i64 ((aR ns).idxOf g.toList:Int))∧aR ns'=Zf.dQ (aR ns) g.toList∧St w' rb s l ns' nv' e0∧KA rb [rb] w w'
theorem Bp (w:World) (rb:Nat) (s:ByteArray) (l:List Zf.Tok) (ns:List ByteArray) (nv:Value) (e0:Int) (g:ByteArray) (h:St w rb s l ns nv e0) (few:ns.length+l.length<1000):
 Calls Tryz.prog 108 #[.pointer (some ⟨rb,0,none⟩),.string g] w fun e w'=>VG rb s l ns g e0 w e w':=by
 have H:=hide h
 obtain⟨i0,hi,hz0,hz1,hz2⟩:=info_parts Tryz.info9
 have hnl:ns.length≤1000:=by have:=h.few;omega
 rcases h.own.2 with⟨fS,hn0⟩ | ⟨q,cap,cur,fS,hb,hq,hcap,hmx,_⟩
 ·subst fS
  obtain rfl:ns=[]:=List.length_eq_zero_iff.1 hn0
  have hown:=h.own
  obtain⟨⟨c0,c1,c2,c3,c4,c5,f1,f2,f3,f4,f5⟩,own,chain,isn,few1,short,signs,pos,lt⟩:=h
  clear own chain isn few1 short signs
  go_enter Tryz.func108,Tryz.ntmps108
  go_wp2
  refine wp_loop_rounds 1 ?_
  rw[rounds_succ]
  go_wp2_with (first | (at_builtin;refine wpList_append_own _ rfl (.tmp 26) (.tmp 28) 26 rfl (rb+1) 9 i0 (.string ⟨#[]⟩) 1 16 Tryz.underlying26 hi hz0 hz1 hz2 rfl (by decide) _ 0 [] rfl (hown.alloc _) ⟨w.heap.size,0,none⟩ 1 1 [.string g] rfl rfl (by intro j u hj;match j,hj with | 0,hj=>simp at hj;subst hj;simp[Addr.add]) (by intro u hu;simp at hu;subst hu;rfl) (by unfold maxLen;omega) (by omega) (by simp;omega) ?_;intro v' w1 hown' hgrow _;have R:=hide (zf (ae H) few hown' hgrow);obtain⟨d4,x4⟩:=wY (ae H) hgrow;obtain⟨g',cap',hv,hcm⟩:=ft hown';rw[hv]at R⊢;clear hown' hgrow hv))
  go_ret
  exact⟨_,_,rfl,by simp[aR,Zf.dQ],(ae R).1,(ae R).2⟩
 ·subst fS
  have hown:=h.own
  have hcell:=hide (fun k (hk:k<ns.length)=>(h.own.cellAt k (by omega)))
  obtain⟨⟨c0,c1,c2,c3,c4,c5,f1,f2,f3,f4,f5⟩,own,chain,isn,few1,short,signs,pos,lt⟩:=h
  clear own chain isn few1 short signs hq
  go_enter Tryz.func108,Tryz.ntmps108
  go_wp2
  go_loop [12] (fun v=>∃k:Nat,k≤ns.length∧v= .int .i64 k∧∀m (hm:m<ns.length),m<k→ns[m].toList≠g.toList) (fun v=>ns.length - (intOf v).toNat)
  case atStart=>exact⟨0,by omega,rfl,fun m _ q=>by omega⟩
  case round=>
   obtain⟨k,hk,rfl,hno⟩:=hrel
   have gf:=hide hno
   clear hno
   by_cases hlt:k<ns.length
   ·have hc:w.cell? ⟨q,k,none⟩=some (.string ns[k]):=by rw[ae hcell k hlt];simp[hlt]
    cases he:(ns[k].toList == g.toList)
    ·go_wp2_with fail
     go_round
     case rel=>exact⟨k+1,by omega,by go_num,fun m hm q=>by
      by_cases hmk:m=k
      ·subst hmk;simpa using he
      ·exact ae gf m hm (by omega)⟩
     case measure=>simp[intOf];omega
    ·go_wp2_with fail
     go_ret
     exact⟨ns,_,by rw[OI hlt (by simpa using he) (ae gf)];rfl,(PT hlt (by simpa using he)).symm,ae H,KA.refl _ _ _⟩
   ·go_wp2_with (first | (at_builtin;refine wpList_append_own _ rfl (.tmp 26) (.tmp 28) 26 rfl (rb+1) 9 i0 (.string ⟨#[]⟩) 1 16 Tryz.underlying26 hi hz0 hz1 hz2 rfl (by decide) _ ns.length _ rfl (hown.alloc _) ⟨w.heap.size,0,none⟩ 1 1 [.string g] rfl rfl (by intro j u hj;match j,hj with | 0,hj=>simp at hj;subst hj;simp[Addr.add]) (by intro u hu;simp at hu;subst hu;rfl) (by unfold maxLen;omega) (by omega) (by simp;omega) ?_;intro v' w1 hown' hgrow _;have R:=hide (zf (ae H) few hown' hgrow);obtain⟨d4,x4⟩:=wY (ae H) hgrow;obtain⟨g',cap',hv,hcm⟩:=ft hown';rw[hv]at R⊢;clear hown' hgrow hv))
    go_ret
    obtain⟨q1,q2⟩:=OL (OJ fun m hm=>ae gf m hm (by omega))
    exact⟨_,_,by rw[q2];simp,q1,(ae R).1,(ae R).2⟩
def pQ (f rb:Nat) (s:ByteArray) (ns:List ByteArray) (r:Zf.dP Zf.Tm) (w:World) (e:Ending) (w':World):Prop:=match r with
 | .inl (er,pos)=>∃(k val:Int) (tx:ByteArray) (ao:Option Addr) (n cap:Nat) (l':List Zf.Tok) (ns':List ByteArray) (nv':Value),
  e= .returned (.tuple #[.agg #[.int .i64 k,.int .i64 val,.string tx,.slice ao n cap],.bool false])∧St w' rb s l' ns' nv' (er:Int)∧(Zf.hd l').pos=pos∧KA rb [rb] w w'
 | .inr (t,l1)=>∃(val:Int) (tx:ByteArray) (ao:Option Addr) (cap:Nat) (ns':List ByteArray) (nv':Value) (e':Int),
  e= .returned (.tuple #[.agg #[.int .i64 (ak t.kind),.int .i64 val,.string tx,.slice ao t.args.length cap],.bool true])∧TA f ns ns' w w' val tx ao cap t∧St w' rb s l1 ns' nv' e'∧KA rb [rb] w w'
def uw (f rb:Nat) (s:ByteArray) (ns:List ByteArray) (r:Zf.dP (List Zf.Tm)) (w:World) (e:Ending) (w':World):Prop:=match r with
 | .inl (er,pos)=>∃(l':List Zf.Tok) (ns':List ByteArray) (nv':Value) (ao:Option Addr) (n cap:Nat),
  e= .returned (.tuple #[.slice ao n cap,.bool false])∧St w' rb s l' ns' nv' (er:Int)∧(Zf.hd l').pos=pos∧KA rb [rb] w w'
 | .inr (ts,l1)=>∃(ao:Option Addr) (cap:Nat) (ns':List ByteArray) (nv':Value) (e':Int),
  e= .returned (.tuple #[.slice ao ts.length cap,.bool true])∧AA f ns ns' w w' ao ts∧St w' rb s l1 ns' nv' e'∧KA rb [rb] w w'
def jR (f:Nat) (l:List Zf.Tok):Zf.dP (List Zf.Tm):=if Zf.sees l [40]=true then Zf.bN (Zf.term f) 2 l.tail else .inr ([],l)
def qW (f:Nat):Prop:=∀(w:World) (rb:Nat) (s:ByteArray) (l:List Zf.Tok) (ns:List ByteArray) (nv:Value) (e0:Int) (d:Nat),f+d=9→St w rb s l ns nv e0→
 Calls Tryz.prog 61 #[.pointer (some ⟨rb,0,none⟩),.int .i64 (d:Int)] w fun e w'=>pQ f rb s ns (Zf.term f l) w e w'
def vM (f:Nat):Prop:=∀(w:World) (rb:Nat) (s:ByteArray) (l:List Zf.Tok) (ns:List ByteArray) (nv:Value) (e0:Int) (d:Nat),f+d=9→St w rb s l ns nv e0→
 Calls Tryz.prog 110 #[.pointer (some ⟨rb,0,none⟩),.int .i64 (d:Int)] w fun e w'=>uw f rb s ns (jR f l) w e w'
theorem Hh (l:List Zf.Tok):Zf.term 0 l=Zf.bad (dZ 9 (Zf.hd l)) l:=by
 unfold Zf.term dZ
 by_cases h:Zf.begins (Zf.hd l)=true
 ·rw[if_pos h,if_pos h,if_pos (by omega)]
 ·rw[if_neg h,if_neg h]
theorem Tz (t:Zf.Tok):dZ 9 t≠0:=by unfold dZ;split<;>(try rw[if_pos (by omega)])<;>omega
theorem KM {f d:Nat} {l:List Zf.Tok} (hd:d≤8) (h:dZ d (Zf.hd l)≠0):Zf.term (f+1) l=Zf.bad (dZ d (Zf.hd l)) l:=by
 unfold Zf.term dZ at*
 by_cases hb:Zf.begins (Zf.hd l)=true
 ·rw[if_pos hb]at h⊢
  rw[if_pos hb]
  by_cases hc:(Zf.hd l).kind=4∧6<(Zf.hd l).text.size
  ·rw[if_pos hc,if_pos (Or.inl hc)]
  ·rw[if_neg (by omega)]at h;exact absurd rfl h
 ·rw[if_neg hb,if_neg hb]
theorem Hj {f d:Nat} {l:List Zf.Tok} (_h:dZ d (Zf.hd l)=0) (hk:(Zf.hd l).kind=2):Zf.term (f+1) l=match jR f l.tail with
 | .inl e=> .inl e
 | .inr (ts,l2)=> .inr (⟨2,(Zf.hd l).text,ts⟩,l2):=by
 have hb:Zf.begins (Zf.hd l)=true:=by simp[Zf.begins,hk]
 rw[Zf.term,if_pos hb,if_neg (by omega),if_pos hk]
 unfold jR
 by_cases hs:Zf.sees l.tail [40]=true
 ·rw[if_pos hs,if_pos hs]
  rcases Zf.bN (Zf.term f) 2 l.tail.tail with e | ⟨ts,l2⟩<;>rfl
 ·rw[if_neg hs,if_neg hs]
theorem zg {f d:Nat} {l:List Zf.Tok} (h:dZ d (Zf.hd l)=0) (hk:(Zf.hd l).kind=3∨(Zf.hd l).kind=4):Zf.term (f+1) l= .inr (⟨(Zf.hd l).kind,(Zf.hd l).text,[]⟩,l.tail):=by
 have hb:Zf.begins (Zf.hd l)=true:=by rcases hk with e | e<;>simp[Zf.begins,e]
 unfold dZ at h
 rw[if_pos hb]at h
 have hc:¬((Zf.hd l).kind=4∧6<(Zf.hd l).text.size):=fun q=>by rw[if_pos (Or.inl q)]at h;omega
 rw[Zf.term,if_pos hb,if_neg hc,if_neg (by omega)]
theorem Hk {d:Nat} {t:Zf.Tok} (h:dZ d t=0):t.kind=2∨t.kind=3∨t.kind=4:=by
 unfold dZ at h
 by_cases hb:Zf.begins t=true
 ·simpa [Zf.begins,or_assoc] using hb
 ·rw[if_neg hb]at h;omega
theorem KA.loc {rb:Nat} {W w:World} (hk:KA rb [rb] W w) {b i:Nat} {v:Value} (hc:W.cell? ⟨b,i,none⟩=some v) (hb:b<W.heap.size) (hne:b≠rb) (ht:aM W b≠some 9):w.cell? ⟨b,i,none⟩=some v:=
 (hk.cell (p:=⟨b,i,none⟩) hb (by simpa using hne) (Or.inr ht)).trans hc
theorem KA.Fz {rb:Nat} {W w:World} (hk:KA rb [rb] W w) {b i:Nat} (hc:W.frozen? ⟨b,i,none⟩=false) (hb:b<W.heap.size) (hne:b≠rb) (ht:aM W b≠some 9):w.frozen? ⟨b,i,none⟩=false:=
 (hk.frozen (p:=⟨b,i,none⟩) hb (by simpa using hne) (Or.inr ht)).trans hc
def boxR:Obj:= .cells #[.int .i64 0,.int .i64 0,.string ⟨#[]⟩,.slice none 0 0] 74
def ky (t:Zf.Tok):Obj:= .cells #[.int .i64 (t.kind:Int),.int .i64 (t.pos:Int),.string t.text] 68
structure TB (w:World) (n:Nat) (t:Zf.Tok):Prop where
 r0:w.cell? ⟨n,0,none⟩=some (.int .i64 0)
 r1:w.cell? ⟨n,1,none⟩=some (.int .i64 0)
 r2:w.cell? ⟨n,2,none⟩=some (.string ⟨#[]⟩)
 r3:w.cell? ⟨n,3,none⟩=some (.slice none 0 0)
 x0:w.frozen? ⟨n,0,none⟩=false
 x1:w.frozen? ⟨n,1,none⟩=false
 x2:w.frozen? ⟨n,2,none⟩=false
 x3:w.frozen? ⟨n,3,none⟩=false
 t0:w.cell? ⟨n+1,0,none⟩=some (.int .i64 (t.kind:Int))
 t2:w.cell? ⟨n+1,2,none⟩=some (.string t.text)
theorem boxes {rb:Nat} {w w1:World} {t:Zf.Tok} (hlt:rb<w.heap.size) (hk:KA rb [rb] ((w.alloc boxR).alloc (ky t)) w1):TB w1 w.heap.size t:=by
 have ty0:aM ((w.alloc boxR).alloc (ky t)) w.heap.size≠some 9:=by
  unfold aM;rw[Below.heap_alloc _ _ _ (by simp),heap_alloc_new];simp[boxR]
 have ty1:aM ((w.alloc boxR).alloc (ky t)) (w.heap.size+1)≠some 9:=by
  unfold aM
  have:=heap_alloc_new (w.alloc boxR) (ky t)
  rw[World.size_alloc]at this
  rw[this];simp[ky]
 refine⟨hk.loc ?_ ?_ ?_ ty0,hk.loc ?_ ?_ ?_ ty0,hk.loc ?_ ?_ ?_ ty0,hk.loc ?_ ?_ ?_ ty0,hk.Fz ?_ ?_ ?_ ty0,hk.Fz ?_ ?_ ?_ ty0,hk.Fz ?_ ?_ ?_ ty0,hk.Fz ?_ ?_ ?_ ty0,hk.loc ?_ ?_ ?_ ty1,hk.loc ?_ ?_ ?_ ty1⟩
 all_goals first | (simp;done) | omega | (simp;omega) | (simp[boxR,ky];done)
theorem gU (w:World) (a:Addr) (v:Value) (k:Nat):aM (w.setCell a v) k=aM w k:=by
 unfold aM World.setCell
 simp only[Array.getElem?_modify]
 by_cases h:a.block=k
 ·rw[if_pos h]
  cases hq:w.heap[k]? with
  | none=>rfl
  | some o=>cases o<;>rfl
 ·rw[if_neg h]
theorem KA.ty {b:Nat} {X:List Nat} {w w':World} (h:KA b X w w') {k:Nat} (hk:k<w.heap.size) (hX:k∉X) (ht:aM w k≠some 9):aM w' k=aM w k:=by
 unfold aM;rw[h.block k hk hX (Or.inr ht)]
theorem St.wZ {w:World} {rb:Nat} {s:ByteArray} {l:List Zf.Tok} {ns:List ByteArray} {nv:Value} {e:Int} (h:St w rb s l ns nv e) {b:Nat} (hb:b≠rb) (h0:b≠0) (ht:aM w b≠some 9) (i:Nat) (v:Value):St (w.setCell ⟨b,i,none⟩ v) rb s l ns nv e:=by
 have k:∀q,q≠b→(w.setCell ⟨b,i,none⟩ v).heap[q]?=w.heap[q]?:=fun q hq=>Below.heap_setCell _ _ _ _ hq
 have c:∀o,(w.setCell ⟨b,i,none⟩ v).cell? ⟨rb,o,none⟩=w.cell? ⟨rb,o,none⟩:=fun o=>World.cell?_of_block (k rb (Ne.symm hb))
 have f:∀o,(w.setCell ⟨b,i,none⟩ v).frozen? ⟨rb,o,none⟩=w.frozen? ⟨rb,o,none⟩:=fun o=>World.frozen?_of_block (k rb (Ne.symm hb))
 obtain⟨⟨c0,c1,c2,c3,c4,c5,f1,f2,f3,f4,f5⟩,own,chain,isn,few,short,signs,pos,lt⟩:=h
 refine⟨⟨(c 0).trans c0,(c 1).trans c1,(c 2).trans c2,(c 3).trans c3,(c 4).trans c4,(c 5).trans c5,(f 1).trans f1,(f 2).trans f2,(f 3).trans f3,(f 4).trans f4,(f 5).trans f5⟩,⟨own.1,?_⟩,chain,isn,few,short,signs.setCell h0 _,pos,by simpa using lt⟩
 rcases own.2 with q | ⟨g,cap,cur,a,b',c',d⟩
 ·exact Or.inl q
 ·refine Or.inr ⟨g,cap,cur,a,b',?_,d⟩
  rw[k g (fun e=>ht (by rw[←e];unfold aM;rw[c']))]
  exact c'
theorem qA {w w1:World} {rb:Nat} {s:ByteArray} {l':List Zf.Tok} {ns:List ByteArray} {nv:Value} {e:Int} {t:Zf.Tok} (hk:KA rb [rb] ((w.alloc boxR).alloc (ky t)) w1) (h:St w1 rb s l' ns nv e) (hlt:rb<w.heap.size) (v0 v1 v2 v3:Value):
 St ((((w1.setCell ⟨w.heap.size,0,none⟩ v0).setCell ⟨w.heap.size,1,none⟩ v1).setCell ⟨w.heap.size,2,none⟩ v2).setCell ⟨w.heap.size,3,none⟩ v3) rb s l' ns nv e∧
 KA rb [rb] w ((((w1.setCell ⟨w.heap.size,0,none⟩ v0).setCell ⟨w.heap.size,1,none⟩ v1).setCell ⟨w.heap.size,2,none⟩ v2).setCell ⟨w.heap.size,3,none⟩ v3):=by
 have ty0:aM ((w.alloc boxR).alloc (ky t)) w.heap.size=some 74:=by
  unfold aM;rw[Below.heap_alloc _ _ _ (by simp),heap_alloc_new];simp[boxR]
 have ne:w.heap.size≠rb:=by omega
 have n0:w.heap.size≠0:=by omega
 have ty1:aM w1 w.heap.size≠some 9:=by
  rw[hk.ty (by simp;omega) (by simpa using ne) (by rw[ty0];simp),ty0];simp
 have base:KA rb [rb] w w1:=(((KA.refl rb [rb] w).alloc _).alloc _).trans hk
 refine⟨?_,(((base.wV (Nat.le_refl _) _).wV (Nat.le_refl _) _).wV (Nat.le_refl _) _).wV (Nat.le_refl _) _⟩
 have a1:=h.wZ ne n0 ty1 0 v0
 have a2:=a1.wZ ne n0 (by rw[gU];exact ty1) 1 v1
 have a3:=a2.wZ ne n0 (by rw[gU,gU];exact ty1) 2 v2
 exact a3.wZ ne n0 (by rw[gU,gU,gU];exact ty1) 3 v3
theorem D7 (w:World) (rb:Nat) (s:ByteArray) (l:List Zf.Tok) (ns:List ByteArray) (nv:Value) (e0:Int) (f d:Nat) (h:St w rb s l ns nv e0) (hm:dZ d (Zf.hd l)≠0):
 Calls Tryz.prog 61 #[.pointer (some ⟨rb,0,none⟩),.int .i64 (d:Int)] w fun e w'=>pQ f rb s ns (Zf.bad (dZ d (Zf.hd l)) l) w e w':=by
 have hb2:Below w.heap.size w ((w.alloc boxR).alloc (ky (Zf.hd l))):=((Below.refl _ _).alloc (Nat.le_refl _) _).alloc (by simp) _
 have H2:=hide (h.below hb2)
 have hlt:=h.lt
 unfold boxR ky at H2
 obtain⟨⟨c0,c1,c2,c3,c4,c5,f1,f2,f3,f4,f5⟩,own,chain,isn,few,short,signs,pos,lt⟩:=h
 clear own chain isn few short signs hb2
 have PU:(dZ d (Zf.hd l) == 0)=false:=by simpa using hm
 go_enter Tryz.func61,Tryz.ntmps61
 go_wp2_with (go_at_call 107;refine(jB _ rb s l ns nv e0 d (ae H2)).mono ?_;rintro e w1 ⟨rfl,hs,hk⟩;rw[if_neg hm]at hs;obtain⟨r0,r1,r2,r3,x0,x1,x2,x3,t0,t2⟩:=boxes hlt hk;have HS:=hide hs;have HK:=hide hk;clear hs hk)
 have R:=qA (ae HK) (ae HS) hlt (.int .i64 0) (.int .i64 0) (.string ⟨#[]⟩) (.slice none 0 0)
 refine bodyPost_ret (v:= .tuple #[.agg #[.int .i64 0,.int .i64 0,.string ⟨#[]⟩,.slice none 0 0],.bool false]) (by simp[results,Tryz.results61,go_sem,r0,r1,r2,r3]) rfl ?_
 exact⟨_,_,_,_,_,_,l,ns,nv,rfl,R.1,rfl,R.2⟩
theorem St.FC {w:World} {rb:Nat} {s:ByteArray} {l:List Zf.Tok} {ns:List ByteArray} {nv:Value} {e:Int} (h:St w rb s l ns nv e):(Zf.hd l).text.size≤240:=by obtain⟨p,e⟩:=h.isNext;have h1:=h.short;have h2:=@Zf.sk s p;rw[e];omega
theorem KN {d:Nat} {t:Zf.Tok} (h:dZ d t=0) (hk:t.kind=4):t.text.size≤6:=by
 unfold dZ at h
 split at h
 ·split at h
  ·cases h
  ·omega
 ·cases h
theorem PV {f:Nat} {ns ns':List ByteArray} {w w':World} {x:ByteArray} {i:Int} (hz:x.size≤240) (hn:aR ns'=Zf.dQ (aR ns) x.toList) (hi:i=((aR ns).idxOf x.toList:Int)):TA (f+1) ns ns' w w' i ⟨#[]⟩ none 0 ⟨3,x,[]⟩:=by
 have hm:x.toList∈Zf.dQ (aR ns) x.toList:=by
  unfold Zf.dQ
  split
  ·assumption
  ·simp
 have hx:=Zf.Kr (aR ns) [] x.toList
 rw[List.append_nil]at hx
 exact⟨RA.one ⟨rfl,rfl,fun _=>⟨by rw[hn];exact hm,by rw[hi,hn];show _=((List.idxOf x.toList _:Nat):Int);rw[hx]⟩,(fun q=>by cases q),(fun q=>by cases q),by simp,hz,by simp⟩ rfl,by rw[hn];simp[Zf.namesF]⟩
theorem PW {f:Nat} {ns:List ByteArray} {w w':World} {x:ByteArray} {i:Int} (hz:x.size≤240) (h6:x.size≤6) (hi:i=(Zf.numOf x:Int)):TA (f+1) ns ns w w' i ⟨#[]⟩ none 0 ⟨4,x,[]⟩:=
 ⟨RA.one ⟨rfl,rfl,(fun q=>by cases q),fun _=>⟨hi,h6,rfl⟩,(fun q=>by cases q),by simp,hz,by simp⟩ rfl,by simp[Zf.namesF]⟩
def Ua (f b:Nat) (ns ns':List ByteArray) (w':World) (ao:Option Addr) (ts:List Zf.Tm):Prop:=
 (ts≠[]→∃(g:Nat) (us:List AV) (cs:Array Value),ao=some ⟨g,0,none⟩∧b<g∧w'.heap[g]?=some (.cells cs 74 (0,0))∧cs.toList.take (us.length*4)=us.flatMap gP∧bR (RA f (aR ns') (fun g=>b<g) w') us ts)∧aR ns'=ts.foldl (Zf.namesF f) (aR ns)∧ts.length≤3
theorem AA.up {f:Nat} {ns ns':List ByteArray} {w0 w w':World} {o1 o2:Obj} {ao:Option Addr} {ts:List Zf.Tm} (h:AA f ns ns' w w' ao ts) (hz:((w0.alloc o1).alloc o2).heap.size≤w.heap.size):Ua f w0.heap.size ns ns' w' ao ts:=by
 have hz':w0.heap.size+2≤w.heap.size:=by simpa using hz
 refine⟨fun q=> ?_,h.nms,h.few⟩
 obtain⟨g,us,cs,h1,h2,h3,h4,h5⟩:=h.rows q
 exact⟨g,us,cs,h1,by omega,h3,h4,h5.imp fun _ _ r=>r.imp fun g hg _=>by omega⟩
theorem OM {f:Nat} {ns ns':List ByteArray} {w w3:World} {x:ByteArray} {ao:Option Addr} {cap:Nat} {ts:List Zf.Tm} {v0 v1 v2 v3:Value} (hz:x.size≤240) (h:Ua f w.heap.size ns ns' w3 ao ts):
 TA (f+1) ns ns' w ((((w3.setCell ⟨w.heap.size,0,none⟩ v0).setCell ⟨w.heap.size,1,none⟩ v1).setCell ⟨w.heap.size,2,none⟩ v2).setCell ⟨w.heap.size,3,none⟩ v3) 0 x ao cap ⟨2,x,ts⟩:=by
 obtain⟨h1,h2,h3⟩:=h
 refine⟨⟨⟨rfl,rfl,(fun q=>by cases q),(fun q=>by cases q),fun _=>rfl,by simp,hz,h3⟩,fun q=> ?_⟩,by rw[h2];simp[Zf.namesF]⟩
 obtain⟨g,us,cs,e1,e2,e3,e4,e5⟩:=h1 q
 have k:∀(u:World) (o:Nat) (v:Value),(u.setCell ⟨w.heap.size,o,none⟩ v).heap[g]?=u.heap[g]?:=fun u o v=>Below.heap_setCell _ _ _ _ (by show g≠w.heap.size;omega)
 refine⟨g,us,cs,e1,by omega,by rw[k,k,k,k];exact e3,e4,e5.imp fun _ _ r=> ?_⟩
 exact((((r.set (fun g hg=>by omega) 0 v0).set (fun g hg=>by omega) 1 v1).set (fun g hg=>by omega) 2 v2).set (fun g hg=>by omega) 3 v3).imp fun g hg _=>by omega
theorem KO {w:World} {rb:Nat} {s:ByteArray} {l:List Zf.Tok} {ns:List ByteArray} {nv:Value} {e:Int} (h:St w rb s l ns nv e):ns.length+l.tail.length<1000:=by
 have:=h.few
 rcases l with _ | ⟨a,r⟩
 ·exact absurd h.chain (by simp[Zf.ek])
 ·simp at this⊢;omega
theorem KP (w:World) (rb:Nat) (s:ByteArray) (l:List Zf.Tok) (ns:List ByteArray) (nv:Value) (e0:Int) (d f:Nat) (h:St w rb s l ns nv e0) (hm:dZ d (Zf.hd l)=0) (hk3:(Zf.hd l).kind=3):
 Calls Tryz.prog 61 #[.pointer (some ⟨rb,0,none⟩),.int .i64 (d:Int)] w fun e w'=>pQ (f+1) rb s ns (Zf.term (f+1) l) w e w':=by
 rw[zg hm (Or.inl hk3),hk3]
 have hb2:Below w.heap.size w ((w.alloc boxR).alloc (ky (Zf.hd l))):=((Below.refl _ _).alloc (Nat.le_refl _) _).alloc (by simp) _
 have H2:=hide (h.below hb2)
 have vN:=KO h
 have hlt:=h.lt
 have hz:=h.FC
 have gh:=hide (show (Zf.hd l).kind≠0 by omega)
 unfold boxR ky at H2
 obtain⟨⟨c0,c1,c2,c3,c4,c5,f1,f2,f3,f4,f5⟩,own,chain,isn,few,short,signs,pos,lt⟩:=h
 clear own chain isn few short signs hb2
 have PU:(dZ d (Zf.hd l) == 0)=true:=by simpa using hm
 have eo:=hide hk3
 clear hk3
 go_enter Tryz.func61,Tryz.ntmps61
 go_wp2_with fail
 refine(jB _ rb s l ns nv e0 d (ae H2)).mono ?_
 rintro e w1 ⟨rfl,hs,hk⟩
 rw[if_pos hm]at hs
 have HS:=hide hs
 have HK:=hide hk
 clear hs hk
 go_wp2_with fail
 refine(fN _ rb s l ns nv e0 (ae HS) (ae gh)).mono ?_
 rintro e w2 ⟨rfl,hs,hk⟩
 have cm:=hide hs
 have dt:=hide ((ae HK).trans hk)
 clear hs hk HS HK
 obtain⟨r0,r1,r2,r3,x0,x1,x2,x3,t0,t2⟩:=boxes hlt (ae dt)
 rw[ae eo]at t0
 go_wp2_with fail
 refine(Bp _ rb s l.tail ns nv e0 _ (ae cm) vN).mono ?_
 rintro e w3 ⟨ns',nv',rfl,kL,hs,hk⟩
 have gX:=hide kL
 generalize Hl:(((aR ns).idxOf (Zf.hd l).text.toList:Nat):Int)=i
 have mE:=hide Hl
 clear kL Hl
 have eI:=hide hs
 have eo:=hide ((ae dt).trans hk)
 clear hs hk cm dt r0 r1 r2 r3 x0 x1 x2 x3 t0 t2
 obtain⟨r0,r1,r2,r3,x0,x1,x2,x3,t0,t2⟩:=boxes hlt (ae eo)
 go_wp2_with fail
 have R:=qA (ae eo) (ae eI) hlt (.int .i64 1) (.int .i64 i) (.string ⟨#[]⟩) (.slice none 0 0)
 refine bodyPost_ret (v:= .tuple #[.agg #[.int .i64 1,.int .i64 i,.string ⟨#[]⟩,.slice none 0 0],.bool true]) (by simp[results,Tryz.results61,go_sem,r0,r1,r2,r3]) rfl ?_
 exact⟨_,_,_,_,ns',nv',e0,rfl,PV hz (ae gX) (ae mE).symm,R.1,R.2⟩
theorem KQ (w:World) (rb:Nat) (s:ByteArray) (l:List Zf.Tok) (ns:List ByteArray) (nv:Value) (e0:Int) (d f:Nat) (h:St w rb s l ns nv e0) (hm:dZ d (Zf.hd l)=0) (hk4:(Zf.hd l).kind=4):
 Calls Tryz.prog 61 #[.pointer (some ⟨rb,0,none⟩),.int .i64 (d:Int)] w fun e w'=>pQ (f+1) rb s ns (Zf.term (f+1) l) w e w':=by
 rw[zg hm (Or.inr hk4),hk4]
 have hb2:Below w.heap.size w ((w.alloc boxR).alloc (ky (Zf.hd l))):=((Below.refl _ _).alloc (Nat.le_refl _) _).alloc (by simp) _
 have H2:=hide (h.below hb2)
 have hlt:=h.lt
 have hz:=h.FC
 have l9:=KN hm hk4
 have gh:=hide (show (Zf.hd l).kind≠0 by omega)
 unfold boxR ky at H2
 obtain⟨⟨c0,c1,c2,c3,c4,c5,f1,f2,f3,f4,f5⟩,own,chain,isn,few,short,signs,pos,lt⟩:=h
 clear own chain isn few short signs hb2
 have PU:(dZ d (Zf.hd l) == 0)=true:=by simpa using hm
 have jX:=hide hk4
 clear hk4
 go_enter Tryz.func61,Tryz.ntmps61
 go_wp2_with fail
 refine(jB _ rb s l ns nv e0 d (ae H2)).mono ?_
 rintro e w1 ⟨rfl,hs,hk⟩
 rw[if_pos hm]at hs
 have HS:=hide hs
 have HK:=hide hk
 clear hs hk
 go_wp2_with fail
 refine(fN _ rb s l ns nv e0 (ae HS) (ae gh)).mono ?_
 rintro e w2 ⟨rfl,hs,hk⟩
 have cm:=hide hs
 have dt:=hide ((ae HK).trans hk)
 clear hs hk HS HK
 obtain⟨r0,r1,r2,r3,x0,x1,x2,x3,t0,t2⟩:=boxes hlt (ae dt)
 rw[ae jX]at t0
 go_wp2_with fail
 refine(Dz _ _ l9).mono ?_
 rintro e w3 ⟨rfl,rfl⟩
 generalize Hl:((Zf.numOf (Zf.hd l).text:Nat):Int)=i
 have mE:=hide Hl
 clear Hl
 go_wp2_with fail
 have R:=qA (ae dt) (ae cm) hlt (.int .i64 2) (.int .i64 i) (.string ⟨#[]⟩) (.slice none 0 0)
 refine bodyPost_ret (v:= .tuple #[.agg #[.int .i64 2,.int .i64 i,.string ⟨#[]⟩,.slice none 0 0],.bool true]) (by simp[results,Tryz.results61,go_sem,r0,r1,r2,r3]) rfl ?_
 exact⟨_,_,_,_,ns,nv,e0,rfl,PW hz l9 (ae mE).symm,R.1,R.2⟩
theorem KR (f:Nat) (IH:vM f) (w:World) (rb:Nat) (s:ByteArray) (l:List Zf.Tok) (ns:List ByteArray) (nv:Value) (e0:Int) (d:Nat) (pR:f+1+d=9) (h:St w rb s l ns nv e0) (hm:dZ d (Zf.hd l)=0) (hk2:(Zf.hd l).kind=2):
 Calls Tryz.prog 61 #[.pointer (some ⟨rb,0,none⟩),.int .i64 (d:Int)] w fun e w'=>pQ (f+1) rb s ns (Zf.term (f+1) l) w e w':=by
 rw[Hj hm hk2]
 have hb2:Below w.heap.size w ((w.alloc boxR).alloc (ky (Zf.hd l))):=((Below.refl _ _).alloc (Nat.le_refl _) _).alloc (by simp) _
 have H2:=hide (h.below hb2)
 have hlt:=h.lt
 have hz:=h.FC
 have gh:=hide (show (Zf.hd l).kind≠0 by omega)
 unfold boxR ky at H2
 have I:=hide (fun w (hs:St w rb s l.tail ns nv e0)=>IH w rb s l.tail ns nv e0 (d+1) (by omega) hs)
 generalize jR f l.tail=r at I⊢
 obtain⟨⟨c0,c1,c2,c3,c4,c5,f1,f2,f3,f4,f5⟩,own,chain,isn,few,short,signs,pos,lt⟩:=h
 clear own chain isn few short signs hb2 IH
 have PU:(dZ d (Zf.hd l) == 0)=true:=by simpa using hm
 have dt:=hide hk2
 clear hk2
 rcases r with⟨er,pos⟩ | ⟨ts,l2⟩
 ·show Calls _ _ _ _ fun e w'=>pQ (f+1) rb s ns (.inl (er,pos)) w e w'
  go_enter Tryz.func61,Tryz.ntmps61
  go_wp2_with fail
  refine(jB _ rb s l ns nv e0 d (ae H2)).mono ?_
  rintro e w1 ⟨rfl,hs,hk⟩
  rw[if_pos hm]at hs
  have HS:=hide hs
  have HK:=hide hk
  clear hs hk
  go_wp2_with fail
  refine(fN _ rb s l ns nv e0 (ae HS) (ae gh)).mono ?_
  rintro e w2 ⟨rfl,hs,hk⟩
  have cm:=hide hs
  have jY:=hide ((ae HK).trans hk)
  clear hs hk HS HK
  obtain⟨r0,r1,r2,r3,x0,x1,x2,x3,t0,t2⟩:=boxes hlt (ae jY)
  rw[ae dt]at t0
  go_wp2_with fail
  rw[show ((d:Int)+1)=((d+1:Nat):Int)by omega]
  refine(ae I _ (ae cm)).mono ?_
  clear r0 r1 r2 r3 x0 x1 x2 x3 t0 t2
  rintro e w3 ⟨l',ns',nv',ao,n,cap,rfl,hs,hpos,hk⟩
  have eI:=hide hs
  have eo:=hide ((ae jY).trans hk)
  have HP:=hide hpos
  clear hs hk cm jY hpos
  obtain⟨r0,r1,r2,r3,x0,x1,x2,x3,t0,t2⟩:=boxes hlt (ae eo)
  go_wp2_with fail
  have R:=qA (ae eo) (ae eI) hlt (.int .i64 3) (.int .i64 0) (.string (Zf.hd l).text) (.slice ao n cap)
  refine bodyPost_ret (v:= .tuple #[.agg #[.int .i64 3,.int .i64 0,.string (Zf.hd l).text,.slice ao n cap],.bool false]) (by simp[results,Tryz.results61,go_sem,r0,r1,r2,r3]) rfl ?_
  exact⟨_,_,_,_,_,_,l',ns',nv',rfl,R.1,ae HP,R.2⟩
 ·show Calls _ _ _ _ fun e w'=>pQ (f+1) rb s ns (.inr (⟨2,(Zf.hd l).text,ts⟩,l2)) w e w'
  go_enter Tryz.func61,Tryz.ntmps61
  go_wp2_with fail
  refine(jB _ rb s l ns nv e0 d (ae H2)).mono ?_
  rintro e w1 ⟨rfl,hs,hk⟩
  rw[if_pos hm]at hs
  have HS:=hide hs
  have HK:=hide hk
  clear hs hk
  go_wp2_with fail
  refine(fN _ rb s l ns nv e0 (ae HS) (ae gh)).mono ?_
  rintro e w2 ⟨rfl,hs,hk⟩
  have cm:=hide hs
  have jY:=hide ((ae HK).trans hk)
  clear hs hk HS HK
  obtain⟨r0,r1,r2,r3,x0,x1,x2,x3,t0,t2⟩:=boxes hlt (ae jY)
  rw[ae dt]at t0
  go_wp2_with fail
  rw[show ((d:Int)+1)=((d+1:Nat):Int)by omega]
  refine(ae I _ (ae cm)).mono ?_
  clear r0 r1 r2 r3 x0 x1 x2 x3 t0 t2
  rintro e w3 ⟨ao,cap,ns',nv',e',rfl,mF,hs,hk⟩
  have Hm:=hide (mF.up (ae jY).size)
  clear mF
  have eI:=hide hs
  have eo:=hide ((ae jY).trans hk)
  clear hs hk cm jY
  obtain⟨r0,r1,r2,r3,x0,x1,x2,x3,t0,t2⟩:=boxes hlt (ae eo)
  go_wp2_with fail
  have R:=qA (ae eo) (ae eI) hlt (.int .i64 3) (.int .i64 0) (.string (Zf.hd l).text) (.slice ao ts.length cap)
  refine bodyPost_ret (v:= .tuple #[.agg #[.int .i64 3,.int .i64 0,.string (Zf.hd l).text,.slice ao ts.length cap],.bool true]) (by simp[results,Tryz.results61,go_sem,r0,r1,r2,r3]) rfl ?_
  exact⟨_,_,_,_,ns',nv',e',rfl,OM hz (ae Hm),R.1,R.2⟩
theorem Hn (f:Nat) (IH:vM f):qW (f+1):=by
 intro w rb s l ns nv e0 d pR h
 by_cases hm:dZ d (Zf.hd l)=0
 ·rcases Hk hm with hk | hk | hk
  ·exact KR f IH w rb s l ns nv e0 d pR h hm hk
  ·exact KP w rb s l ns nv e0 d f h hm hk
  ·exact KQ w rb s l ns nv e0 d f h hm hk
 ·rw[KM (by omega) hm]
  exact D7 w rb s l ns nv e0 _ d h hm
theorem term_none:qW 0:=by
 intro w rb s l ns nv e0 d pR h
 obtain rfl:d=9:=by omega
 rw[Hh]
 exact D7 w rb s l ns nv e0 0 9 h (Tz _)
theorem Tryz.info74:(Tryz.prog.info? 74).map (fun i=>(i.zero,i.size,i.bytes))=some (some (.agg #[.int .i64 0,.int .i64 0,.string ⟨#[]⟩,.slice none 0 0]),4,56):=by kernel_rfl
theorem sM {rb b0:Nat} {w w1:World} {T:TypeId} {sz:Nat} {v:Value} {n:Nat} {xs:List Value} (h:w.ownsRow b0 T sz v n xs) (hk:KA rb [rb] w w1) (hb:rb<b0) (hT:T≠9):w1.ownsRow b0 T sz v n xs:=
 ⟨h.1,h.2.imp id fun⟨g,cap,cur,a,b,c,d⟩=>⟨g,cap,cur,a,b,(hk.block g (Array.getElem?_eq_some_iff.1 c).1 (by simp;omega) (Or.inr (by unfold aM;rw[c];simpa using hT))).trans c,d⟩⟩
theorem St.grown {w w2:World} {rb:Nat} {s:ByteArray} {l:List Zf.Tok} {ns:List ByteArray} {nv:Value} {e:Int} {row:Option Nat} (h:St w rb s l ns nv e) (hg:w.grownBy w2 row) (hr:∀k,row=some k→rb<k∧aM w k≠some 9):St w2 rb s l ns nv e:=by
 have k:∀q,q<w.heap.size→some q≠row→w2.heap[q]?=w.heap[q]?:=hg.block
 have gY:=k rb h.lt (fun e=>by have:=(hr rb e.symm).1;omega)
 have h0:=k 0 (by have:=h.lt;omega) (fun e=>by have:=(hr 0 e.symm).1;omega)
 have c:∀o,w2.cell? ⟨rb,o,none⟩=w.cell? ⟨rb,o,none⟩:=fun o=>World.cell?_of_block gY
 have f:∀o,w2.frozen? ⟨rb,o,none⟩=w.frozen? ⟨rb,o,none⟩:=fun o=>World.frozen?_of_block gY
 have z:∀o,w2.cell? ⟨0,o,none⟩=w.cell? ⟨0,o,none⟩:=fun o=>World.cell?_of_block h0
 obtain⟨⟨c0,c1,c2,c3,c4,c5,f1,f2,f3,f4,f5⟩,own,chain,isn,few,short,signs,pos,lt⟩:=h
 refine⟨⟨(c 0).trans c0,(c 1).trans c1,(c 2).trans c2,(c 3).trans c3,(c 4).trans c4,(c 5).trans c5,(f 1).trans f1,(f 2).trans f2,(f 3).trans f3,(f 4).trans f4,(f 5).trans f5⟩,⟨own.1,?_⟩,chain,isn,few,short,⟨(z 0).trans signs.s0,(z 1).trans signs.s1,(z 2).trans signs.s2,(z 3).trans signs.s3,(z 4).trans signs.s4⟩,pos,by have:=hg.size;omega⟩
 rcases own.2 with q | ⟨g,cap,cur,a,b',c',d⟩
 ·exact Or.inl q
 ·refine Or.inr ⟨g,cap,cur,a,b',?_,d⟩
  rw[k g (Array.getElem?_eq_some_iff.1 c').1 (fun e=>(hr g e.symm).2 (by unfold aM;rw[c']))]
  exact c'
def pre (ts:List Zf.Tm) (r:Zf.dP (List Zf.Tm)):Zf.dP (List Zf.Tm):=match r with
 | .inl e=> .inl e
 | .inr (us,l2)=> .inr (ts++us,l2)
theorem pre_nil (r:Zf.dP (List Zf.Tm)):r=pre [] r:=by rcases r with e | ⟨us,l2⟩<;>rfl
theorem KS {p:List Zf.Tok→Zf.dP Zf.Tm} {k:Nat} {l:List Zf.Tok} {er:Nat×Nat} (h:p l= .inl er):Zf.bN p k l= .inl er:=by
 unfold Zf.bN;rw[h]
theorem KU {p:List Zf.Tok→Zf.dP Zf.Tm} {k:Nat} {l l1:List Zf.Tok} {t:Zf.Tm} (h:p l= .inr (t,l1)) (hc:Zf.sees l1 [44]=false):Zf.bN p k l=if Zf.sees l1 [41]=true then .inr ([t],l1.tail)else Zf.bad 2 l1:=by
 unfold Zf.bN;rw[h];simp only[hc];rfl
theorem Ho {p:List Zf.Tok→Zf.dP Zf.Tm} {l l1:List Zf.Tok} {t:Zf.Tm} (h:p l= .inr (t,l1)) (hc:Zf.sees l1 [44]=true):Zf.bN p 0 l=Zf.bad 3 l1:=by
 unfold Zf.bN;rw[h];simp only[hc];rfl
theorem Hp {p:List Zf.Tok→Zf.dP Zf.Tm} {k:Nat} {l l1:List Zf.Tok} {t:Zf.Tm} (h:p l= .inr (t,l1)) (hc:Zf.sees l1 [44]=true) (ts:List Zf.Tm):pre ts (Zf.bN p (k+1) l)=pre (ts++[t]) (Zf.bN p k l1.tail):=by
 conv=>lhs;unfold Zf.bN
 rw[h];simp only[hc]
 rcases Zf.bN p k l1.tail with e | ⟨us,l2⟩
 ·rfl
 ·simp[pre]
theorem Bq (W:World) (o:Obj) (a b c d:Value) (T:TypeId):∀j u,([a,b,c,d]:List Value)[j]?=some u→((W.alloc o).alloc (.cells #[a,b,c,d] T)).cell? ((⟨W.heap.size+1,0,none⟩:Addr).add j)=some u:=by
 intro j u hj
 match j,hj with
 | 0,hj=>simp at hj;subst hj;simp[Addr.add]
 | 1,hj=>simp at hj;subst hj;simp[Addr.add]
 | 2,hj=>simp at hj;subst hj;simp[Addr.add]
 | 3,hj=>simp at hj;subst hj;simp[Addr.add]
theorem Br (a b:Int) (c:ByteArray) (ao:Option Addr) (n cap:Nat):∀u∈([.int .i64 a,.int .i64 b,.string c,.slice ao n cap]:List Value),u.oneCell'=true:=by
 intro u hu;simp at hu;rcases hu with rfl | rfl | rfl | rfl<;>rfl
theorem zh {w w2 w3:World} {rb:Nat} {s:ByteArray} {l:List Zf.Tok} {ns:List ByteArray} {nv:Value} {e:Int} {v:Value} {n:Nat} {xs:List Value} {o1 o2:Obj} {T:TypeId} {sz:Nat} (h:St w2 rb s l ns nv e) (hk:KA rb [rb] w w2) (ho:w2.ownsRow w.heap.size T sz v n xs) (hlt:rb<w.heap.size) (hg:((w2.alloc o1).alloc o2).grownBy w3 v.ownBlock) (hT:T≠9:=by decide):
 St w3 rb s l ns nv e∧KA rb [rb] w w3:=by
 have hb:Below w2.heap.size w2 ((w2.alloc o1).alloc o2):=((Below.refl _ _).alloc (Nat.le_refl _) _).alloc (by simp) _
 have hty:∀k,v.ownBlock=some k→aM ((w2.alloc o1).alloc o2) k≠some 9:=fun k hk'=>by
  have:=ho.lt k hk'
  rcases ho.2 with⟨rfl,_⟩ | ⟨g,cap,cur,rfl,_,c,_⟩
  ·simp[Value.ownBlock]at hk'
  ·simp[Value.ownBlock]at hk'
   subst hk'
   unfold aM;rw[hb.block g this.2,c];simpa using hT
 refine⟨(h.below hb).grown hg (fun k q=>⟨by have:=(ho.lt k q).1;omega,hty k q⟩),((hk.alloc o1).alloc o2).grown hg (fun k q=>Or.inl (ho.lt k q).1)⟩
def iH (f:Nat) (w:World) (ns0 ns:List ByteArray) (v:Value) (wr:World) (us:List AV) (ts:List Zf.Tm):Prop:=
 bR (RA f (aR ns) (fun g=>w.heap.size≤g∧some g≠v.ownBlock) wr) us ts∧aR ns=ts.foldl (Zf.namesF f) (aR ns0)
theorem iH.keep {f:Nat} {w:World} {ns0 ns:List ByteArray} {v:Value} {wr w2:World} {us:List AV} {ts:List Zf.Tm} (h:iH f w ns0 ns v wr us ts) (hk:aK wr w2):iH f w ns0 ns v w2 us ts:=
 ⟨h.1.imp fun _ _ r=>r.keep fun g cs hp hc hi=>⟨hk g cs hc hi,hp⟩,h.2⟩
theorem iH.next {f rb:Nat} {w:World} {ns0 ns1 ns2:List ByteArray} {v nv:Value} {wr w2:World} {us:List AV} {ts:List Zf.Tm} {s:ByteArray} {l:List Zf.Tok} {e:Int} {T:TypeId} {sz n:Nat} {xs:List Value} {val:Int} {tx:ByteArray} {ao:Option Addr} {cap:Nat} {t:Zf.Tm}
 (h:iH f w ns0 ns1 v wr us ts) (hs:St wr rb s l ns1 nv e) (hk:KA rb [rb] wr w2) (ho:wr.ownsRow w.heap.size T sz v n xs) (hw:w.heap.size≤wr.heap.size) (ht:TA f ns1 ns2 wr w2 val tx ao cap t):
 iH f w ns0 ns2 v w2 (us++[⟨ak t.kind,val,tx,ao,t.args.length,cap⟩]) (ts++[t]):=by
 obtain⟨M,hM,_⟩:=Zf.namesF_ext f t ht.rep.ny (aR ns1)
 have he:aR ns2=aR ns1++M:=ht.nms.trans hM
 refine⟨bR.snoc ?_ ?_,by rw[List.foldl_append,←h.2];exact ht.nms⟩
 ·exact ht.rep.imp fun g hg _=>⟨by omega,fun q=>by have:=(ho.lt g q.symm).2;omega⟩
 ·rw[he]
  exact(h.keep (aK.ka hs hk)).1.imp fun _ _ r=>r.more M
theorem iH.grown {f:Nat} {w:World} {ns0 ns:List ByteArray} {v v':Value} {w2 w3:World} {us:List AV} {ts:List Zf.Tm} {o1 o2:Obj} (h:iH f w ns0 ns v w2 us ts) (hg:((w2.alloc o1).alloc o2).grownBy w3 v.ownBlock) (hat:v'.ownBlock=v.ownBlock∨v'.ownBlock=some ((w2.alloc o1).alloc o2).heap.size):iH f w ns0 ns v' w3 us ts:=by
 have hb:Below w2.heap.size w2 ((w2.alloc o1).alloc o2):=((Below.refl _ _).alloc (Nat.le_refl _) _).alloc (by simp) _
 have hz:w2.heap.size≤((w2.alloc o1).alloc o2).heap.size:=hb.size
 refine⟨h.1.imp fun _ _ r=>r.keep fun g cs hp hc hi=> ?_,h.2⟩
 have hlt:g<w2.heap.size:=(Array.getElem?_eq_some_iff.1 hc).1
 refine⟨((hg.block g (by omega) hp.2).trans (hb.block g hlt)).trans hc,hp.1,fun q=> ?_⟩
 rcases hat with a | a
 ·exact hp.2 (q.trans a)
 ·rw[a]at q
  injection q with q
  omega
theorem iH.done {f:Nat} {w:World} {ns0 ns:List ByteArray} {g cap:Nat} {wr:World} {us:List AV} {ts:List Zf.Tm} (h:iH f w ns0 ns (.slice (some ⟨g,0,none⟩) ts.length cap) wr us ts) (ho:wr.ownsRow w.heap.size 74 4 (.slice (some ⟨g,0,none⟩) ts.length cap) ts.length (us.flatMap gP)) (h3:ts.length≤3):AA f ns0 ns w wr (some ⟨g,0,none⟩) ts:=by
 refine⟨fun _=> ?_,h.2,h3⟩
 rcases ho.2 with⟨q,_⟩ | ⟨g',cap',cur,q,hb,hc,_,_,_,ht⟩
 ·cases q
 ·simp only[Value.slice.injEq,Option.some.injEq,Addr.mk.injEq,and_true,true_and]at q
  obtain⟨rfl,rfl⟩:=q
  exact⟨g,us,cur,rfl,hb,hc,by rw[h.1.length];exact ht,h.1.imp fun _ _ r=>r.imp fun _ q _=>q.1⟩
def ArgRel (w:World) (rb:Nat) (s:ByteArray) (f:Nat) (l0:List Zf.Tok) (ns0:List ByteArray) (v:Value) (wr:World):Prop:=
 ∃(ts:List Zf.Tm) (us:List AV) (l:List Zf.Tok) (ns:List ByteArray) (nv:Value) (e:Int),St wr rb s l ns nv e∧wr.ownsRow w.heap.size 74 4 v ts.length (us.flatMap gP)∧ts.length≤2∧
  Zf.bN (Zf.term f) 2 l0=pre ts (Zf.bN (Zf.term f) (2 - ts.length) l)∧KA rb [rb] w wr∧iH f w ns0 ns v wr us ts
def lenOf:Value→Nat | .slice _ n _=>n | _=>0
theorem OO {w:World} {b:Nat} {e:TypeId} {sz:Nat} {v:Value} {n:Nat} {xs:List Value} (h:w.ownsRow b e sz v n xs):lenOf v=n:=by
 rcases h.2 with⟨rfl,q⟩ | ⟨g,cap,cur,rfl,_⟩
 ·exact q.symm
 ·rfl
theorem Hq (f:Nat) (IH:qW f):vM f:=by
 intro w rb s l ns nv e0 d pR h
 obtain⟨i0,hi,hz0,hz1,hz2⟩:=info_parts Tryz.info74
 have H:=hide h
 have hlt:=h.lt
 cases hs0:Zf.sees l [40]
 ·have HO:=hide (show jR f l= .inr ([],l)by unfold jR;rw[hs0];rfl)
  go_enter Tryz.func110,Tryz.ntmps110
  go_wp2_with (go_at_call 62;refine(bD _ rb s l ns nv e0 _ (ae H)).mono ?_;rintro e w1 ⟨rfl,rfl⟩;simp only[ByteArray.toList_mk])
  go_ret2
  refine(?_:uw f rb s ns (jR f l) w1 _ _)
  rw[ae HO]
  exact⟨none,0,ns,nv,e0,rfl,⟨fun q=>absurd rfl q,rfl,by simp⟩,ae H,KA.refl _ _ _⟩
 ·have HO:=hide (show jR f l=Zf.bN (Zf.term f) 2 l.tail by unfold jR;rw[hs0];rfl)
  have gh:=hide (show (Zf.hd l).kind≠0 by rw[Zf.cW hs0];omega)
  rw[ae HO]
  clear HO
  go_enter Tryz.func110,Tryz.ntmps110
  go_wp2_with fail
  refine(bD _ rb s l ns nv e0 _ (ae H)).mono ?_
  rintro e w1 ⟨rfl,hw⟩
  rw[hw]
  simp only[ByteArray.toList_mk]
  rw[hs0]
  clear hw w1
  go_wp2_with fail
  refine(fN _ rb s l ns nv e0 (ae H) (ae gh)).mono ?_
  rintro e w1 ⟨rfl,hs1,hk1⟩
  have bF:=hide hs1
  have df:=hide hk1
  clear hs1 hk1
  go_wp2_with fail
  go_loopw [6] (fun v wr=>ArgRel w rb s f l.tail ns v wr) (fun v _=>2 - lenOf v)
  case atStart=>exact⟨[],[],l.tail,ns,nv,e0,ae bF,World.ownsRow_nil _ _ _ _,by simp,pre_nil _,ae df,trivial,rfl⟩
  case round=>
   obtain⟨ts,us,l1,ns1,nv1,e1,hst,hown,hts,hpre,hka,PX⟩:=hrel
   have VH:=hide PX
   have HST:=hide hst
   have HOWN:=hide hown
   have HLEN:=hide (OO hown)
   have FD:=hide hpre
   have Bt:=hide hka
   clear hst hown hpre hka PX
   have I:=hide (IH wr rb s l1 ns1 nv1 e1 d pR (ae HST))
   generalize hr:Zf.term f l1=r at I
   have HR:=hide hr
   clear hr
   rcases r with⟨er,pos⟩ | ⟨t,l2⟩
   ·have HF:Hid (Zf.bN (Zf.term f) 2 l.tail= .inl (er,pos)):=(ae FD).trans (by rw[KS (ae HR)];rfl)
    go_wp2_with fail
    refine(ae I).mono ?_
    rintro e w2 ⟨k,val,tx,ao,n,cap,l',ns',nv',rfl,hs2,hpos,hk2⟩
    have cm:=hide hs2
    have HP:=hide hpos
    have dt:=hide ((ae Bt).trans hk2)
    clear hs2 hpos hk2
    go_wp2_with fail
    go_ret2
    refine(?_:uw f rb s ns _ w _ _)
    rw[ae HF]
    exact⟨l',ns',nv',none,0,0,rfl,(ae cm).below ((Below.refl _ _).alloc (Nat.le_refl _) _),ae HP,(ae dt).alloc _⟩
   ·go_wp2_with fail
    refine(ae I).mono ?_
    rintro e w2 ⟨val,tx,ao,cap,ns2,nv2,e2,rfl,htx,hs2,hk2⟩
    have TC:=hide ((ae VH).next (ae HST) hk2 (ae HOWN) (ae Bt).size htx)
    have cm:=hide hs2
    have Bu:=hide (sM (ae HOWN) hk2 hlt (by decide))
    have dt:=hide ((ae Bt).trans hk2)
    have KV:w.heap.size≤w2.heap.size:=(ae dt).size
    clear hs2 hk2 htx
    go_wp2_with (first | (at_builtin;refine wpList_append_own_at _ rfl (.tmp 23) (.tmp 25) 72 rfl w.heap.size 74 i0 (.agg #[.int .i64 0,.int .i64 0,.string ⟨#[]⟩,.slice none 0 0]) 4 56 Tryz.underlying72 hi hz0 hz1 hz2 rfl (by decide) _ ts.length (us.flatMap gP) rfl (((ae Bu).alloc _).alloc _) ⟨w2.heap.size+1,0,none⟩ 1 1 [.int .i64 (ak t.kind),.int .i64 val,.string tx,.slice ao t.args.length cap] rfl rfl (Bq _ _ _ _ _ _ _) (Br _ _ _ _ _ _) (by unfold maxLen;omega) (by omega) (by simp;omega) ?_;intro v' w3 hown' hgrow _ hat;have FE:=hide ((ae TC).grown hgrow hat);clear hat;have FH:=hide hown';have R3:=hide (zh (ae cm) (ae dt) (ae Bu) hlt hgrow);obtain⟨g',cap',hv,hcm⟩:=ft hown';rw[hv]at FH FE⊢;clear hown' hgrow hv))
    have eI:=hide (ae R3).1
    have eo:=hide (ae R3).2
    clear R3
    cases hc:Zf.sees l2 [44]
    ·have HF:=hide ((ae FD).trans (by rw[KU (ae HR) hc]))
     refine(bD _ rb s l2 ns2 nv2 e2 _ (ae eI)).mono ?_
     rintro e w4 ⟨rfl,hw⟩
     rw[hw]
     simp only[ByteArray.toList_mk]
     rw[hc]
     clear hw w4
     go_wp2_with fail
     refine(bD _ rb s l2 ns2 nv2 e2 _ (ae eI)).mono ?_
     rintro e w4 ⟨rfl,hw⟩
     rw[hw]
     simp only[ByteArray.toList_mk]
     clear hw w4
     cases hb:Zf.sees l2 [41]
     ·rw[hb]at HF
      go_wp2_with fail
      refine(dJ _ rb s l2 ns2 nv2 e2 false (ae eI) (fun q=>by cases q)).mono ?_
      rintro e w4 ⟨rfl,hs4,hk4⟩
      have iI:=hide hs4
      have jX:=hide ((ae eo).trans hk4)
      clear hs4 hk4
      go_wp2_with fail
      go_ret2
      refine(?_:uw f rb s ns _ w _ _)
      rw[ae HF]
      exact⟨l2,ns2,nv2,_,_,_,rfl,ae iI,rfl,ae jX⟩
     ·rw[hb]at HF
      have bY:=hide (show (Zf.hd l2).kind≠0 by rw[Zf.cW hb];omega)
      go_wp2_with fail
      refine(dJ _ rb s l2 ns2 nv2 e2 true (ae eI) (fun _=>ae bY)).mono ?_
      rintro e w4 ⟨rfl,hs4,hk4⟩
      have Bv:=hide (aK.ka (ae eI) hk4)
      have PY:=hide (sM (ae FH) hk4 hlt (by decide))
      have iI:=hide hs4
      have jX:=hide ((ae eo).trans hk4)
      clear hs4 hk4
      go_wp2_with fail
      go_ret2
      refine(?_:uw f rb s ns _ w _ _)
      rw[ae HF]
      exact⟨some ⟨g',0,none⟩,cap',ns2,nv2,e2,by simp,iH.done (by simpa using (ae FE).keep (ae Bv)) (by simpa [gP] using ae PY) (by simp;omega),ae iI,ae jX⟩
    ·have bY:=hide (show (Zf.hd l2).kind≠0 by rw[Zf.cW hc];omega)
     refine(bD _ rb s l2 ns2 nv2 e2 _ (ae eI)).mono ?_
     rintro e w4 ⟨rfl,hw⟩
     rw[hw]
     simp only[ByteArray.toList_mk]
     rw[hc]
     clear hw w4
     go_wp2_with fail
     rw[show ((ts.length:Int)+1)=((ts.length+1:Nat):Int)by omega]
     refine(y9 _ rb s l2 ns2 nv2 e2 (ts.length+1) 3 (ae eI) (ae bY)).mono ?_
     by_cases hn:ts.length+1<3
     ·have HF:=hide ((ae FD).trans (by rw[show 2 - ts.length=(2 - (ts.length+1))+1 by omega,Hp (ae HR) hc]))
      rw[if_pos hn,if_pos hn,decide_eq_true hn]
      rintro e w4 ⟨rfl,hs4,hk4⟩
      have iI:=hide hs4
      have Bv:=hide (aK.ka (ae eI) hk4)
      have PY:=hide (sM (ae FH) hk4 hlt (by decide))
      have jX:=hide ((ae eo).trans hk4)
      clear hs4 hk4
      go_wp2_with fail
      go_roundw
      case rel=>exact⟨ts++[t],us++[⟨ak t.kind,val,tx,ao,t.args.length,cap⟩],l2.tail,ns2,nv2,e2,ae iI,by simpa [gP] using ae PY,by simp;omega,by simpa using ae HF,ae jX,(ae FE).keep (ae Bv)⟩
      case measure=>show 2 - (ts.length+1)<2 - lenOf _;rw[ae HLEN];omega
     ·have h0:ts.length=2:=by omega
      have HF:=hide ((ae FD).trans (by rw[show 2 - ts.length=0 by omega,Ho (ae HR) hc]))
      rw[if_neg hn,if_neg hn,decide_eq_false hn]
      rintro e w4 ⟨rfl,hs4,hk4⟩
      have iI:=hide hs4
      have jX:=hide ((ae eo).trans hk4)
      clear hs4 hk4 h0
      go_wp2_with fail
      go_ret2
      refine(?_:uw f rb s ns _ w _ _)
      rw[ae HF]
      exact⟨l2,ns2,nv2,_,_,_,rfl,ae iI,rfl,ae jX⟩
theorem term_all:∀f,qW f
 | 0=>term_none
 | f+1=>Hn f (Hq f (term_all f))
theorem nP {w:World} {b:Nat} {cs:Array Value} {T:TypeId} (h:w.heap[b]?=some (.cells cs T (0,0))) (i:Nat) {v:Value} (hv:cs[i]?=some v):w.cell? ⟨b,i,none⟩=some v:=by
 simp[World.cell?,h,hv]
theorem mS {w:World} {b:Nat} {cs:Array Value} {T:TypeId} (h:w.heap[b]?=some (.cells cs T (0,0))) (i:Nat):w.frozen? ⟨b,i,none⟩=false:=by
 simp[World.frozen?,h]
theorem ah {w:World} {b:Nat} {cs:Array Value} {T:TypeId} (h:w.heap[b]?=some (.cells cs T (0,0))):∀i,w.cell? ⟨b,i,none⟩=cs[i]?:=fun i=>by
 simp[World.cell?,h]
theorem au {w:World} {b:Nat} {cs:Array Value} {T:TypeId} (h:w.heap[b]?=some (.cells cs T (0,0))):∀i,w.frozen? ⟨b,i,none⟩=false:=fun i=>mS h i
theorem OP (w:World) (cs:Array Value) (T:TypeId):(w.alloc (.cells cs T)).heap[w.heap.size]?=some (.cells cs T (0,0)):=heap_alloc_new w _
theorem aA {w:World} {b:Nat} {x:Obj} (h:w.heap[b]?=some x) (o:Obj):(w.alloc o).heap[b]?=some x:=by
 rw[Below.heap_alloc _ _ _ (Array.getElem?_eq_some_iff.1 h).1];exact h
theorem aj {w w':World} {rb b:Nat} {X:List Nat} {cs:Array Value} {T:TypeId} (hk:KA rb X w w') (h:w.heap[b]?=some (.cells cs T (0,0))) (hb:b∉X) (hT:T≠9:=by decide):w'.heap[b]?=some (.cells cs T (0,0)):=
 (hk.block b (Array.getElem?_eq_some_iff.1 h).1 hb (Or.inr (by unfold aM;rw[h];simpa using hT))).trans h
theorem af {w:World} {b:Nat} {x:Obj} (h:w.heap[b]?=some x):b<w.heap.size:=(Array.getElem?_eq_some_iff.1 h).1
structure aB (b:Nat) (w w':World):Prop where
 os:w'.os=w.os
 tape:w'.tape=w.tape
 output:w'.output=w.output
 size:w'.heap.size=w.heap.size
 block:∀k,k≠b→w'.heap[k]?=w.heap[k]?
 ty:∀k,aM w' k=aM w k
theorem aB.refl (b:Nat) (w:World):aB b w w:=⟨rfl,rfl,rfl,rfl,fun _ _=>rfl,fun _=>rfl⟩
theorem aB.set {b:Nat} {a w:World} (h:aB b a w) (i:Nat) (v:Value):aB b a (w.setCell ⟨b,i,none⟩ v):=
 ⟨h.os,h.tape,h.output,by simp[World.setCell];exact h.size,fun k hk=>(Below.heap_setCell _ _ _ _ hk).trans (h.block k hk),fun k=>(gU _ _ _ _).trans (h.ty k)⟩
theorem St.only {w w':World} {rb:Nat} {s:ByteArray} {l:List Zf.Tok} {ns:List ByteArray} {nv:Value} {e:Int} {b:Nat} (h:St w rb s l ns nv e) (ho:aB b w w') (hb:b≠rb) (h0:b≠0) (ht:aM w b≠some 9):St w' rb s l ns nv e:=by
 have k:=ho.block
 have c:∀o,w'.cell? ⟨rb,o,none⟩=w.cell? ⟨rb,o,none⟩:=fun o=>World.cell?_of_block (k rb (Ne.symm hb))
 have f:∀o,w'.frozen? ⟨rb,o,none⟩=w.frozen? ⟨rb,o,none⟩:=fun o=>World.frozen?_of_block (k rb (Ne.symm hb))
 have z:∀o,w'.cell? ⟨0,o,none⟩=w.cell? ⟨0,o,none⟩:=fun o=>World.cell?_of_block (k 0 (Ne.symm h0))
 obtain⟨⟨c0,c1,c2,c3,c4,c5,f1,f2,f3,f4,f5⟩,own,chain,isn,few,short,signs,pos,lt⟩:=h
 refine⟨⟨(c 0).trans c0,(c 1).trans c1,(c 2).trans c2,(c 3).trans c3,(c 4).trans c4,(c 5).trans c5,(f 1).trans f1,(f 2).trans f2,(f 3).trans f3,(f 4).trans f4,(f 5).trans f5⟩,⟨own.1,?_⟩,chain,isn,few,short,⟨(z 0).trans signs.s0,(z 1).trans signs.s1,(z 2).trans signs.s2,(z 3).trans signs.s3,(z 4).trans signs.s4⟩,pos,by rw[ho.size];exact lt⟩
 rcases own.2 with q | ⟨g,cap,cur,a,b',c',d⟩
 ·exact Or.inl q
 ·refine Or.inr ⟨g,cap,cur,a,b',?_,d⟩
  rw[k g (fun e=>ht (by rw[←e];unfold aM;rw[c']))]
  exact c'
theorem KA.eG {rb b:Nat} {X:List Nat} {u w w':World} (h:KA rb X u w) (ho:aB b w w') (hb:u.heap.size≤b):KA rb X u w':=
 ⟨ho.os.trans h.os,ho.tape.trans h.tape,ho.output.trans h.output,by rw[ho.size];exact h.size,fun k hk hX ht=>(ho.block k (by omega)).trans (h.block k hk hX ht)⟩
theorem KA.PZ {rb b:Nat} {X:List Nat} {u w w':World} (h:KA rb X u w) (ho:aB b w w') (hb:b∈X):KA rb X u w':=
 h.trans ⟨ho.os,ho.tape,ho.output,by rw[ho.size];exact Nat.le_refl _,fun k _ hX _=>ho.block k (fun e=>hX (e ▸ hb))⟩
theorem P4 {l:List Zf.Tok} (h:(Zf.hd l).kind=5) (g:List UInt8):Zf.sees l g=((Zf.hd l).text.toList == g):=by simp[Zf.sees,h]
theorem OQ {l:List Zf.Tok} (h:(Zf.hd l).kind≠5) (g:List UInt8):Zf.sees l g=false:=by simp[Zf.sees,h]
theorem bK (w:World) (rb:Nat) (s:ByteArray) (l:List Zf.Tok) (ns:List ByteArray) (nv:Value) (e0:Int) (h:St w rb s l ns nv e0):
 Calls Tryz.prog 111 #[.pointer (some ⟨rb,0,none⟩)] w fun e w'=>e= .returned (.bool (Zf.bH l))∧w'=w:=by
 obtain⟨⟨c0,c1,c2,c3,c4,c5,f1,f2,f3,f4,f5⟩,own,chain,isn,few,short,signs,pos,lt⟩:=h
 clear own chain isn few short signs pos lt c0 c2 c4 c5 f1 f2 f3 f4 f5
 by_cases hk:(Zf.hd l).kind=5
 ·have HT:=hide (show Zf.bH l=(((Zf.hd l).text.toList == [60])||((Zf.hd l).text.toList == [61,60])||((Zf.hd l).text.toList == [61,61])||((Zf.hd l).text.toList == [92,61]))by simp only[Zf.bH,P4 hk])
  rw[hk]at c1
  clear hk
  generalize (Zf.hd l).text=tx at*
  cases b1:(tx.toList == [60])
  ·cases b2:(tx.toList == [61,60])
   ·cases b3:(tx.toList == [61,61])
    ·cases b4:(tx.toList == [92,61])
     all_goals
      go_enter Tryz.func111,Tryz.ntmps111
      go_wp2_with fail
      go_ret
      exact⟨cN (by rw[ae HT,b1,b2,b3,b4];rfl),rfl⟩
    ·go_enter Tryz.func111,Tryz.ntmps111
     go_wp2_with fail
     go_ret
     exact⟨cN (by rw[ae HT,b1,b2,b3];rfl),rfl⟩
   ·go_enter Tryz.func111,Tryz.ntmps111
    go_wp2_with fail
    go_ret
    exact⟨cN (by rw[ae HT,b1,b2];rfl),rfl⟩
  ·go_enter Tryz.func111,Tryz.ntmps111
   go_wp2_with fail
   go_ret
   exact⟨cN (by rw[ae HT,b1];rfl),rfl⟩
 ·have HT:=hide (show Zf.bH l=false by simp[Zf.bH,OQ hk])
  have hk':(((Zf.hd l).kind:Int) != 5)=true:=by simp;omega
  clear hk
  go_enter Tryz.func111,Tryz.ntmps111
  go_wp2_with fail
  go_ret
  exact⟨cN (by rw[ae HT]),rfl⟩
theorem lh (w:World) (rb:Nat) (s:ByteArray) (l:List Zf.Tok) (ns:List ByteArray) (nv:Value) (e0:Int) (h:St w rb s l ns nv e0):
 Calls Tryz.prog 154 #[.pointer (some ⟨rb,0,none⟩)] w fun e w'=>e= .returned (.bool (Zf.gQ l))∧w'=w:=by
 have HT:=hide (show Zf.gQ l=(Zf.sees l [43]||Zf.sees l [45]||Zf.sees l [42])from rfl)
 have H:=hide h
 clear h
 cases b1:Zf.sees l [43]
 ·cases b2:Zf.sees l [45]
  ·go_enter Tryz.func154,Tryz.ntmps154
   go_wp2_with (go_at_call 62;refine(bD _ rb s l ns nv e0 _ (ae H)).mono ?_;rintro e w1 ⟨rfl,hw⟩;rw[hw];clear hw;simp only[ByteArray.toList_mk])
   go_ret
   exact⟨cN (by rw[ae HT,b1,b2];rfl),rfl⟩
  ·go_enter Tryz.func154,Tryz.ntmps154
   go_wp2_with (go_at_call 62;refine(bD _ rb s l ns nv e0 _ (ae H)).mono ?_;rintro e w1 ⟨rfl,hw⟩;rw[hw];clear hw;simp only[ByteArray.toList_mk])
   go_ret
   exact⟨cN (by rw[ae HT,b1,b2];rfl),rfl⟩
 ·go_enter Tryz.func154,Tryz.ntmps154
  go_wp2_with (go_at_call 62;refine(bD _ rb s l ns nv e0 _ (ae H)).mono ?_;rintro e w1 ⟨rfl,hw⟩;rw[hw];clear hw;simp only[ByteArray.toList_mk])
  go_ret
  exact⟨cN (by rw[ae HT,b1];rfl),rfl⟩
theorem je (w:World) (t:Zf.Tm) (val:Int) (tx:ByteArray) (ao:Option Addr) (cap:Nat) (ht:t.kind=2→tx=t.text) (hk:t.kind=2∨t.kind=3∨t.kind=4):
 Calls Tryz.prog 114 #[.agg #[.int .i64 (ak t.kind),.int .i64 val,.string tx,.slice ao t.args.length cap]] w fun e w'=>e= .returned (.bool (Zf.isInt t))∧Below w.heap.size w w':=by
 by_cases h2:t.kind=2
 ·have HT:=hide (show Zf.isInt t=((tx.toList == [105,110,116])&&(t.args.length == 1))by simp[Zf.isInt,h2,ht h2])
  have ha:ak t.kind=3:=by rw[h2];rfl
  rw[ha]
  clear ha h2 ht hk
  generalize t.args.length=n at*
  cases b1:(tx.toList == [105,110,116])
  ·go_enter Tryz.func114,Tryz.ntmps114
   go_wp2_with fail
   go_ret
   exact⟨cN (by rw[ae HT,b1];rfl),(Below.refl _ _).alloc (Nat.le_refl _) _⟩
  ·by_cases hn:n=1
   ·have hn':((n:Int) == 1)=true:=by simp;omega
    go_enter Tryz.func114,Tryz.ntmps114
    go_wp2_with fail
    go_ret
    exact⟨cN (by rw[ae HT,b1,hn];rfl),(Below.refl _ _).alloc (Nat.le_refl _) _⟩
   ·have hn':((n:Int) == 1)=false:=by simp;omega
    go_enter Tryz.func114,Tryz.ntmps114
    go_wp2_with fail
    go_ret
    exact⟨cN (by rw[ae HT,b1];simp[hn]),(Below.refl _ _).alloc (Nat.le_refl _) _⟩
 ·have HT:=hide (show Zf.isInt t=false by simp[Zf.isInt,h2])
  have ha:(ak t.kind == 3)=false:=by rcases hk with e | e | e<;>simp_all [ak]
  generalize ak t.kind=q at*
  clear h2 ht hk
  go_enter Tryz.func114,Tryz.ntmps114
  go_wp2_with fail
  go_ret
  exact⟨cN (by rw[ae HT]),(Below.refl _ _).alloc (Nat.le_refl _) _⟩
end Go.Proofs.YthfjnfcekeknlabGreatDoor
namespace Zf
def YO (N:List (List UInt8)) (x:aD):List UInt8:=
 strF 8 N x.left++(match x.right with
  | none=>[]
  | some r=>x.sign++strF 8 N r)++(match x.last with
  | none=>[]
  | some z=>x.op++strF 8 N z)
def cL (ns:List (List UInt8)):Option Tm→List (List UInt8)
 | none=>ns
 | some t=>namesF 8 ns t
def aL (ns:List (List UInt8)) (x:aD):List (List UInt8):=cL (cL (namesF 8 ns x.left) x.right) x.last
def Hr (x:aD):Prop:=ny 8 x.left∧(∀r,x.right=some r→ny 8 r)∧(∀z,x.last=some z→ny 8 z)
theorem pS {ns:List (List UInt8)} {t:Option Tm} (h:∀r,t=some r→ny 8 r):∃M,cL ns t=ns++M∧M.length≤3 ^ 8:=by
 cases t with
 | none=>exact⟨[],by simp[cL],by simp⟩
 | some r=>exact namesF_ext 8 r (h r rfl) ns
theorem xe (x:aD) (h:Hr x) (ns:List (List UInt8)):∃M,aL ns x=ns++M∧M.length≤20000:=by
 obtain⟨M1,h1,l1⟩:=namesF_ext 8 x.left h.1 ns
 obtain⟨M2,h2,l2⟩:=pS (ns:=namesF 8 ns x.left) (t:=x.right) h.2.1
 obtain⟨M3,h3,l3⟩:=pS (ns:=cL (namesF 8 ns x.left) x.right) (t:=x.last) h.2.2
 refine⟨M1++(M2++M3),by unfold aL;rw[h3,h2,h1];simp,?_⟩
 simp at l1 l2 l3⊢
 omega
end Zf
namespace Go.Proofs.YthfjnfcekeknlabGreatDoor
open Go.RowKit
abbrev TV:=AV
theorem TA.box {f:Nat} {ns ns':List ByteArray} {w W w1:World} {val:Int} {tx:ByteArray} {ao:Option Addr} {cap:Nat} {t:Zf.Tm} (h:TA f ns ns' W w1 val tx ao cap t) (hW:w.heap.size<W.heap.size) (v0 v1 v2 v3:Value):
 TA f ns ns' w ((((w1.setCell ⟨w.heap.size,0,none⟩ v0).setCell ⟨w.heap.size,1,none⟩ v1).setCell ⟨w.heap.size,2,none⟩ v2).setCell ⟨w.heap.size,3,none⟩ v3) val tx ao cap t:=by
 refine⟨?_,h.nms⟩
 have r:=h.rep.imp (Q:=fun g=>w.heap.size<g) fun g hg _=>by omega
 exact((((r.set (fun g hg=>by omega) 0 v0).set (fun g hg=>by omega) 1 v1).set (fun g hg=>by omega) 2 v2).set (fun g hg=>by omega) 3 v3).imp fun g hg _=>by omega
def anyA:Nat→Prop:=fun _=>True
structure Hs (ns ns':List ByteArray) (w':World) (b c:TV) (sg op:ByteArray) (x:Zf.aD):Prop where
 sign:sg.toList=x.sign
 right:∀r,x.right=some r→RA 8 (aR ns') anyA w' b r
 op:op.toList=x.op
 last:∀z,x.last=some z→RA 8 (aR ns') anyA w' c z
 nms:aR ns'=Zf.cL (Zf.cL (aR ns) x.right) x.last
theorem aK.ra {w w':World} (h:aK w w') {f:Nat} {N:List (List UInt8)} {P:Nat→Prop} {a:AV} {t:Zf.Tm} (q:RA f N P w a t):RA f N anyA w' a t:=q.keep fun g cs _ hc hi=>⟨h g cs hc hi,trivial⟩
theorem aK.refl (w:World):aK w w:=fun _ _ h _=>h
theorem aK.alloc (w:World) (o:Obj):aK w (w.alloc o):=aK.below ((Below.refl _ _).alloc (Nat.le_refl _) o)
theorem aK.only {w w':World} {b:Nat} (ho:aB b w w') (ht:aM w b≠some 74):aK w w':=fun g cs hc _=>(ho.block g (fun q=>by subst q;exact ht (by unfold aM;rw[hc]))).trans hc
def np (rb:Nat) (s:ByteArray) (a0:TV) (left:Zf.Tm) (ns:List ByteArray) (r:Zf.dP Zf.aD) (w:World) (e:Ending) (w':World):Prop:=match r with
 | .inl (er,pos)=>∃(a b c:TV) (sg op:ByteArray) (l':List Zf.Tok) (ns':List ByteArray) (nv':Value),
  e= .returned (.tuple #[.agg #[.int .i64 a.k,.int .i64 a.val,.string a.tx,.slice a.ao a.n a.cap,.string sg,.int .i64 b.k,.int .i64 b.val,.string b.tx,.slice b.ao b.n b.cap,.string op,.int .i64 c.k,.int .i64 c.val,.string c.tx,.slice c.ao c.n c.cap],.bool false])∧St w' rb s l' ns' nv' (er:Int)∧(Zf.hd l').pos=pos∧KA rb [rb] w w'
 | .inr (x,l1)=>∃(a b c:TV) (sg op:ByteArray) (ns':List ByteArray) (nv':Value) (e':Int),
  e= .returned (.tuple #[.agg #[.int .i64 a.k,.int .i64 a.val,.string a.tx,.slice a.ao a.n a.cap,.string sg,.int .i64 b.k,.int .i64 b.val,.string b.tx,.slice b.ao b.n b.cap,.string op,.int .i64 c.k,.int .i64 c.val,.string c.tx,.slice c.ao c.n c.cap],.bool true])∧(a=a0∧x.left=left∧Hs ns ns' w' b c sg op x)∧St w' rb s l1 ns' nv' e'∧KA rb [rb] w w'
theorem bW {w w1 w2:World} {rb:Nat} {s:ByteArray} {l:List Zf.Tok} {ns:List ByteArray} {nv:Value} {e:Int} {b:Nat} {cs:Array Value} {T:TypeId} (h:St w1 rb s l ns nv e) (hk:KA rb [rb] w w1) (hlt:rb<w.heap.size) (hb:w.heap.size≤b) (hc:w1.heap[b]?=some (.cells cs T (0,0))) (ho:aB b w1 w2) (hT:T≠9:=by decide):
 St w2 rb s l ns nv e∧KA rb [rb] w w2:=
 ⟨h.only ho (by omega) (by omega) (by unfold aM;rw[hc];simpa using hT),hk.eG ho hb⟩
theorem zi {w w1 w2:World} {rb:Nat} {s:ByteArray} {l:List Zf.Tok} {ns:List ByteArray} {nv:Value} {e:Int} {b:Nat} {cs:Array Value} {T:TypeId} (h:St w1 rb s l ns nv e) (hk:KA rb [rb] w w1) (hlt:rb<w.heap.size) (hb:w.heap.size≤b) (hc:w1.heap[b]?=some (.cells cs T (0,0))) (ho:aB b w1 w2) (hT:T≠9:=by decide) (hT':T≠74:=by decide):
 (St w2 rb s l ns nv e∧KA rb [rb] w w2)∧aK w1 w2:=
 ⟨bW h hk hlt hb hc ho hT,aK.only ho (by unfold aM;rw[hc];simpa using hT')⟩
theorem jn (w:World) (rb:Nat) (s:ByteArray) (l:List Zf.Tok) (ns:List ByteArray) (nv:Value) (e0:Int) (h:St w rb s l ns nv e0):
 Calls Tryz.prog 153 #[.pointer (some ⟨rb,0,none⟩)] w fun e w'=>pQ 8 rb s ns (Zf.operand l) w e w':=by
 have hb2:Below w.heap.size w (w.alloc boxR):=(Below.refl _ _).alloc (Nat.le_refl _) _
 have H2:=hide (h.below hb2)
 have hlt:=h.lt
 have hK0:=hide ((KA.refl rb [rb] w).alloc boxR)
 have hB0:=hide (OP w #[.int .i64 0,.int .i64 0,.string ⟨#[]⟩,.slice none 0 0] 74)
 have I:=hide (fun W (hW:St W rb s l ns nv e0)=>term_all 8 W rb s l ns nv e0 1 rfl hW)
 unfold boxR at H2 hK0
 obtain⟨⟨c0,c1,c2,c3,c4,c5,f1,f2,f3,f4,f5⟩,own,chain,isn,few,short,signs,pos,lt⟩:=h
 clear own chain isn few short signs hb2 c0 c2 c3 c4 c5 f1 f2 f3 f4 f5
 by_cases hk:(Zf.hd l).kind=2
 ·have HO:=hide (show Zf.operand l=Zf.bad 2 l by unfold Zf.operand;rw[if_pos hk])
  rw[ae HO]
  have hk':(((Zf.hd l).kind:Int) == 2)=true:=by simp;omega
  clear hk HO
  go_enter Tryz.func153,Tryz.ntmps153
  go_wp2_with fail
  refine(cg _ rb s l ns nv e0 2 (ae H2)).mono ?_
  rintro e w1 ⟨rfl,hs,hk⟩
  have HS:=hide hs
  have HK:=hide ((ae hK0).trans hk)
  have hB:=aj hk (ae hB0) (by simp;omega)
  clear hs hk
  have r0:=nP (hB) 0 rfl
  have r1:=nP (hB) 1 rfl
  have r2:=nP (hB) 2 rfl
  have r3:=nP (hB) 3 rfl
  have x0:=mS (hB) 0
  have x1:=mS (hB) 1
  have x2:=mS (hB) 2
  have x3:=mS (hB) 3
  have HB:=hide hB
  clear hB
  go_wp2_with fail
  have R:=bW (ae HS) (ae HK) hlt (Nat.le_refl _) (ae HB) (((((aB.refl _ _).set 0 (.int .i64 0)).set 1 (.int .i64 0)).set 2 (.string ⟨#[]⟩)).set 3 (.slice none 0 0))
  refine bodyPost_ret (v:= .tuple #[.agg #[.int .i64 0,.int .i64 0,.string ⟨#[]⟩,.slice none 0 0],.bool false]) (by simp[results,Tryz.results153,go_sem,r0,r1,r2,r3]) rfl ?_
  exact⟨_,_,_,_,_,_,l,ns,nv,rfl,R.1,rfl,R.2⟩
 ·have HO:=hide (show Zf.operand l=Zf.term 8 l by unfold Zf.operand;rw[if_neg hk])
  rw[ae HO]
  generalize Zf.term 8 l=r at I⊢
  have hk':(((Zf.hd l).kind:Int) == 2)=false:=by simp;omega
  clear hk HO
  rcases r with⟨er,pos⟩ | ⟨t,l2⟩
  ·go_enter Tryz.func153,Tryz.ntmps153
   go_wp2_with fail
   refine(ae I _ (ae H2)).mono ?_
   rintro e w1 ⟨k,val,tx,ao,n,cap,l',ns',nv',rfl,hs,hpos,hk⟩
   have HS:=hide hs
   have HP:=hide hpos
   have HK:=hide ((ae hK0).trans hk)
   have hB:=aj hk (ae hB0) (by simp;omega)
   clear hs hk hpos
   have r0:=nP (hB) 0 rfl
   have r1:=nP (hB) 1 rfl
   have r2:=nP (hB) 2 rfl
   have r3:=nP (hB) 3 rfl
   have x0:=mS (hB) 0
   have x1:=mS (hB) 1
   have x2:=mS (hB) 2
   have x3:=mS (hB) 3
   have HB:=hide hB
   clear hB
   go_wp2_with fail
   have R:=bW (ae HS) (ae HK) hlt (Nat.le_refl _) (ae HB) (((((aB.refl _ _).set 0 (.int .i64 k)).set 1 (.int .i64 val)).set 2 (.string tx)).set 3 (.slice ao n cap))
   refine bodyPost_ret (v:= .tuple #[.agg #[.int .i64 k,.int .i64 val,.string tx,.slice ao n cap],.bool false]) (by simp[results,Tryz.results153,go_sem,r0,r1,r2,r3]) rfl ?_
   exact⟨_,_,_,_,_,_,l',ns',nv',rfl,R.1,ae HP,R.2⟩
  ·go_enter Tryz.func153,Tryz.ntmps153
   go_wp2_with fail
   refine(ae I _ (ae H2)).mono ?_
   rintro e w1 ⟨val,tx,ao,cap,ns',nv',e',rfl,htx,hs,hk⟩
   have HS:=hide hs
   have HP:=hide htx
   have HK:=hide ((ae hK0).trans hk)
   have hB:=aj hk (ae hB0) (by simp;omega)
   clear hs hk htx
   have r0:=nP (hB) 0 rfl
   have r1:=nP (hB) 1 rfl
   have r2:=nP (hB) 2 rfl
   have r3:=nP (hB) 3 rfl
   have x0:=mS (hB) 0
   have x1:=mS (hB) 1
   have x2:=mS (hB) 2
   have x3:=mS (hB) 3
   have HB:=hide hB
   clear hB
   go_wp2_with fail
   have R:=bW (ae HS) (ae HK) hlt (Nat.le_refl _) (ae HB) (((((aB.refl _ _).set 0 (.int .i64 (ak t.kind))).set 1 (.int .i64 val)).set 2 (.string tx)).set 3 (.slice ao t.args.length cap))
   refine bodyPost_ret (v:= .tuple #[.agg #[.int .i64 (ak t.kind),.int .i64 val,.string tx,.slice ao t.args.length cap],.bool true]) (by simp[results,Tryz.results153,go_sem,r0,r1,r2,r3]) rfl ?_
   exact⟨_,_,_,_,ns',nv',e',rfl,(ae HP).box (by simp) _ _ _ _,R.1,R.2⟩
end Go.Proofs.YthfjnfcekeknlabGreatDoor
