import Derived.Test.YthfjnfcekeknlabGreatDoorPx02
set_option maxHeartbeats 8000000
set_option maxRecDepth 100000
set_option linter.unusedSimpArgs false
namespace Go.Proofs.YthfjnfcekeknlabGreatDoor
open Go.RowKit af
variable {d f b rb b0 sz i:Nat} {t:bX} {x:List UInt8} {g s:ByteArray} {N:List (List UInt8)} {w w' u w1 W:World} {P Q:Nat->Prop} {v nv av nv':Value} {e e0:Int} {l l':List bX} {T:TypeId} {xs:List Value} {o:Obj} {X:List Nat}
theorem f' (w:World) (rb:Nat) (s:ByteArray) (l:List bX) (ns:List ByteArray) (nv:Value) (e0:Int) (h:St w rb s l ns nv e0) (h0:(af.hd l).kind≠0):
 Calls Tryz.prog 63 #[.pointer (some ⟨rb,0,none⟩)] w fun e w'=>e= .returned (.tuple #[])/\St w' rb s l.tail ns nv e0/\KA rb [rb] w w':=by
 have HS:=ah h;obtain⟨⟨c0,c1,c2,c3,c4,c5,f1,f2,f3,f4,f5⟩,own,chain,⟨p,isn⟩,few,short,signs,pos,lt⟩:=h;have hfit:(af.hd l).pos+(af.hd l).text.size<=s.size:=by rw[isn];exact qq
 have hmx:s.size<=maxLen:=by unfold maxLen;omega
 have hz:0<w.heap.size:=by omega
 have hC:=ah chain;have HG:=ah signs;have hw:IntKind.i64.wrap (((af.hd l).pos:Int)+((af.hd l).text.size:Int))=((af.hd l).pos:Int)+((af.hd l).text.size:Int):=by rw[IntWalk.i64_in _ ⟨by omega,by omega⟩]
 have HP:=ah (show ((af.hd l).pos:Int)+((af.hd l).text.size:Int)=(((af.hd l).pos+(af.hd l).text.size:Nat):Int)by omega)
 clear chain own isn few signs;go_enter Tryz.func63,Tryz.ntmps63;go_wp2;go_region_with (go_at_call 30;rw[ae HP];refine(o9 s ((af.hd l).pos+(af.hd l).text.size) _ hmx hfit ((ae HG).draws 1) hz).mono ?_;rintro e w1 ⟨rfl,hb⟩;obtain⟨d0,d1,d2,d3,d4,d5,g1,g2,g3,g4,g5⟩:=(ae HS).rd.below (Below.trans Qx.drew hb) lt)
 all_goals
  go_wp2;go_end0;exact⟨rfl,Gt (ae HS) h0 (Below.trans Qx.drew hb)⟩
theorem eH (w:World) (rb:Nat) (s:ByteArray) (l:List bX) (ns:List ByteArray) (nv:Value) (e0:Int) (f:Bool) (h:St w rb s l ns nv e0) (h0:f=true->(af.hd l).kind≠0):
 Calls Tryz.prog 65 #[.pointer (some ⟨rb,0,none⟩),.bool f] w fun e w'=>e= .returned (.bool f)/\St w' rb s (if f then l.tail else l) ns nv (if f then e0 else 2)/\KA rb [rb] w w':=by
 have H:=ah h;clear h;cases f
 ·go_enter Tryz.func65,Tryz.ntmps65;go_wp2_with (go_at_call 68;refine(dr _ _ _ _ _ _ _ 2 (ae H)).mono ?_;rintro e w1 ⟨rfl,hs,hk⟩;have HS:=ah hs;have HK:=ah hk;clear hs hk);go_ret;exact⟨rfl,ae HS,ae HK⟩
 ·have h0':=ah (h0 rfl);clear h0;go_enter Tryz.func65,Tryz.ntmps65;go_wp2_with (go_at_call 63;refine(f' _ _ _ _ _ _ _ (ae H) (ae h0')).mono ?_;rintro e w1 ⟨rfl,hs,hk⟩;have HS:=ah hs;have HK:=ah hk;clear hs hk);go_ret;exact⟨rfl,ae HS,ae HK⟩
theorem vJ (w:World) (rb:Nat) (s:ByteArray) (l:List bX) (ns:List ByteArray) (nv:Value) (e0:Int) (c m:Nat) (h:St w rb s l ns nv e0) (h0:(af.hd l).kind≠0):
 Calls Tryz.prog 67 #[.pointer (some ⟨rb,0,none⟩),.int .i64 (c:Int),.int .i64 (m:Int)] w fun e w'=>e= .returned (.bool (decide (c<m)))/\St w' rb s (if c<m then l.tail else l) ns nv (if c<m then e0 else 3)/\KA rb [rb] w w':=by
 have H:=ah h;have h0':=ah h0;clear h h0;by_cases hc:c<m
 ·rw[aH hc,aH hc];go_enter Tryz.func67,Tryz.ntmps67;go_wp2_with (go_at_call 63;refine(f' _ _ _ _ _ _ _ (ae H) (ae h0')).mono ?_;rintro e w1 ⟨rfl,hs,hk⟩;have HS:=ah hs;have HK:=ah hk;clear hs hk);go_ret;exact⟨dX (by simp[hc]),ae HS,ae HK⟩
 ·rw[aG hc,aG hc];go_enter Tryz.func67,Tryz.ntmps67;go_wp2_with (go_at_call 68;refine(dr _ _ _ _ _ _ _ 3 (ae H)).mono ?_;rintro e w1 ⟨rfl,hs,hk⟩;have HS:=ah hs;have HK:=ah hk;clear hs hk);go_ret;exact⟨dX (by simp;omega),ae HS,ae HK⟩
def iC (d:Nat) (t:bX):Nat:=if ez t=true then(if t.kind=4/\6<t.text.size\/8<d then 3 else 0)else 2
theorem Hy (h:¬(t.kind=2\/t.kind=3\/t.kind=4)):iC d t=2:=by unfold iC ez;rw[aG];simp;omega
theorem CF (h:t.kind=2\/t.kind=3\/t.kind=4) (b:t.kind=4/\6<t.text.size\/8<d):iC d t=3:=by unfold iC ez;rw[aH,aH b];simp;omega
theorem Fe (h:t.kind=2\/t.kind=3\/t.kind=4) (b:¬(t.kind=4/\6<t.text.size\/8<d)):iC d t=0:=by unfold iC ez;rw[aH,aG b];simp;omega
theorem Hx (w:World) (rb:Nat) (s:ByteArray) (l:List bX) (ns:List ByteArray) (nv:Value) (e0:Int) (d k z:Nat) (h:St w rb s l ns nv e0) (hkk:(af.hd l).kind=k) (hzz:(af.hd l).text.size=z) (hz:z<=240) (m:Nat) (hm:(m=2/\¬(k=2\/k=3\/k=4))\/(m=3/\(k=2\/k=3\/k=4)/\(k=4/\6<z\/8<d))):
 Calls Tryz.prog 107 #[.pointer (some ⟨rb,0,none⟩),.int .i64 (d:Int)] w fun e w'=>e= .returned (.bool false)/\St w' rb s l ns nv (m:Int)/\KA rb [rb] w w':=by
 have H:=ah h;obtain⟨⟨c0,c1,c2,c3,c4,c5,f1,f2,f3,f4,f5⟩,own,chain,isn,few,short,signs,pos,lt⟩:=h;clear own chain isn few short signs pos lt c0 c2 c4 c5 f1 f2 f3 f4 f5;rw[hkk]at c1;generalize (af.hd l).text=tx at c3 hzz;clear hkk;subst hzz;rcases hm with⟨rfl,hn⟩ | ⟨rfl,hk,hb⟩
 ·have n2:((k:Int) != 2)=true:=by simp;omega
  have n3:((k:Int) != 3)=true:=by simp;omega
  have n4:((k:Int) != 4)=true:=by simp;omega
  clear hn;go_enter Tryz.func107,Tryz.ntmps107;go_wp2_with (go_at_call 68;refine(dr _ _ _ _ _ _ _ 2 (ae H)).mono ?_;rintro e w1 ⟨rfl,hs,hk⟩;have HS:=ah hs;have HK:=ah hk;clear hs hk);go_ret;exact⟨rfl,ae HS,ae HK⟩
 ·rcases hk with rfl | rfl | rfl
  ·have hd8:8<d:=by omega
   clear hb;go_enter Tryz.func107,Tryz.ntmps107;go_wp2_with (go_at_call 68;refine(dr _ _ _ _ _ _ _ 3 (ae H)).mono ?_;rintro e w1 ⟨rfl,hs,hk⟩;have HS:=ah hs;have HK:=ah hk;clear hs hk);go_ret;exact⟨rfl,ae HS,ae HK⟩
  ·have hd8:8<d:=by omega
   clear hb;go_enter Tryz.func107,Tryz.ntmps107;go_wp2_with (go_at_call 68;refine(dr _ _ _ _ _ _ _ 3 (ae H)).mono ?_;rintro e w1 ⟨rfl,hs,hk⟩;have HS:=ah hs;have HK:=ah hk;clear hs hk);go_ret;exact⟨rfl,ae HS,ae HK⟩
  ·by_cases h6:6<tx.size
   ·clear hb;go_enter Tryz.func107,Tryz.ntmps107;go_wp2_with (go_at_call 68;refine(dr _ _ _ _ _ _ _ 3 (ae H)).mono ?_;rintro e w1 ⟨rfl,hs,hk⟩;have HS:=ah hs;have HK:=ah hk;clear hs hk);go_ret;exact⟨rfl,ae HS,ae HK⟩
   ·have hd8:8<d:=by omega
    clear hb;go_enter Tryz.func107,Tryz.ntmps107;go_wp2_with (go_at_call 68;refine(dr _ _ _ _ _ _ _ 3 (ae H)).mono ?_;rintro e w1 ⟨rfl,hs,hk⟩;have HS:=ah hs;have HK:=ah hk;clear hs hk);go_ret;exact⟨rfl,ae HS,ae HK⟩
theorem Lj (w:World) (rb:Nat) (s:ByteArray) (l:List bX) (ns:List ByteArray) (nv:Value) (e0:Int) (d k z:Nat) (h:St w rb s l ns nv e0) (hkk:(af.hd l).kind=k) (hzz:(af.hd l).text.size=z) (hz:z<=240) (hk:k=2\/k=3\/k=4) (hn:¬(k=4/\6<z\/8<d)):
 Calls Tryz.prog 107 #[.pointer (some ⟨rb,0,none⟩),.int .i64 (d:Int)] w fun e w'=>e= .returned (.bool true)/\w'=w:=by
 obtain⟨⟨c0,c1,c2,c3,c4,c5,f1,f2,f3,f4,f5⟩,own,chain,isn,few,short,signs,pos,lt⟩:=h;clear own chain isn few short signs pos lt c0 c2 c4 c5 f1 f2 f3 f4 f5;rw[hkk]at c1;generalize (af.hd l).text=tx at c3 hzz;clear hkk;subst hzz;have hd8:d<=8:=by omega
 rcases hk with rfl | rfl | rfl
 ·clear hn;go_enter Tryz.func107,Tryz.ntmps107;go_wp2_with fail;go_ret;exact⟨rfl,rfl⟩
 ·clear hn;go_enter Tryz.func107,Tryz.ntmps107;go_wp2_with fail;go_ret;exact⟨rfl,rfl⟩
 ·have h6:tx.size<=6:=by omega
  clear hn;go_enter Tryz.func107,Tryz.ntmps107;go_wp2_with fail;go_ret;exact⟨rfl,rfl⟩
theorem i8 (w:World) (rb:Nat) (s:ByteArray) (l:List bX) (ns:List ByteArray) (nv:Value) (e0:Int) (d:Nat) (h:St w rb s l ns nv e0):
 Calls Tryz.prog 107 #[.pointer (some ⟨rb,0,none⟩),.int .i64 (d:Int)] w fun e w'=>e= .returned (.bool (iC d (af.hd l) == 0))/\St w' rb s l ns nv (if iC d (af.hd l)=0 then e0 else(iC d (af.hd l):Int))/\KA rb [rb] w w':=by
 have hz:(af.hd l).text.size<=240:=by obtain⟨p,e⟩:=h.CN;have h1:=h.short;have h2:=@qq s p;rw[e];omega
 by_cases hk:(af.hd l).kind=2\/(af.hd l).kind=3\/(af.hd l).kind=4
 ·by_cases hb:(af.hd l).kind=4/\6<(af.hd l).text.size\/8<d
  ·rw[CF hk hb];exact Hx w rb s l ns nv e0 d _ _ h rfl rfl hz 3 (aw ⟨rfl,hk,hb⟩)
  ·rw[Fe hk hb];refine(Lj w rb s l ns nv e0 d _ _ h rfl rfl hz hk hb).mono ?_;rintro e w' ⟨rfl,rfl⟩;exact⟨rfl,h,KA.refl _ _ _⟩
 ·rw[Hy hk];exact Hx w rb s l ns nv e0 d _ _ h rfl rfl hz 2 (ay ⟨rfl,hk⟩)
def dj (ns:List ByteArray):List (List UInt8):=ns.map fun b=>b.toList
theorem Lb {ns:List ByteArray} {k:Nat} (h:k<ns.length) (he:ns[k].toList=x) (hno:∀j (hj:j<ns.length),j<k->ns[j].toList≠x):(dj ns).idxOf x=k:=by
 unfold dj;induction ns generalizing k with
 | nil=>simp at h
 | cons u us ih=>
  rw[aY];cases k with
  | zero=>rw[gM];simp at he;simp[he]
  | succ k=>have h0:u.toList≠x:=hno 0 (by simp) (by omega);rw[gM];simp only[JZ,h0,cond_eq_ite,if_false];have:=ih (k:=k) (by simpa using h) (by simpa using he) (fun j hj q=>by have:=hno (j+1) (by simpa using hj) (by omega);simpa using this);rw[this]
theorem Nj {ns:List ByteArray} {k:Nat} (h:k<ns.length) (he:ns[k].toList=x):jf (dj ns) x=dj ns:=by unfold jf;rw[aH];subst he;exact bu.2 ⟨ns[k],by simp,rfl⟩
theorem K7 {ns:List ByteArray} (hno:∀j (hj:j<ns.length),ns[j].toList≠x):x∉dj ns:=by intro q;obtain⟨u,hu,rfl⟩:=bu.1 q;obtain⟨i,hi,rfl⟩:=bG hu;exact hno i hi rfl
theorem La {ns:List ByteArray} (h:g.toList∉dj ns):dj (ns++[g])=jf (dj ns) g.toList/\(dj ns).idxOf g.toList=ns.length:=by unfold jf;rw[aG h,lW h];simp[dj]
structure AV where
 k:Int
 val:Int
 tx:ByteArray
 ao:Option Addr
 n:Nat
 cap:Nat
def oq (a:AV):List Value:=[.int .i64 a.k,.int .i64 a.val,.string a.tx,.slice a.ao a.n a.cap]
def ak (k:Nat):Int:=if k=3 then 1 else if k=4 then 2 else 3
def nt (N:List (List UInt8)) (a:AV) (t:Tm):Prop:=a.k=ak t.kind/\a.n=t.args.length/\(t.kind=3->t.text.toList∈N/\a.val=(N.idxOf t.text.toList:Int))/\(t.kind=4->a.val=(numOf t.text:Int)/\t.text.size<=6/\a.tx=⟨#[]⟩)/\(t.kind=2->a.tx=t.text)/\(t.kind=2\/t.kind=3\/t.kind=4)/\t.text.size<=240/\t.args.length<=3
def RA:Nat->List (List UInt8)->(Nat->Prop)->World->AV->Tm->Prop
 | 0,_,_,_,_,_=>False
 | f+1,N,P,w,a,t=>nt N a t/\(t.args≠[]->∃(g:Nat) (us:List AV) (cs:Array Value),a.ao=some ⟨g,0,none⟩/\P g/\w.heap[g]?=some (.cells cs 74 (0,0))/\cs.toList.take (us.length*4)=us.flatMap oq/\eO (RA f N P w) us t.args)
theorem RA.keep {N:List (List UInt8)} {P Q:Nat->Prop} {w w':World} (hk:∀(g:Nat) (cs:Array Value),P g->w.heap[g]?=some (.cells cs 74 (0,0))->(∃k r,cs.toList= .int .i64 k :: r)->w'.heap[g]?=some (.cells cs 74 (0,0))/\Q g):∀{f:Nat} {a:AV} {t:Tm},RA f N P w a t->RA f N Q w' a t
 | f+1,_,_,⟨h,q⟩=>⟨h,fun n=>by
  obtain⟨g,us,cs,h1,h2,h3,h4,h5⟩:=q n;have hi:∃k r,cs.toList= .int .i64 k :: r:=by
   cases us with
   | nil=>have:=h5.length;simp at this;exact absurd (ch.1 this.symm) n
   | cons u us=>
    cases hc:cs.toList with
    | nil=>rw[hc]at h4;simp[oq]at h4
    | cons c r=>rw[hc]at h4;simp only[aT,d9,j9,bM,oq,dN,cu]at h4;injection h4 with h4 _;exact⟨_,r,by rw[h4]⟩
  obtain⟨r1,r2⟩:=hk g cs h2 h3 hi;exact⟨g,us,cs,h1,r2,r1,h4,h5.imp fun _ _=>RA.keep hk⟩⟩
theorem RA.imp {a:AV} {t:Tm} (h:RA f N P w a t) (hk:∀g,P g->g<w.heap.size->Q g):RA f N Q w a t:=
 h.keep fun g _ hp hg _=>⟨hg,hk g hp (bd.1 hg).1⟩
theorem RA.set {a:AV} {t:Tm} (h:RA f N P w a t) (hP:∀g,P g->g≠b) (o:Nat) (v:Value):RA f N P (w.setCell ⟨b,o,none⟩ v) a t:=
 h.keep fun g _ hp hg _=>⟨(eY _ _ _ _ (fun e=>hP g hp e)).trans hg,hp⟩
theorem nt.more {a:AV} {t:Tm} (h:nt N a t) (M:List (List UInt8)):nt (N++M) a t:=
 ⟨h.1,h.2.1,fun k=>⟨bO _ (h.2.2.1 k).1,by rw[(h.2.2.1 k).2,dA,aH (h.2.2.1 k).1]⟩,h.2.2.2⟩
theorem RA.more {P:Nat->Prop} {w:World} {N:List (List UInt8)} (M:List (List UInt8)):∀{f:Nat} {a:AV} {t:Tm},RA f N P w a t->RA f (N++M) P w a t
 | f+1,_,_,⟨h,q⟩=>⟨h.more M,fun n=>by obtain⟨g,us,cs,h1,h2,h3,h4,h5⟩:=q n;exact⟨g,us,cs,h1,h2,h3,h4,h5.imp fun _ _=>RA.more M⟩⟩
theorem RA.AL {P:Nat->Prop} {w:World} {N:List (List UInt8)}:∀{f:Nat} {a:AV} {t:Tm},RA f N P w a t->af.AL f t
 | f+1,a,t,⟨h,q⟩=>by
  obtain⟨h1,h2,h3,h4,h5,h6,h7,h8⟩:=h;refine⟨h7,h8,fun k=>(h4 k).2.1,?_⟩;intro u hu;obtain⟨g,us,cs,_,_,_,_,ha⟩:=q (fun e=>by rw[e]at hu;cases hu);have:∀(us:List AV) (ts:List Tm),eO (RA f N P w) us ts->∀u∈ts,af.AL f u:=by
   intro us;induction us with
   | nil=>intro ts ha u hu;cases ts with
    | nil=>cases hu
    | cons t ts=>exact ha.elim
   | cons v us ih=>intro ts ha u hu;cases ts with
    | nil=>cases hu
    | cons t ts=>
     rcases bh.1 hu with rfl | hu
     ·exact RA.AL ha.1
     ·exact ih ts ha.2 u hu
  exact this us t.args ha u hu
structure TA (f:Nat) (ns ns':List ByteArray) (w w':World) (val:Int) (tx:ByteArray) (ao:Option Addr) (cap:Nat) (t:Tm):Prop where
 rep:RA f (dj ns') (fun g=>w.heap.size<=g) w' ⟨ak t.kind,val,tx,ao,t.args.length,cap⟩ t
 uv:dj ns'=aP f (dj ns) t
theorem RA.leaf {a:AV} {t:Tm} (h:RA f N P w a t):nt N a t:=by
 cases f with
 | zero=>exact h.elim
 | succ f=>exact h.1
theorem TA.txt {ns ns':List ByteArray} {val:Int} {tx:ByteArray} {ao:Option Addr} {cap:Nat} {t:Tm} (h:TA f ns ns' w w' val tx ao cap t):t.kind=2->tx=t.text:=h.rep.leaf.2.2.2.2.1
theorem RA.one {a:AV} {t:Tm} (h:nt N a t) (h0:t.args=[]):RA (f+1) N P w a t:=⟨h,fun q=>absurd h0 q⟩
structure AA (f:Nat) (ns ns':List ByteArray) (w w':World) (ao:Option Addr) (ts:List Tm):Prop where
 rows:ts≠[]->∃(g:Nat) (us:List AV) (cs:Array Value),ao=some ⟨g,0,none⟩/\w.heap.size<=g/\w'.heap[g]?=some (.cells cs 74 (0,0))/\cs.toList.take (us.length*4)=us.flatMap oq/\eO (RA f (dj ns') (fun g=>w.heap.size<=g) w') us ts
 uv:dj ns'=ts.foldl (aP f) (dj ns)
 few:ts.length<=3
def b9 (w w':World):Prop:=∀(g:Nat) (cs:Array Value),w.heap[g]?=some (.cells cs 74 (0,0))->(∃k r,cs.toList= .int .i64 k :: r)->w'.heap[g]?=some (.cells cs 74 (0,0))
theorem b9.trans {v:World} (h:b9 u v) (k:b9 v w):b9 u w:=fun g cs a b=>k g cs (h g cs a b) b
theorem b9.below (h:Below w.heap.size w w'):b9 w w':=fun g _ a _=>(h.block g (bd.1 a).1).trans a
theorem b9.ka {ns:List ByteArray} (hs:St w rb s l ns nv e) (hk:KA rb [rb] w w'):b9 w w':=fun g cs hg hi=>(hk.block g (bd.1 hg).1 (fun q=>by
 obtain rfl:g=rb:=by simpa using q
 obtain⟨k,r,hc⟩:=hi;have:=hs.rd.c0;simp[World.cell?,hg]at this;rw[<-ci,hc]at this;simp at this) (aw (by unfold dg;rw[hg];simp))).trans hg
theorem b9.grown {n:Nat} (ho:w.ownsRow b0 T sz av n xs) (hg:w.grownBy w' av.ownBlock) (hT:T≠74:=by decide):b9 w w':=fun g cs hc _=>(hg.block g (bd.1 hc).1 (fun q=>by
 rcases ho.2 with⟨rfl,_⟩ | ⟨g',cap,cur,rfl,_,c,_⟩
 ·simp[Value.ownBlock]at q
 ·simp[Value.ownBlock]at q;subst q;rw[c]at hc;simp at hc;exact hT hc.2)).trans hc
theorem Tryz.OD:(Tryz.prog.info? 9).map (fun i=>(i.zero,i.size,i.bytes))=some (some (.string ⟨#[]⟩),1,16):=by kernel_rfl
theorem xW (g:ByteArray) (w:World) (hg:g.size<=6):Calls Tryz.prog 109 #[.string g] w fun e w'=>e= .returned (.int .i64 (numOf g:Int))/\w'=w:=by
 go_enter Tryz.func109,Tryz.ntmps109;go_wp2;go_loop [3,4] (fun v i=>∃(k:Nat),k<=g.size/\i= .int .i64 k/\v= .int .i64 (oG (g.toList.take k):Int)) (fun _ i=>g.size - (intOf i).toNat)
 case atStart=>exact⟨0,by omega,rfl,rfl⟩
 case round=>
  obtain⟨k,hk,rfl,rfl⟩:=hrel;by_cases hlt:k<g.size
  ·go_wp2;go_round
   case rel=>refine⟨k+1,by omega,by go_num,?_⟩;rw[Ho hlt];have hb:=DR (g.toList.take k) (by simp;omega);generalize oG (g.toList.take k)=v at*;have hc:g[k].toNat<256:=g[k].toNat_lt;generalize g[k].toNat=c at*;congr 1;unfold wrap64;omega
   case measure=>simp[intOf];omega
  ·go_wp2;go_ret;obtain rfl:k=g.size:=by omega
   exact⟨by rw[K5];rfl,rfl⟩
theorem sQ {ns:List ByteArray} (h:St w rb s l ns nv e0) (hg:(w.alloc o).grownBy w1 nv.ownBlock):
 w1.cell? ⟨rb,4,none⟩=some nv/\w1.frozen? ⟨rb,4,none⟩=false:=by
 have hne:some rb≠nv.ownBlock:=fun e=>by have:=(h.own.lt rb e.symm).1;omega
 have hb:=hg.block rb (by simp;have:=h.lt;omega) hne;exact⟨by rw[dC (a:=⟨rb,4,none⟩) hb,aC _ _ _ h.lt];exact h.rd.c4,by rw[gm (a:=⟨rb,4,none⟩) hb,World.frozen?_alloc_past _ _ _ h.lt];exact h.rd.f4⟩
theorem fR {e:TypeId} {n:Nat} (h:w.ownsRow b e sz v (n+1) xs):∃g cap,v= .slice (some ⟨g,0,none⟩) (n+1) cap/\cap<=maxLen:=by
 rcases h.2 with⟨_,q⟩ | ⟨g,cap,cur,q,_,_,_,m,_⟩
 ·omega
 ·exact⟨g,cap,q,m⟩
theorem vq {ns:List ByteArray} (h:St w rb s l ns nv e0) (few:ns.length+l.length<1000) (hown:w1.ownsRow (rb+1) 9 1 nv' (ns.length+1) (ns.map Value.string++[.string g])) (hg:(w.alloc o).grownBy w1 nv.ownBlock):
 St (w1.setCell ⟨rb,4,none⟩ nv') rb s l (ns++[g]) nv' e0/\KA rb [rb] w (w1.setCell ⟨rb,4,none⟩ nv'):=by
 have hka:KA rb [rb] w w1:=((KA.refl rb [rb] w).alloc o).grown hg (fun k hk=>by
  have h1:=h.own.lt k hk;rcases h.own.2 with⟨rfl,_⟩ | ⟨q,cap,cur,rfl,hb,hq,_⟩
  ·simp[Value.ownBlock]at hk
  ·simp[Value.ownBlock]at hk;subst hk;refine aw (aw ⟨by omega,?_⟩);unfold dg;rw[aZ _ _ _ h1.2,hq])
 have hne:some rb≠nv.ownBlock:=fun e=>by have:=(h.own.lt rb e.symm).1;omega
 have cell:∀i v,w.cell? ⟨rb,i,none⟩=some v->w1.cell? ⟨rb,i,none⟩=some v:=fun i v q=>by rw[dC (a:=⟨rb,i,none⟩) (hg.block rb (by simp;have:=h.lt;omega) hne),aC _ _ _ h.lt];exact q
 have fro:∀i,w.frozen? ⟨rb,i,none⟩=false->w1.frozen? ⟨rb,i,none⟩=false:=fun i q=>by rw[gm (a:=⟨rb,i,none⟩) (hg.block rb (by simp;have:=h.lt;omega) hne),World.frozen?_alloc_past _ _ _ h.lt];exact q
 have z:rb≠0:=by have:=h.pos;omega
 have sg:fu w1:=h.signs.ka hka (by have:=h.lt;omega) (by simp;omega) h.pos;obtain⟨⟨c0,c1,c2,c3,c4,c5,f1,f2,f3,f4,f5⟩,own,chain,isn,few1,short,signs,pos,lt⟩:=h;have d0:=cell _ _ c0;have d1:=cell _ _ c1;have d2:=cell _ _ c2;have d3:=cell _ _ c3;have d4:=cell _ _ c4;have d5:=cell _ _ c5;have g1:=fro _ f1;have g2:=fro _ f2;have g3:=fro _ f3;have g4:=fro _ f4;have g5:=fro _ f5;refine⟨⟨⟨by go_cell,by go_cell,by go_cell,by go_cell,by go_cell,by go_cell,by go_cell,by go_cell,by go_cell,by go_cell,by go_cell⟩,?_,chain,isn,by simp;omega,short,sg.setCell (by exact z) _,pos,by have:=hka.size;simp;omega⟩,hka.iy (by simp) _⟩;have:=jH hown 4 nv';simpa using this
def Ph (rb:Nat) (s:ByteArray) (l:List bX) (ns:List ByteArray) (g:ByteArray) (e0:Int) (w:World) (e:Ending) (w':World):Prop:=∃(ns':List ByteArray) (nv':Value),e= .returned (.int .i64 ((dj ns).idxOf g.toList:Int))/\dj ns'=jf (dj ns) g.toList/\St w' rb s l ns' nv' e0/\KA rb [rb] w w'
theorem wh (w:World) (rb:Nat) (s:ByteArray) (l:List bX) (ns:List ByteArray) (nv:Value) (e0:Int) (g:ByteArray) (h:St w rb s l ns nv e0) (few:ns.length+l.length<1000):
 Calls Tryz.prog 108 #[.pointer (some ⟨rb,0,none⟩),.string g] w fun e w'=>Ph rb s l ns g e0 w e w':=by
 have H:=ah h;obtain⟨i0,hi,hz0,hz1,hz2⟩:=dH Tryz.OD;have hnl:ns.length<=1000:=by have:=h.few;omega
 rcases h.own.2 with⟨hnv,hn0⟩ | ⟨q,cap,cur,hnv,hb,hq,hcap,hmx,_⟩
 ·subst hnv;obtain rfl:ns=[]:=ch.1 hn0;have hown:=h.own;obtain⟨⟨c0,c1,c2,c3,c4,c5,f1,f2,f3,f4,f5⟩,own,chain,isn,few1,short,signs,pos,lt⟩:=h;clear own chain isn few1 short signs;go_enter Tryz.func108,Tryz.ntmps108;go_wp2;refine dW 1 ?_;rw[bT];go_wp2_with (first | (at_builtin;refine pY _ rfl (.tmp 26) (.tmp 28) 26 rfl (rb+1) 9 i0 (.string ⟨#[]⟩) 1 16 Tryz.underlying26 hi hz0 hz1 hz2 rfl (by decide) _ 0 [] rfl (hown.alloc _) ⟨w.heap.size,0,none⟩ 1 1 [.string g] rfl rfl (by intro j u hj;match j,hj with | 0,hj=>simp at hj;subst hj;simp[Addr.add]) (by intro u hu;simp at hu;subst hu;rfl) (by unfold maxLen;omega) (by omega) (by simp;omega) ?_;intro v' w1 hown' hgrow _;have R:=ah (vq (ae H) few hown' hgrow);obtain⟨d4,x4⟩:=sQ (ae H) hgrow;obtain⟨g',cap',hv,hcm⟩:=fR hown';rw[hv]at R⊢;clear hown' hgrow hv));go_ret;exact⟨_,_,rfl,by simp[dj,jf],(ae R).1,(ae R).2⟩
 ·subst hnv;have hown:=h.own;have hcell:=ah (fun k (hk:k<ns.length)=>(h.own.cellAt k (by omega)));obtain⟨⟨c0,c1,c2,c3,c4,c5,f1,f2,f3,f4,f5⟩,own,chain,isn,few1,short,signs,pos,lt⟩:=h;clear own chain isn few1 short signs hq;go_enter Tryz.func108,Tryz.ntmps108;go_wp2;go_loop [12] (fun v=>∃k:Nat,k<=ns.length/\v= .int .i64 k/\∀m (hm:m<ns.length),m<k->ns[m].toList≠g.toList) (fun v=>ns.length - (intOf v).toNat)
  case atStart=>exact⟨0,by omega,rfl,fun m _ q=>by omega⟩
  case round=>
   obtain⟨k,hk,rfl,hno⟩:=hrel;have HNO:=ah hno;clear hno;by_cases hlt:k<ns.length
   ·have hc:w.cell? ⟨q,k,none⟩=some (.string ns[k]):=by rw[ae hcell k hlt];simp[hlt]
    cases he:(ns[k].toList == g.toList)
    ·go_wp2_with fail;go_round
     case rel=>exact⟨k+1,by omega,by go_num,fun m hm q=>by
      by_cases hmk:m=k
      ·subst hmk;simpa using he
      ·exact ae HNO m hm (by omega)⟩
     case measure=>simp[intOf];omega
    ·go_wp2_with fail;go_ret;exact⟨ns,_,by rw[Lb hlt (by simpa using he) (ae HNO)];rfl,(Nj hlt (by simpa using he)).symm,ae H,KA.refl _ _ _⟩
   ·go_wp2_with (first | (at_builtin;refine pY _ rfl (.tmp 26) (.tmp 28) 26 rfl (rb+1) 9 i0 (.string ⟨#[]⟩) 1 16 Tryz.underlying26 hi hz0 hz1 hz2 rfl (by decide) _ ns.length _ rfl (hown.alloc _) ⟨w.heap.size,0,none⟩ 1 1 [.string g] rfl rfl (by intro j u hj;match j,hj with | 0,hj=>simp at hj;subst hj;simp[Addr.add]) (by intro u hu;simp at hu;subst hu;rfl) (by unfold maxLen;omega) (by omega) (by simp;omega) ?_;intro v' w1 hown' hgrow _;have R:=ah (vq (ae H) few hown' hgrow);obtain⟨d4,x4⟩:=sQ (ae H) hgrow;obtain⟨g',cap',hv,hcm⟩:=fR hown';rw[hv]at R⊢;clear hown' hgrow hv));go_ret;obtain⟨q1,q2⟩:=La (K7 fun m hm=>ae HNO m hm (by omega));exact⟨_,_,by rw[q2];simp,q1,(ae R).1,(ae R).2⟩
def q8 (f rb:Nat) (s:ByteArray) (ns:List ByteArray) (r:jM Tm) (w:World) (e:Ending) (w':World):Prop:=match r with
 | .inl (er,pos)=>∃(k val:Int) (tx:ByteArray) (ao:Option Addr) (n cap:Nat) (l':List bX) (ns':List ByteArray) (nv':Value),
  e= .returned (.tuple #[.agg #[.int .i64 k,.int .i64 val,.string tx,.slice ao n cap],.bool false])/\St w' rb s l' ns' nv' (er:Int)/\(af.hd l').pos=pos/\KA rb [rb] w w'
 | .inr (t,l1)=>∃(val:Int) (tx:ByteArray) (ao:Option Addr) (cap:Nat) (ns':List ByteArray) (nv':Value) (e':Int),
  e= .returned (.tuple #[.agg #[.int .i64 (ak t.kind),.int .i64 val,.string tx,.slice ao t.args.length cap],.bool true])/\TA f ns ns' w w' val tx ao cap t/\St w' rb s l1 ns' nv' e'/\KA rb [rb] w w'
def vU (f rb:Nat) (s:ByteArray) (ns:List ByteArray) (r:jM (List Tm)) (w:World) (e:Ending) (w':World):Prop:=match r with
 | .inl (er,pos)=>∃(l':List bX) (ns':List ByteArray) (nv':Value) (ao:Option Addr) (n cap:Nat),
  e= .returned (.tuple #[.slice ao n cap,.bool false])/\St w' rb s l' ns' nv' (er:Int)/\(af.hd l').pos=pos/\KA rb [rb] w w'
 | .inr (ts,l1)=>∃(ao:Option Addr) (cap:Nat) (ns':List ByteArray) (nv':Value) (e':Int),
  e= .returned (.tuple #[.slice ao ts.length cap,.bool true])/\AA f ns ns' w w' ao ts/\St w' rb s l1 ns' nv' e'/\KA rb [rb] w w'
def km (f:Nat) (l:List bX):jM (List Tm):=if sees l [40]=true then cE (term f) 2 l.tail else .inr ([],l)
def pN (f:Nat):Prop:=∀(w:World) (rb:Nat) (s:ByteArray) (l:List bX) (ns:List ByteArray) (nv:Value) (e0:Int) (d:Nat),f+d=9->St w rb s l ns nv e0->
 Calls Tryz.prog 61 #[.pointer (some ⟨rb,0,none⟩),.int .i64 (d:Int)] w fun e w'=>q8 f rb s ns (term f l) w e w'
def tZ (f:Nat):Prop:=∀(w:World) (rb:Nat) (s:ByteArray) (l:List bX) (ns:List ByteArray) (nv:Value) (e0:Int) (d:Nat),f+d=9->St w rb s l ns nv e0->
 Calls Tryz.prog 110 #[.pointer (some ⟨rb,0,none⟩),.int .i64 (d:Int)] w fun e w'=>vU f rb s ns (km f l) w e w'
theorem EE (l:List bX):term 0 l=af.bad (iC 9 (af.hd l)) l:=by
 unfold term iC;by_cases h:ez (af.hd l)=true
 ·rw[aH h,aH h,aH (by omega)]
 ·rw[aG h,aG h]
theorem Oz (t:bX):iC 9 t≠0:=by unfold iC;split<;>(try rw[aH (by omega)])<;>omega
theorem Gr (hd:d<=8) (h:iC d (af.hd l)≠0):term (f+1) l=af.bad (iC d (af.hd l)) l:=by
 unfold term iC at*;by_cases hb:ez (af.hd l)=true
 ·rw[aH hb]at h⊢;rw[aH hb];by_cases hc:(af.hd l).kind=4/\6<(af.hd l).text.size
  ·rw[aH hc,aH (ay hc)]
  ·rw[aG (by omega)]at h;exact absurd rfl h
 ·rw[aG hb,aG hb]
theorem EI (_h:iC d (af.hd l)=0) (hk:(af.hd l).kind=2):term (f+1) l=match km f l.tail with
 | .inl e=> .inl e
 | .inr (ts,l2)=> .inr (⟨2,(af.hd l).text,ts⟩,l2):=by
 have hb:ez (af.hd l)=true:=by simp[ez,hk]
 rw[term,aH hb,aG (by omega),aH hk];unfold km;by_cases hs:sees l.tail [40]=true
 ·rw[aH hs,aH hs];rcases cE (term f) 2 l.tail.tail with e | ⟨ts,l2⟩<;>rfl
 ·rw[aG hs,aG hs]
theorem uO (h:iC d (af.hd l)=0) (hk:(af.hd l).kind=3\/(af.hd l).kind=4):term (f+1) l= .inr (⟨(af.hd l).kind,(af.hd l).text,[]⟩,l.tail):=by
 have hb:ez (af.hd l)=true:=by rcases hk with e | e<;>simp[ez,e]
 unfold iC at h;rw[aH hb]at h;have hc:¬((af.hd l).kind=4/\6<(af.hd l).text.size):=fun q=>by rw[aH (ay q)]at h;omega
 rw[term,aH hb,aG hc,aG (by omega)]
theorem Ff (h:iC d t=0):t.kind=2\/t.kind=3\/t.kind=4:=by
 unfold iC at h;by_cases hb:ez t=true
 ·simpa [ez,or_assoc] using hb
 ·rw[aG hb]at h;omega
theorem KA.loc (hk:KA rb [rb] W w) (hc:W.cell? ⟨b,i,none⟩=some v) (hb:b<W.heap.size) (hne:b≠rb) (ht:dg W b≠some 9):w.cell? ⟨b,i,none⟩=some v:=
 (hk.cell (p:=⟨b,i,none⟩) hb (by simpa using hne) (aw ht)).trans hc
theorem KA.Lp (hk:KA rb [rb] W w) (hc:W.frozen? ⟨b,i,none⟩=false) (hb:b<W.heap.size) (hne:b≠rb) (ht:dg W b≠some 9):w.frozen? ⟨b,i,none⟩=false:=
 (hk.frozen (p:=⟨b,i,none⟩) hb (by simpa using hne) (aw ht)).trans hc
def lR:Obj:= .cells #[.int .i64 0,.int .i64 0,.string ⟨#[]⟩,.slice none 0 0] 74
def n8 (t:bX):Obj:= .cells #[.int .i64 (t.kind:Int),.int .i64 (t.pos:Int),.string t.text] 68
structure OW (w:World) (n:Nat) (t:bX):Prop where
 r0:w.cell? ⟨n,0,none⟩=some (.int .i64 0)
 r1:w.cell? ⟨n,1,none⟩=some (.int .i64 0)
 r2:w.cell? ⟨n,2,none⟩=some (.string ⟨#[]⟩)
 r3:w.cell? ⟨n,3,none⟩=some (.slice none 0 0)
 x0:w.frozen? ⟨n,0,none⟩=false
 x1:w.frozen? ⟨n,1,none⟩=false
 x2:w.frozen? ⟨n,2,none⟩=false
 x3:w.frozen? ⟨n,3,none⟩=false
 t0:w.cell? ⟨n+1,0,none⟩=some (.int .i64 (t.kind:Int))
 t2:w.cell? ⟨n+1,2,none⟩=some (.string t.text)
theorem boxes (hlt:rb<w.heap.size) (hk:KA rb [rb] ((w.alloc lR).alloc (n8 t)) w1):OW w1 w.heap.size t:=by
 have ty0:dg ((w.alloc lR).alloc (n8 t)) w.heap.size≠some 9:=by unfold dg;rw[aZ _ _ _ (by simp),aB];simp[lR]
 have ty1:dg ((w.alloc lR).alloc (n8 t)) (w.heap.size+1)≠some 9:=by unfold dg;have:=aB (w.alloc lR) (n8 t);rw[aF]at this;rw[this];simp[n8]
 refine⟨hk.loc ?_ ?_ ?_ ty0,hk.loc ?_ ?_ ?_ ty0,hk.loc ?_ ?_ ?_ ty0,hk.loc ?_ ?_ ?_ ty0,hk.Lp ?_ ?_ ?_ ty0,hk.Lp ?_ ?_ ?_ ty0,hk.Lp ?_ ?_ ?_ ty0,hk.Lp ?_ ?_ ?_ ty0,hk.loc ?_ ?_ ?_ ty1,hk.loc ?_ ?_ ?_ ty1⟩
 all_goals first | (simp;done) | omega | (simp;omega) | (simp[lR,n8];done)
theorem gG (w:World) (a:Addr) (v:Value) (k:Nat):dg (w.setCell a v) k=dg w k:=by
 unfold dg World.setCell;simp only[Array.getElem?_modify];by_cases h:a.block=k
 ·rw[aH h];cases hq:w.heap[k]? with
  | none=>rfl
  | some o=>cases o<;>rfl
 ·rw[aG h]
theorem KA.ty (h:KA b X w w') {k:Nat} (hk:k<w.heap.size) (hX:k∉X) (ht:dg w k≠some 9):dg w' k=dg w k:=by unfold dg;rw[h.block k hk hX (aw ht)]
theorem St.wE {ns:List ByteArray} (h:St w rb s l ns nv e) (hb:b≠rb) (h0:b≠0) (ht:dg w b≠some 9) (i:Nat) (v:Value):St (w.setCell ⟨b,i,none⟩ v) rb s l ns nv e:=by
 have k:∀q,q≠b->(w.setCell ⟨b,i,none⟩ v).heap[q]?=w.heap[q]?:=fun q hq=>eY _ _ _ _ hq;have c:∀o,(w.setCell ⟨b,i,none⟩ v).cell? ⟨rb,o,none⟩=w.cell? ⟨rb,o,none⟩:=fun o=>dC (k rb (de hb));have f:∀o,(w.setCell ⟨b,i,none⟩ v).frozen? ⟨rb,o,none⟩=w.frozen? ⟨rb,o,none⟩:=fun o=>gm (k rb (de hb));obtain⟨⟨c0,c1,c2,c3,c4,c5,f1,f2,f3,f4,f5⟩,own,chain,isn,few,short,signs,pos,lt⟩:=h;refine⟨⟨(c 0).trans c0,(c 1).trans c1,(c 2).trans c2,(c 3).trans c3,(c 4).trans c4,(c 5).trans c5,(f 1).trans f1,(f 2).trans f2,(f 3).trans f3,(f 4).trans f4,(f 5).trans f5⟩,⟨own.1,?_⟩,chain,isn,few,short,signs.setCell h0 _,pos,by simpa using lt⟩;rcases own.2 with q | ⟨g,cap,cur,a,b',c',d⟩
 ·exact ay q
 ·refine aw ⟨g,cap,cur,a,b',?_,d⟩;rw[k g (fun e=>ht (by rw[<-e];unfold dg;rw[c']))];exact c'
theorem pG {ns:List ByteArray} (hk:KA rb [rb] ((w.alloc lR).alloc (n8 t)) w1) (h:St w1 rb s l' ns nv e) (hlt:rb<w.heap.size) (v0 v1 v2 v3:Value):
 St ((((w1.setCell ⟨w.heap.size,0,none⟩ v0).setCell ⟨w.heap.size,1,none⟩ v1).setCell ⟨w.heap.size,2,none⟩ v2).setCell ⟨w.heap.size,3,none⟩ v3) rb s l' ns nv e/\
 KA rb [rb] w ((((w1.setCell ⟨w.heap.size,0,none⟩ v0).setCell ⟨w.heap.size,1,none⟩ v1).setCell ⟨w.heap.size,2,none⟩ v2).setCell ⟨w.heap.size,3,none⟩ v3):=by
 have ty0:dg ((w.alloc lR).alloc (n8 t)) w.heap.size=some 74:=by unfold dg;rw[aZ _ _ _ (by simp),aB];simp[lR]
 have ne:w.heap.size≠rb:=by omega
 have n0:w.heap.size≠0:=by omega
 have ty1:dg w1 w.heap.size≠some 9:=by rw[hk.ty (by simp;omega) (by simpa using ne) (by rw[ty0];simp),ty0];simp
 have base:KA rb [rb] w w1:=(((KA.refl rb [rb] w).alloc _).alloc _).trans hk;refine⟨?_,(((base.wC Qw _).wC Qw _).wC Qw _).wC Qw _⟩;have a1:=h.wE ne n0 ty1 0 v0;have a2:=a1.wE ne n0 (by rw[gG];exact ty1) 1 v1;have a3:=a2.wE ne n0 (by rw[gG,gG];exact ty1) 2 v2;exact a3.wE ne n0 (by rw[gG,gG,gG];exact ty1) 3 v3
end Go.Proofs.YthfjnfcekeknlabGreatDoor
namespace af
def P9 (N:List (List UInt8)) (x:dq):List UInt8:=
 Kl 8 N x.left++(match x.right with
  | none=>[]
  | some r=>x.sign++Kl 8 N r)++(match x.last with
  | none=>[]
  | some z=>x.op++Kl 8 N z)
def e7 (ns:List (List UInt8)):Option Tm->List (List UInt8)
 | none=>ns
 | some t=>aP 8 ns t
def bU (ns:List (List UInt8)) (x:dq):List (List UInt8):=e7 (e7 (aP 8 ns x.left) x.right) x.last
def Ot (x:dq):Prop:=AL 8 x.left/\(∀r,x.right=some r->AL 8 r)/\(∀z,x.last=some z->AL 8 z)
theorem nM {ns:List (List UInt8)} {t:Option Tm} (h:∀r,t=some r->AL 8 r):∃M,e7 ns t=ns++M/\M.length<=3 ^ 8:=by
 cases t with
 | none=>exact⟨[],by simp[e7],by simp⟩
 | some r=>exact kL 8 r (h r rfl) ns
theorem sS (x:dq) (h:Ot x) (ns:List (List UInt8)):∃M,bU ns x=ns++M/\M.length<=20000:=by obtain⟨M1,h1,l1⟩:=kL 8 x.left h.1 ns;obtain⟨M2,h2,l2⟩:=nM (ns:=aP 8 ns x.left) (t:=x.right) h.2.1;obtain⟨M3,h3,l3⟩:=nM (ns:=e7 (aP 8 ns x.left) x.right) (t:=x.last) h.2.2;refine⟨M1++(M2++M3),by unfold bU;rw[h3,h2,h1];simp,?_⟩;simp at l1 l2 l3⊢;omega
