import Derived.Test.YthfjnfcekeknlaaGreatDoorSt03
import Derived.Test.YthfjnfcekeknlaaGreatDoorSt10
import Derived.Test.YthfjnfcekeknlaaGreatDoorSt11
import Derived.Test.YthfjnfcekeknlaaGreatDoorSt18
set_option maxHeartbeats 8000000
set_option maxRecDepth 100000
namespace Go.Proofs.YthfjnfcekeknlaaGreatDoor
open Go.RowKit
structure gu (P:Nat→Prop) (w:World) (sb so:Nat) (cs:Array Value) (T:TypeId) (cb:Nat) (D:List Ng) (V:List Nat) (no:Option Addr) (nc:Nat) (vo:Option Addr) (vc:Nat) (fr:Nat→Nat) (TT:Nat→Za.U):Prop where
 ad:fD P w sb so cs T cb D V no nc vo vc
 ok:bR D fr
 to:Za.dw (aV D) fr TT
 lt:∀n∈V,n<D.length
def cH (TT:Nat→Za.U) (V:List Nat) (N:List (List UInt8)) (y:List UInt8):Za.U:=TT ((V[N.idxOf y]?).getD 0)
section
variable {P:Nat→Prop} {w:World} {sb so:Nat} {cs:Array Value} {T:TypeId} {cb:Nat} {D:List Ng} {V:List Nat} {no:Option Addr} {nc:Nat} {vo:Option Addr} {vc:Nat} {fr:Nat→Nat} {TT:Nat→Za.U}
theorem gu.gr (h:gu P w sb so cs T cb D V no nc vo vc fr TT):fW w w.heap.size sb so cs T D no nc fr TT (fun g=>P g∧¬rowOf vo g):=⟨h.ad.st,h.ok,h.to,h.ad.args,Nat.le_refl _⟩
theorem gu.below (h:gu P w sb so cs T cb D V no nc vo vc fr TT) {w':World} (hb:Below w.heap.size w w'):gu P w' sb so cs T cb D V no nc vo vc fr TT:=⟨h.ad.below hb,h.ok,h.to,h.lt⟩
theorem gu.fS (h:gu P w sb so cs T cb D V no nc vo vc fr TT) {w':World} (hk:∀(g:Nat) (ys:Array Value) (S:TypeId),w.heap[g]?=some (.cells ys S (0,0))→(S=T∨S=180∨S=93∨S=3)→w'.heap[g]?=w.heap[g]?):gu P w' sb so cs T cb D V no nc vo vc fr TT:=by
 refine⟨⟨⟨(hk sb _ _ h.ad.st.blk (Or.inl rfl)).trans h.ad.st.blk,h.ad.st.cel,ah h.ad.st.own fun g q=> ?_,h.ad.st.ty⟩,⟨(hk cb _ _ h.ad.sc.blk (Or.inr (Or.inr (Or.inl rfl)))).trans h.ad.sc.blk,ah h.ad.sc.own fun g q=> ?_⟩,h.ad.t1,h.ad.t2,h.ad.args.keep fun g _ hp hg=>⟨(hk g _ _ hg (Or.inr (Or.inr (Or.inr rfl)))).trans hg,hp⟩⟩,h.ok,h.to,h.lt⟩
 ·obtain⟨cur,hc⟩:=aH h.ad.st.own (aD q)
  exact hk g _ _ hc (Or.inr (Or.inl rfl))
 ·obtain⟨cur,hc⟩:=aH h.ad.sc.own (aD q)
  exact hk g _ _ hc (Or.inr (Or.inr (Or.inr rfl)))
end
def T8 (P:Nat→Prop) (sb so:Nat) (cs:Array Value) (T:TypeId) (cb:Nat) (D:List Ng) (V:List Nat) (no:Option Addr) (vo:Option Addr) (fr:Nat→Nat) (TT:Nat→Za.U) (N ns:List (List UInt8)) (t:Za.Tm) (w:World) (e:Ending) (w':World):Prop:=
 ∃(n:Nat) (E:List Ng) (F:List Nat) (no':Option Addr) (nc':Nat) (vo':Option Addr) (vc':Nat) (T':Nat→Za.U),e= .returned (aI n)∧gu P w' sb so (cs.setIfInBounds so (.slice no' (D++E).length nc')) T cb (D++E) (V++F) no' nc' vo' vc' fr T'∧(∀m,m<D.length→T' m=TT m)∧dB D.length E∧fA D.length E F∧(V++F).length=(Za.namesF 8 ns t).length∧n<(D++E).length∧T' n=Za.bA (cH T' (V++F) N) 8 t∧E.length+1≤6561∧aj (bU sb no cb vo) (bU sb no' cb vo') w w'
theorem S6 {P:Nat→Prop} {w:World} {sb so:Nat} {cs:Array Value} {T:TypeId} {cb:Nat} {D:List Ng} {V:List Nat} {no:Option Addr} {nc:Nat} {vo:Option Addr} {vc:Nat} {fr:Nat→Nat} {TT:Nat→Za.U} (h:gu P w sb so cs T cb D V no nc vo vc fr TT) (hP:∀g,w.heap.size≤g→P g) (hT:T≠76) {N ns:List (List UInt8)} {Q:Nat→Prop} {a:AV} {t:Za.Tm} (hr:RA 8 N Q w a t) (hw:Za.wfK 8 t) (hl:V.length=ns.length) (hN:∃M,N=Za.namesF 8 ns t++M) (hD:D.length+6561≤1000000000) (hV:V.length+6561≤1000000000):
 Calls Tryz.prog 54 #[.pointer (some ⟨sb,so,none⟩),.agg #[.int .i64 a.k,.int .i64 a.val,.string a.tx,.slice a.ao a.n a.cap],.pointer (some ⟨cb,0,none⟩)] w fun e w'=>T8 P sb so cs T cb D V no vo fr TT N ns t w e w':=by
 refine(ag_all 8 P w sb so cs T cb D V no nc vo vc N ns Q a t h.ad hP hT h.lt hr hw hl hN (by simpa using hD) (by simpa using hV)).mono ?_
 rintro e w' ⟨n,E,F,no',nc',vo',vc',rfl,ad,nd,nv,ln,rn,nl,el,fg⟩
 obtain⟨T',hS,he⟩:=KD h.ok h.to nd
 have hok:=h.ok.more nd
 refine⟨n,E,F,no',nc',vo',vc',T',rfl,⟨ad,hok,hS,?_⟩,he,nd,nv,ln,nl,rn.is hok hS hw,by simpa using el,fg⟩
 intro m hm
 rw[List.length_append]
 rcases List.mem_append.1 hm with q | q
 ·have:=h.lt m q;omega
 ·obtain⟨h1,d,h2,_⟩:=nv.var m q
  have:=(List.getElem?_eq_some_iff.1 h2).1
  omega
end Go.Proofs.YthfjnfcekeknlaaGreatDoor
namespace Go.Proofs.YthfjnfcekeknlaaGreatDoor
open Go.RowKit
theorem lS (W:World) {b:Nat} (v0 v1 v2:Value) {k:Nat} (h:k≠b):(((W.setCell ⟨b,0,none⟩ v0).setCell ⟨b,1,none⟩ v1).setCell ⟨b,2,none⟩ v2).heap[k]?=W.heap[k]?:=by rw[aF _ _ _ _ h,aF _ _ _ _ h,aF _ _ _ _ h]
end Go.Proofs.YthfjnfcekeknlaaGreatDoor
namespace Za
theorem Io {η:List UInt8→U} {B:Nat} (hB:1≤B) (f:Nat) (t:Tm) (ns:List (List UInt8)) (hw:wfK f t) (hη:∀y∈namesF f ns t,size (η y)≤B):2*size (bA η f t)+1≤B*3 ^ f:=by
 rw[gQ (θ:=fun y=>if y∈namesF f ns t then η y else .v ([],0)) f t ns hw (fun y hy=>(if_pos hy).symm)]
 refine AX hB (fun y=> ?_) f t hw
 split
 ·rename_i h;exact hη y h
 ·simpa [size] using hB
end Za
namespace Go.Proofs.YthfjnfcekeknlaaGreatDoor
open Go.RowKit
theorem KO {T T':Nat→Za.U} {V F:List Nat} {N M ns:List (List UInt8)} {b:Nat} {y:List UInt8} (hy:y∈ns) (hN:N=ns++M) (hl:V.length=ns.length) (hlt:∀n∈V,n<b) (he:∀m,m<b→T' m=T m):cH T' (V++F) N y=cH T V N y:=by
 unfold cH
 have h1:N.idxOf y<V.length:=by
  rw[hN,List.idxOf_append,if_pos hy,hl]
  exact List.idxOf_lt_length_of_mem hy
 rw[List.getElem?_append_left h1,List.getElem?_eq_getElem h1]
 exact he _ (hlt _ (List.getElem_mem h1))
theorem Ip {T:Nat→Za.U} {V:List Nat} {N M ns:List (List UInt8)} {y:List UInt8} (hy:y∈ns) (hN:N=ns++M) (hl:V.length=ns.length):∃n∈V,cH T V N y=T n:=by
 have h1:N.idxOf y<V.length:=by
  rw[hN,List.idxOf_append,if_pos hy,hl]
  exact List.idxOf_lt_length_of_mem hy
 refine⟨V[N.idxOf y],List.getElem_mem h1,?_⟩
 unfold cH
 rw[List.getElem?_eq_getElem h1]
 rfl
theorem RA.less {P:Nat→Prop} {w:World} {N M:List (List UInt8)}:∀{f:Nat} {a:AV} {t:Za.Tm},RA f (N++M) P w a t→Za.wfK f t→Za.AZ N f t→RA f N P w a t
 | f+1,a,t,⟨h,q⟩,⟨_,w2,_,w4⟩,hn=>by
  obtain⟨h1,h2,h3,h4,h5,h6,h7,h8⟩:=h
  unfold Za.AZ at hn
  refine⟨⟨h1,h2,fun k=> ?_,h4,h5,h6,h7,h8⟩,fun n=> ?_⟩
  ·obtain⟨_,e⟩:=h3 k
   rw[if_pos k]at hn
   exact⟨hn,by rw[e,List.idxOf_append,if_pos hn]⟩
  ·obtain⟨g,us,cs,p1,p2,p3,p4,p5⟩:=q n
   refine⟨g,us,cs,p1,p2,p3,p4,?_⟩
   have k2:t.kind=2:=Decidable.byContradiction fun k=>n (w2 k)
   rw[if_neg (by omega),if_neg (by omega)]at hn
   have:∀(us:List AV) (ts:List Za.Tm),bK (RA f (N++M) P w) us ts→(∀a∈ts,Za.wfK f a)→(∀a∈ts,Za.AZ N f a)→bK (RA f N P w) us ts:=by
    intro us
    induction us with
    | nil=>intro ts ha _ _;cases ts with
     | nil=>trivial
     | cons t ts=>exact ha.elim
    | cons x xs ih=>intro ts ha hw hi;cases ts with
     | nil=>exact ha.elim
     | cons t ts=>exact⟨RA.less ha.1 (hw t (by simp)) (hi t (by simp)),ih ts ha.2 (fun a ha=>hw a (by simp[ha])) (fun a ha=>hi a (by simp[ha]))⟩
   exact this us t.args p5 w4 hn
theorem mi.full {D:List Ng} {TT:Nat→Za.U} {M:List (List UInt8)} {S:List Int} {l:Za.bF} (h:mi D TT M S l.st) (hl:S.length≤M.length) (hk:∀x∈M,x∈l.keys):∃V:List Nat,V.length=M.length∧S=V.map (fun n:Nat=>(n:Int))∧(∀n∈V,n<D.length)∧∀(i:Nat) (x:List UInt8) (n:Nat),M[i]?=some x→V[i]?=some n→∃q,l.st.find? (fun q=>q.1 == x)=some q∧TT n=q.2:=by
 have key:∀(i:Nat) (x:List UInt8),M[i]?=some x→∃(q:List UInt8×Za.U) (n:Nat),l.st.find? (fun q=>q.1 == x)=some q∧S[i]?=some (n:Int)∧n<D.length∧TT n=q.2:=fun i x hx=>by
  have hm:=hk x (List.mem_of_getElem? hx)
  obtain⟨r,hr,rfl⟩:=List.mem_map.1 hm
  cases e:l.st.find? (fun q=>q.1 == r.1)with
  | none=>exact absurd (List.find?_eq_none.1 e r hr) (by simp)
  | some q=>
   obtain⟨n,h1,h2,h3⟩:=h.kn i r.1 q hx e
   exact⟨q,n,rfl,h1,h2,h3⟩
 have hlen:S.length=M.length:=by
  rcases Nat.lt_or_eq_of_le hl with q | q
  ·obtain⟨_,n,_,h1,_⟩:=key S.length M[S.length] (List.getElem?_eq_getElem q)
   rw[List.getElem?_eq_none (Nat.le_refl _)]at h1
   cases h1
  ·exact q
 have pos:∀s∈S,∃n:Nat,s=(n:Int)∧n<D.length:=fun s hs=>by
  obtain⟨i,hi,rfl⟩:=List.getElem_of_mem hs
  obtain⟨_,n,_,h1,h2,_⟩:=key i M[i] (List.getElem?_eq_getElem (by omega))
  rw[List.getElem?_eq_getElem hi]at h1
  exact⟨n,Option.some.inj h1,h2⟩
 refine⟨S.map Int.toNat,by rw[List.length_map,hlen],?_,fun n hn=> ?_,fun i x n hx hn=> ?_⟩
 ·rw[List.map_map]
  conv=>lhs;rw[←List.map_id S]
  refine List.map_congr_left fun s hs=> ?_
  obtain⟨n,rfl,_⟩:=pos s hs
  simp
 ·obtain⟨s,hs,rfl⟩:=List.mem_map.1 hn
  obtain⟨n,rfl,h2⟩:=pos s hs
  simpa using h2
 ·obtain⟨q,m,h1,h2,_,h4⟩:=key i x hx
  rw[List.getElem?_map,h2]at hn
  simp at hn
  subst hn
  exact⟨q,h1,h4⟩
theorem zk (D:List Ng) (TT:Nat→Za.U) (M:List (List UInt8)):mi D TT M [] []:=⟨fun _ _ _ _=>Or.inl rfl,fun _ _ _ _ h=>by cases h⟩
def WT (l:Za.Wn) (w:World) (e:Ending) (w':World):Prop:=
 ∃wo wc,e= .returned (.agg #[.int .i64 (l.says:Int),.slice wo l.wt.length wc,.slice none 0 0])∧w'.ownsRow w.heap.size 3 1 (.slice wo l.wt.length wc) l.wt.length (l.wt.map aI)∧Below w.heap.size w w'
theorem Iq (w:World) (sb so:Nat) (cs:Array Value) (Ty:TypeId) (D:List Ng) (no:Option Addr) (nc:Nat) (fr:Nat→Nat) (TT:Nat→Za.U) (PP:Nat→Prop) (a:AV) (o1 o2:Option Addr) (n1 c1 n2 c2 n:Nat) (N M:List (List UInt8)) (p:Za.Tm) (hG:fW w w.heap.size sb so cs Ty D no nc fr TT PP) (hr:RA 8 N anyA w a p) (hN:N=Za.namesF 8 [] p++M) (wp:Za.wfK 8 p) (hn:n<D.length) (hsz:Za.size (TT n)≤300) (hy:(Za.matU 8 p (TT n) ⟨[],Za.Wn.none⟩).w.says≠1):
 Calls Tryz.prog 182 #[.pointer (some ⟨sb,so,none⟩),.agg #[.int .i64 a.k,.int .i64 a.val,.string a.tx,.slice a.ao a.n a.cap,.slice o1 n1 c1,.slice o2 n2 c2],.int .i64 (n:Int)] w fun e w'=>WT (Za.matU 8 p (TT n) ⟨[],Za.Wn.none⟩).w w e w':=by
 obtain⟨k,val,tx,ao,m,cp⟩:=a
 dsimp only
 have hq:=RA.less (hN ▸ hr) wp (Za.si 8 p [] fun y hy=>hy)
 have hML:=Za.namesK_len 8 p [] wp
 have hND:=Za.namesF_nodup 8 p [] (by simp)
 have q3:3 ^ 8=6561:=by decide
 have hu:=(((Below.refl w.heap.size w).alloc (Nat.le_refl _) (.cells #[.int .i64 k,.int .i64 val,.string tx,.slice ao m cp,.slice o1 n1 c1,.slice o2 n2 c2] 78)).alloc (by simp) (.cells #[.int .i64 0,.slice none 0 0,.slice none 0 0] 245)).alloc (by simp;omega) (.cells #[.slice none 0 0,.slice none 0 0,.bool false] 189)
 have hl0:=vB ((w.alloc (.cells #[.int .i64 k,.int .i64 val,.string tx,.slice ao m cp,.slice o1 n1 c1,.slice o2 n2 c2] 78)).alloc (.cells #[.int .i64 0,.slice none 0 0,.slice none 0 0] 245))
 simp only[World.size_alloc]at hl0
 have pQ:=aw (heap_alloc_new (w.alloc (.cells #[.int .i64 k,.int .i64 val,.string tx,.slice ao m cp,.slice o1 n1 c1,.slice o2 n2 c2] 78)) (.cells #[.int .i64 0,.slice none 0 0,.slice none 0 0] 245)) (.cells #[.slice none 0 0,.slice none 0 0,.bool false] 189)
 rw[World.size_alloc]at pQ
 have IM:=hide (muG_all 8 anyA w _ (w.heap.size+1+1) sb so cs Ty D no nc fr TT PP _ (Za.namesF 8 [] p) [] ⟨k,val,tx,ao,m,cp⟩ n p ⟨[],Za.Wn.none⟩ 300 (hG.up (by omega)) hu hl0 (zk D TT _) (by simp) hND (by simp at hML;omega) hq wp hn hsz (fun q hq=>by cases hq) (by rw[q3];simp[Za.Wn.none]))
 have HU:=hide hu
 have uV:=hide hl0
 have jL:=hide pQ
 have HY:=hide hy
 clear hG hr hN hq hND hML q3 hu hl0 pQ hsz hy
 go_enter Tryz.func182,Tryz.ntmps182
 go_wp2_with fail
 refine(ae IM).mono ?_
 rintro e w2 ⟨rfl,S2,R2,h2,-,-,fr2⟩
 generalize hl:(Za.matU 8 p (TT n) ⟨[],Za.Wn.none⟩).w=l at*
 have hb2:=(ae uV).under fr2 (ae HU) (by omega)
 have q2:=(fr2.block (w.heap.size+1) (by simp only[World.size_alloc];omega) (pM (by omega))).trans (ae jL)
 have Eb:=hide (y5 w2 _ S2 l.wt l.no R2 h2)
 rw[Ai]at Eb
 obtain⟨xo,xc,yo,yc,h2,rfl⟩:=h2
 have c1':=ag h2.blk 1
 have cz:=af h2.blk
 have d0:=ag q2
 have x0:=aq q2
 have dz:=af q2
 simp only[List.getElem?_toArray,List.getElem?_cons_zero,List.getElem?_cons_succ]at c1'
 have t1:((l.says:Int) == 1)=false:=by have:=ae HY;simp;omega
 have t2:((l.says:Int) != 1)=true:=by have:=ae HY;simp;omega
 have HO:=hide h2.wown
 have zo:=hide (fun(W:World) (hb:Below w2.heap.size w2 W)=>Bk W (w.heap.size+1+1) l.wt l.no xo S2.length xc yo yc ((hb.block _ (af h2.blk)).trans h2.blk))
 rw[Ai]at zo
 have HB:=hide hb2
 have Qh:=hide hl
 clear h2 hb2 fr2 q2 IM hl uV HU jL
 go_wp2_with fail
 refine(ae Eb).mono ?_
 rintro e w3 ⟨rfl,rfl⟩
 go_wp2_with fail
 go_region_with (go_at_call 110;refine(ae zo _ (by first | exact Below.refl _ _ | exact(Below.refl _ _).drew | exact(Below.refl _ _).drew.drew | exact(Below.refl _ _).drew.drew.drew | exact(Below.refl _ _).drew.drew.drew.drew)).mono ?_;rintro e w5 ⟨rfl,rfl⟩)
 all_goals
  go_wp2_with fail
  refine bodyPost_ret (v:= .agg #[.int .i64 (l.says:Int),.slice yo l.wt.length yc,.slice none 0 0]) (by simp[results,Tryz.results182,go_sem,d0]) rfl ?_
  rw[ae Qh]
  have mV:∀g,g≠w.heap.size+1→(((w3.setCell ⟨w.heap.size+1,0,none⟩ (.int .i64 (l.says:Int))).setCell ⟨w.heap.size+1,1,none⟩ (.slice yo l.wt.length yc)).setCell ⟨w.heap.size+1,2,none⟩ (.slice none 0 0)).heap[g]?=w3.heap[g]?:=fun g hg=>lS w3 _ _ _ hg
  exact⟨yo,yc,rfl,bZ (ah (ae HO) (fun g q=>mV g (by have:=((ae HO).lt g q).1;omega))) (by omega),((((ae HB).setCell (Nat.le_succ _) _).setCell (Nat.le_succ _) _).setCell (Nat.le_succ _) _).drew⟩
end Go.Proofs.YthfjnfcekeknlaaGreatDoor
namespace Za
def ji (g:aC→Wn):List aC→Wn→Wn
 | [],l=>l
 | x :: xs,l=>ji g xs (l.also (g x))
theorem uW {g h:aC→Wn}:∀(xs:List aC) (l:Wn),(∀x∈xs,g x=h x)→ji g xs l=ji h xs l
 | [],_,_=>rfl
 | y :: ys,l,e=>by rw[ji,ji,e y (by simp)];exact uW ys _ fun x hx=>e x (by simp[hx])
def iB (η:List UInt8→U) (xs:List aC):Wn:=ji (dx η) xs Wn.none
theorem BJ {η θ:List UInt8→U} (x:aC) (ns:List (List UInt8)) (hx:gZ x) (h:∀y∈aK ns x,η y=θ y):dx η x=dx θ x:=by
 unfold aK at h
 rw[hx.la]at h
 unfold dx
 cases hr:x.right with
 | none=>
  rw[hr]at h
  dsimp only
  rw[gQ 8 x.left ns hx.wl h]
 | some r=>
  rw[hr]at h
  dsimp only
  rw[gQ 8 r (namesF 8 ns x.left) (hx.wr r hr) h,gQ 8 x.left ns hx.wl (fun y hy=>h y (by
   obtain⟨K,hK⟩:=namesV_ext 8 r (namesF 8 ns x.left)
   show y∈namesF 8 (namesF 8 ns x.left) r
   rw[hK]
   exact List.mem_append_left _ hy))]
theorem Fp (x:aC) (ns:List (List UInt8)):∃K,aK ns x=ns++K:=by
 unfold aK
 have nO:∀(t:Option Tm) (ns:List (List UInt8)),∃K,cg ns t=ns++K:=fun t ns=>by
  cases t with
  | none=>exact⟨[],by simp[cg]⟩
  | some r=>exact namesV_ext 8 r ns
 obtain⟨K1,h1⟩:=namesV_ext 8 x.left ns
 obtain⟨K2,h2⟩:=nO x.right (namesF 8 ns x.left)
 obtain⟨K3,h3⟩:=nO x.last (cg (namesF 8 ns x.left) x.right)
 exact⟨K1++(K2++K3),by rw[h3,h2,h1];simp⟩
theorem qg (ns:List (List UInt8)) (x:aC) (xs:List aC):ay ns (x :: xs)=ay (aK ns x) xs:=by unfold ay;rw[List.foldl_cons]
theorem jF (xs:List aC):∀(ns:List (List UInt8)),∃K,ay ns xs=ns++K:=by
 induction xs with
 | nil=>exact fun ns=>⟨[],by simp[ay]⟩
 | cons x xs ih=>
  intro ns
  obtain⟨K1,h1⟩:=Fp x ns
  obtain⟨K2,h2⟩:=ih (aK ns x)
  exact⟨K1++K2,by rw[qg,h2,h1,List.append_assoc]⟩
theorem fk (xs:List aC):∀(ns:List (List UInt8)),∀x∈xs,∃ns',∀y∈aK ns' x,y∈ay ns xs:=by
 induction xs with
 | nil=>intro ns x hx;cases hx
 | cons z zs ih=>
  intro ns x hx
  rw[qg]
  rcases List.mem_cons.1 hx with rfl | hx
  ·refine⟨ns,fun y hy=> ?_⟩
   obtain⟨K,hK⟩:=jF zs (aK ns x)
   rw[hK]
   exact List.mem_append_left _ hy
  ·exact ih (aK ns z) x hx
theorem zq {η θ:List UInt8→U} (xs:List aC) (ns:List (List UInt8)) (hx:∀x∈xs,gZ x) (h:∀y∈ay ns xs,η y=θ y):iB η xs=iB θ xs:=
 uW xs _ fun x hm=>by
  obtain⟨ns',hn⟩:=fk xs ns x hm
  exact BJ x ns' (hx x hm) fun y hy=>h y (hn y hy)
theorem Fq {η:List UInt8→U} (x:aC) (ns:List (List UInt8)) (hx:gZ x) (h:∀y∈aK ns x,size (η y)≤300):(dx η x).wt.length≤2000000:=by
 have hl:∀y∈namesF 8 ns x.left,size (η y)≤300:=fun y hy=>h y (by
  unfold aK
  rw[hx.la]
  cases hr:x.right with
  | none=>exact hy
  | some r=>
   obtain⟨K,hK⟩:=namesV_ext 8 r (namesF 8 ns x.left)
   show y∈namesF 8 (namesF 8 ns x.left) r
   rw[hK]
   exact List.mem_append_left _ hy)
 have q:=Io (B:=300) (by omega) 8 x.left ns hx.wl hl
 have q3:3 ^ 8=6561:=by decide
 rw[q3]at q
 unfold dx
 cases hr:x.right with
 | none=>
  dsimp only
  split
  ·have:=GJ (by assumption);omega
  ·simp[Wn.none]
 | some r=>
  dsimp only
  split
  ·have:=wO (bA η 8 x.left) (bA η 8 r);omega
  ·split
   ·have:=Dm (bA η 8 x.left) (bA η 8 r);omega
   ·have:=GI (decide (x.sign=[61,60])) (bA η 8 x.left) (bA η 8 r);omega
theorem KP (l m:Wn):(l.also m).wt.length≤l.wt.length+m.wt.length:=foldV_len _ _
end Za
namespace Go.Proofs.YthfjnfcekeknlaaGreatDoor
open Go.RowKit
def cm (sb:Nat) (no:Option Addr) (k:Nat):Prop:=k=sb∨rowOf no k
theorem aj.wide {R R':Nat→Prop} {w w':World} (h:aj R R' w w') (X:Nat→Prop):aj (fun k=>R k∨X k) (fun k=>R' k∨X k) w w':=⟨h.os,h.tape,h.output,h.size,fun k hk hn=>h.block k hk (fun q=>hn (Or.inl q)),fun k q=>by
 rcases q with q | q
 ·rcases h.row k q with e | e
  ·exact Or.inl (Or.inl e)
  ·exact Or.inr e
 ·exact Or.inl (Or.inr q)⟩
theorem aj.less {R R' X:Nat→Prop} {w w':World} (h:aj R R' w w') (hx:∀k,X k→R' k):aj R X w w':=⟨h.os,h.tape,h.output,h.size,h.block,fun k q=>h.row k (hx k q)⟩
theorem aj.new {R R' X:Nat→Prop} {w w1 w':World} (h:aj R X w w1) {Y:Nat→Prop} (hn:aj Y R' w1 w') (hy:∀k,Y k→X k∨w.heap.size≤k):aj R R' w w':=⟨hn.os.trans h.os,hn.tape.trans h.tape,hn.output.trans h.output,Nat.le_trans h.size hn.size,fun k hk hr=>(hn.block k (Nat.lt_of_lt_of_le hk h.size) (fun q=>by
 rcases hy k q with e | e
 ·rcases h.row k e with f | f
  ·exact hr f
  ·omega
 ·omega)).trans (h.block k hk hr),fun k q=>by
 rcases hn.row k q with e | e
 ·rcases hy k e with f | f
  ·exact h.row k f
  ·exact Or.inr f
 ·exact Or.inr (Nat.le_trans h.size e)⟩
theorem gu.lI {PP R R':Nat→Prop} {w w':World} {sb so:Nat} {cs:Array Value} {T:TypeId} {cb:Nat} {D:List Ng} {V:List Nat} {no:Option Addr} {nc:Nat} {vo:Option Addr} {vc:Nat} {fr:Nat→Nat} {TT:Nat→Za.U} (h:gu (fun g=>PP g∧¬R g) w sb so cs T cb D V no nc vo vc fr TT) (hf:aj R R' w w') (ap:∀k,R k→¬bU sb no cb vo k):gu (fun g=>PP g∧¬R' g) w' sb so cs T cb D V no nc vo vc fr TT:=by
 have keep:∀k,bU sb no cb vo k→w'.heap[k]?=w.heap[k]?:=fun k q=>hf.block k (h.ad.rows k q) (fun r=>ap k r q)
 refine⟨⟨⟨(keep sb (Or.inl rfl)).trans h.ad.st.blk,h.ad.st.cel,ah h.ad.st.own fun g q=>keep g (Or.inr (Or.inl (aD q))),h.ad.st.ty⟩,⟨(keep cb (Or.inr (Or.inr (Or.inl rfl)))).trans h.ad.sc.blk,ah h.ad.sc.own fun g q=>keep g (Or.inr (Or.inr (Or.inr (aD q))))⟩,h.ad.t1,h.ad.t2,h.ad.args.keep fun g _ hp hg=>⟨(hf.block g (af hg) hp.1.2).trans hg,⟨⟨hp.1.1,fun q=> ?_⟩,hp.2⟩⟩⟩,h.ok,h.to,h.lt⟩
 rcases hf.row g q with e | e
 ·exact hp.1.2 e
 ·have:=af hg;omega
theorem bt.qW {w w':World} {sb so:Nat} {cs:Array Value} {T:TypeId} {D:List Ng} {no:Option Addr} {nc:Nat} {R':Nat→Prop} (h:bt w sb so cs T D no nc) (hf:aj (cm sb no) R' w w') {g:Nat} {ys:Array Value} {S:TypeId} (hg:w.heap[g]?=some (.cells ys S (0,0))) (h1:S≠T) (h2:S≠180):w'.heap[g]?=some (.cells ys S (0,0)):=
 (hf.block g (af hg) (by
  rintro(e | e)
  ·rw[e,h.blk]at hg
   simp only[Option.some.injEq,Obj.cells.injEq]at hg
   exact h1 hg.2.1.symm
  ·exact aN h.own hg h2 e)).trans hg
end Go.Proofs.YthfjnfcekeknlaaGreatDoor
namespace Za
inductive bj (Q:Vr→Prop):U→Prop
 | v {x:Vr} (h:Q x):bj Q (.v x)
 | n {k:Nat} {tx:List UInt8} {num:Int} {ss:List U} (h:∀a∈ss,bj Q a):bj Q (.n k tx num ss)
theorem bj.args {Q:Vr→Prop} {k:Nat} {tx:List UInt8} {num:Int} {ss:List U} (h:bj Q (.n k tx num ss)):∀a∈ss,bj Q a:=by cases h with | n h=>exact h
theorem bj.var {Q:Vr→Prop} {x:Vr} (h:bj Q (.v x)):Q x:=by cases h with | v h=>exact h
theorem bj.mono {Q R:Vr→Prop} (hq:∀x,Q x→R x) {u:U} (h:bj Q u):bj R u:=by
 induction h with
 | v h=>exact .v (hq _ h)
 | n _ ih=>exact .n ih
def Wn.eK (Q:Vr→Prop) (l:Wn):Prop:=∀w∈l.wt,∃x,Q x∧x.2=w
theorem dt (Q:Vr→Prop):Wn.none.eK Q:=fun w hw=>by cases hw
theorem Wn.eK.wait {Q:Vr→Prop} {l:Wn} (h:l.eK Q) {x:Vr} (hx:Q x):(l.wait x.2).eK Q:=fun w hw=>by
 have:w∈fy l.wt x.2:=hw
 unfold fy at this
 split at this
 ·exact h w this
 ·rcases List.mem_append.1 this with q | q
  ·exact h w q
  ·exact⟨x,hx,(List.mem_singleton.1 q).symm⟩
theorem Wn.eK.bad {Q:Vr→Prop} {l:Wn} (h:l.eK Q):l.bad.eK Q:=h
theorem Wn.eK.bI {Q:Vr→Prop} {l:Wn} (h:l.eK Q) {u:U} (hu:bj Q u):(l.bI u).eK Q:=by
 cases u with
 | v x=>exact h.wait hu.var
 | n k tx num ss=>exact h
theorem vL {Q:Vr→Prop}:∀(u v:U) (l:Wn),bj Q u→bj Q v→l.eK Q→(cmpU u v l).eK Q:=by
 refine U.ind (fun x v l hu hv hl=> ?_) (fun k tx num ss ih v l hu hv hl=> ?_)
 ·cases v with
  | v y=>
   rw[mC]
   split
   ·exact hl
   ·exact(hl.wait hu.var).wait hv.var
  | n k tx num ss=>rw[ot];exact hl.wait hu.var
 ·cases v with
  | v y=>rw[ou];exact hl.wait hv.var
  | n k' tx' num' ss'=>
   rw[kU]
   split
   ·have:∀(bs cs:List U) (l:Wn),(∀a∈bs,∀v l,bj Q a→bj Q v→l.eK Q→(cmpU a v l).eK Q)→(∀a∈bs,bj Q a)→(∀a∈cs,bj Q a)→l.eK Q→(cmpUL bs cs l).eK Q:=by
     intro bs
     induction bs with
     | nil=>intro cs l _ _ _ hl;rw[jn];exact hl
     | cons b bs ihb=>
      intro cs l hb h1 h2 hl
      cases cs with
      | nil=>rw[kV];exact hl
      | cons c cs=>
       rw[fZ]
       exact ihb cs _ (fun a ha=>hb a (by simp[ha])) (fun a ha=>h1 a (by simp[ha])) (fun a ha=>h2 a (by simp[ha])) (hb b (by simp) c l (h1 b (by simp)) (h2 c (by simp)) hl)
    exact this ss ss' l ih hu.args hv.args hl
   ·exact hl.bad
def bF.kx (Q:Vr→Prop) (l:bF):Prop:=(∀q∈l.st,bj Q q.2)∧l.w.eK Q
theorem bF.kx.meet {Q:Vr→Prop} {l:bF} (h:l.kx Q) (x:List UInt8) {u:U} (hu:bj Q u):(l.meet x u).kx Q:=by
 unfold bF.meet
 cases hq:l.st.find? (fun q=>q.1 == x)with
 | none=>
  refine⟨fun q hm=> ?_,h.2⟩
  rcases List.mem_append.1 hm with hm | hm
  ·exact h.1 q hm
  ·rw[List.mem_singleton.1 hm];exact hu
 | some q=>exact⟨h.1,vL _ _ _ (h.1 q (List.mem_of_find?_eq_some hq)) hu h.2⟩
theorem BK {Q:Vr→Prop} {g:Tm→U→bF→bF}:∀(ps:List Tm) (us:List U) (l:bF),(∀p∈ps,∀u∈us,∀l:bF,l.kx Q→(g p u l).kx Q)→l.kx Q→(cF g ps us l).kx Q
 | p :: ps,u :: us,l,hg,h=>by
  rw[cF]
  exact BK ps us (g p u l) (fun q hq v hv=>hg q (by simp[hq]) v (by simp[hv])) (hg p (by simp) u (by simp) l h)
 | [],[],l,_,h=>by simpa [cF] using h
 | [],_ :: _,l,_,h=>by simpa [cF] using h
 | _ :: _,[],l,_,h=>by simpa [cF] using h
theorem mH {Q:Vr→Prop}:∀(f:Nat) (p:Tm) (u:U) (l:bF),bj Q u→l.kx Q→(matU f p u l).kx Q
 | 0,_,_,l,_,h=>by unfold matU;exact h
 | f+1,p,u,l,hu,h=>by
  by_cases k:p.kind=3
  ·rw[mD u l k];exact h.meet _ hu
  ·cases u with
   | v x=>rw[kW x l k];exact⟨h.1,h.2.wait hu.var⟩
   | n kk tx num ss=>
    by_cases hr:gJ p=(kk,tx,num)∧p.args.length=ss.length
    ·rw[kX l k hr]
     exact BK p.args ss l (fun q _ v hv l hl=>mH f q v l (hu.args v hv) hl) h
    ·rw[mE l k hr];exact⟨h.1,h.2.bad⟩
theorem Ec {Q:Vr→Prop} {η:List UInt8→U} (h:∀y,bj Q (η y)):∀(f:Nat) (t:Tm),wfK f t→bj Q (bA η f t)
 | f+1,t,hw=>by
  unfold bA
  split
  ·exact h _
  ·split
   ·exact .n (fun a ha=>by cases ha)
   ·refine .n fun a ha=> ?_
    obtain⟨s,hs,rfl⟩:=List.mem_map.1 ha
    exact Ec h f s (hw.2.2.2 s hs)
theorem oZ {Q:Vr→Prop} {η:List UInt8→U} (f:Nat) (t:Tm) (ns:List (List UInt8)) (hw:wfK f t) (h:∀y∈namesF f ns t,bj Q (η y)):bj Q (bA η f t):=by
 rw[gQ (θ:=fun y=>if y∈namesF f ns t then η y else .n 0 [] 0 []) f t ns hw (fun y hy=>(if_pos hy).symm)]
 refine Ec (fun y=> ?_) f t hw
 split
 ·rename_i q;exact h y q
 ·exact .n (fun a ha=>by cases ha)
theorem xg {Q:Vr→Prop} {u v:U} (hu:bj Q u) (hv:bj Q v):(lF u v).eK Q:=vL u v _ hu hv (dt Q)
theorem xh {Q:Vr→Prop} {η:List UInt8→U} (x:aC) (ns:List (List UInt8)) (hx:gZ x) (h:∀y∈aK ns x,bj Q (η y)):(dx η x).eK Q:=by
 have hl:∀y∈namesF 8 ns x.left,bj Q (η y):=fun y hy=>h y (by
  unfold aK
  rw[hx.la]
  cases hr:x.right with
  | none=>exact hy
  | some r=>
   obtain⟨K,hK⟩:=namesV_ext 8 r (namesF 8 ns x.left)
   show y∈namesF 8 (namesF 8 ns x.left) r
   rw[hK]
   exact List.mem_append_left _ hy)
 have q:=oZ 8 x.left ns hx.wl hl
 unfold dx
 cases hr:x.right with
 | none=>
  dsimp only
  split
  ·rename_i _ _ _ u he
   rw[he]at q
   have hu:=q.args u (by simp)
   cases u with
   | v x=>
    intro w hw
    have:w=x.2:=by simpa [tsInt] using hw
    exact⟨x,hu.var,this.symm⟩
   | n k tx num ss=>intro w hw;simp[tsInt]at hw
  ·exact dt Q
 | some r=>
  have q2:=oZ (η:=η) 8 r (namesF 8 ns x.left) (hx.wr r hr) (fun y hy=>h y (by unfold aK;rw[hx.la,hr];exact hy))
  dsimp only
  split
  ·exact xg q q2
  ·split
   ·unfold qp
    split
    ·intro w hw;cases hw
    ·split
     ·exact dt Q
     ·exact xg q q2
   ·unfold wN
    split
    ·intro w hw;cases hw
    ·exact((dt Q).bI q).bI q2
theorem Wn.eK.also {Q:Vr→Prop} {l m:Wn} (h:l.eK Q) (k:m.eK Q):(l.also m).eK Q:=by
 have key:∀(xs ws:List Nat),(∀w∈xs,∃x,Q x∧x.2=w)→(∀w∈ws,∃x,Q x∧x.2=w)→∀w∈xs.foldl fy ws,∃x,Q x∧x.2=w:=by
  intro xs
  induction xs with
  | nil=>intro ws _ h2;exact h2
  | cons y ys ih=>
   intro ws h1 h2
   rw[List.foldl_cons]
   refine ih _ (fun w hw=>h1 w (by simp[hw])) (fun w hw=> ?_)
   unfold fy at hw
   split at hw
   ·exact h2 w hw
   ·rcases List.mem_append.1 hw with q | q
    ·exact h2 w q
    ·rw[List.mem_singleton.1 q];exact h1 y (by simp)
 exact key m.wt l.wt k h
theorem ye {Q:Vr→Prop} {η:List UInt8→U} (xs:List aC) (ns:List (List UInt8)) (hx:∀x∈xs,gZ x) (h:∀y∈ay ns xs,bj Q (η y)):(iB η xs).eK Q:=by
 have key:∀(xs:List aC) (l:Wn),l.eK Q→(∀x∈xs,(dx η x).eK Q)→(ji (dx η) xs l).eK Q:=by
  intro xs
  induction xs with
  | nil=>intro l hl _;exact hl
  | cons y ys ih=>intro l hl hy;exact ih _ (hl.also (hy y (by simp))) (fun x hx=>hy x (by simp[hx]))
 refine key xs _ (dt Q) fun x hm=> ?_
 obtain⟨ns',hn⟩:=fk xs ns x hm
 exact xh x ns' (hx x hm) fun y hy=>h y (hn y hy)
theorem Ov {η:List UInt8→U} (xs:List aC) (ns:List (List UInt8)) (hx:∀x∈xs,gZ x) (h:∀y∈ay ns xs,size (η y)≤300):(iB η xs).wt.length≤xs.length*2000000:=by
 have key:∀(xs:List aC) (l:Wn),(∀x∈xs,(dx η x).wt.length≤2000000)→(ji (dx η) xs l).wt.length≤l.wt.length+xs.length*2000000:=by
  intro xs
  induction xs with
  | nil=>intro l _;simp[ji]
  | cons y ys ih=>
   intro l hy
   have h1:=ih (l.also (dx η y)) (fun x hx=>hy x (by simp[hx]))
   have h2:=KP l (dx η y)
   have h3:=hy y (by simp)
   rw[List.length_cons]
   show (ji (dx η) ys (l.also (dx η y))).wt.length≤_
   omega
 have:=key xs Wn.none (fun x hm=>by
  obtain⟨ns',hn⟩:=fk xs ns x hm
  exact Fq x ns' (hx x hm) fun y hy=>h y (hn y hy))
 have e0:Wn.none.wt.length=0:=rfl
 unfold iB
 omega
theorem dw.kx {G:List Gn} {fr:Nat→Nat} {T:Nat→U} (h:dw G fr T) {b:Nat} (hf:∀n,n<b→fr n<b) (ha:∀n,n<b→∀a∈ga G n,a<b):∀n,n<b→bj (fun x=>x.1=[]∧x.2<b∧fr x.2=x.2) (T n):=by
 have key:∀{n u},Tr G fr n u→n<b→bj (fun x=>x.1=[]∧x.2<b∧fr x.2=x.2) u:=by
  intro n u ht
  induction ht with
  | @var n _ _=>exact fun hn=> .v ⟨rfl,hf n hn,h.fronts.idem n⟩
  | @node n k tx num us hg hl _ ih=>
   intro hn
   refine .n fun u hu=> ?_
   obtain⟨i,hi,rfl⟩:=List.getElem_of_mem hu
   exact ih i _ us[i] (List.getElem?_eq_getElem (by omega)) (List.getElem?_eq_getElem hi) (ha _ (hf n hn) _ (List.getElem_mem _))
 exact fun n hn=>key (h.tr n) hn
end Za
