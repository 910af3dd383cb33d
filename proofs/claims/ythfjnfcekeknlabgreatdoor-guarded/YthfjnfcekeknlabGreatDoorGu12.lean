import Derived.Test.YthfjnfcekeknlabGreatDoorGu03
import Derived.Test.YthfjnfcekeknlabGreatDoorGu09
import Derived.Test.YthfjnfcekeknlabGreatDoorGu11
import Derived.Deep.LoopGhost
set_option maxHeartbeats 8000000
set_option maxRecDepth 100000
namespace Go.Proofs.YthfjnfcekeknlabGreatDoor
open Go.RowKit
def yt (l:Zf.Wn) (w:World) (e:Ending) (w':World):Prop:=
 ∃so sn sc wo wc,e= .returned (.agg #[.slice so sn sc,.slice wo l.wt.length wc,.bool l.no])∧w'.ownsRow w.heap.size 3 1 (.slice wo l.wt.length wc) l.wt.length (l.wt.map aJ)∧Below w.heap.size w w'
theorem AH (l:Zf.Wn):(if l.no=true then 2 else if l.wt=[]then 1 else 3:Int)=(l.says:Int):=by
 unfold Zf.Wn.says
 split
 ·rfl
 ·split<;>rfl
theorem Eg {w W:World} {lb:Nat} {S:List Int} {l:Zf.Wn} {so wo:Option Addr} {sc wc:Nat} (h:jC W lb S l.wt l.no so sc wo wc) (hl:w.heap.size<lb) (hb:Below w.heap.size w W):yt l w (.returned (.agg #[.slice so S.length sc,.slice wo l.wt.length wc,.bool l.no])) (((W.setCell ⟨w.heap.size,0,none⟩ (.slice so S.length sc)).setCell ⟨w.heap.size,1,none⟩ (.slice wo l.wt.length wc)).setCell ⟨w.heap.size,2,none⟩ (.bool l.no)):=by
 have jV:∀g,g≠w.heap.size→(((W.setCell ⟨w.heap.size,0,none⟩ (.slice so S.length sc)).setCell ⟨w.heap.size,1,none⟩ (.slice wo l.wt.length wc)).setCell ⟨w.heap.size,2,none⟩ (.bool l.no)).heap[g]?=W.heap[g]?:=fun g hg=>by rw[aC _ _ _ _ hg,aC _ _ _ _ hg,aC _ _ _ _ hg]
 refine⟨so,S.length,sc,wo,wc,rfl,bV (ai h.wown (fun g q=>jV g fun e=> ?_)) (by omega),hb.os,hb.tape,hb.output,by simp only[bS];exact hb.size,fun k hk=>(jV k (by omega)).trans (hb.block k hk)⟩
 have:=(h.wown.lt g q).1
 omega
theorem lO {lb k:Nat} (h:k≠lb):¬eY lb none none k:=by
 rintro(e | ⟨p,e,_⟩ | ⟨p,e,_⟩)
 ·exact h e
 ·cases e
 ·cases e
theorem gj.up {u:World} {lb sb so:Nat} {cs:Array Value} {Ty:TypeId} {D:List Ng} {no:Option Addr} {nc:Nat} {fr:Nat→Nat} {T:Nat→Zf.U} {P:Nat→Prop} (h:gj u lb sb so cs Ty D no nc fr T P) {lb':Nat} (hl:u.heap.size≤lb'):gj u lb' sb so cs Ty D no nc fr T P:=⟨h.st,h.ok,h.to,h.ar,hl⟩
theorem gj.on {u:World} {lb sb so:Nat} {cs:Array Value} {Ty:TypeId} {D:List Ng} {no:Option Addr} {nc:Nat} {fr:Nat→Nat} {T:Nat→Zf.U} {P:Nat→Prop} (h:gj u lb sb so cs Ty D no nc fr T P) {w:World} (hb:Below u.heap.size u w):gj w w.heap.size sb so cs Ty D no nc fr T P:=⟨h.st.below hb,h.ok,h.to,h.ar.below hb,Nat.le_refl _⟩
theorem BL (w:World) (lb:Nat) (W:List Nat) (no:Bool) (so:Option Addr) (sn sc:Nat) (wo:Option Addr) (wc:Nat) (h:w.heap[lb]?=some (.cells #[.slice so sn sc,.slice wo W.length wc,.bool no] 102 (0,0))):
 Calls Tryz.prog 47 #[.pointer (some ⟨lb,0,none⟩)] w fun e w'=>e= .returned (.int .i64 (if no=true then 2 else if W=[]then 1 else 3))∧w'=w:=by
 have s1:=ah h 1
 have s2:=ah h 2
 have sz:=af h
 simp only[List.getElem?_toArray,List.getElem?_cons_zero,List.getElem?_cons_succ]at s1 s2
 clear h
 cases no with
 | true=>
  go_enter Tryz.func47,Tryz.ntmps47
  go_wp2_with fail
  go_ret
  exact⟨rfl,rfl⟩
 | false=>
  cases W with
  | nil=>
   go_enter Tryz.func47,Tryz.ntmps47
   go_wp2_with fail
   go_ret
   exact⟨rfl,rfl⟩
  | cons x W=>
   have t1:decide (0<W.length+1)=true:=by simp
   have t2:decide ((0:Int)<(W.length:Int)+1)=true:=by simp
   go_enter Tryz.func47,Tryz.ntmps47
   go_wp2_with fail
   go_ret
   exact⟨by simp,rfl⟩
end Go.Proofs.YthfjnfcekeknlabGreatDoor
namespace Zf
theorem O3 (u v:U):((Wn.none.aU u).aU v).no=false:=by rw[Wn.gT,Wn.gT];rfl
theorem La {u v:U} (h:((Wn.none.aU u).aU v).wt=[]):lW u=false∧lW v=false:=by
 cases u with
 | v x=>
  cases v with
  | v y=>
   exfalso
   simp only[Wn.aU,Wn.wait,Wn.none,cZ,List.not_mem_nil,if_false,List.nil_append,List.mem_singleton]at h
   split at h<;>simp at h
  | n k tx num ss=>simp[Wn.aU,Wn.wait,Wn.none,cZ]at h
 | n k tx num ss=>
  cases v with
  | v y=>simp[Wn.aU,Wn.wait,Wn.none,cZ]at h
  | n k' tx' num' ss'=>exact⟨rfl,rfl⟩
end Zf
namespace Go.Proofs.YthfjnfcekeknlabGreatDoor
open Go.RowKit
theorem jC.FL {w:World} {lb:Nat} {S:List Int} {T:List Nat} {no:Bool} {so:Option Addr} {sc:Nat} {wo:Option Addr} {wc:Nat} (h:jC w lb S T no so sc wo wc) (x:Bool):jC (w.setCell ⟨lb,2,none⟩ (.bool x)) lb S T x so sc wo wc∧aq (eY lb so wo) (eY lb so wo) w (w.setCell ⟨lb,2,none⟩ (.bool x)):=by
 refine⟨⟨?_,ai h.sown (fun g q=>aC _ _ _ _ (by have:=(h.sown.lt g q).1;omega)),ai h.wown (fun g q=>aC _ _ _ _ (by have:=(h.wown.lt g q).1;omega)),h.apart⟩,rfl,rfl,rfl,by rw[bS];exact Nat.le_refl _,fun k _ hr=>aC _ _ _ _ (fun e=>hr (Or.inl e)),fun _ q=>Or.inl q⟩
 have:=aw h.blk 2 (.bool x)
 simpa using this
theorem yt.alloc {l:Zf.Wn} {w W:World} {e:Ending} (h:yt l w e W) (X:Obj):yt l w e (W.alloc X):=by
 obtain⟨so,sn,sc,wo,wc,h1,h2,h3⟩:=h
 exact⟨so,sn,sc,wo,wc,h1,ai h2 (fun g q=>Below.heap_alloc _ _ _ (h2.lt g q).2),h3.alloc h3.size X⟩
theorem cV {w W:World} {S:List Int} {xo yo:Option Addr} {xc yc:Nat} (h:jC W (w.heap.size+1) S [] false xo xc yo yc) (hb:Below w.heap.size w W) (x:Bool) (X:Obj):yt ⟨[],x⟩ w (.returned (.agg #[.slice xo S.length xc,.slice yo 0 yc,.bool x])) (((((W.setCell ⟨w.heap.size+1,2,none⟩ (.bool x)).setCell ⟨w.heap.size,0,none⟩ (.slice xo S.length xc)).setCell ⟨w.heap.size,1,none⟩ (.slice yo 0 yc)).setCell ⟨w.heap.size,2,none⟩ (.bool x)).alloc X):=
 (Eg (l:=⟨[],x⟩) (h.FL x).1 (Nat.lt_succ_self _) (hb.setCell (Nat.le_succ _) _)).alloc _
def BM (eq:Bool):ByteArray:=if eq=true then⟨#[61,60]⟩else⟨#[60]⟩
theorem O4 {T:Nat→Zf.U} {a b len:Nat} {da db:Ng} {eq:Bool} (_oa:fU len da) (_ob:fU len db) (k1:da.k≠1) (k2:db.k≠1) {ka:Nat} {xa:List UInt8} {ia:Int} (la:eJ da=some (ka,xa,ia)) (ea:T a= .n ka xa ia (da.args.map T)) {kb:Nat} {xb:List UInt8} {ib:Int} (lb:eJ db=some (kb,xb,ib)) (eb:T b= .n kb xb ib (db.args.map T)):Zf.kx eq (T a) (T b)=(decide (da.k=2)&&decide (db.k=2)&&(decide (da.val<db.val)||(eq&&decide (da.val=db.val)))):=by
 rw[ea,eb]
 unfold eJ at la lb
 rw[if_neg k1]at la
 rw[if_neg k2]at lb
 by_cases h1:da.k=2
 ·rw[if_pos h1]at la
  injection la with la
  injection la with u1 la
  injection la with u2 u3
  subst u1 u2 u3
  by_cases h2:db.k=2
  ·rw[if_pos h2]at lb
   injection lb with lb
   injection lb with v1 lb
   injection lb with v2 v3
   subst v1 v2 v3
   simp[Zf.kx,Zf.isNum,h1,h2]
  ·rw[if_neg h2]at lb
   injection lb with lb
   injection lb with v1 lb
   subst v1
   simp[Zf.kx,Zf.isNum,h1,h2]
 ·rw[if_neg h1]at la
  injection la with la
  injection la with u1 la
  subst u1
  simp[Zf.kx,Zf.isNum,h1]
theorem BO (w:World) (sb so:Nat) (cs:Array Value) (Ty:TypeId) (D:List Ng) (no:Option Addr) (nc:Nat) (fr:Nat→Nat) (T:Nat→Zf.U) (P:Nat→Prop) (a b:Nat) (eq:Bool) (hG:gj w w.heap.size sb so cs Ty D no nc fr T P) (ha:a<D.length) (hb:b<D.length):
 Calls Tryz.prog 206 #[.pointer (some ⟨sb,so,none⟩),.int .i64 (a:Int),.string (BM eq),.int .i64 (b:Int)] w fun e w'=>yt (Zf.bh eq (T a) (T b)) w e w':=by
 have hl0:=qZ (w.alloc (.cells #[.slice none 0 0,.slice none 0 0,.bool false] 102))
 rw[World.size_alloc]at hl0
 have hu0:=((Below.refl w.heap.size w).alloc (Nat.le_refl _) (.cells #[.slice none 0 0,.slice none 0 0,.bool false] 102)).alloc (by simp) (.cells #[.slice none 0 0,.slice none 0 0,.bool false] 102)
 have r0:=(Below.heap_alloc (w.alloc (.cells #[.slice none 0 0,.slice none 0 0,.bool false] 102)) (.cells #[.slice none 0 0,.slice none 0 0,.bool false] 102) w.heap.size (by simp)).trans (heap_alloc_new w (.cells #[.slice none 0 0,.slice none 0 0,.bool false] 102))
 obtain⟨ka,hka⟩:=hG.ok.hop a ha
 obtain⟨kb,hkb⟩:=hG.ok.hop b hb
 obtain⟨da,fV,oa,_,_,na⟩:=hG.node ha
 obtain⟨db,fW,ob,_,_,nb⟩:=hG.node hb
 have va:=hG.lW ha fV
 have vb:=hG.lW hb fW
 have LA:=hide (fun W (hu:Below w.heap.size w W)=>dS W sb so cs Ty D no nc a (fr a) ka da (hG.at hu) hka fV)
 have LB:=hide (fun W (hu:Below w.heap.size w W)=>dS W sb so cs Ty D no nc b (fr b) kb db (hG.at hu) hkb fW)
 have WA:=hide (jF _ (w.heap.size+1) sb so cs Ty D no nc _ [] [] false a (fr a) ka da (T a) (hG.at hu0) hka fV va.2 (fun q=>Bool.eq_false_iff.2 fun r=>q (va.1.2 r)) hl0 (by simp))
 have WB:=hide (fun W (k:Zf.Wn) R (hu:Below w.heap.size w W) (h:cO W (w.heap.size+1) [] k.wt false R) (hl:k.wt.length≤100000000)=>jF W (w.heap.size+1) sb so cs Ty D no nc R [] k.wt false b (fr b) kb db (T b) (hG.at hu) hkb fW vb.2 (fun q=>Bool.eq_false_iff.2 fun r=>q (vb.1.2 r)) h hl)
 have jw:=hide r0
 have qG:=hide hl0
 have rS:=hide hu0
 have HO:=hide (show ((Zf.Wn.none.aU (T a)).aU (T b)).wt=[]→da.k≠1∧db.k≠1∧Zf.kx eq (T a) (T b)=(decide (da.k=2)&&decide (db.k=2)&&(decide (da.val<db.val)||(eq&&decide (da.val=db.val))))from fun q=>by
  obtain⟨q1,q2⟩:=Zf.La q
  have k1:da.k≠1:=fun e=>by have:=va.1.1 e;rw[q1]at this;cases this
  have k2:db.k≠1:=fun e=>by have:=vb.1.1 e;rw[q2]at this;cases this
  obtain⟨_,_,_,la,ea⟩:=na k1
  obtain⟨_,_,_,lb,eb⟩:=nb k2
  exact⟨k1,k2,O4 oa ob k1 k2 la ea lb eb⟩)
 have sS:=hide (show (Zf.Wn.none.aU (T a)).wt.length≤100000000 from Nat.le_trans (Zf.Wn.jm _ _) (by simp[Zf.Wn.none]))
 have BD:=hide (And.intro oa.ks ob.ks)
 have cm:=hide (show ((Zf.Wn.mk (Zf.Wn.none.aU (T a)).wt false).aU (T b)).wt=((Zf.Wn.none.aU (T a)).aU (T b)).wt by
  have:Zf.Wn.mk (Zf.Wn.none.aU (T a)).wt false=Zf.Wn.none.aU (T a):=by cases T a<;>rfl
  rw[this])
 have cH:=hide (show Zf.bh eq (T a) (T b)=if((Zf.Wn.none.aU (T a)).aU (T b)).wt=[]then⟨[],!(Zf.kx eq (T a) (T b))⟩else(Zf.Wn.none.aU (T a)).aU (T b)from rfl)
 have gf:=hide (Zf.O3 (T a) (T b))
 clear hG r0 hl0 hu0 fV fW oa ob na nb va vb hka hkb
 go_enter Tryz.func206,Tryz.ntmps206
 go_wp2_with fail
 refine(ae WA).mono ?_
 rintro e w2 ⟨rfl,R2,h2,fr2⟩
 have hb2:=(ae qG).under fr2 (ae rS) (by omega)
 have q2:=(fr2.block w.heap.size (by simp only[World.size_alloc];omega) (lO (by omega))).trans (ae jw)
 have n2:=fr2.not (k:=w.heap.size) (by simp only[World.size_alloc];omega) (lO (by omega))
 change cO w2 _ _ (Zf.Wn.none.aU (T a)).wt _ _ at h2
 have pU:=hide q2
 have nG:=hide n2
 have aP:=hide hb2
 have H2:=hide h2
 clear q2 n2 hb2 h2 fr2
 go_wp2_with fail
 refine(ae WB _ (Zf.Wn.none.aU (T a)) _ (ae aP) (ae H2) (ae sS)).mono ?_
 rintro e w3 ⟨rfl,R3,h3,fr3⟩
 have hb3:=(ae H2).under fr3 (ae aP) (by omega)
 have q3:=(fr3.block w.heap.size (af (ae pU)) (ae nG)).trans (ae pU)
 rw[ae cm]at h3
 generalize hL:(Zf.Wn.none.aU (T a)).aU (T b)=l at*
 obtain⟨lw,ln⟩:=l
 obtain rfl:ln=false:=ae gf
 clear hL gf cm sS WA WB qG rS H2 aP nG pU fr3
 dsimp only at h3 HO cH
 obtain⟨xo,xc,yo,yc,h3,rfl⟩:=h3
 have bu:=hide hb3
 have c0:=ah h3.blk 0
 have c1:=ah h3.blk 1
 have c2:=ah h3.blk 2
 have cf:=au h3.blk 2
 have cz:=af h3.blk
 have d0:=ah q3
 have x0:=au q3
 have dz:=af q3
 simp only[List.getElem?_toArray,List.getElem?_cons_zero,List.getElem?_cons_succ]at c0 c1 c2
 have H3:=hide h3
 have Ni:=hide q3
 clear h3 hb3 q3
 cases lw with
 | cons x lw=>
  have t1:decide (0<lw.length+1)=true:=by simp
  have t2:decide ((0:Int)<(lw.length:Int)+1)=true:=by simp
  rw[if_neg (by simp)]at cH
  go_wp2_with fail
  refine bodyPost_ret (v:= .agg #[.slice xo ([]:List Int).length xc,.slice yo (x :: lw).length yc,.bool false]) (by simp[results,Tryz.results206,go_sem,d0]) rfl ?_
  rw[ae cH]
  exact Eg (l:=⟨x :: lw,false⟩) (ae H3) (by omega) (ae bu)
 | nil=>
  obtain⟨k1,k2,ho⟩:=ae HO rfl
  rw[if_pos rfl,ho]at cH
  clear ho HO
  go_wp2_with fail
  refine(ae LA _ (ae bu)).mono ?_
  rintro e w4 ⟨rfl,hb4⟩
  have z4:=hb4.size
  have cu:=hide ((ae bu).trans (hb4.mono (ae bu).size))
  have Un:=hide hb4
  have g4:w.heap.size≤w4.heap.size:=(ae cu).size
  clear hb4 c0 c1 c2 cf d0 x0
  go_wp2_with fail
  refine(ae LB _ ((ae cu).alloc g4 _)).mono ?_
  rintro e w5 ⟨rfl,bf⟩
  have z5:=bf.size
  rw[World.size_alloc]at z5
  have zz:w4.heap.size<w5.heap.size:=z5
  have f0:=(bf.cell (p:=⟨w4.heap.size,0,none⟩) (by simp)).trans (ah (heap_alloc_new w4 _) 0)
  have f1:=(bf.cell (p:=⟨w4.heap.size,1,none⟩) (by simp)).trans (ah (heap_alloc_new w4 _) 1)
  simp only[List.getElem?_toArray,List.getElem?_cons_zero,List.getElem?_cons_succ]at f0 f1
  have FM:=((ae Un).alloc z4 (.cells #[.int .i64 da.k,.int .i64 da.val,.string da.tx,.int .i64 (da.cnt:Int)] 144)).trans (bf.mono (by rw[World.size_alloc];omega))
  have h5:=(ae H3).keep (w':=w5) (fun k q=>FM.block k ((ae H3).rows k q).2)
  have q5:=(FM.block _ dz).trans (ae Ni)
  have bj:=hide ((ae bu).trans (FM.mono (ae bu).size))
  have c0:=ah h5.blk 0
  have c1:=ah h5.blk 1
  have c2:=ah h5.blk 2
  have cf:=au h5.blk 2
  have cz5:=af h5.blk
  have d0:=ah q5
  have x0:=au q5
  have dz5:=af q5
  simp only[List.getElem?_toArray,List.getElem?_cons_zero,List.getElem?_cons_succ]at c0 c1 c2
  have H5:=hide h5
  clear h5 q5 FM bf Un cu bu H3 Ni LA LB
  obtain⟨ak,av,ax,ac,ao,ap,ag,an,am⟩:=da
  obtain⟨bk,bv,bx,bc,bo,bp,bg,bn,bm⟩:=db
  dsimp only at k1 k2 cH BD f0 f1
  have hk1:ak=2∨ak=3:=(ae BD).1.resolve_left k1
  have hk2:bk=2∨bk=3:=(ae BD).2.resolve_left k2
  have hc:(av<bv)∨(av=bv)∨(bv<av):=by omega
  have he:eq=true∨eq=false:=by cases eq<;>simp
  clear k1 k2 BD
  rcases he with rfl | rfl
  ·simp only[BM]
   rcases hk1 with rfl | rfl
   ·rcases hk2 with rfl | rfl
    ·rcases hc with hc | rfl | hc
     ·have t1:decide (av<bv)=true:=by simpa using hc
      have hx:=hide (show Zf.bh true (T a) (T b)=⟨[],false⟩by rw[ae cH];simp[hc])
      clear hc cH
      go_wp2_with fail
      refine bodyPost_ret (v:= .agg #[.slice xo 0 xc,.slice yo 0 yc,.bool false]) (by simp[results,Tryz.results206,go_sem,d0,dz5,World.cell?_alloc_past]) rfl ?_
      rw[ae hx]
      exact cV (ae H5) (ae bj) _ _
     ·have t1:decide (av<av)=false:=by simp
      have hx:=hide (show Zf.bh true (T a) (T b)=⟨[],false⟩by rw[ae cH];simp)
      clear cH
      go_wp2_with fail
      refine bodyPost_ret (v:= .agg #[.slice xo 0 xc,.slice yo 0 yc,.bool false]) (by simp[results,Tryz.results206,go_sem,d0,dz5,World.cell?_alloc_past]) rfl ?_
      rw[ae hx]
      exact cV (ae H5) (ae bj) _ _
     ·have t1:decide (av<bv)=false:=by(simp;omega)
      have t2:(av == bv)=false:=by(simp;omega)
      have hx:=hide (show Zf.bh true (T a) (T b)=⟨[],true⟩by rw[ae cH];simp[show¬av<bv by omega,show¬av=bv by omega])
      clear hc cH
      go_wp2_with fail
      refine bodyPost_ret (v:= .agg #[.slice xo 0 xc,.slice yo 0 yc,.bool true]) (by simp[results,Tryz.results206,go_sem,d0,dz5,World.cell?_alloc_past]) rfl ?_
      rw[ae hx]
      exact cV (ae H5) (ae bj) _ _
    ·rcases hc with hc | rfl | hc
     ·have t1:decide (av<bv)=true:=by simpa using hc
      have hx:=hide (show Zf.bh true (T a) (T b)=⟨[],true⟩by rw[ae cH];simp)
      clear hc cH
      go_wp2_with fail
      refine bodyPost_ret (v:= .agg #[.slice xo 0 xc,.slice yo 0 yc,.bool true]) (by simp[results,Tryz.results206,go_sem,d0,dz5,World.cell?_alloc_past]) rfl ?_
      rw[ae hx]
      exact cV (ae H5) (ae bj) _ _
     ·have t1:decide (av<av)=false:=by simp
      have hx:=hide (show Zf.bh true (T a) (T b)=⟨[],true⟩by rw[ae cH];simp)
      clear cH
      go_wp2_with fail
      refine bodyPost_ret (v:= .agg #[.slice xo 0 xc,.slice yo 0 yc,.bool true]) (by simp[results,Tryz.results206,go_sem,d0,dz5,World.cell?_alloc_past]) rfl ?_
      rw[ae hx]
      exact cV (ae H5) (ae bj) _ _
     ·have t1:decide (av<bv)=false:=by(simp;omega)
      have t2:(av == bv)=false:=by(simp;omega)
      have hx:=hide (show Zf.bh true (T a) (T b)=⟨[],true⟩by rw[ae cH];simp)
      clear hc cH
      go_wp2_with fail
      refine bodyPost_ret (v:= .agg #[.slice xo 0 xc,.slice yo 0 yc,.bool true]) (by simp[results,Tryz.results206,go_sem,d0,dz5,World.cell?_alloc_past]) rfl ?_
      rw[ae hx]
      exact cV (ae H5) (ae bj) _ _
   ·rcases hk2 with rfl | rfl
    ·rcases hc with hc | rfl | hc
     ·have t1:decide (av<bv)=true:=by simpa using hc
      have hx:=hide (show Zf.bh true (T a) (T b)=⟨[],true⟩by rw[ae cH];simp)
      clear hc cH
      go_wp2_with fail
      refine bodyPost_ret (v:= .agg #[.slice xo 0 xc,.slice yo 0 yc,.bool true]) (by simp[results,Tryz.results206,go_sem,d0,dz5,World.cell?_alloc_past]) rfl ?_
      rw[ae hx]
      exact cV (ae H5) (ae bj) _ _
     ·have t1:decide (av<av)=false:=by simp
      have hx:=hide (show Zf.bh true (T a) (T b)=⟨[],true⟩by rw[ae cH];simp)
      clear cH
      go_wp2_with fail
      refine bodyPost_ret (v:= .agg #[.slice xo 0 xc,.slice yo 0 yc,.bool true]) (by simp[results,Tryz.results206,go_sem,d0,dz5,World.cell?_alloc_past]) rfl ?_
      rw[ae hx]
      exact cV (ae H5) (ae bj) _ _
     ·have t1:decide (av<bv)=false:=by(simp;omega)
      have t2:(av == bv)=false:=by(simp;omega)
      have hx:=hide (show Zf.bh true (T a) (T b)=⟨[],true⟩by rw[ae cH];simp)
      clear hc cH
      go_wp2_with fail
      refine bodyPost_ret (v:= .agg #[.slice xo 0 xc,.slice yo 0 yc,.bool true]) (by simp[results,Tryz.results206,go_sem,d0,dz5,World.cell?_alloc_past]) rfl ?_
      rw[ae hx]
      exact cV (ae H5) (ae bj) _ _
    ·rcases hc with hc | rfl | hc
     ·have t1:decide (av<bv)=true:=by simpa using hc
      have hx:=hide (show Zf.bh true (T a) (T b)=⟨[],true⟩by rw[ae cH];simp)
      clear hc cH
      go_wp2_with fail
      refine bodyPost_ret (v:= .agg #[.slice xo 0 xc,.slice yo 0 yc,.bool true]) (by simp[results,Tryz.results206,go_sem,d0,dz5,World.cell?_alloc_past]) rfl ?_
      rw[ae hx]
      exact cV (ae H5) (ae bj) _ _
     ·have t1:decide (av<av)=false:=by simp
      have hx:=hide (show Zf.bh true (T a) (T b)=⟨[],true⟩by rw[ae cH];simp)
      clear cH
      go_wp2_with fail
      refine bodyPost_ret (v:= .agg #[.slice xo 0 xc,.slice yo 0 yc,.bool true]) (by simp[results,Tryz.results206,go_sem,d0,dz5,World.cell?_alloc_past]) rfl ?_
      rw[ae hx]
      exact cV (ae H5) (ae bj) _ _
     ·have t1:decide (av<bv)=false:=by(simp;omega)
      have t2:(av == bv)=false:=by(simp;omega)
      have hx:=hide (show Zf.bh true (T a) (T b)=⟨[],true⟩by rw[ae cH];simp)
      clear hc cH
      go_wp2_with fail
      refine bodyPost_ret (v:= .agg #[.slice xo 0 xc,.slice yo 0 yc,.bool true]) (by simp[results,Tryz.results206,go_sem,d0,dz5,World.cell?_alloc_past]) rfl ?_
      rw[ae hx]
      exact cV (ae H5) (ae bj) _ _
  ·simp only[BM]
   rcases hk1 with rfl | rfl
   ·rcases hk2 with rfl | rfl
    ·rcases hc with hc | rfl | hc
     ·have t1:decide (av<bv)=true:=by simpa using hc
      have hx:=hide (show Zf.bh false (T a) (T b)=⟨[],false⟩by rw[ae cH];simp[hc])
      clear hc cH
      go_wp2_with fail
      refine bodyPost_ret (v:= .agg #[.slice xo 0 xc,.slice yo 0 yc,.bool false]) (by simp[results,Tryz.results206,go_sem,d0,dz5,World.cell?_alloc_past]) rfl ?_
      rw[ae hx]
      exact cV (ae H5) (ae bj) _ _
     ·have t1:decide (av<av)=false:=by simp
      have hx:=hide (show Zf.bh false (T a) (T b)=⟨[],true⟩by rw[ae cH];simp)
      clear cH
      go_wp2_with fail
      refine bodyPost_ret (v:= .agg #[.slice xo 0 xc,.slice yo 0 yc,.bool true]) (by simp[results,Tryz.results206,go_sem,d0,dz5,World.cell?_alloc_past]) rfl ?_
      rw[ae hx]
      exact cV (ae H5) (ae bj) _ _
     ·have t1:decide (av<bv)=false:=by(simp;omega)
      have t2:(av == bv)=false:=by(simp;omega)
      have hx:=hide (show Zf.bh false (T a) (T b)=⟨[],true⟩by rw[ae cH];simp[show¬av<bv by omega,show¬av=bv by omega])
      clear hc cH
      go_wp2_with fail
      refine bodyPost_ret (v:= .agg #[.slice xo 0 xc,.slice yo 0 yc,.bool true]) (by simp[results,Tryz.results206,go_sem,d0,dz5,World.cell?_alloc_past]) rfl ?_
      rw[ae hx]
      exact cV (ae H5) (ae bj) _ _
    ·rcases hc with hc | rfl | hc
     ·have t1:decide (av<bv)=true:=by simpa using hc
      have hx:=hide (show Zf.bh false (T a) (T b)=⟨[],true⟩by rw[ae cH];simp)
      clear hc cH
      go_wp2_with fail
      refine bodyPost_ret (v:= .agg #[.slice xo 0 xc,.slice yo 0 yc,.bool true]) (by simp[results,Tryz.results206,go_sem,d0,dz5,World.cell?_alloc_past]) rfl ?_
      rw[ae hx]
      exact cV (ae H5) (ae bj) _ _
     ·have t1:decide (av<av)=false:=by simp
      have hx:=hide (show Zf.bh false (T a) (T b)=⟨[],true⟩by rw[ae cH];simp)
      clear cH
      go_wp2_with fail
      refine bodyPost_ret (v:= .agg #[.slice xo 0 xc,.slice yo 0 yc,.bool true]) (by simp[results,Tryz.results206,go_sem,d0,dz5,World.cell?_alloc_past]) rfl ?_
      rw[ae hx]
      exact cV (ae H5) (ae bj) _ _
     ·have t1:decide (av<bv)=false:=by(simp;omega)
      have t2:(av == bv)=false:=by(simp;omega)
      have hx:=hide (show Zf.bh false (T a) (T b)=⟨[],true⟩by rw[ae cH];simp)
      clear hc cH
      go_wp2_with fail
      refine bodyPost_ret (v:= .agg #[.slice xo 0 xc,.slice yo 0 yc,.bool true]) (by simp[results,Tryz.results206,go_sem,d0,dz5,World.cell?_alloc_past]) rfl ?_
      rw[ae hx]
      exact cV (ae H5) (ae bj) _ _
   ·rcases hk2 with rfl | rfl
    ·rcases hc with hc | rfl | hc
     ·have t1:decide (av<bv)=true:=by simpa using hc
      have hx:=hide (show Zf.bh false (T a) (T b)=⟨[],true⟩by rw[ae cH];simp)
      clear hc cH
      go_wp2_with fail
      refine bodyPost_ret (v:= .agg #[.slice xo 0 xc,.slice yo 0 yc,.bool true]) (by simp[results,Tryz.results206,go_sem,d0,dz5,World.cell?_alloc_past]) rfl ?_
      rw[ae hx]
      exact cV (ae H5) (ae bj) _ _
     ·have t1:decide (av<av)=false:=by simp
      have hx:=hide (show Zf.bh false (T a) (T b)=⟨[],true⟩by rw[ae cH];simp)
      clear cH
      go_wp2_with fail
      refine bodyPost_ret (v:= .agg #[.slice xo 0 xc,.slice yo 0 yc,.bool true]) (by simp[results,Tryz.results206,go_sem,d0,dz5,World.cell?_alloc_past]) rfl ?_
      rw[ae hx]
      exact cV (ae H5) (ae bj) _ _
     ·have t1:decide (av<bv)=false:=by(simp;omega)
      have t2:(av == bv)=false:=by(simp;omega)
      have hx:=hide (show Zf.bh false (T a) (T b)=⟨[],true⟩by rw[ae cH];simp)
      clear hc cH
      go_wp2_with fail
      refine bodyPost_ret (v:= .agg #[.slice xo 0 xc,.slice yo 0 yc,.bool true]) (by simp[results,Tryz.results206,go_sem,d0,dz5,World.cell?_alloc_past]) rfl ?_
      rw[ae hx]
      exact cV (ae H5) (ae bj) _ _
    ·rcases hc with hc | rfl | hc
     ·have t1:decide (av<bv)=true:=by simpa using hc
      have hx:=hide (show Zf.bh false (T a) (T b)=⟨[],true⟩by rw[ae cH];simp)
      clear hc cH
      go_wp2_with fail
      refine bodyPost_ret (v:= .agg #[.slice xo 0 xc,.slice yo 0 yc,.bool true]) (by simp[results,Tryz.results206,go_sem,d0,dz5,World.cell?_alloc_past]) rfl ?_
      rw[ae hx]
      exact cV (ae H5) (ae bj) _ _
     ·have t1:decide (av<av)=false:=by simp
      have hx:=hide (show Zf.bh false (T a) (T b)=⟨[],true⟩by rw[ae cH];simp)
      clear cH
      go_wp2_with fail
      refine bodyPost_ret (v:= .agg #[.slice xo 0 xc,.slice yo 0 yc,.bool true]) (by simp[results,Tryz.results206,go_sem,d0,dz5,World.cell?_alloc_past]) rfl ?_
      rw[ae hx]
      exact cV (ae H5) (ae bj) _ _
     ·have t1:decide (av<bv)=false:=by(simp;omega)
      have t2:(av == bv)=false:=by(simp;omega)
      have hx:=hide (show Zf.bh false (T a) (T b)=⟨[],true⟩by rw[ae cH];simp)
      clear hc cH
      go_wp2_with fail
      refine bodyPost_ret (v:= .agg #[.slice xo 0 xc,.slice yo 0 yc,.bool true]) (by simp[results,Tryz.results206,go_sem,d0,dz5,World.cell?_alloc_past]) rfl ?_
      rw[ae hx]
      exact cV (ae H5) (ae bj) _ _
def Qj (lb:Nat) (S:List Int) (W X:List Nat) (no:Bool) (R:Nat→Prop) (w:World) (k:Nat) (iv:Value) (wr:World):Prop:=
 ∃(j:Nat) (R':Nat→Prop),k+j=X.length∧iv= .int .i64 (j:Int)∧cO wr lb S ((X.take j).foldl Zf.cZ W) no R'∧aq R R' w wr
theorem Lb (w:World) (lb:Nat) (S:List Int) (W X:List Nat) (no nb:Bool) (R:Nat→Prop) (so wo:Option Addr) (sn sc wc base:Nat) (h:cO w lb S W no R) (hx:w.ownsRow base 3 1 (.slice wo X.length wc) X.length (X.map aJ)) (hr:∀g,rowOf wo g→¬R g) (hl:W.length+X.length≤100000000):
 Calls Tryz.prog 193 #[.pointer (some ⟨lb,0,none⟩),.agg #[.slice so sn sc,.slice wo X.length wc,.bool nb]] w fun e w'=>e= .returned (.tuple #[])∧∃R',cO w' lb S (X.foldl Zf.cZ W) (no||nb) R'∧aq R R' w w':=by
 have hb1:=(Below.refl w.heap.size w).alloc (Nat.le_refl _) (.cells #[.slice so sn sc,.slice wo X.length wc,.bool nb] 102)
 obtain⟨po,pc,qo,qc,h1,e1⟩:=h.below hb1
 have e0:cO w lb S W no R:=h
 have c2:=ah h1.blk 2
 have cf:=au h1.blk 2
 have cz:=af h1.blk
 have ce:lb≠w.heap.size:=fun e=>by
  obtain⟨_,_,_,_,h0,_⟩:=h
  have:=af h0.blk
  omega
 simp only[List.getElem?_toArray,List.getElem?_cons_zero,List.getElem?_cons_succ]at c2
 have HST:=hide (show Qj lb S W X (no||nb) R w X.length (.int .i64 0) ((w.alloc (.cells #[.slice so sn sc,.slice wo X.length wc,.bool nb] 102)).setCell ⟨lb,2,none⟩ (.bool (no||nb)))from ⟨0,R,by omega,rfl,by simpa using ⟨po,pc,qo,qc,(h1.FL (no||nb)).1,e1⟩,e1 ▸ (aq.of_below hb1).trans (h1.FL (no||nb)).2⟩)
 have HX:=hide hx
 have HR:=hide hr
 clear h hx hr h1 e1 e0 hb1
 cases no with
 | false=>
  go_enter Tryz.func193,Tryz.ntmps193
  go_wp2_with fail
  go_loopg [20] X.length (fun k iv wr=>Qj lb S W X (false||nb) R w k iv wr)
  case atStart=>exact ae HST
  case round=>
   clear HST c2 cf cz
   obtain⟨j,R',hkj,rfl,hlo,ct⟩:=hrel
   by_cases hlt:j<X.length
   ·obtain⟨g,hg⟩:∃g,wo=some ⟨g,0,none⟩:=by
     rcases(ae HX).2 with⟨q,q2⟩ | ⟨g,cp,cur,q,_⟩
     ·omega
     ·simp only[Value.slice.injEq]at q
      exact⟨g,q.1⟩
    subst hg
    have gz0:=((ae HX).lt g rfl).2
    have f0:wr.cell? ⟨g,j,none⟩=some (.int .i64 (X[j]:Int)):=by
     rw[ct.cell (p:=⟨g,j,none⟩) gz0 (ae HR g ⟨_,rfl,rfl⟩),(ae HX).cellAt j (by omega),List.getElem?_map,List.getElem?_eq_getElem hlt]
     rfl
    have gz:g<wr.heap.size:=Nat.lt_of_lt_of_le gz0 ct.size
    have i0:(0:Int)≤(j:Int):=by omega
    have i1:(j:Int)<(X.length:Int):=by omega
    have iB:((X.take j).foldl Zf.cZ W).length≤100000000:=by
     have q1:=Zf.foldV_len (X.take j) W
     rw[List.length_take]at q1
     omega
    have hstep:(X.take (j+1)).foldl Zf.cZ W=yj ((X.take j).foldl Zf.cZ W) X[j]:=by
     rw[List.take_add_one,List.getElem?_eq_getElem hlt]
     simp only[Option.toList,List.foldl_append,List.foldl_cons,List.foldl_nil]
     rfl
    have IW:=hide (sO wr lb S ((X.take j).foldl Zf.cZ W) (false||nb) R' X[j] hlo iB)
    rw[←hstep]at IW
    have gB:=hide ct
    have aW:=hide hkj
    have ba:=hide hlt
    generalize X[j]=x at*
    clear hlo ct hkj hlt iB hstep gz0
    go_wp2_with fail
    refine(ae IW).mono ?_
    rintro e w6 ⟨rfl,R6,h6,fr6⟩
    have H6:=hide h6
    have BH:=hide ((ae gB).trans fr6)
    clear h6 fr6 IW
    go_wp2_with fail
    go_roundg (gk - 1)
    case measure=>have:=ae aW;have:=ae ba;omega
    case rel=>exact⟨j+1,R6,by have:=ae aW;have:=ae ba;omega,by go_num,ae H6,ae BH⟩
   ·have gB:=hide ct
    rw[List.take_of_length_le (by omega)]at hlo
    have lM:=hide hlo
    obtain rfl:j=X.length:=by omega
    clear hlo ct hkj hlt
    go_wp2_with fail
    go_end0
    exact⟨rfl,R',ae lM,ae gB⟩
 | true=>
  go_enter Tryz.func193,Tryz.ntmps193
  go_wp2_with fail
  go_loopg [20] X.length (fun k iv wr=>Qj lb S W X (true||nb) R w k iv wr)
  case atStart=>exact ae HST
  case round=>
   clear HST c2 cf cz
   obtain⟨j,R',hkj,rfl,hlo,ct⟩:=hrel
   by_cases hlt:j<X.length
   ·obtain⟨g,hg⟩:∃g,wo=some ⟨g,0,none⟩:=by
     rcases(ae HX).2 with⟨q,q2⟩ | ⟨g,cp,cur,q,_⟩
     ·omega
     ·simp only[Value.slice.injEq]at q
      exact⟨g,q.1⟩
    subst hg
    have gz0:=((ae HX).lt g rfl).2
    have f0:wr.cell? ⟨g,j,none⟩=some (.int .i64 (X[j]:Int)):=by
     rw[ct.cell (p:=⟨g,j,none⟩) gz0 (ae HR g ⟨_,rfl,rfl⟩),(ae HX).cellAt j (by omega),List.getElem?_map,List.getElem?_eq_getElem hlt]
     rfl
    have gz:g<wr.heap.size:=Nat.lt_of_lt_of_le gz0 ct.size
    have i0:(0:Int)≤(j:Int):=by omega
    have i1:(j:Int)<(X.length:Int):=by omega
    have iB:((X.take j).foldl Zf.cZ W).length≤100000000:=by
     have q1:=Zf.foldV_len (X.take j) W
     rw[List.length_take]at q1
     omega
    have hstep:(X.take (j+1)).foldl Zf.cZ W=yj ((X.take j).foldl Zf.cZ W) X[j]:=by
     rw[List.take_add_one,List.getElem?_eq_getElem hlt]
     simp only[Option.toList,List.foldl_append,List.foldl_cons,List.foldl_nil]
     rfl
    have IW:=hide (sO wr lb S ((X.take j).foldl Zf.cZ W) (true||nb) R' X[j] hlo iB)
    rw[←hstep]at IW
    have gB:=hide ct
    have aW:=hide hkj
    have ba:=hide hlt
    generalize X[j]=x at*
    clear hlo ct hkj hlt iB hstep gz0
    go_wp2_with fail
    refine(ae IW).mono ?_
    rintro e w6 ⟨rfl,R6,h6,fr6⟩
    have H6:=hide h6
    have BH:=hide ((ae gB).trans fr6)
    clear h6 fr6 IW
    go_wp2_with fail
    go_roundg (gk - 1)
    case measure=>have:=ae aW;have:=ae ba;omega
    case rel=>exact⟨j+1,R6,by have:=ae aW;have:=ae ba;omega,by go_num,ae H6,ae BH⟩
   ·have gB:=hide ct
    rw[List.take_of_length_le (by omega)]at hlo
    have lM:=hide hlo
    obtain rfl:j=X.length:=by omega
    clear hlo ct hkj hlt
    go_wp2_with fail
    go_end0
    exact⟨rfl,R',ae lM,ae gB⟩
end Go.Proofs.YthfjnfcekeknlabGreatDoor
namespace Zf
def kj (V:List Nat) (h:Nat) (W:List Nat):List Nat:=W.filter fun n=> !decide (n∈V.drop h)
theorem Lc (V:List Nat) (h:Nat) (W:List Nat) (j:Nat) (hj:j<W.length):kj V h (W.take (j+1))=kj V h (W.take j)++(if W[j]∈V.drop h then []else [W[j]]):=by
 unfold kj
 rw[List.take_add_one,List.getElem?_eq_getElem hj,List.filter_append]
 congr 1
 simp only[Option.toList,List.filter_cons,List.filter_nil]
 by_cases q:W[j]∈V.drop h<;>simp[q]
end Zf
namespace Go.Proofs.YthfjnfcekeknlabGreatDoor
open Go.RowKit
theorem FO (w:World) (base:Nat) (V:List Nat) (vo:Option Addr) (vc n h:Nat) (hv:w.ownsRow base 3 1 (.slice vo V.length vc) V.length (V.map aJ)) (hl:V.length≤100000000):
 Calls Tryz.prog 207 #[.int .i64 (n:Int),.agg #[.slice vo V.length vc],.int .i64 (h:Int)] w fun e w'=>e= .returned (.bool (decide (n∈V.drop h)))∧Below w.heap.size w w':=by
 have HV:=hide hv
 have hb0:=(Below.refl w.heap.size w).alloc (Nat.le_refl _) (.cells #[.slice vo V.length vc] 90)
 have aS:=hide hb0
 clear hv hb0
 go_enter Tryz.func207,Tryz.ntmps207
 go_wp2_with fail
 go_loopg [12] V.length (fun k iv wr=>∃j:Nat,k+j=V.length∧iv= .int .i64 (j:Int)∧Below w.heap.size w wr∧n∉(V.take j).drop h)
 case atStart=>exact⟨0,by omega,rfl,ae aS,by simp⟩
 case round=>
  clear aS
  obtain⟨j,hkj,rfl,aT,hno⟩:=hrel
  by_cases hlt:j<V.length
  ·obtain⟨g,hg⟩:∃g,vo=some ⟨g,0,none⟩:=by
    rcases(ae HV).2 with⟨q,q2⟩ | ⟨g,cp,cur,q,_⟩
    ·omega
    ·simp only[Value.slice.injEq]at q
     exact⟨g,q.1⟩
   subst hg
   have gz0:=((ae HV).lt g rfl).2
   have f0:wr.cell? ⟨g,j,none⟩=some (.int .i64 (V[j]:Int)):=by
    rw[aT.cell (p:=⟨g,j,none⟩) gz0,(ae HV).cellAt j (by omega),List.getElem?_map,List.getElem?_eq_getElem hlt]
    rfl
   have gz:g<wr.heap.size:=Nat.lt_of_lt_of_le gz0 aT.size
   have i0:(0:Int)≤(j:Int):=by omega
   have i1:(j:Int)<(V.length:Int):=by omega
   have hst:V.take (j+1)=V.take j++[V[j]]:=by rw[List.take_add_one,List.getElem?_eq_getElem hlt];rfl
   have Qk:(V.take j).length=j:=by rw[List.length_take];omega
   by_cases hh:h≤j
   ·have t1:decide ((j:Int)≥(h:Int))=true:=by simp;omega
    have t1':decide ((h:Int)≤(j:Int))=true:=by simp;omega
    by_cases he:V[j]=n
    ·have oZ:=hide (show n∈V.drop h from by
      rw[List.mem_iff_getElem]
      exact⟨j - h,by rw[List.length_drop];omega,by rw[List.getElem_drop];rw[←he];congr 1;omega⟩)
     have cC:=hide aT
     rw[he]at f0
     clear he hno hkj hst aT
     go_wp2_with fail
     go_ret
     exact⟨by rw[decide_eq_true (ae oZ)];rfl,ae cC⟩
    ·have gf:=hide (show n∉(V.take (j+1)).drop h by
      rw[hst,List.drop_append_of_le_length (by omega)]
      simp only[List.mem_append,List.mem_singleton,not_or]
      exact⟨hno,fun q=>he q.symm⟩)
     have ba:=hide hlt
     have aW:=hide hkj
     have cC:=hide aT
     have t2:(((V[j]:Nat):Int) == ((n:Nat):Int))=false:=by simp;omega
     generalize V[j]=m at*
     clear he hno hkj hst aT
     go_wp2_with fail
     go_roundg (gk - 1)
     case measure=>have:=ae aW;have:=ae ba;omega
     case rel=>exact⟨j+1,by have:=ae aW;have:=ae ba;omega,by go_num,ae cC,ae gf⟩
   ·have t1:decide ((j:Int)≥(h:Int))=false:=by simp;omega
    have t1':decide ((h:Int)≤(j:Int))=false:=by simp;omega
    have gf:=hide (show n∉(V.take (j+1)).drop h by
     rw[List.drop_of_length_le (by rw[List.length_take];omega)]
     simp)
    have ba:=hide hlt
    have aW:=hide hkj
    have cC:=hide aT
    generalize V[j]=m at*
    clear hno hkj hst aT
    go_wp2_with fail
    go_roundg (gk - 1)
    case measure=>have:=ae aW;have:=ae ba;omega
    case rel=>exact⟨j+1,by have:=ae aW;have:=ae ba;omega,by go_num,ae cC,ae gf⟩
  ·have gf:=hide (show n∉V.drop h by rwa [List.take_of_length_le (by omega)]at hno)
   have cC:=hide aT
   clear hno aT
   obtain rfl:j=V.length:=by omega
   go_wp2_with fail
   go_ret
   exact⟨by rw[decide_eq_false (ae gf)];rfl,ae cC⟩
def Xm (w:World) (V:List Nat) (h:Nat) (W:List Nat) (C:Array Value) (k:Nat) (av iv:Value) (wr:World):Prop:=
 ∃j:Nat,k+j=W.length∧iv= .int .i64 (j:Int)∧wr.ownsRow (w.heap.size+1) 3 1 av (Zf.kj V h (W.take j)).length ((Zf.kj V h (W.take j)).map aJ)∧Below w.heap.size w wr∧wr.heap[w.heap.size]?=some (.cells C 90 (0,0))
theorem yu (w:World) (b1 b2:Nat) (W V:List Nat) (wo vo:Option Addr) (wc vc h:Nat) (hw:w.ownsRow b1 3 1 (.slice wo W.length wc) W.length (W.map aJ)) (hv:w.ownsRow b2 3 1 (.slice vo V.length vc) V.length (V.map aJ)) (Y0:W.length≤100000000) (hlv:V.length≤100000000):
 Calls Tryz.prog 194 #[.slice wo W.length wc,.agg #[.slice vo V.length vc],.int .i64 (h:Int)] w fun e w'=>∃oo oc,e= .returned (.slice oo (Zf.kj V h W).length oc)∧w'.ownsRow w.heap.size 3 1 (.slice oo (Zf.kj V h W).length oc) (Zf.kj V h W).length ((Zf.kj V h W).map aJ)∧Below w.heap.size w w':=by
 have HW:=hide hw
 have HV:=hide hv
 obtain⟨tj,hj,hy0,hy1,hy2⟩:=info_parts infoIn
 clear hw hv
 go_enter Tryz.func194,Tryz.ntmps194
 go_wp2_with fail
 go_loopg [7,12] W.length (fun k av iv wr=>Xm w V h W #[.slice vo V.length vc] k av iv wr)
 case atStart=>exact⟨0,by omega,rfl,by simpa [Zf.kj] using World.ownsRow_nil _ _ _ _,(Below.refl _ _).alloc (Nat.le_refl _) _,heap_alloc_new w _⟩
 case round=>
  obtain⟨j,hkj,rfl,how,aT,dN⟩:=hrel
  obtain⟨oo,oc,rfl⟩:=gH how
  have zx:=af dN
  have x0:=ah dN 0
  simp only[List.getElem?_toArray,List.getElem?_cons_zero]at x0
  by_cases hlt:j<W.length
  ·obtain⟨g,hg⟩:∃g,wo=some ⟨g,0,none⟩:=by
    rcases(ae HW).2 with⟨q,q2⟩ | ⟨g,cp,cur,q,_⟩
    ·omega
    ·simp only[Value.slice.injEq]at q
     exact⟨g,q.1⟩
   subst hg
   have gz0:=((ae HW).lt g rfl).2
   have f0:wr.cell? ⟨g,j,none⟩=some (.int .i64 (W[j]:Int)):=by
    rw[aT.cell (p:=⟨g,j,none⟩) gz0,(ae HW).cellAt j (by omega),List.getElem?_map,List.getElem?_eq_getElem hlt]
    rfl
   have gz:g<wr.heap.size:=Nat.lt_of_lt_of_le gz0 aT.size
   have i0:(0:Int)≤(j:Int):=by omega
   have i1:(j:Int)<(W.length:Int):=by omega
   have fx:=hide (Zf.Lc V h W j hlt)
   have IB:=hide (FO wr b2 V vo vc W[j] h (ai (ae HV) (fun k q=>aT.block k ((ae HV).lt k q).2)) hlv)
   have HOW:=hide how
   have cC:=hide aT
   have jZ:=hide dN
   have aW:=hide hkj
   have ba:=hide hlt
   have hle:(Zf.kj V h (W.take j)).length≤100000000:=by
    have q:=List.length_filter_le (fun n=> !decide (n∈V.drop h)) (W.take j)
    rw[List.length_take]at q
    unfold Zf.kj
    omega
   generalize W[j]=v at*
   generalize Zf.kj V h (W.take j)=Z at*
   clear how aT dN hkj hlt
   by_cases hm:v∈V.drop h
   ·rw[decide_eq_true hm]at IB
    rw[if_pos hm,List.append_nil]at fx
    clear hm
    go_wp2_with fail
    refine(ae IB).mono ?_
    rintro e w5 ⟨rfl,bf⟩
    have bj:=hide bf
    clear bf
    go_wp2_with fail
    go_roundg (gk - 1)
    case measure=>have:=ae aW;have:=ae ba;omega
    case rel=>exact⟨j+1,by have:=ae aW;have:=ae ba;omega,by go_num,by rw[ae fx];exact ai (ae HOW) (fun k q=>(ae bj).block k ((ae HOW).lt k q).2),(ae cC).trans ((ae bj).mono (ae cC).size),((ae bj).block _ zx).trans (ae jZ)⟩
   ·rw[decide_eq_false hm]at IB
    rw[if_neg hm]at fx
    clear hm
    go_wp2_with fail
    refine(ae IB).mono ?_
    rintro e w5 ⟨rfl,bf⟩
    have z5:=bf.size
    have mi:=hide (ai (ae HOW) (fun k q=>bf.block k ((ae HOW).lt k q).2))
    have vO:=hide ((ae cC).trans (bf.mono (ae cC).size))
    have BJ:=hide ((bf.block _ zx).trans (ae jZ))
    have zx5:=af (ae BJ)
    clear bf
    go_wp2_with (at_builtin;go_must (refine wpList_append_own_at _ rfl (.tmp 21) (.tmp 23) 25 rfl (w.heap.size+1) 3 tj (.int .i64 0) 1 8 Tryz.underlying25 hj hy0 hy1 hy2 rfl (by decide) _ Z.length (Z.map aJ) rfl ((ae mi).alloc _) ⟨w5.heap.size,0,none⟩ 1 1 [.int .i64 (v:Int)] rfl rfl (ju _ _ _ _ rfl) (by simp[Value.oneCell']) (by unfold maxLen;omega) (by omega) (by simp;omega) ?_);go_must (intro v' w7 hown' hgrow _ _;have mH:=hide hown';have o9:=hide (((ae vO).alloc (ae vO).size _).grown hgrow (by simp;omega) (fun k q=>by have:=((ae mi).lt k q).1;omega));have Ql:=hide ((hgrow.block w.heap.size (by simp;omega) (fun q=>by have:=((ae mi).lt _ q.symm).1;omega)).trans ((Below.heap_alloc _ _ _ zx5).trans (ae BJ)));clear hown' hgrow))
    go_roundg (gk - 1)
    case measure=>have:=ae aW;have:=ae ba;omega
    case rel=>exact⟨j+1,by have:=ae aW;have:=ae ba;omega,by go_num,by rw[ae fx];have:=ae mH;simpa [aJ] using this,ae o9,ae Ql⟩
  ·obtain rfl:j=W.length:=by omega
   rw[List.take_length]at how
   have HOW:=hide how
   have cC:=hide aT
   clear how aT dN hkj
   go_wp2_with fail
   go_ret
   exact⟨oo,oc,by first | rfl | (rw[List.take_length];rfl),by have:=bV (ae HOW) (Nat.le_succ _);exact this,ae cC⟩
def Uo (w:World) (V:List Nat) (k:Nat) (iv:Value) (wr:World):Prop:=
 ∃(j:Nat) (oo:Option Addr) (oc:Nat),k+j=V.length∧iv= .int .i64 (j:Int)∧wr.ownsRow (w.heap.size+2) 3 1 (.slice oo (V.take j).length oc) (V.take j).length ((V.take j).map aJ)∧Below w.heap.size w wr∧wr.heap[w.heap.size]?=some (.cells #[.slice none 0 0] 90 (0,0))∧wr.heap[w.heap.size+1]?=some (.cells #[.slice oo (V.take j).length oc] 90 (0,0))
theorem DB (w:World) (base:Nat) (V:List Nat) (vo:Option Addr) (vc:Nat) (hv:w.ownsRow base 3 1 (.slice vo V.length vc) V.length (V.map aJ)) (hlv:V.length≤100000000):
 Calls Tryz.prog 191 #[.slice vo V.length vc] w fun e w'=>∃oo oc,e= .returned (.agg #[.slice oo V.length oc])∧w'.ownsRow w.heap.size 3 1 (.slice oo V.length oc) V.length (V.map aJ)∧Below w.heap.size w w':=by
 have HV:=hide hv
 obtain⟨tj,hj,hy0,hy1,hy2⟩:=info_parts infoIn
 have HST:=hide (show Uo w V V.length (.int .i64 0) ((w.alloc (.cells #[.slice none 0 0] 90)).alloc (.cells #[.slice none 0 0] 90))from ⟨0,none,0,by omega,rfl,by simpa using World.ownsRow_nil _ _ _ _,((Below.refl _ _).alloc (Nat.le_refl _) _).alloc (by simp) _,(Below.heap_alloc _ _ _ (by simp)).trans (heap_alloc_new w _),by have:=heap_alloc_new (w.alloc (.cells #[.slice none 0 0] 90)) (.cells #[.slice none 0 0] 90);rw[World.size_alloc]at this;simpa using this⟩)
 clear hv
 go_enter Tryz.func191,Tryz.ntmps191
 go_wp2_with fail
 go_loopg [8] V.length (fun k iv wr=>Uo w V k iv wr)
 case atStart=>exact ae HST
 case round=>
  clear HST
  obtain⟨j,oo,oc,hkj,rfl,how,aT,hb0,hb1⟩:=hrel
  have z0:=af hb0
  have z1:=af hb1
  have x1:=ah hb1 0
  have xf:=au hb1 0
  simp only[List.getElem?_toArray,List.getElem?_cons_zero]at x1
  by_cases hlt:j<V.length
  ·obtain⟨g,hg⟩:∃g,vo=some ⟨g,0,none⟩:=by
    rcases(ae HV).2 with⟨q,q2⟩ | ⟨g,cp,cur,q,_⟩
    ·omega
    ·simp only[Value.slice.injEq]at q
     exact⟨g,q.1⟩
   subst hg
   have gz0:=((ae HV).lt g rfl).2
   have f0:wr.cell? ⟨g,j,none⟩=some (.int .i64 (V[j]:Int)):=by
    rw[aT.cell (p:=⟨g,j,none⟩) gz0,(ae HV).cellAt j (by omega),List.getElem?_map,List.getElem?_eq_getElem hlt]
    rfl
   have gz:g<wr.heap.size:=Nat.lt_of_lt_of_le gz0 aT.size
   have i0:(0:Int)≤(j:Int):=by omega
   have i1:(j:Int)<(V.length:Int):=by omega
   have fx:=hide (show V.take (j+1)=V.take j++[V[j]]by rw[List.take_add_one,List.getElem?_eq_getElem hlt];rfl)
   have HOW:=hide how
   have cC:=hide aT
   have aS:=hide hb0
   have bC:=hide hb1
   have aW:=hide hkj
   have ba:=hide hlt
   have hle:(V.take j).length≤100000000:=by rw[List.length_take];omega
   have sP:=hide (show some (w.heap.size+1)≠(Value.slice oo (V.take j).length oc).ownBlock from fun q=>by have:=(how.lt _ q.symm).1;omega)
   generalize V[j]=v at*
   generalize V.take j=Z at*
   clear how aT hb0 hb1 hkj hlt
   go_wp2_with (at_builtin;go_must (refine wpList_append_own_at _ rfl (.tmp 13) (.tmp 15) 25 rfl (w.heap.size+2) 3 tj (.int .i64 0) 1 8 Tryz.underlying25 hj hy0 hy1 hy2 rfl (by decide) _ Z.length (Z.map aJ) rfl ((ae HOW).alloc _) ⟨wr.heap.size,0,none⟩ 1 1 [.int .i64 (v:Int)] rfl rfl (ju _ _ _ _ rfl) (by simp[Value.oneCell']) (by unfold maxLen;omega) (by omega) (by simp;omega) ?_);go_must (intro v' w7 hown' hgrow _ _;obtain⟨g',cap',hv'⟩:=sN hown';subst hv';have mH:=hide hown';have o9:=hide (((ae cC).alloc (ae cC).size _).grown hgrow (by simp;omega) (fun k q=>by have:=((ae HOW).lt k q).1;omega));have Ql:=hide ((hgrow.block w.heap.size (by simp;omega) (fun q=>by have:=((ae HOW).lt _ q.symm).1;omega)).trans ((Below.heap_alloc _ _ _ z0).trans (ae aS)));have Ip:=(hgrow.block (w.heap.size+1) (by simp;omega) (ae sP)).trans ((Below.heap_alloc _ _ _ z1).trans (ae bC));have Xn:=hide Ip;have k0:=ah Ip 0;have kf:=au Ip 0;have zz7:=af Ip;simp only[List.getElem?_toArray,List.getElem?_cons_zero]at k0;clear hown' hgrow Ip))
   go_roundg (gk - 1)
   case measure=>have:=ae aW;have:=ae ba;omega
   case rel=>
    refine⟨j+1,some ⟨g',0,none⟩,cap',by have:=ae aW;have:=ae ba;omega,by go_num,?_,(ae o9).setCell (Nat.le_succ _) _,(aC _ _ _ _ (by omega)).trans (ae Ql),?_⟩
    ·rw[ae fx]
     have:=ai (ae mH) (w':=w7.setCell ⟨w.heap.size+1,0,none⟩ (.slice (some ⟨g',0,none⟩) (Z.length+1) cap')) (fun k q=>aC _ _ _ _ (by have:=((ae mH).lt k q).1;omega))
     simpa [aJ] using this
    ·rw[ae fx]
     have:=aw (ae Xn) 0 (.slice (some ⟨g',0,none⟩) (Z.length+1) cap')
     simpa using this
  ·obtain rfl:j=V.length:=by omega
   rw[List.take_length]at how x1
   have d0:=ah hb0
   have y0:=au hb0
   have HOW:=hide how
   have cC:=hide aT
   clear how aT hb0 hb1 hkj
   go_wp2_with fail
   refine bodyPost_ret (v:= .agg #[.slice oo V.length oc]) (by simp[results,Tryz.results191,go_sem,d0]) rfl ?_
   exact⟨oo,oc,rfl,ai (bV (ae HOW) (by omega)) (fun k q=>aC _ _ _ _ (by have:=((ae HOW).lt k q).1;omega)),(ae cC).setCell (Nat.le_refl _) _⟩
end Go.Proofs.YthfjnfcekeknlabGreatDoor
