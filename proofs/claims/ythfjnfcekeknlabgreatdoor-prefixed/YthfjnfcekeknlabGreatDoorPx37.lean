import Derived.Test.YthfjnfcekeknlabGreatDoorPx02
import Derived.Test.YthfjnfcekeknlabGreatDoorPx09
import Derived.Test.YthfjnfcekeknlabGreatDoorPx10
import Derived.Test.YthfjnfcekeknlabGreatDoorPx11
import Derived.Test.YthfjnfcekeknlabGreatDoorPx20
import Derived.Test.YthfjnfcekeknlabGreatDoorPx30
set_option maxHeartbeats 8000000
set_option maxRecDepth 100000
set_option linter.unusedSimpArgs false
set_option linter.unusedVariables false
namespace Go.Proofs.YthfjnfcekeknlabGreatDoor
open Go.RowKit af
theorem JG (w:World):mA (fun _=>True) ((w.alloc (.cells #[.slice none 0 0] 85)).alloc (.cells #[.slice none 0 0] 90)) w.heap.size 0 #[.slice none 0 0] 85 (w.heap.size+1) [] [] none 0 none 0:=by refine⟨⟨aQ (aB w _) _,rfl,bD _ _ _ _,by decide⟩,⟨?_,bD _ _ _ _⟩,by decide,by decide,fun d hd=>by cases hd⟩;have:=aB (w.alloc (.cells #[.slice none 0 0] 85)) (.cells #[.slice none 0 0] 90);rw[aF]at this;exact this
def Pn (w:World) (e:Ending) (w':World):Prop:=∃(n er:Nat),(er=0->n=1)/\e= .returned (.tuple #[.int .i64 (n:Int),.slice none 0 0,.int .i64 (er:Int)])/\Below w.heap.size w w'
theorem Np (w:World) (a b:ByteArray) (la lb:List bX) (hLa:eM a la) (hha:af.hd la=af.next a 0) (hla:a.size<=64->la.length<=1000) (hLb:eM b lb) (hhb:af.hd lb=af.next b 0) (hlb:b.size<=64->lb.length<=1000) (hsg:fu w) (h0:0<w.heap.size) (he:fe (xK a la) (xK b lb)≠0):
 Calls Tryz.prog 28 #[.string a,.string b] w fun e w'=>Pn w e w':=by
 have IA:=ah (wF w a la hLa hha hla hsg h0);have IB:=ah (fun w' (hb:Below w.heap.size w w')=>wF w' b lb hLb hhb hlb (hsg.below hb h0) (aJ h0 hb.size));have HE:=ah he;clear hLa hha hla hLb hhb hlb hsg he;go_enter Tryz.func28,Tryz.ntmps28;go_wp2_with fail;refine(ae IA).mono ?_;rintro e w1 ⟨x,xo,xl,xc,rfl,-,hb1⟩;have HB1:=ah (hb1.alloc hb1.size (.cells #[.int .i64 x.k,.int .i64 x.val,.string x.tx,.slice x.ao x.n x.cap,.slice xo xl xc,.int .i64 (xK a la:Int)] 97));have hz1:=hb1.size;clear hb1;generalize xK a la=ea at*;go_wp2_with fail;refine(ae IB _ (ae HB1)).mono ?_;rintro e w2 ⟨y,yo,yl,yc,rfl,-,hb2⟩;have f5:=(hb2.cell (p:=⟨w1.heap.size,5,none⟩) (by simp)).trans (aN (aB w1 _) 5);simp only[aE,aq,aA]at f5;have hz2:=hb2.size;rw[aF]at hz2;have z5:w1.heap.size<w2.heap.size:=by omega
 have HB2:=ah ((ae HB1).trans (hb2.mono (by rw[aF];omega)));clear hb2;generalize xK b lb=eb at*;go_wp2_with fail;refine(nf _ ea eb).mono ?_;rintro e w3 ⟨rfl,rfl⟩;have hne:((fe ea eb:Int) != 0)=true:=by simpa using ae HE
 generalize fe ea eb=er at*;go_wp2_with fail;refine aI (v:= .tuple #[.int .i64 0,.slice none 0 0,.int .i64 er]) (by simp[results,Tryz.results28,go_sem]) rfl ?_;exact⟨0,er,fun q=>absurd q (ae HE),rfl,(ae HB2).alloc (by omega) _⟩
theorem No (w:World) (a b:ByteArray) (la lb:List bX) (hLa:eM a la) (hha:af.hd la=af.next a 0) (hla:a.size<=64->la.length<=1000) (hLb:eM b lb) (hhb:af.hd lb=af.next b 0) (hlb:b.size<=64->lb.length<=1000) (hsg:fu w) (h0:0<w.heap.size) (hsa:a.size<=64) (hsb:b.size<=64) (p t:Tm) (l1 l2:List bX) (hp:whole la= .inr (p,l1)) (ht:whole lb= .inr (t,l2)) (hy:∀η:List UInt8->af.U,(dB 8 p (fb η 8 t) ⟨[],Wn.none⟩).w.says=1):
 Calls Tryz.prog 28 #[.string a,.string b] w fun e w'=>Pn w e w':=by
 have IA:=ah (wF w a la hLa hha hla hsg h0);have IB:=ah (fun w' (hb:Below w.heap.size w w')=>wF w' b lb hLb hhb hlb (hsg.below hb h0) (aJ h0 hb.size));have HP:=ah hp;have HT:=ah ht;have HY:=ah hy;have HWP:=ah (lE 8 _ _ _ (xQ hp).1);have HWT:=ah (lE 8 _ _ _ (xQ ht).1);have hea:xK a la=0:=by unfold xK;rw[aG (by omega),hp];rfl
 have heb:xK b lb=0:=by unfold xK;rw[aG (by omega),ht];rfl
 have HEA:=ah hea;have HEB:=ah heb;clear hLa hha hla hLb hhb hlb hsg hp ht hea heb hy;go_enter Tryz.func28,Tryz.ntmps28;go_wp2_with fail;refine(ae IA).mono ?_;rintro e w1 ⟨x,xo,xl,xc,rfl,hx,hb1⟩;obtain⟨nx,hrx,hnx,-⟩:=hx p l1 hsa (ae HP);rw[ae HEA];have HRX:=ah hrx;have HNX:=ah hnx;have HB1:=ah (hb1.alloc hb1.size (.cells #[.int .i64 x.k,.int .i64 x.val,.string x.tx,.slice x.ao x.n x.cap,.slice xo xl xc,.int .i64 ((0:Nat):Int)] 97));have hz1:=hb1.size;clear hb1 hx hrx hnx;go_wp2_with fail;refine(ae IB _ (ae HB1)).mono ?_;rintro e w2 ⟨y,yo,yl,yc,rfl,hy,hb2⟩;obtain⟨ny,hry,hny,-⟩:=hy t l2 hsb (ae HT);rw[ae HEB];have f0:=(hb2.cell (p:=⟨w1.heap.size,0,none⟩) (by simp)).trans (aN (aB w1 _) 0);have f1:=(hb2.cell (p:=⟨w1.heap.size,1,none⟩) (by simp)).trans (aN (aB w1 _) 1);have f2:=(hb2.cell (p:=⟨w1.heap.size,2,none⟩) (by simp)).trans (aN (aB w1 _) 2);have f3:=(hb2.cell (p:=⟨w1.heap.size,3,none⟩) (by simp)).trans (aN (aB w1 _) 3);have f5:=(hb2.cell (p:=⟨w1.heap.size,5,none⟩) (by simp)).trans (aN (aB w1 _) 5);simp only[aE,aq,aA]at f0 f1 f2 f3 f5;have hz2:=hb2.size;rw[aF]at hz2;have z5:w1.heap.size<w2.heap.size:=by omega
 have HRX2:=ah ((ae HRX).keep (Q:=fk) (w':=w2) fun g cs _ hg _=>⟨(hb2.block g (by have:=aD hg;simp;omega)).trans ((aZ _ _ _ (aD hg)).trans hg),trivial⟩);have HB2:=ah ((ae HB1).trans (hb2.mono (by rw[aF];omega)));have HRY:=ah hry;have HNY:=ah hny;clear hb2 hy hry hny;go_wp2_with fail;refine(nf _ 0 0).mono ?_;rintro e w3 ⟨rfl,rfl⟩;rw[show fe 0 0=0 from rfl];go_wp2_with fail;have hB5:Below w2.heap.size w2 (((w2.alloc (.cells #[.int .i64 y.k,.int .i64 y.val,.string y.tx,.slice y.ao y.n y.cap,.slice yo yl yc,.int .i64 0] 97)).alloc (.cells #[.slice none 0 0] 85)).alloc (.cells #[.slice none 0 0] 90)):=((Qx.alloc Qw _).alloc (by simp) _).alloc (by simp;omega) _;have hS5:=JG (w2.alloc (.cells #[.int .i64 y.k,.int .i64 y.val,.string y.tx,.slice y.ao y.n y.cap,.slice yo yl yc,.int .i64 0] 97));rw[aF]at hS5;generalize hW:((w2.alloc (.cells #[.int .i64 y.k,.int .i64 y.val,.string y.tx,.slice y.ao y.n y.cap,.slice yo yl yc,.int .i64 0] 97)).alloc (.cells #[.slice none 0 0] 85)).alloc (.cells #[.slice none 0 0] 90)=w5 at*;have hZ5:w5.heap.size=w2.heap.size+3:=by rw[<-hW];simp
 clear hW;have hM5:lU (fun _=>True) w5 (w2.heap.size+1) 0 #[.slice none 0 0] 85 (w2.heap.size+1+1) [] [] none 0 none 0 id (fun n=> .v ([],n)):=⟨hS5,qm,uR,fun n hn=>by cases hn⟩;have IADD:=ah (BR hM5 (fun _ _=>trivial) (by decide) (N:=dj ny) (ns:=[]) ((ae HRY).keep (Q:=fk) (w':=w5) fun g cs _ hg _=>⟨(hB5.block g (aD hg)).trans hg,trivial⟩) (ae HWT) rfl ⟨[],by rw[br];exact ae HNY⟩ (by simp) (by simp));have f0:=(hB5.cell (p:=⟨w1.heap.size,0,none⟩) z5).trans f0;have f1:=(hB5.cell (p:=⟨w1.heap.size,1,none⟩) z5).trans f1;have f2:=(hB5.cell (p:=⟨w1.heap.size,2,none⟩) z5).trans f2;have f3:=(hB5.cell (p:=⟨w1.heap.size,3,none⟩) z5).trans f3;have HRX5:=ah ((ae HRX2).keep (Q:=fun g=>g<w2.heap.size) (w':=w5) fun g cs _ hg _=>⟨(hB5.block g (aD hg)).trans hg,aD hg⟩);have HB5:=ah ((ae HB2).trans (hB5.mono (by omega)));clear hS5 hB5 hM5;refine(ae IADD).mono ?_;rintro e w6 ⟨n,E,F,no6,nc6,vo6,vc6,T6,rfl,m6,-,nd6,nv6,ln6,nl6,tn6,el6,fr6⟩;simp only[cG]at m6 nd6 nv6 ln6 nl6 tn6;have z6:=fr6.size;have rlow:∀k,k<=w2.heap.size->¬dO (w2.heap.size+1) none (w2.heap.size+1+1) none k:=by
  rintro k hk (e | ⟨p,q,_⟩ | e | ⟨p,q,_⟩)
  ·omega
  ·cases q
  ·omega
  ·cases q
 have f0:=(fr6.cell (p:=⟨w1.heap.size,0,none⟩) (by dsimp only;omega) (rlow w1.heap.size (by omega))).trans f0;have f1:=(fr6.cell (p:=⟨w1.heap.size,1,none⟩) (by dsimp only;omega) (rlow w1.heap.size (by omega))).trans f1;have f2:=(fr6.cell (p:=⟨w1.heap.size,2,none⟩) (by dsimp only;omega) (rlow w1.heap.size (by omega))).trans f2;have f3:=(fr6.cell (p:=⟨w1.heap.size,3,none⟩) (by dsimp only;omega) (rlow w1.heap.size (by omega))).trans f3;have HRX6:=ah ((ae HRX5).keep (Q:=fk) (w':=w6) fun g cs hp hg _=>⟨(fr6.block g (aD hg) (rlow g (by omega))).trans hg,trivial⟩);have HB6:=ah ((ae HB5).trans (fr6.down (b:=w.heap.size) (by have:=(ae HB5).size;omega) (fun k q=>by
  rcases Nat.lt_or_ge k w.heap.size with h | h
  ·exact absurd q (rlow k (by have:=(ae HB2).size;omega))
  ·exact h)))
 have hML:(dj nx).length<=100000:=by rw[ae HNX];have:=kK 8 p [] (ae HWP);simp only[ct]at this;omega
 have hsz:af.size (T6 n)<=6561:=by
  have h1:=mW m6 (V:=[]) (D:=[]) (E:=E) (F:=F) nd6 nv6 (TT:=fun n=> .v ([],n)) (fun m hm=>by cases hm) (fun m hm=>by cases hm) (B:=1) (by omega) (fun m hm=>by cases hm);have q:=p8 (η:=ej T6 F (dj ny)) (B:=1) (by omega) 8 t [] (ae HWT) (fun y hy=>by obtain⟨m,hm,he⟩:=tH (T:=T6) (V:=F) (N:=dj ny) (M:=[]) hy (by rw[br];exact ae HNY) ln6;rw[he];exact h1 m hm);rw[tn6];have q3:3 ^ 8=6561:=by decide
  omega
 have HU7:=ah ((al w6.heap.size w6).alloc Qw (.cells #[.slice none 0 0,.slice none 0 0,.bool false] 102));have IM:=ah (rM 8 fk w6 (w6.alloc (.cells #[.slice none 0 0,.slice none 0 0,.bool false] 102)) w6.heap.size (w2.heap.size+1) 0 _ _ E no6 nc6 id T6 _ _ (dj nx) [] x n p ⟨[],Wn.none⟩ 6561 m6.gr (ae HU7) (jK w6) (qd E T6 _) (by simp) (by rw[ae HNX];exact kq 8 p [] (by simp)) hML (ae HRX6) (ae HWP) nl6 hsz (fun q hq=>by cases hq) (by decide));rw[tn6]at IM;have HS1:=ah (ae HY (ej T6 F (dj ny)));have hz1':w1.heap.size<w6.heap.size:=by omega
 clear m6 nd6 nv6 ln6 nl6 tn6 el6 fr6 hML hsz rlow IADD HY;generalize dB 8 p (fb (ej T6 F (dj ny)) 8 t) ⟨[],Wn.none⟩=l at*;unfold cN;go_wp2_with fail;refine(ae IM).mono ?_;rintro e w8 ⟨rfl,S8,R8,h8,-,-,fr8⟩;have hb8:=(jK w6).under fr8 (ae HU7) Qw;have z8:=hb8.size;have HB8:=ah ((ae HB6).trans (hb8.mono (ae HB6).size));obtain⟨so,sc,wo,wc,hlo,-⟩:=h8;have HSY:=ah (oZ w8 w6.heap.size l.w.wt l.w.no so S8.length sc wo wc hlo.blk);rw[uZ,ae HS1]at HSY;have cz:=aD hlo.blk;clear hlo hb8 fr8 f0 f1 f2 f3 f5 IM;go_wp2_with fail;refine(ae HSY).mono ?_;rintro e w9 ⟨rfl,rfl⟩;go_wp2_with fail;refine aI (v:= .tuple #[.int .i64 1,.slice none 0 0,.int .i64 0]) (by simp[results,Tryz.results28,go_sem]) rfl ?_;exact⟨1,0,fun _=>rfl,rfl,ae HB8⟩
theorem Nl (w:World) (a b:ByteArray) (hsg:fu w) (h0:0<w.heap.size) (hy:∀(la lb:List bX),eM a la->af.hd la=af.next a 0->eM b lb->af.hd lb=af.next b 0->∀(p t:Tm) (l1 l2:List bX),whole la= .inr (p,l1)->whole lb= .inr (t,l2)->∀η:List UInt8->af.U,(dB 8 p (fb η 8 t) ⟨[],Wn.none⟩).w.says=1):
 Calls Tryz.prog 28 #[.string a,.string b] w fun e w'=>Pn w e w':=by
 obtain⟨la,hLa,hha,hla⟩:=rt a;obtain⟨lb,hLb,hhb,hlb⟩:=rt b;by_cases he:fe (xK a la) (xK b lb)=0
 ·have e1:xK a la=0/\xK b lb=0:=by
   unfold fe at he;split at he
   ·rename_i q;exact⟨by omega,he⟩
   ·omega
  have k1:∀{s:ByteArray} {l:List bX},xK s l=0->s.size<=64/\∃t l1,whole l= .inr (t,l1):=fun {s l} q=>by
   unfold xK at q;split at q
   ·omega
   ·refine⟨by omega,?_⟩;rcases hq:whole l with⟨e,p⟩ | ⟨t,l1⟩
    ·rw[hq]at q;have:=Cb hq;have q':e=0:=q;omega
    ·exact⟨t,l1,rfl⟩
  obtain⟨za,p,l1,hp⟩:=k1 e1.1;obtain⟨zb,t,l2,ht⟩:=k1 e1.2;exact No w a b la lb hLa hha (fun h=>hla (by omega)) hLb hhb (fun h=>hlb (by omega)) hsg h0 za zb p t l1 l2 hp ht (hy la lb hLa hha hLb hhb p t l1 l2 hp ht)
 ·exact Np w a b la lb hLa hha (fun h=>hla (by omega)) hLb hhb (fun h=>hlb (by omega)) hsg h0 he
