import Derived.Test.YthfjnfcekeknlaaGreatDoorSu13
set_option maxHeartbeats 8000000
set_option maxRecDepth 100000
namespace Go.Proofs.YthfjnfcekeknlaaGreatDoor
open Go.RowKit
section
variable {P:Nat→Prop} {w:World} {sb so:Nat} {cs:Array Value} {T:TypeId} {cb:Nat} {D:List Ng} {V:List Nat} {no:Option Addr} {nc:Nat} {vo:Option Addr} {vc:Nat}
theorem fK.grown {w7:World} {X:Obj} {o o':Option Addr} {n cap b:Nat} {xs:List Value} (h:fK (fun g=>P g∧¬rowOf o g) w sb so cs T cb D V no nc vo vc) (ho:w.ownsRow b 3 1 (.slice o n cap) n xs) (gP:∀g,rowOf o g→¬rowOf vo g) (hg:(w.alloc X).grownBy w7 (Value.slice o n cap).ownBlock) (hat:∀g,rowOf o' g→rowOf o g∨w.heap.size<g):fK (fun g=>P g∧¬rowOf o' g) w7 sb so cs T cb D V no nc vo vc:=by
 have keep:∀k,k<w.heap.size→¬rowOf o k→w7.heap[k]?=w.heap[k]?:=fun k h1 h2=>by
  rw[hg.block k (by simp;omega) (bX h2),Below.heap_alloc _ _ _ h1]
 have fZ:∀(k:Nat) (ys:Array Value) (S:TypeId),w.heap[k]?=some (.cells ys S (0,0))→S≠3→w7.heap[k]?=some (.cells ys S (0,0)):=fun k ys S hk h2=>(keep k (ag hk) (aR ho hk h2)).trans hk
 refine⟨⟨fZ sb _ _ h.st.blk h.t2,h.st.cel,ai h.st.own fun k q=> ?_,h.st.ty⟩,⟨fZ cb _ _ h.sc.blk (by decide),ai h.sc.own fun k q=> ?_⟩,h.t1,h.t2,fun d hd hne=> ?_⟩
 ·obtain⟨cur,hc⟩:=aK h.st.own (aI q)
  exact(fZ k _ _ hc (by decide)).trans hc.symm
 ·exact keep k (h.sc.own.lt k q).2 (fun r=>gP k r (aI q))
 ·obtain⟨r,ys,h1,⟨⟨h2,h3⟩,h4⟩,h5,h6⟩:=h.args d hd hne
  refine⟨r,ys,h1,⟨⟨h2,fun q=> ?_⟩,h4⟩,(keep r (ag h5) h3).trans h5,h6⟩
  rcases hat r q with q | q
  ·exact h3 q
  ·have:=ag h5;omega
theorem fK.ra {w':World} {R':Nat→Prop} {f:Nat} {N:List (List UInt8)} {Q:Nat→Prop} {a:AV} {t:Za.Tm} (h:fK P w sb so cs T cb D V no nc vo vc) (hT:T≠76) (hf:au (b9 sb no cb vo) R' w w') (hr:RA f N Q w a t):RA f N Q w' a t:=
 hr.keep fun g _ hp hg _=>⟨(hf.block g (ag hg) (by
  rintro(e | e | e | e)
  ·rw[e,h.st.blk]at hg
   simp only[Option.some.injEq,Obj.cells.injEq]at hg
   exact hT hg.2.1
  ·exact aR h.st.own hg (by decide) e
  ·rw[e,h.sc.blk]at hg
   simp only[Option.some.injEq,Obj.cells.injEq]at hg
   exact absurd hg.2.1 (by decide)
  ·exact aR h.sc.own hg (by decide) e)).trans hg,hp⟩
theorem fK.blk {w':World} {R':Nat→Prop} {g:Nat} {ys:Array Value} {S:TypeId} (h:fK P w sb so cs T cb D V no nc vo vc) (hf:au (b9 sb no cb vo) R' w w') (hg:w.heap[g]?=some (.cells ys S (0,0))) (h1:S≠T) (h2:S≠180) (h3:S≠93) (h4:S≠3):w'.heap[g]?=some (.cells ys S (0,0)):=
 (hf.block g (ag hg) (by
  rintro(e | e | e | e)
  ·rw[e,h.st.blk]at hg
   simp only[Option.some.injEq,Obj.cells.injEq]at hg
   exact h1 hg.2.1.symm
  ·exact aR h.st.own hg h2 e
  ·rw[e,h.sc.blk]at hg
   simp only[Option.some.injEq,Obj.cells.injEq]at hg
   exact h3 hg.2.1.symm
  ·exact aR h.sc.own hg h4 e)).trans hg
end
theorem set_set (cs:Array Value) (so:Nat) (u v:Value):(cs.setIfInBounds so u).setIfInBounds so v=cs.setIfInBounds so v:=by simp
theorem l9 {cs:Array Value} {so:Nat} {v:Value} (q:cs[so]?=some v):cs.setIfInBounds so v=cs:=by
 apply Array.ext (by simp)
 intro i h1 h2
 rw[Array.getElem_setIfInBounds]
 split
 ·rename_i e
  subst e
  exact(Array.getElem?_eq_some_iff.1 q).2.symm
 ·rfl
def TP (P:Nat→Prop) (w:World) (sb so:Nat) (cs:Array Value) (T:TypeId) (cb:Nat) (D:List Ng) (V:List Nat) (no:Option Addr) (vo:Option Addr) (N ns:List (List UInt8)) (f:Nat) (t:Za.Tm) (C:Array Value) (k:Nat) (av iv:Value) (wr:World):Prop:=
 ∃(j:Nat) (E:List Ng) (F:List Nat) (no1:Option Addr) (nc1:Nat) (vo1:Option Addr) (vc1:Nat) (gs:List Nat) (oo:Option Addr) (cp:Nat),k+j=t.args.length∧iv= .int .i64 (j:Int)∧av= .slice oo j cp∧fK (fun g=>P g∧¬rowOf oo g) wr sb so (cs.setIfInBounds so (.slice no1 (D++E).length nc1)) T cb (D++E) (V++F) no1 nc1 vo1 vc1∧dJ D.length E∧fF D.length E F∧(V++F).length=((t.args.take j).foldl (Za.namesF f) ns).length∧
  wr.ownsRow (w.heap.size+1) 3 1 (.slice oo j cp) j (gs.map aM)∧(∀g,rowOf oo g→¬rowOf vo1 g)∧gs.length=j∧bR (tI (D++E) (V++F) N f) gs (t.args.take j)∧(∀g∈gs,g<(D++E).length)∧E.length+j≤j*3 ^ f∧au (b9 sb no cb vo) (b9 sb no1 cb vo1) w wr∧wr.heap[w.heap.size]?=some (.cells C 76 (0,0))∧(∀n∈V++F,n<(D++E).length)
theorem NW {f:Nat} (IH:Hy f) (P:Nat→Prop) (w:World) (sb so:Nat) (cs:Array Value) (T:TypeId) (cb:Nat) (D:List Ng) (V:List Nat) (no:Option Addr) (nc:Nat) (vo:Option Addr) (vc:Nat) (N ns:List (List UInt8)) (Q:Nat→Prop) (a:AV) (t:Za.Tm) (h:fK P w sb so cs T cb D V no nc vo vc) (hP:∀g,w.heap.size≤g→P g) (hT:T≠76) (hV:∀n∈V,n<D.length) (hr:RA (f+1) N Q w a t) (hw:Za.wfK (f+1) t) (ka:t.kind≠3) (hv:V.length=ns.length) (hN:∃M,N=Za.namesF (f+1) ns t++M) (hd:D.length+3 ^ (f+1)≤1000000000) (jF:V.length+3 ^ (f+1)≤1000000000):
 Calls Tryz.prog 54 #[.pointer (some ⟨sb,so,none⟩),.agg #[.int .i64 a.k,.int .i64 a.val,.string a.tx,.slice a.ao a.n a.cap],.pointer (some ⟨cb,0,none⟩)] w fun e w'=>DY P sb so cs T cb D V no vo N ns (f+1) t w e w':=by
 obtain⟨⟨h1,h2,h3,h4,h5,h6,h7,h8⟩,hrow⟩:=hr
 have Bz:Za.namesF (f+1) ns t=t.args.foldl (Za.namesF f) ns:=by
  unfold Za.namesF
  rw[if_neg ka]
  by_cases k4:t.kind=4
  ·rw[if_pos k4,hw.2.1 (by omega)];rfl
  ·rw[if_neg k4]
 rw[Bz]at hN
 have si:so<cs.size:=(Array.getElem?_eq_some_iff.1 h.st.cel).1
 have uJ:=h.rows
 obtain⟨ki,val,tx,ao,n,cp⟩:=a
 dsimp only at h1 h2 h4 h5 hrow⊢
 subst h2
 have fo:(ki == 1)=false:=by rw[h1];rcases h6 with e | e | e<;>first | (exact absurd e ka) | (rw[e];decide)
 have hB:=(Below.refl w.heap.size w).alloc (Nat.le_refl _) (.cells #[.int .i64 ki,.int .i64 val,.string tx,.slice ao t.args.length cp] 76)
 have HST:=af (show TP P w sb so cs T cb D V no vo N ns f t #[.int .i64 ki,.int .i64 val,.string tx,.slice ao t.args.length cp] t.args.length (.slice none 0 0) (.int .i64 0) (w.alloc (.cells #[.int .i64 ki,.int .i64 val,.string tx,.slice ao t.args.length cp] 76))from by
  refine⟨0,[],[],no,nc,vo,vc,[],none,0,by omega,rfl,rfl,?_,(fun i d hd=>by simp at hd),fF.nil _ _,by simpa using hv,World.ownsRow_nil _ _ _ _,(fun g ⟨p,q,_⟩=>by cases q),rfl,trivial,(fun g hg=>by cases hg),by simp,au.aw hB,heap_alloc_new w _,by simpa using hV⟩
  simp only[List.append_nil]
  rw[l9 h.st.cel]
  have:=h.below hB
  exact⟨this.st,this.sc,this.t1,this.t2,this.args.keep fun g cs hp hg=>⟨hg,⟨hp.1,fun⟨p,q,_⟩=>by cases q⟩,hp.2⟩⟩)
 have ld:=af hrow
 have Yo:=af uJ
 have HW:=af hw
 have jD:=af hN
 have WE:=af Bz
 have HD:=af hd
 have BA:=af jF
 have Yp:=af hv
 have H4:=af h4
 have H5:=af h5
 have H1:=af h1
 have H7:=af h7
 have Bb:=af ka
 have HP:=af hP
 have HT:=af hT
 have HAD:=af h
 have Hx:=af si
 have Mv:=af (show 3 ^ (f+1)=3*3 ^ f by rw[Nat.pow_succ,Nat.mul_comm])
 have Hz:=af (show 1≤3 ^ f from Nat.one_le_pow _ _ (by omega))
 have I:=af IH
 obtain⟨tj,hj,iM,iN,iO⟩:=info_parts infoIn
 clear h hrow hw ka hv hN hd Bz uJ h3 h4 h5 h6 h7 h1 IH hP hT hV si jF hB
 go_enter Tryz.func54,Tryz.ntmps54
 go_wp2_with fail
 go_loopg [7,23] t.args.length (fun k av iv wr=>TP P w sb so cs T cb D V no vo N ns f t #[.int .i64 ki,.int .i64 val,.string tx,.slice ao t.args.length cp] k av iv wr)
 case atStart=>exact ae HST
 case round=>
  clear HST
  obtain⟨j,E,F,no1,nc1,vo1,vc1,gs,oo,cp1,hkj,rfl,rfl,had,dC,gP,hlen,hown,Am,dK,hall,vw,fC,cW,eE,hVF⟩:=hrel
  have hz:=cW.size
  have z4:=ag eE
  by_cases hlt:j<t.args.length
  ·obtain⟨g,vs,ca,hao,WG,fu,lY,my⟩:=ae ld (fun q=>by rw[q]at hlt;simp at hlt)
   subst hao
   have kL:j<vs.length:=by have:=my.length;omega
   have hcw:wr.heap[g]?=some (.cells ca 76 (0,0)):=(ae HAD).blk cW fu (Ne.symm (ae HT)) (by decide) (by decide) (by decide)
   have fc:∀i,i<4→wr.cell? ⟨g,j*4+i,none⟩=(gM vs[j])[i]?:=fun i hi=>by
    rw[ah hcw,←Array.getElem?_toList,←NV kL i hi,←lY,List.getElem?_take_of_lt (by omega)]
   have f0:=fc 0 (by omega)
   have f1:=fc 1 (by omega)
   have f2:=fc 2 (by omega)
   have f3:=fc 3 (by omega)
   simp only[gM,List.getElem?_cons_zero,List.getElem?_cons_succ,Nat.add_zero]at f0 f1 f2 f3
   have Fk:(t.args.take (j+1)).foldl (Za.namesF f) ns=Za.namesF f ((t.args.take j).foldl (Za.namesF f) ns) t.args[j]:=by
    rw[List.take_add_one,List.getElem?_eq_getElem hlt,List.foldl_append];rfl
   have Ba:∃M,N=Za.namesF f ((t.args.take j).foldl (Za.namesF f) ns) t.args[j]++M:=by
    obtain⟨M,hM⟩:=ae jD
    rw[←Fk]
    obtain⟨K,hK⟩:=Za.q8 f (t.args.drop (j+1)) ((t.args.take (j+1)).foldl (Za.namesF f) ns)
    refine⟨K++M,?_⟩
    rw[hM,←List.append_assoc,←hK,←List.foldl_append,List.take_append_drop]
   have WH:j*3 ^ f≤2*3 ^ f:=Nat.mul_le_mul_right _ (by omega)
   have hDl:(D++E).length+3 ^ f≤1000000000:=by
    have q1:=ae HD
    have q2:=ae Mv
    rw[List.length_append]
    omega
   have hFl:F.length≤E.length:=by
    have h1:∀n∈F,n - D.length∈List.range E.length:=fun n hn=>by
     obtain⟨q1,d,q2,_⟩:=gP.var n hn
     exact List.mem_range.2 (List.getElem?_eq_some_iff.1 q2).1
    have h2:(F.map (fun n=>n - D.length)).Nodup:=by
     unfold List.Nodup
     rw[List.pairwise_map]
     refine gP.ord.imp_of_mem fun {a b} ha hb hab=> ?_
     have:=(gP.var a ha).1
     omega
    have:=h2.length_le_of_subset (l₂:=List.range E.length) (fun x hx=>by
     obtain⟨n,hn,rfl⟩:=List.mem_map.1 hx
     exact h1 n hn)
    simpa using this
   have hVl:(V++F).length+3 ^ f≤1000000000:=by
    have q1:=ae BA
    have q2:=ae Mv
    rw[List.length_append]
    omega
   have hbA:=(Below.refl wr.heap.size wr).alloc (Nat.le_refl _) (.cells #[.int .i64 vs[j].k,.int .i64 vs[j].val,.string vs[j].tx,.slice vs[j].ao vs[j].n vs[j].cap] 76)
   have hPn:∀g,(wr.alloc (.cells #[.int .i64 vs[j].k,.int .i64 vs[j].val,.string vs[j].tx,.slice vs[j].ao vs[j].n vs[j].cap] 76)).heap.size≤g→P g∧¬rowOf oo g:=fun g hg=>by
    rw[World.size_alloc]at hg
    refine⟨ae HP g (by omega),fun⟨p,q,e⟩=> ?_⟩
    have:=(hown.lt p.block (by rw[q];rfl)).2
    omega
   have IC:=af (ae I (fun g=>P g∧¬rowOf oo g) (wr.alloc (.cells #[.int .i64 vs[j].k,.int .i64 vs[j].val,.string vs[j].tx,.slice vs[j].ao vs[j].n vs[j].cap] 76)) sb so (cs.setIfInBounds so (.slice no1 (D++E).length nc1)) T cb (D++E) (V++F) no1 nc1 vo1 vc1 N ((t.args.take j).foldl (Za.namesF f) ns) Q vs[j] t.args[j] (had.below hbA) hPn (ae HT) hVF ((RA.keep (fun g _ hp hg _=>⟨(hbA.block g (ag hg)).trans hg,hp⟩)) ((ae HAD).ra (ae HT) cW (Mt my j kL hlt))) ((ae HW).2.2.2 _ (List.getElem_mem hlt)) hlen Ba hDl hVl)
   have mO:=af (hown.alloc (.cells #[.int .i64 vs[j].k,.int .i64 vs[j].val,.string vs[j].tx,.slice vs[j].ao vs[j].n vs[j].cap] 76))
   have Mw:=af Am
   have H9:=af dK
   have Bw:=af hall
   have PB:=af vw
   have Mx:=af fC
   have DZ:=af dC
   have WI:=af gP
   have jh:=af (cW.trans (au.aw hbA))
   have rA:=af (had.below hbA)
   have oh:=af (aB eE (.cells #[.int .i64 vs[j].k,.int .i64 vs[j].val,.string vs[j].tx,.slice vs[j].ao vs[j].n vs[j].cap] 76))
   have WJ:=af Fk
   have PC:=af hVF
   have vH:g<wr.heap.size:=ag hcw
   have i0:(0:Int)≤(j:Int):=by omega
   have i1:(j:Int)<(t.args.length:Int):=by omega
   have bh:=af hlt
   have aT:=af hkj
   have Pn:j≤3:=by omega
   clear had dC gP hlen hown Am dK hall vw fC cW eE fu lY my hcw fc Fk Ba hDl hFl hVl hkj hVF hPn hbA WH WG
   go_wp2_with fail
   refine(ae IC).mono ?_
   rintro e w2 ⟨m,E2,F2,no2,nc2,vo2,vc2,rfl,hs2,TQ,hv2,hl2,hr2,pY,TR,hf2⟩
   rw[set_set]at hs2
   have yi:=af (ai (ae mO) (fun g q=>hf2.block g ((ae mO).lt g q).2 (by
    have hro:=aI q
    rintro(e | e | e | e)
    ·obtain⟨cur,hc⟩:=aK (ae mO) hro
     rw[e,(ae rA).st.blk]at hc
     simp only[Option.some.injEq,Obj.cells.injEq]at hc
     exact(ae rA).t2 hc.2.1
    ·obtain⟨cur,hc⟩:=aK (ae mO) hro
     exact aR (ae rA).st.own hc (by decide) e
    ·obtain⟨cur,hc⟩:=aK (ae mO) hro
     rw[e,(ae rA).sc.blk]at hc
     simp only[Option.some.injEq,Obj.cells.injEq]at hc
     exact absurd hc.2.1 (by decide)
    ·exact ae Mw g hro e)))
   have hzz:=hf2.size
   rw[World.size_alloc]at hzz
   have cg:=af hs2
   have H':=af TQ
   have y9:=af hv2
   have rY:=af hl2
   have tE:=af hr2
   have WK:=af pY
   have xp:=af TR
   have vC:=af hf2
   clear hs2 TQ hv2 hl2 hr2 pY TR hf2 f0 f1 f2 f3 IC
   unfold aM
   go_wp2_with (first | (at_builtin;go_must (refine wpList_append_own_at _ rfl (.tmp 31) (.tmp 33) 25 rfl (w.heap.size+1) 3 tj (.int .i64 0) 1 8 Tryz.underlying25 hj iM iN iO rfl (by decide) _ j (gs.map aM) rfl ((ae yi).alloc _) ⟨w2.heap.size,0,none⟩ 1 1 [.int .i64 (m:Int)] rfl rfl (iZ _ _ _ _ rfl) (by simp[Value.oneCell']) (by unfold maxLen;omega) (by omega) (by simp;omega) ?_);go_must (intro v' w7 hown' hgrow _ hat;obtain⟨g',cap',hv',-⟩:=fk hown';subst hv';have mD:=af hown';have HG:=af hgrow;have rX:=af (show∀g,rowOf (some ⟨g',0,none⟩) g→rowOf oo g∨w2.heap.size<g from (fun g hg=>by obtain⟨p,q,e⟩:=hg;cases q;dsimp only at e;subst e;rcases hat with q | q;exact Or.inl (aI q.symm);right;have q2:g=w2.heap.size+1:=(by simpa [Value.ownBlock] using q);omega));clear hown' hgrow hat)))
   go_roundg (gk - 1)
   case measure=>have:=ae aT;have:=ae bh;omega
   case rel=>
    have Ia:∀g,rowOf oo g→¬rowOf vo2 g:=fun g q r=>by
     have q3:=((ae mO).lt g (by obtain⟨p,e1,e2⟩:=q;rw[e1,e2];rfl)).2
     rcases(ae vC).row g (Or.inr (Or.inr (Or.inr r)))with(e | e | e | e) | e
     ·obtain⟨cur,hc⟩:=aK (ae mO) q
      rw[e,(ae rA).st.blk]at hc
      simp only[Option.some.injEq,Obj.cells.injEq]at hc
      exact(ae rA).t2 hc.2.1
     ·obtain⟨cur,hc⟩:=aK (ae mO) q
      exact aR (ae rA).st.own hc (by decide) e
     ·obtain⟨cur,hc⟩:=aK (ae mO) q
      rw[e,(ae rA).sc.blk]at hc
      simp only[Option.some.injEq,Obj.cells.injEq]at hc
      exact absurd hc.2.1 (by decide)
     ·exact ae Mw g q e
     ·omega
    have hS7:=(ae cg).grown (ae yi) Ia (ae HG) (ae rX)
    have Pw:=(ae HG).size
    simp only[World.size_alloc]at Pw
    have hlowO:∀g,rowOf oo g→w.heap.size+1≤g:=fun g ⟨p,q,e⟩=>by rw[e];exact((ae mO).lt p.block (by rw[q];rfl)).1
    have keep7:∀k,k≤w.heap.size→k<w2.heap.size→w7.heap[k]?=w2.heap[k]?:=fun k h1 h2=>by
     rw[(ae HG).block k (by simp;omega) (bX fun q=>by have:=hlowO k q;omega),Below.heap_alloc _ _ _ h2]
    have hF7:au (b9 sb no cb vo) (b9 sb no2 cb vo2) w w7:=by
     have q:=(ae jh).trans (ae vC)
     refine⟨(ae HG).os.trans q.os,(ae HG).tape.trans q.tape,(ae HG).output.trans q.output,by have:=q.size;omega,fun k h1 h2=> ?_,q.row⟩
     rw[keep7 k (by omega) (by have:=q.size;omega)]
     exact q.block k h1 h2
    refine⟨j+1,E++E2,F++F2,no2,nc2,vo2,vc2,gs++[m],some ⟨g',0,none⟩,cap',by have:=ae aT;have:=ae bh;omega,by go_num,rfl,by rw[←List.append_assoc,←List.append_assoc];exact hS7,(ae DZ).app (by have:=ae H';rwa [List.length_append]at this),(ae WI).app (by have:=ae y9;rwa [List.length_append]at this),by rw[ae WJ,←List.append_assoc];exact ae rY,?_,?_,by simp[ae H9],?_,?_,?_,hF7,?_,?_⟩
    ·have:=ae mD
     simpa [aM] using this
    ·intro g q r
     rcases ae rX g q with e | e
     ·exact Ia g e r
     ·have:=(ae cg).rows g (Or.inr (Or.inr (Or.inr r)))
      omega
    ·rw[List.take_add_one,List.getElem?_eq_getElem (ae bh),←List.append_assoc,←List.append_assoc]
     exact bR.snoc (ae tE) ((ae Bw).imp fun _ _ r=>r.more)
    ·intro g hg
     rw[←List.append_assoc]
     rcases List.mem_append.1 hg with q | q
     ·have:=ae PB g q
      rw[List.length_append]
      omega
     ·obtain rfl:g=m:=by simpa using q
      exact ae WK
    ·have q1:=ae Mx
     have q2:=ae xp
     rw[List.length_append,Nat.add_mul]
     omega
    ·rw[keep7 w.heap.size (Nat.le_refl _) (by omega)]
     exact(ae rA).blk (ae vC) (ae oh) (Ne.symm (ae HT)) (by decide) (by decide) (by decide)
    ·intro n hn
     rw[←List.append_assoc]at hn⊢
     rcases List.mem_append.1 hn with q | q
     ·have:=ae PC n q
      rw[List.length_append]
      omega
     ·obtain⟨q1,d,q2,_⟩:=(ae y9).var n q
      have:=(List.getElem?_eq_some_iff.1 q2).1
      rw[List.length_append]
      omega
  ·obtain rfl:j=t.args.length:=by omega
   rw[List.take_length]at hlen hall
   have zf:(D++E).length+1≤1000000000:=by
    have q1:=ae HD
    have q2:=ae Mv
    have q4:=ae Hz
    have q5:E.length+2≤3*3 ^ f:=by
     obtain q | q | q | q:t.args.length=0∨t.args.length=1∨t.args.length=2∨t.args.length=3:=by omega
     all_goals rw[q]at fC;omega
    rw[List.length_append]
    omega
   have xp:=af (show (E.length+1)+1≤3 ^ (f+1)by
    have q2:=ae Mv
    have q4:=ae Hz
    obtain q | q | q | q:t.args.length=0∨t.args.length=1∨t.args.length=2∨t.args.length=3:=by omega
    all_goals rw[q]at fC;omega)
   have s0:=had.st.cell
   have b0:=ah eE 0
   have b1:=ah eE 1
   have b2:=ah eE 2
   have b3:=ah eE 3
   simp only[List.getElem?_toArray,List.getElem?_cons_zero,List.getElem?_cons_succ]at b0 b1 b2 b3
   have sz:=ag had.st.blk
   have dS:=qK (wr.drew) ⟨ki,val,tx,ao,t.args.length,cp⟩
   have BB:jq ⟨ki,val,tx,ao,t.args.length,cp⟩=if ki=2 then val else 0:=rfl
   generalize hlv:jq ⟨ki,val,tx,ao,t.args.length,cp⟩=lv at*
   dsimp only at dS
   have LB:=af dS
   have Yq:=af BB
   have U':sb≠w.heap.size:=fun e=>by
    have:=had.st.blk
    rw[e,eE]at this
    simp only[Option.some.injEq,Obj.cells.injEq]at this
    exact ae HT this.2.1.symm
   have sZ:=af (show some sb≠(Value.slice no1 (D++E).length nc1).ownBlock from bX (aR had.st.own had.st.blk had.st.ty))
   have xr:=af (show some w.heap.size≠(Value.slice no1 (D++E).length nc1).ownBlock from bX (aR had.st.own eE (by decide)))
   have Va:=af (show so<(cs.setIfInBounds so (.slice no1 (D++E).length nc1)).size by simp;exact ae Hx)
   have PD:fK P wr sb so (cs.setIfInBounds so (.slice no1 (D++E).length nc1)) T cb (D++E) (V++F) no1 nc1 vo1 vc1:=⟨had.st,had.sc,had.t1,had.t2,had.args.keep fun g cs hp hg=>⟨hg,hp.1.1,hp.2⟩⟩
   have BC:=af PD
   have PE:ki=2→(0≤val∧val≤1000000000):=fun q=>by
    have k4:t.kind=4:=by
     have:=ae H1
     rw[q]at this
     unfold ak at this
     split at this
     ·cases this
     ·split at this
      ·assumption
      ·cases this
    obtain⟨q1,q2,_⟩:=ae H4 k4
    have:=Za.Dw t.text.toList (by rw[Za.nB];exact q2)
    rw[q1]
    unfold Za.numOf
    omega
   have hkinds:ki=2∨ki=3:=by
    have:=ae H1
    unfold ak at this
    rcases(ae HW).1 with q | q | q
    ·rw[if_neg (by omega),if_neg (by omega)]at this;exact Or.inr this
    ·exact absurd q (ae Bb)
    ·rw[if_neg (by omega),if_pos q]at this;exact Or.inl this
   have hk4:ki=2→t.kind=4:=fun q=>by
    have:=ae H1
    rw[q]at this
    unfold ak at this
    split at this
    ·cases this
    ·split at this
     ·assumption
     ·cases this
   have hk2:ki=3→t.kind=2:=fun q=>by
    rcases(ae HW).1 with r | r | r
    ·exact r
    ·exact absurd r (ae Bb)
    ·have:=ae H1
     rw[q,r]at this
     exact absurd this (by decide)
   have PF:gH (D.length+E.length) ⟨ki,lv,tx,t.args.length,oo,cp1,gs,D.length+E.length,0⟩:=by
    refine⟨by rcases hkinds with q | q;exact Or.inr (Or.inl q);exact Or.inr (Or.inr q),fun q=>by rcases hkinds with r | r<;>(dsimp only at q;omega),fun q=> ?_,fun q=> ?_,fun a ha=> ?_⟩
    ·have k4:=hk4 q
     have ha0:t.args=[]:=(ae HW).2.1 (by omega)
     exact⟨(ae H4 k4).2.2,by rw[ha0];rfl,List.length_eq_zero_iff.1 (by rw[dK,ha0];rfl)⟩
    ·refine⟨?_,dK.symm,by show gs.length≤3;omega⟩
     show lv=0
     rw[BB,if_neg]
     intro r
     dsimp only at q
     omega
    ·have:=vw a ha
     rwa [List.length_append]at this
   have hsmall:tx.size≤240∧0≤lv∧lv≤1000000000:=by
    refine⟨?_,?_⟩
    ·rcases hkinds with q | q
     ·rw[(ae H4 (hk4 q)).2.2];exact Nat.zero_le _
     ·rw[ae H5 (hk2 q)];exact ae H7
    ·rw[BB]
     split
     ·rename_i q;exact PE q
     ·omega
   have BD:=af (show∀w2,Below wr.heap.size wr w2→gs≠[]→∃(q:Nat) (cs:Array Value),oo=some ⟨q,0,none⟩∧P q∧¬rowOf vo1 q∧q<w2.heap.size∧w2.heap[q]?=some (.cells cs 3 (0,0))∧cs.toList.take gs.length=gs.map aM from fun w2 hb2 hne=>by
    rcases hown.2 with⟨q,q0⟩ | ⟨g,cap,cur,q1,q2,q3,q4⟩
    ·exact absurd (List.length_eq_zero_iff.1 (dK.trans q0)) hne
    ·simp only[Value.slice.injEq]at q1
     obtain⟨rfl,_,_⟩:=q1
     have q5:=ag q3
     refine⟨g,cur,rfl,ae HP g (by omega),Am g ⟨_,rfl,rfl⟩,Nat.lt_of_lt_of_le q5 hb2.size,(hb2.block g q5).trans q3,?_⟩
     have q6:=q4.2.2.2
     rw[dK]
     simpa using q6)
   have dE:=af (show∀(g cap':Nat) (w2 w8:World),fK P w8 sb so ((cs.setIfInBounds so (.slice no1 (D++E).length nc1)).setIfInBounds so (.slice (some ⟨g,0,none⟩) ((D++E).length+1) cap')) T cb ((D++E)++[⟨ki,lv,tx,t.args.length,oo,cp1,gs,D.length+E.length,0⟩]) (V++F) (some ⟨g,0,none⟩) cap' vo1 vc1→au (b9 sb no1 cb vo1) (b9 sb (some ⟨g,0,none⟩) cb vo1) w2 w8→Below wr.heap.size wr w2→DY P sb so cs T cb D V no vo N ns (f+1) t w (.returned (.int .i64 ((D++E).length:Int))) w8 from fun g cap' w2 w8 k1 k2 k3=>by
    rw[set_set]at k1
    refine⟨(D++E).length,E++[⟨ki,lv,tx,t.args.length,oo,cp1,gs,D.length+E.length,0⟩],F,some ⟨g,0,none⟩,cap',vo1,vc1,rfl,?_,dC.app (dJ.one ⟨rfl,rfl,PF,hsmall⟩),gP.last _,?_,?_,?_,?_,(cW.trans (au.aw k3)).trans k2⟩
    ·have e:((D++E)++[(⟨ki,lv,tx,t.args.length,oo,cp1,gs,D.length+E.length,0⟩:Ng)]).length=(D++E).length+1:=by rw[List.length_append];rfl
     rw[←List.append_assoc,e]
     exact k1
    ·rw[ae WE,hlen]
    ·rw[←List.append_assoc]
     refine⟨fun q=>absurd q (ae Bb),fun _=>⟨⟨ki,lv,tx,t.args.length,oo,cp1,gs,D.length+E.length,0⟩,by simp,by simp,ae H1,fun q=> ?_,fun q=> ?_,hall.imp fun _ _ r=> ?_⟩⟩
     ·obtain⟨q1,q2,q3⟩:=ae H4 q
      show lv=_
      rw[BB,if_pos,q1]
      rw[ae H1,q]
      rfl
     ·exact ae H5 q
     ·have:=r.more (E:=[⟨ki,lv,tx,t.args.length,oo,cp1,gs,D.length+E.length,0⟩]) (F:=[])
      rwa [List.append_nil]at this
    ·rw[←List.append_assoc];simp
    ·rw[List.length_append]
     exact ae xp)
   have H9:=af dK
   obtain⟨ti,hi,vY,vZ,tJ⟩:=info_parts infoNd
   have BF:=af (show D.length+E.length=(D++E).length by rw[List.length_append])
   rw[ae BF]at dE
   generalize hDE:D++E=DE at*
   generalize hVF':V++F=VF at*
   clear had PD dC gP hlen hown Am dK hall vw fC cW eE hkj dS hlv hVF BB PE hkinds hk4 hk2 PF hsmall hDE hVF' BF
   go_wp2_with fail
   go_region_law (first
    | (go_simp;go_at_call 95;refine(ae LB).mono ?_;rintro e w2 ⟨rfl,hb⟩;have bf:=af (((Below.refl _ wr).drew).trans hb);have k0:=(hb.cell (p:=⟨sb,so,none⟩) sz).trans s0;have k1:=(hb.cell (p:=⟨w.heap.size,0,none⟩) z4).trans b0;have k2:=(hb.cell (p:=⟨w.heap.size,1,none⟩) z4).trans b1;have k3:=(hb.cell (p:=⟨w.heap.size,2,none⟩) z4).trans b2;have k4:=(hb.cell (p:=⟨w.heap.size,3,none⟩) z4).trans b3;have hz2:wr.heap.size≤w2.heap.size:=hb.size;have k0':∀o,(w2.alloc o).cell? ⟨sb,so,none⟩=some (.slice no1 DE.length nc1):=(fun o=>(World.cell?_alloc_past _ _ _ (by omega)).trans k0);clear hb)
    | (refine step_append_lies _ (by rfl) _ _ _ (by rfl) 0 180 ti _ 7 80 Tryz.underlying86 hi vY vZ tJ rfl (by omega) (.slice no1 DE.length nc1) DE.length (kA DE) (by rfl) (((ae BC).below (ae bf)).st.own.alloc _) ⟨w2.heap.size,0,none⟩ 1 1 [.int .i64 ki,.int .i64 lv,.string tx,.int .i64 (t.args.length:Int),.slice oo t.args.length cp1,.int .i64 (DE.length:Int),.int .i64 0] (by rfl) (by rfl) (World.news_of_block (cs:=#[.int .i64 ki,.int .i64 lv,.string tx,.int .i64 (t.args.length:Int),.slice oo t.args.length cp1,.int .i64 (DE.length:Int),.int .i64 0]) (t:=180) (fr:=(0,0)) (heap_alloc_new w2 _)) (by simp[Value.oneCell']) (by omega) (by unfold maxLen;omega) (by omega) (Nat.zero_le _) (w2.heap.size+1) (by simp) ?_;intro g cap' w7 hown1 hgrow hat jl;have m0:=(hgrow.cell_far ⟨sb,so,none⟩ (by simp;omega) (ae sZ)).trans ((World.cell?_alloc_past _ _ _ (by omega)).trans k0);have m1:=(hgrow.cell_far ⟨w.heap.size,0,none⟩ (by simp;omega) (ae xr)).trans ((World.cell?_alloc_past _ _ _ (by omega)).trans k1);have m2:=(hgrow.cell_far ⟨w.heap.size,1,none⟩ (by simp;omega) (ae xr)).trans ((World.cell?_alloc_past _ _ _ (by omega)).trans k2);have m3:=(hgrow.cell_far ⟨w.heap.size,2,none⟩ (by simp;omega) (ae xr)).trans ((World.cell?_alloc_past _ _ _ (by omega)).trans k3);have m4:=(hgrow.cell_far ⟨w.heap.size,3,none⟩ (by simp;omega) (ae xr)).trans ((World.cell?_alloc_past _ _ _ (by omega)).trans k4);have HN:=af (((ae BC).below (ae bf)).node (fun g q=>ae HP g (by omega)) (ae Va) ((Below.refl _ _).alloc (Nat.le_refl _) _) (d:=⟨ki,lv,tx,t.args.length,oo,cp1,gs,DE.length,0⟩) (show w7.ownsRow _ _ _ _ _ (_++[_,_,_,_,_,_,_])from by rw[ae H9];exact hown1) hgrow (by rcases hat with q | q;exact Or.inl (aI q);(right;omega)) (fun q=>by have:=ae BD w2 (ae bf) q;exact this));have k9:w7.frozen? ⟨sb,so,none⟩=false:=(by have:=ay (ae HN).1.st.blk so;rwa [World.frozen?_setCell]at this);have zz7:sb<w7.heap.size:=(by have:=ag (ae HN).1.st.blk;rwa [cL]at this);clear hown1 hgrow hat jl))
   all_goals (go_wp2_with fail;go_ret;exact ae dE _ _ _ _ (ae HN).1 (ae HN).2 (ae bf))
theorem ag_all:∀f,Hy f
 | 0=>fun _ _ _ _ _ _ _ _ _ _ _ _ _ _ _ _ _ _ _ _ _ _ h=>absurd h (fun q=>q)
 | f+1=>fun P w sb so cs T cb D V no nc vo vc N ns Q a t h hP hT hV hr hw hv hN hd jF=>by
  by_cases ka:t.kind=3
  ·exact PA f P w sb so cs T cb D V no nc vo vc N ns a t h hP hV hr.1 hw ka hv hN hd jF
  ·exact NW (ag_all f) P w sb so cs T cb D V no nc vo vc N ns Q a t h hP hT hV hr hw ka hv hN hd jF
end Go.Proofs.YthfjnfcekeknlaaGreatDoor
namespace Go.Proofs.YthfjnfcekeknlaaGreatDoor
open Go.RowKit
theorem gH.mono {l l':Nat} {d:Ng} (h:gH l d) (hl:l≤l'):gH l' d:=⟨h.ks,h.v,h.m,h.c,fun a ha=>Nat.lt_of_lt_of_le (h.inn a ha) hl⟩
theorem gB {D:List Ng} {n:Nat} (h:n<D.length) (E:List Ng):Za.gl (aX (D++E)) n=Za.gl (aX D) n:=by
 rw[lU (show n<(D++E).length by rw[List.length_append];omega),lU h,List.getElem_append_left h]
theorem jG {D:List Ng} {n:Nat} (h:n<D.length) (E:List Ng):Za.ga (aX (D++E)) n=Za.ga (aX D) n:=by
 rw[jS (show n<(D++E).length by rw[List.length_append];omega),jS h,List.getElem_append_left h]
theorem xt {D:List Ng} {n:Nat} (h:D.length≤n):Za.ga (aX D) n=[]:=by
 unfold Za.ga aX
 rw[List.getElem?_map,List.getElem?_eq_none h]
 rfl
theorem dJ.at {D E:List Ng} (h:dJ D.length E) {n:Nat} (h1:D.length≤n) (h2:n<(D++E).length):(D++E)[n].nx=n∧(D++E)[n].mrk=0∧gH n (D++E)[n]∧(D++E)[n].tx.size≤240∧0≤(D++E)[n].val∧(D++E)[n].val≤1000000000:=by
 rw[List.getElem_append_right h1]
 rw[List.length_append]at h2
 have:=h (n - D.length) E[n - D.length] (List.getElem?_eq_getElem (by omega))
 rwa [show D.length+(n - D.length)=n by omega]at this
theorem b6.more {D E:List Ng} {fr:Nat→Nat} (h:b6 D fr) (hE:dJ D.length E):b6 (D++E) fr:=by
 refine⟨fun n hn=> ?_,fun n hn=> ?_,fun n hn=>h.out n (by rw[List.length_append]at hn;omega)⟩
 ·by_cases q:n<D.length
  ·rw[List.getElem_append_left q]
   exact(h.nd n q).mono (by rw[List.length_append];omega)
  ·exact(hE.at (by omega) hn).2.2.1.mono (by omega)
 ·by_cases q:n<D.length
  ·obtain⟨k,hk⟩:=h.hop n q
   have key:∀{n m k},Hop D n m k→Hop (D++E) n m k:=by
    intro n m k hk
    induction hk with
    | stop q e=>exact .stop (by rw[List.length_append];omega) (by rw[List.getElem_append_left q];exact e)
    | go q e _ ih=>exact .go (by rw[List.length_append];omega) (by rw[List.getElem_append_left q];exact e) (by rw[List.getElem_append_left q];exact ih)
   exact⟨k,key hk⟩
  ·rw[h.out n (by omega)]
   exact⟨0,.stop hn (hE.at (by omega) hn).1⟩
theorem uK {D E:List Ng} {fr:Nat→Nat} (h:b6 D fr) {n:Nat} {u:Za.U} (ht:Za.Tr (aX D) fr n u):n<D.length→Za.Tr (aX (D++E)) fr n u:=by
 induction ht with
 | @var n hg ha=>exact fun hn=> .var (by rw[gB (h.lt hn)];exact hg) (by rw[jG (h.lt hn)];exact ha)
 | @node n k tx num us hg hl _ ih=>
  intro hn
  refine .node (by rw[gB (h.lt hn)];exact hg) (by rw[jG (h.lt hn)];exact hl) fun i a v ha hv=> ?_
  rw[jG (h.lt hn)]at ha
  refine ih i a v ha hv ?_
  rw[jS (h.lt hn)]at ha
  exact(h.nd _ (h.lt hn)).inn a (List.mem_of_getElem? ha)
theorem Kz {D E:List Ng} {fr:Nat→Nat} {T:Nat→Za.U} (h:b6 D fr) (hS:Za.dG (aX D) fr T) (hE:dJ D.length E):∃T',Za.dG (aX (D++E)) fr T'∧∀n,n<D.length→T' n=T n:=by
 have ho:=h.more hE
 have hplain:Za.Plain (aX (D++E)):=fun n hg=>by
  by_cases q:n<(D++E).length
  ·rw[lU q]at hg
   rw[jS q]
   exact((ho.nd n q).v ((ho.nd n q).fY.1 hg)).2.2.2
  ·exact xt (by omega)
 have pZ:∀n,∃u,Za.Tr (aX (D++E)) fr n u:=by
  intro n
  induction n using Nat.strongRecOn with
  | _ n ih=>
   by_cases q:n<D.length
   ·exact⟨_,uK h (hS.tr n) q⟩
   ·have hf:fr n=n:=h.out n (by omega)
    refine Za.qY hplain fun a ha=>ih a ?_
    rw[hf]at ha
    by_cases r:n<(D++E).length
    ·rw[jS r]at ha
     exact(hE.at (by omega) r).2.2.1.inn a ha
    ·rw[xt (by omega)]at ha
     cases ha
 refine⟨fun n=>Classical.choose (pZ n),⟨⟨ho.idem,fun n hn=> ?_⟩,⟨fun n hn=> ?_,fun n hn i x y hx hy=> ?_⟩,fun n=>Classical.choose_spec (pZ n),hplain,fun n hg=> ?_⟩,fun n hn=> ?_⟩
 ·by_cases q:n<D.length
  ·rw[gB q]at hn
   rw[gB (h.lt q)]
   exact hS.fronts.fY n hn
  ·rw[h.out n (by omega)];exact hn
 ·by_cases q:n<D.length
  ·rw[gB q]at hn
   have:=hS.cong.fY n hn
   unfold Za.pM at this⊢
   rw[gB q,gB (h.lt q),jG q,jG (h.lt q)]
   exact this
  ·rw[h.out n (by omega)];exact⟨rfl,rfl⟩
 ·by_cases q:n<D.length
  ·rw[gB q]at hn
   rw[jG q]at hx
   rw[jG (h.lt q)]at hy
   exact hS.cong.args n hn i x y hx hy
  ·rw[h.out n (by omega),hx]at hy
   obtain rfl:=Option.some.inj hy
   exact .fr rfl
 ·by_cases q:n<D.length
  ·rw[gB (h.lt q)]at hg
   exact hS.sD n hg
  ·rw[h.out n (by omega)];exact Nat.le_refl _
 ·exact(Classical.choose_spec (pZ n)).one (uK h (hS.tr n) hn)
theorem tI.is {D:List Ng} {fr:Nat→Nat} {T:Nat→Za.U} (h:b6 D fr) (hS:Za.dG (aX D) fr T) {V:List Nat} {N:List (List UInt8)}:∀{f n:Nat} {t:Za.Tm},tI D V N f n t→Za.wfK f t→T n=Za.bJ (fun x=>T ((V[N.idxOf x]?).getD 0)) f t
 | f+1,n,t,⟨h1,h2⟩,⟨k1,k2,k3,k4⟩=>by
  unfold Za.bJ
  by_cases k:t.kind=3
  ·rw[if_pos k,h1 k];rfl
  ·rw[if_neg k]
   obtain⟨d,q1,q2,q3,q4,q5,q6⟩:=h2 k
   have hn:=(List.getElem?_eq_some_iff.1 q1).1
   have p6:D[n]=d:=(List.getElem?_eq_some_iff.1 q1).2
   have hf:fr n=n:=(h.self hn).2 (by rw[p6];exact q2)
   have key:∀kk tx num,Za.gl (aX D) n=some (kk,tx,num)→T n= .n kk tx num (t.args.map (Za.bJ (fun x=>T ((V[N.idxOf x]?).getD 0)) f)):=fun kk tx num hg=>by
    rw[hS.reads.node n kk tx num hg,jS hn,p6]
    congr 1
    have:∀(xs:List Nat) (ts:List Za.Tm),bR (tI D V N f) xs ts→(∀a∈ts,Za.wfK f a)→xs.map T=ts.map (Za.bJ (fun x=>T ((V[N.idxOf x]?).getD 0)) f):=by
     intro xs
     induction xs with
     | nil=>intro ts ha _;cases ts with
      | nil=>rfl
      | cons t ts=>exact ha.elim
     | cons x xs ih=>intro ts ha hw;cases ts with
      | nil=>exact ha.elim
      | cons t ts=>rw[List.map_cons,List.map_cons,tI.is h hS ha.1 (hw t (by simp)),ih ts ha.2 (fun a ha=>hw a (by simp[ha]))]
    exact this d.args t.args q6 k4
   have dS:Za.gl (aX D) n=fp d:=by rw[lU hn,p6]
   by_cases kk:t.kind=4
   ·rw[if_pos kk]
    have hk:d.k=2:=by rw[q3,kk];rfl
    have:=key 3 [] d.val (by rw[dS];unfold fp;rw[if_neg (by omega),if_pos hk])
    rw[this,q4 kk,k2 (by omega)]
    rfl
   ·rw[if_neg kk]
    have kt:t.kind=2:=by omega
    have hk:d.k=3:=by rw[q3,kt];rfl
    have:=key 1 d.tx.toList 0 (by rw[dS];unfold fp;rw[if_neg (by omega),if_neg (by omega)])
    rw[this,q5 kt]
end Go.Proofs.YthfjnfcekeknlaaGreatDoor
