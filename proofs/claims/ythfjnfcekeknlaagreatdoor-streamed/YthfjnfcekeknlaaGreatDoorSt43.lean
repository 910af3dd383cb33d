import Derived.Test.YthfjnfcekeknlaaGreatDoorSt33
import Derived.Test.YthfjnfcekeknlaaGreatDoorSt42
set_option maxHeartbeats 8000000
set_option maxRecDepth 100000
namespace Za
end Za
namespace Go.Proofs.YthfjnfcekeknlaaGreatDoor
open Go.RowKit
def kP (w:World) (o:Option Addr) (c:Nat) (xs:List Nat):Prop:=(o=none∧xs=[]∧c=0)∨∃g off,o=some ⟨g,off,none⟩∧g<w.heap.size∧xs.length≤c∧c≤9223372036854775807∧∀i (h:i<xs.length),w.cell? ⟨g,off+i,none⟩=some (.int .i64 (xs[i]:Int))
theorem kP.below {w w':World} {o:Option Addr} {c:Nat} {xs:List Nat} (h:kP w o c xs) (hb:Below w.heap.size w w'):kP w' o c xs:=by
 rcases h with h | ⟨g,off,h1,h2,h3,h4,h5⟩
 ·exact Or.inl h
 ·exact Or.inr ⟨g,off,h1,Nat.lt_of_lt_of_le h2 hb.size,h3,h4,fun i hi=>(hb.cell (p:=⟨g,off+i,none⟩) h2).trans (h5 i hi)⟩
theorem kP.lU {w:World} {b:Nat} {T:TypeId} {o:Option Addr} {c:Nat} {ys:List Nat} (h:w.ownsRow b T 1 (.slice o ys.length c) ys.length (ys.map aI)):kP w o c ys:=by
 rcases h.2 with⟨q1,q0⟩ | ⟨g,cp,cur,q1,q2,q3,q4,_⟩
 ·simp only[Value.slice.injEq]at q1
  exact Or.inl ⟨q1.1,List.length_eq_zero_iff.1 q0,q1.2.2⟩
 ·have q1':=q1
  simp only[Value.slice.injEq]at q1
  obtain⟨rfl,_,rfl⟩:=q1
  refine Or.inr ⟨g,0,rfl,(h.lt g rfl).2,?_,?_,fun i hi=> ?_⟩
  ·omega
  ·unfold maxLen at*;omega
  ·rw[Nat.zero_add,h.cellAt i (by omega),List.getElem?_map,List.getElem?_eq_getElem hi]
   rfl
theorem xQ {ops:Array Oper} {rest:List Oper} {o:Oper} {a:Act} {Q:Exit→Act→World→Prop} {w:World} (hgd:o.guard=none) (s x:Operand)
 (ho:o.op= .call {callee:= .builtin .append,args:=#[s,x],argTypes:=#[25,25]})
 (base:Nat) (v:Value) (n:Nat) (xs:List Nat) (hs:a.eval s=v) (hown:w.ownsRow base 3 1 v n (xs.map aI))
 (so:Option Addr) (m c:Nat) (ys:List Nat) (hx:a.eval x= .slice so m c) (hm:m=ys.length) (hy:kP w so c ys)
 (hn:n+m≤1000000000) (hbase:base≤w.heap.size)
 (h:∀v' w',w'.ownsRow base 3 1 v' (n+m) ((xs++ys).map aI)→w.grownBy w' v.ownBlock→wpList Tryz.prog ops Q rest (a.put o.dst v') w'):
 wpList Tryz.prog ops Q (o :: rest) a w:=by
 obtain⟨tj,hj,hy0,hy1,hy2⟩:=info_parts infoIn
 rcases hy with⟨rfl,rfl,rfl⟩ | ⟨g,off,rfl,gz,hlc,hcm,hce⟩
 ·obtain⟨vo,vc,rfl⟩:=eP hown
  have hm0:m=0:=hm
  subst hm0
  have hle:n≤vc:=by
   rcases hown.2 with⟨r,r0⟩ | ⟨g,cap,cur,r,_,_,r3,_⟩
   ·omega
   ·simp only[Value.slice.injEq]at r
    omega
  refine wpList_plain hgd fun K hK=> ?_
  have hr:=pT (P:=Tryz.prog) w 25 o.type 3 tj Tryz.underlying25 hj vo n vc hle
  unfold Oper.wp execOp
  simp only[ho,resolve,invoke,builtin,Sem.run_bind,Sem.run_pure,Result.andThen_ok,List.map_toArray,List.map_cons,List.map_nil,hs,hx,hr]
  exact hK _ _ (h _ _ (by simpa using hown) (World.grownBy.refl _ _))
 ·refine wpList_append_own_at w hgd s x 25 ho base 3 tj (.int .i64 0) 1 8 Tryz.underlying25 hj hy0 hy1 hy2 rfl (by decide) v n (xs.map aI) hs hown ⟨g,off,none⟩ m c (ys.map aI) hx (by simp[hm]) (fun j u hj=> ?_) (fun u hu=> ?_) (by unfold maxLen;omega) (by omega) hbase (fun v' w' h1 h2 _ _=>h v' w' (by rw[List.map_append];exact h1) h2)
  ·have hjl:j<ys.length:=by simpa using (List.getElem?_eq_some_iff.1 hj).1
   have:(⟨g,off,none⟩:Addr).add j=⟨g,off+j,none⟩:=by cases j<;>simp[Addr.add]
   rw[this,hce j hjl]
   rw[List.getElem?_map,List.getElem?_eq_getElem hjl]at hj
   exact hj
  ·obtain⟨y,_,rfl⟩:=List.mem_map.1 hu
   rfl
theorem Pc (w:World) (a b:List Nat) (oa ob:Option Addr) (ca cb:Nat) (ha:kP w oa ca a) (hb:kP w ob cb b) (la:a.length≤1000) (lb:b.length≤1000):
 Calls Tryz.prog 19 #[.slice oa a.length ca,.slice ob b.length cb] w fun e w'=>∃(o:Option Addr) (c:Nat),e= .returned (.slice o (a++b).length c)∧w'.ownsRow w.heap.size 3 1 (.slice o (a++b).length c) (a++b).length ((a++b).map aI)∧Below w.heap.size w w':=by
 have HA:=hide ha
 have HB:=hide hb
 have HL:=hide (show (a++b).length=a.length+b.length from List.length_append)
 clear ha hb
 generalize DW:a.length=na at*
 generalize hlb:b.length=nb at*
 have X6:=hide DW
 have y7:=hide hlb
 clear DW hlb
 go_enter Tryz.func19,Tryz.ntmps19
 go_wp2_with (at_builtin;first
  | (refine xQ rfl (.tmp 9) (.tmp 10) rfl w.heap.size _ _ _ rfl (ae MH) ob nb cb b rfl (ae y7).symm ((ae HB).below (ae aZ)) (by omega) (ae aZ).size ?_;intro v2 w2 h1 h2;have uJ:=hide h1;have aX:=hide ((ae aZ).grown h2 (ae aZ).size (fun k r=>((ae MH).lt k r).1));clear h1 h2)
  | (go_must (refine xQ rfl (.tmp 6) (.tmp 7) rfl w.heap.size (.slice none 0 0) 0 [] rfl (World.ownsRow_nil _ _ _ _) oa na ca a rfl (ae X6).symm (ae HA) (by omega) (Nat.le_refl _) ?_;intro v1 w1 h1 h2;have MH:=hide h1;have aZ:=hide ((Below.refl w.heap.size w).grown h2 (Nat.le_refl _) (fun k r=>by cases r));clear h1 h2)))
 have h2:=ae uJ
 rw[Nat.zero_add,List.nil_append,←ae HL]at h2
 obtain⟨o2,c2,rfl⟩:=eP h2
 have X7:=hide h2
 clear h2 uJ
 go_ret
 exact⟨o2,c2,rfl,ae X7,ae aX⟩
end Go.Proofs.YthfjnfcekeknlaaGreatDoor
