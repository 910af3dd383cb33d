import Derived.Test.YthfjnfcekeknlaaGreatDoorMe35
import Derived.Test.YthfjnfcekeknlaaGreatDoorMe37
set_option maxHeartbeats 8000000
set_option maxRecDepth 100000
namespace Zc
open Go
def prS:List aJ→List UInt8
 | []=>[]
 | [c]=>sM idS false c
 | c :: d :: cs=>sM idS false c++32 :: prS (d :: cs)
theorem par_progS:∀(cs:List aJ) (k:Nat),cs.length≤k→(∀c∈cs,yY idS c)→∀(s:ByteArray) (p:Nat) (l:List aj),Tk s p l→At s p (prS cs)→∃l',prog k l= .inr (cs.map (Dq idS),l')
 | [],k,_,_,s,p,l,hl,ha=>by
  refine⟨l,?_⟩
  unfold prog
  rw[if_pos (hl.done ha)]
  rfl
 | c :: cs,k,hk,hc,s,p,l,hl,ha=>by
  cases k with
  | zero=>simp at hk
  | succ k=>
   obtain⟨tl,q9⟩:∃tl,prS (c :: cs)=sM idS false c++tl∧((cs=[]∧tl=[])∨(cs≠[]∧tl=32 :: prS cs)):=by
    cases cs with
    | nil=>exact⟨[],by simp[prS],Or.inl ⟨rfl,rfl⟩⟩
    | cons d ds=>exact⟨_,by rw[prS],Or.inr ⟨by simp,rfl⟩⟩
   rw[q9.1]at ha
   obtain⟨h2,l1,e1,k1,a1⟩:=GU (b:=false) (hc c (by simp)) hl ha
   have key:∃l2,prog k l1= .inr (cs.map (Dq idS),l2):=by
    rcases q9.2 with⟨rfl,rfl⟩ | ⟨_,rfl⟩
    ·exact par_progS [] k (by simp) (fun d hd=>by cases hd) s _ l1 k1 a1
    ·obtain⟨k2,a2⟩:=k1.blank a1 (by decide)
     exact par_progS cs k (by simpa using hk) (fun d hd=>hc d (by simp[hd])) s _ l1 k2 a2
   obtain⟨l2,e2⟩:=key
   refine⟨l2,?_⟩
   unfold prog
   rw[if_neg (by omega)]
   dsimp only
   rw[e1]
   dsimp only
   rw[e2]
   rfl
theorem NY {x:List UInt8} {s:ByteArray} (h:s=⟨x.toArray⟩):At s 0 x:=by
 have:=At.start s
 rw[h]at this⊢
 simpa using this
theorem S5 {cs:List aJ} {s:ByteArray} (hs:s=⟨(prS cs).toArray⟩) (hl:cs.length≤12) (hc:∀c∈cs,yY idS c) {L:List aj} (hL:eo s L) (hh:hd L=next s 0):∃l',prog 12 L= .inr (cs.map (Dq idS),l'):=
 par_progS cs 12 hl hc s 0 L ⟨hL,hh⟩ (NY hs)
theorem Pp {x:aH} {xs:List aH} {s:ByteArray} (hs:s=⟨(jD idS false (x :: xs)).toArray⟩) (hl:xs.length≤5) (hx:iN idS x) (hy:∀y∈xs,iN idS y) {L:List aj} (hL:eo s L) (hh:hd L=next s 0):∃l',query L= .inr ((x :: xs).map (uF idS),l'):=by
 obtain⟨l',e,k,a⟩:=si (σ:=idS) (b:=false) (tl:=[]) (Or.inl rfl) xs x 5 false hl hx hy s 0 L ⟨hL,hh⟩ (by rw[List.append_nil];exact NY hs)
 exact⟨l',EX e (k.done a)⟩
def tV (c:UInt8):Tm:=⟨3,⟨#[c]⟩,[]⟩
def tD (n:Nat):Tm:=⟨4,⟨(ie n).toArray⟩,[]⟩
def tNil:Tm:=⟨2,⟨#[110]⟩,[]⟩
def tC (a b:Tm):Tm:=⟨2,⟨#[99]⟩,[a,b]⟩
def tF (x:List UInt8) (a b c:Tm):Tm:=⟨2,⟨x.toArray⟩,[a,b,c]⟩
def tL:List Nat→Tm
 | []=>tNil
 | d :: l=>tC (tD d) (tL l)
theorem Pq {n k:Nat} (h:n<10 ^ (k+1)):(ie n).length≤k+1:=by
 induction k generalizing n with
 | zero=>rw[js (by omega)];simp
 | succ k ih=>
  by_cases q:n<10
  ·rw[js q];simp
  ·rw[rO q,List.length_append]
   have:=ih (n:=n / 10) (by rw[Nat.pow_succ]at h;omega)
   simp
   omega
theorem S6 (n:Nat):ie n≠[]:=by
 by_cases q:n<10
 ·rw[js q];simp
 ·rw[rO q];simp
theorem MF (n:Nat):jY 4 (ie n):=by
 have hw:∀d∈ie n,iO d.toNat=true:=ME n
 cases h:ie n with
 | nil=>exact absurd h (S6 n)
 | cons c r=>
  rw[h]at hw
  exact⟨c,r,rfl,Or.inr (Or.inr ⟨rfl,hw c (by simp)⟩),fun d hd=>by have:=hw d hd;unfold dt;simp[this]⟩
theorem WQ {f n:Nat} (h:n<1000000):gF idS (f+1) (tD n):=by
 refine Or.inr (Or.inl ⟨rfl,?_,?_⟩)
 ·show jY 4 (⟨(ie n).toArray⟩:ByteArray).toList
  rw[dA];exact MF n
 ·show (ie n).toArray.size≤6
  have:=Pq (n:=n) (k:=5) (by omega)
  simpa using this
theorem WR (f n:Nat):bD idS (f+1) (tD n)=ie n:=by
 show (⟨(ie n).toArray⟩:ByteArray).toList=_
 rw[dA]
theorem WS (η:List UInt8→U) (f n:Nat):bH η (f+1) (tD n)=jB n:=by
 show U.n 3 [] (numOf (⟨(ie n).toArray⟩:ByteArray):Int) []=_
 unfold numOf
 rw[dA]
 unfold ie
 rw[MD]
 rfl
theorem gV {f:Nat} {c:UInt8} (h:i6 c.toNat=true):gF idS (f+1) (tV c):=by
 refine Or.inl ⟨rfl,?_⟩
 show jY 3 (⟨#[c]⟩:ByteArray).toList
 rw[show (⟨#[c]⟩:ByteArray)=⟨[c].toArray⟩from rfl,dA]
 exact⟨c,[],rfl,Or.inr (Or.inl ⟨rfl,h⟩),fun d hd=>by rw[List.mem_singleton.1 hd];unfold dt;simp[h]⟩
theorem S7 (f:Nat) (c:UInt8):bD idS (f+1) (tV c)=[c]:=by
 show (⟨[c].toArray⟩:ByteArray).toList=_
 rw[dA]
theorem GV (η:List UInt8→U) (f:Nat) (c:UInt8):bH η (f+1) (tV c)=η [c]:=by
 show η (⟨[c].toArray⟩:ByteArray).toList=_
 rw[dA]
theorem Dr {f:Nat} {x:List UInt8} {as':List Tm} (hx:jY 2 x) (h3:as'.length≤3) (h:∀a∈as',gF idS f a):gF idS (f+1) ⟨2,⟨x.toArray⟩,as'⟩:=by
 refine Or.inr (Or.inr ⟨rfl,?_,h3,h⟩)
 show jY 2 (⟨x.toArray⟩:ByteArray).toList
 rw[dA];exact hx
theorem yZ (f:Nat) (x:List UInt8) (as':List Tm):bD idS (f+1) ⟨2,⟨x.toArray⟩,as'⟩=x++arS (as'.map (bD idS f)):=by
 show (⟨x.toArray⟩:ByteArray).toList++_=_
 rw[dA]
theorem GW (η:List UInt8→U) (f:Nat) (x:List UInt8) (as':List Tm):bH η (f+1) ⟨2,⟨x.toArray⟩,as'⟩= .n 1 x 0 (as'.map (bH η f)):=by
 show U.n 1 (⟨x.toArray⟩:ByteArray).toList 0 _=_
 rw[dA]
theorem WT (f:Nat) (x:List UInt8) (as':List Tm):gD idS (f+1) ⟨2,⟨x.toArray⟩,as'⟩=⟨2,⟨x.toArray⟩,as'.map (gD idS f)⟩:=rfl
theorem sj {x:List UInt8} (h:x≠[]) (hl:∀c∈x,low c.toNat=true):jY 2 x:=by
 cases x with
 | nil=>exact absurd rfl h
 | cons c r=>exact⟨c,r,rfl,Or.inl ⟨rfl,hl c (by simp)⟩,fun d hd=>by have:=hl d hd;unfold dt;simp[this]⟩
theorem ok_L:∀(l:List Nat) (f:Nat),(∀d∈l,d<10)→l.length<f→gF idS f (tL l)
 | [],f+1,_,_=>Dr (x:=[110]) (sj (by simp) (by decide)) (by simp) (fun a ha=>by cases ha)
 | d :: l,f+1,h,hl=>by
  have hl':l.length<f:=by simpa using hl
  refine Dr (x:=[99]) (sj (by simp) (by decide)) (by simp) (fun a ha=> ?_)
  simp only[List.mem_cons,List.not_mem_nil,or_false]at ha
  obtain⟨g,rfl⟩:∃g,f=g+1:=⟨f - 1,by omega⟩
  rcases ha with rfl | rfl
  ·exact WQ (by have:=h d (by simp);omega)
  ·exact ok_L l (g+1) (fun e he=>h e (by simp[he])) hl'
theorem pr_L:∀(l:List Nat) (f:Nat),l.length<f→bD idS f (tL l)=txL l
 | [],f+1,_=>yZ f [110] []
 | d :: l,f+1,hl=>by
  have hl':l.length<f:=by simpa using hl
  obtain⟨g,rfl⟩:∃g,f=g+1:=⟨f - 1,by omega⟩
  refine(yZ (g+1) [99] [tD d,tL l]).trans ?_
  rw[List.map_cons,List.map_cons,List.map_nil,WR,pr_L l (g+1) hl',txL]
  simp[arS]
theorem mp_L:∀(l:List Nat) (f:Nat),l.length<f→gD idS f (tL l)=tL l
 | [],f+1,_=>rfl
 | d :: l,f+1,hl=>by
  have hl':l.length<f:=by simpa using hl
  obtain⟨g,rfl⟩:∃g,f=g+1:=⟨f - 1,by omega⟩
  show (⟨2,_,[gD idS (g+1) (tD d),gD idS (g+1) (tL l)]⟩:Tm)=_
  rw[mp_L l (g+1) hl']
  rfl
theorem MH (η:List UInt8→U):∀(l:List Nat) (f:Nat),l.length<f→bH η f (tL l)=lsU l
 | [],f+1,_=>GW η f [110] []
 | d :: l,f+1,hl=>by
  have hl':l.length<f:=by simpa using hl
  obtain⟨g,rfl⟩:∃g,f=g+1:=⟨f - 1,by omega⟩
  refine(GW η (g+1) [99] [tD d,tL l]).trans ?_
  rw[List.map_cons,List.map_cons,List.map_nil,WS,MH η l (g+1) hl']
  rfl
def qC (x:List UInt8) (a b:Tm) (v:UInt8):aH:=⟨tF x a b (tV v),[],none,[],none⟩
theorem YB {x:List UInt8} {a b:Tm} {v:UInt8} (hx:jY 2 x) (_hi:x≠[105,110,116]) (ha:gF idS 7 a) (hb:gF idS 7 b) (hv:i6 v.toNat=true):iN idS (qC x a b v):=by
 refine .call _ (Dr hx (by simp) (fun t ht=> ?_)) rfl ?_
 ·simp only[List.mem_cons,List.not_mem_nil,or_false]at ht
  rcases ht with rfl | rfl | rfl
  ·exact ha
  ·exact hb
  ·exact gV hv
 ·unfold isInt tF
  simp
theorem WU (x:List UInt8) (a b:Tm) (v:UInt8):jD idS false [qC x a b v]=x++[40]++bD idS 7 a++[44]++bD idS 7 b++[44,v,41]:=by
 show kB idS (qC x a b v)++[]=_
 rw[List.append_nil]
 show bD idS 8 (tF x a b (tV v))++[]=_
 rw[List.append_nil]
 refine(yZ 7 x [a,b,tV v]).trans ?_
 rw[List.map_cons,List.map_cons,List.map_cons,List.map_nil,S7]
 simp[arS]
end Zc
namespace Go.Proofs.YthfjnfcekeknlaaGreatDoor
open Go.RowKit
structure xj (w:World):Prop where
 sg:dN w
 pos:0<w.heap.size
 pow:Pow w
theorem xj.below {w w':World} (h:xj w) (hb:Below w.heap.size w w'):xj w':=⟨h.sg.below hb h.pos,Nat.lt_of_lt_of_le h.pos hb.size,h.pow.below hb⟩
theorem runK (W:World) (he:xj W) {cs:List Zc.aJ} {x:Zc.aH} {xs:List Zc.aH} {sp sq:ByteArray} {script:List (Int×Int)} {so:Option Addr} {sc:Nat} (hp:sp=⟨(Zc.prS cs).toArray⟩) (xG:sp.size≤240) (gu:cs.length≤12) (hc:∀c∈cs,Zc.yY Zc.idS c) (hcm:cs.map (Zc.Dq Zc.idS)=cs) (EC:∀c∈cs,c.tests=[]) (hq:sq=⟨(Zc.jD Zc.idS false (x :: xs)).toArray⟩) (uz:sq.size≤96) (oh:xs.length≤5) (hx:Zc.iN Zc.idS x) (hy:∀y∈xs,Zc.iN Zc.idS y) (Ew:(x :: xs).map (Zc.uF Zc.idS)=x :: xs)
 (hsc:qL W so script) (kX:∀p∈script,(-9223372036854775808≤p.1∧p.1≤9223372036854775807)∧(-9223372036854775808≤p.2∧p.2≤9223372036854775807)) (kN:script.length≤100) {en:Int} {log:List Int} {vals gols:List (List UInt8)} {wts:List Bool} (hend:Zc.rW cs script (Zc.jP 1 (Zc.aC [] (x :: xs)) (x :: xs)) en log vals gols wts):
 Calls Tryz.prog 15 #[.string sp,.string sq,.slice so script.length sc] W fun e w'=>∃R,e= .returned (.tuple #[R,.int .i64 0])∧Dh w' W.heap.size R en log vals gols wts∧Below W.heap.size W w':=by
 obtain⟨LP,hP,hPh,hPl⟩:=Zc.D3 sp
 obtain⟨LQ,hQ,hQh,hQl⟩:=Zc.D3 sq
 obtain⟨l1,e1⟩:=Zc.S5 hp gu hc hP hPh
 obtain⟨l2,e2⟩:=Zc.Pp hq oh hx hy hQ hQh
 rw[hcm]at e1
 have aF:=TK (sp:=sp) (LP:=LP) hPl hQ hQh (fun cls l h=>by rw[e1]at h;cases h;exact EC)
 rw[Ew]at e2
 refine(O7 W sp LP sq LQ script so sc hP hPh hPl hQ hQh (fun h=>hQl (by omega)) he.sg he.pos he.pow aF hsc kX).mono fun e w' h=> ?_
 refine(Pf aF h).ends ?_ kN ?_ e1 e2 hend
 ·unfold kA
  rw[if_neg (by omega),e1]
  rfl
 ·unfold mD
  rw[if_neg (by omega),e2]
end Go.Proofs.YthfjnfcekeknlaaGreatDoor
namespace Zc
open Go.Proofs.YthfjnfcekeknlaaGreatDoor (dE iW)
theorem Aw {f:Nat→Nat}:∀n:Nat,(∃t,t<n∧f t=1)→∃t,t<n∧f t=1∧∀t',t'<t→f t'≠1
 | 0,⟨t,h,_⟩=>absurd h (Nat.not_lt_zero _)
 | n+1,⟨t,h,e⟩=>by
  by_cases q:∃t,t<n∧f t=1
  ·obtain⟨t,h1,h2,h3⟩:=Aw n q
   exact⟨t,by omega,h2,h3⟩
  ·refine⟨t,h,e,fun t' nG e'=>q ⟨t',by omega,e'⟩⟩
theorem uG {n bg t:Nat} (hn:0<n):iW (List.range n) bg t=(bg+t) % n:=by
 unfold iW
 rw[List.length_range,List.getElem?_range (Nat.mod_lt _ hn)]
 rfl
theorem Pr {n bg k:Nat} (hb:bg<n) (hk:k<n):∃t,t<n∧(bg+t) % n=k:=by
 by_cases q:bg≤k
 ·exact⟨k - bg,by omega,by rw[show bg+(k - bg)=k by omega,Nat.mod_eq_of_lt hk]⟩
 ·refine⟨k+n - bg,by omega,?_⟩
  rw[show bg+(k+n - bg)=k+n by omega,Nat.add_mod_right,Nat.mod_eq_of_lt hk]
theorem MI {cls:List aJ} {tx:List UInt8} {us:List U} (hown:cr cls tx us.length cls.length=List.range cls.length) {S:MS} {i:Nat} {g:MG} (hg:S.gs[i]?=some g) (aV:g.sg=[]) (ha:g.a= .n 1 tx 0 us) (ui:tx≠[116,114,117,101]) (p:Int) (hy:∃(k:Nat) (c:aJ),cls[k]?=some c∧(bT S.lim g.a c).1=1):
 ∃(k:Nat) (c:aJ),cls[k]?=some c∧(bT S.lim g.a c).1=1∧∀(F:List Nat) (S':MS),F.length+(NH c).length=(NG c).length→F.Pairwise (·<·)→(∀f∈F,S.lim≤f∧f<S'.lim)→S.lim≤S'.lim→S'.vs=S.vs→S'.gs=S.gs.eraseIdx i++c.goals.map (MG.of (cT g.a c fun k=>(F[k]?).getD 0))→kZ cls S S' i p ((k+1:Nat):Int):=by
 obtain⟨k0,c0,hc0,gp⟩:=hy
 have YC:k0<cls.length:=(List.getElem?_eq_some_iff.1 hc0).1
 have hn:0<cls.length:=by omega
 let f:Nat→Nat:=fun t=>match cls[(dE p cls.length+t) % cls.length]? with
  | some c=>(bT S.lim g.a c).1
  | none=>0
 obtain⟨t0,h1,h2⟩:=Pr (Go.Proofs.YthfjnfcekeknlaaGreatDoor.uh p cls.length hn) YC
 obtain⟨t,h3,h4,h5⟩:=Aw (f:=f) cls.length ⟨t0,h1,by show (match cls[(dE p cls.length+t0) % cls.length]? with | some c=>(bT S.lim g.a c).1 | none=>0)=1;rw[h2,hc0];exact gp⟩
 have NQ:(dE p cls.length+t) % cls.length<cls.length:=Nat.mod_lt _ hn
 have gu:=List.getElem?_eq_getElem NQ
 have h4':(bT S.lim g.a cls[(dE p cls.length+t) % cls.length]).1=1:=by
  have h4':(match cls[(dE p cls.length+t) % cls.length]? with | some c=>(bT S.lim g.a c).1 | none=>0)=1:=h4
  rw[gu]at h4'
  exact h4'
 refine⟨(dE p cls.length+t) % cls.length,_,gu,h4',fun F S' q1 q2 q3 q4 q5 q6=>⟨q4,g,hg,Or.inr (Or.inr (Or.inr (Or.inr (Or.inl ⟨cls.length,_,⟨aV,tx,us,ha,fun q=>ui q.1,by rw[hown,List.length_range],rfl⟩,t,_,F,h3,fun t' c' nG hc'=> ?_,?_,h4',?_,q1,q2,q3,q5,q6⟩))))⟩⟩
 ·rw[hown,uG hn]at hc'
  have:=h5 t' nG
  have e:f t'=(bT S.lim g.a c').1:=by
   show (match cls[(dE p cls.length+t') % cls.length]? with | some c=>(bT S.lim g.a c).1 | none=>0)=_
   rw[hc']
  rw[←e];exact this
 ·rw[hown,uG hn];exact gu
 ·rw[hown,uG hn]
theorem J6 (N:List Vr):∀l,bP Go.Lib.itoa N (lsU l)=txL l
 | []=>by rw[lsU,nlU,lW];rfl
 | d :: l=>by
  rw[lsU,jC,lW,if_neg (by decide),List.map_cons,List.map_cons,List.map_nil,J6 N l,jB,lW,if_pos rfl,txL]
  have:Go.Lib.itoa (d:Int)=ie d:=by
   unfold Go.Lib.itoa ie
   simp
  rw[this]
  simp[argS]
theorem Ds (N:List Vr):∀l,aU N (lsU l)=N
 | []=>by rw[lsU,nlU,fQ];rfl
 | d :: l=>by
  rw[lsU,jC,fQ]
  show aU (aU N (jB d)) (lsU l)=N
  rw[jB,fQ]
  exact Ds N l
theorem S9 (l:List Nat):kK [lsU l]=([txL l],[]):=by
 show ([]++[bP Go.Lib.itoa (aU [] (lsU l)) (lsU l)],aU [] (lsU l))=_
 rw[Ds,J6]
 rfl
theorem Fa {D:Nat→Bool} {b:List Nat}:∀(l:List Nat) (i:Nat),(∀k,i≤k→k≤i+l.length→D k=true)→ed D (some (lsU b)) l i=lsU (l++b)
 | [],i,h=>by
  show (if D i=true then lsU b else vn (1+i))=_
  rw[if_pos (h i (Nat.le_refl _) (Nat.le_refl _))]
  rfl
 | d :: l,i,h=>by
  rw[ed,if_pos (h i (Nat.le_refl _) (by omega)),Fa l (i+1) (fun k h1 h2=>h k (by omega) (by rw[List.length_cons];omega))]
  rfl
theorem gP.ok.all {s:gP} {c0:Nat} (h:s.ok c0) (hi:s.its=[]) {b:List Nat} (hf:s.fin=some (lsU b)):ed s.D s.fin s.hs 0=lsU (s.hs++b):=by
 rw[hf]
 refine Fa _ _ fun k _ hk=> ?_
 cases q:s.D k with
 | true=>rfl
 | false=>
  have:=(h.eq k).2 ⟨by unfold isEq;rw[hf];simp;omega,q⟩
  rw[hi]at this
  cases this
theorem names_tL:∀(l:List Nat) (f:Nat) (ns:List (List UInt8)),namesF f ns (tL l)=ns
 | _,0,ns=>by unfold namesF;rfl
 | [],f+1,ns=>by unfold namesF;rfl
 | d :: l,f+1,ns=>by
  unfold namesF
  show namesF f (namesF f ns (tD d)) (tL l)=ns
  have:namesF f ns (tD d)=ns:=by
   cases f with
   | zero=>unfold namesF;rfl
   | succ f=>unfold namesF;rfl
  rw[this]
  exact names_tL l f ns
theorem J7 (f:Nat):gF idS (f+1) tNil:=ok_L [] (f+1) (fun d hd=>by cases hd) (by simp)
theorem MJ {f:Nat} {a b:Tm} (ha:gF idS f a) (hb:gF idS f b):gF idS (f+1) (tC a b):=Dr (x:=[99]) (sj (by simp) (by decide)) (by simp) (fun t ht=>by
 simp only[List.mem_cons,List.not_mem_nil,or_false]at ht
 rcases ht with rfl | rfl
 ·exact ha
 ·exact hb)
theorem Dt {x:List UInt8} {f:Nat} {a b c:Tm} (hx:jY 2 x) (ha:gF idS f a) (hb:gF idS f b) (hc:gF idS f c):gF idS (f+1) (tF x a b c):=Dr hx (by simp) (fun t ht=>by
 simp only[List.mem_cons,List.not_mem_nil,or_false]at ht
 rcases ht with rfl | rfl | rfl
 ·exact ha
 ·exact hb
 ·exact hc)
theorem ls_nv:∀(l:List Nat) (y:Vr),lsU l≠ .v y
 | [],y,q=>by cases q
 | d :: l,y,q=>by cases q
theorem Ta (f:Nat):bD idS (f+1) tNil=[110]:=yZ f [110] []
theorem TM (f:Nat) (a b:Tm):bD idS (f+1) (tC a b)=[99,40]++(bD idS f a++([44]++(bD idS f b++[41]))):=by
 refine(yZ f [99] [a,b]).trans ?_
 simp[arS]
theorem WV (f:Nat) (x:List UInt8) (a b c:Tm):bD idS (f+1) (tF x a b c)=x++([40]++(bD idS f a++([44]++(bD idS f b++([44]++(bD idS f c++[41])))))):=by
 refine(yZ f x [a,b,c]).trans ?_
 simp[arS]
theorem none_says:Wn.none.says=1:=rfl
theorem yi {lim:Nat} {u:U} {c:aJ} (h:(matU 8 c.head u ⟨[],Wn.none⟩).w.says=2):(bT lim u c).1=2:=by
 unfold bT
 rw[if_pos (by omega)]
 exact h
theorem Fb {lim:Nat} {u:U} {c:aJ} {st:List (List UInt8×U)} (h:matU 8 c.head u ⟨[],Wn.none⟩=⟨st,Wn.none⟩) (ht:c.tests=[]):(bT lim u c).1=1:=by
 unfold bT
 rw[h,if_neg (by rw[none_says];simp),ht]
 rfl
theorem of_eq (η:List UInt8→U) (a b:Tm):MG.of η ⟨a,[61],some b,[],none⟩=MG.rd (bH η 8 a) [61] (bH η 8 b) [] zU:=rfl
theorem Fc (η:List UInt8→U) (a:Tm):MG.of η ⟨a,[],none,[],none⟩=MG.rd (bH η 8 a) [] zU [] zU:=rfl
theorem TN (η:List UInt8→U) (f:Nat) (a b:Tm):bH η (f+1) (tC a b)=jC (bH η f a) (bH η f b):=GW η f [99] [a,b]
theorem Tb (η:List UInt8→U) (f:Nat) (x:List UInt8) (a b c:Tm):bH η (f+1) (tF x a b c)= .n 1 x 0 [bH η f a,bH η f b,bH η f c]:=GW η f x [a,b,c]
theorem Ps (x:List UInt8) (a b:List Nat) (v:UInt8):aC [] [qC x (tL a) (tL b) v]=[[v]]:=by
 show aO [] (qC x (tL a) (tL b) v)=_
 show namesF 8 [] (tF x (tL a) (tL b) (tV v))=_
 unfold namesF
 show namesF 7 (namesF 7 (namesF 7 [] (tL a)) (tL b)) (tV v)=_
 rw[names_tL,names_tL]
 unfold namesF
 show dK [] (⟨[v].toArray⟩:ByteArray).toList=_
 rw[dA]
 rfl
theorem Pt (x:List UInt8) {a b:List Nat} (ha:a.length<7) (hb:b.length<7) (v:UInt8):jP 1 (aC [] [qC x (tL a) (tL b) v]) [qC x (tL a) (tL b) v]=⟨[vn 1],[MG.rd (.n 1 x 0 [lsU a,lsU b,vn 1]) [] zU [] zU],2⟩:=by
 rw[Ps]
 unfold jP
 rw[List.map_cons,List.map_nil,show qC x (tL a) (tL b) v=⟨tF x (tL a) (tL b) (tV v),[],none,[],none⟩from rfl,Fc,Tb,MH _ a 7 ha,MH _ b 7 hb,GV]
 congr 1
 simp[vn]
def nMer:List UInt8:=[109,101,114]
def mGs:List aH:=[⟨tV 90,[61],some (tC (tV 72) (tV 87)),[],none⟩,⟨tF nMer (tV 88) (tV 89) (tV 87),[],none,[],none⟩]
def mer1:aJ:=⟨tF nMer (tC (tV 72) (tV 88)) (tV 89) (tV 90),[],mGs⟩
def mer2:aJ:=⟨tF nMer (tV 88) (tC (tV 72) (tV 89)) (tV 90),[],mGs⟩
def mer3:aJ:=⟨tF nMer tNil (tV 89) (tV 90),[],[⟨tV 90,[61],some (tV 89),[],none⟩]⟩
def mer4:aJ:=⟨tF nMer (tV 88) tNil (tV 90),[],[⟨tV 90,[61],some (tV 88),[],none⟩]⟩
def mers:List aJ:=[mer1,mer2,mer3,mer4]
theorem nMer_word:jY 2 nMer:=sj (by decide) (by decide)
theorem mGs_ok:∀x∈mGs,iN idS x:=fun x hx=>by
 simp only[mGs,List.mem_cons,List.not_mem_nil,or_false]at hx
 rcases hx with rfl | rfl
 ·exact .eq _ _ (gV (by decide)) (MJ (gV (by decide)) (gV (by decide)))
 ·exact .call _ (Dt nMer_word (gV (by decide)) (gV (by decide)) (gV (by decide))) rfl (by unfold isInt tF;simp)
theorem mer_ok:∀c∈mers,yY idS c:=by
 intro c hc
 simp only[mers,List.mem_cons,List.not_mem_nil,or_false]at hc
 rcases hc with rfl | rfl | rfl | rfl
 ·exact⟨Dt nMer_word (MJ (gV (by decide)) (gV (by decide))) (gV (by decide)) (gV (by decide)),rfl,Or.inl rfl,mGs_ok,by simp[mer1,mGs],fun q=>by cases q⟩
 ·exact⟨Dt nMer_word (gV (by decide)) (MJ (gV (by decide)) (gV (by decide))) (gV (by decide)),rfl,Or.inl rfl,mGs_ok,by simp[mer2,mGs],fun q=>by cases q⟩
 ·refine⟨Dt nMer_word (J7 6) (gV (by decide)) (gV (by decide)),rfl,Or.inl rfl,fun x hx=> ?_,by simp[mer3],fun q=>by cases q⟩
  obtain rfl:=List.mem_singleton.1 hx
  exact .eq _ _ (gV (by decide)) (gV (by decide))
 ·refine⟨Dt nMer_word (gV (by decide)) (J7 6) (gV (by decide)),rfl,Or.inl rfl,fun x hx=> ?_,by simp[mer4],fun q=>by cases q⟩
  obtain rfl:=List.mem_singleton.1 hx
  exact .eq _ _ (gV (by decide)) (gV (by decide))
theorem mer_mp:mers.map (Dq idS)=mers:=rfl
theorem mer_pr:prS mers=[109,101,114,40,99,40,72,44,88,41,44,89,44,90,41,58,45,90,61,99,40,72,44,87,41,44,109,101,114,40,88,44,89,44,87,41,46,32,109,101,114,40,88,44,99,40,72,44,89,41,44,90,41,58,45,90,61,99,40,72,44,87,41,44,109,101,114,40,88,44,89,44,87,41,46,32,109,101,114,40,110,44,89,44,90,41,58,45,90,61,89,46,32,109,101,114,40,88,44,110,44,90,41,58,45,90,61,88,46]:=by
 simp only[mers,prS,sM,mer1,mer2,mer3,mer4,mGs,jD,kB,WV,TM,S7,Ta,sp,nl,List.flatMap_cons,List.flatMap_nil]
 rfl
def di (a b:List Nat) (k:Nat):U:= .n 1 nMer 0 [lsU a,lsU b,vn k]
theorem mer_own:cr mers nMer 3 4=List.range 4:=by
 simp[cr,mers,mer1,mer2,mer3,mer4,yH,tF,nMer,List.range,List.range.loop]
theorem uH (d:Nat) (a b:List Nat) (k:Nat):matU 8 mer1.head (di (d :: a) b k) ⟨[],Wn.none⟩=⟨[([72],jB d),([88],lsU a),([89],lsU b),([90],vn k)],Wn.none⟩:=by
 simp[matU,cJ,gm,bJ.meet,mer1,di,tF,tC,tV,nMer,lsU,jC]
theorem TP (b:List Nat) (k:Nat):(matU 8 mer1.head (di [] b k) ⟨[],Wn.none⟩).w.says=2:=by
 simp[matU,cJ,gm,bJ.meet,mer1,di,tF,tC,tV,nMer,lsU,nlU,Wn.bad,Wn.says]
theorem yj (d:Nat) (a b:List Nat) (k:Nat):matU 8 mer2.head (di a (d :: b) k) ⟨[],Wn.none⟩=⟨[([88],lsU a),([72],jB d),([89],lsU b),([90],vn k)],Wn.none⟩:=by
 simp[matU,cJ,gm,bJ.meet,mer2,di,tF,tC,tV,nMer,lsU,jC]
theorem TQ (a:List Nat) (k:Nat):(matU 8 mer2.head (di a [] k) ⟨[],Wn.none⟩).w.says=2:=by
 simp[matU,cJ,gm,bJ.meet,mer2,di,tF,tC,tV,nMer,lsU,nlU,Wn.bad,Wn.says]
theorem Du (b:List Nat) (k:Nat):matU 8 mer3.head (di [] b k) ⟨[],Wn.none⟩=⟨[([89],lsU b),([90],vn k)],Wn.none⟩:=by
 simp[matU,cJ,gm,bJ.meet,mer3,di,tF,tNil,tV,nMer,lsU,nlU]
theorem TR (d:Nat) (a b:List Nat) (k:Nat):(matU 8 mer3.head (di (d :: a) b k) ⟨[],Wn.none⟩).w.says=2:=by
 simp[matU,cJ,gm,bJ.meet,mer3,di,tF,tNil,tV,nMer,lsU,jC,Wn.bad,Wn.says]
theorem J9 (a:List Nat) (k:Nat):matU 8 mer4.head (di a [] k) ⟨[],Wn.none⟩=⟨[([88],lsU a),([90],vn k)],Wn.none⟩:=by
 simp[matU,cJ,gm,bJ.meet,mer4,di,tF,tNil,tV,nMer,lsU,nlU]
theorem TS (d:Nat) (a b:List Nat) (k:Nat):(matU 8 mer4.head (di a (d :: b) k) ⟨[],Wn.none⟩).w.says=2:=by
 simp[matU,cJ,gm,bJ.meet,mer4,di,tF,tNil,tV,nMer,lsU,jC,Wn.bad,Wn.says]
theorem NHm1:NH mer1=[[72],[88],[89],[90]]:=by simp[NH,mer1,tF,tC,tV,namesF,dK]
theorem NGm1:NG mer1=[[72],[88],[89],[90],[87]]:=by
 unfold NG NT
 rw[NHm1]
 simp[mer1,mGs,aC,aO,cq,tF,tC,tV,namesF,dK]
theorem NHm2:NH mer2=[[88],[72],[89],[90]]:=by simp[NH,mer2,tF,tC,tV,namesF,dK]
theorem NGm2:NG mer2=[[88],[72],[89],[90],[87]]:=by
 unfold NG NT
 rw[NHm2]
 simp[mer2,mGs,aC,aO,cq,tF,tC,tV,namesF,dK]
theorem NHm3:NH mer3=[[89],[90]]:=by simp[NH,mer3,tF,tNil,tV,namesF,dK]
theorem NGm3:NG mer3=[[89],[90]]:=by
 unfold NG NT
 rw[NHm3]
 simp[mer3,aC,aO,cq,tV,namesF,dK]
theorem NHm4:NH mer4=[[88],[90]]:=by simp[NH,mer4,tF,tNil,tV,namesF,dK]
theorem NGm4:NG mer4=[[88],[90]]:=by
 unfold NG NT
 rw[NHm4]
 simp[mer4,aC,aO,cq,tV,namesF,dK]
theorem Ka {η:List UInt8→U} {d k f:Nat} {a b:List Nat} (eZ:η [90]=vn k) (eH:η [72]=jB d) (eX:η [88]=lsU a) (eY:η [89]=lsU b) (eW:η [87]=vn f):mGs.map (MG.of η)=[MG.rd (vn k) [61] (jC (jB d) (vn f)) [] zU,MG.rd (di a b f) [] zU [] zU]:=by
 unfold mGs
 simp only[List.map_cons,List.map_nil,of_eq,Fc,TN,Tb,GV,eZ,eH,eX,eY,eW]
 rfl
theorem Pu (d:Nat) (a b:List Nat) (k f:Nat):mer1.goals.map (MG.of (cT (di (d :: a) b k) mer1 fun i=>([f][i]?).getD 0))=[MG.rd (vn k) [61] (jC (jB d) (vn f)) [] zU,MG.rd (di a b f) [] zU [] zU]:=by
 refine Ka ?_ ?_ ?_ ?_ ?_<;>unfold cT
 ·rw[NHm1,uH];simp
 ·rw[NHm1,uH];simp
 ·rw[NHm1,uH];simp
 ·rw[NHm1,uH];simp
 ·rw[NHm1,NGm1,if_neg (by decide)]
  rfl
theorem Pv (d:Nat) (a b:List Nat) (k f:Nat):mer2.goals.map (MG.of (cT (di a (d :: b) k) mer2 fun i=>([f][i]?).getD 0))=[MG.rd (vn k) [61] (jC (jB d) (vn f)) [] zU,MG.rd (di a b f) [] zU [] zU]:=by
 refine Ka ?_ ?_ ?_ ?_ ?_<;>unfold cT
 ·rw[NHm2,yj];simp
 ·rw[NHm2,yj];simp
 ·rw[NHm2,yj];simp
 ·rw[NHm2,yj];simp
 ·rw[NHm2,NGm2,if_neg (by decide)]
  rfl
theorem Pw (b:List Nat) (k:Nat) (o:Nat→Nat):mer3.goals.map (MG.of (cT (di [] b k) mer3 o))=[MG.rd (vn k) [61] (lsU b) [] zU]:=by
 have e1:cT (di [] b k) mer3 o [90]=vn k:=by
  unfold cT
  rw[NHm3,Du]
  simp
 have e2:cT (di [] b k) mer3 o [89]=lsU b:=by
  unfold cT
  rw[NHm3,Du]
  simp
 rw[show mer3.goals=[⟨tV 90,[61],some (tV 89),[],none⟩]from rfl]
 simp only[List.map_cons,List.map_nil,of_eq,GV,e1,e2]
theorem Px (a:List Nat) (k:Nat) (o:Nat→Nat):mer4.goals.map (MG.of (cT (di a [] k) mer4 o))=[MG.rd (vn k) [61] (lsU a) [] zU]:=by
 have e1:cT (di a [] k) mer4 o [90]=vn k:=by
  unfold cT
  rw[NHm4,J9]
  simp
 have e2:cT (di a [] k) mer4 o [88]=lsU a:=by
  unfold cT
  rw[NHm4,J9]
  simp
 rw[show mer4.goals=[⟨tV 90,[61],some (tV 88),[],none⟩]from rfl]
 simp only[List.map_cons,List.map_nil,of_eq,GV,e1,e2]
inductive mE:List Nat→List Nat→List Nat→Prop
 | nl (b:List Nat):mE [] b b
 | nr (a:List Nat):mE a [] a
 | left {a b l:List Nat} (d:Nat) (h:mE a b l):mE (d :: a) b (d :: l)
 | right {a b l:List Nat} (d:Nat) (h:mE a b l):mE a (d :: b) (d :: l)
theorem mE.len {a b l:List Nat} (h:mE a b l):l.length=a.length+b.length:=by
 induction h with
 | nl b=>simp
 | nr a=>simp
 | left d h ih=>simp only[List.length_cons];omega
 | right d h ih=>simp only[List.length_cons];omega
structure jZ (a b:List Nat) (script:List (Int×Int)) (S0:MS) (j:Nat) (s:gP) (c0:Nat) (L:List Int) (x y:List Nat):Prop where
 run:nk mers script S0 j (s.st (2+s.hs.length)) L
 ok:s.ok c0
 mix:∀l,mE x y l→mE a b (s.hs++l)
 sum:s.hs.length+(x.length+y.length)=a.length+b.length
 jw:(s.fin=none∧s.call=di x y (1+s.hs.length)∧j=c0+s.hs.length)∨(∃r,s.fin=some (lsU r)∧mE x y r∧j=c0+s.hs.length+1)
 neg:L.count (-1)=0
 len:L.length=j
theorem Py {x:Vr} {a b:List Nat} {k:Nat} (h:has x (di a b k)):x=([],k):=by
 unfold di at h
 simp only[has,sN,or_false]at h
 rcases h with h | h | h
 ·exact absurd h (gnd_ls a x)
 ·exact absurd h (gnd_ls b x)
 ·exact(show ([],k)=x from h).symm
theorem Fe {a b:List Nat} {k:Nat} (ha:a.length≤15) (hb:b.length≤15):mC (MG.rd (di a b k) [] zU [] zU)=false:=by
 show [lsU a,lsU b,vn k].any big=false
 simp only[List.any_cons,List.any_nil,Bool.or_false,Bool.or_eq_false_iff]
 exact⟨pM (by rw[size_ls];omega),pM (by rw[size_ls];omega),pM (by unfold vn;rw[size];omega)⟩
theorem jZ.end {a b:List Nat} {script:List (Int×Int)} {S0:MS} {j:Nat} {s:gP} {c0:Nat} {L:List Int} {x y:List Nat} (h:jZ a b script S0 j s c0 L x y):(j=2*(a.length+b.length+1)→s.its=[])∧(s.its=[]→∃r,s.fin=some (lsU r)∧mE x y r):=by
 have lO:=h.ok.ln
 have hs:=h.sum
 rcases h.jw with⟨hf,_,hj⟩ | ⟨r,hf,hr,hj⟩
 ·have hne:s.its≠[]:=fun q=>by
   have:=h.ok.cl.2 hf
   rw[q]at this
   cases this
  have hp:0<s.its.length:=List.length_pos_iff.2 hne
  exact⟨fun q=>by omega,fun q=>absurd q hne⟩
 ·refine⟨fun q=>List.length_eq_zero_iff.1 (by omega),fun _=>⟨r,hf,hr⟩⟩
theorem y4 {L:List Int} {z:Int} (h:L.count (-1)=0) (hz:z≠-1):(L++[z]).count (-1)=0:=by
 rw[List.count_append,h,List.count_singleton]
 simp[hz]
theorem jZ.more {a b:List Nat} {script:List (Int×Int)} {S0:MS} {j:Nat} {s:gP} {c0:Nat} {L:List Int} {x y x' y':List Nat} (h:jZ a b script S0 j s c0 L x y) {p:Nat} (ho:s.its[p]?=some none) {d:Nat} {z:Int} (hz:z≠-1) {pg pc:Int} (hsj:script[j]?=some (pg,pc)) (vY:(iq (s.st (2+s.hs.length)).gs)[dE pg (iq (s.st (2+s.hs.length)).gs).length]?=some p) (h10:a.length+b.length≤10) (hl:x.length+y.length=x'.length+y'.length+1) (hm:∀l,mE x' y' l→mE x y (d :: l)) (hj:j=c0+s.hs.length)
 (hst:∀S':MS,2+s.hs.length<S'.lim→S'.vs=(s.st (2+s.hs.length)).vs→S'.gs=(s.st (2+s.hs.length)).gs.eraseIdx p++[MG.rd (vn (1+s.hs.length)) [61] (jC (jB d) (vn (2+s.hs.length))) [] zU,MG.rd (di x' y' (2+s.hs.length)) [] zU [] zU]→kZ mers (s.st (2+s.hs.length)) S' p pc z):∃s' c0' L' u v,jZ a b script S0 (j+1) s' c0' L' u v:=by
 have hs:=h.sum
 obtain⟨s',h1,h2,h3,h4,h5⟩:=h.ok.more ho d (di x' y' (2+s.hs.length)) (by omega) (fun i hi q=>by have:=congrArg Prod.snd (Py q);have:1+i=2+s.hs.length:=this;omega) (Fe (by omega) (by omega))
 have hl2:s'.hs.length=s.hs.length+1:=by rw[h2];simp
 refine⟨s',c0,L++[z],x',y',⟨?_,h1,fun l hl=> ?_,by omega,Or.inl ⟨h3,by rw[h4,hl2];congr 1;omega,by omega⟩,y4 h.neg hz,by rw[List.length_append,h.len];rfl⟩⟩
 ·exact .step h.run hsj vY (hst (s'.st (2+s'.hs.length)) (by show 2+s.hs.length<2+s'.hs.length;omega) (h5 _).1 (h5 _).2) (h1.small _)
 ·rw[h2,List.append_assoc]
  exact h.mix _ (hm l hl)
theorem jZ.close {a b:List Nat} {script:List (Int×Int)} {S0:MS} {j:Nat} {s:gP} {c0:Nat} {L:List Int} {x y r:List Nat} (h:jZ a b script S0 j s c0 L x y) {p:Nat} (ho:s.its[p]?=some none) {z:Int} (hz:z≠-1) {pg pc:Int} (hsj:script[j]?=some (pg,pc)) (vY:(iq (s.st (2+s.hs.length)).gs)[dE pg (iq (s.st (2+s.hs.length)).gs).length]?=some p) (h10:a.length+b.length≤10) (hr:mE x y r) (hj:j=c0+s.hs.length)
 (hst:∀S':MS,S'.lim=2+s.hs.length→S'.vs=(s.st (2+s.hs.length)).vs→S'.gs=(s.st (2+s.hs.length)).gs.eraseIdx p++[MG.rd (vn (1+s.hs.length)) [61] (lsU r) [] zU]→kZ mers (s.st (2+s.hs.length)) S' p pc z):∃s' c0' L' u v,jZ a b script S0 (j+1) s' c0' L' u v:=by
 have hs:=h.sum
 have eO:=hr.len
 obtain⟨s',h1,h2,h3,h4⟩:=h.ok.close ho (u:=lsU r) ⟨gnd_ls r,ls_nv r,by rw[size_ls];omega⟩
 refine⟨s',c0,L++[z],x,y,⟨?_,h1,by rw[h2];exact h.mix,by rw[h2];exact hs,Or.inr ⟨r,h3,hr,by rw[h2];omega⟩,y4 h.neg hz,by rw[List.length_append,h.len];rfl⟩⟩
 rw[h2]
 exact .step h.run hsj vY (hst (s'.st (2+s.hs.length)) rfl (h4 _).1 (h4 _).2) (h1.small _)
theorem jZ.step {a b:List Nat} {script:List (Int×Int)} {S0:MS} {j:Nat} {s:gP} {c0:Nat} {L:List Int} {x y:List Nat} (h10:a.length+b.length≤10) (h:jZ a b script S0 j s c0 L x y) (hs:j<script.length) (hne:s.its≠[]):∃s' c0' L' u v,jZ a b script S0 (j+1) s' c0' L' u v:=by
 obtain⟨⟨pg,pc⟩,hsj⟩:∃q:Int×Int,script[j]?=some q:=⟨_,List.getElem?_eq_getElem hs⟩
 obtain⟨hp,vY⟩:=s.pick (2+s.hs.length) pg hne
 generalize dE pg s.its.length=p at hp vY
 obtain⟨o,ho⟩:∃o,s.its[p]?=some o:=⟨_,List.getElem?_eq_getElem hp⟩
 cases o with
 | some k=>
  obtain⟨s',h1,h2,h3,h4,h5⟩:=h.ok.solve ho mers (2+s.hs.length) pc
  refine⟨s',c0+1,L++[0],x,y,⟨?_,h2,by rw[h3];exact h.mix,by rw[h3];exact h.sum,?_,y4 h.neg (by decide),by rw[List.length_append,h.len];rfl⟩⟩
  ·rw[h3];exact .step h.run hsj vY h1 (h2.small _)
  ·rw[h3,h4,h5]
   rcases h.jw with⟨q1,q2,q3⟩ | ⟨r,q1,q2,q3⟩
   ·exact Or.inl ⟨q1,q2,by omega⟩
   ·exact Or.inr ⟨r,q1,q2,by omega⟩
 | none=>
  have hfn:=h.ok.cl.1 (List.mem_of_getElem? ho)
  obtain⟨q1,q2,q3⟩:s.fin=none∧s.call=di x y (1+s.hs.length)∧j=c0+s.hs.length:=by
   rcases h.jw with q | ⟨r,q,_⟩
   ·exact q
   ·rw[hfn]at q;cases q
  have iE:(s.st (2+s.hs.length)).gs[p]?=some (MG.rd (di x y (1+s.hs.length)) [] zU [] zU):=by
   show (s.its.map s.sL)[p]?=_
   rw[List.getElem?_map,ho]
   show some (MG.rd s.call [] zU [] zU)=_
   rw[q2]
  have wJ:∃(k:Nat) (c:aJ),mers[k]?=some c∧(bT (s.st (2+s.hs.length)).lim (di x y (1+s.hs.length)) c).1=1:=by
   cases x with
   | nil=>exact⟨2,mer3,rfl,Fb (Du y _) rfl⟩
   | cons d x=>exact⟨0,mer1,rfl,Fb (uH d x y _) rfl⟩
  obtain⟨k,c,hk,hy,hst⟩:=MI (cls:=mers) (tx:=nMer) (us:=[lsU x,lsU y,vn (1+s.hs.length)]) mer_own iE rfl rfl (by decide) pc wJ
  have hy':(bT (s.st (2+s.hs.length)).lim (di x y (1+s.hs.length)) c).1=1:=hy
  match k,hk with
  | 0,hk=>
   injection hk with hk
   subst hk
   cases x with
   | nil=>rw[yi (TP y _)]at hy';cases hy'
   | cons d x=>
    refine h.more ho (d:=d) (x':=x) (y':=y) (z:=((0+1:Nat):Int)) (by decide) hsj vY h10 (by rw[List.length_cons];omega) (fun l hl=> .left d hl) q3 fun S' k1 k2 k3=>hst [2+s.hs.length] S' (by rw[NHm1,NGm1];rfl) (by simp) (fun f hf=> ?_) (Nat.le_of_lt k1) k2 ?_
    ·rw[List.mem_singleton.1 hf];exact⟨Nat.le_refl _,k1⟩
    ·rw[k3];congr 1;exact(Pu d x y _ _).symm
  | 1,hk=>
   injection hk with hk
   subst hk
   cases y with
   | nil=>rw[yi (TQ x _)]at hy';cases hy'
   | cons d y=>
    refine h.more ho (d:=d) (x':=x) (y':=y) (z:=((1+1:Nat):Int)) (by decide) hsj vY h10 (by rw[List.length_cons];omega) (fun l hl=> .right d hl) q3 fun S' k1 k2 k3=>hst [2+s.hs.length] S' (by rw[NHm2,NGm2];rfl) (by simp) (fun f hf=> ?_) (Nat.le_of_lt k1) k2 ?_
    ·rw[List.mem_singleton.1 hf];exact⟨Nat.le_refl _,k1⟩
    ·rw[k3];congr 1;exact(Pv d x y _ _).symm
  | 2,hk=>
   injection hk with hk
   subst hk
   cases x with
   | cons d x=>rw[yi (TR d x y _)]at hy';cases hy'
   | nil=>
    refine h.close ho (z:=((2+1:Nat):Int)) (by decide) hsj vY h10 (.nl y) q3 fun S' k1 k2 k3=>hst [] S' (by rw[NHm3,NGm3];rfl) List.Pairwise.nil (fun f hf=>by cases hf) (Nat.le_of_eq k1.symm) k2 ?_
    rw[k3];congr 1;exact(Pw y _ _).symm
  | 3,hk=>
   injection hk with hk
   subst hk
   cases y with
   | cons d y=>rw[yi (TS d x y _)]at hy';cases hy'
   | nil=>
    refine h.close ho (z:=((3+1:Nat):Int)) (by decide) hsj vY h10 (.nr x) q3 fun S' k1 k2 k3=>hst [] S' (by rw[NHm4,NGm4];rfl) List.Pairwise.nil (fun f hf=>by cases hf) (Nat.le_of_eq k1.symm) k2 ?_
    rw[k3];congr 1;exact(Px x _ _).symm
theorem Kb (a b:List Nat) (ha:a.length≤5) (hb:b.length≤5) (script:List (Int×Int)):jZ a b script (jP 1 (aC [] [qC nMer (tL a) (tL b) 90]) [qC nMer (tL a) (tL b) 90]) 0 ⟨[],none,fun _=>false,[none],di a b 1⟩ 0 [] a b:=by
 have e:(⟨[],none,fun _=>false,[none],di a b 1⟩:gP).st 2=jP 1 (aC [] [qC nMer (tL a) (tL b) 90]) [qC nMer (tL a) (tL b) 90]:=by
  rw[Pt nMer (by omega) (by omega)]
  rfl
 refine⟨?_,⟨by simp,fun i=> ?_,by simp,(fun i hi=>by cases hi),(fun u q=>by cases q),by simp,(fun _ i hi=>by simp at hi),fun _=>Fe (by omega) (by omega),rfl⟩,fun l hl=>hl,by simp,Or.inl ⟨rfl,rfl,rfl⟩,rfl,rfl⟩
 ·show nk _ _ _ 0 ((⟨[],none,fun _=>false,[none],di a b 1⟩:gP).st 2) []
  rw[e]
  exact .start
 ·unfold isEq
  simp
theorem Ax (a b:List Nat) (ha:a.length≤5) (hb:b.length≤5) (script:List (Int×Int)):∀j,j≤script.length→∃i s c0 L x y,jZ a b script (jP 1 (aC [] [qC nMer (tL a) (tL b) 90]) [qC nMer (tL a) (tL b) 90]) i s c0 L x y∧i≤j∧(i=j∨s.its=[])
 | 0,_=>⟨0,_,_,_,_,_,Kb a b ha hb script,Nat.le_refl _,Or.inl rfl⟩
 | j+1,h1=>by
  obtain⟨i,s,c0,L,x,y,h,hle,hi⟩:=Ax a b ha hb script j (by omega)
  by_cases q:s.its=[]
  ·exact⟨i,s,c0,L,x,y,h,by omega,Or.inr q⟩
  ·rcases hi with rfl | hi
   ·obtain⟨s',c0',L',u,v,h'⟩:=h.step (by omega) (by omega) q
    exact⟨i+1,s',c0',L',u,v,h',by omega,Or.inl rfl⟩
   ·exact absurd hi q
theorem MK (a b:List Nat) (ha:a.length≤5) (hb:b.length≤5) (script:List (Int×Int)) (hs:script.length=2*(a.length+b.length+1)):∃log l,rW mers script (jP 1 (aC [] [qC nMer (tL a) (tL b) 90]) [qC nMer (tL a) (tL b) 90]) 1 log [txL l] [] []∧mE a b l∧log.count (-1)=0∧log.length≤script.length:=by
 obtain⟨i,s,c0,L,x,y,h,hle,JQ⟩:=Ax a b ha hb script script.length (Nat.le_refl _)
 have hi:s.its=[]:=by
  rcases JQ with rfl | q
  ·exact h.end.1 hs
  ·exact q
 obtain⟨r,hf,hr⟩:=h.end.2 hi
 have hg:(s.st (2+s.hs.length)).gs=[]:=by
  show s.its.map s.sL=[]
  rw[hi];rfl
 have hv:(s.st (2+s.hs.length)).vs=[lsU (s.hs++r)]:=by
  show [ed s.D s.fin s.hs 0]=_
  rw[h.ok.all hi hf]
 exact⟨L,s.hs++r,⟨_,_,L,h.run,Or.inl ⟨Or.inr (by rw[hg];rfl),by rw[hg];rfl,rfl,by rw[hv,S9],by rw[hg];rfl,by rw[hg];rfl⟩⟩,h.mix r hr,h.neg,by rw[h.len];exact hle⟩
end Zc
