import Derived.Test.YthfjnfcekeknlaaGreatDoorSt32
import Derived.Test.YthfjnfcekeknlaaGreatDoorSt37
set_option maxHeartbeats 8000000
set_option maxRecDepth 100000
namespace Za
open Go
def prS:List aG→List UInt8
 | []=>[]
 | [c]=>rP idS false c
 | c :: d :: cs=>rP idS false c++32 :: prS (d :: cs)
theorem par_progS:∀(cs:List aG) (k:Nat),cs.length≤k→(∀c∈cs,yF idS c)→∀(s:ByteArray) (p:Nat) (l:List Tok),Tk s p l→At s p (prS cs)→∃l',prog k l= .inr (cs.map (C5 idS),l')
 | [],k,_,_,s,p,l,hl,ha=>by
  refine⟨l,?_⟩
  unfold prog
  rw[if_pos (hl.done ha)]
  rfl
 | c :: cs,k,hk,hc,s,p,l,hl,ha=>by
  cases k with
  | zero=>simp at hk
  | succ k=>
   obtain⟨tl,htl⟩:∃tl,prS (c :: cs)=rP idS false c++tl∧((cs=[]∧tl=[])∨(cs≠[]∧tl=32 :: prS cs)):=by
    cases cs with
    | nil=>exact⟨[],by simp[prS],Or.inl ⟨rfl,rfl⟩⟩
    | cons d ds=>exact⟨_,by rw[prS],Or.inr ⟨by simp,rfl⟩⟩
   rw[htl.1]at ha
   obtain⟨h2,l1,e1,k1,a1⟩:=Gg (b:=false) (hc c (by simp)) hl ha
   have key:∃l2,prog k l1= .inr (cs.map (C5 idS),l2):=by
    rcases htl.2 with⟨rfl,rfl⟩ | ⟨_,rfl⟩
    ·exact par_progS [] k (by simp) (fun d hd=>by cases hd) s _ l1 k1 a1
    ·obtain⟨k2,a2⟩:=k1.blank a1 (by decide)
     exact par_progS cs k (by simpa using hk) (fun d hd=>hc d (by simp[hd])) s _ l1 k2 a2
   obtain⟨l2,e2⟩:=key
   refine⟨l2,?_⟩
   unfold prog
   rw[if_neg (by omega)]
   dsimp only
   rw[e1]
   dsimp only
   rw[e2]
   rfl
theorem Ny {x:List UInt8} {s:ByteArray} (h:s=⟨x.toArray⟩):At s 0 x:=by
 have:=At.start s
 rw[h]at this⊢
 simpa using this
theorem Sv {cs:List aG} {s:ByteArray} (hs:s=⟨(prS cs).toArray⟩) (hl:cs.length≤12) (hc:∀c∈cs,yF idS c) {L:List Tok} (hL:dP s L) (hh:hd L=next s 0):∃l',prog 12 L= .inr (cs.map (C5 idS),l'):=
 par_progS cs 12 hl hc s 0 L ⟨hL,hh⟩ (Ny hs)
theorem O5 {x:aC} {xs:List aC} {s:ByteArray} (hs:s=⟨(jl idS false (x :: xs)).toArray⟩) (hl:xs.length≤5) (hx:ij idS x) (hy:∀y∈xs,ij idS y) {L:List Tok} (hL:dP s L) (hh:hd L=next s 0):∃l',query L= .inr ((x :: xs).map (qJ idS),l'):=by
 obtain⟨l',e,k,a⟩:=rD (σ:=idS) (b:=false) (tl:=[]) (Or.inl rfl) xs x 5 false hl hx hy s 0 L ⟨hL,hh⟩ (by rw[List.append_nil];exact Ny hs)
 exact⟨l',Eo e (k.done a)⟩
end Za
