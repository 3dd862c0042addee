/- Plain functions that mirror program's scanner, on byte arrays. No program here. -/
import Derived.Laws.RangeString
import Derived.Laws.RangeAny
import Derived.Lib.DecodeN
set_option linter.unusedSimpArgs false
set_option linter.unusedVariables false
namespace Go.Proofs.YtdmicblafmhflaaGreatDoor
namespace Ax
def pre(s p:ByteArray):Bool:=p.data.toList.isPrefixOf s.data.toList
def digit(r:Int):Bool:=decide (48≤r)&&decide (r≤57)
def eU(r:Int):Bool:=decide (65≤r)&&decide (r≤90)
def blank(r:Int):Bool:=r==32||r==10
def small(rest:ByteArray)(r:Int):Bool:=
 if r=65533 then pre rest ⟨#[239,191,189]⟩else (decide (97≤r)&&decide (r≤122))||decide (224≤r)
def tail(s:ByteArray)(p:Nat):ByteArray:=s.extract p s.size
def stops(rest:ByteArray)(p:Nat):Bool:=
 decide (0<p)&& !small (tail rest p) (Utf8.decode rest p).1&& !digit (Utf8.decode rest p).1
def aS(rest:ByteArray):Nat→Nat→Nat→Nat×Nat
 | 0,_,n=>(rest.size,n)
 | f+1,p,n=>if p<rest.size then (if stops rest p then (p,n)else aS rest f (p+(Utf8.decode rest p).2) (n+1))else (rest.size,n)
def word(rest:ByteArray)(kind:Int):Int×Nat:=
 let x:=aS rest rest.size 0 0
 if 6<x.2 then (0,0)else (kind,x.1)
def aJ(rest:ByteArray)(r:Int):Int×Nat:=
 if r=40 then (4,1)else if r=41 then (5,1)else if r=44 then (6,1)else if r=46 then (7,1)
 else if pre rest ⟨#[58,45]⟩then (8,2)
 else if small rest r then word rest 2
 else if eU r then word rest 3
 else (0,0)
structure Tok where
 kind:Int
 at_:Nat
 text:ByteArray
def aW(s:ByteArray):Nat→Nat→Nat→List Tok→List Tok
 | 0,_,_,acc=>acc++[⟨1,s.size,ByteArray.empty⟩]
 | f+1,p,b,acc=>
  if p<s.size then
   if p<b∨blank (Utf8.decode s p).1=true then aW s f (p+(Utf8.decode s p).2) b acc
   else
    let t:=aJ (s.extract p s.size) (Utf8.decode s p).1
    let W7:=acc++[⟨t.1,p,s.extract p (p+t.2)⟩]
    if t.1=0 then W7 else aW s f (p+(Utf8.decode s p).2) (p+t.2) W7
  else acc++[⟨1,s.size,ByteArray.empty⟩]
def split(s:ByteArray):List Tok:=aW s s.size 0 0 []
theorem pW(s:ByteArray)(f p b:Nat)(acc:List Tok)(h:¬p<s.size):aW s f p b acc=acc++[⟨1,s.size,ByteArray.empty⟩]:=by
 cases f<;>simp[aW,h]
theorem il(s:ByteArray)(f p b:Nat)(acc:List Tok)(h:p<s.size)(hb:p<b∨blank (Utf8.decode s p).1=true):
 aW s (f+1) p b acc=aW s f (p+(Utf8.decode s p).2) b acc:=by
 simp only[aW,h,hb,if_true]
theorem nJ(s:ByteArray)(f p b:Nat)(acc:List Tok)(h:p<s.size)(hb:¬(p<b∨blank (Utf8.decode s p).1=true))(k:Int)(n:Nat)(ht:aJ (s.extract p s.size) (Utf8.decode s p).1=(k,n))(hk:k=0):
 aW s (f+1) p b acc=acc++[⟨k,p,s.extract p (p+n)⟩]:=by
 simp only[aW,h,hb,ht,hk,if_true,if_false]
theorem nH(s:ByteArray)(f p b:Nat)(acc:List Tok)(h:p<s.size)(hb:¬(p<b∨blank (Utf8.decode s p).1=true))(k:Int)(n:Nat)(ht:aJ (s.extract p s.size) (Utf8.decode s p).1=(k,n))(hk:k≠0):
 aW s (f+1) p b acc=aW s f (p+(Utf8.decode s p).2) (p+n) (acc++[⟨k,p,s.extract p (p+n)⟩]):=by
 simp only[aW,h,hb,ht,hk,if_true,if_false]
theorem ox(s:ByteArray):∀f p n,(aS s f p n).1≤s.size
 | 0,_,_=>Nat.le_refl _
 | f+1,p,n=>by
  unfold aS
  split
  · split
    · simp;omega
    · exact ox s f _ _
  · exact Nat.le_refl _
theorem Iu(s:ByteArray)(k:Int):(word s k).2≤s.size:=by
 unfold word
 simp only
 split
 · exact Nat.zero_le _
 · exact ox s _ _ _
theorem NM(s p:ByteArray)(h:pre s p=true):p.size≤s.size:=(List.isPrefixOf_iff_prefix.1 h).length_le
theorem DD(s:ByteArray)(r:Int)(h:0<s.size):(aJ s r).2≤s.size:=by
 unfold aJ
 repeat' split
 any_goals (simp;omega;done)
 · rename_i h5;exact NM s _ h5
 · exact Iu s _
 · exact Iu s _
 · exact Nat.zero_le _
end Ax
/- Plain functions that mirror program's parser. No program here. -/
namespace Ax
def Ends(l:List Tok):Prop:=∃m t,l=m++[t]∧(t.kind=0∨t.kind=1)
theorem kr(s:ByteArray):∀f p b acc,Ends (aW s f p b acc)
 | 0,_,_,acc=>⟨acc,_,rfl,.inr rfl⟩
 | f+1,p,b,acc=>by
  unfold aW
  split
  · split
    · exact kr s f _ _ _
    · simp only
      split
      · rename_i h;exact⟨acc,_,rfl,.inl h⟩
      · exact kr s f _ _ _
  · exact⟨acc,_,rfl,.inr rfl⟩
theorem qH(s:ByteArray):Ends (split s):=kr s _ _ _ _
theorem iH(s:ByteArray):∀f p b acc,(aW s f p b acc).length≤acc.length+f+1
 | 0,_,_,acc=>by simp[aW]
 | f+1,p,b,acc=>by
  unfold aW
  split
  · split
    · have:=iH s f (p+(Utf8.decode s p).2) b acc;omega
    · simp only
      split
      · simp
      · have:=iH s f (p+(Utf8.decode s p).2) (p+(aJ (s.extract p s.size) (Utf8.decode s p).1).2) (acc++[⟨(aJ (s.extract p s.size) (Utf8.decode s p).1).1,p,s.extract p (p+(aJ (s.extract p s.size) (Utf8.decode s p).1).2)⟩])
        simp only[List.length_append,List.length_singleton]at this
        omega
  · simp
theorem gO(s:ByteArray):(split s).length≤s.size+1:=by
 have:=iH s s.size 0 0 []
 simp only[List.length_nil,Nat.zero_add]at this
 exact this
theorem Ends.next{l:List Tok}(h:Ends l){k:Nat}(hk:k<l.length)(h0:l[k].kind≠0)(h1:l[k].kind≠1):k+1<l.length:=by
 obtain⟨m,t,rfl,ht⟩:=h
 simp only[List.length_append,List.length_singleton]at hk ⊢
 by_cases e:k=m.length
 · subst e
   simp at h0 h1
   omega
 · omega
structure Term where
 kind:Int
 text:ByteArray
structure Atom where
 at_:Nat
 pred:ByteArray
 ag:List Term
structure br where
 head:Atom
 body:List Atom
def aN(aa:List Tok)(i:Nat):Int:=match aa[i]? with | some t=>t.kind | none=>0
theorem cP{aa:List Tok}{i:Nat}{t:Tok}(h:aa[i]?=some t):aN aa i=t.kind:=by simp[aN,h]
def jR(aa:List Tok)(i:Nat):Option Term×Nat:=
 match aa[i]? with
 | some t=>if t.kind=2∨t.kind=3 then (some ⟨t.kind-2,t.text⟩,i+1)else (none,i)
 | none=>(none,i)
theorem wi{aa:List Tok}{i:Nat}{t:Tok}(h:aa[i]?=some t)(hk:t.kind=2∨t.kind=3):jR aa i=(some ⟨t.kind-2,t.text⟩,i+1):=by simp[jR,h,hk]
theorem Fo{aa:List Tok}{i:Nat}{t:Tok}(h:aa[i]?=some t)(hk:¬(t.kind=2∨t.kind=3)):jR aa i=(none,i):=by simp[jR,h,hk]
def bY(aa:List Tok):Nat→Nat→List Term→Option (List Term)×Nat
 | 0,i,_=>(none,i)
 | f+1,i,acc=>
  match jR aa i with
  | (none,j)=>(none,j)
  | (some t,j)=>if aN aa j=6 then bY aa f (j+1) (acc++[t])else (some (acc++[t]),j)
theorem EE{aa:List Tok}{f i:Nat}{acc:List Term}(h:jR aa i=(none,i)):bY aa (f+1) i acc=(none,i):=by simp[bY,h]
theorem tF{aa:List Tok}{f i j:Nat}{acc:List Term}{t:Term}(h:jR aa i=(some t,j))(hk:aN aa j=6):bY aa (f+1) i acc=bY aa f (j+1) (acc++[t]):=by simp[bY,h,hk]
theorem oJ{aa:List Tok}{f i j:Nat}{acc:List Term}{t:Term}(h:jR aa i=(some t,j))(hk:¬aN aa j=6):bY aa (f+1) i acc=(some (acc++[t]),j):=by simp[bY,h,hk]
theorem Nj{aa:List Tok}(he:Ends aa){i:Nat}(hi:i<aa.length):(jR aa i).2<aa.length:=by
 unfold jR
 split
 · rename_i t ht
   obtain⟨hl,e⟩:=List.getElem?_eq_some_iff.1 ht
   split
   · rename_i hk
     exact he.next hl (by rw[e];omega) (by rw[e];omega)
   · exact hi
 · exact hi
theorem py{aa:List Tok}(he:Ends aa):∀(f i:Nat) (acc:List Term) {r:Option (List Term)} {j:Nat},i<aa.length→bY aa f i acc=(r,j)→j<aa.length
 | 0,i,acc,r,j,hi,h=>by simp[bY]at h;omega
 | f+1,i,acc,r,j,hi,h=>by
  have hl:=Nj he hi
  unfold bY at h
  split at h
  · rename_i j' e
    rw[e]at hl
    simp at h hl
    omega
  · rename_i t j' e
    rw[e]at hl
    simp only at hl
    split at h
    · rename_i hk
      refine py he f (j'+1) _ ?_ h
      have ht:aa[j']?=some aa[j']:=List.getElem?_eq_getElem hl
      rw[cP ht]at hk
      exact he.next hl (by omega) (by omega)
    · simp at h
      omega
def b9(aa:List Tok)(i:Nat):Option Atom×Nat:=
 match aa[i]? with
 | none=>(none,i)
 | some t=>
  if t.kind=2 then
   if aN aa (i+1)=4 then
    match bY aa aa.length (i+1+1) []with
    | (none,j)=>(none,j)
    | (some ts,j)=>if aN aa j=5 then (some ⟨t.at_,t.text,ts⟩,j+1)else (none,j)
   else (none,i+1)
  else (none,i)
theorem BU{aa:List Tok}{i:Nat}{t:Tok}(h:aa[i]?=some t)(hk:¬t.kind=2):b9 aa i=(none,i):=by simp[b9,h,hk]
theorem Il{aa:List Tok}{i:Nat}{t:Tok}(h:aa[i]?=some t)(hk:t.kind=2)(h4:¬aN aa (i+1)=4):b9 aa i=(none,i+1):=by simp[b9,h,hk,h4]
theorem Ic{aa:List Tok}{i j:Nat}{t:Tok}(h:aa[i]?=some t)(hk:t.kind=2)(h4:aN aa (i+1)=4)(ht:bY aa aa.length (i+1+1) []=(none,j)):b9 aa i=(none,j):=by simp[b9,h,hk,h4,ht]
theorem Ir{aa:List Tok}{i j:Nat}{t:Tok}{ts:List Term}(h:aa[i]?=some t)(hk:t.kind=2)(h4:aN aa (i+1)=4)(ht:bY aa aa.length (i+1+1) []=(some ts,j))(h5:¬aN aa j=5):b9 aa i=(none,j):=by simp[b9,h,hk,h4,ht,h5]
theorem Bg{aa:List Tok}{i j:Nat}{t:Tok}{ts:List Term}(h:aa[i]?=some t)(hk:t.kind=2)(h4:aN aa (i+1)=4)(ht:bY aa aa.length (i+1+1) []=(some ts,j))(h5:aN aa j=5):b9 aa i=(some ⟨t.at_,t.text,ts⟩,j+1):=by simp[b9,h,hk,h4,ht,h5]
end Ax
/- Plain functions that mirror program's parser: atoms, rules. No program here. -/
namespace Ax
theorem kF{aa:List Tok}(he:Ends aa){i:Nat}{r:Option Atom}{j:Nat}(hi:i<aa.length)(h:b9 aa i=(r,j)):j<aa.length:=by
 have ht:aa[i]?=some aa[i]:=List.getElem?_eq_getElem hi
 by_cases h2:aa[i].kind=2
 case neg=>rw[BU ht h2]at h;simp at h;omega
 have xG:=he.next hi (by omega) (by omega)
 have uv:aa[i+1]?=some aa[i+1]:=List.getElem?_eq_getElem xG
 by_cases h4:aN aa (i+1)=4
 case neg=>rw[Il ht h2 h4]at h;simp at h;omega
 have h4':aa[i+1].kind=4:=by rw[cP uv]at h4;exact h4
 have Bt:=he.next xG (by omega) (by omega)
 rcases hR:bY aa aa.length (i+1+1) []with⟨_ | ts,j'⟩
 · have:=py he _ _ _ Bt hR
   rw[Ic ht h2 h4 hR]at h;simp at h;omega
 · have hj:=py he _ _ _ Bt hR
   by_cases h5:aN aa j'=5
   · rw[Bg ht h2 h4 hR h5]at h
     have wT:aa[j']?=some aa[j']:=List.getElem?_eq_getElem hj
     rw[cP wT]at h5
     have:=he.next hj (by omega) (by omega)
     simp at h;omega
   · rw[Ir ht h2 h4 hR h5]at h;simp at h;omega
def bV(aa:List Tok):Nat→Nat→List Atom→Option (List Atom)×Nat
 | 0,i,_=>(none,i)
 | f+1,i,acc=>
  match b9 aa i with
  | (none,j)=>(none,j)
  | (some t,j)=>if aN aa j=6 then bV aa f (j+1) (acc++[t])else (some (acc++[t]),j)
theorem jB{aa:List Tok}{f i j:Nat}{acc:List Atom}(h:b9 aa i=(none,j)):bV aa (f+1) i acc=(none,j):=by simp[bV,h]
theorem j9{aa:List Tok}{f i j:Nat}{acc:List Atom}{t:Atom}(h:b9 aa i=(some t,j))(hk:aN aa j=6):bV aa (f+1) i acc=bV aa f (j+1) (acc++[t]):=by simp[bV,h,hk]
theorem gL{aa:List Tok}{f i j:Nat}{acc:List Atom}{t:Atom}(h:b9 aa i=(some t,j))(hk:¬aN aa j=6):bV aa (f+1) i acc=(some (acc++[t]),j):=by simp[bV,h,hk]
theorem sg{aa:List Tok}{i j:Nat}{a:Atom}(h:b9 aa i=(some a,j)):i<j:=by
 have hT:∀f i acc r j,bY aa f i acc=(r,j)→i≤j:=by
  intro f
  induction f with
  | zero=>intro i acc r j h;simp[bY]at h;omega
  | succ f ih=>
   intro i acc r j h
   have hm:i≤(jR aa i).2:=by unfold jR;(split;(split<;>simp);simp)
   unfold bY at h
   split at h
   · rename_i j' e;rw[e]at hm;simp at h hm;omega
   · rename_i t j' e
     rw[e]at hm
     simp only at hm
     split at h
     · have:=ih _ _ _ _ h;omega
     · simp at h;omega
 unfold b9 at h
 split at h
 · simp at h
 · split at h
   · split at h
     · split at h
       · simp at h
       · rename_i ts j' e
         have:=hT _ _ _ _ _ e
         split at h
         · simp at h;omega
         · simp at h
     · simp at h
   · simp at h
theorem mB{aa:List Tok}(he:Ends aa):∀(f i:Nat) (acc:List Atom) {r:Option (List Atom)} {j:Nat},i<aa.length→bV aa f i acc=(r,j)→j<aa.length
 | 0,i,acc,r,j,hi,h=>by simp[bV]at h;omega
 | f+1,i,acc,r,j,hi,h=>by
  rcases hA:b9 aa i with⟨_ | a,j'⟩
  · have:=kF he hi hA
    rw[jB hA]at h;simp at h;omega
  · have hl:=kF he hi hA
    by_cases hk:aN aa j'=6
    · rw[j9 hA hk]at h
      refine mB he f (j'+1) _ ?_ h
      have ht:aa[j']?=some aa[j']:=List.getElem?_eq_getElem hl
      rw[cP ht]at hk
      exact he.next hl (by omega) (by omega)
    · rw[gL hA hk]at h;simp at h;omega
end Ax
/- Plain functions that mirror program's parser: rules. No program here. -/
namespace Ax
def eF(aa:List Tok)(i:Nat):Option br×Nat:=
 match b9 aa i with
 | (none,j)=>(none,j)
 | (some a,j)=>
  if aN aa j=8 then
   match bV aa aa.length (j+1) []with
   | (none,j2)=>(none,j2)
   | (some b,j2)=>if aN aa j2=7 then (some ⟨a,b⟩,j2+1)else (none,j2)
  else if aN aa j=7 then (some ⟨a,[]⟩,j+1)else (none,j)
theorem mQ{aa:List Tok}{i j:Nat}(hA:b9 aa i=(none,j)):eF aa i=(none,j):=by simp[eF,hA]
theorem pq{aa:List Tok}{i j j2:Nat}{a:Atom}(hA:b9 aa i=(some a,j))(h8:aN aa j=8)(hB:bV aa aa.length (j+1) []=(none,j2)):eF aa i=(none,j2):=by simp[eF,hA,h8,hB]
theorem px{aa:List Tok}{i j j2:Nat}{a:Atom}{b:List Atom}(hA:b9 aa i=(some a,j))(h8:aN aa j=8)(hB:bV aa aa.length (j+1) []=(some b,j2))(h7:¬aN aa j2=7):eF aa i=(none,j2):=by simp[eF,hA,h8,hB,h7]
theorem mY{aa:List Tok}{i j j2:Nat}{a:Atom}{b:List Atom}(hA:b9 aa i=(some a,j))(h8:aN aa j=8)(hB:bV aa aa.length (j+1) []=(some b,j2))(h7:aN aa j2=7):eF aa i=(some ⟨a,b⟩,j2+1):=by simp[eF,hA,h8,hB,h7]
theorem pv{aa:List Tok}{i j:Nat}{a:Atom}(hA:b9 aa i=(some a,j))(h8:¬aN aa j=8)(h7:¬aN aa j=7):eF aa i=(none,j):=by simp[eF,hA,h8,h7]
theorem mU{aa:List Tok}{i j:Nat}{a:Atom}(hA:b9 aa i=(some a,j))(h8:¬aN aa j=8)(h7:aN aa j=7):eF aa i=(some ⟨a,[]⟩,j+1):=by simp[eF,hA,h7]
theorem mj{aa:List Tok}(he:Ends aa){j:Nat}(hj:j<aa.length){k:Int}(hk:aN aa j=k)(h2:2≤k):j+1<aa.length:=by
 have ht:aa[j]?=some aa[j]:=List.getElem?_eq_getElem hj
 rw[cP ht]at hk
 exact he.next hj (by omega) (by omega)
theorem tA{aa:List Tok}:∀(f i:Nat) (acc:List Atom) {r:List Atom} {j:Nat},bV aa f i acc=(some r,j)→i<j
 | 0,i,acc,r,j,h=>by simp[bV]at h
 | f+1,i,acc,r,j,h=>by
  rcases hA:b9 aa i with⟨_ | a,j'⟩
  · rw[jB hA]at h;simp at h
  · have hl:=sg hA
    by_cases hk:aN aa j'=6
    · rw[j9 hA hk]at h
      have:=tA f (j'+1) _ h
      omega
    · rw[gL hA hk]at h;simp at h;omega
theorem rW{aa:List Tok}(he:Ends aa){i:Nat}{r:Option br}{j:Nat}(hi:i<aa.length)(h:eF aa i=(r,j)):j<aa.length∧(r≠none→i<j):=by
 rcases hA:b9 aa i with⟨_ | a,j1⟩
 · have:=kF he hi hA
   rw[mQ hA]at h;simp at h
   exact⟨by omega,fun hn=>absurd h.1.symm hn⟩
 · have Ti:=kF he hi hA
   have hg:=sg hA
   by_cases h8:aN aa j1=8
   · have hn:=mj he Ti h8 (by omega)
     rcases hB:bV aa aa.length (j1+1) []with⟨_ | b,j2⟩
     · have:=mB he _ _ _ hn hB
       rw[pq hA h8 hB]at h;simp at h
       exact⟨by omega,fun hn=>absurd h.1.symm hn⟩
     · have h2:=mB he _ _ _ hn hB
       have h3:j1+1<j2:=tA _ _ _ hB
       by_cases h7:aN aa j2=7
       · have:=mj he h2 h7 (by omega)
         rw[mY hA h8 hB h7]at h;simp at h
         exact⟨by omega,fun _=>by omega⟩
       · rw[px hA h8 hB h7]at h;simp at h
         exact⟨by omega,fun hn=>absurd h.1.symm hn⟩
   · by_cases h7:aN aa j1=7
     · have:=mj he Ti h7 (by omega)
       rw[mU hA h8 h7]at h;simp at h
       exact⟨by omega,fun _=>by omega⟩
     · rw[pv hA h8 h7]at h;simp at h
       exact⟨by omega,fun hn=>absurd h.1.symm hn⟩
def bU(aa:List Tok):Nat→Nat→List br→Option (List br)×Nat
 | 0,i,_=>(none,i)
 | f+1,i,acc=>
  if aN aa i=1 then (some acc,i)
  else match eF aa i with
   | (none,j)=>(none,j)
   | (some r,j)=>bU aa f j (acc++[r])
theorem kE{aa:List Tok}{f i:Nat}{acc:List br}(h:aN aa i=1):bU aa (f+1) i acc=(some acc,i):=by simp[bU,h]
theorem jt{aa:List Tok}{f i j:Nat}{acc:List br}(h1:¬aN aa i=1)(h:eF aa i=(none,j)):bU aa (f+1) i acc=(none,j):=by simp[bU,h1,h]
theorem mo{aa:List Tok}{f i j:Nat}{acc:List br}{r:br}(h1:¬aN aa i=1)(h:eF aa i=(some r,j)):bU aa (f+1) i acc=bU aa f j (acc++[r]):=by simp[bU,h1,h]
theorem Ai{aa:List Tok}(he:Ends aa):∀(f i:Nat) (acc:List br) {r:Option (List br)} {j:Nat},i<aa.length→bU aa f i acc=(r,j)→j<aa.length
 | 0,i,acc,r,j,hi,h=>by simp[bU]at h;omega
 | f+1,i,acc,r,j,hi,h=>by
  by_cases h1:aN aa i=1
  · rw[kE h1]at h;simp at h;omega
  · rcases hR:eF aa i with⟨_ | a,j'⟩
    · have:=(rW he hi hR).1
      rw[jt h1 hR]at h;simp at h;omega
    · have:=(rW he hi hR).1
      rw[mo h1 hR]at h
      exact Ai he f j' _ this h
end Ax
/- Plain functions that mirror program's limits. No program here. -/
namespace Ax
def has(l:List ByteArray)(v:ByteArray):Bool:=l.any fun x=>decide (v=x)
theorem Ho(l:List ByteArray)(v:ByteArray):has l v=true↔v∈l:=by simp[has]
def Term.beq(s t:Term):Bool:=decide (s.kind=t.kind)&&decide (s.text=t.text)
theorem Term.beq_iff(s t:Term):s.beq t=true↔s=t:=by
 rcases s with⟨a,b⟩
 rcases t with⟨c,d⟩
 simp[Term.beq]
def jc(l:List Term)(v:Term):Bool:=l.any fun x=>v.beq x
theorem uK(l:List Term)(v:Term):jc l v=true↔v∈l:=by
 simp only[jc,List.any_eq_true,Term.beq_iff]
 exact⟨fun ⟨x,h,e⟩=>e▸h,fun h=>⟨v,h,rfl⟩⟩
def br.atoms(r:br):List Atom:=r.head::r.body
def da(ps:List ByteArray):List Atom→List ByteArray
 | []=>ps
 | a::l=>da (if has ps a.pred then ps else ps++[a.pred]) l
def wide(a:Atom):Bool:=decide (3<a.ag.length)
def jf(l:List Atom):Bool:=l.any fun x=>wide x
def nb(l:List Atom)(t:Term):Bool:=l.any fun x=>jc x.ag t
def gx(i:Nat)(ps:List ByteArray)(r:br):Bool:=decide (8≤i)||decide (2<r.body.length)||decide (6<ps.length)||jf r.atoms
def cz:Nat→List ByteArray→List br→Option Nat
 | _,_,[]=>none
 | i,ps,r::l=>if gx i (da ps r.atoms) r then some r.head.at_ else cz (i+1) (da ps r.atoms) l
abbrev adv:=List (ByteArray×Nat)
end Ax
/- Plain functions that mirror program's limits: openHead, twoArities, Read. No program here. -/
namespace Ax
def ij(b:List Atom)(t:Term):Bool:=decide (t.kind=1)&& !nb b t
def lO(r:br):Bool:=r.head.ag.any fun t=>ij r.body t
def b8:List br→Option Nat
 | []=>none
 | r::l=>if lO r then some r.head.at_ else b8 l
def look(m:List (ByteArray×Nat))(p:ByteArray):Option Nat:=(m.find? fun x=>decide (x.1=p)).map Prod.snd
def dE(m:List (ByteArray×Nat)):List Atom→Option Nat
 | []=>none
 | a::l=>
  match look m a.pred with
  | some n=>if n=a.ag.length then dE m l else some a.at_
  | none=>dE ((a.pred,a.ag.length)::m) l
def read(s:ByteArray):ByteArray×Int×Nat:=
 if 600<s.size then (ByteArray.empty,1,0)
 else match bU (split s) (split s).length 0 []with
  | (none,j)=>(ByteArray.empty,2,((split s)[j]?.map Tok.at_).getD 0)
  | (some rs,_)=>
   match cz 0 [] rs with
   | some p=>(ByteArray.empty,3,p)
   | none=>match dE [] (rs.flatMap br.atoms)with
    | some p=>(ByteArray.empty,4,p)
    | none=>match b8 rs with
     | some p=>(ByteArray.empty,5,p)
     | none=>(⟨((split s).flatMap fun t=>t.text.data.toList).toArray⟩,0,0)
end Ax
/- Bounds on what split and the parser give; Read's answers by cases. No program here. -/
namespace Ax
theorem kt(s:ByteArray):∀f p b acc,(∀t,t∈acc→t.text.size≤s.size)→∀t,t∈aW s f p b acc→t.text.size≤s.size
 | 0,_,_,acc,h=>by
  intro t ht
  simp only[aW,List.mem_append,List.mem_singleton]at ht
  rcases ht with ht | rfl
  · exact h t ht
  · exact Nat.zero_le _
 | f+1,p,b,acc,h=>by
  unfold aW
  have hx:∀(k:Int) (n:Nat),∀t,t∈acc++[⟨k,p,s.extract p (p+n)⟩]→t.text.size≤s.size:=by
   intro k n t ht
   simp only[List.mem_append,List.mem_singleton]at ht
   rcases ht with ht | rfl
   · exact h t ht
   · simp only[ByteArray.size_extract];omega
  split
  · split
    · exact kt s f _ _ _ h
    · simp only
      split
      · exact hx _ _
      · exact kt s f _ _ _ (hx _ _)
  · intro t ht
    simp only[List.mem_append,List.mem_singleton]at ht
    rcases ht with ht | rfl
    · exact h t ht
    · exact Nat.zero_le _
theorem mX(s:ByteArray):∀t,t∈split s→t.text.size≤s.size:=kt s _ _ _ _ (fun _ h=>by cases h)
theorem yv{aa:List Tok}{M:Nat}(h:∀t,t∈aa→t.text.size≤M){i j:Nat}{a:Atom}(ha:b9 aa i=(some a,j)):a.pred.size≤M:=by
 unfold b9 at ha
 split at ha
 · simp at ha
 · rename_i t ht
   have hm:=h t (List.mem_of_getElem? ht)
   split at ha
   · split at ha
     · split at ha
       · simp at ha
       · split at ha
         · simp at ha;rw[←ha.1];exact hm
         · simp at ha
     · simp at ha
   · simp at ha
theorem pK{aa:List Tok}{M:Nat}(h:∀t,t∈aa→t.text.size≤M):∀(f i:Nat) (acc:List Atom) {r:List Atom} {j:Nat},(∀a,a∈acc→a.pred.size≤M)→bV aa f i acc=(some r,j)→(∀a,a∈r→a.pred.size≤M)∧r.length≤acc.length+f
 | 0,i,acc,r,j,hacc,hr=>by simp[bV]at hr
 | f+1,i,acc,r,j,hacc,hr=>by
  rcases hA:b9 aa i with⟨_ | a,j'⟩
  · rw[jB hA]at hr;simp at hr
  · have hp:=yv h hA
    have S7:∀x,x∈acc++[a]→x.pred.size≤M:=by
     intro x hx
     rcases List.mem_append.1 hx with hx | hx
     · exact hacc x hx
     · simp at hx;subst hx;exact hp
    by_cases hk:aN aa j'=6
    · rw[j9 hA hk]at hr
      have:=pK h f (j'+1) _ S7 hr
      simp only[List.length_append,List.length_singleton]at this
      exact⟨this.1,by omega⟩
    · rw[gL hA hk]at hr
      simp only[Prod.mk.injEq,Option.some.injEq]at hr
      rw[←hr.1]
      exact⟨S7,by simp⟩
def Fits(M n:Nat)(r:br):Prop:=r.body.length≤n∧∀a,a∈r.atoms→a.pred.size≤M
theorem Ff{aa:List Tok}{M:Nat}(h:∀t,t∈aa→t.text.size≤M){i j:Nat}{r:br}(hr:eF aa i=(some r,j)):Fits M aa.length r:=by
 rcases hA:b9 aa i with⟨_ | a,j1⟩
 · rw[mQ hA]at hr;simp at hr
 · have hp:=yv h hA
   by_cases h8:aN aa j1=8
   · rcases hB:bV aa aa.length (j1+1) []with⟨_ | b,j2⟩
     · rw[pq hA h8 hB]at hr;simp at hr
     · obtain⟨hb,fm⟩:=pK h _ _ _ (fun _ h=>by cases h) hB
       by_cases h7:aN aa j2=7
       · rw[mY hA h8 hB h7]at hr
         simp only[Prod.mk.injEq,Option.some.injEq]at hr
         rw[←hr.1]
         refine⟨by simpa using fm, ?_⟩
         intro x hx
         rcases List.mem_cons.1 hx with rfl | hx
         · exact hp
         · exact hb x hx
       · rw[px hA h8 hB h7]at hr;simp at hr
   · by_cases h7:aN aa j1=7
     · rw[mU hA h8 h7]at hr
       simp only[Prod.mk.injEq,Option.some.injEq]at hr
       rw[←hr.1]
       refine⟨Nat.zero_le _, ?_⟩
       intro x hx
       rcases List.mem_cons.1 hx with rfl | hx
       · exact hp
       · cases hx
     · rw[pv hA h8 h7]at hr;simp at hr
theorem oa{aa:List Tok}{M:Nat}(h:∀t,t∈aa→t.text.size≤M):∀(f i:Nat) (acc:List br) {rs:List br} {j:Nat},(∀r,r∈acc→Fits M aa.length r)→bU aa f i acc=(some rs,j)→(∀r,r∈rs→Fits M aa.length r)∧rs.length≤acc.length+f
 | 0,i,acc,rs,j,hacc,hr=>by simp[bU]at hr
 | f+1,i,acc,rs,j,hacc,hr=>by
  by_cases h1:aN aa i=1
  · rw[kE h1]at hr
    simp only[Prod.mk.injEq,Option.some.injEq]at hr
    rw[←hr.1]
    exact⟨hacc,by omega⟩
  · rcases hR:eF aa i with⟨_ | r,j'⟩
    · rw[jt h1 hR]at hr;simp at hr
    · rw[mo h1 hR]at hr
      have hf:=Ff h hR
      have:=oa h f j' (acc++[r]) (by
       intro x hx
       rcases List.mem_append.1 hx with hx | hx
       · exact hacc x hx
       · simp at hx;subst hx;exact hf) hr
      simp only[List.length_append,List.length_singleton]at this
      exact⟨this.1,by omega⟩
theorem AM(s:ByteArray):0<(split s).length:=by
 obtain⟨m,t,e,_⟩:=qH s
 rw[e];simp
def plain(s:ByteArray):ByteArray:=⟨((split s).flatMap fun t=>t.text.data.toList).toArray⟩
theorem UQ{s:ByteArray}(h:600<s.size):read s=(ByteArray.empty,1,0):=by simp[read,h]
theorem NZ{s:ByteArray}(h:¬600<s.size){j:Nat}(hr:bU (split s) (split s).length 0 []=(none,j)){t:Tok}(ht:(split s)[j]?=some t):read s=(ByteArray.empty,2,t.at_):=by simp[read,h,hr,ht]
theorem L4{s:ByteArray}(h:¬600<s.size){rs:List br}{j p:Nat}(hr:bU (split s) (split s).length 0 []=(some rs,j))(h3:cz 0 [] rs=some p):read s=(ByteArray.empty,3,p):=by simp[read,h,hr,h3]
theorem O9{s:ByteArray}(h:¬600<s.size){rs:List br}{j p:Nat}(hr:bU (split s) (split s).length 0 []=(some rs,j))(h3:cz 0 [] rs=none)(h4:dE [] (rs.flatMap br.atoms)=some p):read s=(ByteArray.empty,4,p):=by simp[read,h,hr,h3,h4]
theorem OB{s:ByteArray}(h:¬600<s.size){rs:List br}{j p:Nat}(hr:bU (split s) (split s).length 0 []=(some rs,j))(h3:cz 0 [] rs=none)(h4:dE [] (rs.flatMap br.atoms)=none)(h5:b8 rs=some p):read s=(ByteArray.empty,5,p):=by simp[read,h,hr,h3,h4,h5]
theorem Hb{s:ByteArray}(h:¬600<s.size){rs:List br}{j:Nat}(hr:bU (split s) (split s).length 0 []=(some rs,j))(h3:cz 0 [] rs=none)(h4:dE [] (rs.flatMap br.atoms)=none)(h5:b8 rs=none):read s=(plain s,0,0):=by simp[read,plain,h,hr,h3,h4,h5]
end Ax
/- Plain functions that mirror the reference's scanner. No program here. -/
namespace Ax
def byte(s:ByteArray)(k:Nat):Nat:=(s.get! k).toNat
theorem pA(s:ByteArray)(k:Nat):byte s k<256:=(s.get! k).toNat_lt
theorem gZ(s:ByteArray)(k:Nat)(h:k<s.size):(s[k]'h).toNat=byte s k:=by
 unfold byte
 have e:s.get! k=s[k]'h:=by
  simp[ByteArray.get!,getElem!_pos,h]
  rfl
 rw[e]
def ju(s:ByteArray)(i:Nat):Nat→Nat→Nat→Option Nat
 | 0,_,c=>some c
 | m+1,k,c=>if s.size≤i+k∨byte s (i+k)<128∨191<byte s (i+k)then none else ju s i m (k+1) (c*64+byte s (i+k)-128)
def nY(n lo:Nat):Option Nat→Nat×Nat
 | none=>(0,0)
 | some c=>if c<lo∨1114111<c∨(55296≤c∧c≤57343)then (0,0)else (c,n)
def pt(s:ByteArray)(i:Nat):Nat×Nat:=
 let c:=byte s i
 if c<128 then (c,1)else if c<192 then (0,0)
 else if c<224 then nY 2 128 (ju s i 1 1 (c-192))
 else if c<240 then nY 3 2048 (ju s i 2 1 (c-224))
 else if c<248 then nY 4 65536 (ju s i 3 1 (c-240))
 else (0,0)
def nC(c:Int):Bool:=(decide (97≤c)&&decide (c≤122))||decide (224≤c)
def qx(s:ByteArray)(i n:Nat):Bool:=
 decide (0<(pt s i).2)&&(nC (pt s i).1||(decide (n=0)&&decide (65≤(pt s i).1)&&decide ((pt s i).1≤90))||(decide (0<n)&&decide (48≤(pt s i).1)&&decide ((pt s i).1≤57)))
def cn(s:ByteArray):Nat→Nat→Nat→Nat×Nat
 | 0,i,n=>(i,n)
 | f+1,i,n=>if i<s.size then (if qx s i n then cn s f (i+(pt s i).2) (n+1)else (i,n))else (i,n)
theorem mE{s:ByteArray}{f i n:Nat}(h:¬i<s.size):cn s f i n=(i,n):=by cases f<;>simp[cn,h]
theorem iQ{s:ByteArray}{f i n:Nat}(hk:qx s i n=false):cn s f i n=(i,n):=by cases f<;>simp[cn,hk]
theorem mh{s:ByteArray}{f i n:Nat}(h:i<s.size)(hk:qx s i n=true):cn s (f+1) i n=cn s f (i+(pt s i).2) (n+1):=by simp[cn,h,hk]
theorem DA(s:ByteArray)(i:Nat):∀m k c c',i+k≤s.size→ju s i m k c=some c'→i+k+m≤s.size
 | 0,k,c,c',h,_=>h
 | m+1,k,c,c',h,hr=>by
  unfold ju at hr
  split at hr
  · simp at hr
  · rename_i hn
    have:=DA s i m (k+1) _ _ (by omega) hr
    omega
theorem QX{s:ByteArray}{i n lo:Nat}(m:Nat)(c:Nat)(hn:n=m+1)(h:i<s.size):i+(nY n lo (ju s i m 1 c)).2≤s.size:=by
 cases hr:ju s i m 1 c with
 | none=>simp[nY];omega
 | some c'=>
  have:=DA s i m 1 c c' (by omega) hr
  simp only[nY]
  split
  · simp;omega
  · simp;omega
theorem R9(s:ByteArray)(i:Nat)(h:i<s.size):i+(pt s i).2≤s.size:=by
 unfold pt
 simp only
 repeat' split
 all_goals first | exact QX _ _ rfl h | (simp;omega)
theorem IU{s:ByteArray}{i n:Nat}(h:qx s i n=true):0<(pt s i).2:=by
 simp only[qx,Bool.and_eq_true,decide_eq_true_eq]at h
 exact h.1
end Ax
/- Plain functions that mirror the reference's tokens. No program here. -/
namespace Ax
def tO(s:ByteArray)(a:Nat):Bool:=decide (byte s a=32)||decide (byte s a=10)
def ki(s:ByteArray):Nat→Nat→Nat
 | 0,a=>a
 | f+1,a=>if a<s.size∧tO s a=true then ki s f (a+1)else a
structure tV where
 kind:Nat
 text:ByteArray
 at_:Nat
def dL(s:ByteArray)(a:Nat):tV:=
 let x:=cn s s.size a 0
 let c:=byte s a
 if a=s.size then ⟨101,⟨#[]⟩,a⟩
 else if 6<x.2 then ⟨120,⟨#[]⟩,a⟩
 else if 0<x.2∧65≤c∧c≤90 then ⟨118,s.extract a x.1,a⟩
 else if 0<x.2 then ⟨110,s.extract a x.1,a⟩
 else if c=40∨c=41∨c=44∨c=46 then ⟨c,s.extract a (a+1),a⟩
 else if c=58∧a+1<s.size∧byte s (a+1)=45 then ⟨58,⟨#[58,45]⟩,a⟩
 else ⟨120,⟨#[]⟩,a⟩
def nh(s:ByteArray)(a:Nat):tV:=dL s (ki s s.size a)
theorem C8{s:ByteArray}{f a:Nat}(h:a<s.size)(hb:tO s a=true):ki s (f+1) a=ki s f (a+1):=by simp[ki,h,hb]
theorem ft{s:ByteArray}{f a:Nat}(h:¬(a<s.size∧tO s a=true)):ki s f a=a:=by
 cases f with
 | zero=>rfl
 | succ f=>simp only[ki,if_neg h]
theorem xn(s:ByteArray):∀f i n,i≤(cn s f i n).1
 | 0,i,n=>Nat.le_refl _
 | f+1,i,n=>by
  unfold cn
  split
  · split
    · have:=xn s f (i+(pt s i).2) (n+1);omega
    · exact Nat.le_refl _
  · exact Nat.le_refl _
theorem DR(s:ByteArray):∀f i n,i≤s.size→(cn s f i n).1≤s.size
 | 0,i,n,h=>h
 | f+1,i,n,h=>by
  unfold cn
  split
  · rename_i hi
    split
    · exact DR s f _ _ (R9 s i hi)
    · exact h
  · exact h
end Ax
/- The reference's tokens as a list. No program here. -/
namespace Ax
def jd(s:ByteArray):Nat→Nat→List tV→List tV
 | 0,_,acc=>acc
 | f+1,a,acc=>if (nh s a).kind=101∨(nh s a).kind=120 then acc++[nh s a]else jd s f ((nh s a).at_+(nh s a).text.size) (acc++[nh s a])
def OY(s:ByteArray):List tV:=jd s (s.size+1) 0 []
theorem oS{s:ByteArray}{f a:Nat}{acc:List tV}{t:tV}(h:nh s a=t)(hk:t.kind=101∨t.kind=120):jd s (f+1) a acc=acc++[t]:=by simp[jd,h,hk]
theorem xh{s:ByteArray}{f a:Nat}{acc:List tV}{t:tV}(h:nh s a=t)(hk:¬(t.kind=101∨t.kind=120)):jd s (f+1) a acc=jd s f (t.at_+t.text.size) (acc++[t]):=by simp[jd,h,hk]
theorem ID(s:ByteArray):∀f i n,(cn s f i n).2+i≤(cn s f i n).1+n
 | 0,i,n=>by simp[cn];omega
 | f+1,i,n=>by
  unfold cn
  split
  · split
    · rename_i hk
      have:=ID s f (i+(pt s i).2) (n+1)
      have:=IU hk
      omega
    · simp;omega
  · simp;omega
end Ax
end Go.Proofs.YtdmicblafmhflaaGreatDoor
