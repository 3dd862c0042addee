/- Plain functions that mirror program's scanner, on byte arrays. No program here. -/
import Derived.Laws.RangeString
import Derived.Laws.RangeAny
import Derived.Lib.DecodeN
set_option linter.unusedSimpArgs false
set_option linter.unusedVariables false
namespace Go.Proofs.YtdmicblafmhflaaGreatDoor
namespace Ax
def pre(s p:ByteArray):Bool:=p.data.toList.isPrefixOf s.data.toList
def digit(r:Int):Bool:=decide (48≤r)&&decide (r≤57)
def eT(r:Int):Bool:=decide (65≤r)&&decide (r≤90)
def blank(r:Int):Bool:=r==32||r==10
def small(rest:ByteArray)(r:Int):Bool:=
 if r=65533 then pre rest ⟨#[239,191,189]⟩else (decide (97≤r)&&decide (r≤122))||decide (224≤r)
def tail(s:ByteArray)(p:Nat):ByteArray:=s.extract p s.size
def stops(rest:ByteArray)(p:Nat):Bool:=
 decide (0<p)&& !small (tail rest p) (Utf8.decode rest p).1&& !digit (Utf8.decode rest p).1
def aG(rest:ByteArray):Nat→Nat→Nat→Nat×Nat
 | 0,_,n=>(rest.size,n)
 | f+1,p,n=>if p<rest.size then (if stops rest p then (p,n)else aG rest f (p+(Utf8.decode rest p).2) (n+1))else (rest.size,n)
def word(rest:ByteArray)(kind:Int):Int×Nat:=
 let x:=aG rest rest.size 0 0
 if 6<x.2 then (0,0)else (kind,x.1)
def aD(rest:ByteArray)(r:Int):Int×Nat:=
 if r=40 then (4,1)else if r=41 then (5,1)else if r=44 then (6,1)else if r=46 then (7,1)
 else if pre rest ⟨#[58,45]⟩then (8,2)
 else if small rest r then word rest 2
 else if eT r then word rest 3
 else (0,0)
structure Tok where
 kind:Int
 at_:Nat
 text:ByteArray
def aX(s:ByteArray):Nat→Nat→Nat→List Tok→List Tok
 | 0,_,_,acc=>acc++[⟨1,s.size,ByteArray.empty⟩]
 | f+1,p,b,acc=>
  if p<s.size then
   if p<b∨blank (Utf8.decode s p).1=true then aX s f (p+(Utf8.decode s p).2) b acc
   else
    let t:=aD (s.extract p s.size) (Utf8.decode s p).1
    let Yk:=acc++[⟨t.1,p,s.extract p (p+t.2)⟩]
    if t.1=0 then Yk else aX s f (p+(Utf8.decode s p).2) (p+t.2) Yk
  else acc++[⟨1,s.size,ByteArray.empty⟩]
def split(s:ByteArray):List Tok:=aX s s.size 0 0 []
theorem pV(s:ByteArray)(f p b:Nat)(acc:List Tok)(h:¬p<s.size):aX s f p b acc=acc++[⟨1,s.size,ByteArray.empty⟩]:=by
 cases f<;>simp[aX,h]
theorem ia(s:ByteArray)(f p b:Nat)(acc:List Tok)(h:p<s.size)(hb:p<b∨blank (Utf8.decode s p).1=true):
 aX s (f+1) p b acc=aX s f (p+(Utf8.decode s p).2) b acc:=by
 simp only[aX,h,hb,if_true]
theorem nZ(s:ByteArray)(f p b:Nat)(acc:List Tok)(h:p<s.size)(hb:¬(p<b∨blank (Utf8.decode s p).1=true))(k:Int)(n:Nat)(ht:aD (s.extract p s.size) (Utf8.decode s p).1=(k,n))(hk:k=0):
 aX s (f+1) p b acc=acc++[⟨k,p,s.extract p (p+n)⟩]:=by
 simp only[aX,h,hb,ht,hk,if_true,if_false]
theorem qY(s:ByteArray)(f p b:Nat)(acc:List Tok)(h:p<s.size)(hb:¬(p<b∨blank (Utf8.decode s p).1=true))(k:Int)(n:Nat)(ht:aD (s.extract p s.size) (Utf8.decode s p).1=(k,n))(hk:k≠0):
 aX s (f+1) p b acc=aX s f (p+(Utf8.decode s p).2) (p+n) (acc++[⟨k,p,s.extract p (p+n)⟩]):=by
 simp only[aX,h,hb,ht,hk,if_true,if_false]
theorem oH(s:ByteArray):∀f p n,(aG s f p n).1≤s.size
 | 0,_,_=>Nat.le_refl _
 | f+1,p,n=>by
  unfold aG
  split
  · split
    · simp;omega
    · exact oH s f _ _
  · exact Nat.le_refl _
theorem Jf(s:ByteArray)(k:Int):(word s k).2≤s.size:=by
 unfold word
 simp only
 split
 · exact Nat.zero_le _
 · exact oH s _ _ _
theorem V2(s p:ByteArray)(h:pre s p=true):p.size≤s.size:=(List.isPrefixOf_iff_prefix.1 h).length_le
theorem EH(s:ByteArray)(r:Int)(h:0<s.size):(aD s r).2≤s.size:=by
 unfold aD
 repeat' split
 any_goals (simp;omega;done)
 · rename_i h5;exact V2 s _ h5
 · exact Jf s _
 · exact Jf s _
 · exact Nat.zero_le _
end Ax
/- Plain functions that mirror program's parser. No program here. -/
namespace Ax
def Ends(l:List Tok):Prop:=∃m t,l=m++[t]∧(t.kind=0∨t.kind=1)
theorem kS(s:ByteArray):∀f p b acc,Ends (aX s f p b acc)
 | 0,_,_,acc=>⟨acc,_,rfl,.inr rfl⟩
 | f+1,p,b,acc=>by
  unfold aX
  split
  · split
    · exact kS s f _ _ _
    · simp only
      split
      · rename_i h;exact⟨acc,_,rfl,.inl h⟩
      · exact kS s f _ _ _
  · exact⟨acc,_,rfl,.inr rfl⟩
theorem mW(s:ByteArray):Ends (split s):=kS s _ _ _ _
theorem iY(s:ByteArray):∀f p b acc,(aX s f p b acc).length≤acc.length+f+1
 | 0,_,_,acc=>by simp[aX]
 | f+1,p,b,acc=>by
  unfold aX
  split
  · split
    · have:=iY s f (p+(Utf8.decode s p).2) b acc;omega
    · simp only
      split
      · simp
      · have:=iY s f (p+(Utf8.decode s p).2) (p+(aD (s.extract p s.size) (Utf8.decode s p).1).2) (acc++[⟨(aD (s.extract p s.size) (Utf8.decode s p).1).1,p,s.extract p (p+(aD (s.extract p s.size) (Utf8.decode s p).1).2)⟩])
        simp only[List.length_append,List.length_singleton]at this
        omega
  · simp
theorem fT(s:ByteArray):(split s).length≤s.size+1:=by
 have:=iY s s.size 0 0 []
 simp only[List.length_nil,Nat.zero_add]at this
 exact this
theorem Ends.next{l:List Tok}(h:Ends l){k:Nat}(hk:k<l.length)(h0:l[k].kind≠0)(h1:l[k].kind≠1):k+1<l.length:=by
 obtain⟨m,t,rfl,ht⟩:=h
 simp only[List.length_append,List.length_singleton]at hk ⊢
 by_cases e:k=m.length
 · subst e
   simp at h0 h1
   omega
 · omega
structure Term where
 kind:Int
 text:ByteArray
structure Atom where
 at_:Nat
 pred:ByteArray
 ag:List Term
structure aP where
 head:Atom
 body:List Atom
def aA(aa:List Tok)(i:Nat):Int:=match aa[i]? with | some t=>t.kind | none=>0
theorem cZ{aa:List Tok}{i:Nat}{t:Tok}(h:aa[i]?=some t):aA aa i=t.kind:=by simp[aA,h]
def jE(aa:List Tok)(i:Nat):Option Term×Nat:=
 match aa[i]? with
 | some t=>if t.kind=2∨t.kind=3 then (some ⟨t.kind-2,t.text⟩,i+1)else (none,i)
 | none=>(none,i)
theorem xM{aa:List Tok}{i:Nat}{t:Tok}(h:aa[i]?=some t)(hk:t.kind=2∨t.kind=3):jE aa i=(some ⟨t.kind-2,t.text⟩,i+1):=by simp[jE,h,hk]
theorem Hn{aa:List Tok}{i:Nat}{t:Tok}(h:aa[i]?=some t)(hk:¬(t.kind=2∨t.kind=3)):jE aa i=(none,i):=by simp[jE,h,hk]
def bP(aa:List Tok):Nat→Nat→List Term→Option (List Term)×Nat
 | 0,i,_=>(none,i)
 | f+1,i,acc=>
  match jE aa i with
  | (none,j)=>(none,j)
  | (some t,j)=>if aA aa j=6 then bP aa f (j+1) (acc++[t])else (some (acc++[t]),j)
theorem EW{aa:List Tok}{f i:Nat}{acc:List Term}(h:jE aa i=(none,i)):bP aa (f+1) i acc=(none,i):=by simp[bP,h]
theorem tQ{aa:List Tok}{f i j:Nat}{acc:List Term}{t:Term}(h:jE aa i=(some t,j))(hk:aA aa j=6):bP aa (f+1) i acc=bP aa f (j+1) (acc++[t]):=by simp[bP,h,hk]
theorem oU{aa:List Tok}{f i j:Nat}{acc:List Term}{t:Term}(h:jE aa i=(some t,j))(hk:¬aA aa j=6):bP aa (f+1) i acc=(some (acc++[t]),j):=by simp[bP,h,hk]
theorem Pj{aa:List Tok}(he:Ends aa){i:Nat}(hi:i<aa.length):(jE aa i).2<aa.length:=by
 unfold jE
 split
 · rename_i t ht
   obtain⟨hl,e⟩:=List.getElem?_eq_some_iff.1 ht
   split
   · rename_i hk
     exact he.next hl (by rw[e];omega) (by rw[e];omega)
   · exact hi
 · exact hi
theorem pF{aa:List Tok}(he:Ends aa):∀(f i:Nat) (acc:List Term) {r:Option (List Term)} {j:Nat},i<aa.length→bP aa f i acc=(r,j)→j<aa.length
 | 0,i,acc,r,j,hi,h=>by simp[bP]at h;omega
 | f+1,i,acc,r,j,hi,h=>by
  have hl:=Pj he hi
  unfold bP at h
  split at h
  · rename_i j' e
    rw[e]at hl
    simp at h hl
    omega
  · rename_i t j' e
    rw[e]at hl
    simp only at hl
    split at h
    · rename_i hk
      refine pF he f (j'+1) _ ?_ h
      have ht:aa[j']?=some aa[j']:=List.getElem?_eq_getElem hl
      rw[cZ ht]at hk
      exact he.next hl (by omega) (by omega)
    · simp at h
      omega
def bQ(aa:List Tok)(i:Nat):Option Atom×Nat:=
 match aa[i]? with
 | none=>(none,i)
 | some t=>
  if t.kind=2 then
   if aA aa (i+1)=4 then
    match bP aa aa.length (i+1+1) []with
    | (none,j)=>(none,j)
    | (some ts,j)=>if aA aa j=5 then (some ⟨t.at_,t.text,ts⟩,j+1)else (none,j)
   else (none,i+1)
  else (none,i)
theorem ID{aa:List Tok}{i:Nat}{t:Tok}(h:aa[i]?=some t)(hk:¬t.kind=2):bQ aa i=(none,i):=by simp[bQ,h,hk]
theorem I0{aa:List Tok}{i:Nat}{t:Tok}(h:aa[i]?=some t)(hk:t.kind=2)(h4:¬aA aa (i+1)=4):bQ aa i=(none,i+1):=by simp[bQ,h,hk,h4]
theorem I2{aa:List Tok}{i j:Nat}{t:Tok}(h:aa[i]?=some t)(hk:t.kind=2)(h4:aA aa (i+1)=4)(ht:bP aa aa.length (i+1+1) []=(none,j)):bQ aa i=(none,j):=by simp[bQ,h,hk,h4,ht]
theorem I3{aa:List Tok}{i j:Nat}{t:Tok}{ts:List Term}(h:aa[i]?=some t)(hk:t.kind=2)(h4:aA aa (i+1)=4)(ht:bP aa aa.length (i+1+1) []=(some ts,j))(h5:¬aA aa j=5):bQ aa i=(none,j):=by simp[bQ,h,hk,h4,ht,h5]
theorem Ch{aa:List Tok}{i j:Nat}{t:Tok}{ts:List Term}(h:aa[i]?=some t)(hk:t.kind=2)(h4:aA aa (i+1)=4)(ht:bP aa aa.length (i+1+1) []=(some ts,j))(h5:aA aa j=5):bQ aa i=(some ⟨t.at_,t.text,ts⟩,j+1):=by simp[bQ,h,hk,h4,ht,h5]
end Ax
/- Plain functions that mirror program's parser: atoms, rules. No program here. -/
namespace Ax
theorem kL{aa:List Tok}(he:Ends aa){i:Nat}{r:Option Atom}{j:Nat}(hi:i<aa.length)(h:bQ aa i=(r,j)):j<aa.length:=by
 have ht:aa[i]?=some aa[i]:=List.getElem?_eq_getElem hi
 by_cases h2:aa[i].kind=2
 case neg=>rw[ID ht h2]at h;simp at h;omega
 have vU:=he.next hi (by omega) (by omega)
 have yT:aa[i+1]?=some aa[i+1]:=List.getElem?_eq_getElem vU
 by_cases h4:aA aa (i+1)=4
 case neg=>rw[I0 ht h2 h4]at h;simp at h;omega
 have h4':aa[i+1].kind=4:=by rw[cZ yT]at h4;exact h4
 have FK:=he.next vU (by omega) (by omega)
 rcases hR:bP aa aa.length (i+1+1) []with⟨_ | ts,j'⟩
 · have:=pF he _ _ _ FK hR
   rw[I2 ht h2 h4 hR]at h;simp at h;omega
 · have hj:=pF he _ _ _ FK hR
   by_cases h5:aA aa j'=5
   · rw[Ch ht h2 h4 hR h5]at h
     have C6:aa[j']?=some aa[j']:=List.getElem?_eq_getElem hj
     rw[cZ C6]at h5
     have:=he.next hj (by omega) (by omega)
     simp at h;omega
   · rw[I3 ht h2 h4 hR h5]at h;simp at h;omega
def bL(aa:List Tok):Nat→Nat→List Atom→Option (List Atom)×Nat
 | 0,i,_=>(none,i)
 | f+1,i,acc=>
  match bQ aa i with
  | (none,j)=>(none,j)
  | (some t,j)=>if aA aa j=6 then bL aa f (j+1) (acc++[t])else (some (acc++[t]),j)
theorem gX{aa:List Tok}{f i j:Nat}{acc:List Atom}(h:bQ aa i=(none,j)):bL aa (f+1) i acc=(none,j):=by simp[bL,h]
theorem iP{aa:List Tok}{f i j:Nat}{acc:List Atom}{t:Atom}(h:bQ aa i=(some t,j))(hk:aA aa j=6):bL aa (f+1) i acc=bL aa f (j+1) (acc++[t]):=by simp[bL,h,hk]
theorem fJ{aa:List Tok}{f i j:Nat}{acc:List Atom}{t:Atom}(h:bQ aa i=(some t,j))(hk:¬aA aa j=6):bL aa (f+1) i acc=(some (acc++[t]),j):=by simp[bL,h,hk]
theorem rz{aa:List Tok}{i j:Nat}{a:Atom}(h:bQ aa i=(some a,j)):i<j:=by
 have hT:∀f i acc r j,bP aa f i acc=(r,j)→i≤j:=by
  intro f
  induction f with
  | zero=>intro i acc r j h;simp[bP]at h;omega
  | succ f ih=>
   intro i acc r j h
   have hm:i≤(jE aa i).2:=by unfold jE;(split;(split<;>simp);simp)
   unfold bP at h
   split at h
   · rename_i j' e;rw[e]at hm;simp at h hm;omega
   · rename_i t j' e
     rw[e]at hm
     simp only at hm
     split at h
     · have:=ih _ _ _ _ h;omega
     · simp at h;omega
 unfold bQ at h
 split at h
 · simp at h
 · split at h
   · split at h
     · split at h
       · simp at h
       · rename_i ts j' e
         have:=hT _ _ _ _ _ e
         split at h
         · simp at h;omega
         · simp at h
     · simp at h
   · simp at h
theorem l8{aa:List Tok}(he:Ends aa):∀(f i:Nat) (acc:List Atom) {r:Option (List Atom)} {j:Nat},i<aa.length→bL aa f i acc=(r,j)→j<aa.length
 | 0,i,acc,r,j,hi,h=>by simp[bL]at h;omega
 | f+1,i,acc,r,j,hi,h=>by
  rcases hA:bQ aa i with⟨_ | a,j'⟩
  · have:=kL he hi hA
    rw[gX hA]at h;simp at h;omega
  · have hl:=kL he hi hA
    by_cases hk:aA aa j'=6
    · rw[iP hA hk]at h
      refine l8 he f (j'+1) _ ?_ h
      have ht:aa[j']?=some aa[j']:=List.getElem?_eq_getElem hl
      rw[cZ ht]at hk
      exact he.next hl (by omega) (by omega)
    · rw[fJ hA hk]at h;simp at h;omega
end Ax
/- Plain functions that mirror program's parser: rules. No program here. -/
namespace Ax
def dX(aa:List Tok)(i:Nat):Option aP×Nat:=
 match bQ aa i with
 | (none,j)=>(none,j)
 | (some a,j)=>
  if aA aa j=8 then
   match bL aa aa.length (j+1) []with
   | (none,j2)=>(none,j2)
   | (some b,j2)=>if aA aa j2=7 then (some ⟨a,b⟩,j2+1)else (none,j2)
  else if aA aa j=7 then (some ⟨a,[]⟩,j+1)else (none,j)
theorem nN{aa:List Tok}{i j:Nat}(hA:bQ aa i=(none,j)):dX aa i=(none,j):=by simp[dX,hA]
theorem ny{aa:List Tok}{i j j2:Nat}{a:Atom}(hA:bQ aa i=(some a,j))(h8:aA aa j=8)(hB:bL aa aa.length (j+1) []=(none,j2)):dX aa i=(none,j2):=by simp[dX,hA,h8,hB]
theorem nh{aa:List Tok}{i j j2:Nat}{a:Atom}{b:List Atom}(hA:bQ aa i=(some a,j))(h8:aA aa j=8)(hB:bL aa aa.length (j+1) []=(some b,j2))(h7:¬aA aa j2=7):dX aa i=(none,j2):=by simp[dX,hA,h8,hB,h7]
theorem ly{aa:List Tok}{i j j2:Nat}{a:Atom}{b:List Atom}(hA:bQ aa i=(some a,j))(h8:aA aa j=8)(hB:bL aa aa.length (j+1) []=(some b,j2))(h7:aA aa j2=7):dX aa i=(some ⟨a,b⟩,j2+1):=by simp[dX,hA,h8,hB,h7]
theorem nR{aa:List Tok}{i j:Nat}{a:Atom}(hA:bQ aa i=(some a,j))(h8:¬aA aa j=8)(h7:¬aA aa j=7):dX aa i=(none,j):=by simp[dX,hA,h8,h7]
theorem lE{aa:List Tok}{i j:Nat}{a:Atom}(hA:bQ aa i=(some a,j))(h8:¬aA aa j=8)(h7:aA aa j=7):dX aa i=(some ⟨a,[]⟩,j+1):=by simp[dX,hA,h7]
theorem mE{aa:List Tok}(he:Ends aa){j:Nat}(hj:j<aa.length){k:Int}(hk:aA aa j=k)(h2:2≤k):j+1<aa.length:=by
 have ht:aa[j]?=some aa[j]:=List.getElem?_eq_getElem hj
 rw[cZ ht]at hk
 exact he.next hj (by omega) (by omega)
theorem tB{aa:List Tok}:∀(f i:Nat) (acc:List Atom) {r:List Atom} {j:Nat},bL aa f i acc=(some r,j)→i<j
 | 0,i,acc,r,j,h=>by simp[bL]at h
 | f+1,i,acc,r,j,h=>by
  rcases hA:bQ aa i with⟨_ | a,j'⟩
  · rw[gX hA]at h;simp at h
  · have hl:=rz hA
    by_cases hk:aA aa j'=6
    · rw[iP hA hk]at h
      have:=tB f (j'+1) _ h
      omega
    · rw[fJ hA hk]at h;simp at h;omega
theorem rj{aa:List Tok}(he:Ends aa){i:Nat}{r:Option aP}{j:Nat}(hi:i<aa.length)(h:dX aa i=(r,j)):j<aa.length∧(r≠none→i<j):=by
 rcases hA:bQ aa i with⟨_ | a,j1⟩
 · have:=kL he hi hA
   rw[nN hA]at h;simp at h
   exact⟨by omega,fun hn=>absurd h.1.symm hn⟩
 · have SE:=kL he hi hA
   have hg:=rz hA
   by_cases h8:aA aa j1=8
   · have hn:=mE he SE h8 (by omega)
     rcases hB:bL aa aa.length (j1+1) []with⟨_ | b,j2⟩
     · have:=l8 he _ _ _ hn hB
       rw[ny hA h8 hB]at h;simp at h
       exact⟨by omega,fun hn=>absurd h.1.symm hn⟩
     · have h2:=l8 he _ _ _ hn hB
       have h3:j1+1<j2:=tB _ _ _ hB
       by_cases h7:aA aa j2=7
       · have:=mE he h2 h7 (by omega)
         rw[ly hA h8 hB h7]at h;simp at h
         exact⟨by omega,fun _=>by omega⟩
       · rw[nh hA h8 hB h7]at h;simp at h
         exact⟨by omega,fun hn=>absurd h.1.symm hn⟩
   · by_cases h7:aA aa j1=7
     · have:=mE he SE h7 (by omega)
       rw[lE hA h8 h7]at h;simp at h
       exact⟨by omega,fun _=>by omega⟩
     · rw[nR hA h8 h7]at h;simp at h
       exact⟨by omega,fun hn=>absurd h.1.symm hn⟩
def bM(aa:List Tok):Nat→Nat→List aP→Option (List aP)×Nat
 | 0,i,_=>(none,i)
 | f+1,i,acc=>
  if aA aa i=1 then (some acc,i)
  else match dX aa i with
   | (none,j)=>(none,j)
   | (some r,j)=>bM aa f j (acc++[r])
theorem iS{aa:List Tok}{f i:Nat}{acc:List aP}(h:aA aa i=1):bM aa (f+1) i acc=(some acc,i):=by simp[bM,h]
theorem jw{aa:List Tok}{f i j:Nat}{acc:List aP}(h1:¬aA aa i=1)(h:dX aa i=(none,j)):bM aa (f+1) i acc=(none,j):=by simp[bM,h1,h]
theorem kx{aa:List Tok}{f i j:Nat}{acc:List aP}{r:aP}(h1:¬aA aa i=1)(h:dX aa i=(some r,j)):bM aa (f+1) i acc=bM aa f j (acc++[r]):=by simp[bM,h1,h]
theorem s6{aa:List Tok}(he:Ends aa):∀(f i:Nat) (acc:List aP) {r:Option (List aP)} {j:Nat},i<aa.length→bM aa f i acc=(r,j)→j<aa.length
 | 0,i,acc,r,j,hi,h=>by simp[bM]at h;omega
 | f+1,i,acc,r,j,hi,h=>by
  by_cases h1:aA aa i=1
  · rw[iS h1]at h;simp at h;omega
  · rcases hR:dX aa i with⟨_ | a,j'⟩
    · have:=(rj he hi hR).1
      rw[jw h1 hR]at h;simp at h;omega
    · have:=(rj he hi hR).1
      rw[kx h1 hR]at h
      exact s6 he f j' _ this h
end Ax
/- Plain functions that mirror program's limits. No program here. -/
namespace Ax
def has(l:List ByteArray)(v:ByteArray):Bool:=l.any fun x=>decide (v=x)
theorem nM(l:List ByteArray)(v:ByteArray):has l v=true↔v∈l:=by simp[has]
def Term.beq(s t:Term):Bool:=decide (s.kind=t.kind)&&decide (s.text=t.text)
theorem Term.beq_iff(s t:Term):s.beq t=true↔s=t:=by
 rcases s with⟨a,b⟩
 rcases t with⟨c,d⟩
 simp[Term.beq]
def jl(l:List Term)(v:Term):Bool:=l.any fun x=>v.beq x
theorem uy(l:List Term)(v:Term):jl l v=true↔v∈l:=by
 simp only[jl,List.any_eq_true,Term.beq_iff]
 exact⟨fun ⟨x,h,e⟩=>e▸h,fun h=>⟨v,h,rfl⟩⟩
def aP.atoms(r:aP):List Atom:=r.head::r.body
def cE(ps:List ByteArray):List Atom→List ByteArray
 | []=>ps
 | a::l=>cE (if has ps a.pred then ps else ps++[a.pred]) l
def wide(a:Atom):Bool:=decide (3<a.ag.length)
def iw(l:List Atom):Bool:=l.any fun x=>wide x
def nH(l:List Atom)(t:Term):Bool:=l.any fun x=>jl x.ag t
def fI(i:Nat)(ps:List ByteArray)(r:aP):Bool:=decide (8≤i)||decide (2<r.body.length)||decide (6<ps.length)||iw r.atoms
def bW:Nat→List ByteArray→List aP→Option Nat
 | _,_,[]=>none
 | i,ps,r::l=>if fI i (cE ps r.atoms) r then some r.head.at_ else bW (i+1) (cE ps r.atoms) l
abbrev abU:=List (ByteArray×Nat)
end Ax
/- Plain functions that mirror program's limits: openHead, twoArities, Read. No program here. -/
namespace Ax
def iu(b:List Atom)(t:Term):Bool:=decide (t.kind=1)&& !nH b t
def lM(r:aP):Bool:=r.head.ag.any fun t=>iu r.body t
def b7:List aP→Option Nat
 | []=>none
 | r::l=>if lM r then some r.head.at_ else b7 l
def look(m:List (ByteArray×Nat))(p:ByteArray):Option Nat:=(m.find? fun x=>decide (x.1=p)).map Prod.snd
def du(m:List (ByteArray×Nat)):List Atom→Option Nat
 | []=>none
 | a::l=>
  match look m a.pred with
  | some n=>if n=a.ag.length then du m l else some a.at_
  | none=>du ((a.pred,a.ag.length)::m) l
def read(s:ByteArray):ByteArray×Int×Nat:=
 if 600<s.size then (ByteArray.empty,1,0)
 else match bM (split s) (split s).length 0 []with
  | (none,j)=>(ByteArray.empty,2,((split s)[j]?.map Tok.at_).getD 0)
  | (some rs,_)=>
   match bW 0 [] rs with
   | some p=>(ByteArray.empty,3,p)
   | none=>match du [] (rs.flatMap aP.atoms)with
    | some p=>(ByteArray.empty,4,p)
    | none=>match b7 rs with
     | some p=>(ByteArray.empty,5,p)
     | none=>(⟨((split s).flatMap fun t=>t.text.data.toList).toArray⟩,0,0)
end Ax
/- Bounds on what split and the parser give; Read's answers by cases. No program here. -/
namespace Ax
theorem kF(s:ByteArray):∀f p b acc,(∀t,t∈acc→t.text.size≤s.size)→∀t,t∈aX s f p b acc→t.text.size≤s.size
 | 0,_,_,acc,h=>by
  intro t ht
  simp only[aX,List.mem_append,List.mem_singleton]at ht
  rcases ht with ht | rfl
  · exact h t ht
  · exact Nat.zero_le _
 | f+1,p,b,acc,h=>by
  unfold aX
  have hx:∀(k:Int) (n:Nat),∀t,t∈acc++[⟨k,p,s.extract p (p+n)⟩]→t.text.size≤s.size:=by
   intro k n t ht
   simp only[List.mem_append,List.mem_singleton]at ht
   rcases ht with ht | rfl
   · exact h t ht
   · simp only[ByteArray.size_extract];omega
  split
  · split
    · exact kF s f _ _ _ h
    · simp only
      split
      · exact hx _ _
      · exact kF s f _ _ _ (hx _ _)
  · intro t ht
    simp only[List.mem_append,List.mem_singleton]at ht
    rcases ht with ht | rfl
    · exact h t ht
    · exact Nat.zero_le _
theorem jf(s:ByteArray):∀t,t∈split s→t.text.size≤s.size:=kF s _ _ _ _ (fun _ h=>by cases h)
theorem wJ{aa:List Tok}{M:Nat}(h:∀t,t∈aa→t.text.size≤M){i j:Nat}{a:Atom}(ha:bQ aa i=(some a,j)):a.pred.size≤M:=by
 unfold bQ at ha
 split at ha
 · simp at ha
 · rename_i t ht
   have hm:=h t (List.mem_of_getElem? ht)
   split at ha
   · split at ha
     · split at ha
       · simp at ha
       · split at ha
         · simp at ha;rw[←ha.1];exact hm
         · simp at ha
     · simp at ha
   · simp at ha
theorem p6{aa:List Tok}{M:Nat}(h:∀t,t∈aa→t.text.size≤M):∀(f i:Nat) (acc:List Atom) {r:List Atom} {j:Nat},(∀a,a∈acc→a.pred.size≤M)→bL aa f i acc=(some r,j)→(∀a,a∈r→a.pred.size≤M)∧r.length≤acc.length+f
 | 0,i,acc,r,j,hacc,hr=>by simp[bL]at hr
 | f+1,i,acc,r,j,hacc,hr=>by
  rcases hA:bQ aa i with⟨_ | a,j'⟩
  · rw[gX hA]at hr;simp at hr
  · have hp:=wJ h hA
    have Fj:∀x,x∈acc++[a]→x.pred.size≤M:=by
     intro x hx
     rcases List.mem_append.1 hx with hx | hx
     · exact hacc x hx
     · simp at hx;subst hx;exact hp
    by_cases hk:aA aa j'=6
    · rw[iP hA hk]at hr
      have:=p6 h f (j'+1) _ Fj hr
      simp only[List.length_append,List.length_singleton]at this
      exact⟨this.1,by omega⟩
    · rw[fJ hA hk]at hr
      simp only[Prod.mk.injEq,Option.some.injEq]at hr
      rw[←hr.1]
      exact⟨Fj,by simp⟩
def Fits(M n:Nat)(r:aP):Prop:=r.body.length≤n∧∀a,a∈r.atoms→a.pred.size≤M
theorem GP{aa:List Tok}{M:Nat}(h:∀t,t∈aa→t.text.size≤M){i j:Nat}{r:aP}(hr:dX aa i=(some r,j)):Fits M aa.length r:=by
 rcases hA:bQ aa i with⟨_ | a,j1⟩
 · rw[nN hA]at hr;simp at hr
 · have hp:=wJ h hA
   by_cases h8:aA aa j1=8
   · rcases hB:bL aa aa.length (j1+1) []with⟨_ | b,j2⟩
     · rw[ny hA h8 hB]at hr;simp at hr
     · obtain⟨hb,fE⟩:=p6 h _ _ _ (fun _ h=>by cases h) hB
       by_cases h7:aA aa j2=7
       · rw[ly hA h8 hB h7]at hr
         simp only[Prod.mk.injEq,Option.some.injEq]at hr
         rw[←hr.1]
         refine⟨by simpa using fE, ?_⟩
         intro x hx
         rcases List.mem_cons.1 hx with rfl | hx
         · exact hp
         · exact hb x hx
       · rw[nh hA h8 hB h7]at hr;simp at hr
   · by_cases h7:aA aa j1=7
     · rw[lE hA h8 h7]at hr
       simp only[Prod.mk.injEq,Option.some.injEq]at hr
       rw[←hr.1]
       refine⟨Nat.zero_le _, ?_⟩
       intro x hx
       rcases List.mem_cons.1 hx with rfl | hx
       · exact hp
       · cases hx
     · rw[nR hA h8 h7]at hr;simp at hr
theorem lH{aa:List Tok}{M:Nat}(h:∀t,t∈aa→t.text.size≤M):∀(f i:Nat) (acc:List aP) {rs:List aP} {j:Nat},(∀r,r∈acc→Fits M aa.length r)→bM aa f i acc=(some rs,j)→(∀r,r∈rs→Fits M aa.length r)∧rs.length≤acc.length+f
 | 0,i,acc,rs,j,hacc,hr=>by simp[bM]at hr
 | f+1,i,acc,rs,j,hacc,hr=>by
  by_cases h1:aA aa i=1
  · rw[iS h1]at hr
    simp only[Prod.mk.injEq,Option.some.injEq]at hr
    rw[←hr.1]
    exact⟨hacc,by omega⟩
  · rcases hR:dX aa i with⟨_ | r,j'⟩
    · rw[jw h1 hR]at hr;simp at hr
    · rw[kx h1 hR]at hr
      have hf:=GP h hR
      have:=lH h f j' (acc++[r]) (by
       intro x hx
       rcases List.mem_append.1 hx with hx | hx
       · exact hacc x hx
       · simp at hx;subst hx;exact hf) hr
      simp only[List.length_append,List.length_singleton]at this
      exact⟨this.1,by omega⟩
theorem sV(s:ByteArray):0<(split s).length:=by
 obtain⟨m,t,e,_⟩:=mW s
 rw[e];simp
def plain(s:ByteArray):ByteArray:=⟨((split s).flatMap fun t=>t.text.data.toList).toArray⟩
theorem NX{s:ByteArray}(h:600<s.size):read s=(ByteArray.empty,1,0):=by simp[read,h]
theorem Pe{s:ByteArray}(h:¬600<s.size){j:Nat}(hr:bM (split s) (split s).length 0 []=(none,j)){t:Tok}(ht:(split s)[j]?=some t):read s=(ByteArray.empty,2,t.at_):=by simp[read,h,hr,ht]
theorem Gu{s:ByteArray}(h:¬600<s.size){rs:List aP}{j p:Nat}(hr:bM (split s) (split s).length 0 []=(some rs,j))(h3:bW 0 [] rs=some p):read s=(ByteArray.empty,3,p):=by simp[read,h,hr,h3]
theorem Gz{s:ByteArray}(h:¬600<s.size){rs:List aP}{j p:Nat}(hr:bM (split s) (split s).length 0 []=(some rs,j))(h3:bW 0 [] rs=none)(h4:du [] (rs.flatMap aP.atoms)=some p):read s=(ByteArray.empty,4,p):=by simp[read,h,hr,h3,h4]
theorem Gx{s:ByteArray}(h:¬600<s.size){rs:List aP}{j p:Nat}(hr:bM (split s) (split s).length 0 []=(some rs,j))(h3:bW 0 [] rs=none)(h4:du [] (rs.flatMap aP.atoms)=none)(h5:b7 rs=some p):read s=(ByteArray.empty,5,p):=by simp[read,h,hr,h3,h4,h5]
theorem B2{s:ByteArray}(h:¬600<s.size){rs:List aP}{j:Nat}(hr:bM (split s) (split s).length 0 []=(some rs,j))(h3:bW 0 [] rs=none)(h4:du [] (rs.flatMap aP.atoms)=none)(h5:b7 rs=none):read s=(plain s,0,0):=by simp[read,plain,h,hr,h3,h4,h5]
end Ax
/- Plain functions that mirror the reference's scanner. No program here. -/
namespace Ax
def byte(s:ByteArray)(k:Nat):Nat:=(s.get! k).toNat
theorem nf(s:ByteArray)(k:Nat):byte s k<256:=(s.get! k).toNat_lt
theorem hO(s:ByteArray)(k:Nat)(h:k<s.size):(s[k]'h).toNat=byte s k:=by
 unfold byte
 have e:s.get! k=s[k]'h:=by
  simp[ByteArray.get!,getElem!_pos,h]
  rfl
 rw[e]
def jI(s:ByteArray)(i:Nat):Nat→Nat→Nat→Option Nat
 | 0,_,c=>some c
 | m+1,k,c=>if s.size≤i+k∨byte s (i+k)<128∨191<byte s (i+k)then none else jI s i m (k+1) (c*64+byte s (i+k)-128)
def oL(n lo:Nat):Option Nat→Nat×Nat
 | none=>(0,0)
 | some c=>if c<lo∨1114111<c∨(55296≤c∧c≤57343)then (0,0)else (c,n)
def pt(s:ByteArray)(i:Nat):Nat×Nat:=
 let c:=byte s i
 if c<128 then (c,1)else if c<192 then (0,0)
 else if c<224 then oL 2 128 (jI s i 1 1 (c-192))
 else if c<240 then oL 3 2048 (jI s i 2 1 (c-224))
 else if c<248 then oL 4 65536 (jI s i 3 1 (c-240))
 else (0,0)
def nO(c:Int):Bool:=(decide (97≤c)&&decide (c≤122))||decide (224≤c)
def qq(s:ByteArray)(i n:Nat):Bool:=
 decide (0<(pt s i).2)&&(nO (pt s i).1||(decide (n=0)&&decide (65≤(pt s i).1)&&decide ((pt s i).1≤90))||(decide (0<n)&&decide (48≤(pt s i).1)&&decide ((pt s i).1≤57)))
def bY(s:ByteArray):Nat→Nat→Nat→Nat×Nat
 | 0,i,n=>(i,n)
 | f+1,i,n=>if i<s.size then (if qq s i n then bY s f (i+(pt s i).2) (n+1)else (i,n))else (i,n)
theorem mA{s:ByteArray}{f i n:Nat}(h:¬i<s.size):bY s f i n=(i,n):=by cases f<;>simp[bY,h]
theorem jc{s:ByteArray}{f i n:Nat}(hk:qq s i n=false):bY s f i n=(i,n):=by cases f<;>simp[bY,hk]
theorem me{s:ByteArray}{f i n:Nat}(h:i<s.size)(hk:qq s i n=true):bY s (f+1) i n=bY s f (i+(pt s i).2) (n+1):=by simp[bY,h,hk]
theorem D9(s:ByteArray)(i:Nat):∀m k c c',i+k≤s.size→jI s i m k c=some c'→i+k+m≤s.size
 | 0,k,c,c',h,_=>h
 | m+1,k,c,c',h,hr=>by
  unfold jI at hr
  split at hr
  · simp at hr
  · rename_i hn
    have:=D9 s i m (k+1) _ _ (by omega) hr
    omega
theorem Rj{s:ByteArray}{i n lo:Nat}(m:Nat)(c:Nat)(hn:n=m+1)(h:i<s.size):i+(oL n lo (jI s i m 1 c)).2≤s.size:=by
 cases hr:jI s i m 1 c with
 | none=>simp[oL];omega
 | some c'=>
  have:=D9 s i m 1 c c' (by omega) hr
  simp only[oL]
  split
  · simp;omega
  · simp;omega
theorem SU(s:ByteArray)(i:Nat)(h:i<s.size):i+(pt s i).2≤s.size:=by
 unfold pt
 simp only
 repeat' split
 all_goals first | exact Rj _ _ rfl h | (simp;omega)
theorem IP{s:ByteArray}{i n:Nat}(h:qq s i n=true):0<(pt s i).2:=by
 simp only[qq,Bool.and_eq_true,decide_eq_true_eq]at h
 exact h.1
end Ax
/- Plain functions that mirror the reference's tokens. No program here. -/
namespace Ax
def tJ(s:ByteArray)(a:Nat):Bool:=decide (byte s a=32)||decide (byte s a=10)
def gg(s:ByteArray):Nat→Nat→Nat
 | 0,a=>a
 | f+1,a=>if a<s.size∧tJ s a=true then gg s f (a+1)else a
structure sH where
 kind:Nat
 text:ByteArray
 at_:Nat
def cW(s:ByteArray)(a:Nat):sH:=
 let x:=bY s s.size a 0
 let c:=byte s a
 if a=s.size then ⟨101,⟨#[]⟩,a⟩
 else if 6<x.2 then ⟨120,⟨#[]⟩,a⟩
 else if 0<x.2∧65≤c∧c≤90 then ⟨118,s.extract a x.1,a⟩
 else if 0<x.2 then ⟨110,s.extract a x.1,a⟩
 else if c=40∨c=41∨c=44∨c=46 then ⟨c,s.extract a (a+1),a⟩
 else if c=58∧a+1<s.size∧byte s (a+1)=45 then ⟨58,⟨#[58,45]⟩,a⟩
 else ⟨120,⟨#[]⟩,a⟩
def fy(s:ByteArray)(a:Nat):sH:=cW s (gg s s.size a)
theorem D8{s:ByteArray}{f a:Nat}(h:a<s.size)(hb:tJ s a=true):gg s (f+1) a=gg s f (a+1):=by simp[gg,h,hb]
theorem fL{s:ByteArray}{f a:Nat}(h:¬(a<s.size∧tJ s a=true)):gg s f a=a:=by
 cases f with
 | zero=>rfl
 | succ f=>simp only[gg,if_neg h]
theorem sa(s:ByteArray):∀f i n,i≤(bY s f i n).1
 | 0,i,n=>Nat.le_refl _
 | f+1,i,n=>by
  unfold bY
  split
  · split
    · have:=sa s f (i+(pt s i).2) (n+1);omega
    · exact Nat.le_refl _
  · exact Nat.le_refl _
theorem xR(s:ByteArray):∀f i n,i≤s.size→(bY s f i n).1≤s.size
 | 0,i,n,h=>h
 | f+1,i,n,h=>by
  unfold bY
  split
  · rename_i hi
    split
    · exact xR s f _ _ (SU s i hi)
    · exact h
  · exact h
end Ax
end Go.Proofs.YtdmicblafmhflaaGreatDoor
