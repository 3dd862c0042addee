/- Plain functions that mirror program's scanner, on byte arrays. No program here. -/
import Derived.Laws.RangeString
import Derived.Laws.RangeAny
import Derived.Lib.DecodeN
set_option linter.unusedSimpArgs false
set_option linter.unusedVariables false
namespace Go.Proofs.YtdmicblafmhflaaGreatDoor
namespace Ax
def pre(s p:ByteArray):Bool:=p.data.toList.isPrefixOf s.data.toList
def digit(r:Int):Bool:=decide (48≤r)&&decide (r≤57)
def eS(r:Int):Bool:=decide (65≤r)&&decide (r≤90)
def blank(r:Int):Bool:=r==32||r==10
def small(rest:ByteArray)(r:Int):Bool:=
 if r=65533 then pre rest ⟨#[239,191,189]⟩else (decide (97≤r)&&decide (r≤122))||decide (224≤r)
def tail(s:ByteArray)(p:Nat):ByteArray:=s.extract p s.size
def stops(rest:ByteArray)(p:Nat):Bool:=
 decide (0<p)&& !small (tail rest p) (Utf8.decode rest p).1&& !digit (Utf8.decode rest p).1
def aR(rest:ByteArray):Nat→Nat→Nat→Nat×Nat
 | 0,_,n=>(rest.size,n)
 | f+1,p,n=>if p<rest.size then (if stops rest p then (p,n)else aR rest f (p+(Utf8.decode rest p).2) (n+1))else (rest.size,n)
def word(rest:ByteArray)(kind:Int):Int×Nat:=
 let x:=aR rest rest.size 0 0
 if 6<x.2 then (0,0)else (kind,x.1)
def aN(rest:ByteArray)(r:Int):Int×Nat:=
 if r=40 then (4,1)else if r=41 then (5,1)else if r=44 then (6,1)else if r=46 then (7,1)
 else if pre rest ⟨#[58,45]⟩then (8,2)
 else if small rest r then word rest 2
 else if eS r then word rest 3
 else (0,0)
structure Tok where
 kind:Int
 at_:Nat
 text:ByteArray
def bj(s:ByteArray):Nat→Nat→Nat→List Tok→List Tok
 | 0,_,_,acc=>acc++[⟨1,s.size,ByteArray.empty⟩]
 | f+1,p,b,acc=>
  if p<s.size then
   if p<b∨blank (Utf8.decode s p).1=true then bj s f (p+(Utf8.decode s p).2) b acc
   else
    let t:=aN (s.extract p s.size) (Utf8.decode s p).1
    let Xl:=acc++[⟨t.1,p,s.extract p (p+t.2)⟩]
    if t.1=0 then Xl else bj s f (p+(Utf8.decode s p).2) (p+t.2) Xl
  else acc++[⟨1,s.size,ByteArray.empty⟩]
def split(s:ByteArray):List Tok:=bj s s.size 0 0 []
theorem pV(s:ByteArray)(f p b:Nat)(acc:List Tok)(h:¬p<s.size):bj s f p b acc=acc++[⟨1,s.size,ByteArray.empty⟩]:=by
 cases f<;>simp[bj,h]
theorem ia(s:ByteArray)(f p b:Nat)(acc:List Tok)(h:p<s.size)(hb:p<b∨blank (Utf8.decode s p).1=true):
 bj s (f+1) p b acc=bj s f (p+(Utf8.decode s p).2) b acc:=by
 simp only[bj,h,hb,if_true]
theorem nK(s:ByteArray)(f p b:Nat)(acc:List Tok)(h:p<s.size)(hb:¬(p<b∨blank (Utf8.decode s p).1=true))(k:Int)(n:Nat)(ht:aN (s.extract p s.size) (Utf8.decode s p).1=(k,n))(hk:k=0):
 bj s (f+1) p b acc=acc++[⟨k,p,s.extract p (p+n)⟩]:=by
 simp only[bj,h,hb,ht,hk,if_true,if_false]
theorem sC(s:ByteArray)(f p b:Nat)(acc:List Tok)(h:p<s.size)(hb:¬(p<b∨blank (Utf8.decode s p).1=true))(k:Int)(n:Nat)(ht:aN (s.extract p s.size) (Utf8.decode s p).1=(k,n))(hk:k≠0):
 bj s (f+1) p b acc=bj s f (p+(Utf8.decode s p).2) (p+n) (acc++[⟨k,p,s.extract p (p+n)⟩]):=by
 simp only[bj,h,hb,ht,hk,if_true,if_false]
theorem oq(s:ByteArray):∀f p n,(aR s f p n).1≤s.size
 | 0,_,_=>Nat.le_refl _
 | f+1,p,n=>by
  unfold aR
  split
  · split
    · simp;omega
    · exact oq s f _ _
  · exact Nat.le_refl _
theorem Is(s:ByteArray)(k:Int):(word s k).2≤s.size:=by
 unfold word
 simp only
 split
 · exact Nat.zero_le _
 · exact oq s _ _ _
theorem TR(s p:ByteArray)(h:pre s p=true):p.size≤s.size:=(List.isPrefixOf_iff_prefix.1 h).length_le
theorem Ds(s:ByteArray)(r:Int)(h:0<s.size):(aN s r).2≤s.size:=by
 unfold aN
 repeat' split
 any_goals (simp;omega;done)
 · rename_i h5;exact TR s _ h5
 · exact Is s _
 · exact Is s _
 · exact Nat.zero_le _
end Ax
/- Plain functions that mirror program's parser. No program here. -/
namespace Ax
def Ends(l:List Tok):Prop:=∃m t,l=m++[t]∧(t.kind=0∨t.kind=1)
theorem kL(s:ByteArray):∀f p b acc,Ends (bj s f p b acc)
 | 0,_,_,acc=>⟨acc,_,rfl,.inr rfl⟩
 | f+1,p,b,acc=>by
  unfold bj
  split
  · split
    · exact kL s f _ _ _
    · simp only
      split
      · rename_i h;exact⟨acc,_,rfl,.inl h⟩
      · exact kL s f _ _ _
  · exact⟨acc,_,rfl,.inr rfl⟩
theorem xv(s:ByteArray):Ends (split s):=kL s _ _ _ _
theorem ja(s:ByteArray):∀f p b acc,(bj s f p b acc).length≤acc.length+f+1
 | 0,_,_,acc=>by simp[bj]
 | f+1,p,b,acc=>by
  unfold bj
  split
  · split
    · have:=ja s f (p+(Utf8.decode s p).2) b acc;omega
    · simp only
      split
      · simp
      · have:=ja s f (p+(Utf8.decode s p).2) (p+(aN (s.extract p s.size) (Utf8.decode s p).1).2) (acc++[⟨(aN (s.extract p s.size) (Utf8.decode s p).1).1,p,s.extract p (p+(aN (s.extract p s.size) (Utf8.decode s p).1).2)⟩])
        simp only[List.length_append,List.length_singleton]at this
        omega
  · simp
theorem nr(s:ByteArray):(split s).length≤s.size+1:=by
 have:=ja s s.size 0 0 []
 simp only[List.length_nil,Nat.zero_add]at this
 exact this
theorem Ends.next{l:List Tok}(h:Ends l){k:Nat}(hk:k<l.length)(h0:l[k].kind≠0)(h1:l[k].kind≠1):k+1<l.length:=by
 obtain⟨m,t,rfl,ht⟩:=h
 simp only[List.length_append,List.length_singleton]at hk ⊢
 by_cases e:k=m.length
 · subst e
   simp at h0 h1
   omega
 · omega
structure Term where
 kind:Int
 text:ByteArray
structure Atom where
 at_:Nat
 pred:ByteArray
 ak:List Term
structure bD where
 head:Atom
 body:List Atom
def aM(ae:List Tok)(i:Nat):Int:=match ae[i]? with | some t=>t.kind | none=>0
theorem cZ{ae:List Tok}{i:Nat}{t:Tok}(h:ae[i]?=some t):aM ae i=t.kind:=by simp[aM,h]
def jU(ae:List Tok)(i:Nat):Option Term×Nat:=
 match ae[i]? with
 | some t=>if t.kind=2∨t.kind=3 then (some ⟨t.kind-2,t.text⟩,i+1)else (none,i)
 | none=>(none,i)
theorem xo{ae:List Tok}{i:Nat}{t:Tok}(h:ae[i]?=some t)(hk:t.kind=2∨t.kind=3):jU ae i=(some ⟨t.kind-2,t.text⟩,i+1):=by simp[jU,h,hk]
theorem F5{ae:List Tok}{i:Nat}{t:Tok}(h:ae[i]?=some t)(hk:¬(t.kind=2∨t.kind=3)):jU ae i=(none,i):=by simp[jU,h,hk]
def bX(ae:List Tok):Nat→Nat→List Term→Option (List Term)×Nat
 | 0,i,_=>(none,i)
 | f+1,i,acc=>
  match jU ae i with
  | (none,j)=>(none,j)
  | (some t,j)=>if aM ae j=6 then bX ae f (j+1) (acc++[t])else (some (acc++[t]),j)
theorem DK{ae:List Tok}{f i:Nat}{acc:List Term}(h:jU ae i=(none,i)):bX ae (f+1) i acc=(none,i):=by simp[bX,h]
theorem tR{ae:List Tok}{f i j:Nat}{acc:List Term}{t:Term}(h:jU ae i=(some t,j))(hk:aM ae j=6):bX ae (f+1) i acc=bX ae f (j+1) (acc++[t]):=by simp[bX,h,hk]
theorem oS{ae:List Tok}{f i j:Nat}{acc:List Term}{t:Term}(h:jU ae i=(some t,j))(hk:¬aM ae j=6):bX ae (f+1) i acc=(some (acc++[t]),j):=by simp[bX,h,hk]
theorem Mj{ae:List Tok}(he:Ends ae){i:Nat}(hi:i<ae.length):(jU ae i).2<ae.length:=by
 unfold jU
 split
 · rename_i t ht
   obtain⟨hl,e⟩:=List.getElem?_eq_some_iff.1 ht
   split
   · rename_i hk
     exact he.next hl (by rw[e];omega) (by rw[e];omega)
   · exact hi
 · exact hi
theorem pj{ae:List Tok}(he:Ends ae):∀(f i:Nat) (acc:List Term) {r:Option (List Term)} {j:Nat},i<ae.length→bX ae f i acc=(r,j)→j<ae.length
 | 0,i,acc,r,j,hi,h=>by simp[bX]at h;omega
 | f+1,i,acc,r,j,hi,h=>by
  have hl:=Mj he hi
  unfold bX at h
  split at h
  · rename_i j' e
    rw[e]at hl
    simp at h hl
    omega
  · rename_i t j' e
    rw[e]at hl
    simp only at hl
    split at h
    · rename_i hk
      refine pj he f (j'+1) _ ?_ h
      have ht:ae[j']?=some ae[j']:=List.getElem?_eq_getElem hl
      rw[cZ ht]at hk
      exact he.next hl (by omega) (by omega)
    · simp at h
      omega
def b8(ae:List Tok)(i:Nat):Option Atom×Nat:=
 match ae[i]? with
 | none=>(none,i)
 | some t=>
  if t.kind=2 then
   if aM ae (i+1)=4 then
    match bX ae ae.length (i+1+1) []with
    | (none,j)=>(none,j)
    | (some ts,j)=>if aM ae j=5 then (some ⟨t.at_,t.text,ts⟩,j+1)else (none,j)
   else (none,i+1)
  else (none,i)
theorem IC{ae:List Tok}{i:Nat}{t:Tok}(h:ae[i]?=some t)(hk:¬t.kind=2):b8 ae i=(none,i):=by simp[b8,h,hk]
theorem GX{ae:List Tok}{i:Nat}{t:Tok}(h:ae[i]?=some t)(hk:t.kind=2)(h4:¬aM ae (i+1)=4):b8 ae i=(none,i+1):=by simp[b8,h,hk,h4]
theorem IE{ae:List Tok}{i j:Nat}{t:Tok}(h:ae[i]?=some t)(hk:t.kind=2)(h4:aM ae (i+1)=4)(ht:bX ae ae.length (i+1+1) []=(none,j)):b8 ae i=(none,j):=by simp[b8,h,hk,h4,ht]
theorem Ib{ae:List Tok}{i j:Nat}{t:Tok}{ts:List Term}(h:ae[i]?=some t)(hk:t.kind=2)(h4:aM ae (i+1)=4)(ht:bX ae ae.length (i+1+1) []=(some ts,j))(h5:¬aM ae j=5):b8 ae i=(none,j):=by simp[b8,h,hk,h4,ht,h5]
theorem Bm{ae:List Tok}{i j:Nat}{t:Tok}{ts:List Term}(h:ae[i]?=some t)(hk:t.kind=2)(h4:aM ae (i+1)=4)(ht:bX ae ae.length (i+1+1) []=(some ts,j))(h5:aM ae j=5):b8 ae i=(some ⟨t.at_,t.text,ts⟩,j+1):=by simp[b8,h,hk,h4,ht,h5]
end Ax
/- Plain functions that mirror program's parser: atoms, rules. No program here. -/
namespace Ax
theorem kN{ae:List Tok}(he:Ends ae){i:Nat}{r:Option Atom}{j:Nat}(hi:i<ae.length)(h:b8 ae i=(r,j)):j<ae.length:=by
 have ht:ae[i]?=some ae[i]:=List.getElem?_eq_getElem hi
 by_cases h2:ae[i].kind=2
 case neg=>rw[IC ht h2]at h;simp at h;omega
 have yg:=he.next hi (by omega) (by omega)
 have ye:ae[i+1]?=some ae[i+1]:=List.getElem?_eq_getElem yg
 by_cases h4:aM ae (i+1)=4
 case neg=>rw[GX ht h2 h4]at h;simp at h;omega
 have h4':ae[i+1].kind=4:=by rw[cZ ye]at h4;exact h4
 have CL:=he.next yg (by omega) (by omega)
 rcases hR:bX ae ae.length (i+1+1) []with⟨_ | ts,j'⟩
 · have:=pj he _ _ _ CL hR
   rw[IE ht h2 h4 hR]at h;simp at h;omega
 · have hj:=pj he _ _ _ CL hR
   by_cases h5:aM ae j'=5
   · rw[Bm ht h2 h4 hR h5]at h
     have Ch:ae[j']?=some ae[j']:=List.getElem?_eq_getElem hj
     rw[cZ Ch]at h5
     have:=he.next hj (by omega) (by omega)
     simp at h;omega
   · rw[Ib ht h2 h4 hR h5]at h;simp at h;omega
def bV(ae:List Tok):Nat→Nat→List Atom→Option (List Atom)×Nat
 | 0,i,_=>(none,i)
 | f+1,i,acc=>
  match b8 ae i with
  | (none,j)=>(none,j)
  | (some t,j)=>if aM ae j=6 then bV ae f (j+1) (acc++[t])else (some (acc++[t]),j)
theorem jz{ae:List Tok}{f i j:Nat}{acc:List Atom}(h:b8 ae i=(none,j)):bV ae (f+1) i acc=(none,j):=by simp[bV,h]
theorem kj{ae:List Tok}{f i j:Nat}{acc:List Atom}{t:Atom}(h:b8 ae i=(some t,j))(hk:aM ae j=6):bV ae (f+1) i acc=bV ae f (j+1) (acc++[t]):=by simp[bV,h,hk]
theorem gL{ae:List Tok}{f i j:Nat}{acc:List Atom}{t:Atom}(h:b8 ae i=(some t,j))(hk:¬aM ae j=6):bV ae (f+1) i acc=(some (acc++[t]),j):=by simp[bV,h,hk]
theorem rD{ae:List Tok}{i j:Nat}{a:Atom}(h:b8 ae i=(some a,j)):i<j:=by
 have hT:∀f i acc r j,bX ae f i acc=(r,j)→i≤j:=by
  intro f
  induction f with
  | zero=>intro i acc r j h;simp[bX]at h;omega
  | succ f ih=>
   intro i acc r j h
   have hm:i≤(jU ae i).2:=by unfold jU;(split;(split<;>simp);simp)
   unfold bX at h
   split at h
   · rename_i j' e;rw[e]at hm;simp at h hm;omega
   · rename_i t j' e
     rw[e]at hm
     simp only at hm
     split at h
     · have:=ih _ _ _ _ h;omega
     · simp at h;omega
 unfold b8 at h
 split at h
 · simp at h
 · split at h
   · split at h
     · split at h
       · simp at h
       · rename_i ts j' e
         have:=hT _ _ _ _ _ e
         split at h
         · simp at h;omega
         · simp at h
     · simp at h
   · simp at h
theorem mG{ae:List Tok}(he:Ends ae):∀(f i:Nat) (acc:List Atom) {r:Option (List Atom)} {j:Nat},i<ae.length→bV ae f i acc=(r,j)→j<ae.length
 | 0,i,acc,r,j,hi,h=>by simp[bV]at h;omega
 | f+1,i,acc,r,j,hi,h=>by
  rcases hA:b8 ae i with⟨_ | a,j'⟩
  · have:=kN he hi hA
    rw[jz hA]at h;simp at h;omega
  · have hl:=kN he hi hA
    by_cases hk:aM ae j'=6
    · rw[kj hA hk]at h
      refine mG he f (j'+1) _ ?_ h
      have ht:ae[j']?=some ae[j']:=List.getElem?_eq_getElem hl
      rw[cZ ht]at hk
      exact he.next hl (by omega) (by omega)
    · rw[gL hA hk]at h;simp at h;omega
end Ax
/- Plain functions that mirror program's parser: rules. No program here. -/
namespace Ax
def eP(ae:List Tok)(i:Nat):Option bD×Nat:=
 match b8 ae i with
 | (none,j)=>(none,j)
 | (some a,j)=>
  if aM ae j=8 then
   match bV ae ae.length (j+1) []with
   | (none,j2)=>(none,j2)
   | (some b,j2)=>if aM ae j2=7 then (some ⟨a,b⟩,j2+1)else (none,j2)
  else if aM ae j=7 then (some ⟨a,[]⟩,j+1)else (none,j)
theorem oX{ae:List Tok}{i j:Nat}(hA:b8 ae i=(none,j)):eP ae i=(none,j):=by simp[eP,hA]
theorem o7{ae:List Tok}{i j j2:Nat}{a:Atom}(hA:b8 ae i=(some a,j))(h8:aM ae j=8)(hB:bV ae ae.length (j+1) []=(none,j2)):eP ae i=(none,j2):=by simp[eP,hA,h8,hB]
theorem po{ae:List Tok}{i j j2:Nat}{a:Atom}{b:List Atom}(hA:b8 ae i=(some a,j))(h8:aM ae j=8)(hB:bV ae ae.length (j+1) []=(some b,j2))(h7:¬aM ae j2=7):eP ae i=(none,j2):=by simp[eP,hA,h8,hB,h7]
theorem nh{ae:List Tok}{i j j2:Nat}{a:Atom}{b:List Atom}(hA:b8 ae i=(some a,j))(h8:aM ae j=8)(hB:bV ae ae.length (j+1) []=(some b,j2))(h7:aM ae j2=7):eP ae i=(some ⟨a,b⟩,j2+1):=by simp[eP,hA,h8,hB,h7]
theorem pv{ae:List Tok}{i j:Nat}{a:Atom}(hA:b8 ae i=(some a,j))(h8:¬aM ae j=8)(h7:¬aM ae j=7):eP ae i=(none,j):=by simp[eP,hA,h8,h7]
theorem nb{ae:List Tok}{i j:Nat}{a:Atom}(hA:b8 ae i=(some a,j))(h8:¬aM ae j=8)(h7:aM ae j=7):eP ae i=(some ⟨a,[]⟩,j+1):=by simp[eP,hA,h7]
theorem lZ{ae:List Tok}(he:Ends ae){j:Nat}(hj:j<ae.length){k:Int}(hk:aM ae j=k)(h2:2≤k):j+1<ae.length:=by
 have ht:ae[j]?=some ae[j]:=List.getElem?_eq_getElem hj
 rw[cZ ht]at hk
 exact he.next hj (by omega) (by omega)
theorem s8{ae:List Tok}:∀(f i:Nat) (acc:List Atom) {r:List Atom} {j:Nat},bV ae f i acc=(some r,j)→i<j
 | 0,i,acc,r,j,h=>by simp[bV]at h
 | f+1,i,acc,r,j,h=>by
  rcases hA:b8 ae i with⟨_ | a,j'⟩
  · rw[jz hA]at h;simp at h
  · have hl:=rD hA
    by_cases hk:aM ae j'=6
    · rw[kj hA hk]at h
      have:=s8 f (j'+1) _ h
      omega
    · rw[gL hA hk]at h;simp at h;omega
theorem Cx{ae:List Tok}(he:Ends ae){i:Nat}{r:Option bD}{j:Nat}(hi:i<ae.length)(h:eP ae i=(r,j)):j<ae.length∧(r≠none→i<j):=by
 rcases hA:b8 ae i with⟨_ | a,j1⟩
 · have:=kN he hi hA
   rw[oX hA]at h;simp at h
   exact⟨by omega,fun hn=>absurd h.1.symm hn⟩
 · have Su:=kN he hi hA
   have hg:=rD hA
   by_cases h8:aM ae j1=8
   · have hn:=lZ he Su h8 (by omega)
     rcases hB:bV ae ae.length (j1+1) []with⟨_ | b,j2⟩
     · have:=mG he _ _ _ hn hB
       rw[o7 hA h8 hB]at h;simp at h
       exact⟨by omega,fun hn=>absurd h.1.symm hn⟩
     · have h2:=mG he _ _ _ hn hB
       have h3:j1+1<j2:=s8 _ _ _ hB
       by_cases h7:aM ae j2=7
       · have:=lZ he h2 h7 (by omega)
         rw[nh hA h8 hB h7]at h;simp at h
         exact⟨by omega,fun _=>by omega⟩
       · rw[po hA h8 hB h7]at h;simp at h
         exact⟨by omega,fun hn=>absurd h.1.symm hn⟩
   · by_cases h7:aM ae j1=7
     · have:=lZ he Su h7 (by omega)
       rw[nb hA h8 h7]at h;simp at h
       exact⟨by omega,fun _=>by omega⟩
     · rw[pv hA h8 h7]at h;simp at h
       exact⟨by omega,fun hn=>absurd h.1.symm hn⟩
def cU(ae:List Tok):Nat→Nat→List bD→Option (List bD)×Nat
 | 0,i,_=>(none,i)
 | f+1,i,acc=>
  if aM ae i=1 then (some acc,i)
  else match eP ae i with
   | (none,j)=>(none,j)
   | (some r,j)=>cU ae f j (acc++[r])
theorem na{ae:List Tok}{f i:Nat}{acc:List bD}(h:aM ae i=1):cU ae (f+1) i acc=(some acc,i):=by simp[cU,h]
theorem oE{ae:List Tok}{f i j:Nat}{acc:List bD}(h1:¬aM ae i=1)(h:eP ae i=(none,j)):cU ae (f+1) i acc=(none,j):=by simp[cU,h1,h]
theorem pz{ae:List Tok}{f i j:Nat}{acc:List bD}{r:bD}(h1:¬aM ae i=1)(h:eP ae i=(some r,j)):cU ae (f+1) i acc=cU ae f j (acc++[r]):=by simp[cU,h1,h]
end Ax
/- Plain functions that mirror program's limits. No program here. -/
namespace Ax
def has(l:List ByteArray)(v:ByteArray):Bool:=l.any fun x=>decide (v=x)
theorem Ht(l:List ByteArray)(v:ByteArray):has l v=true↔v∈l:=by simp[has]
def Term.beq(s t:Term):Bool:=decide (s.kind=t.kind)&&decide (s.text=t.text)
theorem Term.beq_iff(s t:Term):s.beq t=true↔s=t:=by
 rcases s with⟨a,b⟩
 rcases t with⟨c,d⟩
 simp[Term.beq]
def jm(l:List Term)(v:Term):Bool:=l.any fun x=>v.beq x
theorem uK(l:List Term)(v:Term):jm l v=true↔v∈l:=by
 simp only[jm,List.any_eq_true,Term.beq_iff]
 exact⟨fun ⟨x,h,e⟩=>e▸h,fun h=>⟨v,h,rfl⟩⟩
def bD.atoms(r:bD):List Atom:=r.head::r.body
def de(ps:List ByteArray):List Atom→List ByteArray
 | []=>ps
 | a::l=>de (if has ps a.pred then ps else ps++[a.pred]) l
def wide(a:Atom):Bool:=decide (3<a.ak.length)
def jj(l:List Atom):Bool:=l.any fun x=>wide x
def mZ(l:List Atom)(t:Term):Bool:=l.any fun x=>jm x.ak t
def gC(i:Nat)(ps:List ByteArray)(r:bD):Bool:=decide (8≤i)||decide (2<r.body.length)||decide (6<ps.length)||jj r.atoms
def dd:Nat→List ByteArray→List bD→Option Nat
 | _,_,[]=>none
 | i,ps,r::l=>if gC i (de ps r.atoms) r then some r.head.at_ else dd (i+1) (de ps r.atoms) l
abbrev abO:=List (ByteArray×Nat)
end Ax
/- Plain functions that mirror program's limits: openHead, twoArities, Read. No program here. -/
namespace Ax
def ib(b:List Atom)(t:Term):Bool:=decide (t.kind=1)&& !mZ b t
def lU(r:bD):Bool:=r.head.ak.any fun t=>ib r.body t
def cK:List bD→Option Nat
 | []=>none
 | r::l=>if lU r then some r.head.at_ else cK l
def look(m:List (ByteArray×Nat))(p:ByteArray):Option Nat:=(m.find? fun x=>decide (x.1=p)).map Prod.snd
def eN(m:List (ByteArray×Nat)):List Atom→Option Nat
 | []=>none
 | a::l=>
  match look m a.pred with
  | some n=>if n=a.ak.length then eN m l else some a.at_
  | none=>eN ((a.pred,a.ak.length)::m) l
def read(s:ByteArray):ByteArray×Int×Nat:=
 if 600<s.size then (ByteArray.empty,1,0)
 else match cU (split s) (split s).length 0 []with
  | (none,j)=>(ByteArray.empty,2,((split s)[j]?.map Tok.at_).getD 0)
  | (some rs,_)=>
   match dd 0 [] rs with
   | some p=>(ByteArray.empty,3,p)
   | none=>match eN [] (rs.flatMap bD.atoms)with
    | some p=>(ByteArray.empty,4,p)
    | none=>match cK rs with
     | some p=>(ByteArray.empty,5,p)
     | none=>(⟨((split s).flatMap fun t=>t.text.data.toList).toArray⟩,0,0)
end Ax
/- Bounds on what split and the parser give; Read's answers by cases. No program here. -/
namespace Ax
theorem kH(s:ByteArray):∀f p b acc,(∀t,t∈acc→t.text.size≤s.size)→∀t,t∈bj s f p b acc→t.text.size≤s.size
 | 0,_,_,acc,h=>by
  intro t ht
  simp only[bj,List.mem_append,List.mem_singleton]at ht
  rcases ht with ht | rfl
  · exact h t ht
  · exact Nat.zero_le _
 | f+1,p,b,acc,h=>by
  unfold bj
  have hx:∀(k:Int) (n:Nat),∀t,t∈acc++[⟨k,p,s.extract p (p+n)⟩]→t.text.size≤s.size:=by
   intro k n t ht
   simp only[List.mem_append,List.mem_singleton]at ht
   rcases ht with ht | rfl
   · exact h t ht
   · simp only[ByteArray.size_extract];omega
  split
  · split
    · exact kH s f _ _ _ h
    · simp only
      split
      · exact hx _ _
      · exact kH s f _ _ _ (hx _ _)
  · intro t ht
    simp only[List.mem_append,List.mem_singleton]at ht
    rcases ht with ht | rfl
    · exact h t ht
    · exact Nat.zero_le _
theorem wG(s:ByteArray):∀t,t∈split s→t.text.size≤s.size:=kH s _ _ _ _ (fun _ h=>by cases h)
theorem vH{ae:List Tok}{M:Nat}(h:∀t,t∈ae→t.text.size≤M){i j:Nat}{a:Atom}(ha:b8 ae i=(some a,j)):a.pred.size≤M:=by
 unfold b8 at ha
 split at ha
 · simp at ha
 · rename_i t ht
   have hm:=h t (List.mem_of_getElem? ht)
   split at ha
   · split at ha
     · split at ha
       · simp at ha
       · split at ha
         · simp at ha;rw[←ha.1];exact hm
         · simp at ha
     · simp at ha
   · simp at ha
theorem p6{ae:List Tok}{M:Nat}(h:∀t,t∈ae→t.text.size≤M):∀(f i:Nat) (acc:List Atom) {r:List Atom} {j:Nat},(∀a,a∈acc→a.pred.size≤M)→bV ae f i acc=(some r,j)→(∀a,a∈r→a.pred.size≤M)∧r.length≤acc.length+f
 | 0,i,acc,r,j,hacc,hr=>by simp[bV]at hr
 | f+1,i,acc,r,j,hacc,hr=>by
  rcases hA:b8 ae i with⟨_ | a,j'⟩
  · rw[jz hA]at hr;simp at hr
  · have hp:=vH h hA
    have SG:∀x,x∈acc++[a]→x.pred.size≤M:=by
     intro x hx
     rcases List.mem_append.1 hx with hx | hx
     · exact hacc x hx
     · simp at hx;subst hx;exact hp
    by_cases hk:aM ae j'=6
    · rw[kj hA hk]at hr
      have:=p6 h f (j'+1) _ SG hr
      simp only[List.length_append,List.length_singleton]at this
      exact⟨this.1,by omega⟩
    · rw[gL hA hk]at hr
      simp only[Prod.mk.injEq,Option.some.injEq]at hr
      rw[←hr.1]
      exact⟨SG,by simp⟩
def Fits(M n:Nat)(r:bD):Prop:=r.body.length≤n∧∀a,a∈r.atoms→a.pred.size≤M
theorem Fs{ae:List Tok}{M:Nat}(h:∀t,t∈ae→t.text.size≤M){i j:Nat}{r:bD}(hr:eP ae i=(some r,j)):Fits M ae.length r:=by
 rcases hA:b8 ae i with⟨_ | a,j1⟩
 · rw[oX hA]at hr;simp at hr
 · have hp:=vH h hA
   by_cases h8:aM ae j1=8
   · rcases hB:bV ae ae.length (j1+1) []with⟨_ | b,j2⟩
     · rw[o7 hA h8 hB]at hr;simp at hr
     · obtain⟨hb,ff⟩:=p6 h _ _ _ (fun _ h=>by cases h) hB
       by_cases h7:aM ae j2=7
       · rw[nh hA h8 hB h7]at hr
         simp only[Prod.mk.injEq,Option.some.injEq]at hr
         rw[←hr.1]
         refine⟨by simpa using ff, ?_⟩
         intro x hx
         rcases List.mem_cons.1 hx with rfl | hx
         · exact hp
         · exact hb x hx
       · rw[po hA h8 hB h7]at hr;simp at hr
   · by_cases h7:aM ae j1=7
     · rw[nb hA h8 h7]at hr
       simp only[Prod.mk.injEq,Option.some.injEq]at hr
       rw[←hr.1]
       refine⟨Nat.zero_le _, ?_⟩
       intro x hx
       rcases List.mem_cons.1 hx with rfl | hx
       · exact hp
       · cases hx
     · rw[pv hA h8 h7]at hr;simp at hr
theorem uG{ae:List Tok}{M:Nat}(h:∀t,t∈ae→t.text.size≤M):∀(f i:Nat) (acc:List bD) {rs:List bD} {j:Nat},(∀r,r∈acc→Fits M ae.length r)→cU ae f i acc=(some rs,j)→(∀r,r∈rs→Fits M ae.length r)∧rs.length≤acc.length+f
 | 0,i,acc,rs,j,hacc,hr=>by simp[cU]at hr
 | f+1,i,acc,rs,j,hacc,hr=>by
  by_cases h1:aM ae i=1
  · rw[na h1]at hr
    simp only[Prod.mk.injEq,Option.some.injEq]at hr
    rw[←hr.1]
    exact⟨hacc,by omega⟩
  · rcases hR:eP ae i with⟨_ | r,j'⟩
    · rw[oE h1 hR]at hr;simp at hr
    · rw[pz h1 hR]at hr
      have hf:=Fs h hR
      have:=uG h f j' (acc++[r]) (by
       intro x hx
       rcases List.mem_append.1 hx with hx | hx
       · exact hacc x hx
       · simp at hx;subst hx;exact hf) hr
      simp only[List.length_append,List.length_singleton]at this
      exact⟨this.1,by omega⟩
theorem IP(s:ByteArray):0<(split s).length:=by
 obtain⟨m,t,e,_⟩:=xv s
 rw[e];simp
def plain(s:ByteArray):ByteArray:=⟨((split s).flatMap fun t=>t.text.data.toList).toArray⟩
theorem U1{s:ByteArray}(h:¬600<s.size){rs:List bD}{j p:Nat}(hr:cU (split s) (split s).length 0 []=(some rs,j))(h3:dd 0 [] rs=some p):read s=(ByteArray.empty,3,p):=by simp[read,h,hr,h3]
theorem Up{s:ByteArray}(h:¬600<s.size){rs:List bD}{j p:Nat}(hr:cU (split s) (split s).length 0 []=(some rs,j))(h3:dd 0 [] rs=none)(h4:eN [] (rs.flatMap bD.atoms)=some p):read s=(ByteArray.empty,4,p):=by simp[read,h,hr,h3,h4]
theorem UQ{s:ByteArray}(h:¬600<s.size){rs:List bD}{j p:Nat}(hr:cU (split s) (split s).length 0 []=(some rs,j))(h3:dd 0 [] rs=none)(h4:eN [] (rs.flatMap bD.atoms)=none)(h5:cK rs=some p):read s=(ByteArray.empty,5,p):=by simp[read,h,hr,h3,h4,h5]
theorem MH{s:ByteArray}(h:¬600<s.size){rs:List bD}{j:Nat}(hr:cU (split s) (split s).length 0 []=(some rs,j))(h3:dd 0 [] rs=none)(h4:eN [] (rs.flatMap bD.atoms)=none)(h5:cK rs=none):read s=(plain s,0,0):=by simp[read,plain,h,hr,h3,h4,h5]
end Ax
/- Plain functions that mirror the reference's scanner. No program here. -/
namespace Ax
def byte(s:ByteArray)(k:Nat):Nat:=(s.get! k).toNat
theorem px(s:ByteArray)(k:Nat):byte s k<256:=(s.get! k).toNat_lt
theorem ic(s:ByteArray)(k:Nat)(h:k<s.size):(s[k]'h).toNat=byte s k:=by
 unfold byte
 have e:s.get! k=s[k]'h:=by
  simp[ByteArray.get!,getElem!_pos,h]
  rfl
 rw[e]
def jA(s:ByteArray)(i:Nat):Nat→Nat→Nat→Option Nat
 | 0,_,c=>some c
 | m+1,k,c=>if s.size≤i+k∨byte s (i+k)<128∨191<byte s (i+k)then none else jA s i m (k+1) (c*64+byte s (i+k)-128)
def oO(n lo:Nat):Option Nat→Nat×Nat
 | none=>(0,0)
 | some c=>if c<lo∨1114111<c∨(55296≤c∧c≤57343)then (0,0)else (c,n)
def pt(s:ByteArray)(i:Nat):Nat×Nat:=
 let c:=byte s i
 if c<128 then (c,1)else if c<192 then (0,0)
 else if c<224 then oO 2 128 (jA s i 1 1 (c-192))
 else if c<240 then oO 3 2048 (jA s i 2 1 (c-224))
 else if c<248 then oO 4 65536 (jA s i 3 1 (c-240))
 else (0,0)
def mQ(c:Int):Bool:=(decide (97≤c)&&decide (c≤122))||decide (224≤c)
def qg(s:ByteArray)(i n:Nat):Bool:=
 decide (0<(pt s i).2)&&(mQ (pt s i).1||(decide (n=0)&&decide (65≤(pt s i).1)&&decide ((pt s i).1≤90))||(decide (0<n)&&decide (48≤(pt s i).1)&&decide ((pt s i).1≤57)))
def cl(s:ByteArray):Nat→Nat→Nat→Nat×Nat
 | 0,i,n=>(i,n)
 | f+1,i,n=>if i<s.size then (if qg s i n then cl s f (i+(pt s i).2) (n+1)else (i,n))else (i,n)
theorem l7{s:ByteArray}{f i n:Nat}(h:¬i<s.size):cl s f i n=(i,n):=by cases f<;>simp[cl,h]
theorem iZ{s:ByteArray}{f i n:Nat}(hk:qg s i n=false):cl s f i n=(i,n):=by cases f<;>simp[cl,hk]
theorem mE{s:ByteArray}{f i n:Nat}(h:i<s.size)(hk:qg s i n=true):cl s (f+1) i n=cl s f (i+(pt s i).2) (n+1):=by simp[cl,h,hk]
theorem DG(s:ByteArray)(i:Nat):∀m k c c',i+k≤s.size→jA s i m k c=some c'→i+k+m≤s.size
 | 0,k,c,c',h,_=>h
 | m+1,k,c,c',h,hr=>by
  unfold jA at hr
  split at hr
  · simp at hr
  · rename_i hn
    have:=DG s i m (k+1) _ _ (by omega) hr
    omega
theorem PC{s:ByteArray}{i n lo:Nat}(m:Nat)(c:Nat)(hn:n=m+1)(h:i<s.size):i+(oO n lo (jA s i m 1 c)).2≤s.size:=by
 cases hr:jA s i m 1 c with
 | none=>simp[oO];omega
 | some c'=>
  have:=DG s i m 1 c c' (by omega) hr
  simp only[oO]
  split
  · simp;omega
  · simp;omega
theorem SI(s:ByteArray)(i:Nat)(h:i<s.size):i+(pt s i).2≤s.size:=by
 unfold pt
 simp only
 repeat' split
 all_goals first | exact PC _ _ rfl h | (simp;omega)
theorem G7{s:ByteArray}{i n:Nat}(h:qg s i n=true):0<(pt s i).2:=by
 simp only[qg,Bool.and_eq_true,decide_eq_true_eq]at h
 exact h.1
end Ax
/- Plain functions that mirror the reference's tokens. No program here. -/
namespace Ax
def tC(s:ByteArray)(a:Nat):Bool:=decide (byte s a=32)||decide (byte s a=10)
def kP(s:ByteArray):Nat→Nat→Nat
 | 0,a=>a
 | f+1,a=>if a<s.size∧tC s a=true then kP s f (a+1)else a
structure tr where
 kind:Nat
 text:ByteArray
 at_:Nat
def dR(s:ByteArray)(a:Nat):tr:=
 let x:=cl s s.size a 0
 let c:=byte s a
 if a=s.size then ⟨101,⟨#[]⟩,a⟩
 else if 6<x.2 then ⟨120,⟨#[]⟩,a⟩
 else if 0<x.2∧65≤c∧c≤90 then ⟨118,s.extract a x.1,a⟩
 else if 0<x.2 then ⟨110,s.extract a x.1,a⟩
 else if c=40∨c=41∨c=44∨c=46 then ⟨c,s.extract a (a+1),a⟩
 else if c=58∧a+1<s.size∧byte s (a+1)=45 then ⟨58,⟨#[58,45]⟩,a⟩
 else ⟨120,⟨#[]⟩,a⟩
def nt(s:ByteArray)(a:Nat):tr:=dR s (kP s s.size a)
theorem Cu{s:ByteArray}{f a:Nat}(h:a<s.size)(hb:tC s a=true):kP s (f+1) a=kP s f (a+1):=by simp[kP,h,hb]
theorem fB{s:ByteArray}{f a:Nat}(h:¬(a<s.size∧tC s a=true)):kP s f a=a:=by
 cases f with
 | zero=>rfl
 | succ f=>simp only[kP,if_neg h]
theorem xn(s:ByteArray):∀f i n,i≤(cl s f i n).1
 | 0,i,n=>Nat.le_refl _
 | f+1,i,n=>by
  unfold cl
  split
  · split
    · have:=xn s f (i+(pt s i).2) (n+1);omega
    · exact Nat.le_refl _
  · exact Nat.le_refl _
theorem CD(s:ByteArray):∀f i n,i≤s.size→(cl s f i n).1≤s.size
 | 0,i,n,h=>h
 | f+1,i,n,h=>by
  unfold cl
  split
  · rename_i hi
    split
    · exact CD s f _ _ (SI s i hi)
    · exact h
  · exact h
end Ax
/- The reference's tokens as a list. No program here. -/
namespace Ax
def jk(s:ByteArray):Nat→Nat→List tr→List tr
 | 0,_,acc=>acc
 | f+1,a,acc=>if (nt s a).kind=101∨(nt s a).kind=120 then acc++[nt s a]else jk s f ((nt s a).at_+(nt s a).text.size) (acc++[nt s a])
def N4(s:ByteArray):List tr:=jk s (s.size+1) 0 []
theorem oo{s:ByteArray}{f a:Nat}{acc:List tr}{t:tr}(h:nt s a=t)(hk:t.kind=101∨t.kind=120):jk s (f+1) a acc=acc++[t]:=by simp[jk,h,hk]
theorem xg{s:ByteArray}{f a:Nat}{acc:List tr}{t:tr}(h:nt s a=t)(hk:¬(t.kind=101∨t.kind=120)):jk s (f+1) a acc=jk s f (t.at_+t.text.size) (acc++[t]):=by simp[jk,h,hk]
theorem GW(s:ByteArray):∀f i n,(cl s f i n).2+i≤(cl s f i n).1+n
 | 0,i,n=>by simp[cl];omega
 | f+1,i,n=>by
  unfold cl
  split
  · split
    · rename_i hk
      have:=GW s f (i+(pt s i).2) (n+1)
      have:=G7 hk
      omega
    · simp;omega
  · simp;omega
end Ax
end Go.Proofs.YtdmicblafmhflaaGreatDoor
