/- Plain functions that mirror program's scanner, on byte arrays. No program here. -/
import Derived.Laws.RangeString
import Derived.Laws.RangeAny
import Derived.Lib.DecodeN
set_option linter.unusedSimpArgs false
set_option linter.unusedVariables false
namespace Go.Proofs.YtdmicblafmhflaaGreatDoor
namespace Ax
def pre(s p:ByteArray):Bool:=p.data.toList.isPrefixOf s.data.toList
def digit(r:Int):Bool:=decide (48≤r)&&decide (r≤57)
def eT(r:Int):Bool:=decide (65≤r)&&decide (r≤90)
def blank(r:Int):Bool:=r==32||r==10
def small(rest:ByteArray)(r:Int):Bool:=
 if r=65533 then pre rest ⟨#[239,191,189]⟩else (decide (97≤r)&&decide (r≤122))||decide (224≤r)
def tail(s:ByteArray)(p:Nat):ByteArray:=s.extract p s.size
def stops(rest:ByteArray)(p:Nat):Bool:=
 decide (0<p)&& !small (tail rest p) (Utf8.decode rest p).1&& !digit (Utf8.decode rest p).1
def aS(rest:ByteArray):Nat→Nat→Nat→Nat×Nat
 | 0,_,n=>(rest.size,n)
 | f+1,p,n=>if p<rest.size then (if stops rest p then (p,n)else aS rest f (p+(Utf8.decode rest p).2) (n+1))else (rest.size,n)
def word(rest:ByteArray)(kind:Int):Int×Nat:=
 let x:=aS rest rest.size 0 0
 if 6<x.2 then (0,0)else (kind,x.1)
def aK(rest:ByteArray)(r:Int):Int×Nat:=
 if r=40 then (4,1)else if r=41 then (5,1)else if r=44 then (6,1)else if r=46 then (7,1)
 else if pre rest ⟨#[58,45]⟩then (8,2)
 else if small rest r then word rest 2
 else if eT r then word rest 3
 else (0,0)
structure Tok where
 kind:Int
 at_:Nat
 text:ByteArray
def aV(s:ByteArray):Nat→Nat→Nat→List Tok→List Tok
 | 0,_,_,acc=>acc++[⟨1,s.size,ByteArray.empty⟩]
 | f+1,p,b,acc=>
  if p<s.size then
   if p<b∨blank (Utf8.decode s p).1=true then aV s f (p+(Utf8.decode s p).2) b acc
   else
    let t:=aK (s.extract p s.size) (Utf8.decode s p).1
    let Xv:=acc++[⟨t.1,p,s.extract p (p+t.2)⟩]
    if t.1=0 then Xv else aV s f (p+(Utf8.decode s p).2) (p+t.2) Xv
  else acc++[⟨1,s.size,ByteArray.empty⟩]
def split(s:ByteArray):List Tok:=aV s s.size 0 0 []
theorem pO(s:ByteArray)(f p b:Nat)(acc:List Tok)(h:¬p<s.size):aV s f p b acc=acc++[⟨1,s.size,ByteArray.empty⟩]:=by
 cases f<;>simp[aV,h]
theorem iq(s:ByteArray)(f p b:Nat)(acc:List Tok)(h:p<s.size)(hb:p<b∨blank (Utf8.decode s p).1=true):
 aV s (f+1) p b acc=aV s f (p+(Utf8.decode s p).2) b acc:=by
 simp only[aV,h,hb,if_true]
theorem nQ(s:ByteArray)(f p b:Nat)(acc:List Tok)(h:p<s.size)(hb:¬(p<b∨blank (Utf8.decode s p).1=true))(k:Int)(n:Nat)(ht:aK (s.extract p s.size) (Utf8.decode s p).1=(k,n))(hk:k=0):
 aV s (f+1) p b acc=acc++[⟨k,p,s.extract p (p+n)⟩]:=by
 simp only[aV,h,hb,ht,hk,if_true,if_false]
theorem nk(s:ByteArray)(f p b:Nat)(acc:List Tok)(h:p<s.size)(hb:¬(p<b∨blank (Utf8.decode s p).1=true))(k:Int)(n:Nat)(ht:aK (s.extract p s.size) (Utf8.decode s p).1=(k,n))(hk:k≠0):
 aV s (f+1) p b acc=aV s f (p+(Utf8.decode s p).2) (p+n) (acc++[⟨k,p,s.extract p (p+n)⟩]):=by
 simp only[aV,h,hb,ht,hk,if_true,if_false]
theorem oW(s:ByteArray):∀f p n,(aS s f p n).1≤s.size
 | 0,_,_=>Nat.le_refl _
 | f+1,p,n=>by
  unfold aS
  split
  · split
    · simp;omega
    · exact oW s f _ _
  · exact Nat.le_refl _
theorem IQ(s:ByteArray)(k:Int):(word s k).2≤s.size:=by
 unfold word
 simp only
 split
 · exact Nat.zero_le _
 · exact oW s _ _ _
theorem MM(s p:ByteArray)(h:pre s p=true):p.size≤s.size:=(List.isPrefixOf_iff_prefix.1 h).length_le
theorem De(s:ByteArray)(r:Int)(h:0<s.size):(aK s r).2≤s.size:=by
 unfold aK
 repeat' split
 any_goals (simp;omega;done)
 · rename_i h5;exact MM s _ h5
 · exact IQ s _
 · exact IQ s _
 · exact Nat.zero_le _
end Ax
/- Plain functions that mirror program's parser. No program here. -/
namespace Ax
def Ends(l:List Tok):Prop:=∃m t,l=m++[t]∧(t.kind=0∨t.kind=1)
theorem kz(s:ByteArray):∀f p b acc,Ends (aV s f p b acc)
 | 0,_,_,acc=>⟨acc,_,rfl,.inr rfl⟩
 | f+1,p,b,acc=>by
  unfold aV
  split
  · split
    · exact kz s f _ _ _
    · simp only
      split
      · rename_i h;exact⟨acc,_,rfl,.inl h⟩
      · exact kz s f _ _ _
  · exact⟨acc,_,rfl,.inr rfl⟩
theorem qw(s:ByteArray):Ends (split s):=kz s _ _ _ _
theorem iJ(s:ByteArray):∀f p b acc,(aV s f p b acc).length≤acc.length+f+1
 | 0,_,_,acc=>by simp[aV]
 | f+1,p,b,acc=>by
  unfold aV
  split
  · split
    · have:=iJ s f (p+(Utf8.decode s p).2) b acc;omega
    · simp only
      split
      · simp
      · have:=iJ s f (p+(Utf8.decode s p).2) (p+(aK (s.extract p s.size) (Utf8.decode s p).1).2) (acc++[⟨(aK (s.extract p s.size) (Utf8.decode s p).1).1,p,s.extract p (p+(aK (s.extract p s.size) (Utf8.decode s p).1).2)⟩])
        simp only[List.length_append,List.length_singleton]at this
        omega
  · simp
theorem ie(s:ByteArray):(split s).length≤s.size+1:=by
 have:=iJ s s.size 0 0 []
 simp only[List.length_nil,Nat.zero_add]at this
 exact this
theorem Ends.next{l:List Tok}(h:Ends l){k:Nat}(hk:k<l.length)(h0:l[k].kind≠0)(h1:l[k].kind≠1):k+1<l.length:=by
 obtain⟨m,t,rfl,ht⟩:=h
 simp only[List.length_append,List.length_singleton]at hk ⊢
 by_cases e:k=m.length
 · subst e
   simp at h0 h1
   omega
 · omega
structure Term where
 kind:Int
 text:ByteArray
structure Atom where
 at_:Nat
 pred:ByteArray
 ag:List Term
structure br where
 head:Atom
 body:List Atom
def aN(aa:List Tok)(i:Nat):Int:=match aa[i]? with | some t=>t.kind | none=>0
theorem cP{aa:List Tok}{i:Nat}{t:Tok}(h:aa[i]?=some t):aN aa i=t.kind:=by simp[aN,h]
def jS(aa:List Tok)(i:Nat):Option Term×Nat:=
 match aa[i]? with
 | some t=>if t.kind=2∨t.kind=3 then (some ⟨t.kind-2,t.text⟩,i+1)else (none,i)
 | none=>(none,i)
theorem xw{aa:List Tok}{i:Nat}{t:Tok}(h:aa[i]?=some t)(hk:t.kind=2∨t.kind=3):jS aa i=(some ⟨t.kind-2,t.text⟩,i+1):=by simp[jS,h,hk]
theorem GA{aa:List Tok}{i:Nat}{t:Tok}(h:aa[i]?=some t)(hk:¬(t.kind=2∨t.kind=3)):jS aa i=(none,i):=by simp[jS,h,hk]
def bZ(aa:List Tok):Nat→Nat→List Term→Option (List Term)×Nat
 | 0,i,_=>(none,i)
 | f+1,i,acc=>
  match jS aa i with
  | (none,j)=>(none,j)
  | (some t,j)=>if aN aa j=6 then bZ aa f (j+1) (acc++[t])else (some (acc++[t]),j)
theorem Ef{aa:List Tok}{f i:Nat}{acc:List Term}(h:jS aa i=(none,i)):bZ aa (f+1) i acc=(none,i):=by simp[bZ,h]
theorem tK{aa:List Tok}{f i j:Nat}{acc:List Term}{t:Term}(h:jS aa i=(some t,j))(hk:aN aa j=6):bZ aa (f+1) i acc=bZ aa f (j+1) (acc++[t]):=by simp[bZ,h,hk]
theorem oh{aa:List Tok}{f i j:Nat}{acc:List Term}{t:Term}(h:jS aa i=(some t,j))(hk:¬aN aa j=6):bZ aa (f+1) i acc=(some (acc++[t]),j):=by simp[bZ,h,hk]
theorem Oe{aa:List Tok}(he:Ends aa){i:Nat}(hi:i<aa.length):(jS aa i).2<aa.length:=by
 unfold jS
 split
 · rename_i t ht
   obtain⟨hl,e⟩:=List.getElem?_eq_some_iff.1 ht
   split
   · rename_i hk
     exact he.next hl (by rw[e];omega) (by rw[e];omega)
   · exact hi
 · exact hi
theorem pq{aa:List Tok}(he:Ends aa):∀(f i:Nat) (acc:List Term) {r:Option (List Term)} {j:Nat},i<aa.length→bZ aa f i acc=(r,j)→j<aa.length
 | 0,i,acc,r,j,hi,h=>by simp[bZ]at h;omega
 | f+1,i,acc,r,j,hi,h=>by
  have hl:=Oe he hi
  unfold bZ at h
  split at h
  · rename_i j' e
    rw[e]at hl
    simp at h hl
    omega
  · rename_i t j' e
    rw[e]at hl
    simp only at hl
    split at h
    · rename_i hk
      refine pq he f (j'+1) _ ?_ h
      have ht:aa[j']?=some aa[j']:=List.getElem?_eq_getElem hl
      rw[cP ht]at hk
      exact he.next hl (by omega) (by omega)
    · simp at h
      omega
def b9(aa:List Tok)(i:Nat):Option Atom×Nat:=
 match aa[i]? with
 | none=>(none,i)
 | some t=>
  if t.kind=2 then
   if aN aa (i+1)=4 then
    match bZ aa aa.length (i+1+1) []with
    | (none,j)=>(none,j)
    | (some ts,j)=>if aN aa j=5 then (some ⟨t.at_,t.text,ts⟩,j+1)else (none,j)
   else (none,i+1)
  else (none,i)
theorem BW{aa:List Tok}{i:Nat}{t:Tok}(h:aa[i]?=some t)(hk:¬t.kind=2):b9 aa i=(none,i):=by simp[b9,h,hk]
theorem Iu{aa:List Tok}{i:Nat}{t:Tok}(h:aa[i]?=some t)(hk:t.kind=2)(h4:¬aN aa (i+1)=4):b9 aa i=(none,i+1):=by simp[b9,h,hk,h4]
theorem Ie{aa:List Tok}{i j:Nat}{t:Tok}(h:aa[i]?=some t)(hk:t.kind=2)(h4:aN aa (i+1)=4)(ht:bZ aa aa.length (i+1+1) []=(none,j)):b9 aa i=(none,j):=by simp[b9,h,hk,h4,ht]
theorem Hy{aa:List Tok}{i j:Nat}{t:Tok}{ts:List Term}(h:aa[i]?=some t)(hk:t.kind=2)(h4:aN aa (i+1)=4)(ht:bZ aa aa.length (i+1+1) []=(some ts,j))(h5:¬aN aa j=5):b9 aa i=(none,j):=by simp[b9,h,hk,h4,ht,h5]
theorem Bz{aa:List Tok}{i j:Nat}{t:Tok}{ts:List Term}(h:aa[i]?=some t)(hk:t.kind=2)(h4:aN aa (i+1)=4)(ht:bZ aa aa.length (i+1+1) []=(some ts,j))(h5:aN aa j=5):b9 aa i=(some ⟨t.at_,t.text,ts⟩,j+1):=by simp[b9,h,hk,h4,ht,h5]
end Ax
/- Plain functions that mirror program's parser: atoms, rules. No program here. -/
namespace Ax
theorem kJ{aa:List Tok}(he:Ends aa){i:Nat}{r:Option Atom}{j:Nat}(hi:i<aa.length)(h:b9 aa i=(r,j)):j<aa.length:=by
 have ht:aa[i]?=some aa[i]:=List.getElem?_eq_getElem hi
 by_cases h2:aa[i].kind=2
 case neg=>rw[BW ht h2]at h;simp at h;omega
 have yw:=he.next hi (by omega) (by omega)
 have uk:aa[i+1]?=some aa[i+1]:=List.getElem?_eq_getElem yw
 by_cases h4:aN aa (i+1)=4
 case neg=>rw[Iu ht h2 h4]at h;simp at h;omega
 have h4':aa[i+1].kind=4:=by rw[cP uk]at h4;exact h4
 have BI:=he.next yw (by omega) (by omega)
 rcases hR:bZ aa aa.length (i+1+1) []with⟨_ | ts,j'⟩
 · have:=pq he _ _ _ BI hR
   rw[Ie ht h2 h4 hR]at h;simp at h;omega
 · have hj:=pq he _ _ _ BI hR
   by_cases h5:aN aa j'=5
   · rw[Bz ht h2 h4 hR h5]at h
     have we:aa[j']?=some aa[j']:=List.getElem?_eq_getElem hj
     rw[cP we]at h5
     have:=he.next hj (by omega) (by omega)
     simp at h;omega
   · rw[Hy ht h2 h4 hR h5]at h;simp at h;omega
def bW(aa:List Tok):Nat→Nat→List Atom→Option (List Atom)×Nat
 | 0,i,_=>(none,i)
 | f+1,i,acc=>
  match b9 aa i with
  | (none,j)=>(none,j)
  | (some t,j)=>if aN aa j=6 then bW aa f (j+1) (acc++[t])else (some (acc++[t]),j)
theorem jy{aa:List Tok}{f i j:Nat}{acc:List Atom}(h:b9 aa i=(none,j)):bW aa (f+1) i acc=(none,j):=by simp[bW,h]
theorem j6{aa:List Tok}{f i j:Nat}{acc:List Atom}{t:Atom}(h:b9 aa i=(some t,j))(hk:aN aa j=6):bW aa (f+1) i acc=bW aa f (j+1) (acc++[t]):=by simp[bW,h,hk]
theorem gD{aa:List Tok}{f i j:Nat}{acc:List Atom}{t:Atom}(h:b9 aa i=(some t,j))(hk:¬aN aa j=6):bW aa (f+1) i acc=(some (acc++[t]),j):=by simp[bW,h,hk]
theorem so{aa:List Tok}{i j:Nat}{a:Atom}(h:b9 aa i=(some a,j)):i<j:=by
 have hT:∀f i acc r j,bZ aa f i acc=(r,j)→i≤j:=by
  intro f
  induction f with
  | zero=>intro i acc r j h;simp[bZ]at h;omega
  | succ f ih=>
   intro i acc r j h
   have hm:i≤(jS aa i).2:=by unfold jS;(split;(split<;>simp);simp)
   unfold bZ at h
   split at h
   · rename_i j' e;rw[e]at hm;simp at h hm;omega
   · rename_i t j' e
     rw[e]at hm
     simp only at hm
     split at h
     · have:=ih _ _ _ _ h;omega
     · simp at h;omega
 unfold b9 at h
 split at h
 · simp at h
 · split at h
   · split at h
     · split at h
       · simp at h
       · rename_i ts j' e
         have:=hT _ _ _ _ _ e
         split at h
         · simp at h;omega
         · simp at h
     · simp at h
   · simp at h
theorem mi{aa:List Tok}(he:Ends aa):∀(f i:Nat) (acc:List Atom) {r:Option (List Atom)} {j:Nat},i<aa.length→bW aa f i acc=(r,j)→j<aa.length
 | 0,i,acc,r,j,hi,h=>by simp[bW]at h;omega
 | f+1,i,acc,r,j,hi,h=>by
  rcases hA:b9 aa i with⟨_ | a,j'⟩
  · have:=kJ he hi hA
    rw[jy hA]at h;simp at h;omega
  · have hl:=kJ he hi hA
    by_cases hk:aN aa j'=6
    · rw[j6 hA hk]at h
      refine mi he f (j'+1) _ ?_ h
      have ht:aa[j']?=some aa[j']:=List.getElem?_eq_getElem hl
      rw[cP ht]at hk
      exact he.next hl (by omega) (by omega)
    · rw[gD hA hk]at h;simp at h;omega
end Ax
/- Plain functions that mirror program's parser: rules. No program here. -/
namespace Ax
def eD(aa:List Tok)(i:Nat):Option br×Nat:=
 match b9 aa i with
 | (none,j)=>(none,j)
 | (some a,j)=>
  if aN aa j=8 then
   match bW aa aa.length (j+1) []with
   | (none,j2)=>(none,j2)
   | (some b,j2)=>if aN aa j2=7 then (some ⟨a,b⟩,j2+1)else (none,j2)
  else if aN aa j=7 then (some ⟨a,[]⟩,j+1)else (none,j)
theorem mY{aa:List Tok}{i j:Nat}(hA:b9 aa i=(none,j)):eD aa i=(none,j):=by simp[eD,hA]
theorem o9{aa:List Tok}{i j j2:Nat}{a:Atom}(hA:b9 aa i=(some a,j))(h8:aN aa j=8)(hB:bW aa aa.length (j+1) []=(none,j2)):eD aa i=(none,j2):=by simp[eD,hA,h8,hB]
theorem oY{aa:List Tok}{i j j2:Nat}{a:Atom}{b:List Atom}(hA:b9 aa i=(some a,j))(h8:aN aa j=8)(hB:bW aa aa.length (j+1) []=(some b,j2))(h7:¬aN aa j2=7):eD aa i=(none,j2):=by simp[eD,hA,h8,hB,h7]
theorem nf{aa:List Tok}{i j j2:Nat}{a:Atom}{b:List Atom}(hA:b9 aa i=(some a,j))(h8:aN aa j=8)(hB:bW aa aa.length (j+1) []=(some b,j2))(h7:aN aa j2=7):eD aa i=(some ⟨a,b⟩,j2+1):=by simp[eD,hA,h8,hB,h7]
theorem pB{aa:List Tok}{i j:Nat}{a:Atom}(hA:b9 aa i=(some a,j))(h8:¬aN aa j=8)(h7:¬aN aa j=7):eD aa i=(none,j):=by simp[eD,hA,h8,h7]
theorem nD{aa:List Tok}{i j:Nat}{a:Atom}(hA:b9 aa i=(some a,j))(h8:¬aN aa j=8)(h7:aN aa j=7):eD aa i=(some ⟨a,[]⟩,j+1):=by simp[eD,hA,h7]
theorem mI{aa:List Tok}(he:Ends aa){j:Nat}(hj:j<aa.length){k:Int}(hk:aN aa j=k)(h2:2≤k):j+1<aa.length:=by
 have ht:aa[j]?=some aa[j]:=List.getElem?_eq_getElem hj
 rw[cP ht]at hk
 exact he.next hj (by omega) (by omega)
theorem sY{aa:List Tok}:∀(f i:Nat) (acc:List Atom) {r:List Atom} {j:Nat},bW aa f i acc=(some r,j)→i<j
 | 0,i,acc,r,j,h=>by simp[bW]at h
 | f+1,i,acc,r,j,h=>by
  rcases hA:b9 aa i with⟨_ | a,j'⟩
  · rw[jy hA]at h;simp at h
  · have hl:=so hA
    by_cases hk:aN aa j'=6
    · rw[j6 hA hk]at h
      have:=sY f (j'+1) _ h
      omega
    · rw[gD hA hk]at h;simp at h;omega
theorem qS{aa:List Tok}(he:Ends aa){i:Nat}{r:Option br}{j:Nat}(hi:i<aa.length)(h:eD aa i=(r,j)):j<aa.length∧(r≠none→i<j):=by
 rcases hA:b9 aa i with⟨_ | a,j1⟩
 · have:=kJ he hi hA
   rw[mY hA]at h;simp at h
   exact⟨by omega,fun hn=>absurd h.1.symm hn⟩
 · have SC:=kJ he hi hA
   have hg:=so hA
   by_cases h8:aN aa j1=8
   · have hn:=mI he SC h8 (by omega)
     rcases hB:bW aa aa.length (j1+1) []with⟨_ | b,j2⟩
     · have:=mi he _ _ _ hn hB
       rw[o9 hA h8 hB]at h;simp at h
       exact⟨by omega,fun hn=>absurd h.1.symm hn⟩
     · have h2:=mi he _ _ _ hn hB
       have h3:j1+1<j2:=sY _ _ _ hB
       by_cases h7:aN aa j2=7
       · have:=mI he h2 h7 (by omega)
         rw[nf hA h8 hB h7]at h;simp at h
         exact⟨by omega,fun _=>by omega⟩
       · rw[oY hA h8 hB h7]at h;simp at h
         exact⟨by omega,fun hn=>absurd h.1.symm hn⟩
   · by_cases h7:aN aa j1=7
     · have:=mI he SC h7 (by omega)
       rw[nD hA h8 h7]at h;simp at h
       exact⟨by omega,fun _=>by omega⟩
     · rw[pB hA h8 h7]at h;simp at h
       exact⟨by omega,fun hn=>absurd h.1.symm hn⟩
def bV(aa:List Tok):Nat→Nat→List br→Option (List br)×Nat
 | 0,i,_=>(none,i)
 | f+1,i,acc=>
  if aN aa i=1 then (some acc,i)
  else match eD aa i with
   | (none,j)=>(none,j)
   | (some r,j)=>bV aa f j (acc++[r])
theorem kG{aa:List Tok}{f i:Nat}{acc:List br}(h:aN aa i=1):bV aa (f+1) i acc=(some acc,i):=by simp[bV,h]
theorem jo{aa:List Tok}{f i j:Nat}{acc:List br}(h1:¬aN aa i=1)(h:eD aa i=(none,j)):bV aa (f+1) i acc=(none,j):=by simp[bV,h1,h]
theorem mC{aa:List Tok}{f i j:Nat}{acc:List br}{r:br}(h1:¬aN aa i=1)(h:eD aa i=(some r,j)):bV aa (f+1) i acc=bV aa f j (acc++[r]):=by simp[bV,h1,h]
theorem zV{aa:List Tok}(he:Ends aa):∀(f i:Nat) (acc:List br) {r:Option (List br)} {j:Nat},i<aa.length→bV aa f i acc=(r,j)→j<aa.length
 | 0,i,acc,r,j,hi,h=>by simp[bV]at h;omega
 | f+1,i,acc,r,j,hi,h=>by
  by_cases h1:aN aa i=1
  · rw[kG h1]at h;simp at h;omega
  · rcases hR:eD aa i with⟨_ | a,j'⟩
    · have:=(qS he hi hR).1
      rw[jo h1 hR]at h;simp at h;omega
    · have:=(qS he hi hR).1
      rw[mC h1 hR]at h
      exact zV he f j' _ this h
end Ax
/- Plain functions that mirror program's limits. No program here. -/
namespace Ax
def has(l:List ByteArray)(v:ByteArray):Bool:=l.any fun x=>decide (v=x)
theorem Hh(l:List ByteArray)(v:ByteArray):has l v=true↔v∈l:=by simp[has]
def Term.beq(s t:Term):Bool:=decide (s.kind=t.kind)&&decide (s.text=t.text)
theorem Term.beq_iff(s t:Term):s.beq t=true↔s=t:=by
 rcases s with⟨a,b⟩
 rcases t with⟨c,d⟩
 simp[Term.beq]
def jd(l:List Term)(v:Term):Bool:=l.any fun x=>v.beq x
theorem uy(l:List Term)(v:Term):jd l v=true↔v∈l:=by
 simp only[jd,List.any_eq_true,Term.beq_iff]
 exact⟨fun ⟨x,h,e⟩=>e▸h,fun h=>⟨v,h,rfl⟩⟩
def br.atoms(r:br):List Atom:=r.head::r.body
def da(ps:List ByteArray):List Atom→List ByteArray
 | []=>ps
 | a::l=>da (if has ps a.pred then ps else ps++[a.pred]) l
def wide(a:Atom):Bool:=decide (3<a.ag.length)
def iX(l:List Atom):Bool:=l.any fun x=>wide x
def nE(l:List Atom)(t:Term):Bool:=l.any fun x=>jd x.ag t
def gx(i:Nat)(ps:List ByteArray)(r:br):Bool:=decide (8≤i)||decide (2<r.body.length)||decide (6<ps.length)||iX r.atoms
def cz:Nat→List ByteArray→List br→Option Nat
 | _,_,[]=>none
 | i,ps,r::l=>if gx i (da ps r.atoms) r then some r.head.at_ else cz (i+1) (da ps r.atoms) l
abbrev acd:=List (ByteArray×Nat)
end Ax
/- Plain functions that mirror program's limits: openHead, twoArities, Read. No program here. -/
namespace Ax
def gX(b:List Atom)(t:Term):Bool:=decide (t.kind=1)&& !nE b t
def lS(r:br):Bool:=r.head.ag.any fun t=>gX r.body t
def b7:List br→Option Nat
 | []=>none
 | r::l=>if lS r then some r.head.at_ else b7 l
def look(m:List (ByteArray×Nat))(p:ByteArray):Option Nat:=(m.find? fun x=>decide (x.1=p)).map Prod.snd
def dE(m:List (ByteArray×Nat)):List Atom→Option Nat
 | []=>none
 | a::l=>
  match look m a.pred with
  | some n=>if n=a.ag.length then dE m l else some a.at_
  | none=>dE ((a.pred,a.ag.length)::m) l
def read(s:ByteArray):ByteArray×Int×Nat:=
 if 600<s.size then (ByteArray.empty,1,0)
 else match bV (split s) (split s).length 0 []with
  | (none,j)=>(ByteArray.empty,2,((split s)[j]?.map Tok.at_).getD 0)
  | (some rs,_)=>
   match cz 0 [] rs with
   | some p=>(ByteArray.empty,3,p)
   | none=>match dE [] (rs.flatMap br.atoms)with
    | some p=>(ByteArray.empty,4,p)
    | none=>match b7 rs with
     | some p=>(ByteArray.empty,5,p)
     | none=>(⟨((split s).flatMap fun t=>t.text.data.toList).toArray⟩,0,0)
end Ax
/- Bounds on what split and the parser give; Read's answers by cases. No program here. -/
namespace Ax
theorem ki(s:ByteArray):∀f p b acc,(∀t,t∈acc→t.text.size≤s.size)→∀t,t∈aV s f p b acc→t.text.size≤s.size
 | 0,_,_,acc,h=>by
  intro t ht
  simp only[aV,List.mem_append,List.mem_singleton]at ht
  rcases ht with ht | rfl
  · exact h t ht
  · exact Nat.zero_le _
 | f+1,p,b,acc,h=>by
  unfold aV
  have hx:∀(k:Int) (n:Nat),∀t,t∈acc++[⟨k,p,s.extract p (p+n)⟩]→t.text.size≤s.size:=by
   intro k n t ht
   simp only[List.mem_append,List.mem_singleton]at ht
   rcases ht with ht | rfl
   · exact h t ht
   · simp only[ByteArray.size_extract];omega
  split
  · split
    · exact ki s f _ _ _ h
    · simp only
      split
      · exact hx _ _
      · exact ki s f _ _ _ (hx _ _)
  · intro t ht
    simp only[List.mem_append,List.mem_singleton]at ht
    rcases ht with ht | rfl
    · exact h t ht
    · exact Nat.zero_le _
theorem nw(s:ByteArray):∀t,t∈split s→t.text.size≤s.size:=ki s _ _ _ _ (fun _ h=>by cases h)
theorem wy{aa:List Tok}{M:Nat}(h:∀t,t∈aa→t.text.size≤M){i j:Nat}{a:Atom}(ha:b9 aa i=(some a,j)):a.pred.size≤M:=by
 unfold b9 at ha
 split at ha
 · simp at ha
 · rename_i t ht
   have hm:=h t (List.mem_of_getElem? ht)
   split at ha
   · split at ha
     · split at ha
       · simp at ha
       · split at ha
         · simp at ha;rw[←ha.1];exact hm
         · simp at ha
     · simp at ha
   · simp at ha
theorem pX{aa:List Tok}{M:Nat}(h:∀t,t∈aa→t.text.size≤M):∀(f i:Nat) (acc:List Atom) {r:List Atom} {j:Nat},(∀a,a∈acc→a.pred.size≤M)→bW aa f i acc=(some r,j)→(∀a,a∈r→a.pred.size≤M)∧r.length≤acc.length+f
 | 0,i,acc,r,j,hacc,hr=>by simp[bW]at hr
 | f+1,i,acc,r,j,hacc,hr=>by
  rcases hA:b9 aa i with⟨_ | a,j'⟩
  · rw[jy hA]at hr;simp at hr
  · have hp:=wy h hA
    have SY:∀x,x∈acc++[a]→x.pred.size≤M:=by
     intro x hx
     rcases List.mem_append.1 hx with hx | hx
     · exact hacc x hx
     · simp at hx;subst hx;exact hp
    by_cases hk:aN aa j'=6
    · rw[j6 hA hk]at hr
      have:=pX h f (j'+1) _ SY hr
      simp only[List.length_append,List.length_singleton]at this
      exact⟨this.1,by omega⟩
    · rw[gD hA hk]at hr
      simp only[Prod.mk.injEq,Option.some.injEq]at hr
      rw[←hr.1]
      exact⟨SY,by simp⟩
def Fits(M n:Nat)(r:br):Prop:=r.body.length≤n∧∀a,a∈r.atoms→a.pred.size≤M
theorem FH{aa:List Tok}{M:Nat}(h:∀t,t∈aa→t.text.size≤M){i j:Nat}{r:br}(hr:eD aa i=(some r,j)):Fits M aa.length r:=by
 rcases hA:b9 aa i with⟨_ | a,j1⟩
 · rw[mY hA]at hr;simp at hr
 · have hp:=wy h hA
   by_cases h8:aN aa j1=8
   · rcases hB:bW aa aa.length (j1+1) []with⟨_ | b,j2⟩
     · rw[o9 hA h8 hB]at hr;simp at hr
     · obtain⟨hb,fl⟩:=pX h _ _ _ (fun _ h=>by cases h) hB
       by_cases h7:aN aa j2=7
       · rw[nf hA h8 hB h7]at hr
         simp only[Prod.mk.injEq,Option.some.injEq]at hr
         rw[←hr.1]
         refine⟨by simpa using fl, ?_⟩
         intro x hx
         rcases List.mem_cons.1 hx with rfl | hx
         · exact hp
         · exact hb x hx
       · rw[oY hA h8 hB h7]at hr;simp at hr
   · by_cases h7:aN aa j1=7
     · rw[nD hA h8 h7]at hr
       simp only[Prod.mk.injEq,Option.some.injEq]at hr
       rw[←hr.1]
       refine⟨Nat.zero_le _, ?_⟩
       intro x hx
       rcases List.mem_cons.1 hx with rfl | hx
       · exact hp
       · cases hx
     · rw[pB hA h8 h7]at hr;simp at hr
theorem oI{aa:List Tok}{M:Nat}(h:∀t,t∈aa→t.text.size≤M):∀(f i:Nat) (acc:List br) {rs:List br} {j:Nat},(∀r,r∈acc→Fits M aa.length r)→bV aa f i acc=(some rs,j)→(∀r,r∈rs→Fits M aa.length r)∧rs.length≤acc.length+f
 | 0,i,acc,rs,j,hacc,hr=>by simp[bV]at hr
 | f+1,i,acc,rs,j,hacc,hr=>by
  by_cases h1:aN aa i=1
  · rw[kG h1]at hr
    simp only[Prod.mk.injEq,Option.some.injEq]at hr
    rw[←hr.1]
    exact⟨hacc,by omega⟩
  · rcases hR:eD aa i with⟨_ | r,j'⟩
    · rw[jo h1 hR]at hr;simp at hr
    · rw[mC h1 hR]at hr
      have hf:=FH h hR
      have:=oI h f j' (acc++[r]) (by
       intro x hx
       rcases List.mem_append.1 hx with hx | hx
       · exact hacc x hx
       · simp at hx;subst hx;exact hf) hr
      simp only[List.length_append,List.length_singleton]at this
      exact⟨this.1,by omega⟩
theorem zZ(s:ByteArray):0<(split s).length:=by
 obtain⟨m,t,e,_⟩:=qw s
 rw[e];simp
def plain(s:ByteArray):ByteArray:=⟨((split s).flatMap fun t=>t.text.data.toList).toArray⟩
theorem U6{s:ByteArray}(h:600<s.size):read s=(ByteArray.empty,1,0):=by simp[read,h]
theorem Nr{s:ByteArray}(h:¬600<s.size){j:Nat}(hr:bV (split s) (split s).length 0 []=(none,j)){t:Tok}(ht:(split s)[j]?=some t):read s=(ByteArray.empty,2,t.at_):=by simp[read,h,hr,ht]
theorem OZ{s:ByteArray}(h:¬600<s.size){rs:List br}{j p:Nat}(hr:bV (split s) (split s).length 0 []=(some rs,j))(h3:cz 0 [] rs=some p):read s=(ByteArray.empty,3,p):=by simp[read,h,hr,h3]
theorem OP{s:ByteArray}(h:¬600<s.size){rs:List br}{j p:Nat}(hr:bV (split s) (split s).length 0 []=(some rs,j))(h3:cz 0 [] rs=none)(h4:dE [] (rs.flatMap br.atoms)=some p):read s=(ByteArray.empty,4,p):=by simp[read,h,hr,h3,h4]
theorem OC{s:ByteArray}(h:¬600<s.size){rs:List br}{j p:Nat}(hr:bV (split s) (split s).length 0 []=(some rs,j))(h3:cz 0 [] rs=none)(h4:dE [] (rs.flatMap br.atoms)=none)(h5:b7 rs=some p):read s=(ByteArray.empty,5,p):=by simp[read,h,hr,h3,h4,h5]
theorem Gf{s:ByteArray}(h:¬600<s.size){rs:List br}{j:Nat}(hr:bV (split s) (split s).length 0 []=(some rs,j))(h3:cz 0 [] rs=none)(h4:dE [] (rs.flatMap br.atoms)=none)(h5:b7 rs=none):read s=(plain s,0,0):=by simp[read,plain,h,hr,h3,h4,h5]
end Ax
/- Plain functions that mirror the reference's scanner. No program here. -/
namespace Ax
def byte(s:ByteArray)(k:Nat):Nat:=(s.get! k).toNat
theorem pv(s:ByteArray)(k:Nat):byte s k<256:=(s.get! k).toNat_lt
theorem gZ(s:ByteArray)(k:Nat)(h:k<s.size):(s[k]'h).toNat=byte s k:=by
 unfold byte
 have e:s.get! k=s[k]'h:=by
  simp[ByteArray.get!,getElem!_pos,h]
  rfl
 rw[e]
def jh(s:ByteArray)(i:Nat):Nat→Nat→Nat→Option Nat
 | 0,_,c=>some c
 | m+1,k,c=>if s.size≤i+k∨byte s (i+k)<128∨191<byte s (i+k)then none else jh s i m (k+1) (c*64+byte s (i+k)-128)
def oy(n lo:Nat):Option Nat→Nat×Nat
 | none=>(0,0)
 | some c=>if c<lo∨1114111<c∨(55296≤c∧c≤57343)then (0,0)else (c,n)
def pt(s:ByteArray)(i:Nat):Nat×Nat:=
 let c:=byte s i
 if c<128 then (c,1)else if c<192 then (0,0)
 else if c<224 then oy 2 128 (jh s i 1 1 (c-192))
 else if c<240 then oy 3 2048 (jh s i 2 1 (c-224))
 else if c<248 then oy 4 65536 (jh s i 3 1 (c-240))
 else (0,0)
def mR(c:Int):Bool:=(decide (97≤c)&&decide (c≤122))||decide (224≤c)
def qo(s:ByteArray)(i n:Nat):Bool:=
 decide (0<(pt s i).2)&&(mR (pt s i).1||(decide (n=0)&&decide (65≤(pt s i).1)&&decide ((pt s i).1≤90))||(decide (0<n)&&decide (48≤(pt s i).1)&&decide ((pt s i).1≤57)))
def cn(s:ByteArray):Nat→Nat→Nat→Nat×Nat
 | 0,i,n=>(i,n)
 | f+1,i,n=>if i<s.size then (if qo s i n then cn s f (i+(pt s i).2) (n+1)else (i,n))else (i,n)
theorem mE{s:ByteArray}{f i n:Nat}(h:¬i<s.size):cn s f i n=(i,n):=by cases f<;>simp[cn,h]
theorem iE{s:ByteArray}{f i n:Nat}(hk:qo s i n=false):cn s f i n=(i,n):=by cases f<;>simp[cn,hk]
theorem lZ{s:ByteArray}{f i n:Nat}(h:i<s.size)(hk:qo s i n=true):cn s (f+1) i n=cn s f (i+(pt s i).2) (n+1):=by simp[cn,h,hk]
theorem CZ(s:ByteArray)(i:Nat):∀m k c c',i+k≤s.size→jh s i m k c=some c'→i+k+m≤s.size
 | 0,k,c,c',h,_=>h
 | m+1,k,c,c',h,hr=>by
  unfold jh at hr
  split at hr
  · simp at hr
  · rename_i hn
    have:=CZ s i m (k+1) _ _ (by omega) hr
    omega
theorem R3{s:ByteArray}{i n lo:Nat}(m:Nat)(c:Nat)(hn:n=m+1)(h:i<s.size):i+(oy n lo (jh s i m 1 c)).2≤s.size:=by
 cases hr:jh s i m 1 c with
 | none=>simp[oy];omega
 | some c'=>
  have:=CZ s i m 1 c c' (by omega) hr
  simp only[oy]
  split
  · simp;omega
  · simp;omega
theorem St(s:ByteArray)(i:Nat)(h:i<s.size):i+(pt s i).2≤s.size:=by
 unfold pt
 simp only
 repeat' split
 all_goals first | exact R3 _ _ rfl h | (simp;omega)
theorem Iv{s:ByteArray}{i n:Nat}(h:qo s i n=true):0<(pt s i).2:=by
 simp only[qo,Bool.and_eq_true,decide_eq_true_eq]at h
 exact h.1
end Ax
/- Plain functions that mirror the reference's tokens. No program here. -/
namespace Ax
def tU(s:ByteArray)(a:Nat):Bool:=decide (byte s a=32)||decide (byte s a=10)
def kM(s:ByteArray):Nat→Nat→Nat
 | 0,a=>a
 | f+1,a=>if a<s.size∧tU s a=true then kM s f (a+1)else a
structure tM where
 kind:Nat
 text:ByteArray
 at_:Nat
def dK(s:ByteArray)(a:Nat):tM:=
 let x:=cn s s.size a 0
 let c:=byte s a
 if a=s.size then ⟨101,⟨#[]⟩,a⟩
 else if 6<x.2 then ⟨120,⟨#[]⟩,a⟩
 else if 0<x.2∧65≤c∧c≤90 then ⟨118,s.extract a x.1,a⟩
 else if 0<x.2 then ⟨110,s.extract a x.1,a⟩
 else if c=40∨c=41∨c=44∨c=46 then ⟨c,s.extract a (a+1),a⟩
 else if c=58∧a+1<s.size∧byte s (a+1)=45 then ⟨58,⟨#[58,45]⟩,a⟩
 else ⟨120,⟨#[]⟩,a⟩
def nC(s:ByteArray)(a:Nat):tM:=dK s (kM s s.size a)
theorem DP{s:ByteArray}{f a:Nat}(h:a<s.size)(hb:tU s a=true):kM s (f+1) a=kM s f (a+1):=by simp[kM,h,hb]
theorem fw{s:ByteArray}{f a:Nat}(h:¬(a<s.size∧tU s a=true)):kM s f a=a:=by
 cases f with
 | zero=>rfl
 | succ f=>simp only[kM,if_neg h]
theorem vY(s:ByteArray):∀f i n,i≤(cn s f i n).1
 | 0,i,n=>Nat.le_refl _
 | f+1,i,n=>by
  unfold cn
  split
  · split
    · have:=vY s f (i+(pt s i).2) (n+1);omega
    · exact Nat.le_refl _
  · exact Nat.le_refl _
theorem DN(s:ByteArray):∀f i n,i≤s.size→(cn s f i n).1≤s.size
 | 0,i,n,h=>h
 | f+1,i,n,h=>by
  unfold cn
  split
  · rename_i hi
    split
    · exact DN s f _ _ (St s i hi)
    · exact h
  · exact h
end Ax
/- The reference's tokens as a list. No program here. -/
namespace Ax
def jf(s:ByteArray):Nat→Nat→List tM→List tM
 | 0,_,acc=>acc
 | f+1,a,acc=>if (nC s a).kind=101∨(nC s a).kind=120 then acc++[nC s a]else jf s f ((nC s a).at_+(nC s a).text.size) (acc++[nC s a])
def M3(s:ByteArray):List tM:=jf s (s.size+1) 0 []
theorem oA{s:ByteArray}{f a:Nat}{acc:List tM}{t:tM}(h:nC s a=t)(hk:t.kind=101∨t.kind=120):jf s (f+1) a acc=acc++[t]:=by simp[jf,h,hk]
theorem xk{s:ByteArray}{f a:Nat}{acc:List tM}{t:tM}(h:nC s a=t)(hk:¬(t.kind=101∨t.kind=120)):jf s (f+1) a acc=jf s f (t.at_+t.text.size) (acc++[t]):=by simp[jf,h,hk]
theorem Il(s:ByteArray):∀f i n,(cn s f i n).2+i≤(cn s f i n).1+n
 | 0,i,n=>by simp[cn];omega
 | f+1,i,n=>by
  unfold cn
  split
  · split
    · rename_i hk
      have:=Il s f (i+(pt s i).2) (n+1)
      have:=Iv hk
      omega
    · simp;omega
  · simp;omega
end Ax
end Go.Proofs.YtdmicblafmhflaaGreatDoor
