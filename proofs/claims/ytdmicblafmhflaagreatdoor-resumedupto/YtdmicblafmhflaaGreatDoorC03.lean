/- Rules that are laid out as tokens are read again. No program here. -/
import Derived.Test.YtdmicblafmhflaaGreatDoorC02
import Derived.Test.YtdmicblafmhflaaGreatDoorProg
import Derived.KernelRfl
import Derived.Test.YtdmicblafmhflaaGreatDoorC00
import Derived.WalkKit
import Derived.WalkSpells
import Derived.WalkLawsBesides
set_option linter.unusedSimpArgs false
set_option linter.unusedVariables false
set_option maxHeartbeats 400000
namespace Go.Proofs.YtdmicblafmhflaaGreatDoor
namespace Ax
abbrev EA:=ByteArray×List Term
abbrev ER:=EA×List EA
abbrev EI:=Int×ByteArray
def tI(t:Term):EI:=(t.kind+2,t.text)
def lI:EI:=(6,⟨#[44]⟩)
def dg:List Term→List EI
 | []=>[]
 | [t]=>[tI t]
 | t::u::r=>tI t::lI::dg (u::r)
def dC(a:EA):List EI:=(2,a.1)::(4,⟨#[40]⟩)::(dg a.2++[(5,⟨#[41]⟩)])
def dG:List EA→List EI
 | []=>[]
 | [a]=>dC a
 | a::b::r=>dC a++lI::dG (b::r)
def fg(r:ER):List EI:=dC r.1++(if r.2=[]then []else (8,⟨#[58,45]⟩)::dG r.2)++[(7,⟨#[46]⟩)]
def bA(l:List ER):List EI:=l.flatMap fg
def EA.fit(a:EA):Prop:=a.2≠[]∧∀t,t∈a.2→t.kind=0∨t.kind=1
theorem lE{E:List EI}{i:Nat}{x:EI}{l:List EI}(h:E.drop i=x::l):E[i]?=some x∧E.drop (i+1)=l:=by
 constructor
 · have:=congrArg (fun q=>q[0]?) h
   simpa using this
 · rw[←List.drop_drop,h];rfl
theorem gp{T:List Tok}{i:Nat}{x:EI}(h:(T.map er)[i]?=some x):aM T i=x.1:=by
 rw[List.getElem?_map]at h
 unfold aM
 cases h1:T[i]? <;>rw[h1]at h<;>simp[er]at h ⊢
 rw[←h]
theorem Am{T:List Tok}{i:Nat}{x:EI}(h:(T.map er)[i]?=some x):∃t,T[i]?=some t∧t.kind=x.1∧t.text=x.2:=by
 rw[List.getElem?_map]at h
 cases h1:T[i]? <;>rw[h1]at h<;>simp[er]at h
 rename_i t
 exact⟨t,rfl,by rw[←h],by rw[←h]⟩
theorem zI{T:List Tok}{i:Nat}{t:Term}(h:(T.map er)[i]?=some (tI t))(hk:t.kind=0∨t.kind=1):jU T i=(some t,i+1):=by
 obtain⟨u,h1,h2,h3⟩:=Am h
 simp only[tI]at h2 h3
 rw[xo h1 (by omega),h2,h3]
 simp
def GY(l:List EI):Prop:=∃x r,l=x::r∧x.1≠6
theorem vR{T:List Tok}:∀(ts:List Term) (f i:Nat) (acc:List Term) (post:List EI),ts≠[]→(∀t,t∈ts→t.kind=0∨t.kind=1)→(T.map er).drop i=dg ts++post→GY post→ts.length≤f→
 bX T f i acc=(some (acc++ts),i+(dg ts).length)∧(T.map er).drop (i+(dg ts).length)=post
 | [],_,_,_,_,h,_,_,_,_=>absurd rfl h
 | [t],0,_,_,_,_,_,_,_,hf=>by simp at hf
 | _::_::_,0,_,_,_,_,_,_,_,hf=>by simp at hf
 | [t],f+1,i,acc,post,_,hk,hE,hp,_=>by
  obtain⟨h1,h2⟩:=lE (show(T.map er).drop i=tI t::post from hE)
  obtain⟨x,r,rfl,hx⟩:=hp
  obtain⟨h3,_⟩:=lE h2
  rw[oS (zI h1 (hk t (by simp))) (by rw[gp h3];exact hx)]
  exact⟨rfl,h2⟩
 | t::u::r,f+1,i,acc,post,_,hk,hE,hp,hf=>by
  obtain⟨h1,h2⟩:=lE (show(T.map er).drop i=tI t::(lI::dg (u::r)++post)from hE)
  obtain⟨h3,h4⟩:=lE (show(T.map er).drop (i+1)=lI::(dg (u::r)++post)from h2)
  rw[tR (zI h1 (hk t (by simp))) (by rw[gp h3];rfl)]
  obtain⟨h5,h6⟩:=vR (u::r) f (i+1+1) (acc++[t]) post (by simp) (fun x hx=>hk x (by simp[hx])) h4 hp (by simp at hf ⊢;omega)
  have e:i+(dg (t::u::r)).length=i+1+1+(dg (u::r)).length:=by simp[dg];omega
  rw[h5,e]
  exact⟨by simp,h6⟩
theorem xq:∀ts:List Term,ts.length≤(dg ts).length
 | []=>by simp
 | [t]=>by simp[dg]
 | t::u::r=>by have:=xq (u::r);simp[dg]at this ⊢;omega
theorem oW{T:List Tok}{i:Nat}{a:EA}{post:List EI}(ha:a.fit)(hE:(T.map er).drop i=dC a++post):
 ∃a',b8 T i=(some a',i+(dC a).length)∧Cm a'=a∧(T.map er).drop (i+(dC a).length)=post:=by
 obtain⟨h1,h2⟩:=lE (show(T.map er).drop i=(2,a.1)::((4,⟨#[40]⟩)::(dg a.2++[(5,⟨#[41]⟩)])++post)from hE)
 obtain⟨h3,h4⟩:=lE (show(T.map er).drop (i+1)=(4,⟨#[40]⟩)::(dg a.2++[(5,⟨#[41]⟩)]++post)from h2)
 rw[List.append_assoc]at h4
 have hlen:a.2.length≤T.length:=by
  have:=congrArg List.length h4
  simp only[List.length_drop,List.length_map,List.length_append]at this
  have:=xq a.2
  omega
 obtain⟨h5,h6⟩:=vR a.2 T.length (i+1+1) [] _ ha.1 ha.2 h4 ⟨_,_,rfl,by simp⟩ hlen
 obtain⟨h7,h8⟩:=lE h6
 obtain⟨t,ht,hk,Ew⟩:=Am h1
 refine⟨⟨t.at_,t.text,a.2⟩, ?_, ?_, ?_⟩
 · rw[Bm ht (by simpa using hk) (gp h3) (by simpa using h5) (gp h7)]
   simp[dC]
   omega
 · simp only at Ew;simp[Cm,Ew]
 · have e:i+(dC a).length=i+1+1+(dg a.2).length+1:=by simp[dC];omega
   rw[e];exact h8
theorem xJ{T:List Tok}:∀(l:List EA) (f i:Nat) (acc:List Atom) (post:List EI),l≠[]→(∀a,a∈l→a.fit)→(T.map er).drop i=dG l++post→GY post→l.length≤f→
 ∃r,bV T f i acc=(some (acc++r),i+(dG l).length)∧r.map Cm=l∧(T.map er).drop (i+(dG l).length)=post
 | [],_,_,_,_,h,_,_,_,_=>absurd rfl h
 | [a],0,_,_,_,_,_,_,_,hf=>by simp at hf
 | _::_::_,0,_,_,_,_,_,_,_,hf=>by simp at hf
 | [a],f+1,i,acc,post,_,hk,hE,hp,_=>by
  obtain⟨a',h1,h2,h3⟩:=oW (hk a (by simp)) (show(T.map er).drop i=dC a++post from hE)
  obtain⟨x,r,rfl,hx⟩:=hp
  obtain⟨h4,_⟩:=lE h3
  refine⟨[a'], ?_,by simp[h2],h3⟩
  rw[gL h1 (by rw[gp h4];exact hx)]
  rfl
 | a::b::l,f+1,i,acc,post,_,hk,hE,hp,hf=>by
  have Sh:(T.map er).drop i=dC a++(lI::(dG (b::l)++post)):=by rw[hE];simp[dG]
  obtain⟨a',h1,h2,h3⟩:=oW (hk a (by simp)) Sh
  obtain⟨h4,h5⟩:=lE h3
  obtain⟨r,h6,h7,h8⟩:=xJ (b::l) f (i+(dC a).length+1) (acc++[a']) post (by simp) (fun x hx=>hk x (by simp[hx])) h5 hp (by simp at hf ⊢;omega)
  have e:i+(dG (a::b::l)).length=i+(dC a).length+1+(dG (b::l)).length:=by simp[dG];omega
  refine⟨a'::r, ?_,by simp[h2,h7],by rw[e];exact h8⟩
  rw[kj h1 (by rw[gp h4];rfl),h6,e]
  simp
theorem wN:∀l:List EA,l.length≤(dG l).length
 | []=>by simp
 | [a]=>by simp[dG,dC]
 | a::b::r=>by have:=wN (b::r);simp[dG,dC]at this ⊢;omega
def ER.fit(r:ER):Prop:=r.1.fit∧∀a,a∈r.2→a.fit
theorem KX{T:List Tok}{i:Nat}{r:ER}{post:List EI}(hr:ER.fit r)(hE:(T.map er).drop i=fg r++post):
 ∃r',eP T i=(some r',i+(fg r).length)∧lj r'=r∧(T.map er).drop (i+(fg r).length)=post:=by
 rcases r with⟨h,b⟩
 by_cases hb:b=[]
 · subst hb
   have Sh:(T.map er).drop i=dC h++((7,⟨#[46]⟩)::post):=by rw[hE];simp[fg]
   obtain⟨a',h1,h2,h3⟩:=oW hr.1 Sh
   obtain⟨h4,h5⟩:=lE h3
   have e:i+(fg (h,[])).length=i+(dC h).length+1:=by simp[fg];omega
   refine⟨⟨a',[]⟩, ?_,by simp[lj,h2],by rw[e];exact h5⟩
   rw[nb h1 (by rw[gp h4];simp) (gp h4),e]
 · have Sh:(T.map er).drop i=dC h++((8,⟨#[58,45]⟩)::(dG b++((7,⟨#[46]⟩)::post))):=by rw[hE];simp[fg,hb]
   obtain⟨a',h1,h2,h3⟩:=oW hr.1 Sh
   obtain⟨h4,h5⟩:=lE h3
   have hlen:b.length≤T.length:=by
    have:=congrArg List.length h5
    simp only[List.length_drop,List.length_map,List.length_append]at this
    have:=wN b
    omega
   obtain⟨l,h6,h7,h8⟩:=xJ b T.length (i+(dC h).length+1) [] _ hb hr.2 h5 ⟨_,_,rfl,by simp⟩ hlen
   obtain⟨h9,h10⟩:=lE h8
   have e:i+(fg (h,b)).length=i+(dC h).length+1+(dG b).length+1:=by simp[fg,hb];omega
   refine⟨⟨a',l⟩, ?_,by simp[lj,h2,h7],by rw[e];exact h10⟩
   rw[nh h1 (gp h4) (by simpa using h6) (gp h9),e]
theorem nj{T:List Tok}:∀(l:List ER) (f i:Nat) (acc:List bD) (x:ByteArray),(∀r,r∈l→ER.fit r)→(T.map er).drop i=bA l++[(1,x)]→l.length<f→
 ∃rs,cU T f i acc=(some (acc++rs),i+(bA l).length)∧rs.map lj=l
 | _,0,_,_,_,_,_,hf=>by omega
 | [],f+1,i,acc,x,_,hE,_=>by
  obtain⟨h1,_⟩:=lE (show(T.map er).drop i=(1,x)::[]from hE)
  exact⟨[],by rw[na (gp h1)];simp[bA],rfl⟩
 | r::l,f+1,i,acc,x,hk,hE,hf=>by
  have Sh:(T.map er).drop i=fg r++(bA l++[(1,x)]):=by rw[hE];simp[bA]
  have nV:¬aM T i=1:=by
   have:(T.map er).drop i=(2,r.1.1)::((4,⟨#[40]⟩)::(dg r.1.2++[(5,⟨#[41]⟩)])++(if r.2=[]then []else (8,⟨#[58,45]⟩)::dG r.2)++[(7,⟨#[46]⟩)]++(bA l++[(1,x)])):=by rw[Sh];simp[fg,dC]
   rw[gp (lE this).1]
   simp
  obtain⟨r',h1,h2,h3⟩:=KX (hk r (by simp)) Sh
  obtain⟨rs,h4,h5⟩:=nj l f (i+(fg r).length) (acc++[r']) x (fun y hy=>hk y (by simp[hy])) h3 (by simp at hf ⊢;omega)
  refine⟨r'::rs, ?_,by simp[h2,h5]⟩
  rw[pz nV h1,h4]
  have e:i+(bA (r::l)).length=i+(fg r).length+(bA l).length:=by simp[bA];omega
  rw[e]
  simp
end Ax
/- Rules over few predicates of fixed places are a program. No program here. -/
namespace Ax
theorem wO{α:Type}[DecidableEq α]:∀(P l:List α),l.Nodup→(∀x,x∈l→x∈P)→l.length≤P.length
 | [],l,_,h=>by
  cases l with
  | nil=>simp
  | cons a l=>exact absurd (h a (by simp)) (by simp)
 | p::P,l,hn,h=>by
  have h1:(l.erase p).Nodup:=hn.erase p
  have h2:∀x,x∈l.erase p→x∈P:=by
   intro x hx
   have oP:=List.mem_of_mem_erase hx
   rcases List.mem_cons.1 (h x oP)with rfl | hp
   · exact absurd hx (hn.not_mem_erase)
   · exact hp
  have:=wO P (l.erase p) h1 h2
  have hl:l.length≤(l.erase p).length+1:=by
   rw[List.length_erase]
   split<;>omega
  simp only[List.length_cons]
  omega
theorem lW(P:List ByteArray):∀(l:List Atom) (ps:List ByteArray),ps.Nodup→(∀x,x∈ps→x∈P)→(∀a,a∈l→a.pred∈P)→(de ps l).Nodup∧∀x,x∈de ps l→x∈P
 | [],ps,h1,h2,_=>⟨h1,h2⟩
 | a::l,ps,h1,h2,h3=>by
  unfold de
  by_cases hh:has ps a.pred=true
  · rw[if_pos hh]
    exact lW P l ps h1 h2 (fun x hx=>h3 x (by simp[hx]))
  · rw[if_neg hh]
    refine lW P l _ ?_ ?_ (fun x hx=>h3 x (by simp[hx]))
    · rw[List.nodup_append]
      refine⟨h1,by simp, ?_⟩
      intro x hx y hy
      simp at hy
      subst hy
      intro e
      subst e
      exact hh ((Ht _ _).2 hx)
    · intro x hx
      rcases List.mem_append.1 hx with hx | hx
      · exact h2 x hx
      · simp at hx;subst hx;exact h3 a (by simp)
theorem j7(P:List ByteArray)(hP:P.length≤6):∀(l:List bD) (i:Nat) (ps:List ByteArray),ps.Nodup→(∀x,x∈ps→x∈P)→i+l.length≤8→(∀r,r∈l→r.body.length≤2∧∀a,a∈r.atoms→a.pred∈P∧a.ak.length≤3)→dd i ps l=none
 | [],_,_,_,_,_,_=>rfl
 | r::l,i,ps,h1,h2,h3,h4=>by
  obtain⟨hb,ha⟩:=h4 r (by simp)
  obtain⟨k1,k2⟩:=lW P r.atoms ps h1 h2 (fun a hx=>(ha a hx).1)
  have hs:=wO P _ k1 k2
  simp only[List.length_cons]at h3
  have hw:jj r.atoms=false:=by
   rw[Bool.eq_false_iff]
   intro hh
   simp only[jj,List.any_eq_true,wide,decide_eq_true_eq]at hh
   obtain⟨a,hx,hy⟩:=hh
   have:=(ha a hx).2
   omega
  have hm:gC i (de ps r.atoms) r=false:=by
   unfold gC
   rw[hw]
   simp
   omega
  unfold dd
  rw[hm]
  simp only[Bool.false_eq_true,if_false]
  exact j7 P hP l (i+1) _ k1 k2 (by omega) (fun x hx=>h4 x (by simp[hx]))
theorem qj(ar:ByteArray→Nat):∀(l:List Atom) (m:List (ByteArray×Nat)),(∀x,x∈m→x.2=ar x.1)→(∀a,a∈l→a.ak.length=ar a.pred)→eN m l=none
 | [],_,_,_=>rfl
 | a::l,m,h1,h2=>by
  have ha:=h2 a (by simp)
  unfold eN
  split
  · rename_i n hn
    have:n=a.ak.length:=by
     unfold look at hn
     rw[Option.map_eq_some_iff]at hn
     obtain⟨x,hx,rfl⟩:=hn
     have hm:=List.mem_of_find?_eq_some hx
     have hp:=List.find?_some hx
     simp only[decide_eq_true_eq]at hp
     rw[h1 x hm,hp,ha]
    rw[if_pos this]
    exact qj ar l m h1 (fun x hx=>h2 x (by simp[hx]))
  · refine qj ar l _ ?_ (fun x hx=>h2 x (by simp[hx]))
    intro x hx
    rcases List.mem_cons.1 hx with rfl | hx
    · exact ha
    · exact h1 x hx
theorem je:∀(l:List bD),(∀r,r∈l→lU r=false)→cK l=none
 | [],_=>rfl
 | r::l,h=>by
  unfold cK
  rw[h r (by simp)]
  simp only[Bool.false_eq_true,if_false]
  exact je l (fun x hx=>h x (by simp[hx]))
structure Good(P:List ByteArray)(ar:ByteArray→Nat)(R:List ER):Prop where
 Cf:R.length≤8
 nI:P.length≤6
 fit:∀r,r∈R→ER.fit r∧r.2.length≤2
 atoms:∀r,r∈R→∀a,a=r.1∨a∈r.2→a.1∈P∧a.2.length=ar a.1∧a.2.length≤3
 safe:∀r,r∈R→∀t,t∈r.1.2→t.kind=1→∃a,a∈r.2∧t∈a.2
theorem Jc{P:List ByteArray}{ar:ByteArray→Nat}{R:List ER}(hG:Good P ar R){t x:ByteArray}(ht:t.size≤600)(hE:(split t).map er=bA R++[(1,x)]):read t=(plain t,0,0):=by
 have hlen:∀l:List ER,l.length≤(bA l).length:=by
  intro l
  induction l with
  | nil=>simp
  | cons r l ih=>simp[bA,fg]at ih ⊢;omega
 have hT:R.length<(split t).length:=by
  have:=congrArg List.length hE
  simp only[List.length_map,List.length_append,List.length_singleton]at this
  have:=hlen R
  omega
 obtain⟨rs,h1,h2⟩:=nj (T:=split t) R (split t).length 0 [] x (fun r hr=>(hG.fit r hr).1) (by rw[List.drop_zero];exact hE) hT
 rw[List.nil_append]at h1
 have fy:∀r,r∈rs→lj r∈R:=fun r hr=>by rw[←h2];exact List.mem_map.2 ⟨r,hr,rfl⟩
 have uR:∀r,r∈rs→∀a,a∈r.atoms→a.pred∈P∧a.ak.length=ar a.pred∧a.ak.length≤3:=by
  intro r hr a ha
  refine hG.atoms (lj r) (fy r hr) (Cm a) ?_
  rcases List.mem_cons.1 ha with rfl | ha
  · exact .inl rfl
  · exact .inr (List.mem_map.2 ⟨a,ha,rfl⟩)
 refine MH (by omega) h1 ?_ ?_ ?_
 · refine j7 P hG.nI rs 0 [] (by simp) (fun _ h=>by cases h) ?_ ?_
   · have:=congrArg List.length h2
     simp at this
     have:=hG.Cf
     omega
   · intro r hr
     have hb:=(hG.fit _ (fy r hr)).2
     refine⟨by simpa [lj]using hb,fun a ha=>⟨(uR r hr a ha).1,(uR r hr a ha).2.2⟩⟩
 · refine qj ar _ [] (fun _ h=>by cases h) ?_
   intro a ha
   obtain⟨r,hr,ha⟩:=List.mem_flatMap.1 ha
   exact(uR r hr a ha).2.1
 · refine je rs ?_
   intro r hr
   rw[Bool.eq_false_iff]
   intro ho
   simp only[lU,List.any_eq_true,ib,Bool.and_eq_true,decide_eq_true_eq,Bool.not_eq_true']at ho
   obtain⟨t,ht,hk,hb⟩:=ho
   obtain⟨a,ha,Vh⟩:=hG.safe (lj r) (fy r hr) t ht hk
   obtain⟨a',Wy,rfl⟩:=List.mem_map.1 ha
   have:mZ r.body t=true:=by
    simp only[mZ,List.any_eq_true]
    exact⟨a',Wy,(uK _ _).2 Vh⟩
   rw[this]at hb
   cases hb
end Ax
/- The programs that Plain's rules make. No program here. -/
namespace Ax
def qp(x:EI):It:=⟨kc x.1,x.2⟩
def Dz(x:EI):Tok:=⟨x.1,0,x.2⟩
theorem qW{P:List ByteArray}{ar:ByteArray→Nat}{R:List ER}(hG:Good P ar R):iM ((bA R).map qp):=by
 obtain⟨T,hTd⟩:∃T:List Tok,T=(bA R).map Dz++[⟨1,0,⟨#[]⟩⟩]:=⟨_,rfl⟩
 have hT:T.map er=bA R++[(1,⟨#[]⟩)]:=by
  rw[hTd,List.map_append,List.map_map]
  have:(er∘Dz)=id:=by funext x;rfl
  rw[this,List.map_id]
  rfl
 have hlen:∀l:List ER,l.length≤(bA l).length:=by
  intro l
  induction l with
  | nil=>simp
  | cons r l ih=>simp[bA,fg]at ih ⊢;omega
 have hl:T.length=(bA R).length+1:=by
  have:=congrArg List.length hT
  simpa using this
 obtain⟨rs,h1,h2⟩:=nj (T:=T) R T.length 0 [] ⟨#[]⟩ (fun r hr=>(hG.fit r hr).1) (by rw[List.drop_zero];exact hT) (by have:=hlen R;omega)
 obtain⟨ab5,_,_⟩:=rT _ _ _ h1
 have e:(bA R).map qp=((bA R).map Dz).map (fun t=>It.of (conv t)):=by rw[List.map_map];rfl
 rw[e]
 apply Ee
 intro k hw
 by_cases hk:k+1<(bA R).length
 · have Sf:∀i,i<(bA R).length→aM T i=aM ((bA R).map Dz) i:=by
    intro i hi
    unfold aM
    rw[hTd,List.getElem?_append_left (by simpa using hi)]
   refine ab5 k (Nat.zero_le _) (by omega) ⟨?_, ?_⟩
   · unfold W;rw[Sf k (by omega)];exact hw.1
   · unfold W;rw[Sf (k+1) hk];exact hw.2
 · have:aM ((bA R).map Dz) (k+1)=0:=by
    unfold aM
    rw[List.getElem?_eq_none (by simp;omega)]
   have:=hw.2
   unfold W at this
   omega
theorem G3{k:EI}{t:Tok}(hk:0≤k.1∧k.1≤8)(ht:0≤t.kind∧t.kind≤8)(h:It.of (conv t)=qp k):er t=k:=by
 have:=Ru (a:=t) (b:=⟨k.1,0,k.2⟩) ht hk h
 exact this
theorem MS{P:List ByteArray}{ar:ByteArray→Nat}{R:List ER}(hG:Good P ar R)(Fc:∀x,x∈bA R→(qp x).tok)(EY:∀x,x∈bA R→0≤x.1∧x.1≤8){t:ByteArray}(ht:t.size≤600)(hL:PD t 0 ((bA R).map qp)):
 read t=(⟨((bA R).flatMap fun x=>x.2.data.toList).toArray⟩,0,0):=by
 obtain⟨m,h1,h2⟩:=Af t _ hL (by intro y hy;obtain⟨x,hx,rfl⟩:=List.mem_map.1 hy;exact Fc x hx) (qW hG)
 have hs:(split t).map (fun t=>It.of (conv t))=(bA R++[((1,⟨#[]⟩):EI)]).map qp:=by
  have e:(split t).map (fun t=>It.of (conv t))=((split t).map conv).map It.of:=by rw[List.map_map];rfl
  rw[e,←uD,h1,List.map_append,h2,List.map_append]
  rfl
 have qG:∀(l:List Tok) (E:List EI),zV l→(∀x,x∈E→0≤x.1∧x.1≤8)→l.map (fun t=>It.of (conv t))=E.map qp→l.map er=E:=by
  intro l
  induction l with
  | nil=>intro E _ _ h;cases E with | nil=>rfl | cons _ _=>simp at h
  | cons a l ih=>
   intro E h1 h2 h
   cases E with
   | nil=>simp at h
   | cons x E=>
    simp only[List.map_cons,List.cons.injEq]at h
    rw[List.map_cons,G3 (h2 x (by simp)) (h1 a (by simp)) h.1,ih E (fun t ht=>h1 t (by simp[ht])) (fun y hy=>h2 y (by simp[hy])) h.2]
 have hE:=qG (split t) _ (uu t) (by
  intro x hx
  rcases List.mem_append.1 hx with hx | hx
  · exact EY x hx
  · simp at hx;subst hx;exact⟨by decide,by decide⟩) hs
 rw[Jc hG ht hE]
 congr 1
 unfold plain
 have e:∀(l:List Tok),(l.flatMap fun t=>t.text.data.toList)=(l.map er).flatMap fun x=>x.2.data.toList:=fun l=>by rw[List.flatMap_map];rfl
 rw[e,hE,List.flatMap_append]
 simp
end Ax
/- Plain's rules as plain data, and that they are a program. No program here. -/
namespace Ax
def aT(c:Int)(n:Nat):Nat:=((if c<0 then-(c+1)else c)%(n:Int)).toNat
theorem eJ(c:Int)(n:Nat)(h:0<n):aT c n<n:=by
 unfold aT
 have h1:=Int.emod_lt_of_pos (if c<0 then-(c+1)else c) (show(0:Int)<n by omega)
 have h2:=Int.emod_nonneg (if c<0 then-(c+1)else c) (show(n:Int)≠0 by omega)
 omega
structure eo where
 pred:Int
 a:Int
 b:Int
structure aA where
 head:eo
 body:List eo
def bZ(n:Nat):ByteArray:=match n with | 0=>⟨#[97]⟩ | 1=>⟨#[98]⟩ | 2=>⟨#[99,49]⟩ | _=>⟨#[195,169]⟩
def cp(n:Nat):ByteArray:=match n with | 0=>⟨#[110]⟩ | 1=>⟨#[101]⟩ | _=>⟨#[112,195,188]⟩
def iH(n:Nat):ByteArray:=match n with | 0=>⟨#[88]⟩ | 1=>⟨#[89]⟩ | _=>⟨#[90]⟩
def dM(n:Nat):Term:=if n<3 then ⟨1,iH n⟩else ⟨0,bZ (n-3)⟩
def a8(a:eo):List Nat:=if aT a.pred 3=0 then [aT a.a 7]else [aT a.a 7,aT a.b 7]
def bG(r:aA):List eo:=r.body.take 2
def DI(r:aA):List Nat:=(bG r).flatMap a8
def di(r:aA):List Nat:=(a8 r.head).map fun h=>if h<3∧¬h∈DI r then h+3 else h
def jM(p:Nat)(ts:List Nat):EA:=(cp p,ts.map dM)
def Ls(r:aA):ER:=(jM (aT r.head.pred 3) (di r),(bG r).map fun b=>jM (aT b.pred 3) (a8 b))
def nO:List ER:=[(jM 0 [0],[jM 0 [0],jM 1 [0,0]]),(jM 0 [0],[jM 0 [0],jM 2 [0,0]])]
def gR(l:List aA):List ER:=nO++(l.take 6).map Ls
def gP:List ByteArray:=[cp 0,cp 1,cp 2]
def gar(p:ByteArray):Nat:=if p=cp 0 then 1 else 2
theorem Kj(n:Nat):cp n∈gP:=by
 unfold cp gP
 split<;>simp[cp]
theorem On(n:Nat)(h:n<3):gar (cp n)=if n=0 then 1 else 2:=by
 have:n=0∨n=1∨n=2:=by omega
 rcases this with rfl | rfl | rfl<;>decide
def gY(p:Nat)(ts:List Nat):Prop:=p<3∧ts.length=(if p=0 then 1 else 2)
theorem A8{p:Nat}{ts:List Nat}(h:gY p ts):EA.fit (jM p ts)∧(jM p ts).1∈gP∧(jM p ts).2.length=gar (jM p ts).1∧(jM p ts).2.length≤3:=by
 obtain⟨h1,h2⟩:=h
 have hl:(jM p ts).2.length=if p=0 then 1 else 2:=by simpa [jM]using h2
 refine⟨⟨?_, ?_⟩,Kj p, ?_, ?_⟩
 · intro e
   rw[e]at hl
   simp at hl
   split at hl<;>simp at hl
 · intro t ht
   simp only[jM,List.mem_map]at ht
   obtain⟨n,_,rfl⟩:=ht
   unfold dM
   split
   · exact .inr rfl
   · exact .inl rfl
 · rw[hl]
   exact(On p h1).symm
 · rw[hl]
   split<;>omega
theorem nF(a:eo):gY (aT a.pred 3) (a8 a):=by
 refine⟨eJ _ _ (by decide), ?_⟩
 unfold a8
 split<;>simp
theorem zQ(r:aA):gY (aT r.head.pred 3) (di r):=by
 have:=nF r.head
 exact⟨this.1,by unfold di;rw[List.length_map];exact this.2⟩
theorem oy(l:List aA):∀r,r∈gR l→(∃p ts,r.1=jM p ts∧gY p ts)∧(∀a,a∈r.2→∃p ts,a=jM p ts∧gY p ts)∧r.2.length≤2:=by
 intro r hr
 rcases List.mem_append.1 hr with hr | hr
 · have k0:gY 0 [0]:=⟨by decide,rfl⟩
   have k1:gY 1 [0,0]:=⟨by decide,rfl⟩
   have k2:gY 2 [0,0]:=⟨by decide,rfl⟩
   simp only[nO,List.mem_cons,List.not_mem_nil,or_false]at hr
   rcases hr with rfl | rfl
   · refine⟨⟨0,[0],rfl,k0⟩, ?_,by simp⟩
     intro a ha
     simp only[List.mem_cons,List.not_mem_nil,or_false]at ha
     rcases ha with rfl | rfl
     · exact⟨0,[0],rfl,k0⟩
     · exact⟨1,[0,0],rfl,k1⟩
   · refine⟨⟨0,[0],rfl,k0⟩, ?_,by simp⟩
     intro a ha
     simp only[List.mem_cons,List.not_mem_nil,or_false]at ha
     rcases ha with rfl | rfl
     · exact⟨0,[0],rfl,k0⟩
     · exact⟨2,[0,0],rfl,k2⟩
 · obtain⟨x,_,rfl⟩:=List.mem_map.1 hr
   refine⟨⟨_,_,rfl,zQ x⟩, ?_, ?_⟩
   · intro a ha
     obtain⟨b,_,rfl⟩:=List.mem_map.1 ha
     exact⟨_,_,rfl,nF b⟩
   · simp only[Ls,List.length_map,bG,List.length_take]
     omega
theorem sA(l:List aA):Good gP gar (gR l) where
 Cf:=by simp[gR,nO];omega
 nI:=by simp[gP]
 fit:=by
  intro r hr
  obtain⟨⟨p,ts,e,hk⟩,h2,h3⟩:=oy l r hr
  refine⟨⟨by rw[e];exact(A8 hk).1, ?_⟩,h3⟩
  intro a ha
  obtain⟨p,ts,rfl,hk⟩:=h2 a ha
  exact(A8 hk).1
 atoms:=by
  intro r hr a ha
  obtain⟨⟨p,ts,e,hk⟩,h2,_⟩:=oy l r hr
  rcases ha with rfl | ha
  · rw[e];exact(A8 hk).2
  · obtain⟨p,ts,rfl,hk⟩:=h2 a ha
    exact(A8 hk).2
 safe:=by
  intro r hr t ht hk
  rcases List.mem_append.1 hr with hr | hr
  · simp only[nO,List.mem_cons,List.not_mem_nil,or_false]at hr
    rcases hr with rfl | rfl
    · exact⟨jM 0 [0],by simp,ht⟩
    · exact⟨jM 0 [0],by simp,ht⟩
  · obtain⟨x,_,rfl⟩:=List.mem_map.1 hr
    simp only[Ls,jM,List.mem_map]at ht
    obtain⟨n,hn,rfl⟩:=ht
    have hn3:n<3:=by
     unfold dM at hk
     split at hk
     · assumption
     · simp at hk
    unfold di at hn
    obtain⟨h,_,e⟩:=List.mem_map.1 hn
    split at e
    · omega
    · rename_i hh
      subst e
      have hv:h∈DI x:=Classical.byContradiction fun hc=>hh ⟨hn3,hc⟩
      obtain⟨b,hb,hm⟩:=List.mem_flatMap.1 hv
      exact⟨jM (aT b.pred 3) (a8 b),List.mem_map.2 ⟨b,hb,rfl⟩,List.mem_map.2 ⟨h,hm,rfl⟩⟩
def fk:List EI:=[(2,cp 0),(2,cp 1),(2,cp 2),(2,bZ 0),(2,bZ 1),(2,bZ 2),(2,bZ 3),(3,iH 0),(3,iH 1),(3,iH 2),(4,⟨#[40]⟩),(5,⟨#[41]⟩),(6,⟨#[44]⟩),(7,⟨#[46]⟩),(8,⟨#[58,45]⟩)]
theorem rz:∀x,x∈fk→0≤x.1∧x.1≤8:=by
 intro x hx
 simp only[fk,List.mem_cons,List.not_mem_nil,or_false]at hx
 rcases hx with rfl | rfl | rfl | rfl | rfl | rfl | rfl | rfl | rfl | rfl | rfl | rfl | rfl | rfl | rfl<;>exact⟨by decide,by decide⟩
theorem L4(n:Nat):tI (dM n)∈fk:=by
 unfold dM
 split
 · rename_i h
   have:n=0∨n=1∨n=2:=by omega
   rcases this with rfl | rfl | rfl<;>simp[tI,fk,iH]
 · unfold tI bZ
   simp only
   split<;>simp[fk,bZ]
theorem wk:∀(ts:List Nat) (x:EI),x∈dg (ts.map dM)→x∈fk
 | [],x,h=>by simp[dg]at h
 | [n],x,h=>by
  simp[dg]at h
  subst h
  exact L4 n
 | n::k::ts,x,h=>by
  have:x=tI (dM n)∨x=lI∨x∈dg ((k::ts).map dM):=by simpa [dg]using h
  rcases this with rfl | rfl | h
  · exact L4 n
  · simp[fk,lI]
  · exact wk (k::ts) x h
theorem sY(p:Nat)(ts:List Nat)(x:EI)(h:x∈dC (jM p ts)):x∈fk:=by
 simp only[dC,jM,List.mem_cons,List.mem_append,List.not_mem_nil,or_false]at h
 rcases h with rfl | rfl | h | rfl
 · unfold cp
   split<;>simp[fk,cp]
 · simp[fk]
 · exact wk ts x h
 · simp[fk]
theorem wH:∀(l:List EA),(∀a,a∈l→∃p ts,a=jM p ts∧gY p ts)→∀x,x∈dG l→x∈fk
 | [],_,x,h=>by simp[dG]at h
 | [a],hl,x,h=>by
  obtain⟨p,ts,rfl,_⟩:=hl a (by simp)
  exact sY p ts x h
 | a::b::l,hl,x,h=>by
  obtain⟨p,ts,rfl,_⟩:=hl a (by simp)
  have:x∈dC (jM p ts)∨x=lI∨x∈dG (b::l):=by simpa [dG]using h
  rcases this with h | rfl | h
  · exact sY p ts x h
  · simp[fk,lI]
  · exact wH (b::l) (fun y hy=>hl y (by simp[hy])) x h
theorem rW(l:List aA)(x:EI)(h:x∈bA (gR l)):x∈fk:=by
 obtain⟨r,hr,hx⟩:=List.mem_flatMap.1 h
 obtain⟨⟨p,ts,e,_⟩,h2,_⟩:=oy l r hr
 unfold fg at hx
 rcases List.mem_append.1 hx with hx | hx
 · rcases List.mem_append.1 hx with hx | hx
   · rw[e]at hx
     exact sY p ts x hx
   · split at hx
     · cases hx
     · rcases List.mem_cons.1 hx with rfl | hx
       · simp[fk]
       · exact wH r.2 h2 x hx
 · simp at hx
   subst hx
   simp[fk]
theorem xe:∀x,x∈fk→(qp x).tok:=by
 intro x hx
 simp only[fk,List.mem_cons,List.not_mem_nil,or_false]at hx
 rcases hx with rfl | rfl | rfl | rfl | rfl | rfl | rfl | rfl | rfl | rfl | rfl | rfl | rfl | rfl | rfl<;>exact⟨by rfl,⟨by decide,by decide⟩,by decide⟩
def aC(l:List aA):ByteArray:=⟨((bA (gR l)).flatMap fun x=>x.2.data.toList).toArray⟩
theorem Ou(l:List aA){t:ByteArray}(ht:t.size≤600)(hL:PD t 0 ((bA (gR l)).map qp)):read t=(aC l,0,0):=
 MS (sA l) (fun x hx=>xe x (rW l x hx)) (fun x hx=>rz x (rW l x hx)) ht hL
end Ax
/- The leaves of program: isBlank, isCapital, isDigit, strings.HasPrefix, isSmall. -/
section
open Go.RowKit
theorem fe{a b:Bool}(h:a=b):Ending.returned (.bool a)=.returned (.bool b):=by rw[h]
theorem oR(r:Int)(w:World):
 Calls Tryz.prog 177 #[.int .i32 r] w fun e w'=>e=.returned (.bool (Ax.blank r))∧w'=w:=by
 go_enter Tryz.func177,Tryz.ntmps177
 go_wp2
 all_goals
  go_ret
  exact⟨fe (by simp[Ax.blank, *]),rfl⟩
theorem p8(r:Int)(w:World):
 Calls Tryz.prog 221 #[.int .i32 r] w fun e w'=>e=.returned (.bool (Ax.eS r))∧w'=w:=by
 go_enter Tryz.func221,Tryz.ntmps221
 go_wp2
 all_goals
  go_ret
  exact⟨fe (by rw[Bool.eq_iff_iff];simp[Ax.eS]<;>omega),rfl⟩
theorem lz(r:Int)(w:World):
 Calls Tryz.prog 259 #[.int .i32 r] w fun e w'=>e=.returned (.bool (Ax.digit r))∧w'=w:=by
 go_enter Tryz.func259,Tryz.ntmps259
 go_wp2
 all_goals
  go_ret
  exact⟨fe (by rw[Bool.eq_iff_iff];simp[Ax.digit]<;>omega),rfl⟩
theorem toList_eq(s:ByteArray):s.toList=s.data.toList:=by
 rcases s with⟨⟨l⟩⟩
 simp
theorem Gg(s p:ByteArray)(h:p.size≤s.size):((s.extract 0 p.size).toList==p.toList)=Ax.pre s p:=by
 unfold Ax.pre
 rw[toList_eq,toList_eq]
 rcases s with⟨⟨l⟩⟩
 rcases p with⟨⟨m⟩⟩
 rw[Bool.eq_iff_iff]
 simp only[ByteArray.size,List.size_toArray]at h
 simp[List.prefix_iff_eq_take]
 exact eq_comm
theorem KH(s p:ByteArray)(h:¬p.size≤s.size):Ax.pre s p=false:=by
 unfold Ax.pre
 rcases s with⟨⟨l⟩⟩
 rcases p with⟨⟨m⟩⟩
 rw[Bool.eq_false_iff]
 intro hp
 have:=(List.isPrefixOf_iff_prefix.1 hp).length_le
 exact h this
theorem lp(s p:ByteArray)(w:World)(hs:s.size≤maxLen)(hp:p.size≤maxLen):
 Calls Tryz.prog 205 #[.string s,.string p] w fun e w'=>e=.returned (.bool (Ax.pre s p))∧w'=w:=by
 unfold maxLen at hs hp
 go_enter Tryz.func205,Tryz.ntmps205
 go_wp2
 · go_ret
   exact⟨fe (Gg s p (by assumption)),rfl⟩
 · go_ret
   exact⟨fe (KH s p (by assumption)).symm,rfl⟩
theorem fY(s p:ByteArray)(w:World)(hs:s.size≤maxLen)(hp:p.size≤maxLen):
 Calls Tryz.prog 143 #[.string s,.string p] w fun e w'=>e=.returned (.bool (Ax.pre s p))∧w'=w:=by
 go_enter Tryz.func143,Tryz.ntmps143
 go_wp2_with (go_at_call 205;refine(lp _ _ _ hs hp).mono ?_;rintro e w' ⟨rfl,rfl⟩)
 go_ret
 exact⟨rfl,rfl⟩
theorem Fm(s:ByteArray):Ax.small s 65533=Ax.pre s ⟨#[239,191,189]⟩:=by simp[Ax.small]
theorem EP(s:ByteArray)(r:Int)(h:(r==65533)=false):Ax.small s r=((decide (97≤r)&&decide (r≤122))||decide (224≤r)):=by
 simp at h;simp[Ax.small,h]
theorem fG(s:ByteArray)(r:Int)(w:World)(hs:s.size≤maxLen):
 Calls Tryz.prog 219 #[.string s,.int .i32 r] w fun e w'=>e=.returned (.bool (Ax.small s r))∧w'=w:=by
 by_cases h:r=65533
 · subst h
   go_enter Tryz.func219,Tryz.ntmps219
   go_wp2_with (go_at_call 143;refine(fY _ _ _ hs (by decide)).mono ?_;rintro e w' ⟨rfl,rfl⟩)
   go_ret
   exact⟨fe (Fm s).symm,rfl⟩
 · have hb:(r==65533)=false:=by simp[h]
   clear h
   go_enter Tryz.func219,Tryz.ntmps219
   go_wp2_with fail
   all_goals
    go_ret
    exact⟨fe (by rw[EP s r hb,Bool.eq_iff_iff];simp<;>omega),rfl⟩
end
end Go.Proofs.YtdmicblafmhflaaGreatDoor
