/- Rules that are laid out as tokens are read again. No program here. -/
import Derived.Test.YtdmicblafmhflaaGreatDoorC02
import Derived.Test.YtdmicblafmhflaaGreatDoorProg
import Derived.KernelRfl
import Derived.Test.YtdmicblafmhflaaGreatDoorC00
import Derived.WalkKit
import Derived.WalkSpells
import Derived.WalkLawsBesides
set_option linter.unusedSimpArgs false
set_option linter.unusedVariables false
set_option maxHeartbeats 400000
namespace Go.Proofs.YtdmicblafmhflaaGreatDoor
namespace Ax
abbrev EA:=ByteArray×List Term
abbrev ER:=EA×List EA
abbrev EI:=Int×ByteArray
def tI(t:Term):EI:=(t.kind+2,t.text)
def lI:EI:=(6,⟨#[44]⟩)
def db:List Term→List EI
 | []=>[]
 | [t]=>[tI t]
 | t::u::r=>tI t::lI::db (u::r)
def dv(a:EA):List EI:=(2,a.1)::(4,⟨#[40]⟩)::(db a.2++[(5,⟨#[41]⟩)])
def dy:List EA→List EI
 | []=>[]
 | [a]=>dv a
 | a::b::r=>dv a++lI::dy (b::r)
def eZ(r:ER):List EI:=dv r.1++(if r.2=[]then []else (8,⟨#[58,45]⟩)::dy r.2)++[(7,⟨#[46]⟩)]
def bp(l:List ER):List EI:=l.flatMap eZ
def EA.fit(a:EA):Prop:=a.2≠[]∧∀t,t∈a.2→t.kind=0∨t.kind=1
theorem lq{E:List EI}{i:Nat}{x:EI}{l:List EI}(h:E.drop i=x::l):E[i]?=some x∧E.drop (i+1)=l:=by
 constructor
 · have:=congrArg (fun q=>q[0]?) h
   simpa using this
 · rw[←List.drop_drop,h];rfl
theorem gg{T:List Tok}{i:Nat}{x:EI}(h:(T.map er)[i]?=some x):aN T i=x.1:=by
 rw[List.getElem?_map]at h
 unfold aN
 cases h1:T[i]? <;>rw[h1]at h<;>simp[er]at h ⊢
 rw[←h]
theorem zF{T:List Tok}{i:Nat}{x:EI}(h:(T.map er)[i]?=some x):∃t,T[i]?=some t∧t.kind=x.1∧t.text=x.2:=by
 rw[List.getElem?_map]at h
 cases h1:T[i]? <;>rw[h1]at h<;>simp[er]at h
 rename_i t
 exact⟨t,rfl,by rw[←h],by rw[←h]⟩
theorem AV{T:List Tok}{i:Nat}{t:Term}(h:(T.map er)[i]?=some (tI t))(hk:t.kind=0∨t.kind=1):jR T i=(some t,i+1):=by
 obtain⟨u,h1,h2,h3⟩:=zF h
 simp only[tI]at h2 h3
 rw[wi h1 (by omega),h2,h3]
 simp
def IF(l:List EI):Prop:=∃x r,l=x::r∧x.1≠6
theorem yt{T:List Tok}:∀(ts:List Term) (f i:Nat) (acc:List Term) (post:List EI),ts≠[]→(∀t,t∈ts→t.kind=0∨t.kind=1)→(T.map er).drop i=db ts++post→IF post→ts.length≤f→
 bY T f i acc=(some (acc++ts),i+(db ts).length)∧(T.map er).drop (i+(db ts).length)=post
 | [],_,_,_,_,h,_,_,_,_=>absurd rfl h
 | [t],0,_,_,_,_,_,_,_,hf=>by simp at hf
 | _::_::_,0,_,_,_,_,_,_,_,hf=>by simp at hf
 | [t],f+1,i,acc,post,_,hk,hE,hp,_=>by
  obtain⟨h1,h2⟩:=lq (show(T.map er).drop i=tI t::post from hE)
  obtain⟨x,r,rfl,hx⟩:=hp
  obtain⟨h3,_⟩:=lq h2
  rw[oJ (AV h1 (hk t (by simp))) (by rw[gg h3];exact hx)]
  exact⟨rfl,h2⟩
 | t::u::r,f+1,i,acc,post,_,hk,hE,hp,hf=>by
  obtain⟨h1,h2⟩:=lq (show(T.map er).drop i=tI t::(lI::db (u::r)++post)from hE)
  obtain⟨h3,h4⟩:=lq (show(T.map er).drop (i+1)=lI::(db (u::r)++post)from h2)
  rw[tF (AV h1 (hk t (by simp))) (by rw[gg h3];rfl)]
  obtain⟨h5,h6⟩:=yt (u::r) f (i+1+1) (acc++[t]) post (by simp) (fun x hx=>hk x (by simp[hx])) h4 hp (by simp at hf ⊢;omega)
  have e:i+(db (t::u::r)).length=i+1+1+(db (u::r)).length:=by simp[db];omega
  rw[h5,e]
  exact⟨by simp,h6⟩
theorem wk:∀ts:List Term,ts.length≤(db ts).length
 | []=>by simp
 | [t]=>by simp[db]
 | t::u::r=>by have:=wk (u::r);simp[db]at this ⊢;omega
theorem ph{T:List Tok}{i:Nat}{a:EA}{post:List EI}(ha:a.fit)(hE:(T.map er).drop i=dv a++post):
 ∃a',b9 T i=(some a',i+(dv a).length)∧Ct a'=a∧(T.map er).drop (i+(dv a).length)=post:=by
 obtain⟨h1,h2⟩:=lq (show(T.map er).drop i=(2,a.1)::((4,⟨#[40]⟩)::(db a.2++[(5,⟨#[41]⟩)])++post)from hE)
 obtain⟨h3,h4⟩:=lq (show(T.map er).drop (i+1)=(4,⟨#[40]⟩)::(db a.2++[(5,⟨#[41]⟩)]++post)from h2)
 rw[List.append_assoc]at h4
 have hlen:a.2.length≤T.length:=by
  have:=congrArg List.length h4
  simp only[List.length_drop,List.length_map,List.length_append]at this
  have:=wk a.2
  omega
 obtain⟨h5,h6⟩:=yt a.2 T.length (i+1+1) [] _ ha.1 ha.2 h4 ⟨_,_,rfl,by simp⟩ hlen
 obtain⟨h7,h8⟩:=lq h6
 obtain⟨t,ht,hk,re⟩:=zF h1
 refine⟨⟨t.at_,t.text,a.2⟩, ?_, ?_, ?_⟩
 · rw[Bg ht (by simpa using hk) (gg h3) (by simpa using h5) (gg h7)]
   simp[dv]
   omega
 · simp only at re;simp[Ct,re]
 · have e:i+(dv a).length=i+1+1+(db a.2).length+1:=by simp[dv];omega
   rw[e];exact h8
theorem xq{T:List Tok}:∀(l:List EA) (f i:Nat) (acc:List Atom) (post:List EI),l≠[]→(∀a,a∈l→a.fit)→(T.map er).drop i=dy l++post→IF post→l.length≤f→
 ∃r,bV T f i acc=(some (acc++r),i+(dy l).length)∧r.map Ct=l∧(T.map er).drop (i+(dy l).length)=post
 | [],_,_,_,_,h,_,_,_,_=>absurd rfl h
 | [a],0,_,_,_,_,_,_,_,hf=>by simp at hf
 | _::_::_,0,_,_,_,_,_,_,_,hf=>by simp at hf
 | [a],f+1,i,acc,post,_,hk,hE,hp,_=>by
  obtain⟨a',h1,h2,h3⟩:=ph (hk a (by simp)) (show(T.map er).drop i=dv a++post from hE)
  obtain⟨x,r,rfl,hx⟩:=hp
  obtain⟨h4,_⟩:=lq h3
  refine⟨[a'], ?_,by simp[h2],h3⟩
  rw[gL h1 (by rw[gg h4];exact hx)]
  rfl
 | a::b::l,f+1,i,acc,post,_,hk,hE,hp,hf=>by
  have Tj:(T.map er).drop i=dv a++(lI::(dy (b::l)++post)):=by rw[hE];simp[dy]
  obtain⟨a',h1,h2,h3⟩:=ph (hk a (by simp)) Tj
  obtain⟨h4,h5⟩:=lq h3
  obtain⟨r,h6,h7,h8⟩:=xq (b::l) f (i+(dv a).length+1) (acc++[a']) post (by simp) (fun x hx=>hk x (by simp[hx])) h5 hp (by simp at hf ⊢;omega)
  have e:i+(dy (a::b::l)).length=i+(dv a).length+1+(dy (b::l)).length:=by simp[dy];omega
  refine⟨a'::r, ?_,by simp[h2,h7],by rw[e];exact h8⟩
  rw[j9 h1 (by rw[gg h4];rfl),h6,e]
  simp
theorem vW:∀l:List EA,l.length≤(dy l).length
 | []=>by simp
 | [a]=>by simp[dy,dv]
 | a::b::r=>by have:=vW (b::r);simp[dy,dv]at this ⊢;omega
def ER.fit(r:ER):Prop:=r.1.fit∧∀a,a∈r.2→a.fit
theorem I7{T:List Tok}{i:Nat}{r:ER}{post:List EI}(hr:ER.fit r)(hE:(T.map er).drop i=eZ r++post):
 ∃r',eF T i=(some r',i+(eZ r).length)∧kX r'=r∧(T.map er).drop (i+(eZ r).length)=post:=by
 rcases r with⟨h,b⟩
 by_cases hb:b=[]
 · subst hb
   have Tj:(T.map er).drop i=dv h++((7,⟨#[46]⟩)::post):=by rw[hE];simp[eZ]
   obtain⟨a',h1,h2,h3⟩:=ph hr.1 Tj
   obtain⟨h4,h5⟩:=lq h3
   have e:i+(eZ (h,[])).length=i+(dv h).length+1:=by simp[eZ];omega
   refine⟨⟨a',[]⟩, ?_,by simp[kX,h2],by rw[e];exact h5⟩
   rw[mU h1 (by rw[gg h4];simp) (gg h4),e]
 · have Tj:(T.map er).drop i=dv h++((8,⟨#[58,45]⟩)::(dy b++((7,⟨#[46]⟩)::post))):=by rw[hE];simp[eZ,hb]
   obtain⟨a',h1,h2,h3⟩:=ph hr.1 Tj
   obtain⟨h4,h5⟩:=lq h3
   have hlen:b.length≤T.length:=by
    have:=congrArg List.length h5
    simp only[List.length_drop,List.length_map,List.length_append]at this
    have:=vW b
    omega
   obtain⟨l,h6,h7,h8⟩:=xq b T.length (i+(dv h).length+1) [] _ hb hr.2 h5 ⟨_,_,rfl,by simp⟩ hlen
   obtain⟨h9,Wt⟩:=lq h8
   have e:i+(eZ (h,b)).length=i+(dv h).length+1+(dy b).length+1:=by simp[eZ,hb];omega
   refine⟨⟨a',l⟩, ?_,by simp[kX,h2,h7],by rw[e];exact Wt⟩
   rw[mY h1 (gg h4) (by simpa using h6) (gg h9),e]
theorem nw{T:List Tok}:∀(l:List ER) (f i:Nat) (acc:List br) (x:ByteArray),(∀r,r∈l→ER.fit r)→(T.map er).drop i=bp l++[(1,x)]→l.length<f→
 ∃rs,bU T f i acc=(some (acc++rs),i+(bp l).length)∧rs.map kX=l
 | _,0,_,_,_,_,_,hf=>by omega
 | [],f+1,i,acc,x,_,hE,_=>by
  obtain⟨h1,_⟩:=lq (show(T.map er).drop i=(1,x)::[]from hE)
  exact⟨[],by rw[kE (gg h1)];simp[bp],rfl⟩
 | r::l,f+1,i,acc,x,hk,hE,hf=>by
  have Tj:(T.map er).drop i=eZ r++(bp l++[(1,x)]):=by rw[hE];simp[bp]
  have sJ:¬aN T i=1:=by
   have:(T.map er).drop i=(2,r.1.1)::((4,⟨#[40]⟩)::(db r.1.2++[(5,⟨#[41]⟩)])++(if r.2=[]then []else (8,⟨#[58,45]⟩)::dy r.2)++[(7,⟨#[46]⟩)]++(bp l++[(1,x)])):=by rw[Tj];simp[eZ,dv]
   rw[gg (lq this).1]
   simp
  obtain⟨r',h1,h2,h3⟩:=I7 (hk r (by simp)) Tj
  obtain⟨rs,h4,h5⟩:=nw l f (i+(eZ r).length) (acc++[r']) x (fun y hy=>hk y (by simp[hy])) h3 (by simp at hf ⊢;omega)
  refine⟨r'::rs, ?_,by simp[h2,h5]⟩
  rw[mo sJ h1,h4]
  have e:i+(bp (r::l)).length=i+(eZ r).length+(bp l).length:=by simp[bp];omega
  rw[e]
  simp
end Ax
/- Rules over few predicates of fixed places are a program. No program here. -/
namespace Ax
theorem yg{α:Type}[DecidableEq α]:∀(P l:List α),l.Nodup→(∀x,x∈l→x∈P)→l.length≤P.length
 | [],l,_,h=>by
  cases l with
  | nil=>simp
  | cons a l=>exact absurd (h a (by simp)) (by simp)
 | p::P,l,hn,h=>by
  have h1:(l.erase p).Nodup:=hn.erase p
  have h2:∀x,x∈l.erase p→x∈P:=by
   intro x hx
   have nR:=List.mem_of_mem_erase hx
   rcases List.mem_cons.1 (h x nR)with rfl | hp
   · exact absurd hx (hn.not_mem_erase)
   · exact hp
  have:=yg P (l.erase p) h1 h2
  have hl:l.length≤(l.erase p).length+1:=by
   rw[List.length_erase]
   split<;>omega
  simp only[List.length_cons]
  omega
theorem lT(P:List ByteArray):∀(l:List Atom) (ps:List ByteArray),ps.Nodup→(∀x,x∈ps→x∈P)→(∀a,a∈l→a.pred∈P)→(da ps l).Nodup∧∀x,x∈da ps l→x∈P
 | [],ps,h1,h2,_=>⟨h1,h2⟩
 | a::l,ps,h1,h2,h3=>by
  unfold da
  by_cases hh:has ps a.pred=true
  · rw[if_pos hh]
    exact lT P l ps h1 h2 (fun x hx=>h3 x (by simp[hx]))
  · rw[if_neg hh]
    refine lT P l _ ?_ ?_ (fun x hx=>h3 x (by simp[hx]))
    · rw[List.nodup_append]
      refine⟨h1,by simp, ?_⟩
      intro x hx y hy
      simp at hy
      subst hy
      intro e
      subst e
      exact hh ((Ho _ _).2 hx)
    · intro x hx
      rcases List.mem_append.1 hx with hx | hx
      · exact h2 x hx
      · simp at hx;subst hx;exact h3 a (by simp)
theorem eM(P:List ByteArray)(hP:P.length≤6):∀(l:List br) (i:Nat) (ps:List ByteArray),ps.Nodup→(∀x,x∈ps→x∈P)→i+l.length≤8→(∀r,r∈l→r.body.length≤2∧∀a,a∈r.atoms→a.pred∈P∧a.ag.length≤3)→cz i ps l=none
 | [],_,_,_,_,_,_=>rfl
 | r::l,i,ps,h1,h2,h3,h4=>by
  obtain⟨hb,ha⟩:=h4 r (by simp)
  obtain⟨k1,k2⟩:=lT P r.atoms ps h1 h2 (fun a hx=>(ha a hx).1)
  have hs:=yg P _ k1 k2
  simp only[List.length_cons]at h3
  have hw:jf r.atoms=false:=by
   rw[Bool.eq_false_iff]
   intro hh
   simp only[jf,List.any_eq_true,wide,decide_eq_true_eq]at hh
   obtain⟨a,hx,hy⟩:=hh
   have:=(ha a hx).2
   omega
  have hm:gx i (da ps r.atoms) r=false:=by
   unfold gx
   rw[hw]
   simp
   omega
  unfold cz
  rw[hm]
  simp only[Bool.false_eq_true,if_false]
  exact eM P hP l (i+1) _ k1 k2 (by omega) (fun x hx=>h4 x (by simp[hx]))
theorem qG(ar:ByteArray→Nat):∀(l:List Atom) (m:List (ByteArray×Nat)),(∀x,x∈m→x.2=ar x.1)→(∀a,a∈l→a.ag.length=ar a.pred)→dE m l=none
 | [],_,_,_=>rfl
 | a::l,m,h1,h2=>by
  have ha:=h2 a (by simp)
  unfold dE
  split
  · rename_i n hn
    have:n=a.ag.length:=by
     unfold look at hn
     rw[Option.map_eq_some_iff]at hn
     obtain⟨x,hx,rfl⟩:=hn
     have hm:=List.mem_of_find?_eq_some hx
     have hp:=List.find?_some hx
     simp only[decide_eq_true_eq]at hp
     rw[h1 x hm,hp,ha]
    rw[if_pos this]
    exact qG ar l m h1 (fun x hx=>h2 x (by simp[hx]))
  · refine qG ar l _ ?_ (fun x hx=>h2 x (by simp[hx]))
    intro x hx
    rcases List.mem_cons.1 hx with rfl | hx
    · exact ha
    · exact h1 x hx
theorem fZ:∀(l:List br),(∀r,r∈l→lO r=false)→b8 l=none
 | [],_=>rfl
 | r::l,h=>by
  unfold b8
  rw[h r (by simp)]
  simp only[Bool.false_eq_true,if_false]
  exact fZ l (fun x hx=>h x (by simp[hx]))
structure Good(P:List ByteArray)(ar:ByteArray→Nat)(R:List ER):Prop where
 CZ:R.length≤8
 kM:P.length≤6
 fit:∀r,r∈R→ER.fit r∧r.2.length≤2
 atoms:∀r,r∈R→∀a,a=r.1∨a∈r.2→a.1∈P∧a.2.length=ar a.1∧a.2.length≤3
 safe:∀r,r∈R→∀t,t∈r.1.2→t.kind=1→∃a,a∈r.2∧t∈a.2
theorem KJ{P:List ByteArray}{ar:ByteArray→Nat}{R:List ER}(hG:Good P ar R){t x:ByteArray}(ht:t.size≤600)(hE:(split t).map er=bp R++[(1,x)]):read t=(plain t,0,0):=by
 have hlen:∀l:List ER,l.length≤(bp l).length:=by
  intro l
  induction l with
  | nil=>simp
  | cons r l ih=>simp[bp,eZ]at ih ⊢;omega
 have hT:R.length<(split t).length:=by
  have:=congrArg List.length hE
  simp only[List.length_map,List.length_append,List.length_singleton]at this
  have:=hlen R
  omega
 obtain⟨rs,h1,h2⟩:=nw (T:=split t) R (split t).length 0 [] x (fun r hr=>(hG.fit r hr).1) (by rw[List.drop_zero];exact hE) hT
 rw[List.nil_append]at h1
 have fU:∀r,r∈rs→kX r∈R:=fun r hr=>by rw[←h2];exact List.mem_map.2 ⟨r,hr,rfl⟩
 have u9:∀r,r∈rs→∀a,a∈r.atoms→a.pred∈P∧a.ag.length=ar a.pred∧a.ag.length≤3:=by
  intro r hr a ha
  refine hG.atoms (kX r) (fU r hr) (Ct a) ?_
  rcases List.mem_cons.1 ha with rfl | ha
  · exact .inl rfl
  · exact .inr (List.mem_map.2 ⟨a,ha,rfl⟩)
 refine Hb (by omega) h1 ?_ ?_ ?_
 · refine eM P hG.kM rs 0 [] (by simp) (fun _ h=>by cases h) ?_ ?_
   · have:=congrArg List.length h2
     simp at this
     have:=hG.CZ
     omega
   · intro r hr
     have hb:=(hG.fit _ (fU r hr)).2
     refine⟨by simpa [kX]using hb,fun a ha=>⟨(u9 r hr a ha).1,(u9 r hr a ha).2.2⟩⟩
 · refine qG ar _ [] (fun _ h=>by cases h) ?_
   intro a ha
   obtain⟨r,hr,ha⟩:=List.mem_flatMap.1 ha
   exact(u9 r hr a ha).2.1
 · refine fZ rs ?_
   intro r hr
   rw[Bool.eq_false_iff]
   intro ho
   simp only[lO,List.any_eq_true,ij,Bool.and_eq_true,decide_eq_true_eq,Bool.not_eq_true']at ho
   obtain⟨t,ht,hk,hb⟩:=ho
   obtain⟨a,ha,VC⟩:=hG.safe (kX r) (fU r hr) t ht hk
   obtain⟨a',ha',rfl⟩:=List.mem_map.1 ha
   have:nb r.body t=true:=by
    simp only[nb,List.any_eq_true]
    exact⟨a',ha',(uK _ _).2 VC⟩
   rw[this]at hb
   cases hb
end Ax
/- The programs that Plain's rules make. No program here. -/
namespace Ax
def qn(x:EI):It:=⟨kc x.1,x.2⟩
def Em(x:EI):Tok:=⟨x.1,0,x.2⟩
theorem su{P:List ByteArray}{ar:ByteArray→Nat}{R:List ER}(hG:Good P ar R):iB ((bp R).map qn):=by
 obtain⟨T,hTd⟩:∃T:List Tok,T=(bp R).map Em++[⟨1,0,⟨#[]⟩⟩]:=⟨_,rfl⟩
 have hT:T.map er=bp R++[(1,⟨#[]⟩)]:=by
  rw[hTd,List.map_append,List.map_map]
  have:(er∘Em)=id:=by funext x;rfl
  rw[this,List.map_id]
  rfl
 have hlen:∀l:List ER,l.length≤(bp l).length:=by
  intro l
  induction l with
  | nil=>simp
  | cons r l ih=>simp[bp,eZ]at ih ⊢;omega
 have hl:T.length=(bp R).length+1:=by
  have:=congrArg List.length hT
  simpa using this
 obtain⟨rs,h1,h2⟩:=nw (T:=T) R T.length 0 [] ⟨#[]⟩ (fun r hr=>(hG.fit r hr).1) (by rw[List.drop_zero];exact hT) (by have:=hlen R;omega)
 obtain⟨adg,_,_⟩:=rT _ _ _ h1
 have e:(bp R).map qn=((bp R).map Em).map (fun t=>It.of (conv t)):=by rw[List.map_map];rfl
 rw[e]
 apply CG
 intro k hw
 by_cases hk:k+1<(bp R).length
 · have Sy:∀i,i<(bp R).length→aN T i=aN ((bp R).map Em) i:=by
    intro i hi
    unfold aN
    rw[hTd,List.getElem?_append_left (by simpa using hi)]
   refine adg k (Nat.zero_le _) (by omega) ⟨?_, ?_⟩
   · unfold W;rw[Sy k (by omega)];exact hw.1
   · unfold W;rw[Sy (k+1) hk];exact hw.2
 · have:aN ((bp R).map Em) (k+1)=0:=by
    unfold aN
    rw[List.getElem?_eq_none (by simp;omega)]
   have:=hw.2
   unfold W at this
   omega
theorem Hj{k:EI}{t:Tok}(hk:0≤k.1∧k.1≤8)(ht:0≤t.kind∧t.kind≤8)(h:It.of (conv t)=qn k):er t=k:=by
 have:=QD (a:=t) (b:=⟨k.1,0,k.2⟩) ht hk h
 exact this
theorem LY{P:List ByteArray}{ar:ByteArray→Nat}{R:List ER}(hG:Good P ar R)(Gd:∀x,x∈bp R→(qn x).tok)(FO:∀x,x∈bp R→0≤x.1∧x.1≤8){t:ByteArray}(ht:t.size≤600)(hL:QA t 0 ((bp R).map qn)):
 read t=(⟨((bp R).flatMap fun x=>x.2.data.toList).toArray⟩,0,0):=by
 obtain⟨m,h1,h2⟩:=AX t _ hL (by intro y hy;obtain⟨x,hx,rfl⟩:=List.mem_map.1 hy;exact Gd x hx) (su hG)
 have hs:(split t).map (fun t=>It.of (conv t))=(bp R++[((1,⟨#[]⟩):EI)]).map qn:=by
  have e:(split t).map (fun t=>It.of (conv t))=((split t).map conv).map It.of:=by rw[List.map_map];rfl
  rw[e,←uN,h1,List.map_append,h2,List.map_append]
  rfl
 have qB:∀(l:List Tok) (E:List EI),A5 l→(∀x,x∈E→0≤x.1∧x.1≤8)→l.map (fun t=>It.of (conv t))=E.map qn→l.map er=E:=by
  intro l
  induction l with
  | nil=>intro E _ _ h;cases E with | nil=>rfl | cons _ _=>simp at h
  | cons a l ih=>
   intro E h1 h2 h
   cases E with
   | nil=>simp at h
   | cons x E=>
    simp only[List.map_cons,List.cons.injEq]at h
    rw[List.map_cons,Hj (h2 x (by simp)) (h1 a (by simp)) h.1,ih E (fun t ht=>h1 t (by simp[ht])) (fun y hy=>h2 y (by simp[hy])) h.2]
 have hE:=qB (split t) _ (uz t) (by
  intro x hx
  rcases List.mem_append.1 hx with hx | hx
  · exact FO x hx
  · simp at hx;subst hx;exact⟨by decide,by decide⟩) hs
 rw[KJ hG ht hE]
 congr 1
 unfold plain
 have e:∀(l:List Tok),(l.flatMap fun t=>t.text.data.toList)=(l.map er).flatMap fun x=>x.2.data.toList:=fun l=>by rw[List.flatMap_map];rfl
 rw[e,hE,List.flatMap_append]
 simp
end Ax
/- Plain's rules as plain data, and that they are a program. No program here. -/
namespace Ax
def bk(c:Int)(n:Nat):Nat:=((if c<0 then-(c+1)else c)%(n:Int)).toNat
theorem eB(c:Int)(n:Nat)(h:0<n):bk c n<n:=by
 unfold bk
 have h1:=Int.emod_lt_of_pos (if c<0 then-(c+1)else c) (show(0:Int)<n by omega)
 have h2:=Int.emod_nonneg (if c<0 then-(c+1)else c) (show(n:Int)≠0 by omega)
 omega
structure dV where
 pred:Int
 a:Int
 b:Int
structure ay where
 head:dV
 body:List dV
def cf(n:Nat):ByteArray:=match n with | 0=>⟨#[97]⟩ | 1=>⟨#[98]⟩ | 2=>⟨#[99,49]⟩ | _=>⟨#[195,169]⟩
def cu(n:Nat):ByteArray:=match n with | 0=>⟨#[110]⟩ | 1=>⟨#[101]⟩ | _=>⟨#[112,195,188]⟩
def gY(n:Nat):ByteArray:=match n with | 0=>⟨#[88]⟩ | 1=>⟨#[89]⟩ | _=>⟨#[90]⟩
def dG(n:Nat):Term:=if n<3 then ⟨1,gY n⟩else ⟨0,cf (n-3)⟩
def bW(a:dV):List Nat:=if bk a.pred 3=0 then [bk a.a 7]else [bk a.a 7,bk a.b 7]
def jS(r:ay):List dV:=r.body.take 2
def EH(r:ay):List Nat:=(jS r).flatMap bW
def eH(r:ay):List Nat:=(bW r.head).map fun h=>if h<3∧¬h∈EH r then h+3 else h
def jH(p:Nat)(ts:List Nat):EA:=(cu p,ts.map dG)
def J6(r:ay):ER:=(jH (bk r.head.pred 3) (eH r),(jS r).map fun b=>jH (bk b.pred 3) (bW b))
def ls:List ER:=[(jH 0 [0],[jH 0 [0],jH 1 [0,0]]),(jH 0 [0],[jH 0 [0],jH 2 [0,0]])]
def gR(l:List ay):List ER:=ls++(l.take 6).map J6
def gP:List ByteArray:=[cu 0,cu 1,cu 2]
def gar(p:ByteArray):Nat:=if p=cu 0 then 1 else 2
theorem Kn(n:Nat):cu n∈gP:=by
 unfold cu gP
 split<;>simp[cu]
theorem Np(n:Nat)(h:n<3):gar (cu n)=if n=0 then 1 else 2:=by
 have:n=0∨n=1∨n=2:=by omega
 rcases this with rfl | rfl | rfl<;>decide
def gM(p:Nat)(ts:List Nat):Prop:=p<3∧ts.length=(if p=0 then 1 else 2)
theorem Ce{p:Nat}{ts:List Nat}(h:gM p ts):EA.fit (jH p ts)∧(jH p ts).1∈gP∧(jH p ts).2.length=gar (jH p ts).1∧(jH p ts).2.length≤3:=by
 obtain⟨h1,h2⟩:=h
 have hl:(jH p ts).2.length=if p=0 then 1 else 2:=by simpa [jH]using h2
 refine⟨⟨?_, ?_⟩,Kn p, ?_, ?_⟩
 · intro e
   rw[e]at hl
   simp at hl
   split at hl<;>simp at hl
 · intro t ht
   simp only[jH,List.mem_map]at ht
   obtain⟨n,_,rfl⟩:=ht
   unfold dG
   split
   · exact .inr rfl
   · exact .inl rfl
 · rw[hl]
   exact(Np p h1).symm
 · rw[hl]
   split<;>omega
theorem qo(a:dV):gM (bk a.pred 3) (bW a):=by
 refine⟨eB _ _ (by decide), ?_⟩
 unfold bW
 split<;>simp
theorem As(r:ay):gM (bk r.head.pred 3) (eH r):=by
 have:=qo r.head
 exact⟨this.1,by unfold eH;rw[List.length_map];exact this.2⟩
theorem oc(l:List ay):∀r,r∈gR l→(∃p ts,r.1=jH p ts∧gM p ts)∧(∀a,a∈r.2→∃p ts,a=jH p ts∧gM p ts)∧r.2.length≤2:=by
 intro r hr
 rcases List.mem_append.1 hr with hr | hr
 · have k0:gM 0 [0]:=⟨by decide,rfl⟩
   have k1:gM 1 [0,0]:=⟨by decide,rfl⟩
   have k2:gM 2 [0,0]:=⟨by decide,rfl⟩
   simp only[ls,List.mem_cons,List.not_mem_nil,or_false]at hr
   rcases hr with rfl | rfl
   · refine⟨⟨0,[0],rfl,k0⟩, ?_,by simp⟩
     intro a ha
     simp only[List.mem_cons,List.not_mem_nil,or_false]at ha
     rcases ha with rfl | rfl
     · exact⟨0,[0],rfl,k0⟩
     · exact⟨1,[0,0],rfl,k1⟩
   · refine⟨⟨0,[0],rfl,k0⟩, ?_,by simp⟩
     intro a ha
     simp only[List.mem_cons,List.not_mem_nil,or_false]at ha
     rcases ha with rfl | rfl
     · exact⟨0,[0],rfl,k0⟩
     · exact⟨2,[0,0],rfl,k2⟩
 · obtain⟨x,_,rfl⟩:=List.mem_map.1 hr
   refine⟨⟨_,_,rfl,As x⟩, ?_, ?_⟩
   · intro a ha
     obtain⟨b,_,rfl⟩:=List.mem_map.1 ha
     exact⟨_,_,rfl,qo b⟩
   · simp only[J6,List.length_map,jS,List.length_take]
     omega
theorem qZ(l:List ay):Good gP gar (gR l) where
 CZ:=by simp[gR,ls];omega
 kM:=by simp[gP]
 fit:=by
  intro r hr
  obtain⟨⟨p,ts,e,hk⟩,h2,h3⟩:=oc l r hr
  refine⟨⟨by rw[e];exact(Ce hk).1, ?_⟩,h3⟩
  intro a ha
  obtain⟨p,ts,rfl,hk⟩:=h2 a ha
  exact(Ce hk).1
 atoms:=by
  intro r hr a ha
  obtain⟨⟨p,ts,e,hk⟩,h2,_⟩:=oc l r hr
  rcases ha with rfl | ha
  · rw[e];exact(Ce hk).2
  · obtain⟨p,ts,rfl,hk⟩:=h2 a ha
    exact(Ce hk).2
 safe:=by
  intro r hr t ht hk
  rcases List.mem_append.1 hr with hr | hr
  · simp only[ls,List.mem_cons,List.not_mem_nil,or_false]at hr
    rcases hr with rfl | rfl
    · exact⟨jH 0 [0],by simp,ht⟩
    · exact⟨jH 0 [0],by simp,ht⟩
  · obtain⟨x,_,rfl⟩:=List.mem_map.1 hr
    simp only[J6,jH,List.mem_map]at ht
    obtain⟨n,hn,rfl⟩:=ht
    have hn3:n<3:=by
     unfold dG at hk
     split at hk
     · assumption
     · simp at hk
    unfold eH at hn
    obtain⟨h,_,e⟩:=List.mem_map.1 hn
    split at e
    · omega
    · rename_i hh
      subst e
      have hv:h∈EH x:=Classical.byContradiction fun hc=>hh ⟨hn3,hc⟩
      obtain⟨b,hb,hm⟩:=List.mem_flatMap.1 hv
      exact⟨jH (bk b.pred 3) (bW b),List.mem_map.2 ⟨b,hb,rfl⟩,List.mem_map.2 ⟨h,hm,rfl⟩⟩
def fh:List EI:=[(2,cu 0),(2,cu 1),(2,cu 2),(2,cf 0),(2,cf 1),(2,cf 2),(2,cf 3),(3,gY 0),(3,gY 1),(3,gY 2),(4,⟨#[40]⟩),(5,⟨#[41]⟩),(6,⟨#[44]⟩),(7,⟨#[46]⟩),(8,⟨#[58,45]⟩)]
theorem rQ:∀x,x∈fh→0≤x.1∧x.1≤8:=by
 intro x hx
 simp only[fh,List.mem_cons,List.not_mem_nil,or_false]at hx
 rcases hx with rfl | rfl | rfl | rfl | rfl | rfl | rfl | rfl | rfl | rfl | rfl | rfl | rfl | rfl | rfl<;>exact⟨by decide,by decide⟩
theorem OI(n:Nat):tI (dG n)∈fh:=by
 unfold dG
 split
 · rename_i h
   have:n=0∨n=1∨n=2:=by omega
   rcases this with rfl | rfl | rfl<;>simp[tI,fh,gY]
 · unfold tI cf
   simp only
   split<;>simp[fh,cf]
theorem xF:∀(ts:List Nat) (x:EI),x∈db (ts.map dG)→x∈fh
 | [],x,h=>by simp[db]at h
 | [n],x,h=>by
  simp[db]at h
  subst h
  exact OI n
 | n::k::ts,x,h=>by
  have:x=tI (dG n)∨x=lI∨x∈db ((k::ts).map dG):=by simpa [db]using h
  rcases this with rfl | rfl | h
  · exact OI n
  · simp[fh,lI]
  · exact xF (k::ts) x h
theorem tQ(p:Nat)(ts:List Nat)(x:EI)(h:x∈dv (jH p ts)):x∈fh:=by
 simp only[dv,jH,List.mem_cons,List.mem_append,List.not_mem_nil,or_false]at h
 rcases h with rfl | rfl | h | rfl
 · unfold cu
   split<;>simp[fh,cu]
 · simp[fh]
 · exact xF ts x h
 · simp[fh]
theorem wG:∀(l:List EA),(∀a,a∈l→∃p ts,a=jH p ts∧gM p ts)→∀x,x∈dy l→x∈fh
 | [],_,x,h=>by simp[dy]at h
 | [a],hl,x,h=>by
  obtain⟨p,ts,rfl,_⟩:=hl a (by simp)
  exact tQ p ts x h
 | a::b::l,hl,x,h=>by
  obtain⟨p,ts,rfl,_⟩:=hl a (by simp)
  have:x∈dv (jH p ts)∨x=lI∨x∈dy (b::l):=by simpa [dy]using h
  rcases this with h | rfl | h
  · exact tQ p ts x h
  · simp[fh,lI]
  · exact wG (b::l) (fun y hy=>hl y (by simp[hy])) x h
theorem sj(l:List ay)(x:EI)(h:x∈bp (gR l)):x∈fh:=by
 obtain⟨r,hr,hx⟩:=List.mem_flatMap.1 h
 obtain⟨⟨p,ts,e,_⟩,h2,_⟩:=oc l r hr
 unfold eZ at hx
 rcases List.mem_append.1 hx with hx | hx
 · rcases List.mem_append.1 hx with hx | hx
   · rw[e]at hx
     exact tQ p ts x hx
   · split at hx
     · cases hx
     · rcases List.mem_cons.1 hx with rfl | hx
       · simp[fh]
       · exact wG r.2 h2 x hx
 · simp at hx
   subst hx
   simp[fh]
theorem yw:∀x,x∈fh→(qn x).tok:=by
 intro x hx
 simp only[fh,List.mem_cons,List.not_mem_nil,or_false]at hx
 rcases hx with rfl | rfl | rfl | rfl | rfl | rfl | rfl | rfl | rfl | rfl | rfl | rfl | rfl | rfl | rfl<;>exact⟨by rfl,⟨by decide,by decide⟩,by decide⟩
def au(l:List ay):ByteArray:=⟨((bp (gR l)).flatMap fun x=>x.2.data.toList).toArray⟩
theorem Nx(l:List ay){t:ByteArray}(ht:t.size≤600)(hL:QA t 0 ((bp (gR l)).map qn)):read t=(au l,0,0):=
 LY (qZ l) (fun x hx=>yw x (sj l x hx)) (fun x hx=>rQ x (sj l x hx)) ht hL
end Ax
/- The leaves of program: isBlank, isCapital, isDigit, strings.HasPrefix, isSmall. -/
section
open Go.RowKit
theorem eX{a b:Bool}(h:a=b):Ending.returned (.bool a)=.returned (.bool b):=by rw[h]
theorem oA(r:Int)(w:World):
 Calls Tryz.prog 177 #[.int .i32 r] w fun e w'=>e=.returned (.bool (Ax.blank r))∧w'=w:=by
 go_enter Tryz.func177,Tryz.ntmps177
 go_wp2
 all_goals
  go_ret
  exact⟨eX (by simp[Ax.blank, *]),rfl⟩
theorem pJ(r:Int)(w:World):
 Calls Tryz.prog 221 #[.int .i32 r] w fun e w'=>e=.returned (.bool (Ax.eU r))∧w'=w:=by
 go_enter Tryz.func221,Tryz.ntmps221
 go_wp2
 all_goals
  go_ret
  exact⟨eX (by rw[Bool.eq_iff_iff];simp[Ax.eU]<;>omega),rfl⟩
theorem lJ(r:Int)(w:World):
 Calls Tryz.prog 259 #[.int .i32 r] w fun e w'=>e=.returned (.bool (Ax.digit r))∧w'=w:=by
 go_enter Tryz.func259,Tryz.ntmps259
 go_wp2
 all_goals
  go_ret
  exact⟨eX (by rw[Bool.eq_iff_iff];simp[Ax.digit]<;>omega),rfl⟩
theorem toList_eq(s:ByteArray):s.toList=s.data.toList:=by
 rcases s with⟨⟨l⟩⟩
 simp
theorem FL(s p:ByteArray)(h:p.size≤s.size):((s.extract 0 p.size).toList==p.toList)=Ax.pre s p:=by
 unfold Ax.pre
 rw[toList_eq,toList_eq]
 rcases s with⟨⟨l⟩⟩
 rcases p with⟨⟨m⟩⟩
 rw[Bool.eq_iff_iff]
 simp only[ByteArray.size,List.size_toArray]at h
 simp[List.prefix_iff_eq_take]
 exact eq_comm
theorem KX(s p:ByteArray)(h:¬p.size≤s.size):Ax.pre s p=false:=by
 unfold Ax.pre
 rcases s with⟨⟨l⟩⟩
 rcases p with⟨⟨m⟩⟩
 rw[Bool.eq_false_iff]
 intro hp
 have:=(List.isPrefixOf_iff_prefix.1 hp).length_le
 exact h this
theorem lh(s p:ByteArray)(w:World)(hs:s.size≤maxLen)(hp:p.size≤maxLen):
 Calls Tryz.prog 205 #[.string s,.string p] w fun e w'=>e=.returned (.bool (Ax.pre s p))∧w'=w:=by
 unfold maxLen at hs hp
 go_enter Tryz.func205,Tryz.ntmps205
 go_wp2
 · go_ret
   exact⟨eX (FL s p (by assumption)),rfl⟩
 · go_ret
   exact⟨eX (KX s p (by assumption)).symm,rfl⟩
theorem ff(s p:ByteArray)(w:World)(hs:s.size≤maxLen)(hp:p.size≤maxLen):
 Calls Tryz.prog 143 #[.string s,.string p] w fun e w'=>e=.returned (.bool (Ax.pre s p))∧w'=w:=by
 go_enter Tryz.func143,Tryz.ntmps143
 go_wp2_with (go_at_call 205;refine(lh _ _ _ hs hp).mono ?_;rintro e w' ⟨rfl,rfl⟩)
 go_ret
 exact⟨rfl,rfl⟩
theorem Fp(s:ByteArray):Ax.small s 65533=Ax.pre s ⟨#[239,191,189]⟩:=by simp[Ax.small]
theorem Gl(s:ByteArray)(r:Int)(h:(r==65533)=false):Ax.small s r=((decide (97≤r)&&decide (r≤122))||decide (224≤r)):=by
 simp at h;simp[Ax.small,h]
theorem fu(s:ByteArray)(r:Int)(w:World)(hs:s.size≤maxLen):
 Calls Tryz.prog 219 #[.string s,.int .i32 r] w fun e w'=>e=.returned (.bool (Ax.small s r))∧w'=w:=by
 by_cases h:r=65533
 · subst h
   go_enter Tryz.func219,Tryz.ntmps219
   go_wp2_with (go_at_call 143;refine(ff _ _ _ hs (by decide)).mono ?_;rintro e w' ⟨rfl,rfl⟩)
   go_ret
   exact⟨eX (Fp s).symm,rfl⟩
 · have hb:(r==65533)=false:=by simp[h]
   clear h
   go_enter Tryz.func219,Tryz.ntmps219
   go_wp2_with fail
   all_goals
    go_ret
    exact⟨eX (by rw[Gl s r hb,Bool.eq_iff_iff];simp<;>omega),rfl⟩
end
end Go.Proofs.YtdmicblafmhflaaGreatDoor
