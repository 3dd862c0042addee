/- The plain form of what can be read is read, and is its own plain form. No program here. -/
import Derived.Test.YtdmicblafmhflaaGreatDoorC02
import Derived.Test.YtdmicblafmhflaaGreatDoorProg
import Derived.KernelRfl
import Derived.Test.YtdmicblafmhflaaGreatDoorC00
import Derived.WalkKit
import Derived.WalkSpells
import Derived.WalkLawsBesides
set_option linter.unusedSimpArgs false
set_option linter.unusedVariables false
set_option maxHeartbeats 400000
namespace Go.Proofs.YtdmicblafmhflaaGreatDoor
namespace Ax
def cat(l:List It):List UInt8:=l.flatMap fun x=>x.text.data.toList
theorem A3(s:ByteArray)(k:Nat)(h:k<s.size):byte s k=((s.data.toList[k]?).map UInt8.toNat).getD 0:=by
 rw[←hO s k h]
 have:s.data.toList[k]?=some s.data[k]:=by
  rw[Array.getElem?_toList]
  exact Array.getElem?_eq_getElem h
 rw[this]
 rfl
theorem IQ(p:ByteArray):∀(l:List It) (b:Nat),b≤p.size→p.data.toList.drop b=cat l→Ri p b l
 | [],b,hb,h=>by
  have:(p.data.toList.drop b).length=0:=by rw[h];rfl
  rw[List.length_drop,Array.length_toList]at this
  show b=p.data.size
  have:p.data.size=p.size:=rfl
  omega
 | x::l,b,hb,h=>by
  have hc:cat (x::l)=x.text.data.toList++cat l:=by simp[cat]
  rw[hc]at h
  have hlen:=congrArg List.length h
  rw[List.length_drop,List.length_append,Array.length_toList,Array.length_toList]at hlen
  have e1:p.data.size=p.size:=rfl
  have e2:x.text.data.size=x.text.size:=rfl
  refine⟨b,Nat.le_refl _,fun k h1 h2=>by omega,by omega,fun k hk=> ?_, ?_⟩
  · rw[A3 p _ (by omega),A3 x.text k hk]
    have:=congrArg (fun q=>q[k]?) h
    simp only[List.getElem?_drop]at this
    rw[this,List.getElem?_append_left (by rw[Array.length_toList];omega)]
  · refine IQ p l _ (by omega) ?_
    rw[←List.drop_drop,h,List.drop_left' (by rw[Array.length_toList];omega)]
theorem Sa{a b:Tok}(ha:0≤a.kind∧a.kind≤8)(hb:0≤b.kind∧b.kind≤8)(h:It.of (conv a)=It.of (conv b)):er a=er b:=by
 simp only[It.of,conv,It.mk.injEq]at h
 have:=Oa a.kind ha.1 ha.2 b.kind hb.1 hb.2
 rw[h.1]at this
 simp only[beq_self_eq_true]at this
 have hk:a.kind=b.kind:=by simpa using this.symm
 simp[er,hk,h.2]
theorem Jb{k:Int}(h:BI (kc k)):k=2∨k=3:=by
 unfold BI kc at h
 split at h
 · omega
 split at h
 · omega
 split at h
 · omega
 split at h
 · omega
 repeat' split at h
 all_goals omega
theorem Ez:∀(m:List Tok),(∀k,¬(W m k∧W m (k+1)))→iM (m.map (fun t=>It.of (conv t)))
 | [],_=>trivial
 | [a],_=>trivial
 | a::b::m,h=>by
  refine⟨?_,Ez (b::m) (fun k hk=>h (k+1) ?_)⟩
  · intro hw
    exact h 0 ⟨by simpa [W,aA]using Jb hw.1,by simpa [W,aA]using Jb hw.2⟩
  · simpa [W,aA]using hk
theorem wv(s:ByteArray)(a:Nat)(h:(cW s a).kind=101∨(cW s a).kind=120):(cW s a).text=⟨#[]⟩:=by
 generalize ht:cW s a=t at*
 unfold cW at ht
 simp only at ht
 split at ht
 · rw[←ht]
 split at ht
 · rw[←ht]
 split at ht
 · rw[←ht]at h;simp at h
 split at ht
 · rw[←ht]at h;simp at h
 split at ht
 · rw[←ht]at h;simp only at h;omega
 split at ht
 · rw[←ht]at h;simp at h
 · rw[←ht]
theorem uS(s:ByteArray):∀(f a:Nat) (acc:List sH),a≤s.size→(cat ((fR s f a acc).map It.of)).length+a≤(cat (acc.map It.of)).length+s.size
 | 0,a,acc,h=>by simp[fR];omega
 | f+1,a,acc,h=>by
  have hp:=Ge s a h
  have Zj:(cat ((acc++[fy s a]).map It.of)).length=(cat (acc.map It.of)).length+(fy s a).text.size:=by
   simp[cat,It.of]
  unfold fR
  split
  · rename_i hk
    have:(fy s a).text.size=0:=by
     have:=wv s (gg s s.size a) hk
     unfold fy
     rw[this]
     rfl
    rw[Zj]
    omega
  · rename_i hk
    have hq:=hp.2.2.1 hk
    have:=uS s f ((fy s a).at_+(fy s a).text.size) (acc++[fy s a]) hq.2
    rw[Zj]at this
    omega
theorem KC(s:ByteArray):(plain s).data.toList=cat ((Fw s).map It.of):=by
 rw[oT]
 simp[plain,cat,It.of,conv,List.flatMap_map]
theorem Hz(s:ByteArray):(plain s).size≤s.size:=by
 have h:=uS s (s.size+1) 0 [] (Nat.zero_le _)
 have e:(plain s).size=(plain s).data.toList.length:=by rw[Array.length_toList];rfl
 rw[e,KC]
 simp only[cat,List.map_nil,List.flatMap_nil,List.length_nil]at h
 simpa [Fw,cat]using h
end Ax
/- Rules that are laid out as tokens are read again. No program here. -/
namespace Ax
abbrev EA:=ByteArray×List Term
abbrev ER:=EA×List EA
abbrev EI:=Int×ByteArray
def tI(t:Term):EI:=(t.kind+2,t.text)
def lz:EI:=(6,⟨#[44]⟩)
def de:List Term→List EI
 | []=>[]
 | [t]=>[tI t]
 | t::u::r=>tI t::lz::de (u::r)
def dx(a:EA):List EI:=(2,a.1)::(4,⟨#[40]⟩)::(de a.2++[(5,⟨#[41]⟩)])
def dB:List EA→List EI
 | []=>[]
 | [a]=>dx a
 | a::b::r=>dx a++lz::dB (b::r)
def eZ(r:ER):List EI:=dx r.1++(if r.2=[]then []else (8,⟨#[58,45]⟩)::dB r.2)++[(7,⟨#[46]⟩)]
def br(l:List ER):List EI:=l.flatMap eZ
def EA.fit(a:EA):Prop:=a.2≠[]∧∀t,t∈a.2→t.kind=0∨t.kind=1
theorem lF{E:List EI}{i:Nat}{x:EI}{l:List EI}(h:E.drop i=x::l):E[i]?=some x∧E.drop (i+1)=l:=by
 constructor
 · have:=congrArg (fun q=>q[0]?) h
   simpa using this
 · rw[←List.drop_drop,h];rfl
theorem gy{T:List Tok}{i:Nat}{x:EI}(h:(T.map er)[i]?=some x):aA T i=x.1:=by
 rw[List.getElem?_map]at h
 unfold aA
 cases h1:T[i]? <;>rw[h1]at h<;>simp[er]at h ⊢
 rw[←h]
theorem Ac{T:List Tok}{i:Nat}{x:EI}(h:(T.map er)[i]?=some x):∃t,T[i]?=some t∧t.kind=x.1∧t.text=x.2:=by
 rw[List.getElem?_map]at h
 cases h1:T[i]? <;>rw[h1]at h<;>simp[er]at h
 rename_i t
 exact⟨t,rfl,by rw[←h],by rw[←h]⟩
theorem Bx{T:List Tok}{i:Nat}{t:Term}(h:(T.map er)[i]?=some (tI t))(hk:t.kind=0∨t.kind=1):jE T i=(some t,i+1):=by
 obtain⟨u,h1,h2,h3⟩:=Ac h
 simp only[tI]at h2 h3
 rw[xM h1 (by omega),h2,h3]
 simp
def I7(l:List EI):Prop:=∃x r,l=x::r∧x.1≠6
theorem xK{T:List Tok}:∀(ts:List Term) (f i:Nat) (acc:List Term) (post:List EI),ts≠[]→(∀t,t∈ts→t.kind=0∨t.kind=1)→(T.map er).drop i=de ts++post→I7 post→ts.length≤f→
 bP T f i acc=(some (acc++ts),i+(de ts).length)∧(T.map er).drop (i+(de ts).length)=post
 | [],_,_,_,_,h,_,_,_,_=>absurd rfl h
 | [t],0,_,_,_,_,_,_,_,hf=>by simp at hf
 | _::_::_,0,_,_,_,_,_,_,_,hf=>by simp at hf
 | [t],f+1,i,acc,post,_,hk,hE,hp,_=>by
  obtain⟨h1,h2⟩:=lF (show(T.map er).drop i=tI t::post from hE)
  obtain⟨x,r,rfl,hx⟩:=hp
  obtain⟨h3,_⟩:=lF h2
  rw[oU (Bx h1 (hk t (by simp))) (by rw[gy h3];exact hx)]
  exact⟨rfl,h2⟩
 | t::u::r,f+1,i,acc,post,_,hk,hE,hp,hf=>by
  obtain⟨h1,h2⟩:=lF (show(T.map er).drop i=tI t::(lz::de (u::r)++post)from hE)
  obtain⟨h3,h4⟩:=lF (show(T.map er).drop (i+1)=lz::(de (u::r)++post)from h2)
  rw[tQ (Bx h1 (hk t (by simp))) (by rw[gy h3];rfl)]
  obtain⟨h5,h6⟩:=xK (u::r) f (i+1+1) (acc++[t]) post (by simp) (fun x hx=>hk x (by simp[hx])) h4 hp (by simp at hf ⊢;omega)
  have e:i+(de (t::u::r)).length=i+1+1+(de (u::r)).length:=by simp[de];omega
  rw[h5,e]
  exact⟨by simp,h6⟩
theorem x9:∀ts:List Term,ts.length≤(de ts).length
 | []=>by simp
 | [t]=>by simp[de]
 | t::u::r=>by have:=x9 (u::r);simp[de]at this ⊢;omega
theorem pA{T:List Tok}{i:Nat}{a:EA}{post:List EI}(ha:a.fit)(hE:(T.map er).drop i=dx a++post):
 ∃a',bQ T i=(some a',i+(dx a).length)∧yR a'=a∧(T.map er).drop (i+(dx a).length)=post:=by
 obtain⟨h1,h2⟩:=lF (show(T.map er).drop i=(2,a.1)::((4,⟨#[40]⟩)::(de a.2++[(5,⟨#[41]⟩)])++post)from hE)
 obtain⟨h3,h4⟩:=lF (show(T.map er).drop (i+1)=(4,⟨#[40]⟩)::(de a.2++[(5,⟨#[41]⟩)]++post)from h2)
 rw[List.append_assoc]at h4
 have hlen:a.2.length≤T.length:=by
  have:=congrArg List.length h4
  simp only[List.length_drop,List.length_map,List.length_append]at this
  have:=x9 a.2
  omega
 obtain⟨h5,h6⟩:=xK a.2 T.length (i+1+1) [] _ ha.1 ha.2 h4 ⟨_,_,rfl,by simp⟩ hlen
 obtain⟨h7,h8⟩:=lF h6
 obtain⟨t,ht,hk,vh⟩:=Ac h1
 refine⟨⟨t.at_,t.text,a.2⟩, ?_, ?_, ?_⟩
 · rw[Ch ht (by simpa using hk) (gy h3) (by simpa using h5) (gy h7)]
   simp[dx]
   omega
 · simp only at vh;simp[yR,vh]
 · have e:i+(dx a).length=i+1+1+(de a.2).length+1:=by simp[dx];omega
   rw[e];exact h8
theorem wY{T:List Tok}:∀(l:List EA) (f i:Nat) (acc:List Atom) (post:List EI),l≠[]→(∀a,a∈l→a.fit)→(T.map er).drop i=dB l++post→I7 post→l.length≤f→
 ∃r,bL T f i acc=(some (acc++r),i+(dB l).length)∧r.map yR=l∧(T.map er).drop (i+(dB l).length)=post
 | [],_,_,_,_,h,_,_,_,_=>absurd rfl h
 | [a],0,_,_,_,_,_,_,_,hf=>by simp at hf
 | _::_::_,0,_,_,_,_,_,_,_,hf=>by simp at hf
 | [a],f+1,i,acc,post,_,hk,hE,hp,_=>by
  obtain⟨a',h1,h2,h3⟩:=pA (hk a (by simp)) (show(T.map er).drop i=dx a++post from hE)
  obtain⟨x,r,rfl,hx⟩:=hp
  obtain⟨h4,_⟩:=lF h3
  refine⟨[a'], ?_,by simp[h2],h3⟩
  rw[fJ h1 (by rw[gy h4];exact hx)]
  rfl
 | a::b::l,f+1,i,acc,post,_,hk,hE,hp,hf=>by
  have Tq:(T.map er).drop i=dx a++(lz::(dB (b::l)++post)):=by rw[hE];simp[dB]
  obtain⟨a',h1,h2,h3⟩:=pA (hk a (by simp)) Tq
  obtain⟨h4,h5⟩:=lF h3
  obtain⟨r,h6,h7,h8⟩:=wY (b::l) f (i+(dx a).length+1) (acc++[a']) post (by simp) (fun x hx=>hk x (by simp[hx])) h5 hp (by simp at hf ⊢;omega)
  have e:i+(dB (a::b::l)).length=i+(dx a).length+1+(dB (b::l)).length:=by simp[dB];omega
  refine⟨a'::r, ?_,by simp[h2,h7],by rw[e];exact h8⟩
  rw[iP h1 (by rw[gy h4];rfl),h6,e]
  simp
theorem yz:∀l:List EA,l.length≤(dB l).length
 | []=>by simp
 | [a]=>by simp[dB,dx]
 | a::b::r=>by have:=yz (b::r);simp[dB,dx]at this ⊢;omega
def ER.fit(r:ER):Prop:=r.1.fit∧∀a,a∈r.2→a.fit
theorem LN{T:List Tok}{i:Nat}{r:ER}{post:List EI}(hr:ER.fit r)(hE:(T.map er).drop i=eZ r++post):
 ∃r',dX T i=(some r',i+(eZ r).length)∧ke r'=r∧(T.map er).drop (i+(eZ r).length)=post:=by
 rcases r with⟨h,b⟩
 by_cases hb:b=[]
 · subst hb
   have Tq:(T.map er).drop i=dx h++((7,⟨#[46]⟩)::post):=by rw[hE];simp[eZ]
   obtain⟨a',h1,h2,h3⟩:=pA hr.1 Tq
   obtain⟨h4,h5⟩:=lF h3
   have e:i+(eZ (h,[])).length=i+(dx h).length+1:=by simp[eZ];omega
   refine⟨⟨a',[]⟩, ?_,by simp[ke,h2],by rw[e];exact h5⟩
   rw[lE h1 (by rw[gy h4];simp) (gy h4),e]
 · have Tq:(T.map er).drop i=dx h++((8,⟨#[58,45]⟩)::(dB b++((7,⟨#[46]⟩)::post))):=by rw[hE];simp[eZ,hb]
   obtain⟨a',h1,h2,h3⟩:=pA hr.1 Tq
   obtain⟨h4,h5⟩:=lF h3
   have hlen:b.length≤T.length:=by
    have:=congrArg List.length h5
    simp only[List.length_drop,List.length_map,List.length_append]at this
    have:=yz b
    omega
   obtain⟨l,h6,h7,h8⟩:=wY b T.length (i+(dx h).length+1) [] _ hb hr.2 h5 ⟨_,_,rfl,by simp⟩ hlen
   obtain⟨h9,h10⟩:=lF h8
   have e:i+(eZ (h,b)).length=i+(dx h).length+1+(dB b).length+1:=by simp[eZ,hb];omega
   refine⟨⟨a',l⟩, ?_,by simp[ke,h2,h7],by rw[e];exact h10⟩
   rw[ly h1 (gy h4) (by simpa using h6) (gy h9),e]
theorem np{T:List Tok}:∀(l:List ER) (f i:Nat) (acc:List aP) (x:ByteArray),(∀r,r∈l→ER.fit r)→(T.map er).drop i=br l++[(1,x)]→l.length<f→
 ∃rs,bM T f i acc=(some (acc++rs),i+(br l).length)∧rs.map ke=l
 | _,0,_,_,_,_,_,hf=>by omega
 | [],f+1,i,acc,x,_,hE,_=>by
  obtain⟨h1,_⟩:=lF (show(T.map er).drop i=(1,x)::[]from hE)
  exact⟨[],by rw[iS (gy h1)];simp[br],rfl⟩
 | r::l,f+1,i,acc,x,hk,hE,hf=>by
  have Tq:(T.map er).drop i=eZ r++(br l++[(1,x)]):=by rw[hE];simp[br]
  have sL:¬aA T i=1:=by
   have:(T.map er).drop i=(2,r.1.1)::((4,⟨#[40]⟩)::(de r.1.2++[(5,⟨#[41]⟩)])++(if r.2=[]then []else (8,⟨#[58,45]⟩)::dB r.2)++[(7,⟨#[46]⟩)]++(br l++[(1,x)])):=by rw[Tq];simp[eZ,dx]
   rw[gy (lF this).1]
   simp
  obtain⟨r',h1,h2,h3⟩:=LN (hk r (by simp)) Tq
  obtain⟨rs,h4,h5⟩:=np l f (i+(eZ r).length) (acc++[r']) x (fun y hy=>hk y (by simp[hy])) h3 (by simp at hf ⊢;omega)
  refine⟨r'::rs, ?_,by simp[h2,h5]⟩
  rw[kx sL h1,h4]
  have e:i+(br (r::l)).length=i+(eZ r).length+(br l).length:=by simp[br];omega
  rw[e]
  simp
end Ax
/- Rules over few predicates of fixed places are a program. No program here. -/
namespace Ax
theorem yx{α:Type}[DecidableEq α]:∀(P l:List α),l.Nodup→(∀x,x∈l→x∈P)→l.length≤P.length
 | [],l,_,h=>by
  cases l with
  | nil=>simp
  | cons a l=>exact absurd (h a (by simp)) (by simp)
 | p::P,l,hn,h=>by
  have h1:(l.erase p).Nodup:=hn.erase p
  have h2:∀x,x∈l.erase p→x∈P:=by
   intro x hx
   have qb:=List.mem_of_mem_erase hx
   rcases List.mem_cons.1 (h x qb)with rfl | hp
   · exact absurd hx (hn.not_mem_erase)
   · exact hp
  have:=yx P (l.erase p) h1 h2
  have hl:l.length≤(l.erase p).length+1:=by
   rw[List.length_erase]
   split<;>omega
  simp only[List.length_cons]
  omega
theorem lV(P:List ByteArray):∀(l:List Atom) (ps:List ByteArray),ps.Nodup→(∀x,x∈ps→x∈P)→(∀a,a∈l→a.pred∈P)→(cE ps l).Nodup∧∀x,x∈cE ps l→x∈P
 | [],ps,h1,h2,_=>⟨h1,h2⟩
 | a::l,ps,h1,h2,h3=>by
  unfold cE
  by_cases hh:has ps a.pred=true
  · rw[if_pos hh]
    exact lV P l ps h1 h2 (fun x hx=>h3 x (by simp[hx]))
  · rw[if_neg hh]
    refine lV P l _ ?_ ?_ (fun x hx=>h3 x (by simp[hx]))
    · rw[List.nodup_append]
      refine⟨h1,by simp, ?_⟩
      intro x hx y hy
      simp at hy
      subst hy
      intro e
      subst e
      exact hh ((nM _ _).2 hx)
    · intro x hx
      rcases List.mem_append.1 hx with hx | hx
      · exact h2 x hx
      · simp at hx;subst hx;exact h3 a (by simp)
theorem eS(P:List ByteArray)(hP:P.length≤6):∀(l:List aP) (i:Nat) (ps:List ByteArray),ps.Nodup→(∀x,x∈ps→x∈P)→i+l.length≤8→(∀r,r∈l→r.body.length≤2∧∀a,a∈r.atoms→a.pred∈P∧a.ag.length≤3)→bW i ps l=none
 | [],_,_,_,_,_,_=>rfl
 | r::l,i,ps,h1,h2,h3,h4=>by
  obtain⟨hb,ha⟩:=h4 r (by simp)
  obtain⟨k1,k2⟩:=lV P r.atoms ps h1 h2 (fun a hx=>(ha a hx).1)
  have hs:=yx P _ k1 k2
  simp only[List.length_cons]at h3
  have hw:iw r.atoms=false:=by
   rw[Bool.eq_false_iff]
   intro hh
   simp only[iw,List.any_eq_true,wide,decide_eq_true_eq]at hh
   obtain⟨a,hx,hy⟩:=hh
   have:=(ha a hx).2
   omega
  have hm:fI i (cE ps r.atoms) r=false:=by
   unfold fI
   rw[hw]
   simp
   omega
  unfold bW
  rw[hm]
  simp only[Bool.false_eq_true,if_false]
  exact eS P hP l (i+1) _ k1 k2 (by omega) (fun x hx=>h4 x (by simp[hx]))
theorem qk(ar:ByteArray→Nat):∀(l:List Atom) (m:List (ByteArray×Nat)),(∀x,x∈m→x.2=ar x.1)→(∀a,a∈l→a.ag.length=ar a.pred)→du m l=none
 | [],_,_,_=>rfl
 | a::l,m,h1,h2=>by
  have ha:=h2 a (by simp)
  unfold du
  split
  · rename_i n hn
    have:n=a.ag.length:=by
     unfold look at hn
     rw[Option.map_eq_some_iff]at hn
     obtain⟨x,hx,rfl⟩:=hn
     have hm:=List.mem_of_find?_eq_some hx
     have hp:=List.find?_some hx
     simp only[decide_eq_true_eq]at hp
     rw[h1 x hm,hp,ha]
    rw[if_pos this]
    exact qk ar l m h1 (fun x hx=>h2 x (by simp[hx]))
  · refine qk ar l _ ?_ (fun x hx=>h2 x (by simp[hx]))
    intro x hx
    rcases List.mem_cons.1 hx with rfl | hx
    · exact ha
    · exact h1 x hx
theorem gf:∀(l:List aP),(∀r,r∈l→lM r=false)→b7 l=none
 | [],_=>rfl
 | r::l,h=>by
  unfold b7
  rw[h r (by simp)]
  simp only[Bool.false_eq_true,if_false]
  exact gf l (fun x hx=>h x (by simp[hx]))
structure Good(P:List ByteArray)(ar:ByteArray→Nat)(R:List ER):Prop where
 oo:R.length≤8
 cD:P.length≤6
 fit:∀r,r∈R→ER.fit r∧r.2.length≤2
 atoms:∀r,r∈R→∀a,a=r.1∨a∈r.2→a.1∈P∧a.2.length=ar a.1∧a.2.length≤3
 safe:∀r,r∈R→∀t,t∈r.1.2→t.kind=1→∃a,a∈r.2∧t∈a.2
theorem KB{P:List ByteArray}{ar:ByteArray→Nat}{R:List ER}(hG:Good P ar R){t x:ByteArray}(ht:t.size≤600)(hE:(split t).map er=br R++[(1,x)]):read t=(plain t,0,0):=by
 have hlen:∀l:List ER,l.length≤(br l).length:=by
  intro l
  induction l with
  | nil=>simp
  | cons r l ih=>simp[br,eZ]at ih ⊢;omega
 have hT:R.length<(split t).length:=by
  have:=congrArg List.length hE
  simp only[List.length_map,List.length_append,List.length_singleton]at this
  have:=hlen R
  omega
 obtain⟨rs,h1,h2⟩:=np (T:=split t) R (split t).length 0 [] x (fun r hr=>(hG.fit r hr).1) (by rw[List.drop_zero];exact hE) hT
 rw[List.nil_append]at h1
 have fk:∀r,r∈rs→ke r∈R:=fun r hr=>by rw[←h2];exact List.mem_map.2 ⟨r,hr,rfl⟩
 have sJ:∀r,r∈rs→∀a,a∈r.atoms→a.pred∈P∧a.ag.length=ar a.pred∧a.ag.length≤3:=by
  intro r hr a ha
  refine hG.atoms (ke r) (fk r hr) (yR a) ?_
  rcases List.mem_cons.1 ha with rfl | ha
  · exact .inl rfl
  · exact .inr (List.mem_map.2 ⟨a,ha,rfl⟩)
 refine B2 (by omega) h1 ?_ ?_ ?_
 · refine eS P hG.cD rs 0 [] (by simp) (fun _ h=>by cases h) ?_ ?_
   · have:=congrArg List.length h2
     simp at this
     have:=hG.oo
     omega
   · intro r hr
     have hb:=(hG.fit _ (fk r hr)).2
     refine⟨by simpa [ke]using hb,fun a ha=>⟨(sJ r hr a ha).1,(sJ r hr a ha).2.2⟩⟩
 · refine qk ar _ [] (fun _ h=>by cases h) ?_
   intro a ha
   obtain⟨r,hr,ha⟩:=List.mem_flatMap.1 ha
   exact(sJ r hr a ha).2.1
 · refine gf rs ?_
   intro r hr
   rw[Bool.eq_false_iff]
   intro ho
   simp only[lM,List.any_eq_true,iu,Bool.and_eq_true,decide_eq_true_eq,Bool.not_eq_true']at ho
   obtain⟨t,ht,hk,hb⟩:=ho
   obtain⟨a,ha,Us⟩:=hG.safe (ke r) (fk r hr) t ht hk
   obtain⟨a',ha',rfl⟩:=List.mem_map.1 ha
   have:nH r.body t=true:=by
    simp only[nH,List.any_eq_true]
    exact⟨a',ha',(uy _ _).2 Us⟩
   rw[this]at hb
   cases hb
end Ax
/- The programs that Plain's rules make. No program here. -/
namespace Ax
def qy(x:EI):It:=⟨kc x.1,x.2⟩
def D6(x:EI):Tok:=⟨x.1,0,x.2⟩
theorem qM{P:List ByteArray}{ar:ByteArray→Nat}{R:List ER}(hG:Good P ar R):iM ((br R).map qy):=by
 obtain⟨T,hTd⟩:∃T:List Tok,T=(br R).map D6++[⟨1,0,⟨#[]⟩⟩]:=⟨_,rfl⟩
 have hT:T.map er=br R++[(1,⟨#[]⟩)]:=by
  rw[hTd,List.map_append,List.map_map]
  have:(er∘D6)=id:=by funext x;rfl
  rw[this,List.map_id]
  rfl
 have hlen:∀l:List ER,l.length≤(br l).length:=by
  intro l
  induction l with
  | nil=>simp
  | cons r l ih=>simp[br,eZ]at ih ⊢;omega
 have hl:T.length=(br R).length+1:=by
  have:=congrArg List.length hT
  simpa using this
 obtain⟨rs,h1,h2⟩:=np (T:=T) R T.length 0 [] ⟨#[]⟩ (fun r hr=>(hG.fit r hr).1) (by rw[List.drop_zero];exact hT) (by have:=hlen R;omega)
 obtain⟨acy,_,_⟩:=sf _ _ _ h1
 have e:(br R).map qy=((br R).map D6).map (fun t=>It.of (conv t)):=by rw[List.map_map];rfl
 rw[e]
 apply Ez
 intro k hw
 by_cases hk:k+1<(br R).length
 · have Ta:∀i,i<(br R).length→aA T i=aA ((br R).map D6) i:=by
    intro i hi
    unfold aA
    rw[hTd,List.getElem?_append_left (by simpa using hi)]
   refine acy k (Nat.zero_le _) (by omega) ⟨?_, ?_⟩
   · unfold W;rw[Ta k (by omega)];exact hw.1
   · unfold W;rw[Ta (k+1) hk];exact hw.2
 · have:aA ((br R).map D6) (k+1)=0:=by
    unfold aA
    rw[List.getElem?_eq_none (by simp;omega)]
   have:=hw.2
   unfold W at this
   omega
theorem Jj{k:EI}{t:Tok}(hk:0≤k.1∧k.1≤8)(ht:0≤t.kind∧t.kind≤8)(h:It.of (conv t)=qy k):er t=k:=by
 have:=Sa (a:=t) (b:=⟨k.1,0,k.2⟩) ht hk h
 exact this
theorem N4{P:List ByteArray}{ar:ByteArray→Nat}{R:List ER}(hG:Good P ar R)(Hd:∀x,x∈br R→(qy x).tok)(Gi:∀x,x∈br R→0≤x.1∧x.1≤8){t:ByteArray}(ht:t.size≤600)(hL:Ri t 0 ((br R).map qy)):
 read t=(⟨((br R).flatMap fun x=>x.2.data.toList).toArray⟩,0,0):=by
 obtain⟨m,h1,h2⟩:=Ay t _ hL (by intro y hy;obtain⟨x,hx,rfl⟩:=List.mem_map.1 hy;exact Hd x hx) (qM hG)
 have hs:(split t).map (fun t=>It.of (conv t))=(br R++[((1,⟨#[]⟩):EI)]).map qy:=by
  have e:(split t).map (fun t=>It.of (conv t))=((split t).map conv).map It.of:=by rw[List.map_map];rfl
  rw[e,←oT,h1,List.map_append,h2,List.map_append]
  rfl
 have ju:∀(l:List Tok) (E:List EI),Bs l→(∀x,x∈E→0≤x.1∧x.1≤8)→l.map (fun t=>It.of (conv t))=E.map qy→l.map er=E:=by
  intro l
  induction l with
  | nil=>intro E _ _ h;cases E with | nil=>rfl | cons _ _=>simp at h
  | cons a l ih=>
   intro E h1 h2 h
   cases E with
   | nil=>simp at h
   | cons x E=>
    simp only[List.map_cons,List.cons.injEq]at h
    rw[List.map_cons,Jj (h2 x (by simp)) (h1 a (by simp)) h.1,ih E (fun t ht=>h1 t (by simp[ht])) (fun y hy=>h2 y (by simp[hy])) h.2]
 have hE:=ju (split t) _ (uu t) (by
  intro x hx
  rcases List.mem_append.1 hx with hx | hx
  · exact Gi x hx
  · simp at hx;subst hx;exact⟨by decide,by decide⟩) hs
 rw[KB hG ht hE]
 congr 1
 unfold plain
 have e:∀(l:List Tok),(l.flatMap fun t=>t.text.data.toList)=(l.map er).flatMap fun x=>x.2.data.toList:=fun l=>by rw[List.flatMap_map];rfl
 rw[e,hE,List.flatMap_append]
 simp
end Ax
/- Plain's rules as plain data, and that they are a program. No program here. -/
namespace Ax
def a8(c:Int)(n:Nat):Nat:=((if c<0 then-(c+1)else c)%(n:Int)).toNat
theorem ef(c:Int)(n:Nat)(h:0<n):a8 c n<n:=by
 unfold a8
 have h1:=Int.emod_lt_of_pos (if c<0 then-(c+1)else c) (show(0:Int)<n by omega)
 have h2:=Int.emod_nonneg (if c<0 then-(c+1)else c) (show(n:Int)≠0 by omega)
 omega
structure dW where
 pred:Int
 a:Int
 b:Int
structure aM where
 head:dW
 body:List dW
def bZ(n:Nat):ByteArray:=match n with | 0=>⟨#[97]⟩ | 1=>⟨#[98]⟩ | 2=>⟨#[99,49]⟩ | _=>⟨#[195,169]⟩
def cq(n:Nat):ByteArray:=match n with | 0=>⟨#[110]⟩ | 1=>⟨#[101]⟩ | _=>⟨#[112,195,188]⟩
def iF(n:Nat):ByteArray:=match n with | 0=>⟨#[88]⟩ | 1=>⟨#[89]⟩ | _=>⟨#[90]⟩
def dG(n:Nat):Term:=if n<3 then ⟨1,iF n⟩else ⟨0,bZ (n-3)⟩
def bT(a:dW):List Nat:=if a8 a.pred 3=0 then [a8 a.a 7]else [a8 a.a 7,a8 a.b 7]
def jW(r:aM):List dW:=r.body.take 2
def Dp(r:aM):List Nat:=(jW r).flatMap bT
def eJ(r:aM):List Nat:=(bT r.head).map fun h=>if h<3∧¬h∈Dp r then h+3 else h
def jQ(p:Nat)(ts:List Nat):EA:=(cq p,ts.map dG)
def LY(r:aM):ER:=(jQ (a8 r.head.pred 3) (eJ r),(jW r).map fun b=>jQ (a8 b.pred 3) (bT b))
def re:List ER:=[(jQ 0 [0],[jQ 0 [0],jQ 1 [0,0]]),(jQ 0 [0],[jQ 0 [0],jQ 2 [0,0]])]
def gR(l:List aM):List ER:=re++(l.take 6).map LY
def gP:List ByteArray:=[cq 0,cq 1,cq 2]
def gar(p:ByteArray):Nat:=if p=cq 0 then 1 else 2
theorem Kh(n:Nat):cq n∈gP:=by
 unfold cq gP
 split<;>simp[cq]
theorem Nk(n:Nat)(h:n<3):gar (cq n)=if n=0 then 1 else 2:=by
 have:n=0∨n=1∨n=2:=by omega
 rcases this with rfl | rfl | rfl<;>decide
def gZ(p:Nat)(ts:List Nat):Prop:=p<3∧ts.length=(if p=0 then 1 else 2)
theorem BT{p:Nat}{ts:List Nat}(h:gZ p ts):EA.fit (jQ p ts)∧(jQ p ts).1∈gP∧(jQ p ts).2.length=gar (jQ p ts).1∧(jQ p ts).2.length≤3:=by
 obtain⟨h1,h2⟩:=h
 have hl:(jQ p ts).2.length=if p=0 then 1 else 2:=by simpa [jQ]using h2
 refine⟨⟨?_, ?_⟩,Kh p, ?_, ?_⟩
 · intro e
   rw[e]at hl
   simp at hl
   split at hl<;>simp at hl
 · intro t ht
   simp only[jQ,List.mem_map]at ht
   obtain⟨n,_,rfl⟩:=ht
   unfold dG
   split
   · exact .inr rfl
   · exact .inl rfl
 · rw[hl]
   exact(Nk p h1).symm
 · rw[hl]
   split<;>omega
theorem qA(a:dW):gZ (a8 a.pred 3) (bT a):=by
 refine⟨ef _ _ (by decide), ?_⟩
 unfold bT
 split<;>simp
theorem Bq(r:aM):gZ (a8 r.head.pred 3) (eJ r):=by
 have:=qA r.head
 exact⟨this.1,by unfold eJ;rw[List.length_map];exact this.2⟩
theorem pj(l:List aM):∀r,r∈gR l→(∃p ts,r.1=jQ p ts∧gZ p ts)∧(∀a,a∈r.2→∃p ts,a=jQ p ts∧gZ p ts)∧r.2.length≤2:=by
 intro r hr
 rcases List.mem_append.1 hr with hr | hr
 · have k0:gZ 0 [0]:=⟨by decide,rfl⟩
   have k1:gZ 1 [0,0]:=⟨by decide,rfl⟩
   have k2:gZ 2 [0,0]:=⟨by decide,rfl⟩
   simp only[re,List.mem_cons,List.not_mem_nil,or_false]at hr
   rcases hr with rfl | rfl
   · refine⟨⟨0,[0],rfl,k0⟩, ?_,by simp⟩
     intro a ha
     simp only[List.mem_cons,List.not_mem_nil,or_false]at ha
     rcases ha with rfl | rfl
     · exact⟨0,[0],rfl,k0⟩
     · exact⟨1,[0,0],rfl,k1⟩
   · refine⟨⟨0,[0],rfl,k0⟩, ?_,by simp⟩
     intro a ha
     simp only[List.mem_cons,List.not_mem_nil,or_false]at ha
     rcases ha with rfl | rfl
     · exact⟨0,[0],rfl,k0⟩
     · exact⟨2,[0,0],rfl,k2⟩
 · obtain⟨x,_,rfl⟩:=List.mem_map.1 hr
   refine⟨⟨_,_,rfl,Bq x⟩, ?_, ?_⟩
   · intro a ha
     obtain⟨b,_,rfl⟩:=List.mem_map.1 ha
     exact⟨_,_,rfl,qA b⟩
   · simp only[LY,List.length_map,jW,List.length_take]
     omega
theorem rS(l:List aM):Good gP gar (gR l) where
 oo:=by simp[gR,re];omega
 cD:=by simp[gP]
 fit:=by
  intro r hr
  obtain⟨⟨p,ts,e,hk⟩,h2,h3⟩:=pj l r hr
  refine⟨⟨by rw[e];exact(BT hk).1, ?_⟩,h3⟩
  intro a ha
  obtain⟨p,ts,rfl,hk⟩:=h2 a ha
  exact(BT hk).1
 atoms:=by
  intro r hr a ha
  obtain⟨⟨p,ts,e,hk⟩,h2,_⟩:=pj l r hr
  rcases ha with rfl | ha
  · rw[e];exact(BT hk).2
  · obtain⟨p,ts,rfl,hk⟩:=h2 a ha
    exact(BT hk).2
 safe:=by
  intro r hr t ht hk
  rcases List.mem_append.1 hr with hr | hr
  · simp only[re,List.mem_cons,List.not_mem_nil,or_false]at hr
    rcases hr with rfl | rfl
    · exact⟨jQ 0 [0],by simp,ht⟩
    · exact⟨jQ 0 [0],by simp,ht⟩
  · obtain⟨x,_,rfl⟩:=List.mem_map.1 hr
    simp only[LY,jQ,List.mem_map]at ht
    obtain⟨n,hn,rfl⟩:=ht
    have hn3:n<3:=by
     unfold dG at hk
     split at hk
     · assumption
     · simp at hk
    unfold eJ at hn
    obtain⟨h,_,e⟩:=List.mem_map.1 hn
    split at e
    · omega
    · rename_i hh
      subst e
      have hv:h∈Dp x:=Classical.byContradiction fun hc=>hh ⟨hn3,hc⟩
      obtain⟨b,hb,hm⟩:=List.mem_flatMap.1 hv
      exact⟨jQ (a8 b.pred 3) (bT b),List.mem_map.2 ⟨b,hb,rfl⟩,List.mem_map.2 ⟨h,hm,rfl⟩⟩
def fi:List EI:=[(2,cq 0),(2,cq 1),(2,cq 2),(2,bZ 0),(2,bZ 1),(2,bZ 2),(2,bZ 3),(3,iF 0),(3,iF 1),(3,iF 2),(4,⟨#[40]⟩),(5,⟨#[41]⟩),(6,⟨#[44]⟩),(7,⟨#[46]⟩),(8,⟨#[58,45]⟩)]
theorem rC:∀x,x∈fi→0≤x.1∧x.1≤8:=by
 intro x hx
 simp only[fi,List.mem_cons,List.not_mem_nil,or_false]at hx
 rcases hx with rfl | rfl | rfl | rfl | rfl | rfl | rfl | rfl | rfl | rfl | rfl | rfl | rfl | rfl | rfl<;>exact⟨by decide,by decide⟩
theorem OQ(n:Nat):tI (dG n)∈fi:=by
 unfold dG
 split
 · rename_i h
   have:n=0∨n=1∨n=2:=by omega
   rcases this with rfl | rfl | rfl<;>simp[tI,fi,iF]
 · unfold tI bZ
   simp only
   split<;>simp[fi,bZ]
theorem xm:∀(ts:List Nat) (x:EI),x∈de (ts.map dG)→x∈fi
 | [],x,h=>by simp[de]at h
 | [n],x,h=>by
  simp[de]at h
  subst h
  exact OQ n
 | n::k::ts,x,h=>by
  have:x=tI (dG n)∨x=lz∨x∈de ((k::ts).map dG):=by simpa [de]using h
  rcases this with rfl | rfl | h
  · exact OQ n
  · simp[fi,lz]
  · exact xm (k::ts) x h
theorem s8(p:Nat)(ts:List Nat)(x:EI)(h:x∈dx (jQ p ts)):x∈fi:=by
 simp only[dx,jQ,List.mem_cons,List.mem_append,List.not_mem_nil,or_false]at h
 rcases h with rfl | rfl | h | rfl
 · unfold cq
   split<;>simp[fi,cq]
 · simp[fi]
 · exact xm ts x h
 · simp[fi]
theorem wk:∀(l:List EA),(∀a,a∈l→∃p ts,a=jQ p ts∧gZ p ts)→∀x,x∈dB l→x∈fi
 | [],_,x,h=>by simp[dB]at h
 | [a],hl,x,h=>by
  obtain⟨p,ts,rfl,_⟩:=hl a (by simp)
  exact s8 p ts x h
 | a::b::l,hl,x,h=>by
  obtain⟨p,ts,rfl,_⟩:=hl a (by simp)
  have:x∈dx (jQ p ts)∨x=lz∨x∈dB (b::l):=by simpa [dB]using h
  rcases this with h | rfl | h
  · exact s8 p ts x h
  · simp[fi,lz]
  · exact wk (b::l) (fun y hy=>hl y (by simp[hy])) x h
theorem qZ(l:List aM)(x:EI)(h:x∈br (gR l)):x∈fi:=by
 obtain⟨r,hr,hx⟩:=List.mem_flatMap.1 h
 obtain⟨⟨p,ts,e,_⟩,h2,_⟩:=pj l r hr
 unfold eZ at hx
 rcases List.mem_append.1 hx with hx | hx
 · rcases List.mem_append.1 hx with hx | hx
   · rw[e]at hx
     exact s8 p ts x hx
   · split at hx
     · cases hx
     · rcases List.mem_cons.1 hx with rfl | hx
       · simp[fi]
       · exact wk r.2 h2 x hx
 · simp at hx
   subst hx
   simp[fi]
theorem xt:∀x,x∈fi→(qy x).tok:=by
 intro x hx
 simp only[fi,List.mem_cons,List.not_mem_nil,or_false]at hx
 rcases hx with rfl | rfl | rfl | rfl | rfl | rfl | rfl | rfl | rfl | rfl | rfl | rfl | rfl | rfl | rfl<;>exact⟨by rfl,⟨by decide,by decide⟩,by decide⟩
def aH(l:List aM):ByteArray:=⟨((br (gR l)).flatMap fun x=>x.2.data.toList).toArray⟩
theorem OD(l:List aM){t:ByteArray}(ht:t.size≤600)(hL:Ri t 0 ((br (gR l)).map qy)):read t=(aH l,0,0):=
 N4 (rS l) (fun x hx=>xt x (qZ l x hx)) (fun x hx=>rC x (qZ l x hx)) ht hL
end Ax
/- The leaves of program: isBlank, isCapital, isDigit, strings.HasPrefix, isSmall. -/
section
open Go.RowKit
theorem eY{a b:Bool}(h:a=b):Ending.returned (.bool a)=.returned (.bool b):=by rw[h]
theorem o9(r:Int)(w:World):
 Calls Tryz.prog 177 #[.int .i32 r] w fun e w'=>e=.returned (.bool (Ax.blank r))∧w'=w:=by
 go_enter Tryz.func177,Tryz.ntmps177
 go_wp2
 all_goals
  go_ret
  exact⟨eY (by simp[Ax.blank, *]),rfl⟩
theorem pU(r:Int)(w:World):
 Calls Tryz.prog 221 #[.int .i32 r] w fun e w'=>e=.returned (.bool (Ax.eT r))∧w'=w:=by
 go_enter Tryz.func221,Tryz.ntmps221
 go_wp2
 all_goals
  go_ret
  exact⟨eY (by rw[Bool.eq_iff_iff];simp[Ax.eT]<;>omega),rfl⟩
theorem lC(r:Int)(w:World):
 Calls Tryz.prog 259 #[.int .i32 r] w fun e w'=>e=.returned (.bool (Ax.digit r))∧w'=w:=by
 go_enter Tryz.func259,Tryz.ntmps259
 go_wp2
 all_goals
  go_ret
  exact⟨eY (by rw[Bool.eq_iff_iff];simp[Ax.digit]<;>omega),rfl⟩
theorem toList_eq(s:ByteArray):s.toList=s.data.toList:=by
 rcases s with⟨⟨l⟩⟩
 simp
theorem Gv(s p:ByteArray)(h:p.size≤s.size):((s.extract 0 p.size).toList==p.toList)=Ax.pre s p:=by
 unfold Ax.pre
 rw[toList_eq,toList_eq]
 rcases s with⟨⟨l⟩⟩
 rcases p with⟨⟨m⟩⟩
 rw[Bool.eq_iff_iff]
 simp only[ByteArray.size,List.size_toArray]at h
 simp[List.prefix_iff_eq_take]
 exact eq_comm
theorem JX(s p:ByteArray)(h:¬p.size≤s.size):Ax.pre s p=false:=by
 unfold Ax.pre
 rcases s with⟨⟨l⟩⟩
 rcases p with⟨⟨m⟩⟩
 rw[Bool.eq_false_iff]
 intro hp
 have:=(List.isPrefixOf_iff_prefix.1 hp).length_le
 exact h this
theorem lq(s p:ByteArray)(w:World)(hs:s.size≤maxLen)(hp:p.size≤maxLen):
 Calls Tryz.prog 205 #[.string s,.string p] w fun e w'=>e=.returned (.bool (Ax.pre s p))∧w'=w:=by
 unfold maxLen at hs hp
 go_enter Tryz.func205,Tryz.ntmps205
 go_wp2
 · go_ret
   exact⟨eY (Gv s p (by assumption)),rfl⟩
 · go_ret
   exact⟨eY (JX s p (by assumption)).symm,rfl⟩
theorem gp(s p:ByteArray)(w:World)(hs:s.size≤maxLen)(hp:p.size≤maxLen):
 Calls Tryz.prog 143 #[.string s,.string p] w fun e w'=>e=.returned (.bool (Ax.pre s p))∧w'=w:=by
 go_enter Tryz.func143,Tryz.ntmps143
 go_wp2_with (go_at_call 205;refine(lq _ _ _ hs hp).mono ?_;rintro e w' ⟨rfl,rfl⟩)
 go_ret
 exact⟨rfl,rfl⟩
theorem FZ(s:ByteArray):Ax.small s 65533=Ax.pre s ⟨#[239,191,189]⟩:=by simp[Ax.small]
theorem Gt(s:ByteArray)(r:Int)(h:(r==65533)=false):Ax.small s r=((decide (97≤r)&&decide (r≤122))||decide (224≤r)):=by
 simp at h;simp[Ax.small,h]
theorem fM(s:ByteArray)(r:Int)(w:World)(hs:s.size≤maxLen):
 Calls Tryz.prog 219 #[.string s,.int .i32 r] w fun e w'=>e=.returned (.bool (Ax.small s r))∧w'=w:=by
 by_cases h:r=65533
 · subst h
   go_enter Tryz.func219,Tryz.ntmps219
   go_wp2_with (go_at_call 143;refine(gp _ _ _ hs (by decide)).mono ?_;rintro e w' ⟨rfl,rfl⟩)
   go_ret
   exact⟨eY (FZ s).symm,rfl⟩
 · have hb:(r==65533)=false:=by simp[h]
   clear h
   go_enter Tryz.func219,Tryz.ntmps219
   go_wp2_with fail
   all_goals
    go_ret
    exact⟨eY (by rw[Gt s r hb,Bool.eq_iff_iff];simp<;>omega),rfl⟩
end
end Go.Proofs.YtdmicblafmhflaaGreatDoor
