/- The reference's tokens are the program's: the whole text. No program here. -/
import Derived.Test.YtdmicblafmhflaaGreatDoorC01
set_option linter.unusedSimpArgs false
set_option linter.unusedVariables false
namespace Go.Proofs.YtdmicblafmhflaaGreatDoor
namespace Ax
theorem ow(s:ByteArray):∀f q n,q≤s.size→q≤(aG s f q n).1
 | 0,q,n,h=>h
 | f+1,q,n,h=>by
  unfold aG
  split
  · rename_i hq
    split
    · exact Nat.le_refl _
    · have:=ow s f (q+(Utf8.decode s q).2) (n+1) (kt s q hq)
      omega
  · exact h
theorem AZ(s:ByteArray)(p:Nat):∀f q n F acc,0<q→p+q≤s.size→s.size≤p+q+f→s.size≤p+q+F→
 ∃F',s.size≤p+(aG (s.extract p s.size) f q n).1+F'∧aX s F (p+q) (p+(aG (s.extract p s.size) f q n).1) acc=aX s F' (p+(aG (s.extract p s.size) f q n).1) (p+(aG (s.extract p s.size) f q n).1) acc
 | 0,q,n,F,acc,hq,hl,hf,hF=>by
  have e:(aG (s.extract p s.size) 0 q n).1=q:=by simp only[aG,dw];omega
  rw[e]
  exact⟨F,hF,rfl⟩
 | f+1,q,n,F,acc,hq,hl,hf,hF=>by
  by_cases aC:p+q<s.size
  · have Im:q<(s.extract p s.size).size:=by rw[dw];omega
    cases hs:stops (s.extract p s.size) q
    · have e:aG (s.extract p s.size) (f+1) q n=aG (s.extract p s.size) f (q+(Utf8.decode s (p+q)).2) (n+1):=by
       have:=Ns (s.extract p s.size) f q n Im hs
       rw[jJ]at this
       exact this
      have hw:=gE s (p+q) aC
      have OT:=kt s (p+q) aC
      have BO:=ow (s.extract p s.size) f (q+(Utf8.decode s (p+q)).2) (n+1) (by rw[dw];omega)
      rw[e]
      obtain⟨G,rfl⟩:∃G,F=G+1:=⟨F-1,by omega⟩
      rw[ia s G (p+q) _ acc aC (.inl (by omega)),Nat.add_assoc p q]
      exact AZ s p f (q+(Utf8.decode s (p+q)).2) (n+1) G acc (by omega) (by omega) (by omega) (by omega)
    · have e:aG (s.extract p s.size) (f+1) q n=(q,n):=by
       unfold aG
       rw[if_pos Im,if_pos hs]
      rw[e]
      exact⟨F,hF,rfl⟩
  · have Im:¬q<(s.extract p s.size).size:=by rw[dw];omega
    have e:(aG (s.extract p s.size) (f+1) q n).1=q:=by
     unfold aG
     rw[if_neg Im,dw]
     omega
    rw[e]
    exact⟨F,hF,rfl⟩
theorem Mg(s:ByteArray)(p:Nat)(hp:p<s.size)(k:Int)(n:Nat)(ht:aD (s.extract p s.size) (Utf8.decode s p).1=(k,n))(hk:k≠0)(F:Nat)(acc:List Tok)(hF:s.size≤p+(F+1)):
 0<n∧p+n≤s.size∧∃F',s.size≤p+n+F'∧aX s F (p+(Utf8.decode s p).2) (p+n) acc=aX s F' (p+n) (p+n) acc:=by
 have hw:=gE s p hp
 have OT:=kt s p hp
 have DI:∀c:Nat,c<128→((Utf8.decode s p).1:Int)=c→(Utf8.decode s p).2=1:=by
  intro c hc h
  have hb:=(eU s p hp c hc).1 (by omega)
  rw[mq s p hp (by omega)]
 have key:∀c:Nat,c<128→((Utf8.decode s p).1:Int)=c→n=1→(0<n∧p+n≤s.size∧∃F',s.size≤p+n+F'∧aX s F (p+(Utf8.decode s p).2) (p+n) acc=aX s F' (p+n) (p+n) acc):=by
  intro c hc h hn
  rw[DI c hc h,hn]
  exact⟨by omega,by omega,F,by omega,rfl⟩
 have Sy:∀j:Int,word (s.extract p s.size) j=(k,n)→(0<n∧p+n≤s.size∧∃F',s.size≤p+n+F'∧aX s F (p+(Utf8.decode s p).2) (p+n) acc=aX s F' (p+n) (p+n) acc):=by
  intro j hj
  unfold word at hj
  simp only at hj
  split at hj
  · simp at hj;omega
  · simp only[Prod.mk.injEq]at hj
    obtain⟨_,rfl⟩:=hj
    obtain⟨f,hf⟩:∃f,(s.extract p s.size).size=f+1:=⟨s.size-p-1,by rw[dw];omega⟩
    have e:aG (s.extract p s.size) (s.extract p s.size).size 0 0=aG (s.extract p s.size) f ((Utf8.decode s p).2) 1:=by
     have eo:stops (s.extract p s.size) 0=false:=by simp[stops]
     have:=Ns (s.extract p s.size) f 0 0 (by omega) eo
     rw[jJ]at this
     rw[hf,this]
     simp
    rw[e]
    have cr:=dw s p
    have BO:=ow (s.extract p s.size) f ((Utf8.decode s p).2) 1 (by omega)
    have hle:=oH (s.extract p s.size) f ((Utf8.decode s p).2) 1
    exact⟨by omega,by omega,AZ s p f _ 1 F acc (by omega) OT (by omega) (by omega)⟩
 unfold aD at ht
 split at ht
 · rename_i h;simp at ht;exact key 40 (by decide) h ht.2.symm
 split at ht
 · rename_i h;simp at ht;exact key 41 (by decide) h ht.2.symm
 split at ht
 · rename_i h;simp at ht;exact key 44 (by decide) h ht.2.symm
 split at ht
 · rename_i h;simp at ht;exact key 46 (by decide) h ht.2.symm
 split at ht
 · rename_i hc
   simp only[Prod.mk.injEq]at ht
   obtain⟨_,rfl⟩:=ht
   have CY:=(MG s p 58 45).1 hc
   rw[show(58:UInt8).toNat=58 from rfl,show(45:UInt8).toNat=45 from rfl]at CY
   obtain⟨h1,h2,h3⟩:=CY
   have hd:Utf8.decode s p=(58,1):=by rw[mq s p (by omega) (by omega),h2]
   have hd1:Utf8.decode s (p+1)=(45,1):=by rw[mq s (p+1) h1 (by omega),h3]
   refine⟨by omega,by omega, ?_⟩
   rw[hd]
   obtain⟨G,rfl⟩:∃G,F=G+1:=⟨F-1,by omega⟩
   refine⟨G,by omega, ?_⟩
   rw[ia s G (p+1) (p+2) acc h1 (.inl (by omega)),hd1]
   rfl
 split at ht
 · exact Sy 2 ht
 split at ht
 · exact Sy 3 ht
 · simp at ht;omega
theorem pW(s:ByteArray)(r:Int):0≤(aD s r).1∧(aD s r).1≤8∧(aD s r).1≠1:=by
 unfold aD word
 simp only
 repeat' split
 all_goals simp
theorem xW(s:ByteArray)(p:Nat)(hp:p<s.size):blank (Utf8.decode s p).1=tJ s p:=by
 unfold blank tJ
 have h1:=eU s p hp 32 (by decide)
 have h2:=eU s p hp 10 (by decide)
 rw[Bool.eq_iff_iff]
 simp only[Bool.or_eq_true,beq_iff_eq,decide_eq_true_eq]
 omega
theorem UB(k:Int)(h0:0≤k)(h8:k≤8)(h1:k≠1):(kc k=101∨kc k=120)↔k=0:=by
 have e1:kc k=101↔k=1:=by
  have:=Oa k h0 h8 1 (by decide) (by decide)
  rw[Bool.eq_iff_iff]at this
  simp only[beq_iff_eq,decide_eq_true_eq]at this
  rw[show((kc 1:Nat):Int)=101 from rfl]at this
  omega
 have e2:kc k=120↔k=0:=by
  have:=Oa k h0 h8 0 (by decide) (by decide)
  rw[Bool.eq_iff_iff]at this
  simp only[beq_iff_eq,decide_eq_true_eq]at this
  rw[show((kc 0:Nat):Int)=120 from rfl]at this
  omega
 omega
theorem xh(s:ByteArray):∀f g a,s.size≤a+f→s.size≤a+g→gg s f a=gg s g a
 | 0,g,a,h,_=>by rw[fL (by omega),fL (by omega)]
 | f+1,0,a,_,h=>by rw[fL (by omega),fL (by omega)]
 | f+1,g+1,a,h1,h2=>by
  unfold gg
  rw[xh s f g (a+1) (by omega) (by omega)]
theorem G6(s:ByteArray):∀N p,s.size-p≤N→p≤s.size→∀f b acc f',s.size≤p+f→b≤p→s.size+1≤p+f'→(aX s f p b acc).map conv=fR s f' p (acc.map conv):=by
 intro N
 induction N with
 | zero=>
  intro p hN hp f b acc f' hf hb hf'
  have hpe:p=s.size:=by omega
  rw[pV s f p b acc (by omega)]
  obtain⟨g,rfl⟩:∃g,f'=g+1:=⟨f'-1,by omega⟩
  have ht:fy s p=⟨101,⟨#[]⟩,s.size⟩:=by
   unfold fy
   rw[fL (by omega),hpe]
   simp[cW]
  rw[ph ht (.inl rfl)]
  simp[conv,kc]
  rfl
 | succ N ih=>
  intro p hN hp f b acc f' hf hb hf'
  by_cases aC:p<s.size
  · obtain⟨F,rfl⟩:∃F,f=F+1:=⟨f-1,by omega⟩
    obtain⟨g,rfl⟩:∃g,f'=g+1:=⟨f'-1,by omega⟩
    cases fE:tJ s p
    · -- no blank: a token
      have Cl:¬(p<b∨blank (Utf8.decode s p).1=true):=by rw[xW s p aC,fE];simp;omega
      have hk:=pW (s.extract p s.size) (Utf8.decode s p).1
      have ht:fy s p=conv ⟨(aD (s.extract p s.size) (Utf8.decode s p).1).1,p,s.extract p (p+(aD (s.extract p s.size) (Utf8.decode s p).1).2)⟩:=by
       unfold fy
       rw[fL (by rw[fE];simp)]
       exact VJ s p aC
      rcases za:aD (s.extract p s.size) (Utf8.decode s p).1 with⟨k,n⟩
      rw[za]at hk ht
      simp only at hk ht
      by_cases FO:k=0
      · rw[nZ s F p b acc aC Cl k n za FO,ph ht (.inr (by simp[conv,kc,FO]))]
        simp
      · rw[qY s F p b acc aC Cl k n za FO]
        obtain⟨hn,hle,F',hF',e⟩:=Mg s p aC k n za FO F (acc++[⟨k,p,s.extract p (p+n)⟩]) (by omega)
        rw[e]
        have cL:¬((conv ⟨k,p,s.extract p (p+n)⟩).kind=101∨(conv ⟨k,p,s.extract p (p+n)⟩).kind=120):=by
         show ¬(kc k=101∨kc k=120)
         rw[UB k hk.1 hk.2.1 hk.2.2]
         exact FO
        rw[xN ht cL]
        have cr:(conv ⟨k,p,s.extract p (p+n)⟩).at_+(conv ⟨k,p,s.extract p (p+n)⟩).text.size=p+n:=by
         show p+(s.extract p (p+n)).size=p+n
         simp only[ByteArray.size_extract]
         omega
        rw[cr]
        have:=ih (p+n) (by omega) hle F' (p+n) (acc++[⟨k,p,s.extract p (p+n)⟩]) g hF' (Nat.le_refl _) (by omega)
        rw[this]
        simp
    · -- a blank
      have bk:byte s p<128:=by
       simp[tJ]at fE
       omega
      have hd:=mq s p aC bk
      rw[ia s F p b acc aC (.inr (by rw[xW s p aC,fE])),hd]
      have ht:fy s p=fy s (p+1):=by
       unfold fy
       obtain⟨m,hm⟩:∃m,s.size=m+1:=⟨s.size-1,by omega⟩
       have h1:gg s s.size p=gg s m (p+1):=by
        conv=>lhs;rw[hm]
        exact D8 aC fE
       rw[h1,xh s m s.size (p+1) (by omega) (by omega)]
      have:=ih (p+1) (by omega) (by omega) F b acc (g+1) (by omega) (by omega) (by omega)
      rw[this]
      unfold fR
      rw[ht]
  · have hpe:p=s.size:=by omega
    exact ih p (by omega) hp f b acc f' hf hb hf'
theorem oT(s:ByteArray):Fw s=(split s).map conv:=(G6 s s.size 0 (by omega) (Nat.zero_le _) s.size 0 [] (s.size+1) (by omega) (Nat.le_refl _) (by omega)).symm
theorem jL(s:ByteArray):∀f p b acc,Bs acc→Bs (aX s f p b acc)
 | 0,_,_,acc,h=>by
  intro t ht
  simp only[aX,List.mem_append,List.mem_singleton]at ht
  rcases ht with ht | rfl
  · exact h t ht
  · simp
 | f+1,p,b,acc,h=>by
  have hx:Bs (acc++[⟨(aD (s.extract p s.size) (Utf8.decode s p).1).1,p,s.extract p (p+(aD (s.extract p s.size) (Utf8.decode s p).1).2)⟩]):=by
   intro t ht
   simp only[List.mem_append,List.mem_singleton]at ht
   rcases ht with ht | rfl
   · exact h t ht
   · have:=pW (s.extract p s.size) (Utf8.decode s p).1
     exact⟨this.1,this.2.1⟩
  unfold aX
  split
  · split
    · exact jL s f _ _ _ h
    · simp only
      split
      · exact hx
      · exact jL s f _ _ _ hx
  · intro t ht
    simp only[List.mem_append,List.mem_singleton]at ht
    rcases ht with ht | rfl
    · exact h t ht
    · simp
theorem uu(s:ByteArray):Bs (split s):=jL s _ _ _ _ (fun _ h=>by cases h)
end Ax
/- A token's bytes tell the token, wherever they stand. No program here. -/
namespace Ax
structure tK(s:ByteArray)(a:Nat)(p:ByteArray)(b m:Nat):Prop where
 hs:a+m≤s.size
 hp:b+m≤p.size
 eq:∀k,k<m→byte s (a+k)=byte p (b+k)
theorem tK.eh{s p:ByteArray}{a b m:Nat}(h:tK s a p b m)(hm:0<m):byte s a=byte p b:=h.eq 0 hm
theorem tK.drop{s p:ByteArray}{a b m:Nat}(h:tK s a p b m)(k:Nat)(hk:k≤m):tK s (a+k) p (b+k) (m-k):=
 ⟨by have:=h.hs;omega,by have:=h.hp;omega,fun j hj=>by have:=h.eq (k+j) (by omega);rw[←Nat.add_assoc,←Nat.add_assoc]at this;exact this⟩
theorem xB{s p:ByteArray}{a b m:Nat}(h:tK s a p b m):∀j k c,k+j≤m→jI s a j k c=jI p b j k c
 | 0,_,_,_=>rfl
 | j+1,k,c,hk=>by
  have e:=h.eq k (by omega)
  have h1:=h.hs
  have h2:=h.hp
  unfold jI
  rw[e]
  have hz:(s.size≤a+k∨byte p (b+k)<128∨191<byte p (b+k))↔(p.size≤b+k∨byte p (b+k)<128∨191<byte p (b+k)):=by omega
  rw[xB h j (k+1) _ (by omega)]
  simp only[hz]
theorem Gm(n lo:Nat)(o:Option Nat):(oL n lo o).2=0∨(oL n lo o).2=n:=by
 unfold oL
 split
 · simp
 · split<;>simp
theorem Sn{s p:ByteArray}{a b m:Nat}(h:tK s a p b m)(hw:0<(pt s a).2)(hm:(pt s a).2≤m):pt p b=pt s a:=by
 have h0:=h.eh (by omega)
 have key:∀n lo c,0<(oL (n+1) lo (jI s a n 1 c)).2→(oL (n+1) lo (jI s a n 1 c)).2≤m→oL (n+1) lo (jI p b n 1 c)=oL (n+1) lo (jI s a n 1 c):=by
  intro n lo c h1 h2
  have:=Gm (n+1) lo (jI s a n 1 c)
  rw[xB h n 1 c (by omega)]
 unfold pt at hw hm ⊢
 simp only at hw hm ⊢
 rw[←h0]
 by_cases c1:byte s a<128
 · rw[if_pos c1,if_pos c1]
 · rw[if_neg c1]at hw hm ⊢
   rw[if_neg c1]
   by_cases c2:byte s a<192
   · rw[if_pos c2,if_pos c2]
   · rw[if_neg c2]at hw hm ⊢
     rw[if_neg c2]
     by_cases c3:byte s a<224
     · rw[if_pos c3]at hw hm ⊢
       rw[if_pos c3]
       exact key 1 _ _ hw hm
     · rw[if_neg c3]at hw hm ⊢
       rw[if_neg c3]
       by_cases c4:byte s a<240
       · rw[if_pos c4]at hw hm ⊢
         rw[if_pos c4]
         exact key 2 _ _ hw hm
       · rw[if_neg c4]at hw hm ⊢
         rw[if_neg c4]
         by_cases c5:byte s a<248
         · rw[if_pos c5]at hw hm ⊢
           rw[if_pos c5]
           exact key 3 _ _ hw hm
         · rw[if_neg c5,if_neg c5]
theorem MD{s p:ByteArray}{a b m:Nat}(h:tK s a p b m)(n:Nat)(hk:qq s a n=true)(hm:(pt s a).2≤m):qq p b n=true∧(pt p b).2=(pt s a).2:=by
 have hw:0<(pt s a).2:=by
  unfold qq at hk
  simp only[Bool.and_eq_true,decide_eq_true_eq]at hk
  exact hk.1
 have e:=Sn h hw hm
 refine⟨?_,by rw[e]⟩
 unfold qq at hk ⊢
 rw[e]
 exact hk
def EY(p:ByteArray)(b:Nat):Prop:=b=p.size∨(b<p.size∧(byte p b=40∨byte p b=41∨byte p b=44∨byte p b=46∨byte p b=58∨byte p b=32∨byte p b=10))
theorem qN{p:ByteArray}{b:Nat}(n:Nat)(h:byte p b=40∨byte p b=41∨byte p b=44∨byte p b=46∨byte p b=58∨byte p b=32∨byte p b=10):qq p b n=false:=by
 have e:pt p b=(byte p b,1):=by
  unfold pt
  simp only
  rw[if_pos (by omega)]
 unfold qq
 rw[e]
 rcases h with h | h | h | h | h | h | h<;>rw[h]<;>simp[nO]
theorem oy{p:ByteArray}{b:Nat}(f n:Nat)(h:EY p b):bY p f b n=(b,n):=by
 rcases h with h | ⟨_,h⟩
 · exact mA (by omega)
 · exact jc (qN n h)
theorem xf{s p:ByteArray}:∀(f a b n m f':Nat),tK s a p b m→(bY s f a n).1=a+m→p.size≤b+f'→EY p (b+m)→(∀i,(bY s f a n).1=i→i<s.size→qq s i (bY s f a n).2=false)→bY p f' b n=(b+m,(bY s f a n).2)
 | 0,a,b,n,m,f',hS,he,hf,eo,_=>by
  have hm:m=0:=by simp[bY]at he;omega
  subst hm
  exact oy _ _ eo
 | f+1,a,b,n,m,f',hS,he,hf,eo,dU=>by
  by_cases ha:a<s.size
  · cases hk:qq s a n
    · have e:bY s (f+1) a n=(a,n):=by simp[bY,hk]
      rw[e]at he ⊢
      have hm:m=0:=by simp at he;omega
      subst hm
      exact oy _ _ eo
    · have e:=me (f:=f) ha hk
      rw[e]at he dU ⊢
      have BO:=sa s f (a+(pt s a).2) (n+1)
      have hw:0<(pt s a).2:=by
       unfold qq at hk
       simp only[Bool.and_eq_true,decide_eq_true_eq]at hk
       exact hk.1
      obtain⟨BZ,RG⟩:=MD hS n hk (by omega)
      have hb:=hS.hp
      obtain⟨g,rfl⟩:∃g,f'=g+1:=⟨f'-1,by omega⟩
      rw[me (by omega) BZ,RG]
      have:=xf f (a+(pt s a).2) (b+(pt s a).2) (n+1) (m-(pt s a).2) g (hS.drop _ (by omega)) (by omega) (by omega) (by rw[show b+(pt s a).2+(m-(pt s a).2)=b+m by omega];exact eo) dU
      rw[this,show b+(pt s a).2+(m-(pt s a).2)=b+m by omega]
  · have e:bY s (f+1) a n=(a,n):=mA ha
    rw[e]at he ⊢
    have hm:m=0:=by simp at he;omega
    subst hm
    exact oy _ _ eo
end Ax
/- A token's bytes tell the token: tokens, blanks. No program here. -/
namespace Ax
def Real(k:Nat):Prop:=k≠101∧k≠120
def BI(k:Nat):Prop:=k=110∨k=118
theorem uG(s:ByteArray):∀f i n,s.size≤i+f→(bY s f i n).1<s.size→qq s (bY s f i n).1 (bY s f i n).2=false
 | 0,i,n,h,hl=>by simp[bY]at hl;omega
 | f+1,i,n,h,hl=>by
  by_cases hi:i<s.size
  · cases hk:qq s i n
    · have e:bY s (f+1) i n=(i,n):=by simp[bY,hk]
      rw[e];exact hk
    · have e:=me (f:=f) hi hk
      have hw:0<(pt s i).2:=by
       unfold qq at hk
       simp only[Bool.and_eq_true,decide_eq_true_eq]at hk
       exact hk.1
      rw[e]at hl ⊢
      exact uG s f _ _ (by omega) hl
  · rw[mA hi]at hl;simp at hl;omega
theorem jZ(s:ByteArray)(a e k:Nat)(he:e≤s.size)(hk:a+k<e):byte (s.extract a e) k=byte s (a+k):=by
 have h1:k<(s.extract a e).size:=by simp only[ByteArray.size_extract];omega
 rw[←hO _ _ h1,←hO s (a+k) (by omega)]
 simp[ByteArray.getElem_extract]
theorem Aj{x y:ByteArray}(hz:x.size=y.size)(h:∀k,k<x.size→byte x k=byte y k):x=y:=by
 cases x with | mk x=>cases y with | mk y=>
 congr 1
 apply Array.ext
 · simpa [ByteArray.size]using hz
 · intro i h1 h2
   have:=h i (by simpa [ByteArray.size]using h1)
   rw[←hO _ _ (by simpa [ByteArray.size]using h1),←hO _ _ (by simpa [ByteArray.size]using h2)]at this
   exact UInt8.toNat_inj.1 this
theorem ED{s p:ByteArray}{a b:Nat}{t:sH}(ha:a<s.size)(ht:cW s a=t)(hr:Real t.kind)(hS:tK s a p b t.text.size)(eo:BI t.kind→EY p (b+t.text.size)):0<t.text.size∧cW p b=⟨t.kind,t.text,b⟩∧t.at_=a:=by
 have BO:=sa s s.size a 0
 have hle:=xR s s.size a 0 (by omega)
 have hn:=Cu s s.size a 0
 unfold cW at ht
 simp only at ht
 rw[if_neg (by omega)]at ht
 by_cases h6:6<(bY s s.size a 0).2
 · rw[if_pos h6]at ht;rw[←ht]at hr;exact absurd rfl hr.2
 rw[if_neg h6]at ht
 by_cases h0:0<(bY s s.size a 0).2
 · -- a word
   have vh:t.text=s.extract a (bY s s.size a 0).1∧BI t.kind∧t.at_=a∧t.kind=(if 65≤byte s a∧byte s a≤90 then 118 else 110):=by
    by_cases hc:65≤byte s a∧byte s a≤90
    · rw[if_pos ⟨h0,hc⟩]at ht
      rw[←ht,if_pos hc]
      exact⟨rfl,.inr rfl,rfl,rfl⟩
    · rw[if_neg (fun h=>hc h.2),if_pos h0]at ht
      rw[←ht,if_neg hc]
      exact⟨rfl,.inl rfl,rfl,rfl⟩
   obtain⟨h1,h2,h3,h4⟩:=vh
   have hm:t.text.size=(bY s s.size a 0).1-a:=by rw[h1];simp only[ByteArray.size_extract];omega
   have hb:=hS.hp
   have hw:=xf s.size a b 0 t.text.size p.size hS (by omega) (by omega) (eo h2) (fun i hi hl=>by subst hi;exact uG s s.size a 0 (by omega) hl)
   have NJ:=hS.eh (by omega)
   refine⟨by omega, ?_,h3⟩
   have hx:p.extract b (b+t.text.size)=t.text:=by
    apply Aj
    · simp only[ByteArray.size_extract];omega
    · intro k hk
      simp only[ByteArray.size_extract]at hk
      rw[jZ p b _ k (by omega) (by omega),←hS.eq k (by omega),h1,jZ s a _ k hle (by omega)]
   unfold cW
   simp only
   rw[hw,if_neg (by omega),if_neg h6,←NJ,h4]
   by_cases hc:65≤byte s a∧byte s a≤90
   · rw[if_pos ⟨h0,hc⟩,if_pos hc,hx]
   · rw[if_neg (fun h=>hc h.2),if_pos h0,if_neg hc,hx]
 · -- a sign
   rw[if_neg (fun h=>h0 h.1),if_neg h0]at ht
   by_cases hc:byte s a=40∨byte s a=41∨byte s a=44∨byte s a=46
   · rw[if_pos hc]at ht
     have cr:t.text.size=1:=by rw[←ht];simp only[ByteArray.size_extract];omega
     have NJ:=hS.eh (by omega)
     have hb:=hS.hp
     have hw:bY p p.size b 0=(b,0):=jc (qN 0 (by rw[←NJ];omega))
     have hx:p.extract b (b+1)=t.text:=by
      apply Aj
      · simp only[ByteArray.size_extract];omega
      · intro k hk
        simp only[ByteArray.size_extract]at hk
        rw[jZ p b _ k (by omega) (by omega),←hS.eq k (by omega),←ht,jZ s a _ k (by omega) (by omega)]
     refine⟨by omega, ?_,by rw[←ht]⟩
     unfold cW
     simp only
     rw[hw,if_neg (by omega),if_neg (by omega),if_neg (by omega),if_neg (by omega),←NJ,if_pos hc,hx,←ht]
   · rw[if_neg hc]at ht
     by_cases Wt:byte s a=58∧a+1<s.size∧byte s (a+1)=45
     · rw[if_pos Wt]at ht
       have cr:t.text.size=2:=by rw[←ht];rfl
       have NJ:=hS.eh (by omega)
       have NP:=hS.eq 1 (by omega)
       have hb:=hS.hp
       have hw:bY p p.size b 0=(b,0):=jc (qN 0 (by rw[←NJ];omega))
       refine⟨by omega, ?_,by rw[←ht]⟩
       unfold cW
       simp only
       rw[hw,if_neg (by omega),if_neg (by omega),if_neg (by omega),if_neg (by omega),←NJ,if_neg hc,if_pos ⟨Wt.1,by omega,by rw[←NP];exact Wt.2.2⟩,←ht]
     · rw[if_neg Wt]at ht
       rw[←ht]at hr
       exact absurd rfl hr.2
end Ax
/- Texts that are laid out of tokens, with blanks between. No program here. -/
namespace Ax
structure It where
 kind:Nat
 text:ByteArray
def It.of(t:sH):It:=⟨t.kind,t.text⟩
def It.tok(x:It):Prop:=cW x.text 0=⟨x.kind,x.text,0⟩∧Real x.kind∧0<x.text.size
def Ri(p:ByteArray):Nat→List It→Prop
 | b,[]=>b=p.size
 | b,x::l=>∃c,b≤c∧(∀k,b≤k→k<c→tJ p k=true)∧c+x.text.size≤p.size∧(∀k,k<x.text.size→byte p (c+k)=byte x.text k)∧Ri p (c+x.text.size) l
def iM:List It→Prop
 | x::y::l=>¬(BI x.kind∧BI y.kind)∧iM (y::l)
 | _=>True
theorem tK.self(x p:ByteArray)(c:Nat)(h1:c+x.size≤p.size)(h2:∀k,k<x.size→byte p (c+k)=byte x k):tK x 0 p c x.size:=
 ⟨by omega,h1,fun k hk=>by rw[Nat.zero_add,h2 k hk]⟩
theorem Bv{x:It}(h:x.tok):¬(byte x.text 0=32∨byte x.text 0=10)∧(¬BI x.kind→byte x.text 0=40∨byte x.text 0=41∨byte x.text 0=44∨byte x.text 0=46∨byte x.text 0=58):=by
 obtain⟨ht,hr,h0⟩:=h
 have hk:x.kind=(cW x.text 0).kind:=by rw[ht]
 constructor
 · intro hb
   have hw:bY x.text x.text.size 0 0=(0,0):=jc (qN 0 (by omega))
   have:(cW x.text 0).kind=120:=by
    unfold cW
    simp only
    rw[hw,if_neg (by omega),if_neg (by omega),if_neg (by omega),if_neg (by omega),if_neg (by omega),if_neg (by omega)]
   exact hr.2 (hk.trans this)
 · intro Y3
   unfold cW at hk
   simp only at hk
   rw[if_neg (by omega)]at hk
   by_cases h6:6<(bY x.text x.text.size 0 0).2
   · rw[if_pos h6]at hk;exact absurd hk hr.2
   rw[if_neg h6]at hk
   by_cases hp:0<(bY x.text x.text.size 0 0).2
   · by_cases hc:65≤byte x.text 0∧byte x.text 0≤90
     · rw[if_pos ⟨hp,hc⟩]at hk;exact absurd (.inr hk) Y3
     · rw[if_neg (fun h=>hc h.2),if_pos hp]at hk;exact absurd (.inl hk) Y3
   · rw[if_neg (fun h=>hp h.1),if_neg hp]at hk
     by_cases hc:byte x.text 0=40∨byte x.text 0=41∨byte x.text 0=44∨byte x.text 0=46
     · omega
     · rw[if_neg hc]at hk
       by_cases Wt:byte x.text 0=58∧0+1<x.text.size∧byte x.text (0+1)=45
       · omega
       · rw[if_neg Wt]at hk;exact absurd hk hr.2
theorem EF{p:ByteArray}:∀(f b c:Nat),b≤c→(∀k,b≤k→k<c→tJ p k=true)→c<p.size→tJ p c=false→c≤b+f→gg p f b=c
 | 0,b,c,h1,_,_,_,h5=>by simp[gg];omega
 | f+1,b,c,h1,h2,h3,h4,h5=>by
  by_cases e:b=c
  · subst e
    exact fL (by simp[h4])
  · rw[D8 (by omega) (h2 b (by omega) (by omega))]
    exact EF f (b+1) c (by omega) (fun k sL ml=>h2 k (by omega) ml) h3 h4 (by omega)
theorem JU{p:ByteArray}{b:Nat}{x:It}{l:List It}(h:Ri p b l)(hl:∀y,y∈l→y.tok)(ha:iM (x::l))(hx:BI x.kind):EY p b:=by
 cases l with
 | nil=>exact .inl h
 | cons y l=>
  obtain⟨c,h1,h2,h3,h4,_⟩:=h
  have hy:=hl y (by simp)
  have hy0:=hy.2.2
  by_cases e:b=c
  · subst e
    have:=(Bv hy).2 (fun hw=>ha.1 ⟨hx,hw⟩)
    have e0:=h4 0 hy0
    rw[Nat.add_zero]at e0
    exact .inr ⟨by omega,by rw[e0];omega⟩
  · have:=h2 b (by omega) (by omega)
    simp only[tJ,Bool.or_eq_true,decide_eq_true_eq]at this
    exact .inr ⟨by omega,by omega⟩
theorem wZ(p:ByteArray):∀(l:List It) (b f:Nat) (acc:List sH),Ri p b l→(∀y,y∈l→y.tok)→iM l→p.size+1≤b+f→b≤p.size→
 ∃m,fR p f b acc=acc++m++[⟨101,⟨#[]⟩,p.size⟩]∧m.map It.of=l
 | [],b,f,acc,h,_,_,hf,hb=>by
  have lW:b=p.size:=h
  obtain⟨g,rfl⟩:∃g,f=g+1:=⟨f-1,by omega⟩
  refine⟨[], ?_,rfl⟩
  have ht:fy p b=⟨101,⟨#[]⟩,p.size⟩:=by
   unfold fy
   rw[fL (by omega),lW]
   simp[cW]
  rw[ph ht (.inl rfl)]
  simp
 | x::l,b,f,acc,h,hl,ha,hf,hb=>by
  have h':=h
  obtain⟨c,h1,h2,h3,h4,h5⟩:=h
  have hx:=hl x (by simp)
  have FL:=hx.2.2
  have acg:=(Bv hx).1
  have e0:=h4 0 FL
  rw[Nat.add_zero]at e0
  have Cl:tJ p c=false:=by
   rw[Bool.eq_false_iff]
   intro hb
   simp only[tJ,Bool.or_eq_true,decide_eq_true_eq]at hb
   omega
  have PE:iM l:=by
   cases l with
   | nil=>trivial
   | cons y l=>exact ha.2
  have YD:BI x.kind→EY p (c+x.text.size):=fun hw=>JU h5 (fun y hy=>hl y (by simp[hy])) ha hw
  have hsk:gg p p.size b=c:=EF p.size b c h1 h2 (by omega) Cl (by omega)
  obtain⟨_,sJ,_⟩:=ED (s:=x.text) (p:=p) (a:=0) (b:=c) (t:=⟨x.kind,x.text,0⟩) FL hx.1 hx.2.1 (tK.self x.text p c h3 h4) YD
  have ht:fy p b=⟨x.kind,x.text,c⟩:=by unfold fy;rw[hsk];exact sJ
  obtain⟨g,rfl⟩:∃g,f=g+1:=⟨f-1,by omega⟩
  rw[xN ht (fun hh=>hh.elim hx.2.1.1 hx.2.1.2)]
  obtain⟨m,WC,M9⟩:=wZ p l (c+x.text.size) g (acc++[⟨x.kind,x.text,c⟩]) h5 (fun y hy=>hl y (by simp[hy])) PE (by omega) h3
  refine⟨⟨x.kind,x.text,c⟩::m, ?_,by rw[List.map_cons,M9];rfl⟩
  rw[WC]
  simp
theorem Ay(p:ByteArray)(l:List It)(h:Ri p 0 l)(hl:∀y,y∈l→y.tok)(ha:iM l):∃m,Fw p=m++[⟨101,⟨#[]⟩,p.size⟩]∧m.map It.of=l:=by
 obtain⟨m,h1,h2⟩:=wZ p l 0 (p.size+1) [] h hl ha (by omega) (Nat.zero_le _)
 exact⟨m,by simpa [Fw]using h1,h2⟩
end Ax
/- What can be read has no two words side by side; the plain form is laid of its tokens. No program here. -/
namespace Ax
def W(T:List Tok)(k:Nat):Prop:=aA T k=2∨aA T k=3
def ga(T:List Tok)(i j:Nat):Prop:=∀k,i≤k→k<j→¬(W T k∧W T (k+1))
theorem ga.join{T:List Tok}{i j l:Nat}(h1:ga T i j)(h2:ga T j l):ga T i l:=fun k sL ml=>if h:k<j then h1 k sL h else h2 k (by omega) ml
theorem ga.one{T:List Tok}{i:Nat}(h:¬W T i∨¬W T (i+1)):ga T i (i+1):=fun k h1 h2 hw=>by
 obtain rfl:k=i:=by omega
 exact h.elim (fun h=>h hw.1) (fun h=>h hw.2)
theorem qT{T:List Tok}:∀(f i:Nat) (acc:List Term) {ts:List Term} {j:Nat},bP T f i acc=(some ts,j)→aA T j=5→ga T i j
 | 0,i,acc,ts,j,h,_=>by simp[bP]at h
 | f+1,i,acc,ts,j,h,h5=>by
  rcases hA:jE T i with⟨_ | t,j'⟩
  · simp[bP,hA]at h
  · have hj':j'=i+1:=by
     unfold jE at hA
     split at hA
     · split at hA
       · simp at hA;exact hA.2.symm
       · simp at hA
     · simp at hA
    subst hj'
    by_cases h6:aA T (i+1)=6
    · rw[tQ hA h6]at h
      have ih:=qT f (i+1+1) _ h h5
      exact(ga.one (.inr (by unfold W;omega))).join ((ga.one (.inl (by unfold W;omega))).join ih)
    · rw[oU hA h6]at h
      simp at h
      obtain⟨_,rfl⟩:=h
      exact ga.one (.inr (by unfold W;omega))
theorem uA{T:List Tok}{i j:Nat}{a:Atom}(h:bQ T i=(some a,j)):ga T i j:=by
 unfold bQ at h
 split at h
 · simp at h
 · rename_i t ht
   split at h
   · rename_i h2
     split at h
     · rename_i h4
       rcases hT:bP T T.length (i+1+1) []with⟨_ | ts,j'⟩
       · rw[hT]at h;simp at h
       · rw[hT]at h
         simp only at h
         split at h
         · rename_i h5
           simp at h
           obtain⟨_,rfl⟩:=h
           have:=qT _ _ _ hT h5
           exact(ga.one (.inr (by unfold W;omega))).join ((ga.one (.inl (by unfold W;omega))).join (this.join (ga.one (.inl (by unfold W;omega)))))
         · simp at h
     · simp at h
   · simp at h
theorem rV{T:List Tok}:∀(f i:Nat) (acc:List Atom) {r:List Atom} {j:Nat},bL T f i acc=(some r,j)→ga T i j
 | 0,i,acc,r,j,h=>by simp[bL]at h
 | f+1,i,acc,r,j,h=>by
  rcases hA:bQ T i with⟨_ | a,j'⟩
  · rw[gX hA]at h;simp at h
  · have h1:=uA hA
    by_cases h6:aA T j'=6
    · rw[iP hA h6]at h
      exact h1.join ((ga.one (.inl (by unfold W;omega))).join (rV f _ _ h))
    · rw[fJ hA h6]at h
      simp at h
      obtain⟨_,rfl⟩:=h
      exact h1
theorem Ed{T:List Tok}{i j:Nat}{r:aP}(h:dX T i=(some r,j)):ga T i j:=by
 rcases hA:bQ T i with⟨_ | a,j1⟩
 · rw[nN hA]at h;simp at h
 · have h1:=uA hA
   by_cases h8:aA T j1=8
   · rcases hB:bL T T.length (j1+1) []with⟨_ | b,j2⟩
     · rw[ny hA h8 hB]at h;simp at h
     · have h2:=rV _ _ _ hB
       by_cases h7:aA T j2=7
       · rw[ly hA h8 hB h7]at h
         simp at h
         obtain⟨_,rfl⟩:=h
         exact h1.join ((ga.one (.inl (by unfold W;omega))).join (h2.join (ga.one (.inl (by unfold W;omega)))))
       · rw[nh hA h8 hB h7]at h;simp at h
   · by_cases h7:aA T j1=7
     · rw[lE hA h8 h7]at h
       simp at h
       obtain⟨_,rfl⟩:=h
       exact h1.join (ga.one (.inl (by unfold W;omega)))
     · rw[nR hA h8 h7]at h;simp at h
theorem sf{T:List Tok}:∀(f i:Nat) (acc:List aP) {r:List aP} {j:Nat},bM T f i acc=(some r,j)→ga T i j∧aA T j=1∧i≤j
 | 0,i,acc,r,j,h=>by simp[bM]at h
 | f+1,i,acc,r,j,h=>by
  by_cases h1:aA T i=1
  · rw[iS h1]at h
    simp at h
    obtain⟨_,rfl⟩:=h
    exact⟨fun k sL ml=>by omega,h1,Nat.le_refl _⟩
  · rcases hR:dX T i with⟨_ | x,j'⟩
    · rw[jw h1 hR]at h;simp at h
    · rw[kx h1 hR]at h
      obtain⟨h2,h3,h4⟩:=sf f _ _ h
      have h5:=Ed hR
      have h6:i≤j':=by
       rcases hA:bQ T i with⟨_ | a,j1⟩
       · rw[nN hA]at hR;simp at hR
       · have hg:=rz hA
         by_cases h8:aA T j1=8
         · rcases hB:bL T T.length (j1+1) []with⟨_ | b,j2⟩
           · rw[ny hA h8 hB]at hR;simp at hR
           · have:=tB _ _ _ hB
             by_cases h7:aA T j2=7
             · rw[ly hA h8 hB h7]at hR;simp at hR;omega
             · rw[nh hA h8 hB h7]at hR;simp at hR
         · by_cases h7:aA T j1=7
           · rw[lE hA h8 h7]at hR;simp at hR;omega
           · rw[nR hA h8 h7]at hR;simp at hR
      exact⟨h5.join h2,h3,by omega⟩
end Ax
/- Where tokens stand changes no answer but places. No program here. -/
namespace Ax
def er(t:Tok):Int×ByteArray:=(t.kind,t.text)
def yR(a:Atom):ByteArray×List Term:=(a.pred,a.ag)
def ke(r:aP):(ByteArray×List Term)×List (ByteArray×List Term):=(yR r.head,r.body.map yR)
end Ax
end Go.Proofs.YtdmicblafmhflaaGreatDoor
