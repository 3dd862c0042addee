/- The reference's tokens are the program's: the whole text. No program here. -/
import Derived.Test.YtdmicblafmhflaaGreatDoorC01
set_option linter.unusedSimpArgs false
set_option linter.unusedVariables false
namespace Go.Proofs.YtdmicblafmhflaaGreatDoor
namespace Ax
theorem ot(s:ByteArray):∀f q n,q≤s.size→q≤(aR s f q n).1
 | 0,q,n,h=>h
 | f+1,q,n,h=>by
  unfold aR
  split
  · rename_i hq
    split
    · exact Nat.le_refl _
    · have:=ot s f (q+(Utf8.decode s q).2) (n+1) (mf s q hq)
      omega
  · exact h
theorem zA(s:ByteArray)(p:Nat):∀f q n F acc,0<q→p+q≤s.size→s.size≤p+q+f→s.size≤p+q+F→
 ∃F',s.size≤p+(aR (s.extract p s.size) f q n).1+F'∧bj s F (p+q) (p+(aR (s.extract p s.size) f q n).1) acc=bj s F' (p+(aR (s.extract p s.size) f q n).1) (p+(aR (s.extract p s.size) f q n).1) acc
 | 0,q,n,F,acc,hq,hl,hf,hF=>by
  have e:(aR (s.extract p s.size) 0 q n).1=q:=by simp only[aR,dB];omega
  rw[e]
  exact⟨F,hF,rfl⟩
 | f+1,q,n,F,acc,hq,hl,hf,hF=>by
  by_cases aG:p+q<s.size
  · have Hz:q<(s.extract p s.size).size:=by rw[dB];omega
    cases hs:stops (s.extract p s.size) q
    · have e:aR (s.extract p s.size) (f+1) q n=aR (s.extract p s.size) f (q+(Utf8.decode s (p+q)).2) (n+1):=by
       have:=Nd (s.extract p s.size) f q n Hz hs
       rw[jo]at this
       exact this
      have hw:=iR s (p+q) aG
      have Co:=mf s (p+q) aG
      have AM:=ot (s.extract p s.size) f (q+(Utf8.decode s (p+q)).2) (n+1) (by rw[dB];omega)
      rw[e]
      obtain⟨G,rfl⟩:∃G,F=G+1:=⟨F-1,by omega⟩
      rw[ia s G (p+q) _ acc aG (.inl (by omega)),Nat.add_assoc p q]
      exact zA s p f (q+(Utf8.decode s (p+q)).2) (n+1) G acc (by omega) (by omega) (by omega) (by omega)
    · have e:aR (s.extract p s.size) (f+1) q n=(q,n):=by
       unfold aR
       rw[if_pos Hz,if_pos hs]
      rw[e]
      exact⟨F,hF,rfl⟩
  · have Hz:¬q<(s.extract p s.size).size:=by rw[dB];omega
    have e:(aR (s.extract p s.size) (f+1) q n).1=q:=by
     unfold aR
     rw[if_neg Hz,dB]
     omega
    rw[e]
    exact⟨F,hF,rfl⟩
theorem M1(s:ByteArray)(p:Nat)(hp:p<s.size)(k:Int)(n:Nat)(ht:aN (s.extract p s.size) (Utf8.decode s p).1=(k,n))(hk:k≠0)(F:Nat)(acc:List Tok)(hF:s.size≤p+(F+1)):
 0<n∧p+n≤s.size∧∃F',s.size≤p+n+F'∧bj s F (p+(Utf8.decode s p).2) (p+n) acc=bj s F' (p+n) (p+n) acc:=by
 have hw:=iR s p hp
 have Co:=mf s p hp
 have FR:∀c:Nat,c<128→((Utf8.decode s p).1:Int)=c→(Utf8.decode s p).2=1:=by
  intro c hc h
  have hb:=(eW s p hp c hc).1 (by omega)
  rw[me s p hp (by omega)]
 have key:∀c:Nat,c<128→((Utf8.decode s p).1:Int)=c→n=1→(0<n∧p+n≤s.size∧∃F',s.size≤p+n+F'∧bj s F (p+(Utf8.decode s p).2) (p+n) acc=bj s F' (p+n) (p+n) acc):=by
  intro c hc h hn
  rw[FR c hc h,hn]
  exact⟨by omega,by omega,F,by omega,rfl⟩
 have RF:∀j:Int,word (s.extract p s.size) j=(k,n)→(0<n∧p+n≤s.size∧∃F',s.size≤p+n+F'∧bj s F (p+(Utf8.decode s p).2) (p+n) acc=bj s F' (p+n) (p+n) acc):=by
  intro j hj
  unfold word at hj
  simp only at hj
  split at hj
  · simp at hj;omega
  · simp only[Prod.mk.injEq]at hj
    obtain⟨_,rfl⟩:=hj
    obtain⟨f,hf⟩:∃f,(s.extract p s.size).size=f+1:=⟨s.size-p-1,by rw[dB];omega⟩
    have e:aR (s.extract p s.size) (s.extract p s.size).size 0 0=aR (s.extract p s.size) f ((Utf8.decode s p).2) 1:=by
     have eL:stops (s.extract p s.size) 0=false:=by simp[stops]
     have:=Nd (s.extract p s.size) f 0 0 (by omega) eL
     rw[jo]at this
     rw[hf,this]
     simp
    rw[e]
    have cR:=dB s p
    have AM:=ot (s.extract p s.size) f ((Utf8.decode s p).2) 1 (by omega)
    have hle:=oq (s.extract p s.size) f ((Utf8.decode s p).2) 1
    exact⟨by omega,by omega,zA s p f _ 1 F acc (by omega) Co (by omega) (by omega)⟩
 unfold aN at ht
 split at ht
 · rename_i h;simp at ht;exact key 40 (by decide) h ht.2.symm
 split at ht
 · rename_i h;simp at ht;exact key 41 (by decide) h ht.2.symm
 split at ht
 · rename_i h;simp at ht;exact key 44 (by decide) h ht.2.symm
 split at ht
 · rename_i h;simp at ht;exact key 46 (by decide) h ht.2.symm
 split at ht
 · rename_i hc
   simp only[Prod.mk.injEq]at ht
   obtain⟨_,rfl⟩:=ht
   have AN:=(Nk s p 58 45).1 hc
   rw[show(58:UInt8).toNat=58 from rfl,show(45:UInt8).toNat=45 from rfl]at AN
   obtain⟨h1,h2,h3⟩:=AN
   have hd:Utf8.decode s p=(58,1):=by rw[me s p (by omega) (by omega),h2]
   have hd1:Utf8.decode s (p+1)=(45,1):=by rw[me s (p+1) h1 (by omega),h3]
   refine⟨by omega,by omega, ?_⟩
   rw[hd]
   obtain⟨G,rfl⟩:∃G,F=G+1:=⟨F-1,by omega⟩
   refine⟨G,by omega, ?_⟩
   rw[ia s G (p+1) (p+2) acc h1 (.inl (by omega)),hd1]
   rfl
 split at ht
 · exact RF 2 ht
 split at ht
 · exact RF 3 ht
 · simp at ht;omega
theorem p9(s:ByteArray)(r:Int):0≤(aN s r).1∧(aN s r).1≤8∧(aN s r).1≠1:=by
 unfold aN word
 simp only
 repeat' split
 all_goals simp
theorem xW(s:ByteArray)(p:Nat)(hp:p<s.size):blank (Utf8.decode s p).1=tC s p:=by
 unfold blank tC
 have h1:=eW s p hp 32 (by decide)
 have h2:=eW s p hp 10 (by decide)
 rw[Bool.eq_iff_iff]
 simp only[Bool.or_eq_true,beq_iff_eq,decide_eq_true_eq]
 omega
theorem UP(k:Int)(h0:0≤k)(h8:k≤8)(h1:k≠1):(kc k=101∨kc k=120)↔k=0:=by
 have e1:kc k=101↔k=1:=by
  have:=Oh k h0 h8 1 (by decide) (by decide)
  rw[Bool.eq_iff_iff]at this
  simp only[beq_iff_eq,decide_eq_true_eq]at this
  rw[show((kc 1:Nat):Int)=101 from rfl]at this
  omega
 have e2:kc k=120↔k=0:=by
  have:=Oh k h0 h8 0 (by decide) (by decide)
  rw[Bool.eq_iff_iff]at this
  simp only[beq_iff_eq,decide_eq_true_eq]at this
  rw[show((kc 0:Nat):Int)=120 from rfl]at this
  omega
 omega
theorem vD(s:ByteArray):∀f g a,s.size≤a+f→s.size≤a+g→kP s f a=kP s g a
 | 0,g,a,h,_=>by rw[fB (by omega),fB (by omega)]
 | f+1,0,a,_,h=>by rw[fB (by omega),fB (by omega)]
 | f+1,g+1,a,h1,h2=>by
  unfold kP
  rw[vD s f g (a+1) (by omega) (by omega)]
theorem Gz(s:ByteArray):∀N p,s.size-p≤N→p≤s.size→∀f b acc f',s.size≤p+f→b≤p→s.size+1≤p+f'→(bj s f p b acc).map conv=jk s f' p (acc.map conv):=by
 intro N
 induction N with
 | zero=>
  intro p hN hp f b acc f' hf hb hf'
  have ZE:p=s.size:=by omega
  rw[pV s f p b acc (by omega)]
  obtain⟨g,rfl⟩:∃g,f'=g+1:=⟨f'-1,by omega⟩
  have ht:nt s p=⟨101,⟨#[]⟩,s.size⟩:=by
   unfold nt
   rw[fB (by omega),ZE]
   simp[dR]
  rw[oo ht (.inl rfl)]
  simp[conv,kc]
  rfl
 | succ N ih=>
  intro p hN hp f b acc f' hf hb hf'
  by_cases aG:p<s.size
  · obtain⟨F,rfl⟩:∃F,f=F+1:=⟨f-1,by omega⟩
    obtain⟨g,rfl⟩:∃g,f'=g+1:=⟨f'-1,by omega⟩
    cases ff:tC s p
    · -- no blank: a token
      have Cb:¬(p<b∨blank (Utf8.decode s p).1=true):=by rw[xW s p aG,ff];simp;omega
      have hk:=p9 (s.extract p s.size) (Utf8.decode s p).1
      have ht:nt s p=conv ⟨(aN (s.extract p s.size) (Utf8.decode s p).1).1,p,s.extract p (p+(aN (s.extract p s.size) (Utf8.decode s p).1).2)⟩:=by
       unfold nt
       rw[fB (by rw[ff];simp)]
       exact UD s p aG
      rcases yZ:aN (s.extract p s.size) (Utf8.decode s p).1 with⟨k,n⟩
      rw[yZ]at hk ht
      simp only at hk ht
      by_cases EK:k=0
      · rw[nK s F p b acc aG Cb k n yZ EK,oo ht (.inr (by simp[conv,kc,EK]))]
        simp
      · rw[sC s F p b acc aG Cb k n yZ EK]
        obtain⟨hn,hle,F',hF',e⟩:=M1 s p aG k n yZ EK F (acc++[⟨k,p,s.extract p (p+n)⟩]) (by omega)
        rw[e]
        have cE:¬((conv ⟨k,p,s.extract p (p+n)⟩).kind=101∨(conv ⟨k,p,s.extract p (p+n)⟩).kind=120):=by
         show ¬(kc k=101∨kc k=120)
         rw[UP k hk.1 hk.2.1 hk.2.2]
         exact EK
        rw[xg ht cE]
        have cR:(conv ⟨k,p,s.extract p (p+n)⟩).at_+(conv ⟨k,p,s.extract p (p+n)⟩).text.size=p+n:=by
         show p+(s.extract p (p+n)).size=p+n
         simp only[ByteArray.size_extract]
         omega
        rw[cR]
        have:=ih (p+n) (by omega) hle F' (p+n) (acc++[⟨k,p,s.extract p (p+n)⟩]) g hF' (Nat.le_refl _) (by omega)
        rw[this]
        simp
    · -- a blank
      have bq:byte s p<128:=by
       simp[tC]at ff
       omega
      have hd:=me s p aG bq
      rw[ia s F p b acc aG (.inr (by rw[xW s p aG,ff])),hd]
      have ht:nt s p=nt s (p+1):=by
       unfold nt
       obtain⟨m,hm⟩:∃m,s.size=m+1:=⟨s.size-1,by omega⟩
       have h1:kP s s.size p=kP s m (p+1):=by
        conv=>lhs;rw[hm]
        exact Cu aG ff
       rw[h1,vD s m s.size (p+1) (by omega) (by omega)]
      have:=ih (p+1) (by omega) (by omega) F b acc (g+1) (by omega) (by omega) (by omega)
      rw[this]
      unfold jk
      rw[ht]
  · have ZE:p=s.size:=by omega
    exact ih p (by omega) hp f b acc f' hf hb hf'
theorem uD(s:ByteArray):N4 s=(split s).map conv:=(Gz s s.size 0 (by omega) (Nat.zero_le _) s.size 0 [] (s.size+1) (by omega) (Nat.le_refl _) (by omega)).symm
theorem jI(s:ByteArray):∀f p b acc,zV acc→zV (bj s f p b acc)
 | 0,_,_,acc,h=>by
  intro t ht
  simp only[bj,List.mem_append,List.mem_singleton]at ht
  rcases ht with ht | rfl
  · exact h t ht
  · simp
 | f+1,p,b,acc,h=>by
  have hx:zV (acc++[⟨(aN (s.extract p s.size) (Utf8.decode s p).1).1,p,s.extract p (p+(aN (s.extract p s.size) (Utf8.decode s p).1).2)⟩]):=by
   intro t ht
   simp only[List.mem_append,List.mem_singleton]at ht
   rcases ht with ht | rfl
   · exact h t ht
   · have:=p9 (s.extract p s.size) (Utf8.decode s p).1
     exact⟨this.1,this.2.1⟩
  unfold bj
  split
  · split
    · exact jI s f _ _ _ h
    · simp only
      split
      · exact hx
      · exact jI s f _ _ _ hx
  · intro t ht
    simp only[List.mem_append,List.mem_singleton]at ht
    rcases ht with ht | rfl
    · exact h t ht
    · simp
theorem uu(s:ByteArray):zV (split s):=jI s _ _ _ _ (fun _ h=>by cases h)
end Ax
/- A token's bytes tell the token, wherever they stand. No program here. -/
namespace Ax
structure tN(s:ByteArray)(a:Nat)(p:ByteArray)(b m:Nat):Prop where
 hs:a+m≤s.size
 hp:b+m≤p.size
 eq:∀k,k<m→byte s (a+k)=byte p (b+k)
theorem tN.dZ{s p:ByteArray}{a b m:Nat}(h:tN s a p b m)(hm:0<m):byte s a=byte p b:=h.eq 0 hm
theorem tN.drop{s p:ByteArray}{a b m:Nat}(h:tN s a p b m)(k:Nat)(hk:k≤m):tN s (a+k) p (b+k) (m-k):=
 ⟨by have:=h.hs;omega,by have:=h.hp;omega,fun j hj=>by have:=h.eq (k+j) (by omega);rw[←Nat.add_assoc,←Nat.add_assoc]at this;exact this⟩
theorem xB{s p:ByteArray}{a b m:Nat}(h:tN s a p b m):∀j k c,k+j≤m→jA s a j k c=jA p b j k c
 | 0,_,_,_=>rfl
 | j+1,k,c,hk=>by
  have e:=h.eq k (by omega)
  have h1:=h.hs
  have h2:=h.hp
  unfold jA
  rw[e]
  have hz:(s.size≤a+k∨byte p (b+k)<128∨191<byte p (b+k))↔(p.size≤b+k∨byte p (b+k)<128∨191<byte p (b+k)):=by omega
  rw[xB h j (k+1) _ (by omega)]
  simp only[hz]
theorem GA(n lo:Nat)(o:Option Nat):(oO n lo o).2=0∨(oO n lo o).2=n:=by
 unfold oO
 split
 · simp
 · split<;>simp
theorem QA{s p:ByteArray}{a b m:Nat}(h:tN s a p b m)(hw:0<(pt s a).2)(hm:(pt s a).2≤m):pt p b=pt s a:=by
 have h0:=h.dZ (by omega)
 have key:∀n lo c,0<(oO (n+1) lo (jA s a n 1 c)).2→(oO (n+1) lo (jA s a n 1 c)).2≤m→oO (n+1) lo (jA p b n 1 c)=oO (n+1) lo (jA s a n 1 c):=by
  intro n lo c h1 h2
  have:=GA (n+1) lo (jA s a n 1 c)
  rw[xB h n 1 c (by omega)]
 unfold pt at hw hm ⊢
 simp only at hw hm ⊢
 rw[←h0]
 by_cases c1:byte s a<128
 · rw[if_pos c1,if_pos c1]
 · rw[if_neg c1]at hw hm ⊢
   rw[if_neg c1]
   by_cases c2:byte s a<192
   · rw[if_pos c2,if_pos c2]
   · rw[if_neg c2]at hw hm ⊢
     rw[if_neg c2]
     by_cases c3:byte s a<224
     · rw[if_pos c3]at hw hm ⊢
       rw[if_pos c3]
       exact key 1 _ _ hw hm
     · rw[if_neg c3]at hw hm ⊢
       rw[if_neg c3]
       by_cases c4:byte s a<240
       · rw[if_pos c4]at hw hm ⊢
         rw[if_pos c4]
         exact key 2 _ _ hw hm
       · rw[if_neg c4]at hw hm ⊢
         rw[if_neg c4]
         by_cases c5:byte s a<248
         · rw[if_pos c5]at hw hm ⊢
           rw[if_pos c5]
           exact key 3 _ _ hw hm
         · rw[if_neg c5,if_neg c5]
theorem L6{s p:ByteArray}{a b m:Nat}(h:tN s a p b m)(n:Nat)(hk:qg s a n=true)(hm:(pt s a).2≤m):qg p b n=true∧(pt p b).2=(pt s a).2:=by
 have hw:0<(pt s a).2:=by
  unfold qg at hk
  simp only[Bool.and_eq_true,decide_eq_true_eq]at hk
  exact hk.1
 have e:=QA h hw hm
 refine⟨?_,by rw[e]⟩
 unfold qg at hk ⊢
 rw[e]
 exact hk
def CQ(p:ByteArray)(b:Nat):Prop:=b=p.size∨(b<p.size∧(byte p b=40∨byte p b=41∨byte p b=44∨byte p b=46∨byte p b=58∨byte p b=32∨byte p b=10))
theorem sj{p:ByteArray}{b:Nat}(n:Nat)(h:byte p b=40∨byte p b=41∨byte p b=44∨byte p b=46∨byte p b=58∨byte p b=32∨byte p b=10):qg p b n=false:=by
 have e:pt p b=(byte p b,1):=by
  unfold pt
  simp only
  rw[if_pos (by omega)]
 unfold qg
 rw[e]
 rcases h with h | h | h | h | h | h | h<;>rw[h]<;>simp[mQ]
theorem oI{p:ByteArray}{b:Nat}(f n:Nat)(h:CQ p b):cl p f b n=(b,n):=by
 rcases h with h | ⟨_,h⟩
 · exact l7 (by omega)
 · exact iZ (sj n h)
theorem xF{s p:ByteArray}:∀(f a b n m f':Nat),tN s a p b m→(cl s f a n).1=a+m→p.size≤b+f'→CQ p (b+m)→(∀i,(cl s f a n).1=i→i<s.size→qg s i (cl s f a n).2=false)→cl p f' b n=(b+m,(cl s f a n).2)
 | 0,a,b,n,m,f',hS,he,hf,eL,_=>by
  have hm:m=0:=by simp[cl]at he;omega
  subst hm
  exact oI _ _ eL
 | f+1,a,b,n,m,f',hS,he,hf,eL,eh=>by
  by_cases ha:a<s.size
  · cases hk:qg s a n
    · have e:cl s (f+1) a n=(a,n):=by simp[cl,hk]
      rw[e]at he ⊢
      have hm:m=0:=by simp at he;omega
      subst hm
      exact oI _ _ eL
    · have e:=mE (f:=f) ha hk
      rw[e]at he eh ⊢
      have AM:=xn s f (a+(pt s a).2) (n+1)
      have hw:0<(pt s a).2:=by
       unfold qg at hk
       simp only[Bool.and_eq_true,decide_eq_true_eq]at hk
       exact hk.1
      obtain⟨A0,QW⟩:=L6 hS n hk (by omega)
      have hb:=hS.hp
      obtain⟨g,rfl⟩:∃g,f'=g+1:=⟨f'-1,by omega⟩
      rw[mE (by omega) A0,QW]
      have:=xF f (a+(pt s a).2) (b+(pt s a).2) (n+1) (m-(pt s a).2) g (hS.drop _ (by omega)) (by omega) (by omega) (by rw[show b+(pt s a).2+(m-(pt s a).2)=b+m by omega];exact eL) eh
      rw[this,show b+(pt s a).2+(m-(pt s a).2)=b+m by omega]
  · have e:cl s (f+1) a n=(a,n):=l7 ha
    rw[e]at he ⊢
    have hm:m=0:=by simp at he;omega
    subst hm
    exact oI _ _ eL
end Ax
/- A token's bytes tell the token: tokens, blanks. No program here. -/
namespace Ax
def Real(k:Nat):Prop:=k≠101∧k≠120
def A4(k:Nat):Prop:=k=110∨k=118
theorem uB(s:ByteArray):∀f i n,s.size≤i+f→(cl s f i n).1<s.size→qg s (cl s f i n).1 (cl s f i n).2=false
 | 0,i,n,h,hl=>by simp[cl]at hl;omega
 | f+1,i,n,h,hl=>by
  by_cases hi:i<s.size
  · cases hk:qg s i n
    · have e:cl s (f+1) i n=(i,n):=by simp[cl,hk]
      rw[e];exact hk
    · have e:=mE (f:=f) hi hk
      have hw:0<(pt s i).2:=by
       unfold qg at hk
       simp only[Bool.and_eq_true,decide_eq_true_eq]at hk
       exact hk.1
      rw[e]at hl ⊢
      exact uB s f _ _ (by omega) hl
  · rw[l7 hi]at hl;simp at hl;omega
theorem j8(s:ByteArray)(a e k:Nat)(he:e≤s.size)(hk:a+k<e):byte (s.extract a e) k=byte s (a+k):=by
 have h1:k<(s.extract a e).size:=by simp only[ByteArray.size_extract];omega
 rw[←ic _ _ h1,←ic s (a+k) (by omega)]
 simp[ByteArray.getElem_extract]
theorem zt{x y:ByteArray}(hz:x.size=y.size)(h:∀k,k<x.size→byte x k=byte y k):x=y:=by
 cases x with | mk x=>cases y with | mk y=>
 congr 1
 apply Array.ext
 · simpa [ByteArray.size]using hz
 · intro i h1 h2
   have:=h i (by simpa [ByteArray.size]using h1)
   rw[←ic _ _ (by simpa [ByteArray.size]using h1),←ic _ _ (by simpa [ByteArray.size]using h2)]at this
   exact UInt8.toNat_inj.1 this
theorem CJ{s p:ByteArray}{a b:Nat}{t:tr}(ha:a<s.size)(ht:dR s a=t)(hr:Real t.kind)(hS:tN s a p b t.text.size)(eL:A4 t.kind→CQ p (b+t.text.size)):0<t.text.size∧dR p b=⟨t.kind,t.text,b⟩∧t.at_=a:=by
 have AM:=xn s s.size a 0
 have hle:=CD s s.size a 0 (by omega)
 have hn:=GW s s.size a 0
 unfold dR at ht
 simp only at ht
 rw[if_neg (by omega)]at ht
 by_cases h6:6<(cl s s.size a 0).2
 · rw[if_pos h6]at ht;rw[←ht]at hr;exact absurd rfl hr.2
 rw[if_neg h6]at ht
 by_cases h0:0<(cl s s.size a 0).2
 · -- a word
   have Ew:t.text=s.extract a (cl s s.size a 0).1∧A4 t.kind∧t.at_=a∧t.kind=(if 65≤byte s a∧byte s a≤90 then 118 else 110):=by
    by_cases hc:65≤byte s a∧byte s a≤90
    · rw[if_pos ⟨h0,hc⟩]at ht
      rw[←ht,if_pos hc]
      exact⟨rfl,.inr rfl,rfl,rfl⟩
    · rw[if_neg (fun h=>hc h.2),if_pos h0]at ht
      rw[←ht,if_neg hc]
      exact⟨rfl,.inl rfl,rfl,rfl⟩
   obtain⟨h1,h2,h3,h4⟩:=Ew
   have hm:t.text.size=(cl s s.size a 0).1-a:=by rw[h1];simp only[ByteArray.size_extract];omega
   have hb:=hS.hp
   have hw:=xF s.size a b 0 t.text.size p.size hS (by omega) (by omega) (eL h2) (fun i hi hl=>by subst hi;exact uB s s.size a 0 (by omega) hl)
   have LA:=hS.dZ (by omega)
   refine⟨by omega, ?_,h3⟩
   have hx:p.extract b (b+t.text.size)=t.text:=by
    apply zt
    · simp only[ByteArray.size_extract];omega
    · intro k hk
      simp only[ByteArray.size_extract]at hk
      rw[j8 p b _ k (by omega) (by omega),←hS.eq k (by omega),h1,j8 s a _ k hle (by omega)]
   unfold dR
   simp only
   rw[hw,if_neg (by omega),if_neg h6,←LA,h4]
   by_cases hc:65≤byte s a∧byte s a≤90
   · rw[if_pos ⟨h0,hc⟩,if_pos hc,hx]
   · rw[if_neg (fun h=>hc h.2),if_pos h0,if_neg hc,hx]
 · -- a sign
   rw[if_neg (fun h=>h0 h.1),if_neg h0]at ht
   by_cases hc:byte s a=40∨byte s a=41∨byte s a=44∨byte s a=46
   · rw[if_pos hc]at ht
     have cR:t.text.size=1:=by rw[←ht];simp only[ByteArray.size_extract];omega
     have LA:=hS.dZ (by omega)
     have hb:=hS.hp
     have hw:cl p p.size b 0=(b,0):=iZ (sj 0 (by rw[←LA];omega))
     have hx:p.extract b (b+1)=t.text:=by
      apply zt
      · simp only[ByteArray.size_extract];omega
      · intro k hk
        simp only[ByteArray.size_extract]at hk
        rw[j8 p b _ k (by omega) (by omega),←hS.eq k (by omega),←ht,j8 s a _ k (by omega) (by omega)]
     refine⟨by omega, ?_,by rw[←ht]⟩
     unfold dR
     simp only
     rw[hw,if_neg (by omega),if_neg (by omega),if_neg (by omega),if_neg (by omega),←LA,if_pos hc,hx,←ht]
   · rw[if_neg hc]at ht
     by_cases V5:byte s a=58∧a+1<s.size∧byte s (a+1)=45
     · rw[if_pos V5]at ht
       have cR:t.text.size=2:=by rw[←ht];rfl
       have LA:=hS.dZ (by omega)
       have Lp:=hS.eq 1 (by omega)
       have hb:=hS.hp
       have hw:cl p p.size b 0=(b,0):=iZ (sj 0 (by rw[←LA];omega))
       refine⟨by omega, ?_,by rw[←ht]⟩
       unfold dR
       simp only
       rw[hw,if_neg (by omega),if_neg (by omega),if_neg (by omega),if_neg (by omega),←LA,if_neg hc,if_pos ⟨V5.1,by omega,by rw[←Lp];exact V5.2.2⟩,←ht]
     · rw[if_neg V5]at ht
       rw[←ht]at hr
       exact absurd rfl hr.2
end Ax
/- Texts that are laid out of tokens, with blanks between. No program here. -/
namespace Ax
structure It where
 kind:Nat
 text:ByteArray
def It.of(t:tr):It:=⟨t.kind,t.text⟩
def It.tok(x:It):Prop:=dR x.text 0=⟨x.kind,x.text,0⟩∧Real x.kind∧0<x.text.size
def PD(p:ByteArray):Nat→List It→Prop
 | b,[]=>b=p.size
 | b,x::l=>∃c,b≤c∧(∀k,b≤k→k<c→tC p k=true)∧c+x.text.size≤p.size∧(∀k,k<x.text.size→byte p (c+k)=byte x.text k)∧PD p (c+x.text.size) l
def iM:List It→Prop
 | x::y::l=>¬(A4 x.kind∧A4 y.kind)∧iM (y::l)
 | _=>True
theorem tN.self(x p:ByteArray)(c:Nat)(h1:c+x.size≤p.size)(h2:∀k,k<x.size→byte p (c+k)=byte x k):tN x 0 p c x.size:=
 ⟨by omega,h1,fun k hk=>by rw[Nat.zero_add,h2 k hk]⟩
theorem zi{x:It}(h:x.tok):¬(byte x.text 0=32∨byte x.text 0=10)∧(¬A4 x.kind→byte x.text 0=40∨byte x.text 0=41∨byte x.text 0=44∨byte x.text 0=46∨byte x.text 0=58):=by
 obtain⟨ht,hr,h0⟩:=h
 have hk:x.kind=(dR x.text 0).kind:=by rw[ht]
 constructor
 · intro hb
   have hw:cl x.text x.text.size 0 0=(0,0):=iZ (sj 0 (by omega))
   have:(dR x.text 0).kind=120:=by
    unfold dR
    simp only
    rw[hw,if_neg (by omega),if_neg (by omega),if_neg (by omega),if_neg (by omega),if_neg (by omega),if_neg (by omega)]
   exact hr.2 (hk.trans this)
 · intro Xk
   unfold dR at hk
   simp only at hk
   rw[if_neg (by omega)]at hk
   by_cases h6:6<(cl x.text x.text.size 0 0).2
   · rw[if_pos h6]at hk;exact absurd hk hr.2
   rw[if_neg h6]at hk
   by_cases hp:0<(cl x.text x.text.size 0 0).2
   · by_cases hc:65≤byte x.text 0∧byte x.text 0≤90
     · rw[if_pos ⟨hp,hc⟩]at hk;exact absurd (.inr hk) Xk
     · rw[if_neg (fun h=>hc h.2),if_pos hp]at hk;exact absurd (.inl hk) Xk
   · rw[if_neg (fun h=>hp h.1),if_neg hp]at hk
     by_cases hc:byte x.text 0=40∨byte x.text 0=41∨byte x.text 0=44∨byte x.text 0=46
     · omega
     · rw[if_neg hc]at hk
       by_cases V5:byte x.text 0=58∧0+1<x.text.size∧byte x.text (0+1)=45
       · omega
       · rw[if_neg V5]at hk;exact absurd hk hr.2
theorem D3{p:ByteArray}:∀(f b c:Nat),b≤c→(∀k,b≤k→k<c→tC p k=true)→c<p.size→tC p c=false→c≤b+f→kP p f b=c
 | 0,b,c,h1,_,_,_,h5=>by simp[kP];omega
 | f+1,b,c,h1,h2,h3,h4,h5=>by
  by_cases e:b=c
  · subst e
    exact fB (by simp[h4])
  · rw[Cu (by omega) (h2 b (by omega) (by omega))]
    exact D3 f (b+1) c (by omega) (fun k nV mA=>h2 k (by omega) mA) h3 h4 (by omega)
theorem KM{p:ByteArray}{b:Nat}{x:It}{l:List It}(h:PD p b l)(hl:∀y,y∈l→y.tok)(ha:iM (x::l))(hx:A4 x.kind):CQ p b:=by
 cases l with
 | nil=>exact .inl h
 | cons y l=>
  obtain⟨c,h1,h2,h3,h4,_⟩:=h
  have hy:=hl y (by simp)
  have hy0:=hy.2.2
  by_cases e:b=c
  · subst e
    have:=(zi hy).2 (fun hw=>ha.1 ⟨hx,hw⟩)
    have e0:=h4 0 hy0
    rw[Nat.add_zero]at e0
    exact .inr ⟨by omega,by rw[e0];omega⟩
  · have:=h2 b (by omega) (by omega)
    simp only[tC,Bool.or_eq_true,decide_eq_true_eq]at this
    exact .inr ⟨by omega,by omega⟩
theorem wa(p:ByteArray):∀(l:List It) (b f:Nat) (acc:List tr),PD p b l→(∀y,y∈l→y.tok)→iM l→p.size+1≤b+f→b≤p.size→
 ∃m,jk p f b acc=acc++m++[⟨101,⟨#[]⟩,p.size⟩]∧m.map It.of=l
 | [],b,f,acc,h,_,_,hf,hb=>by
  have wM:b=p.size:=h
  obtain⟨g,rfl⟩:∃g,f=g+1:=⟨f-1,by omega⟩
  refine⟨[], ?_,rfl⟩
  have ht:nt p b=⟨101,⟨#[]⟩,p.size⟩:=by
   unfold nt
   rw[fB (by omega),wM]
   simp[dR]
  rw[oo ht (.inl rfl)]
  simp
 | x::l,b,f,acc,h,hl,ha,hf,hb=>by
  have h':=h
  obtain⟨c,h1,h2,h3,h4,h5⟩:=h
  have hx:=hl x (by simp)
  have Fy:=hx.2.2
  have acd:=(zi hx).1
  have e0:=h4 0 Fy
  rw[Nat.add_zero]at e0
  have Cb:tC p c=false:=by
   rw[Bool.eq_false_iff]
   intro hb
   simp only[tC,Bool.or_eq_true,decide_eq_true_eq]at hb
   omega
  have Ps:iM l:=by
   cases l with
   | nil=>trivial
   | cons y l=>exact ha.2
  have Y8:A4 x.kind→CQ p (c+x.text.size):=fun hw=>KM h5 (fun y hy=>hl y (by simp[hy])) ha hw
  have hsk:kP p p.size b=c:=D3 p.size b c h1 h2 (by omega) Cb (by omega)
  obtain⟨_,uR,_⟩:=CJ (s:=x.text) (p:=p) (a:=0) (b:=c) (t:=⟨x.kind,x.text,0⟩) Fy hx.1 hx.2.1 (tN.self x.text p c h3 h4) Y8
  have ht:nt p b=⟨x.kind,x.text,c⟩:=by unfold nt;rw[hsk];exact uR
  obtain⟨g,rfl⟩:∃g,f=g+1:=⟨f-1,by omega⟩
  rw[xg ht (fun hh=>hh.elim hx.2.1.1 hx.2.1.2)]
  obtain⟨m,ZX,X9⟩:=wa p l (c+x.text.size) g (acc++[⟨x.kind,x.text,c⟩]) h5 (fun y hy=>hl y (by simp[hy])) Ps (by omega) h3
  refine⟨⟨x.kind,x.text,c⟩::m, ?_,by rw[List.map_cons,X9];rfl⟩
  rw[ZX]
  simp
theorem Af(p:ByteArray)(l:List It)(h:PD p 0 l)(hl:∀y,y∈l→y.tok)(ha:iM l):∃m,N4 p=m++[⟨101,⟨#[]⟩,p.size⟩]∧m.map It.of=l:=by
 obtain⟨m,h1,h2⟩:=wa p l 0 (p.size+1) [] h hl ha (by omega) (Nat.zero_le _)
 exact⟨m,by simpa [N4]using h1,h2⟩
end Ax
/- What can be read has no two words side by side; the plain form is laid of its tokens. No program here. -/
namespace Ax
def W(T:List Tok)(k:Nat):Prop:=aM T k=2∨aM T k=3
def gf(T:List Tok)(i j:Nat):Prop:=∀k,i≤k→k<j→¬(W T k∧W T (k+1))
theorem gf.join{T:List Tok}{i j l:Nat}(h1:gf T i j)(h2:gf T j l):gf T i l:=fun k nV mA=>if h:k<j then h1 k nV h else h2 k (by omega) mA
theorem gf.one{T:List Tok}{i:Nat}(h:¬W T i∨¬W T (i+1)):gf T i (i+1):=fun k h1 h2 hw=>by
 obtain rfl:k=i:=by omega
 exact h.elim (fun h=>h hw.1) (fun h=>h hw.2)
theorem rX{T:List Tok}:∀(f i:Nat) (acc:List Term) {ts:List Term} {j:Nat},bX T f i acc=(some ts,j)→aM T j=5→gf T i j
 | 0,i,acc,ts,j,h,_=>by simp[bX]at h
 | f+1,i,acc,ts,j,h,h5=>by
  rcases hA:jU T i with⟨_ | t,j'⟩
  · simp[bX,hA]at h
  · have hj':j'=i+1:=by
     unfold jU at hA
     split at hA
     · split at hA
       · simp at hA;exact hA.2.symm
       · simp at hA
     · simp at hA
    subst hj'
    by_cases h6:aM T (i+1)=6
    · rw[tR hA h6]at h
      have ih:=rX f (i+1+1) _ h h5
      exact(gf.one (.inr (by unfold W;omega))).join ((gf.one (.inl (by unfold W;omega))).join ih)
    · rw[oS hA h6]at h
      simp at h
      obtain⟨_,rfl⟩:=h
      exact gf.one (.inr (by unfold W;omega))
theorem uc{T:List Tok}{i j:Nat}{a:Atom}(h:b8 T i=(some a,j)):gf T i j:=by
 unfold b8 at h
 split at h
 · simp at h
 · rename_i t ht
   split at h
   · rename_i h2
     split at h
     · rename_i h4
       rcases hT:bX T T.length (i+1+1) []with⟨_ | ts,j'⟩
       · rw[hT]at h;simp at h
       · rw[hT]at h
         simp only at h
         split at h
         · rename_i h5
           simp at h
           obtain⟨_,rfl⟩:=h
           have:=rX _ _ _ hT h5
           exact(gf.one (.inr (by unfold W;omega))).join ((gf.one (.inl (by unfold W;omega))).join (this.join (gf.one (.inl (by unfold W;omega)))))
         · simp at h
     · simp at h
   · simp at h
theorem ss{T:List Tok}:∀(f i:Nat) (acc:List Atom) {r:List Atom} {j:Nat},bV T f i acc=(some r,j)→gf T i j
 | 0,i,acc,r,j,h=>by simp[bV]at h
 | f+1,i,acc,r,j,h=>by
  rcases hA:b8 T i with⟨_ | a,j'⟩
  · rw[jz hA]at h;simp at h
  · have h1:=uc hA
    by_cases h6:aM T j'=6
    · rw[kj hA h6]at h
      exact h1.join ((gf.one (.inl (by unfold W;omega))).join (ss f _ _ h))
    · rw[gL hA h6]at h
      simp at h
      obtain⟨_,rfl⟩:=h
      exact h1
theorem Dk{T:List Tok}{i j:Nat}{r:bD}(h:eP T i=(some r,j)):gf T i j:=by
 rcases hA:b8 T i with⟨_ | a,j1⟩
 · rw[oX hA]at h;simp at h
 · have h1:=uc hA
   by_cases h8:aM T j1=8
   · rcases hB:bV T T.length (j1+1) []with⟨_ | b,j2⟩
     · rw[o7 hA h8 hB]at h;simp at h
     · have h2:=ss _ _ _ hB
       by_cases h7:aM T j2=7
       · rw[nh hA h8 hB h7]at h
         simp at h
         obtain⟨_,rfl⟩:=h
         exact h1.join ((gf.one (.inl (by unfold W;omega))).join (h2.join (gf.one (.inl (by unfold W;omega)))))
       · rw[po hA h8 hB h7]at h;simp at h
   · by_cases h7:aM T j1=7
     · rw[nb hA h8 h7]at h
       simp at h
       obtain⟨_,rfl⟩:=h
       exact h1.join (gf.one (.inl (by unfold W;omega)))
     · rw[pv hA h8 h7]at h;simp at h
theorem rT{T:List Tok}:∀(f i:Nat) (acc:List bD) {r:List bD} {j:Nat},cU T f i acc=(some r,j)→gf T i j∧aM T j=1∧i≤j
 | 0,i,acc,r,j,h=>by simp[cU]at h
 | f+1,i,acc,r,j,h=>by
  by_cases h1:aM T i=1
  · rw[na h1]at h
    simp at h
    obtain⟨_,rfl⟩:=h
    exact⟨fun k nV mA=>by omega,h1,Nat.le_refl _⟩
  · rcases hR:eP T i with⟨_ | x,j'⟩
    · rw[oE h1 hR]at h;simp at h
    · rw[pz h1 hR]at h
      obtain⟨h2,h3,h4⟩:=rT f _ _ h
      have h5:=Dk hR
      have h6:i≤j':=by
       rcases hA:b8 T i with⟨_ | a,j1⟩
       · rw[oX hA]at hR;simp at hR
       · have hg:=rD hA
         by_cases h8:aM T j1=8
         · rcases hB:bV T T.length (j1+1) []with⟨_ | b,j2⟩
           · rw[o7 hA h8 hB]at hR;simp at hR
           · have:=s8 _ _ _ hB
             by_cases h7:aM T j2=7
             · rw[nh hA h8 hB h7]at hR;simp at hR;omega
             · rw[po hA h8 hB h7]at hR;simp at hR
         · by_cases h7:aM T j1=7
           · rw[nb hA h8 h7]at hR;simp at hR;omega
           · rw[pv hA h8 h7]at hR;simp at hR
      exact⟨h5.join h2,h3,by omega⟩
end Ax
/- Where tokens stand changes no answer but places. No program here. -/
namespace Ax
def er(t:Tok):Int×ByteArray:=(t.kind,t.text)
def Cm(a:Atom):ByteArray×List Term:=(a.pred,a.ak)
def lj(r:bD):(ByteArray×List Term)×List (ByteArray×List Term):=(Cm r.head,r.body.map Cm)
end Ax
/- The plain form of what can be read is read, and is its own plain form. No program here. -/
namespace Ax
def cat(l:List It):List UInt8:=l.flatMap fun x=>x.text.data.toList
theorem zw(s:ByteArray)(k:Nat)(h:k<s.size):byte s k=((s.data.toList[k]?).map UInt8.toNat).getD 0:=by
 rw[←ic s k h]
 have:s.data.toList[k]?=some s.data[k]:=by
  rw[Array.getElem?_toList]
  exact Array.getElem?_eq_getElem h
 rw[this]
 rfl
theorem Il(p:ByteArray):∀(l:List It) (b:Nat),b≤p.size→p.data.toList.drop b=cat l→PD p b l
 | [],b,hb,h=>by
  have:(p.data.toList.drop b).length=0:=by rw[h];rfl
  rw[List.length_drop,Array.length_toList]at this
  show b=p.data.size
  have:p.data.size=p.size:=rfl
  omega
 | x::l,b,hb,h=>by
  have hc:cat (x::l)=x.text.data.toList++cat l:=by simp[cat]
  rw[hc]at h
  have hlen:=congrArg List.length h
  rw[List.length_drop,List.length_append,Array.length_toList,Array.length_toList]at hlen
  have e1:p.data.size=p.size:=rfl
  have e2:x.text.data.size=x.text.size:=rfl
  refine⟨b,Nat.le_refl _,fun k h1 h2=>by omega,by omega,fun k hk=> ?_, ?_⟩
  · rw[zw p _ (by omega),zw x.text k hk]
    have:=congrArg (fun q=>q[k]?) h
    simp only[List.getElem?_drop]at this
    rw[this,List.getElem?_append_left (by rw[Array.length_toList];omega)]
  · refine Il p l _ (by omega) ?_
    rw[←List.drop_drop,h,List.drop_left' (by rw[Array.length_toList];omega)]
theorem Ru{a b:Tok}(ha:0≤a.kind∧a.kind≤8)(hb:0≤b.kind∧b.kind≤8)(h:It.of (conv a)=It.of (conv b)):er a=er b:=by
 simp only[It.of,conv,It.mk.injEq]at h
 have:=Oh a.kind ha.1 ha.2 b.kind hb.1 hb.2
 rw[h.1]at this
 simp only[beq_self_eq_true]at this
 have hk:a.kind=b.kind:=by simpa using this.symm
 simp[er,hk,h.2]
theorem Iz{k:Int}(h:A4 (kc k)):k=2∨k=3:=by
 unfold A4 kc at h
 split at h
 · omega
 split at h
 · omega
 split at h
 · omega
 split at h
 · omega
 repeat' split at h
 all_goals omega
theorem Ee:∀(m:List Tok),(∀k,¬(W m k∧W m (k+1)))→iM (m.map (fun t=>It.of (conv t)))
 | [],_=>trivial
 | [a],_=>trivial
 | a::b::m,h=>by
  refine⟨?_,Ee (b::m) (fun k hk=>h (k+1) ?_)⟩
  · intro hw
    exact h 0 ⟨by simpa [W,aM]using Iz hw.1,by simpa [W,aM]using Iz hw.2⟩
  · simpa [W,aM]using hk
end Ax
end Go.Proofs.YtdmicblafmhflaaGreatDoor
