/- The reference's tokens are the program's: the whole text. No program here. -/
import Derived.Test.YtdmicblafmhflaaGreatDoorC01
set_option linter.unusedSimpArgs false
set_option linter.unusedVariables false
namespace Go.Proofs.YtdmicblafmhflaaGreatDoor
namespace Ax
theorem oy(s:ByteArray):∀f q n,q≤s.size→q≤(aS s f q n).1
 | 0,q,n,h=>h
 | f+1,q,n,h=>by
  unfold aS
  split
  · rename_i hq
    split
    · exact Nat.le_refl _
    · have:=oy s f (q+(Utf8.decode s q).2) (n+1) (my s q hq)
      omega
  · exact h
theorem A7(s:ByteArray)(p:Nat):∀f q n F acc,0<q→p+q≤s.size→s.size≤p+q+f→s.size≤p+q+F→
 ∃F',s.size≤p+(aS (s.extract p s.size) f q n).1+F'∧aW s F (p+q) (p+(aS (s.extract p s.size) f q n).1) acc=aW s F' (p+(aS (s.extract p s.size) f q n).1) (p+(aS (s.extract p s.size) f q n).1) acc
 | 0,q,n,F,acc,hq,hl,hf,hF=>by
  have e:(aS (s.extract p s.size) 0 q n).1=q:=by simp only[aS,dn];omega
  rw[e]
  exact⟨F,hF,rfl⟩
 | f+1,q,n,F,acc,hq,hl,hf,hF=>by
  by_cases aE:p+q<s.size
  · have Hn:q<(s.extract p s.size).size:=by rw[dn];omega
    cases hs:stops (s.extract p s.size) q
    · have e:aS (s.extract p s.size) (f+1) q n=aS (s.extract p s.size) f (q+(Utf8.decode s (p+q)).2) (n+1):=by
       have:=Nl (s.extract p s.size) f q n Hn hs
       rw[jh]at this
       exact this
      have hw:=iF s (p+q) aE
      have MK:=my s (p+q) aE
      have yh:=oy (s.extract p s.size) f (q+(Utf8.decode s (p+q)).2) (n+1) (by rw[dn];omega)
      rw[e]
      obtain⟨G,rfl⟩:∃G,F=G+1:=⟨F-1,by omega⟩
      rw[il s G (p+q) _ acc aE (.inl (by omega)),Nat.add_assoc p q]
      exact A7 s p f (q+(Utf8.decode s (p+q)).2) (n+1) G acc (by omega) (by omega) (by omega) (by omega)
    · have e:aS (s.extract p s.size) (f+1) q n=(q,n):=by
       unfold aS
       rw[if_pos Hn,if_pos hs]
      rw[e]
      exact⟨F,hF,rfl⟩
  · have Hn:¬q<(s.extract p s.size).size:=by rw[dn];omega
    have e:(aS (s.extract p s.size) (f+1) q n).1=q:=by
     unfold aS
     rw[if_neg Hn,dn]
     omega
    rw[e]
    exact⟨F,hF,rfl⟩
theorem N9(s:ByteArray)(p:Nat)(hp:p<s.size)(k:Int)(n:Nat)(ht:aJ (s.extract p s.size) (Utf8.decode s p).1=(k,n))(hk:k≠0)(F:Nat)(acc:List Tok)(hF:s.size≤p+(F+1)):
 0<n∧p+n≤s.size∧∃F',s.size≤p+n+F'∧aW s F (p+(Utf8.decode s p).2) (p+n) acc=aW s F' (p+n) (p+n) acc:=by
 have hw:=iF s p hp
 have MK:=my s p hp
 have FA:∀c:Nat,c<128→((Utf8.decode s p).1:Int)=c→(Utf8.decode s p).2=1:=by
  intro c hc h
  have hb:=(eS s p hp c hc).1 (by omega)
  rw[j8 s p hp (by omega)]
 have key:∀c:Nat,c<128→((Utf8.decode s p).1:Int)=c→n=1→(0<n∧p+n≤s.size∧∃F',s.size≤p+n+F'∧aW s F (p+(Utf8.decode s p).2) (p+n) acc=aW s F' (p+n) (p+n) acc):=by
  intro c hc h hn
  rw[FA c hc h,hn]
  exact⟨by omega,by omega,F,by omega,rfl⟩
 have Tg:∀j:Int,word (s.extract p s.size) j=(k,n)→(0<n∧p+n≤s.size∧∃F',s.size≤p+n+F'∧aW s F (p+(Utf8.decode s p).2) (p+n) acc=aW s F' (p+n) (p+n) acc):=by
  intro j hj
  unfold word at hj
  simp only at hj
  split at hj
  · simp at hj;omega
  · simp only[Prod.mk.injEq]at hj
    obtain⟨_,rfl⟩:=hj
    obtain⟨f,hf⟩:∃f,(s.extract p s.size).size=f+1:=⟨s.size-p-1,by rw[dn];omega⟩
    have e:aS (s.extract p s.size) (s.extract p s.size).size 0 0=aS (s.extract p s.size) f ((Utf8.decode s p).2) 1:=by
     have ev:stops (s.extract p s.size) 0=false:=by simp[stops]
     have:=Nl (s.extract p s.size) f 0 0 (by omega) ev
     rw[jh]at this
     rw[hf,this]
     simp
    rw[e]
    have cE:=dn s p
    have yh:=oy (s.extract p s.size) f ((Utf8.decode s p).2) 1 (by omega)
    have hle:=ox (s.extract p s.size) f ((Utf8.decode s p).2) 1
    exact⟨by omega,by omega,A7 s p f _ 1 F acc (by omega) MK (by omega) (by omega)⟩
 unfold aJ at ht
 split at ht
 · rename_i h;simp at ht;exact key 40 (by decide) h ht.2.symm
 split at ht
 · rename_i h;simp at ht;exact key 41 (by decide) h ht.2.symm
 split at ht
 · rename_i h;simp at ht;exact key 44 (by decide) h ht.2.symm
 split at ht
 · rename_i h;simp at ht;exact key 46 (by decide) h ht.2.symm
 split at ht
 · rename_i hc
   simp only[Prod.mk.injEq]at ht
   obtain⟨_,rfl⟩:=ht
   have BQ:=(O8 s p 58 45).1 hc
   rw[show(58:UInt8).toNat=58 from rfl,show(45:UInt8).toNat=45 from rfl]at BQ
   obtain⟨h1,h2,h3⟩:=BQ
   have hd:Utf8.decode s p=(58,1):=by rw[j8 s p (by omega) (by omega),h2]
   have hd1:Utf8.decode s (p+1)=(45,1):=by rw[j8 s (p+1) h1 (by omega),h3]
   refine⟨by omega,by omega, ?_⟩
   rw[hd]
   obtain⟨G,rfl⟩:∃G,F=G+1:=⟨F-1,by omega⟩
   refine⟨G,by omega, ?_⟩
   rw[il s G (p+1) (p+2) acc h1 (.inl (by omega)),hd1]
   rfl
 split at ht
 · exact Tg 2 ht
 split at ht
 · exact Tg 3 ht
 · simp at ht;omega
theorem pO(s:ByteArray)(r:Int):0≤(aJ s r).1∧(aJ s r).1≤8∧(aJ s r).1≠1:=by
 unfold aJ word
 simp only
 repeat' split
 all_goals simp
theorem xt(s:ByteArray)(p:Nat)(hp:p<s.size):blank (Utf8.decode s p).1=tO s p:=by
 unfold blank tO
 have h1:=eS s p hp 32 (by decide)
 have h2:=eS s p hp 10 (by decide)
 rw[Bool.eq_iff_iff]
 simp only[Bool.or_eq_true,beq_iff_eq,decide_eq_true_eq]
 omega
theorem VG(k:Int)(h0:0≤k)(h8:k≤8)(h1:k≠1):(kc k=101∨kc k=120)↔k=0:=by
 have e1:kc k=101↔k=1:=by
  have:=NV k h0 h8 1 (by decide) (by decide)
  rw[Bool.eq_iff_iff]at this
  simp only[beq_iff_eq,decide_eq_true_eq]at this
  rw[show((kc 1:Nat):Int)=101 from rfl]at this
  omega
 have e2:kc k=120↔k=0:=by
  have:=NV k h0 h8 0 (by decide) (by decide)
  rw[Bool.eq_iff_iff]at this
  simp only[beq_iff_eq,decide_eq_true_eq]at this
  rw[show((kc 0:Nat):Int)=120 from rfl]at this
  omega
 omega
theorem yk(s:ByteArray):∀f g a,s.size≤a+f→s.size≤a+g→ki s f a=ki s g a
 | 0,g,a,h,_=>by rw[ft (by omega),ft (by omega)]
 | f+1,0,a,_,h=>by rw[ft (by omega),ft (by omega)]
 | f+1,g+1,a,h1,h2=>by
  unfold ki
  rw[yk s f g (a+1) (by omega) (by omega)]
theorem Gg(s:ByteArray):∀N p,s.size-p≤N→p≤s.size→∀f b acc f',s.size≤p+f→b≤p→s.size+1≤p+f'→(aW s f p b acc).map conv=jd s f' p (acc.map conv):=by
 intro N
 induction N with
 | zero=>
  intro p hN hp f b acc f' hf hb PS
  have Zz:p=s.size:=by omega
  rw[pW s f p b acc (by omega)]
  obtain⟨g,rfl⟩:∃g,f'=g+1:=⟨f'-1,by omega⟩
  have ht:nh s p=⟨101,⟨#[]⟩,s.size⟩:=by
   unfold nh
   rw[ft (by omega),Zz]
   simp[dL]
  rw[oS ht (.inl rfl)]
  simp[conv,kc]
  rfl
 | succ N ih=>
  intro p hN hp f b acc f' hf hb PS
  by_cases aE:p<s.size
  · obtain⟨F,rfl⟩:∃F,f=F+1:=⟨f-1,by omega⟩
    obtain⟨g,rfl⟩:∃g,f'=g+1:=⟨f'-1,by omega⟩
    cases fm:tO s p
    · -- no blank: a token
      have Bw:¬(p<b∨blank (Utf8.decode s p).1=true):=by rw[xt s p aE,fm];simp;omega
      have hk:=pO (s.extract p s.size) (Utf8.decode s p).1
      have ht:nh s p=conv ⟨(aJ (s.extract p s.size) (Utf8.decode s p).1).1,p,s.extract p (p+(aJ (s.extract p s.size) (Utf8.decode s p).1).2)⟩:=by
       unfold nh
       rw[ft (by rw[fm];simp)]
       exact VL s p aE
      rcases zD:aJ (s.extract p s.size) (Utf8.decode s p).1 with⟨k,n⟩
      rw[zD]at hk ht
      simp only at hk ht
      by_cases ET:k=0
      · rw[nJ s F p b acc aE Bw k n zD ET,oS ht (.inr (by simp[conv,kc,ET]))]
        simp
      · rw[nH s F p b acc aE Bw k n zD ET]
        obtain⟨hn,hle,F',hF',e⟩:=N9 s p aE k n zD ET F (acc++[⟨k,p,s.extract p (p+n)⟩]) (by omega)
        rw[e]
        have cA:¬((conv ⟨k,p,s.extract p (p+n)⟩).kind=101∨(conv ⟨k,p,s.extract p (p+n)⟩).kind=120):=by
         show ¬(kc k=101∨kc k=120)
         rw[VG k hk.1 hk.2.1 hk.2.2]
         exact ET
        rw[xh ht cA]
        have cE:(conv ⟨k,p,s.extract p (p+n)⟩).at_+(conv ⟨k,p,s.extract p (p+n)⟩).text.size=p+n:=by
         show p+(s.extract p (p+n)).size=p+n
         simp only[ByteArray.size_extract]
         omega
        rw[cE]
        have:=ih (p+n) (by omega) hle F' (p+n) (acc++[⟨k,p,s.extract p (p+n)⟩]) g hF' (Nat.le_refl _) (by omega)
        rw[this]
        simp
    · -- a blank
      have a8:byte s p<128:=by
       simp[tO]at fm
       omega
      have hd:=j8 s p aE a8
      rw[il s F p b acc aE (.inr (by rw[xt s p aE,fm])),hd]
      have ht:nh s p=nh s (p+1):=by
       unfold nh
       obtain⟨m,hm⟩:∃m,s.size=m+1:=⟨s.size-1,by omega⟩
       have h1:ki s s.size p=ki s m (p+1):=by
        conv=>lhs;rw[hm]
        exact C8 aE fm
       rw[h1,yk s m s.size (p+1) (by omega) (by omega)]
      have:=ih (p+1) (by omega) (by omega) F b acc (g+1) (by omega) (by omega) (by omega)
      rw[this]
      unfold jd
      rw[ht]
  · have Zz:p=s.size:=by omega
    exact ih p (by omega) hp f b acc f' hf hb PS
theorem uN(s:ByteArray):OY s=(split s).map conv:=(Gg s s.size 0 (by omega) (Nat.zero_le _) s.size 0 [] (s.size+1) (by omega) (Nat.le_refl _) (by omega)).symm
theorem jN(s:ByteArray):∀f p b acc,A5 acc→A5 (aW s f p b acc)
 | 0,_,_,acc,h=>by
  intro t ht
  simp only[aW,List.mem_append,List.mem_singleton]at ht
  rcases ht with ht | rfl
  · exact h t ht
  · simp
 | f+1,p,b,acc,h=>by
  have hx:A5 (acc++[⟨(aJ (s.extract p s.size) (Utf8.decode s p).1).1,p,s.extract p (p+(aJ (s.extract p s.size) (Utf8.decode s p).1).2)⟩]):=by
   intro t ht
   simp only[List.mem_append,List.mem_singleton]at ht
   rcases ht with ht | rfl
   · exact h t ht
   · have:=pO (s.extract p s.size) (Utf8.decode s p).1
     exact⟨this.1,this.2.1⟩
  unfold aW
  split
  · split
    · exact jN s f _ _ _ h
    · simp only
      split
      · exact hx
      · exact jN s f _ _ _ hx
  · intro t ht
    simp only[List.mem_append,List.mem_singleton]at ht
    rcases ht with ht | rfl
    · exact h t ht
    · simp
theorem uz(s:ByteArray):A5 (split s):=jN s _ _ _ _ (fun _ h=>by cases h)
end Ax
/- A token's bytes tell the token, wherever they stand. No program here. -/
namespace Ax
structure sU(s:ByteArray)(a:Nat)(p:ByteArray)(b m:Nat):Prop where
 hs:a+m≤s.size
 hp:b+m≤p.size
 eq:∀k,k<m→byte s (a+k)=byte p (b+k)
theorem sU.ef{s p:ByteArray}{a b m:Nat}(h:sU s a p b m)(hm:0<m):byte s a=byte p b:=h.eq 0 hm
theorem sU.drop{s p:ByteArray}{a b m:Nat}(h:sU s a p b m)(k:Nat)(hk:k≤m):sU s (a+k) p (b+k) (m-k):=
 ⟨by have:=h.hs;omega,by have:=h.hp;omega,fun j hj=>by have:=h.eq (k+j) (by omega);rw[←Nat.add_assoc,←Nat.add_assoc]at this;exact this⟩
theorem yj{s p:ByteArray}{a b m:Nat}(h:sU s a p b m):∀j k c,k+j≤m→ju s a j k c=ju p b j k c
 | 0,_,_,_=>rfl
 | j+1,k,c,hk=>by
  have e:=h.eq k (by omega)
  have h1:=h.hs
  have h2:=h.hp
  unfold ju
  rw[e]
  have hz:(s.size≤a+k∨byte p (b+k)<128∨191<byte p (b+k))↔(p.size≤b+k∨byte p (b+k)<128∨191<byte p (b+k)):=by omega
  rw[yj h j (k+1) _ (by omega)]
  simp only[hz]
theorem FZ(n lo:Nat)(o:Option Nat):(nY n lo o).2=0∨(nY n lo o).2=n:=by
 unfold nY
 split
 · simp
 · split<;>simp
theorem QG{s p:ByteArray}{a b m:Nat}(h:sU s a p b m)(hw:0<(pt s a).2)(hm:(pt s a).2≤m):pt p b=pt s a:=by
 have h0:=h.ef (by omega)
 have key:∀n lo c,0<(nY (n+1) lo (ju s a n 1 c)).2→(nY (n+1) lo (ju s a n 1 c)).2≤m→nY (n+1) lo (ju p b n 1 c)=nY (n+1) lo (ju s a n 1 c):=by
  intro n lo c h1 h2
  have:=FZ (n+1) lo (ju s a n 1 c)
  rw[yj h n 1 c (by omega)]
 unfold pt at hw hm ⊢
 simp only at hw hm ⊢
 rw[←h0]
 by_cases c1:byte s a<128
 · rw[if_pos c1,if_pos c1]
 · rw[if_neg c1]at hw hm ⊢
   rw[if_neg c1]
   by_cases c2:byte s a<192
   · rw[if_pos c2,if_pos c2]
   · rw[if_neg c2]at hw hm ⊢
     rw[if_neg c2]
     by_cases c3:byte s a<224
     · rw[if_pos c3]at hw hm ⊢
       rw[if_pos c3]
       exact key 1 _ _ hw hm
     · rw[if_neg c3]at hw hm ⊢
       rw[if_neg c3]
       by_cases c4:byte s a<240
       · rw[if_pos c4]at hw hm ⊢
         rw[if_pos c4]
         exact key 2 _ _ hw hm
       · rw[if_neg c4]at hw hm ⊢
         rw[if_neg c4]
         by_cases c5:byte s a<248
         · rw[if_pos c5]at hw hm ⊢
           rw[if_pos c5]
           exact key 3 _ _ hw hm
         · rw[if_neg c5,if_neg c5]
theorem ML{s p:ByteArray}{a b m:Nat}(h:sU s a p b m)(n:Nat)(hk:qx s a n=true)(hm:(pt s a).2≤m):qx p b n=true∧(pt p b).2=(pt s a).2:=by
 have hw:0<(pt s a).2:=by
  unfold qx at hk
  simp only[Bool.and_eq_true,decide_eq_true_eq]at hk
  exact hk.1
 have e:=QG h hw hm
 refine⟨?_,by rw[e]⟩
 unfold qx at hk ⊢
 rw[e]
 exact hk
def De(p:ByteArray)(b:Nat):Prop:=b=p.size∨(b<p.size∧(byte p b=40∨byte p b=41∨byte p b=44∨byte p b=46∨byte p b=58∨byte p b=32∨byte p b=10))
theorem qQ{p:ByteArray}{b:Nat}(n:Nat)(h:byte p b=40∨byte p b=41∨byte p b=44∨byte p b=46∨byte p b=58∨byte p b=32∨byte p b=10):qx p b n=false:=by
 have e:pt p b=(byte p b,1):=by
  unfold pt
  simp only
  rw[if_pos (by omega)]
 unfold qx
 rw[e]
 rcases h with h | h | h | h | h | h | h<;>rw[h]<;>simp[nC]
theorem oO{p:ByteArray}{b:Nat}(f n:Nat)(h:De p b):cn p f b n=(b,n):=by
 rcases h with h | ⟨_,h⟩
 · exact mE (by omega)
 · exact iQ (qQ n h)
theorem vV{s p:ByteArray}:∀(f a b n m f':Nat),sU s a p b m→(cn s f a n).1=a+m→p.size≤b+f'→De p (b+m)→(∀i,(cn s f a n).1=i→i<s.size→qx s i (cn s f a n).2=false)→cn p f' b n=(b+m,(cn s f a n).2)
 | 0,a,b,n,m,f',hS,he,hf,ev,_=>by
  have hm:m=0:=by simp[cn]at he;omega
  subst hm
  exact oO _ _ ev
 | f+1,a,b,n,m,f',hS,he,hf,ev,dU=>by
  by_cases ha:a<s.size
  · cases hk:qx s a n
    · have e:cn s (f+1) a n=(a,n):=by simp[cn,hk]
      rw[e]at he ⊢
      have hm:m=0:=by simp at he;omega
      subst hm
      exact oO _ _ ev
    · have e:=mh (f:=f) ha hk
      rw[e]at he dU ⊢
      have yh:=xn s f (a+(pt s a).2) (n+1)
      have hw:0<(pt s a).2:=by
       unfold qx at hk
       simp only[Bool.and_eq_true,decide_eq_true_eq]at hk
       exact hk.1
      obtain⟨BI,Rs⟩:=ML hS n hk (by omega)
      have hb:=hS.hp
      obtain⟨g,rfl⟩:∃g,f'=g+1:=⟨f'-1,by omega⟩
      rw[mh (by omega) BI,Rs]
      have:=vV f (a+(pt s a).2) (b+(pt s a).2) (n+1) (m-(pt s a).2) g (hS.drop _ (by omega)) (by omega) (by omega) (by rw[show b+(pt s a).2+(m-(pt s a).2)=b+m by omega];exact ev) dU
      rw[this,show b+(pt s a).2+(m-(pt s a).2)=b+m by omega]
  · have e:cn s (f+1) a n=(a,n):=mE ha
    rw[e]at he ⊢
    have hm:m=0:=by simp at he;omega
    subst hm
    exact oO _ _ ev
end Ax
/- A token's bytes tell the token: tokens, blanks. No program here. -/
namespace Ax
def Real(k:Nat):Prop:=k≠101∧k≠120
def B7(k:Nat):Prop:=k=110∨k=118
theorem uH(s:ByteArray):∀f i n,s.size≤i+f→(cn s f i n).1<s.size→qx s (cn s f i n).1 (cn s f i n).2=false
 | 0,i,n,h,hl=>by simp[cn]at hl;omega
 | f+1,i,n,h,hl=>by
  by_cases hi:i<s.size
  · cases hk:qx s i n
    · have e:cn s (f+1) i n=(i,n):=by simp[cn,hk]
      rw[e];exact hk
    · have e:=mh (f:=f) hi hk
      have hw:0<(pt s i).2:=by
       unfold qx at hk
       simp only[Bool.and_eq_true,decide_eq_true_eq]at hk
       exact hk.1
      rw[e]at hl ⊢
      exact uH s f _ _ (by omega) hl
  · rw[mE hi]at hl;simp at hl;omega
theorem jW(s:ByteArray)(a e k:Nat)(he:e≤s.size)(hk:a+k<e):byte (s.extract a e) k=byte s (a+k):=by
 have h1:k<(s.extract a e).size:=by simp only[ByteArray.size_extract];omega
 rw[←gZ _ _ h1,←gZ s (a+k) (by omega)]
 simp[ByteArray.getElem_extract]
theorem A2{x y:ByteArray}(hz:x.size=y.size)(h:∀k,k<x.size→byte x k=byte y k):x=y:=by
 cases x with | mk x=>cases y with | mk y=>
 congr 1
 apply Array.ext
 · simpa [ByteArray.size]using hz
 · intro i h1 h2
   have:=h i (by simpa [ByteArray.size]using h1)
   rw[←gZ _ _ (by simpa [ByteArray.size]using h1),←gZ _ _ (by simpa [ByteArray.size]using h2)]at this
   exact UInt8.toNat_inj.1 this
theorem Ew{s p:ByteArray}{a b:Nat}{t:tV}(ha:a<s.size)(ht:dL s a=t)(hr:Real t.kind)(hS:sU s a p b t.text.size)(ev:B7 t.kind→De p (b+t.text.size)):0<t.text.size∧dL p b=⟨t.kind,t.text,b⟩∧t.at_=a:=by
 have yh:=xn s s.size a 0
 have hle:=DR s s.size a 0 (by omega)
 have hn:=ID s s.size a 0
 unfold dL at ht
 simp only at ht
 rw[if_neg (by omega)]at ht
 by_cases h6:6<(cn s s.size a 0).2
 · rw[if_pos h6]at ht;rw[←ht]at hr;exact absurd rfl hr.2
 rw[if_neg h6]at ht
 by_cases h0:0<(cn s s.size a 0).2
 · -- a word
   have re:t.text=s.extract a (cn s s.size a 0).1∧B7 t.kind∧t.at_=a∧t.kind=(if 65≤byte s a∧byte s a≤90 then 118 else 110):=by
    by_cases hc:65≤byte s a∧byte s a≤90
    · rw[if_pos ⟨h0,hc⟩]at ht
      rw[←ht,if_pos hc]
      exact⟨rfl,.inr rfl,rfl,rfl⟩
    · rw[if_neg (fun h=>hc h.2),if_pos h0]at ht
      rw[←ht,if_neg hc]
      exact⟨rfl,.inl rfl,rfl,rfl⟩
   obtain⟨h1,h2,h3,h4⟩:=re
   have hm:t.text.size=(cn s s.size a 0).1-a:=by rw[h1];simp only[ByteArray.size_extract];omega
   have hb:=hS.hp
   have hw:=vV s.size a b 0 t.text.size p.size hS (by omega) (by omega) (ev h2) (fun i hi hl=>by subst hi;exact uH s s.size a 0 (by omega) hl)
   have Ol:=hS.ef (by omega)
   refine⟨by omega, ?_,h3⟩
   have hx:p.extract b (b+t.text.size)=t.text:=by
    apply A2
    · simp only[ByteArray.size_extract];omega
    · intro k hk
      simp only[ByteArray.size_extract]at hk
      rw[jW p b _ k (by omega) (by omega),←hS.eq k (by omega),h1,jW s a _ k hle (by omega)]
   unfold dL
   simp only
   rw[hw,if_neg (by omega),if_neg h6,←Ol,h4]
   by_cases hc:65≤byte s a∧byte s a≤90
   · rw[if_pos ⟨h0,hc⟩,if_pos hc,hx]
   · rw[if_neg (fun h=>hc h.2),if_pos h0,if_neg hc,hx]
 · -- a sign
   rw[if_neg (fun h=>h0 h.1),if_neg h0]at ht
   by_cases hc:byte s a=40∨byte s a=41∨byte s a=44∨byte s a=46
   · rw[if_pos hc]at ht
     have cE:t.text.size=1:=by rw[←ht];simp only[ByteArray.size_extract];omega
     have Ol:=hS.ef (by omega)
     have hb:=hS.hp
     have hw:cn p p.size b 0=(b,0):=iQ (qQ 0 (by rw[←Ol];omega))
     have hx:p.extract b (b+1)=t.text:=by
      apply A2
      · simp only[ByteArray.size_extract];omega
      · intro k hk
        simp only[ByteArray.size_extract]at hk
        rw[jW p b _ k (by omega) (by omega),←hS.eq k (by omega),←ht,jW s a _ k (by omega) (by omega)]
     refine⟨by omega, ?_,by rw[←ht]⟩
     unfold dL
     simp only
     rw[hw,if_neg (by omega),if_neg (by omega),if_neg (by omega),if_neg (by omega),←Ol,if_pos hc,hx,←ht]
   · rw[if_neg hc]at ht
     by_cases V5:byte s a=58∧a+1<s.size∧byte s (a+1)=45
     · rw[if_pos V5]at ht
       have cE:t.text.size=2:=by rw[←ht];rfl
       have Ol:=hS.ef (by omega)
       have Ko:=hS.eq 1 (by omega)
       have hb:=hS.hp
       have hw:cn p p.size b 0=(b,0):=iQ (qQ 0 (by rw[←Ol];omega))
       refine⟨by omega, ?_,by rw[←ht]⟩
       unfold dL
       simp only
       rw[hw,if_neg (by omega),if_neg (by omega),if_neg (by omega),if_neg (by omega),←Ol,if_neg hc,if_pos ⟨V5.1,by omega,by rw[←Ko];exact V5.2.2⟩,←ht]
     · rw[if_neg V5]at ht
       rw[←ht]at hr
       exact absurd rfl hr.2
end Ax
/- Texts that are laid out of tokens, with blanks between. No program here. -/
namespace Ax
structure It where
 kind:Nat
 text:ByteArray
def It.of(t:tV):It:=⟨t.kind,t.text⟩
def It.tok(x:It):Prop:=dL x.text 0=⟨x.kind,x.text,0⟩∧Real x.kind∧0<x.text.size
def QA(p:ByteArray):Nat→List It→Prop
 | b,[]=>b=p.size
 | b,x::l=>∃c,b≤c∧(∀k,b≤k→k<c→tO p k=true)∧c+x.text.size≤p.size∧(∀k,k<x.text.size→byte p (c+k)=byte x.text k)∧QA p (c+x.text.size) l
def iB:List It→Prop
 | x::y::l=>¬(B7 x.kind∧B7 y.kind)∧iB (y::l)
 | _=>True
theorem sU.self(x p:ByteArray)(c:Nat)(h1:c+x.size≤p.size)(h2:∀k,k<x.size→byte p (c+k)=byte x k):sU x 0 p c x.size:=
 ⟨by omega,h1,fun k hk=>by rw[Nat.zero_add,h2 k hk]⟩
theorem zQ{x:It}(h:x.tok):¬(byte x.text 0=32∨byte x.text 0=10)∧(¬B7 x.kind→byte x.text 0=40∨byte x.text 0=41∨byte x.text 0=44∨byte x.text 0=46∨byte x.text 0=58):=by
 obtain⟨ht,hr,h0⟩:=h
 have hk:x.kind=(dL x.text 0).kind:=by rw[ht]
 constructor
 · intro hb
   have hw:cn x.text x.text.size 0 0=(0,0):=iQ (qQ 0 (by omega))
   have:(dL x.text 0).kind=120:=by
    unfold dL
    simp only
    rw[hw,if_neg (by omega),if_neg (by omega),if_neg (by omega),if_neg (by omega),if_neg (by omega),if_neg (by omega)]
   exact hr.2 (hk.trans this)
 · intro Yb
   unfold dL at hk
   simp only at hk
   rw[if_neg (by omega)]at hk
   by_cases h6:6<(cn x.text x.text.size 0 0).2
   · rw[if_pos h6]at hk;exact absurd hk hr.2
   rw[if_neg h6]at hk
   by_cases hp:0<(cn x.text x.text.size 0 0).2
   · by_cases hc:65≤byte x.text 0∧byte x.text 0≤90
     · rw[if_pos ⟨hp,hc⟩]at hk;exact absurd (.inr hk) Yb
     · rw[if_neg (fun h=>hc h.2),if_pos hp]at hk;exact absurd (.inl hk) Yb
   · rw[if_neg (fun h=>hp h.1),if_neg hp]at hk
     by_cases hc:byte x.text 0=40∨byte x.text 0=41∨byte x.text 0=44∨byte x.text 0=46
     · omega
     · rw[if_neg hc]at hk
       by_cases V5:byte x.text 0=58∧0+1<x.text.size∧byte x.text (0+1)=45
       · omega
       · rw[if_neg V5]at hk;exact absurd hk hr.2
theorem DE{p:ByteArray}:∀(f b c:Nat),b≤c→(∀k,b≤k→k<c→tO p k=true)→c<p.size→tO p c=false→c≤b+f→ki p f b=c
 | 0,b,c,h1,_,_,_,h5=>by simp[ki];omega
 | f+1,b,c,h1,h2,h3,h4,h5=>by
  by_cases e:b=c
  · subst e
    exact ft (by simp[h4])
  · rw[C8 (by omega) (h2 b (by omega) (by omega))]
    exact DE f (b+1) c (by omega) (fun k sJ lN=>h2 k (by omega) lN) h3 h4 (by omega)
theorem JN{p:ByteArray}{b:Nat}{x:It}{l:List It}(h:QA p b l)(hl:∀y,y∈l→y.tok)(ha:iB (x::l))(hx:B7 x.kind):De p b:=by
 cases l with
 | nil=>exact .inl h
 | cons y l=>
  obtain⟨c,h1,h2,h3,h4,_⟩:=h
  have hy:=hl y (by simp)
  have TJ:=hy.2.2
  by_cases e:b=c
  · subst e
    have:=(zQ hy).2 (fun hw=>ha.1 ⟨hx,hw⟩)
    have e0:=h4 0 TJ
    rw[Nat.add_zero]at e0
    exact .inr ⟨by omega,by rw[e0];omega⟩
  · have:=h2 b (by omega) (by omega)
    simp only[tO,Bool.or_eq_true,decide_eq_true_eq]at this
    exact .inr ⟨by omega,by omega⟩
theorem wZ(p:ByteArray):∀(l:List It) (b f:Nat) (acc:List tV),QA p b l→(∀y,y∈l→y.tok)→iB l→p.size+1≤b+f→b≤p.size→
 ∃m,jd p f b acc=acc++m++[⟨101,⟨#[]⟩,p.size⟩]∧m.map It.of=l
 | [],b,f,acc,h,_,_,hf,hb=>by
  have tp:b=p.size:=h
  obtain⟨g,rfl⟩:∃g,f=g+1:=⟨f-1,by omega⟩
  refine⟨[], ?_,rfl⟩
  have ht:nh p b=⟨101,⟨#[]⟩,p.size⟩:=by
   unfold nh
   rw[ft (by omega),tp]
   simp[dL]
  rw[oS ht (.inl rfl)]
  simp
 | x::l,b,f,acc,h,hl,ha,hf,hb=>by
  have h':=h
  obtain⟨c,h1,h2,h3,h4,h5⟩:=h
  have hx:=hl x (by simp)
  have Lp:=hx.2.2
  have acY:=(zQ hx).1
  have e0:=h4 0 Lp
  rw[Nat.add_zero]at e0
  have Bw:tO p c=false:=by
   rw[Bool.eq_false_iff]
   intro hb
   simp only[tO,Bool.or_eq_true,decide_eq_true_eq]at hb
   omega
  have PH:iB l:=by
   cases l with
   | nil=>trivial
   | cons y l=>exact ha.2
  have WX:B7 x.kind→De p (c+x.text.size):=fun hw=>JN h5 (fun y hy=>hl y (by simp[hy])) ha hw
  have hsk:ki p p.size b=c:=DE p.size b c h1 h2 (by omega) Bw (by omega)
  obtain⟨_,u9,_⟩:=Ew (s:=x.text) (p:=p) (a:=0) (b:=c) (t:=⟨x.kind,x.text,0⟩) Lp hx.1 hx.2.1 (sU.self x.text p c h3 h4) WX
  have ht:nh p b=⟨x.kind,x.text,c⟩:=by unfold nh;rw[hsk];exact u9
  obtain⟨g,rfl⟩:∃g,f=g+1:=⟨f-1,by omega⟩
  rw[xh ht (fun hh=>hh.elim hx.2.1.1 hx.2.1.2)]
  obtain⟨m,hm1,YB⟩:=wZ p l (c+x.text.size) g (acc++[⟨x.kind,x.text,c⟩]) h5 (fun y hy=>hl y (by simp[hy])) PH (by omega) h3
  refine⟨⟨x.kind,x.text,c⟩::m, ?_,by rw[List.map_cons,YB];rfl⟩
  rw[hm1]
  simp
theorem AX(p:ByteArray)(l:List It)(h:QA p 0 l)(hl:∀y,y∈l→y.tok)(ha:iB l):∃m,OY p=m++[⟨101,⟨#[]⟩,p.size⟩]∧m.map It.of=l:=by
 obtain⟨m,h1,h2⟩:=wZ p l 0 (p.size+1) [] h hl ha (by omega) (Nat.zero_le _)
 exact⟨m,by simpa [OY]using h1,h2⟩
end Ax
/- What can be read has no two words side by side; the plain form is laid of its tokens. No program here. -/
namespace Ax
def W(T:List Tok)(k:Nat):Prop:=aN T k=2∨aN T k=3
def fX(T:List Tok)(i j:Nat):Prop:=∀k,i≤k→k<j→¬(W T k∧W T (k+1))
theorem fX.join{T:List Tok}{i j l:Nat}(h1:fX T i j)(h2:fX T j l):fX T i l:=fun k sJ lN=>if h:k<j then h1 k sJ h else h2 k (by omega) lN
theorem fX.one{T:List Tok}{i:Nat}(h:¬W T i∨¬W T (i+1)):fX T i (i+1):=fun k h1 h2 hw=>by
 obtain rfl:k=i:=by omega
 exact h.elim (fun h=>h hw.1) (fun h=>h hw.2)
theorem rY{T:List Tok}:∀(f i:Nat) (acc:List Term) {ts:List Term} {j:Nat},bY T f i acc=(some ts,j)→aN T j=5→fX T i j
 | 0,i,acc,ts,j,h,_=>by simp[bY]at h
 | f+1,i,acc,ts,j,h,h5=>by
  rcases hA:jR T i with⟨_ | t,j'⟩
  · simp[bY,hA]at h
  · have hj':j'=i+1:=by
     unfold jR at hA
     split at hA
     · split at hA
       · simp at hA;exact hA.2.symm
       · simp at hA
     · simp at hA
    subst hj'
    by_cases h6:aN T (i+1)=6
    · rw[tF hA h6]at h
      have ih:=rY f (i+1+1) _ h h5
      exact(fX.one (.inr (by unfold W;omega))).join ((fX.one (.inl (by unfold W;omega))).join ih)
    · rw[oJ hA h6]at h
      simp at h
      obtain⟨_,rfl⟩:=h
      exact fX.one (.inr (by unfold W;omega))
theorem uV{T:List Tok}{i j:Nat}{a:Atom}(h:b9 T i=(some a,j)):fX T i j:=by
 unfold b9 at h
 split at h
 · simp at h
 · rename_i t ht
   split at h
   · rename_i h2
     split at h
     · rename_i h4
       rcases hT:bY T T.length (i+1+1) []with⟨_ | ts,j'⟩
       · rw[hT]at h;simp at h
       · rw[hT]at h
         simp only at h
         split at h
         · rename_i h5
           simp at h
           obtain⟨_,rfl⟩:=h
           have:=rY _ _ _ hT h5
           exact(fX.one (.inr (by unfold W;omega))).join ((fX.one (.inl (by unfold W;omega))).join (this.join (fX.one (.inl (by unfold W;omega)))))
         · simp at h
     · simp at h
   · simp at h
theorem sq{T:List Tok}:∀(f i:Nat) (acc:List Atom) {r:List Atom} {j:Nat},bV T f i acc=(some r,j)→fX T i j
 | 0,i,acc,r,j,h=>by simp[bV]at h
 | f+1,i,acc,r,j,h=>by
  rcases hA:b9 T i with⟨_ | a,j'⟩
  · rw[jB hA]at h;simp at h
  · have h1:=uV hA
    by_cases h6:aN T j'=6
    · rw[j9 hA h6]at h
      exact h1.join ((fX.one (.inl (by unfold W;omega))).join (sq f _ _ h))
    · rw[gL hA h6]at h
      simp at h
      obtain⟨_,rfl⟩:=h
      exact h1
theorem Di{T:List Tok}{i j:Nat}{r:br}(h:eF T i=(some r,j)):fX T i j:=by
 rcases hA:b9 T i with⟨_ | a,j1⟩
 · rw[mQ hA]at h;simp at h
 · have h1:=uV hA
   by_cases h8:aN T j1=8
   · rcases hB:bV T T.length (j1+1) []with⟨_ | b,j2⟩
     · rw[pq hA h8 hB]at h;simp at h
     · have h2:=sq _ _ _ hB
       by_cases h7:aN T j2=7
       · rw[mY hA h8 hB h7]at h
         simp at h
         obtain⟨_,rfl⟩:=h
         exact h1.join ((fX.one (.inl (by unfold W;omega))).join (h2.join (fX.one (.inl (by unfold W;omega)))))
       · rw[px hA h8 hB h7]at h;simp at h
   · by_cases h7:aN T j1=7
     · rw[mU hA h8 h7]at h
       simp at h
       obtain⟨_,rfl⟩:=h
       exact h1.join (fX.one (.inl (by unfold W;omega)))
     · rw[pv hA h8 h7]at h;simp at h
theorem rT{T:List Tok}:∀(f i:Nat) (acc:List br) {r:List br} {j:Nat},bU T f i acc=(some r,j)→fX T i j∧aN T j=1∧i≤j
 | 0,i,acc,r,j,h=>by simp[bU]at h
 | f+1,i,acc,r,j,h=>by
  by_cases h1:aN T i=1
  · rw[kE h1]at h
    simp at h
    obtain⟨_,rfl⟩:=h
    exact⟨fun k sJ lN=>by omega,h1,Nat.le_refl _⟩
  · rcases hR:eF T i with⟨_ | x,j'⟩
    · rw[jt h1 hR]at h;simp at h
    · rw[mo h1 hR]at h
      obtain⟨h2,h3,h4⟩:=rT f _ _ h
      have h5:=Di hR
      have h6:i≤j':=by
       rcases hA:b9 T i with⟨_ | a,j1⟩
       · rw[mQ hA]at hR;simp at hR
       · have hg:=sg hA
         by_cases h8:aN T j1=8
         · rcases hB:bV T T.length (j1+1) []with⟨_ | b,j2⟩
           · rw[pq hA h8 hB]at hR;simp at hR
           · have:=tA _ _ _ hB
             by_cases h7:aN T j2=7
             · rw[mY hA h8 hB h7]at hR;simp at hR;omega
             · rw[px hA h8 hB h7]at hR;simp at hR
         · by_cases h7:aN T j1=7
           · rw[mU hA h8 h7]at hR;simp at hR;omega
           · rw[pv hA h8 h7]at hR;simp at hR
      exact⟨h5.join h2,h3,by omega⟩
end Ax
/- Where tokens stand changes no answer but places. No program here. -/
namespace Ax
def er(t:Tok):Int×ByteArray:=(t.kind,t.text)
def Ct(a:Atom):ByteArray×List Term:=(a.pred,a.ag)
def kX(r:br):(ByteArray×List Term)×List (ByteArray×List Term):=(Ct r.head,r.body.map Ct)
end Ax
/- The plain form of what can be read is read, and is its own plain form. No program here. -/
namespace Ax
def cat(l:List It):List UInt8:=l.flatMap fun x=>x.text.data.toList
theorem An(s:ByteArray)(k:Nat)(h:k<s.size):byte s k=((s.data.toList[k]?).map UInt8.toNat).getD 0:=by
 rw[←gZ s k h]
 have:s.data.toList[k]?=some s.data[k]:=by
  rw[Array.getElem?_toList]
  exact Array.getElem?_eq_getElem h
 rw[this]
 rfl
theorem Hq(p:ByteArray):∀(l:List It) (b:Nat),b≤p.size→p.data.toList.drop b=cat l→QA p b l
 | [],b,hb,h=>by
  have:(p.data.toList.drop b).length=0:=by rw[h];rfl
  rw[List.length_drop,Array.length_toList]at this
  show b=p.data.size
  have:p.data.size=p.size:=rfl
  omega
 | x::l,b,hb,h=>by
  have hc:cat (x::l)=x.text.data.toList++cat l:=by simp[cat]
  rw[hc]at h
  have hlen:=congrArg List.length h
  rw[List.length_drop,List.length_append,Array.length_toList,Array.length_toList]at hlen
  have e1:p.data.size=p.size:=rfl
  have e2:x.text.data.size=x.text.size:=rfl
  refine⟨b,Nat.le_refl _,fun k h1 h2=>by omega,by omega,fun k hk=> ?_, ?_⟩
  · rw[An p _ (by omega),An x.text k hk]
    have:=congrArg (fun q=>q[k]?) h
    simp only[List.getElem?_drop]at this
    rw[this,List.getElem?_append_left (by rw[Array.length_toList];omega)]
  · refine Hq p l _ (by omega) ?_
    rw[←List.drop_drop,h,List.drop_left' (by rw[Array.length_toList];omega)]
theorem QD{a b:Tok}(ha:0≤a.kind∧a.kind≤8)(hb:0≤b.kind∧b.kind≤8)(h:It.of (conv a)=It.of (conv b)):er a=er b:=by
 simp only[It.of,conv,It.mk.injEq]at h
 have:=NV a.kind ha.1 ha.2 b.kind hb.1 hb.2
 rw[h.1]at this
 simp only[beq_self_eq_true]at this
 have hk:a.kind=b.kind:=by simpa using this.symm
 simp[er,hk,h.2]
theorem Hf{k:Int}(h:B7 (kc k)):k=2∨k=3:=by
 unfold B7 kc at h
 split at h
 · omega
 split at h
 · omega
 split at h
 · omega
 split at h
 · omega
 repeat' split at h
 all_goals omega
theorem CG:∀(m:List Tok),(∀k,¬(W m k∧W m (k+1)))→iB (m.map (fun t=>It.of (conv t)))
 | [],_=>trivial
 | [a],_=>trivial
 | a::b::m,h=>by
  refine⟨?_,CG (b::m) (fun k hk=>h (k+1) ?_)⟩
  · intro hw
    exact h 0 ⟨by simpa [W,aN]using Hf hw.1,by simpa [W,aN]using Hf hw.2⟩
  · simpa [W,aN]using hk
end Ax
end Go.Proofs.YtdmicblafmhflaaGreatDoor
