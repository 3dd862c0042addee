/- Tokens of the program as tokens of the reference. No program here. -/
import Derived.Test.YtdmicblafmhflaaGreatDoorC00
import Derived.Lib.Strings
set_option linter.unusedSimpArgs false
set_option linter.unusedVariables false
set_option maxHeartbeats 2000000
namespace Go.Proofs.YtdmicblafmhflaaGreatDoor
namespace Ax
def kc(k:Int):Nat:=if k=0 then 120 else if k=1 then 101 else if k=2 then 110 else if k=3 then 118 else if k=4 then 40 else if k=5 then 41 else if k=6 then 44 else if k=7 then 46 else 58
def conv(t:Tok):tV:=⟨kc t.kind,t.text,t.at_⟩
def A5(T:List Tok):Prop:=∀t,t∈T→0≤t.kind∧t.kind≤8
theorem Vk:∀k j:Fin 9,kc (k.val:Int)=kc (j.val:Int)→k=j:=by decide
theorem XO(k:Int)(h0:0≤k)(h8:k≤8)(j:Int)(VV:0≤j)(hj8:j≤8):(((kc k:Nat):Int) != ((kc j:Nat):Int))=decide (k≠j):=by
 rw[Bool.eq_iff_iff]
 simp only[bne_iff_ne,ne_eq,decide_eq_true_eq,Int.natCast_inj]
 obtain⟨k,rfl⟩:=Int.eq_ofNat_of_zero_le h0
 obtain⟨j,rfl⟩:=Int.eq_ofNat_of_zero_le VV
 have:=Vk ⟨k,by omega⟩ ⟨j,by omega⟩
 simp only[Fin.mk.injEq]at this
 constructor
 · intro h e;exact h (by rw[e])
 · intro h e;exact h (by rw[this e])
theorem NV(k:Int)(h0:0≤k)(h8:k≤8)(j:Int)(VV:0≤j)(hj8:j≤8):(((kc k:Nat):Int)==((kc j:Nat):Int))=decide (k=j):=by
 have:=XO k h0 h8 j VV hj8
 rw[Bool.eq_iff_iff]at this ⊢
 simp only[bne_iff_ne,ne_eq,decide_eq_true_eq,beq_iff_eq]at this ⊢
 omega
end Ax
/- The reference reads code points as Go does. No program here. -/
namespace Ax
theorem jk(s:ByteArray)(i:Nat):Utf8.decode s i=Lib.decodeN (s.size-i) (byte s i) (byte s (i+1)) (byte s (i+2)) (byte s (i+3)):=Lib.decode_at s i
theorem sN(n lo c:Nat):nY n lo (some c)=if c<lo∨1114111<c∨(55296≤c∧c≤57343)then (0,0)else (c,n):=rfl
theorem Rm(n x0 x1 x2 x3:Nat)(b0:x0<256)(b1:x1<256)(b2:x2<256)(b3:x3<256):
 (if x0<128 then (x0,1)else if x0<192 then (0,0)
   else if x0<224 then nY 2 128 (if n≤1∨x1<128∨191<x1 then none else some ((x0-192)*64+x1-128))
   else if x0<240 then nY 3 2048 (if n≤1∨x1<128∨191<x1 then none else if n≤2∨x2<128∨191<x2 then none else some (((x0-224)*64+x1-128)*64+x2-128))
   else if x0<248 then nY 4 65536 (if n≤1∨x1<128∨191<x1 then none else if n≤2∨x2<128∨191<x2 then none else if n≤3∨x3<128∨191<x3 then none else some ((((x0-240)*64+x1-128)*64+x2-128)*64+x3-128))
   else (0,0))=if Lib.decodeN n x0 x1 x2 x3=(65533,1)then (0,0)else Lib.decodeN n x0 x1 x2 x3:=by
 have k1:(1<n∧x1/64=2)↔¬(n≤1∨x1<128∨191<x1):=by omega
 have k2:(2<n∧x2/64=2)↔¬(n≤2∨x2<128∨191<x2):=by omega
 have k3:(3<n∧x3/64=2)↔¬(n≤3∨x3<128∨191<x3):=by omega
 by_cases h1:x0<128
 · have hd:Lib.decodeN n x0 x1 x2 x3=(x0,1):=by simp[Lib.decodeN,h1]
   rw[hd,if_pos h1,if_neg (by simp;omega)]
 rw[if_neg h1]
 by_cases h2:x0<192
 · have hd:Lib.decodeN n x0 x1 x2 x3=(65533,1):=by
    unfold Lib.decodeN
    rw[if_neg h1,if_neg (by omega),if_neg (by omega),if_neg (by omega)]
   rw[hd,if_pos h2,if_pos rfl]
 rw[if_neg h2]
 by_cases h3:x0<224
 · rw[if_pos h3]
   by_cases c1:n≤1∨x1<128∨191<x1
   · have hd:Lib.decodeN n x0 x1 x2 x3=(65533,1):=by
      unfold Lib.decodeN
      rw[if_neg h1,if_neg (by omega),if_neg (by omega),if_neg (by omega)]
     rw[hd,if_pos c1,if_pos rfl];rfl
   · rw[if_neg c1,sN]
     have hc:x0%32*64+x1%64=(x0-192)*64+x1-128:=by omega
     have hd:Lib.decodeN n x0 x1 x2 x3=if (x0-192)*64+x1-128≥128 then ((x0-192)*64+x1-128,2)else (65533,1):=by
      unfold Lib.decodeN
      rw[if_neg h1,if_pos (by omega),hc]
     rw[hd]
     by_cases c:(x0-192)*64+x1-128≥128
     · rw[if_pos c,if_neg (by omega),if_neg (by simp)]
     · rw[if_neg c,if_pos (by omega),if_pos rfl]
 rw[if_neg h3]
 by_cases h4:x0<240
 · rw[if_pos h4]
   by_cases c1:n≤1∨x1<128∨191<x1
   · have hd:Lib.decodeN n x0 x1 x2 x3=(65533,1):=by
      unfold Lib.decodeN
      rw[if_neg h1,if_neg (by omega),if_neg (by omega),if_neg (by omega)]
     rw[hd,if_pos c1,if_pos rfl];rfl
   rw[if_neg c1]
   by_cases c2:n≤2∨x2<128∨191<x2
   · have hd:Lib.decodeN n x0 x1 x2 x3=(65533,1):=by
      unfold Lib.decodeN
      rw[if_neg h1,if_neg (by omega),if_neg (by omega),if_neg (by omega)]
     rw[hd,if_pos c2,if_pos rfl];rfl
   rw[if_neg c2,sN]
   have hc:x0%16*4096+x1%64*64+x2%64=((x0-224)*64+x1-128)*64+x2-128:=by omega
   generalize hC:((x0-224)*64+x1-128)*64+x2-128=C at*
   have hd:Lib.decodeN n x0 x1 x2 x3=if C≥2048∧(C<55296∨(57344≤C∧C≤1114111))then (C,3)else (65533,1):=by
    unfold Lib.decodeN
    rw[if_neg h1,if_neg (by omega),if_pos (by omega),hc]
   rw[hd]
   by_cases c:C≥2048∧(C<55296∨(57344≤C∧C≤1114111))
   · rw[if_pos c,if_neg (by omega),if_neg (by simp)]
   · rw[if_neg c,if_pos (by omega),if_pos rfl]
 rw[if_neg h4]
 by_cases h5:x0<248
 · rw[if_pos h5]
   by_cases c1:n≤1∨x1<128∨191<x1
   · have hd:Lib.decodeN n x0 x1 x2 x3=(65533,1):=by
      unfold Lib.decodeN
      rw[if_neg h1,if_neg (by omega),if_neg (by omega),if_neg (by omega)]
     rw[hd,if_pos c1,if_pos rfl];rfl
   rw[if_neg c1]
   by_cases c2:n≤2∨x2<128∨191<x2
   · have hd:Lib.decodeN n x0 x1 x2 x3=(65533,1):=by
      unfold Lib.decodeN
      rw[if_neg h1,if_neg (by omega),if_neg (by omega),if_neg (by omega)]
     rw[hd,if_pos c2,if_pos rfl];rfl
   rw[if_neg c2]
   by_cases c3:n≤3∨x3<128∨191<x3
   · have hd:Lib.decodeN n x0 x1 x2 x3=(65533,1):=by
      unfold Lib.decodeN
      rw[if_neg h1,if_neg (by omega),if_neg (by omega),if_neg (by omega)]
     rw[hd,if_pos c3,if_pos rfl];rfl
   rw[if_neg c3,sN]
   have hc:x0%8*262144+x1%64*4096+x2%64*64+x3%64=(((x0-240)*64+x1-128)*64+x2-128)*64+x3-128:=by omega
   generalize hC:(((x0-240)*64+x1-128)*64+x2-128)*64+x3-128=C at*
   have hd:Lib.decodeN n x0 x1 x2 x3=if C≥65536∧(C<55296∨(57344≤C∧C≤1114111))then (C,4)else (65533,1):=by
    unfold Lib.decodeN
    rw[if_neg h1,if_neg (by omega),if_neg (by omega),if_pos (by omega),hc]
   rw[hd]
   by_cases c:C≥65536∧(C<55296∨(57344≤C∧C≤1114111))
   · rw[if_pos c,if_neg (by omega),if_neg (by simp)]
   · rw[if_neg c,if_pos (by omega),if_pos rfl]
 rw[if_neg h5]
 have hd:Lib.decodeN n x0 x1 x2 x3=(65533,1):=by
  unfold Lib.decodeN
  rw[if_neg h1,if_neg (by omega),if_neg (by omega),if_neg (by omega)]
 rw[hd,if_pos rfl]
theorem pf(s:ByteArray)(i:Nat)(h:i<s.size):pt s i=if Utf8.decode s i=(65533,1)then (0,0)else Utf8.decode s i:=by
 rw[jk]
 have b0:=pA s i
 have b1:=pA s (i+1)
 have b2:=pA s (i+2)
 have b3:=pA s (i+3)
 have e1:(s.size≤i+1)=(s.size-i≤1):=by apply propext;omega
 have e2:(s.size≤i+2)=(s.size-i≤2):=by apply propext;omega
 have e3:(s.size≤i+3)=(s.size-i≤3):=by apply propext;omega
 unfold pt
 simp only[ju,e1,e2,e3,Nat.reduceAdd]
 generalize byte s i=x0 at*
 generalize byte s (i+1)=x1 at*
 generalize byte s (i+2)=x2 at*
 generalize byte s (i+3)=x3 at*
 have hn:0<s.size-i:=by omega
 generalize s.size-i=n at*
 clear e1 e2 e3 h
 exact Rm n x0 x1 x2 x3 b0 b1 b2 b3
end Ax
/- The reference's tokens are the program's. No program here. -/
namespace Ax
theorem sS(s:ByteArray)(i:Nat):(s.data.toList.getD i 0).toNat=byte s i:=by
 unfold byte
 cases s with
 | mk d=>
  show(d.toList.getD i 0).toNat=(d[i]!).toNat
  by_cases h:i<d.size
  · rw[getElem!_pos d i h];simp[List.getD,h]
  · rw[getElem!_neg d i h];simp[List.getD,h];rfl
theorem eN(s:ByteArray)(p q:Nat):(s.extract p q).data.toList=(s.data.toList.drop p).take (q-p):=by
 exact Lib.extract_data s p q
theorem xV{a b:ByteArray}(h:a.data.toList=b.data.toList):a=b:=by
 rcases a with⟨⟨a⟩⟩
 rcases b with⟨⟨b⟩⟩
 simp at h
 rw[h]
theorem pa(s:ByteArray)(p q:Nat):byte (s.extract p s.size) q=byte s (p+q):=by
 rw[←sS,←sS,eN]
 have:(s.data.toList.drop p).take (s.size-p)=s.data.toList.drop p:=by
  apply List.take_of_length_le
  simp
 rw[this]
 simp[List.getD,List.getElem?_drop]
theorem dn(s:ByteArray)(p:Nat):(s.extract p s.size).size=s.size-p:=by simp
theorem jh(s:ByteArray)(p q:Nat):Utf8.decode (s.extract p s.size) q=Utf8.decode s (p+q):=by
 rw[jk,jk,dn,pa,pa,pa,pa,Nat.sub_sub]
 congr 1
theorem B1(s:ByteArray)(p q:Nat):(s.extract p s.size).extract q (s.extract p s.size).size=s.extract (p+q) s.size:=by
 apply xV
 rw[eN,eN,eN,dn,List.drop_take,List.drop_drop,List.take_take]
 congr 1
 omega
end Ax
/- The reference's words are the program's. No program here. -/
namespace Ax
theorem iF(s:ByteArray)(pos:Nat)(h:pos<s.size):1≤(Utf8.decode s pos).2:=by
 by_cases ha:(s[pos]'h).toNat<128
 · rw[decode_ascii s pos h ha]
   exact Nat.le_refl _
 · exact(decode_high s pos h (by omega)).2
theorem drop_cons(s:ByteArray)(i:Nat)(h:i<s.size):∃a:UInt8,s.data.toList.drop i=a::s.data.toList.drop (i+1)∧a.toNat=byte s i:=by
 have hl:i<s.data.toList.length:=by simpa using h
 refine⟨s.data.toList[i],List.drop_eq_getElem_cons hl, ?_⟩
 rw[←sS,List.getD_eq_getElem?_getD,List.getElem?_eq_getElem hl]
 rfl
theorem mC(s:ByteArray)(i:Nat)(h:¬i<s.size):s.data.toList.drop i=[]:=List.drop_eq_nil_of_le (by simpa using h)
theorem Am(s:ByteArray)(i:Nat):(s.extract i s.size).data.toList=s.data.toList.drop i:=by
 rw[eN]
 apply List.take_of_length_le
 simp
theorem Up(s:ByteArray)(i:Nat)(a b c:UInt8):pre (s.extract i s.size) ⟨#[a,b,c]⟩=true↔(i+2<s.size∧byte s i=a.toNat∧byte s (i+1)=b.toNat∧byte s (i+2)=c.toNat):=by
 unfold pre
 rw[Am]
 show List.isPrefixOf [a,b,c] _=true↔_
 by_cases h0:i<s.size
 · obtain⟨x,hx,ex⟩:=drop_cons s i h0
   by_cases h1:i+1<s.size
   · obtain⟨y,hy,ey⟩:=drop_cons s (i+1) h1
     by_cases h2:i+1+1<s.size
     · obtain⟨z,hz,ez⟩:=drop_cons s (i+1+1) h2
       rw[hx,hy,hz]
       simp only[List.isPrefixOf,Bool.and_true,Bool.and_eq_true,beq_iff_eq]
       rw[←ex,←ey,←ez]
       constructor
       · rintro⟨rfl,rfl,rfl⟩;exact⟨h2,rfl,rfl,rfl⟩
       · rintro⟨_,e1,e2,e3⟩;exact⟨(UInt8.toNat_inj.1 e1).symm,(UInt8.toNat_inj.1 e2).symm,(UInt8.toNat_inj.1 e3).symm⟩
     · rw[hx,hy,mC s _ h2]
       simp[List.isPrefixOf]
       omega
   · rw[hx,mC s _ h1]
     simp[List.isPrefixOf]
     omega
 · rw[mC s _ h0]
   simp[List.isPrefixOf]
   omega
theorem O8(s:ByteArray)(i:Nat)(a b:UInt8):pre (s.extract i s.size) ⟨#[a,b]⟩=true↔(i+1<s.size∧byte s i=a.toNat∧byte s (i+1)=b.toNat):=by
 unfold pre
 rw[Am]
 show List.isPrefixOf [a,b] _=true↔_
 by_cases h0:i<s.size
 · obtain⟨x,hx,ex⟩:=drop_cons s i h0
   by_cases h1:i+1<s.size
   · obtain⟨y,hy,ey⟩:=drop_cons s (i+1) h1
     rw[hx,hy]
     simp only[List.isPrefixOf,Bool.and_true,Bool.and_eq_true,beq_iff_eq]
     rw[←ex,←ey]
     constructor
     · rintro⟨rfl,rfl⟩;exact⟨h1,rfl,rfl⟩
     · rintro⟨_,e1,e2⟩;exact⟨(UInt8.toNat_inj.1 e1).symm,(UInt8.toNat_inj.1 e2).symm⟩
   · rw[hx,mC s _ h1]
     simp[List.isPrefixOf]
     omega
 · rw[mC s _ h0]
   simp[List.isPrefixOf]
   omega
theorem B2(s:ByteArray)(i w:Nat)(h:i<s.size)(hd:Utf8.decode s i=(65533,w)):
 (w=1∧pre (s.extract i s.size) ⟨#[239,191,189]⟩=false)∨(w=3∧pre (s.extract i s.size) ⟨#[239,191,189]⟩=true):=by
 have b1:=pA s (i+1)
 have b2:=pA s (i+2)
 have hp:=Up s i 239 191 189
 have e1:(239:UInt8).toNat=239:=rfl
 have e2:(191:UInt8).toNat=191:=rfl
 have e3:(189:UInt8).toNat=189:=rfl
 rw[e1,e2,e3]at hp
 by_cases hb:i+2<s.size∧byte s i=239∧byte s (i+1)=191∧byte s (i+2)=189
 · right
   refine⟨?_,hp.2 hb⟩
   rw[jk]at hd
   obtain⟨h1,h2,h3,h4⟩:=hb
   rw[h2,h3,h4]at hd
   have:Lib.decodeN (s.size-i) 239 191 189 (byte s (i+3))=(65533,3):=by
    unfold Lib.decodeN
    rw[if_neg (by omega),if_neg (by omega),if_pos (by omega)]
    rfl
   rw[this]at hd
   simp at hd
   exact hd.symm
 · left
   have hpf:pre (s.extract i s.size) ⟨#[239,191,189]⟩=false:=by
    rw[Bool.eq_false_iff]
    exact fun h=>hb (hp.1 h)
   refine⟨?_,hpf⟩
   rw[jk]at hd
   unfold Lib.decodeN at hd
   split at hd
   · simp at hd;omega
   · split at hd
     · split at hd
       · simp at hd;omega
       · simp at hd;omega
     · split at hd
       · split at hd
         · simp at hd;omega
         · simp at hd;omega
       · split at hd
         · split at hd
           · simp at hd;omega
           · simp at hd;omega
         · simp at hd;omega
theorem tR(s:ByteArray)(i:Nat)(h:i<s.size):small (s.extract i s.size) (Utf8.decode s i).1=(decide (0<(pt s i).2)&&nC (pt s i).1):=by
 rw[pf s i h]
 rcases hd:Utf8.decode s i with⟨r,w⟩
 by_cases hr:r=65533
 · subst hr
   rcases B2 s i w h hd with⟨rfl,hp⟩ | ⟨rfl,hp⟩
   · simp[small,hp,nC]
   · simp[small,hp,nC]
 · have hw:1≤w:=by have:=iF s i h;rw[hd]at this;exact this
   rw[if_neg (by simp[hr])]
   have:(r:Int)≠65533:=by omega
   simp only[small,if_neg this,nC]
   have:decide (0<w)=true:=by simp;omega
   rw[this,Bool.true_and]
theorem D6(s:ByteArray)(i:Nat)(h:i<s.size)(lo hi:Nat)(h0:0<lo)(h2:hi<65533):(decide ((lo:Int)≤(Utf8.decode s i).1)&&decide (((Utf8.decode s i).1:Int)≤hi))=(decide (0<(pt s i).2)&&(decide (lo≤(pt s i).1)&&decide ((pt s i).1≤hi))):=by
 rw[pf s i h]
 rcases hd:Utf8.decode s i with⟨r,w⟩
 have hw:1≤w:=by have:=iF s i h;rw[hd]at this;exact this
 by_cases hr:(r,w)=(65533,1)
 · rw[if_pos hr]
   simp at hr
   rw[Bool.eq_iff_iff]
   simp
   omega
 · rw[if_neg hr]
   rw[Bool.eq_iff_iff]
   simp
   omega
end Ax
/- The reference's tokens are the program's: words, tokens, lists. No program here. -/
namespace Ax
theorem my(s:ByteArray)(pos:Nat)(h:pos<s.size):pos+(Utf8.decode s pos).2≤s.size:=by
 have:=R9 s pos h
 rw[pf s pos h]at this
 split at this
 · rename_i e;rw[e];omega
 · exact this
theorem NC(s:ByteArray)(i:Nat)(h:i<s.size):digit (Utf8.decode s i).1=(decide (0<(pt s i).2)&&(decide (48≤(pt s i).1)&&decide ((pt s i).1≤57))):=D6 s i h 48 57 (by decide) (by decide)
theorem GD(s:ByteArray)(i:Nat)(h:i<s.size):eU (Utf8.decode s i).1=(decide (0<(pt s i).2)&&(decide (65≤(pt s i).1)&&decide ((pt s i).1≤90))):=D6 s i h 65 90 (by decide) (by decide)
theorem Oh(s:ByteArray)(i:Nat)(h:i<s.size):qx s i 0=(small (s.extract i s.size) (Utf8.decode s i).1||eU (Utf8.decode s i).1):=by
 rw[tR s i h,GD s i h]
 unfold qx
 cases decide (0<(pt s i).2)<;>cases nC (pt s i).1<;>simp
theorem Oa(s:ByteArray)(i n:Nat)(h:i<s.size)(hn:0<n):qx s i n=(small (s.extract i s.size) (Utf8.decode s i).1||digit (Utf8.decode s i).1):=by
 rw[tR s i h,NC s i h]
 unfold qx
 have:decide (n=0)=false:=by simp;omega
 have h2:decide (0<n)=true:=by simp;omega
 rw[this,h2]
 cases decide (0<(pt s i).2)<;>cases nC (pt s i).1<;>simp
theorem zG(s:ByteArray)(i n:Nat)(h:i<s.size)(hk:qx s i n=true):(pt s i).2=(Utf8.decode s i).2:=by
 have:=IU hk
 rw[pf s i h]at this ⊢
 split at this
 · simp at this
 · rename_i cA;rw[if_neg cA]
theorem AP(s:ByteArray)(p:Nat)(hp:p≤s.size):∀f q n f',0<q→0<n→p+q≤s.size→s.size≤p+q+f→s.size≤p+q+f'→
 cn s f' (p+q) n=(p+(aS (s.extract p s.size) f q n).1,(aS (s.extract p s.size) f q n).2)
 | 0,q,n,f',hq,hn,hl,hf,_=>by
  have:p+q=s.size:=by omega
  rw[mE (by omega)]
  simp only[aS,dn]
  congr 1
  omega
 | f+1,q,n,f',hq,hn,hl,hf,PS=>by
  by_cases aE:p+q<s.size
  · have Hn:q<(s.extract p s.size).size:=by rw[dn];omega
    have hs:stops (s.extract p s.size) q= !qx s (p+q) n:=by
     rw[Oa s (p+q) n aE hn]
     unfold stops tail
     rw[jh,B1]
     have:decide (0<q)=true:=by simp;omega
     rw[this]
     cases small (s.extract (p+q) s.size) (Utf8.decode s (p+q)).1<;>cases digit (Utf8.decode s (p+q)).1<;>rfl
    unfold aS
    rw[if_pos Hn,hs]
    cases hk:qx s (p+q) n
    · rw[iQ hk]
      simp
    · obtain⟨g,rfl⟩:∃g,f'=g+1:=⟨f'-1,by omega⟩
      rw[mh aE hk,zG s (p+q) n aE hk,jh]
      have hw:=iF s (p+q) aE
      have MK:=my s (p+q) aE
      simp only[Bool.not_true,Bool.false_eq_true,if_false]
      rw[Nat.add_assoc p q]
      exact AP s p hp f (q+(Utf8.decode s (p+q)).2) (n+1) g (by omega) (by omega) (by omega) (by omega) (by omega)
  · have Hn:¬q<(s.extract p s.size).size:=by rw[dn];omega
    rw[mE aE]
    unfold aS
    rw[if_neg Hn]
    have:p+q=s.size:=by omega
    simp only[dn]
    congr 1
    omega
theorem Nl(s:ByteArray)(f p n:Nat)(h:p<s.size)(hs:stops s p=false):aS s (f+1) p n=aS s f (p+(Utf8.decode s p).2) (n+1):=by simp[aS,h,hs]
theorem IL(s:ByteArray)(p:Nat)(hp:p<s.size)(hk:qx s p 0=true):
 cn s s.size p 0=(p+(aS (s.extract p s.size) (s.extract p s.size).size 0 0).1,(aS (s.extract p s.size) (s.extract p s.size).size 0 0).2):=by
 obtain⟨g,hg⟩:∃g,s.size=g+1:=⟨s.size-1,by omega⟩
 have cE:(s.extract p s.size).size=s.size-p:=dn s p
 obtain⟨f,hf⟩:∃f,(s.extract p s.size).size=f+1:=⟨s.size-p-1,by omega⟩
 have e1:cn s s.size p 0=cn s g (p+(Utf8.decode s p).2) 1:=by
  conv=>lhs;rw[hg]
  rw[mh hp hk,zG s p 0 hp hk]
 have e2:aS (s.extract p s.size) (s.extract p s.size).size 0 0=aS (s.extract p s.size) f ((Utf8.decode s p).2) 1:=by
  have ev:stops (s.extract p s.size) 0=false:=by simp[stops]
  have:=Nl (s.extract p s.size) f 0 0 (by omega) ev
  rw[jh]at this
  rw[hf,this]
  simp
 rw[e1,e2]
 have hw:=iF s p hp
 have MK:=my s p hp
 exact AP s p (by omega) f _ 1 g (by omega) (by omega) MK (by omega) (by omega)
theorem eS(s:ByteArray)(p:Nat)(hp:p<s.size)(c:Nat)(hc:c<128):(Utf8.decode s p).1=c↔byte s p=c:=by
 by_cases ha:(s[p]'hp).toNat<128
 · rw[decode_ascii s p hp ha,gZ s p hp]
 · have h1:=(decode_high s p hp (by omega)).1
   rw[gZ s p hp]at ha
   constructor<;>intro h<;>omega
theorem j8(s:ByteArray)(p:Nat)(hp:p<s.size)(hc:byte s p<128):Utf8.decode s p=(byte s p,1):=by
 rw[←gZ s p hp]at hc ⊢
 exact decode_ascii s p hp hc
theorem Bk(s:ByteArray)(p:Nat)(hp:p<s.size):eU (Utf8.decode s p).1=decide (65≤byte s p∧byte s p≤90):=by
 by_cases ha:byte s p<128
 · rw[j8 s p hp ha]
   unfold eU
   rw[Bool.eq_iff_iff]
   simp
   omega
 · have h1:=(decode_high s p hp (by rw[gZ s p hp];omega)).1
   have:eU (Utf8.decode s p).1=false:=by
    unfold eU
    simp
    omega
   rw[this]
   symm
   simp
   omega
end Ax
/- The reference's tokens are the program's: lists. No program here. -/
namespace Ax
theorem nf(s:ByteArray)(p:Nat):s.extract p (p+0)=⟨#[]⟩:=by
 apply xV
 rw[eN]
 simp
theorem iN(s:ByteArray)(p:Nat)(hk:qx s p 0=false):cn s s.size p 0=(p,0):=iQ hk
theorem Dq(s:ByteArray)(p:Nat)(hp:p<s.size)(hk:qx s p 0=true):0<(cn s s.size p 0).2:=by
 obtain⟨g,hg⟩:∃g,s.size=g+1:=⟨s.size-1,by omega⟩
 have h1:cn s s.size p 0=cn s g (p+(pt s p).2) 1:=by
  conv=>lhs;rw[hg]
  exact mh hp hk
 rw[h1]
 have:∀f i n,n≤(cn s f i n).2:=by
  intro f
  induction f with
  | zero=>intro i n;exact Nat.le_refl _
  | succ f ih=>
   intro i n
   unfold cn
   split
   · split
     · have:=ih (i+(pt s i).2) (n+1);omega
     · exact Nat.le_refl _
   · exact Nat.le_refl _
 exact this _ _ _
theorem VL(s:ByteArray)(p:Nat)(hp:p<s.size):
 dL s p=conv ⟨(aJ (s.extract p s.size) (Utf8.decode s p).1).1,p,s.extract p (p+(aJ (s.extract p s.size) (Utf8.decode s p).1).2)⟩:=by
 have cA:¬p=s.size:=by omega
 have d40:=eS s p hp 40 (by decide)
 have d41:=eS s p hp 41 (by decide)
 have d44:=eS s p hp 44 (by decide)
 have d46:=eS s p hp 46 (by decide)
 have BQ:=O8 s p 58 45
 rw[show(58:UInt8).toNat=58 from rfl,show(45:UInt8).toNat=45 from rfl]at BQ
 have Ha:=Oh s p hp
 have mG:=Bk s p hp
 have Mi:∀c:Nat,c<65→byte s p=c→qx s p 0=false:=by
  intro c hc hb
  rw[Ha,mG,tR s p hp]
  have ZO:pt s p=(c,1):=by simp[pt,hb];omega
  rw[ZO,hb]
  simp[nC]
  omega
 unfold aJ
 by_cases Wo:((Utf8.decode s p).1:Int)=40
 · have hb:byte s p=40:=d40.1 (by omega)
   rw[if_pos Wo]
   unfold dL
   rw[iN s p (Mi 40 (by decide) hb),hb]
   simp[cA,conv,kc]
 by_cases X7:((Utf8.decode s p).1:Int)=41
 · have hb:byte s p=41:=d41.1 (by omega)
   rw[if_neg Wo,if_pos X7]
   unfold dL
   rw[iN s p (Mi 41 (by decide) hb),hb]
   simp[cA,conv,kc]
 by_cases ZK:((Utf8.decode s p).1:Int)=44
 · have hb:byte s p=44:=d44.1 (by omega)
   rw[if_neg Wo,if_neg X7,if_pos ZK]
   unfold dL
   rw[iN s p (Mi 44 (by decide) hb),hb]
   simp[cA,conv,kc]
 by_cases h46:((Utf8.decode s p).1:Int)=46
 · have hb:byte s p=46:=d46.1 (by omega)
   rw[if_neg Wo,if_neg X7,if_neg ZK,if_pos h46]
   unfold dL
   rw[iN s p (Mi 46 (by decide) hb),hb]
   simp[cA,conv,kc]
 rw[if_neg Wo,if_neg X7,if_neg ZK,if_neg h46]
 have b4:¬(byte s p=40∨byte s p=41∨byte s p=44∨byte s p=46):=by
  rintro(e | e | e | e)
  · exact Wo (by have:=d40.2 e;omega)
  · exact X7 (by have:=d41.2 e;omega)
  · exact ZK (by have:=d44.2 e;omega)
  · exact h46 (by have:=d46.2 e;omega)
 by_cases hc:pre (s.extract p s.size) ⟨#[58,45]⟩=true
 · obtain⟨hs,bL,a8⟩:=BQ.1 hc
   rw[if_pos hc]
   unfold dL
   rw[iN s p (Mi 58 (by decide) bL),if_neg cA]
   simp only[bL,a8,hs]
   simp only[conv,kc]
   have:s.extract p (p+2)=⟨#[58,45]⟩:=by
    apply xV
    rw[eN]
    obtain⟨x,hx,ex⟩:=drop_cons s p hp
    obtain⟨y,hy,ey⟩:=drop_cons s (p+1) hs
    rw[hx,hy]
    have aaJ:x=58:=UInt8.toNat_inj.1 (by rw[ex,bL];rfl)
    have adU:y=45:=UInt8.toNat_inj.1 (by rw[ey,a8];rfl)
    rw[aaJ,adU]
    simp
   rw[this]
   simp
 rw[if_neg hc]
 have VE:¬(byte s p=58∧p+1<s.size∧byte s (p+1)=45):=fun ⟨a,b,c⟩=>hc (BQ.2 ⟨b,a,c⟩)
 by_cases ze:small (s.extract p s.size) (Utf8.decode s p).1=true
 · have hk:qx s p 0=true:=by rw[Ha,ze];rfl
   have LQ:¬(65≤byte s p∧byte s p≤90):=by
    intro h
    have:eU (Utf8.decode s p).1=true:=by rw[mG];simp;exact h
    unfold eU at this
    simp at this
    unfold small at ze
    split at ze
    · omega
    · simp at ze;omega
   have Vh:=Dq s p hp hk
   rw[if_pos ze]
   unfold dL word
   rw[IL s p hp hk]at Vh ⊢
   generalize aS (s.extract p s.size) (s.extract p s.size).size 0 0=x at*
   simp only at Vh
   simp only[if_neg cA]
   by_cases h6:6<x.2
   · simp only[if_pos h6,nf];rfl
   · have:¬(0<x.2∧65≤byte s p∧byte s p≤90):=fun h=>LQ h.2
     simp only[if_neg h6,if_neg this,if_pos Vh];rfl
 rw[if_neg ze]
 by_cases tr:eU (Utf8.decode s p).1=true
 · have hk:qx s p 0=true:=by rw[Ha,tr];simp
   have LJ:65≤byte s p∧byte s p≤90:=by rw[mG]at tr;simpa using tr
   have Vh:=Dq s p hp hk
   rw[if_pos tr]
   unfold dL word
   rw[IL s p hp hk]at Vh ⊢
   generalize aS (s.extract p s.size) (s.extract p s.size).size 0 0=x at*
   simp only at Vh
   simp only[if_neg cA]
   by_cases h6:6<x.2
   · simp only[if_pos h6,nf];rfl
   · simp only[if_neg h6,if_pos (And.intro Vh LJ)];rfl
 · have hk:qx s p 0=false:=by
    rw[Ha]
    simp at ze tr
    rw[ze,tr]
    rfl
   rw[if_neg tr]
   unfold dL
   rw[iN s p hk]
   simp only[if_neg cA,if_neg b4,if_neg VE,nf]
   simp[conv,kc]
end Ax
end Go.Proofs.YtdmicblafmhflaaGreatDoor
