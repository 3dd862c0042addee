/- Tokens of the program as tokens of the reference. No program here. -/
import Derived.Test.YtdmicblafmhflaaGreatDoorC00
import Derived.Lib.Strings
set_option linter.unusedSimpArgs false
set_option linter.unusedVariables false
set_option maxHeartbeats 2000000
namespace Go.Proofs.YtdmicblafmhflaaGreatDoor
namespace Ax
def kc(k:Int):Nat:=if k=0 then 120 else if k=1 then 101 else if k=2 then 110 else if k=3 then 118 else if k=4 then 40 else if k=5 then 41 else if k=6 then 44 else if k=7 then 46 else 58
def conv(t:Tok):tM:=⟨kc t.kind,t.text,t.at_⟩
def AB(T:List Tok):Prop:=∀t,t∈T→0≤t.kind∧t.kind≤8
theorem UH:∀k j:Fin 9,kc (k.val:Int)=kc (j.val:Int)→k=j:=by decide
theorem Zx(k:Int)(h0:0≤k)(h8:k≤8)(j:Int)(WE:0≤j)(hj8:j≤8):(((kc k:Nat):Int) != ((kc j:Nat):Int))=decide (k≠j):=by
 rw[Bool.eq_iff_iff]
 simp only[bne_iff_ne,ne_eq,decide_eq_true_eq,Int.natCast_inj]
 obtain⟨k,rfl⟩:=Int.eq_ofNat_of_zero_le h0
 obtain⟨j,rfl⟩:=Int.eq_ofNat_of_zero_le WE
 have:=UH ⟨k,by omega⟩ ⟨j,by omega⟩
 simp only[Fin.mk.injEq]at this
 constructor
 · intro h e;exact h (by rw[e])
 · intro h e;exact h (by rw[this e])
theorem OY(k:Int)(h0:0≤k)(h8:k≤8)(j:Int)(WE:0≤j)(hj8:j≤8):(((kc k:Nat):Int)==((kc j:Nat):Int))=decide (k=j):=by
 have:=Zx k h0 h8 j WE hj8
 rw[Bool.eq_iff_iff]at this ⊢
 simp only[bne_iff_ne,ne_eq,decide_eq_true_eq,beq_iff_eq]at this ⊢
 omega
end Ax
/- The reference reads code points as Go does. No program here. -/
namespace Ax
theorem jq(s:ByteArray)(i:Nat):Utf8.decode s i=Lib.decodeN (s.size-i) (byte s i) (byte s (i+1)) (byte s (i+2)) (byte s (i+3)):=Lib.decode_at s i
theorem tB(n lo c:Nat):oy n lo (some c)=if c<lo∨1114111<c∨(55296≤c∧c≤57343)then (0,0)else (c,n):=rfl
theorem P3(n x0 x1 x2 x3:Nat)(b0:x0<256)(b1:x1<256)(b2:x2<256)(b3:x3<256):
 (if x0<128 then (x0,1)else if x0<192 then (0,0)
   else if x0<224 then oy 2 128 (if n≤1∨x1<128∨191<x1 then none else some ((x0-192)*64+x1-128))
   else if x0<240 then oy 3 2048 (if n≤1∨x1<128∨191<x1 then none else if n≤2∨x2<128∨191<x2 then none else some (((x0-224)*64+x1-128)*64+x2-128))
   else if x0<248 then oy 4 65536 (if n≤1∨x1<128∨191<x1 then none else if n≤2∨x2<128∨191<x2 then none else if n≤3∨x3<128∨191<x3 then none else some ((((x0-240)*64+x1-128)*64+x2-128)*64+x3-128))
   else (0,0))=if Lib.decodeN n x0 x1 x2 x3=(65533,1)then (0,0)else Lib.decodeN n x0 x1 x2 x3:=by
 have k1:(1<n∧x1/64=2)↔¬(n≤1∨x1<128∨191<x1):=by omega
 have k2:(2<n∧x2/64=2)↔¬(n≤2∨x2<128∨191<x2):=by omega
 have k3:(3<n∧x3/64=2)↔¬(n≤3∨x3<128∨191<x3):=by omega
 by_cases h1:x0<128
 · have hd:Lib.decodeN n x0 x1 x2 x3=(x0,1):=by simp[Lib.decodeN,h1]
   rw[hd,if_pos h1,if_neg (by simp;omega)]
 rw[if_neg h1]
 by_cases h2:x0<192
 · have hd:Lib.decodeN n x0 x1 x2 x3=(65533,1):=by
    unfold Lib.decodeN
    rw[if_neg h1,if_neg (by omega),if_neg (by omega),if_neg (by omega)]
   rw[hd,if_pos h2,if_pos rfl]
 rw[if_neg h2]
 by_cases h3:x0<224
 · rw[if_pos h3]
   by_cases c1:n≤1∨x1<128∨191<x1
   · have hd:Lib.decodeN n x0 x1 x2 x3=(65533,1):=by
      unfold Lib.decodeN
      rw[if_neg h1,if_neg (by omega),if_neg (by omega),if_neg (by omega)]
     rw[hd,if_pos c1,if_pos rfl];rfl
   · rw[if_neg c1,tB]
     have hc:x0%32*64+x1%64=(x0-192)*64+x1-128:=by omega
     have hd:Lib.decodeN n x0 x1 x2 x3=if (x0-192)*64+x1-128≥128 then ((x0-192)*64+x1-128,2)else (65533,1):=by
      unfold Lib.decodeN
      rw[if_neg h1,if_pos (by omega),hc]
     rw[hd]
     by_cases c:(x0-192)*64+x1-128≥128
     · rw[if_pos c,if_neg (by omega),if_neg (by simp)]
     · rw[if_neg c,if_pos (by omega),if_pos rfl]
 rw[if_neg h3]
 by_cases h4:x0<240
 · rw[if_pos h4]
   by_cases c1:n≤1∨x1<128∨191<x1
   · have hd:Lib.decodeN n x0 x1 x2 x3=(65533,1):=by
      unfold Lib.decodeN
      rw[if_neg h1,if_neg (by omega),if_neg (by omega),if_neg (by omega)]
     rw[hd,if_pos c1,if_pos rfl];rfl
   rw[if_neg c1]
   by_cases c2:n≤2∨x2<128∨191<x2
   · have hd:Lib.decodeN n x0 x1 x2 x3=(65533,1):=by
      unfold Lib.decodeN
      rw[if_neg h1,if_neg (by omega),if_neg (by omega),if_neg (by omega)]
     rw[hd,if_pos c2,if_pos rfl];rfl
   rw[if_neg c2,tB]
   have hc:x0%16*4096+x1%64*64+x2%64=((x0-224)*64+x1-128)*64+x2-128:=by omega
   generalize hC:((x0-224)*64+x1-128)*64+x2-128=C at*
   have hd:Lib.decodeN n x0 x1 x2 x3=if C≥2048∧(C<55296∨(57344≤C∧C≤1114111))then (C,3)else (65533,1):=by
    unfold Lib.decodeN
    rw[if_neg h1,if_neg (by omega),if_pos (by omega),hc]
   rw[hd]
   by_cases c:C≥2048∧(C<55296∨(57344≤C∧C≤1114111))
   · rw[if_pos c,if_neg (by omega),if_neg (by simp)]
   · rw[if_neg c,if_pos (by omega),if_pos rfl]
 rw[if_neg h4]
 by_cases h5:x0<248
 · rw[if_pos h5]
   by_cases c1:n≤1∨x1<128∨191<x1
   · have hd:Lib.decodeN n x0 x1 x2 x3=(65533,1):=by
      unfold Lib.decodeN
      rw[if_neg h1,if_neg (by omega),if_neg (by omega),if_neg (by omega)]
     rw[hd,if_pos c1,if_pos rfl];rfl
   rw[if_neg c1]
   by_cases c2:n≤2∨x2<128∨191<x2
   · have hd:Lib.decodeN n x0 x1 x2 x3=(65533,1):=by
      unfold Lib.decodeN
      rw[if_neg h1,if_neg (by omega),if_neg (by omega),if_neg (by omega)]
     rw[hd,if_pos c2,if_pos rfl];rfl
   rw[if_neg c2]
   by_cases c3:n≤3∨x3<128∨191<x3
   · have hd:Lib.decodeN n x0 x1 x2 x3=(65533,1):=by
      unfold Lib.decodeN
      rw[if_neg h1,if_neg (by omega),if_neg (by omega),if_neg (by omega)]
     rw[hd,if_pos c3,if_pos rfl];rfl
   rw[if_neg c3,tB]
   have hc:x0%8*262144+x1%64*4096+x2%64*64+x3%64=(((x0-240)*64+x1-128)*64+x2-128)*64+x3-128:=by omega
   generalize hC:(((x0-240)*64+x1-128)*64+x2-128)*64+x3-128=C at*
   have hd:Lib.decodeN n x0 x1 x2 x3=if C≥65536∧(C<55296∨(57344≤C∧C≤1114111))then (C,4)else (65533,1):=by
    unfold Lib.decodeN
    rw[if_neg h1,if_neg (by omega),if_neg (by omega),if_pos (by omega),hc]
   rw[hd]
   by_cases c:C≥65536∧(C<55296∨(57344≤C∧C≤1114111))
   · rw[if_pos c,if_neg (by omega),if_neg (by simp)]
   · rw[if_neg c,if_pos (by omega),if_pos rfl]
 rw[if_neg h5]
 have hd:Lib.decodeN n x0 x1 x2 x3=(65533,1):=by
  unfold Lib.decodeN
  rw[if_neg h1,if_neg (by omega),if_neg (by omega),if_neg (by omega)]
 rw[hd,if_pos rfl]
theorem o5(s:ByteArray)(i:Nat)(h:i<s.size):pt s i=if Utf8.decode s i=(65533,1)then (0,0)else Utf8.decode s i:=by
 rw[jq]
 have b0:=pv s i
 have b1:=pv s (i+1)
 have b2:=pv s (i+2)
 have b3:=pv s (i+3)
 have e1:(s.size≤i+1)=(s.size-i≤1):=by apply propext;omega
 have e2:(s.size≤i+2)=(s.size-i≤2):=by apply propext;omega
 have e3:(s.size≤i+3)=(s.size-i≤3):=by apply propext;omega
 unfold pt
 simp only[jh,e1,e2,e3,Nat.reduceAdd]
 generalize byte s i=x0 at*
 generalize byte s (i+1)=x1 at*
 generalize byte s (i+2)=x2 at*
 generalize byte s (i+3)=x3 at*
 have hn:0<s.size-i:=by omega
 generalize s.size-i=n at*
 clear e1 e2 e3 h
 exact P3 n x0 x1 x2 x3 b0 b1 b2 b3
end Ax
/- The reference's tokens are the program's. No program here. -/
namespace Ax
theorem tY(s:ByteArray)(i:Nat):(s.data.toList.getD i 0).toNat=byte s i:=by
 unfold byte
 cases s with
 | mk d=>
  show(d.toList.getD i 0).toNat=(d[i]!).toNat
  by_cases h:i<d.size
  · rw[getElem!_pos d i h];simp[List.getD,h]
  · rw[getElem!_neg d i h];simp[List.getD,h];rfl
theorem eL(s:ByteArray)(p q:Nat):(s.extract p q).data.toList=(s.data.toList.drop p).take (q-p):=by
 exact Lib.extract_data s p q
theorem yz{a b:ByteArray}(h:a.data.toList=b.data.toList):a=b:=by
 rcases a with⟨⟨a⟩⟩
 rcases b with⟨⟨b⟩⟩
 simp at h
 rw[h]
theorem px(s:ByteArray)(p q:Nat):byte (s.extract p s.size) q=byte s (p+q):=by
 rw[←tY,←tY,eL]
 have:(s.data.toList.drop p).take (s.size-p)=s.data.toList.drop p:=by
  apply List.take_of_length_le
  simp
 rw[this]
 simp[List.getD,List.getElem?_drop]
theorem du(s:ByteArray)(p:Nat):(s.extract p s.size).size=s.size-p:=by simp
theorem jw(s:ByteArray)(p q:Nat):Utf8.decode (s.extract p s.size) q=Utf8.decode s (p+q):=by
 rw[jq,jq,du,px,px,px,px,Nat.sub_sub]
 congr 1
theorem BL(s:ByteArray)(p q:Nat):(s.extract p s.size).extract q (s.extract p s.size).size=s.extract (p+q) s.size:=by
 apply yz
 rw[eL,eL,eL,du,List.drop_take,List.drop_drop,List.take_take]
 congr 1
 omega
end Ax
/- The reference's words are the program's. No program here. -/
namespace Ax
theorem iG(s:ByteArray)(pos:Nat)(h:pos<s.size):1≤(Utf8.decode s pos).2:=by
 by_cases ha:(s[pos]'h).toNat<128
 · rw[decode_ascii s pos h ha]
   exact Nat.le_refl _
 · exact(decode_high s pos h (by omega)).2
theorem drop_cons(s:ByteArray)(i:Nat)(h:i<s.size):∃a:UInt8,s.data.toList.drop i=a::s.data.toList.drop (i+1)∧a.toNat=byte s i:=by
 have hl:i<s.data.toList.length:=by simpa using h
 refine⟨s.data.toList[i],List.drop_eq_getElem_cons hl, ?_⟩
 rw[←tY,List.getD_eq_getElem?_getD,List.getElem?_eq_getElem hl]
 rfl
theorem my(s:ByteArray)(i:Nat)(h:¬i<s.size):s.data.toList.drop i=[]:=List.drop_eq_nil_of_le (by simpa using h)
theorem zU(s:ByteArray)(i:Nat):(s.extract i s.size).data.toList=s.data.toList.drop i:=by
 rw[eL]
 apply List.take_of_length_le
 simp
theorem TA(s:ByteArray)(i:Nat)(a b c:UInt8):pre (s.extract i s.size) ⟨#[a,b,c]⟩=true↔(i+2<s.size∧byte s i=a.toNat∧byte s (i+1)=b.toNat∧byte s (i+2)=c.toNat):=by
 unfold pre
 rw[zU]
 show List.isPrefixOf [a,b,c] _=true↔_
 by_cases h0:i<s.size
 · obtain⟨x,hx,ex⟩:=drop_cons s i h0
   by_cases h1:i+1<s.size
   · obtain⟨y,hy,ey⟩:=drop_cons s (i+1) h1
     by_cases h2:i+1+1<s.size
     · obtain⟨z,hz,ez⟩:=drop_cons s (i+1+1) h2
       rw[hx,hy,hz]
       simp only[List.isPrefixOf,Bool.and_true,Bool.and_eq_true,beq_iff_eq]
       rw[←ex,←ey,←ez]
       constructor
       · rintro⟨rfl,rfl,rfl⟩;exact⟨h2,rfl,rfl,rfl⟩
       · rintro⟨_,e1,e2,e3⟩;exact⟨(UInt8.toNat_inj.1 e1).symm,(UInt8.toNat_inj.1 e2).symm,(UInt8.toNat_inj.1 e3).symm⟩
     · rw[hx,hy,my s _ h2]
       simp[List.isPrefixOf]
       omega
   · rw[hx,my s _ h1]
     simp[List.isPrefixOf]
     omega
 · rw[my s _ h0]
   simp[List.isPrefixOf]
   omega
theorem OU(s:ByteArray)(i:Nat)(a b:UInt8):pre (s.extract i s.size) ⟨#[a,b]⟩=true↔(i+1<s.size∧byte s i=a.toNat∧byte s (i+1)=b.toNat):=by
 unfold pre
 rw[zU]
 show List.isPrefixOf [a,b] _=true↔_
 by_cases h0:i<s.size
 · obtain⟨x,hx,ex⟩:=drop_cons s i h0
   by_cases h1:i+1<s.size
   · obtain⟨y,hy,ey⟩:=drop_cons s (i+1) h1
     rw[hx,hy]
     simp only[List.isPrefixOf,Bool.and_true,Bool.and_eq_true,beq_iff_eq]
     rw[←ex,←ey]
     constructor
     · rintro⟨rfl,rfl⟩;exact⟨h1,rfl,rfl⟩
     · rintro⟨_,e1,e2⟩;exact⟨(UInt8.toNat_inj.1 e1).symm,(UInt8.toNat_inj.1 e2).symm⟩
   · rw[hx,my s _ h1]
     simp[List.isPrefixOf]
     omega
 · rw[my s _ h0]
   simp[List.isPrefixOf]
   omega
theorem Bu(s:ByteArray)(i w:Nat)(h:i<s.size)(hd:Utf8.decode s i=(65533,w)):
 (w=1∧pre (s.extract i s.size) ⟨#[239,191,189]⟩=false)∨(w=3∧pre (s.extract i s.size) ⟨#[239,191,189]⟩=true):=by
 have b1:=pv s (i+1)
 have b2:=pv s (i+2)
 have hp:=TA s i 239 191 189
 have e1:(239:UInt8).toNat=239:=rfl
 have e2:(191:UInt8).toNat=191:=rfl
 have e3:(189:UInt8).toNat=189:=rfl
 rw[e1,e2,e3]at hp
 by_cases hb:i+2<s.size∧byte s i=239∧byte s (i+1)=191∧byte s (i+2)=189
 · right
   refine⟨?_,hp.2 hb⟩
   rw[jq]at hd
   obtain⟨h1,h2,h3,h4⟩:=hb
   rw[h2,h3,h4]at hd
   have:Lib.decodeN (s.size-i) 239 191 189 (byte s (i+3))=(65533,3):=by
    unfold Lib.decodeN
    rw[if_neg (by omega),if_neg (by omega),if_pos (by omega)]
    rfl
   rw[this]at hd
   simp at hd
   exact hd.symm
 · left
   have hpf:pre (s.extract i s.size) ⟨#[239,191,189]⟩=false:=by
    rw[Bool.eq_false_iff]
    exact fun h=>hb (hp.1 h)
   refine⟨?_,hpf⟩
   rw[jq]at hd
   unfold Lib.decodeN at hd
   split at hd
   · simp at hd;omega
   · split at hd
     · split at hd
       · simp at hd;omega
       · simp at hd;omega
     · split at hd
       · split at hd
         · simp at hd;omega
         · simp at hd;omega
       · split at hd
         · split at hd
           · simp at hd;omega
           · simp at hd;omega
         · simp at hd;omega
theorem sS(s:ByteArray)(i:Nat)(h:i<s.size):small (s.extract i s.size) (Utf8.decode s i).1=(decide (0<(pt s i).2)&&mR (pt s i).1):=by
 rw[o5 s i h]
 rcases hd:Utf8.decode s i with⟨r,w⟩
 by_cases hr:r=65533
 · subst hr
   rcases Bu s i w h hd with⟨rfl,hp⟩ | ⟨rfl,hp⟩
   · simp[small,hp,mR]
   · simp[small,hp,mR]
 · have hw:1≤w:=by have:=iG s i h;rw[hd]at this;exact this
   rw[if_neg (by simp[hr])]
   have:(r:Int)≠65533:=by omega
   simp only[small,if_neg this,mR]
   have:decide (0<w)=true:=by simp;omega
   rw[this,Bool.true_and]
theorem Da(s:ByteArray)(i:Nat)(h:i<s.size)(lo hi:Nat)(h0:0<lo)(h2:hi<65533):(decide ((lo:Int)≤(Utf8.decode s i).1)&&decide (((Utf8.decode s i).1:Int)≤hi))=(decide (0<(pt s i).2)&&(decide (lo≤(pt s i).1)&&decide ((pt s i).1≤hi))):=by
 rw[o5 s i h]
 rcases hd:Utf8.decode s i with⟨r,w⟩
 have hw:1≤w:=by have:=iG s i h;rw[hd]at this;exact this
 by_cases hr:(r,w)=(65533,1)
 · rw[if_pos hr]
   simp at hr
   rw[Bool.eq_iff_iff]
   simp
   omega
 · rw[if_neg hr]
   rw[Bool.eq_iff_iff]
   simp
   omega
end Ax
/- The reference's tokens are the program's: words, tokens, lists. No program here. -/
namespace Ax
theorem mK(s:ByteArray)(pos:Nat)(h:pos<s.size):pos+(Utf8.decode s pos).2≤s.size:=by
 have:=St s pos h
 rw[o5 s pos h]at this
 split at this
 · rename_i e;rw[e];omega
 · exact this
theorem Pj(s:ByteArray)(i:Nat)(h:i<s.size):digit (Utf8.decode s i).1=(decide (0<(pt s i).2)&&(decide (48≤(pt s i).1)&&decide ((pt s i).1≤57))):=Da s i h 48 57 (by decide) (by decide)
theorem GM(s:ByteArray)(i:Nat)(h:i<s.size):eT (Utf8.decode s i).1=(decide (0<(pt s i).2)&&(decide (65≤(pt s i).1)&&decide ((pt s i).1≤90))):=Da s i h 65 90 (by decide) (by decide)
theorem Pg(s:ByteArray)(i:Nat)(h:i<s.size):qo s i 0=(small (s.extract i s.size) (Utf8.decode s i).1||eT (Utf8.decode s i).1):=by
 rw[sS s i h,GM s i h]
 unfold qo
 cases decide (0<(pt s i).2)<;>cases mR (pt s i).1<;>simp
theorem OB(s:ByteArray)(i n:Nat)(h:i<s.size)(hn:0<n):qo s i n=(small (s.extract i s.size) (Utf8.decode s i).1||digit (Utf8.decode s i).1):=by
 rw[sS s i h,Pj s i h]
 unfold qo
 have:decide (n=0)=false:=by simp;omega
 have h2:decide (0<n)=true:=by simp;omega
 rw[this,h2]
 cases decide (0<(pt s i).2)<;>cases mR (pt s i).1<;>simp
theorem Au(s:ByteArray)(i n:Nat)(h:i<s.size)(hk:qo s i n=true):(pt s i).2=(Utf8.decode s i).2:=by
 have:=Iv hk
 rw[o5 s i h]at this ⊢
 split at this
 · simp at this
 · rename_i cA;rw[if_neg cA]
theorem AM(s:ByteArray)(p:Nat)(hp:p≤s.size):∀f q n f',0<q→0<n→p+q≤s.size→s.size≤p+q+f→s.size≤p+q+f'→
 cn s f' (p+q) n=(p+(aS (s.extract p s.size) f q n).1,(aS (s.extract p s.size) f q n).2)
 | 0,q,n,f',hq,hn,hl,hf,_=>by
  have:p+q=s.size:=by omega
  rw[mE (by omega)]
  simp only[aS,du]
  congr 1
  omega
 | f+1,q,n,f',hq,hn,hl,hf,PB=>by
  by_cases aE:p+q<s.size
  · have Im:q<(s.extract p s.size).size:=by rw[du];omega
    have hs:stops (s.extract p s.size) q= !qo s (p+q) n:=by
     rw[OB s (p+q) n aE hn]
     unfold stops tail
     rw[jw,BL]
     have:decide (0<q)=true:=by simp;omega
     rw[this]
     cases small (s.extract (p+q) s.size) (Utf8.decode s (p+q)).1<;>cases digit (Utf8.decode s (p+q)).1<;>rfl
    unfold aS
    rw[if_pos Im,hs]
    cases hk:qo s (p+q) n
    · rw[iE hk]
      simp
    · obtain⟨g,rfl⟩:∃g,f'=g+1:=⟨f'-1,by omega⟩
      rw[lZ aE hk,Au s (p+q) n aE hk,jw]
      have hw:=iG s (p+q) aE
      have L2:=mK s (p+q) aE
      simp only[Bool.not_true,Bool.false_eq_true,if_false]
      rw[Nat.add_assoc p q]
      exact AM s p hp f (q+(Utf8.decode s (p+q)).2) (n+1) g (by omega) (by omega) (by omega) (by omega) (by omega)
  · have Im:¬q<(s.extract p s.size).size:=by rw[du];omega
    rw[mE aE]
    unfold aS
    rw[if_neg Im]
    have:p+q=s.size:=by omega
    simp only[du]
    congr 1
    omega
theorem O7(s:ByteArray)(f p n:Nat)(h:p<s.size)(hs:stops s p=false):aS s (f+1) p n=aS s f (p+(Utf8.decode s p).2) (n+1):=by simp[aS,h,hs]
theorem IM(s:ByteArray)(p:Nat)(hp:p<s.size)(hk:qo s p 0=true):
 cn s s.size p 0=(p+(aS (s.extract p s.size) (s.extract p s.size).size 0 0).1,(aS (s.extract p s.size) (s.extract p s.size).size 0 0).2):=by
 obtain⟨g,hg⟩:∃g,s.size=g+1:=⟨s.size-1,by omega⟩
 have cE:(s.extract p s.size).size=s.size-p:=du s p
 obtain⟨f,hf⟩:∃f,(s.extract p s.size).size=f+1:=⟨s.size-p-1,by omega⟩
 have e1:cn s s.size p 0=cn s g (p+(Utf8.decode s p).2) 1:=by
  conv=>lhs;rw[hg]
  rw[lZ hp hk,Au s p 0 hp hk]
 have e2:aS (s.extract p s.size) (s.extract p s.size).size 0 0=aS (s.extract p s.size) f ((Utf8.decode s p).2) 1:=by
  have eu:stops (s.extract p s.size) 0=false:=by simp[stops]
  have:=O7 (s.extract p s.size) f 0 0 (by omega) eu
  rw[jw]at this
  rw[hf,this]
  simp
 rw[e1,e2]
 have hw:=iG s p hp
 have L2:=mK s p hp
 exact AM s p (by omega) f _ 1 g (by omega) (by omega) L2 (by omega) (by omega)
theorem eQ(s:ByteArray)(p:Nat)(hp:p<s.size)(c:Nat)(hc:c<128):(Utf8.decode s p).1=c↔byte s p=c:=by
 by_cases ha:(s[p]'hp).toNat<128
 · rw[decode_ascii s p hp ha,gZ s p hp]
 · have h1:=(decode_high s p hp (by omega)).1
   rw[gZ s p hp]at ha
   constructor<;>intro h<;>omega
theorem j7(s:ByteArray)(p:Nat)(hp:p<s.size)(hc:byte s p<128):Utf8.decode s p=(byte s p,1):=by
 rw[←gZ s p hp]at hc ⊢
 exact decode_ascii s p hp hc
theorem Cm(s:ByteArray)(p:Nat)(hp:p<s.size):eT (Utf8.decode s p).1=decide (65≤byte s p∧byte s p≤90):=by
 by_cases ha:byte s p<128
 · rw[j7 s p hp ha]
   unfold eT
   rw[Bool.eq_iff_iff]
   simp
   omega
 · have h1:=(decode_high s p hp (by rw[gZ s p hp];omega)).1
   have:eT (Utf8.decode s p).1=false:=by
    unfold eT
    simp
    omega
   rw[this]
   symm
   simp
   omega
end Ax
/- The reference's tokens are the program's: lists. No program here. -/
namespace Ax
theorem mQ(s:ByteArray)(p:Nat):s.extract p (p+0)=⟨#[]⟩:=by
 apply yz
 rw[eL]
 simp
theorem iR(s:ByteArray)(p:Nat)(hk:qo s p 0=false):cn s s.size p 0=(p,0):=iE hk
theorem CN(s:ByteArray)(p:Nat)(hp:p<s.size)(hk:qo s p 0=true):0<(cn s s.size p 0).2:=by
 obtain⟨g,hg⟩:∃g,s.size=g+1:=⟨s.size-1,by omega⟩
 have h1:cn s s.size p 0=cn s g (p+(pt s p).2) 1:=by
  conv=>lhs;rw[hg]
  exact lZ hp hk
 rw[h1]
 have:∀f i n,n≤(cn s f i n).2:=by
  intro f
  induction f with
  | zero=>intro i n;exact Nat.le_refl _
  | succ f ih=>
   intro i n
   unfold cn
   split
   · split
     · have:=ih (i+(pt s i).2) (n+1);omega
     · exact Nat.le_refl _
   · exact Nat.le_refl _
 exact this _ _ _
theorem Tw(s:ByteArray)(p:Nat)(hp:p<s.size):
 dK s p=conv ⟨(aK (s.extract p s.size) (Utf8.decode s p).1).1,p,s.extract p (p+(aK (s.extract p s.size) (Utf8.decode s p).1).2)⟩:=by
 have cA:¬p=s.size:=by omega
 have d40:=eQ s p hp 40 (by decide)
 have d41:=eQ s p hp 41 (by decide)
 have d44:=eQ s p hp 44 (by decide)
 have d46:=eQ s p hp 46 (by decide)
 have Cn:=OU s p 58 45
 rw[show(58:UInt8).toNat=58 from rfl,show(45:UInt8).toNat=45 from rfl]at Cn
 have Fl:=Pg s p hp
 have mH:=Cm s p hp
 have O1:∀c:Nat,c<65→byte s p=c→qo s p 0=false:=by
  intro c hc hb
  rw[Fl,mH,sS s p hp]
  have hpt:pt s p=(c,1):=by simp[pt,hb];omega
  rw[hpt,hb]
  simp[mR]
  omega
 unfold aK
 by_cases WK:((Utf8.decode s p).1:Int)=40
 · have hb:byte s p=40:=d40.1 (by omega)
   rw[if_pos WK]
   unfold dK
   rw[iR s p (O1 40 (by decide) hb),hb]
   simp[cA,conv,kc]
 by_cases XO:((Utf8.decode s p).1:Int)=41
 · have hb:byte s p=41:=d41.1 (by omega)
   rw[if_neg WK,if_pos XO]
   unfold dK
   rw[iR s p (O1 41 (by decide) hb),hb]
   simp[cA,conv,kc]
 by_cases Z8:((Utf8.decode s p).1:Int)=44
 · have hb:byte s p=44:=d44.1 (by omega)
   rw[if_neg WK,if_neg XO,if_pos Z8]
   unfold dK
   rw[iR s p (O1 44 (by decide) hb),hb]
   simp[cA,conv,kc]
 by_cases h46:((Utf8.decode s p).1:Int)=46
 · have hb:byte s p=46:=d46.1 (by omega)
   rw[if_neg WK,if_neg XO,if_neg Z8,if_pos h46]
   unfold dK
   rw[iR s p (O1 46 (by decide) hb),hb]
   simp[cA,conv,kc]
 rw[if_neg WK,if_neg XO,if_neg Z8,if_neg h46]
 have b4:¬(byte s p=40∨byte s p=41∨byte s p=44∨byte s p=46):=by
  rintro(e | e | e | e)
  · exact WK (by have:=d40.2 e;omega)
  · exact XO (by have:=d41.2 e;omega)
  · exact Z8 (by have:=d44.2 e;omega)
  · exact h46 (by have:=d46.2 e;omega)
 by_cases hc:pre (s.extract p s.size) ⟨#[58,45]⟩=true
 · obtain⟨hs,bL,a8⟩:=Cn.1 hc
   rw[if_pos hc]
   unfold dK
   rw[iR s p (O1 58 (by decide) bL),if_neg cA]
   simp only[bL,a8,hs]
   simp only[conv,kc]
   have:s.extract p (p+2)=⟨#[58,45]⟩:=by
    apply yz
    rw[eL]
    obtain⟨x,hx,ex⟩:=drop_cons s p hp
    obtain⟨y,hy,ey⟩:=drop_cons s (p+1) hs
    rw[hx,hy]
    have abZ:x=58:=UInt8.toNat_inj.1 (by rw[ex,bL];rfl)
    have acm:y=45:=UInt8.toNat_inj.1 (by rw[ey,a8];rfl)
    rw[abZ,acm]
    simp
   rw[this]
   simp
 rw[if_neg hc]
 have UG:¬(byte s p=58∧p+1<s.size∧byte s (p+1)=45):=fun ⟨a,b,c⟩=>hc (Cn.2 ⟨b,a,c⟩)
 by_cases zu:small (s.extract p s.size) (Utf8.decode s p).1=true
 · have hk:qo s p 0=true:=by rw[Fl,zu];rfl
   have LJ:¬(65≤byte s p∧byte s p≤90):=by
    intro h
    have:eT (Utf8.decode s p).1=true:=by rw[mH];simp;exact h
    unfold eT at this
    simp at this
    unfold small at zu
    split at zu
    · omega
    · simp at zu;omega
   have Un:=CN s p hp hk
   rw[if_pos zu]
   unfold dK word
   rw[IM s p hp hk]at Un ⊢
   generalize aS (s.extract p s.size) (s.extract p s.size).size 0 0=x at*
   simp only at Un
   simp only[if_neg cA]
   by_cases h6:6<x.2
   · simp only[if_pos h6,mQ];rfl
   · have:¬(0<x.2∧65≤byte s p∧byte s p≤90):=fun h=>LJ h.2
     simp only[if_neg h6,if_neg this,if_pos Un];rfl
 rw[if_neg zu]
 by_cases sO:eT (Utf8.decode s p).1=true
 · have hk:qo s p 0=true:=by rw[Fl,sO];simp
   have LN:65≤byte s p∧byte s p≤90:=by rw[mH]at sO;simpa using sO
   have Un:=CN s p hp hk
   rw[if_pos sO]
   unfold dK word
   rw[IM s p hp hk]at Un ⊢
   generalize aS (s.extract p s.size) (s.extract p s.size).size 0 0=x at*
   simp only at Un
   simp only[if_neg cA]
   by_cases h6:6<x.2
   · simp only[if_pos h6,mQ];rfl
   · simp only[if_neg h6,if_pos (And.intro Un LN)];rfl
 · have hk:qo s p 0=false:=by
    rw[Fl]
    simp at zu sO
    rw[zu,sO]
    rfl
   rw[if_neg sO]
   unfold dK
   rw[iR s p hk]
   simp only[if_neg cA,if_neg b4,if_neg UG,mQ]
   simp[conv,kc]
end Ax
end Go.Proofs.YtdmicblafmhflaaGreatDoor
