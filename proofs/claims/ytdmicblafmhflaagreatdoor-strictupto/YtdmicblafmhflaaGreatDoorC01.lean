/- The reference's tokens as a list. No program here. -/
import Derived.Test.YtdmicblafmhflaaGreatDoorC00
import Derived.Lib.Strings
set_option linter.unusedSimpArgs false
set_option linter.unusedVariables false
set_option maxHeartbeats 2000000
namespace Go.Proofs.YtdmicblafmhflaaGreatDoor
namespace Ax
def fR(s:ByteArray):Nat→Nat→List sH→List sH
 | 0,_,acc=>acc
 | f+1,a,acc=>if (fy s a).kind=101∨(fy s a).kind=120 then acc++[fy s a]else fR s f ((fy s a).at_+(fy s a).text.size) (acc++[fy s a])
def Fw(s:ByteArray):List sH:=fR s (s.size+1) 0 []
theorem ph{s:ByteArray}{f a:Nat}{acc:List sH}{t:sH}(h:fy s a=t)(hk:t.kind=101∨t.kind=120):fR s (f+1) a acc=acc++[t]:=by simp[fR,h,hk]
theorem xN{s:ByteArray}{f a:Nat}{acc:List sH}{t:sH}(h:fy s a=t)(hk:¬(t.kind=101∨t.kind=120)):fR s (f+1) a acc=fR s f (t.at_+t.text.size) (acc++[t]):=by simp[fR,h,hk]
theorem Dt(s:ByteArray):∀f a,a≤gg s f a
 | 0,a=>Nat.le_refl _
 | f+1,a=>by
  unfold gg
  split
  · have:=Dt s f (a+1);omega
  · exact Nat.le_refl _
theorem EP(s:ByteArray):∀f a,a≤s.size→gg s f a≤s.size
 | 0,a,h=>h
 | f+1,a,h=>by
  unfold gg
  split
  · rename_i h2;exact EP s f (a+1) (by omega)
  · exact h
theorem Cu(s:ByteArray):∀f i n,(bY s f i n).2+i≤(bY s f i n).1+n
 | 0,i,n=>by simp[bY];omega
 | f+1,i,n=>by
  unfold bY
  split
  · split
    · rename_i hk
      have:=Cu s f (i+(pt s i).2) (n+1)
      have:=IP hk
      omega
    · simp;omega
  · simp;omega
theorem Ge(s:ByteArray)(a:Nat)(h:a≤s.size):a≤(fy s a).at_∧(fy s a).at_≤s.size∧(¬((fy s a).kind=101∨(fy s a).kind=120)→1≤(fy s a).text.size∧(fy s a).at_+(fy s a).text.size≤s.size)∧(fy s a).text.size≤s.size+2∧(fy s a).kind<256:=by
 have h1:=Dt s s.size a
 have h2:=EP s s.size a h
 unfold fy
 generalize gg s s.size a=b at*
 have h3:=sa s s.size b 0
 have h4:=xR s s.size b 0 h2
 have h5:=Cu s s.size b 0
 have h6:=nf s b
 have h0:(⟨#[]⟩:ByteArray).size=0:=rfl
 unfold cW
 generalize bY s s.size b 0=x at*
 simp only
 by_cases c1:b=s.size
 · simp[c1,h0];omega
 by_cases c2:6<x.2
 · simp[c1,c2,h0];omega
 by_cases c3:0<x.2∧65≤byte s b∧byte s b≤90
 · simp only[if_neg c1,if_neg c2,if_pos c3,ByteArray.size_extract]
   refine⟨h1,h2,fun _=> ?_, ?_,by omega⟩<;>omega
 by_cases c4:0<x.2
 · simp only[if_neg c1,if_neg c2,if_neg c3,if_pos c4,ByteArray.size_extract]
   refine⟨h1,h2,fun _=> ?_, ?_,by omega⟩<;>omega
 by_cases c5:byte s b=40∨byte s b=41∨byte s b=44∨byte s b=46
 · simp only[if_neg c1,if_neg c2,if_neg c3,if_neg c4,if_pos c5,ByteArray.size_extract]
   refine⟨h1,h2,fun _=> ?_, ?_,by omega⟩<;>omega
 by_cases c6:byte s b=58∧b+1<s.size∧byte s (b+1)=45
 · simp only[if_neg c1,if_neg c2,if_neg c3,if_neg c4,if_neg c5,if_pos c6]
   have:(⟨#[58,45]⟩:ByteArray).size=2:=rfl
   refine⟨h1,h2,fun _=> ?_, ?_,by omega⟩<;>omega
 · simp only[if_neg c1,if_neg c2,if_neg c3,if_neg c4,if_neg c5,if_neg c6]
   have:(⟨#[]⟩:ByteArray).size=0:=rfl
   refine⟨h1,h2,fun h=>by simp at h, ?_,by omega⟩
   omega
end Ax
/- Tokens of the program as tokens of the reference. No program here. -/
namespace Ax
def kc(k:Int):Nat:=if k=0 then 120 else if k=1 then 101 else if k=2 then 110 else if k=3 then 118 else if k=4 then 40 else if k=5 then 41 else if k=6 then 44 else if k=7 then 46 else 58
def conv(t:Tok):sH:=⟨kc t.kind,t.text,t.at_⟩
def Bs(T:List Tok):Prop:=∀t,t∈T→0≤t.kind∧t.kind≤8
theorem UI:∀k j:Fin 9,kc (k.val:Int)=kc (j.val:Int)→k=j:=by decide
theorem Yf(k:Int)(h0:0≤k)(h8:k≤8)(j:Int)(XM:0≤j)(hj8:j≤8):(((kc k:Nat):Int) != ((kc j:Nat):Int))=decide (k≠j):=by
 rw[Bool.eq_iff_iff]
 simp only[bne_iff_ne,ne_eq,decide_eq_true_eq,Int.natCast_inj]
 obtain⟨k,rfl⟩:=Int.eq_ofNat_of_zero_le h0
 obtain⟨j,rfl⟩:=Int.eq_ofNat_of_zero_le XM
 have:=UI ⟨k,by omega⟩ ⟨j,by omega⟩
 simp only[Fin.mk.injEq]at this
 constructor
 · intro h e;exact h (by rw[e])
 · intro h e;exact h (by rw[this e])
theorem Oa(k:Int)(h0:0≤k)(h8:k≤8)(j:Int)(XM:0≤j)(hj8:j≤8):(((kc k:Nat):Int)==((kc j:Nat):Int))=decide (k=j):=by
 have:=Yf k h0 h8 j XM hj8
 rw[Bool.eq_iff_iff]at this ⊢
 simp only[bne_iff_ne,ne_eq,decide_eq_true_eq,beq_iff_eq]at this ⊢
 omega
end Ax
/- The reference reads code points as Go does. No program here. -/
namespace Ax
theorem gL(s:ByteArray)(i:Nat):Utf8.decode s i=Lib.decodeN (s.size-i) (byte s i) (byte s (i+1)) (byte s (i+2)) (byte s (i+3)):=Lib.decode_at s i
theorem s4(n lo c:Nat):oL n lo (some c)=if c<lo∨1114111<c∨(55296≤c∧c≤57343)then (0,0)else (c,n):=rfl
theorem Q8(n x0 x1 x2 x3:Nat)(b0:x0<256)(b1:x1<256)(b2:x2<256)(b3:x3<256):
 (if x0<128 then (x0,1)else if x0<192 then (0,0)
   else if x0<224 then oL 2 128 (if n≤1∨x1<128∨191<x1 then none else some ((x0-192)*64+x1-128))
   else if x0<240 then oL 3 2048 (if n≤1∨x1<128∨191<x1 then none else if n≤2∨x2<128∨191<x2 then none else some (((x0-224)*64+x1-128)*64+x2-128))
   else if x0<248 then oL 4 65536 (if n≤1∨x1<128∨191<x1 then none else if n≤2∨x2<128∨191<x2 then none else if n≤3∨x3<128∨191<x3 then none else some ((((x0-240)*64+x1-128)*64+x2-128)*64+x3-128))
   else (0,0))=if Lib.decodeN n x0 x1 x2 x3=(65533,1)then (0,0)else Lib.decodeN n x0 x1 x2 x3:=by
 have k1:(1<n∧x1/64=2)↔¬(n≤1∨x1<128∨191<x1):=by omega
 have k2:(2<n∧x2/64=2)↔¬(n≤2∨x2<128∨191<x2):=by omega
 have k3:(3<n∧x3/64=2)↔¬(n≤3∨x3<128∨191<x3):=by omega
 by_cases h1:x0<128
 · have hd:Lib.decodeN n x0 x1 x2 x3=(x0,1):=by simp[Lib.decodeN,h1]
   rw[hd,if_pos h1,if_neg (by simp;omega)]
 rw[if_neg h1]
 by_cases h2:x0<192
 · have hd:Lib.decodeN n x0 x1 x2 x3=(65533,1):=by
    unfold Lib.decodeN
    rw[if_neg h1,if_neg (by omega),if_neg (by omega),if_neg (by omega)]
   rw[hd,if_pos h2,if_pos rfl]
 rw[if_neg h2]
 by_cases h3:x0<224
 · rw[if_pos h3]
   by_cases c1:n≤1∨x1<128∨191<x1
   · have hd:Lib.decodeN n x0 x1 x2 x3=(65533,1):=by
      unfold Lib.decodeN
      rw[if_neg h1,if_neg (by omega),if_neg (by omega),if_neg (by omega)]
     rw[hd,if_pos c1,if_pos rfl];rfl
   · rw[if_neg c1,s4]
     have hc:x0%32*64+x1%64=(x0-192)*64+x1-128:=by omega
     have hd:Lib.decodeN n x0 x1 x2 x3=if (x0-192)*64+x1-128≥128 then ((x0-192)*64+x1-128,2)else (65533,1):=by
      unfold Lib.decodeN
      rw[if_neg h1,if_pos (by omega),hc]
     rw[hd]
     by_cases c:(x0-192)*64+x1-128≥128
     · rw[if_pos c,if_neg (by omega),if_neg (by simp)]
     · rw[if_neg c,if_pos (by omega),if_pos rfl]
 rw[if_neg h3]
 by_cases h4:x0<240
 · rw[if_pos h4]
   by_cases c1:n≤1∨x1<128∨191<x1
   · have hd:Lib.decodeN n x0 x1 x2 x3=(65533,1):=by
      unfold Lib.decodeN
      rw[if_neg h1,if_neg (by omega),if_neg (by omega),if_neg (by omega)]
     rw[hd,if_pos c1,if_pos rfl];rfl
   rw[if_neg c1]
   by_cases c2:n≤2∨x2<128∨191<x2
   · have hd:Lib.decodeN n x0 x1 x2 x3=(65533,1):=by
      unfold Lib.decodeN
      rw[if_neg h1,if_neg (by omega),if_neg (by omega),if_neg (by omega)]
     rw[hd,if_pos c2,if_pos rfl];rfl
   rw[if_neg c2,s4]
   have hc:x0%16*4096+x1%64*64+x2%64=((x0-224)*64+x1-128)*64+x2-128:=by omega
   generalize hC:((x0-224)*64+x1-128)*64+x2-128=C at*
   have hd:Lib.decodeN n x0 x1 x2 x3=if C≥2048∧(C<55296∨(57344≤C∧C≤1114111))then (C,3)else (65533,1):=by
    unfold Lib.decodeN
    rw[if_neg h1,if_neg (by omega),if_pos (by omega),hc]
   rw[hd]
   by_cases c:C≥2048∧(C<55296∨(57344≤C∧C≤1114111))
   · rw[if_pos c,if_neg (by omega),if_neg (by simp)]
   · rw[if_neg c,if_pos (by omega),if_pos rfl]
 rw[if_neg h4]
 by_cases h5:x0<248
 · rw[if_pos h5]
   by_cases c1:n≤1∨x1<128∨191<x1
   · have hd:Lib.decodeN n x0 x1 x2 x3=(65533,1):=by
      unfold Lib.decodeN
      rw[if_neg h1,if_neg (by omega),if_neg (by omega),if_neg (by omega)]
     rw[hd,if_pos c1,if_pos rfl];rfl
   rw[if_neg c1]
   by_cases c2:n≤2∨x2<128∨191<x2
   · have hd:Lib.decodeN n x0 x1 x2 x3=(65533,1):=by
      unfold Lib.decodeN
      rw[if_neg h1,if_neg (by omega),if_neg (by omega),if_neg (by omega)]
     rw[hd,if_pos c2,if_pos rfl];rfl
   rw[if_neg c2]
   by_cases c3:n≤3∨x3<128∨191<x3
   · have hd:Lib.decodeN n x0 x1 x2 x3=(65533,1):=by
      unfold Lib.decodeN
      rw[if_neg h1,if_neg (by omega),if_neg (by omega),if_neg (by omega)]
     rw[hd,if_pos c3,if_pos rfl];rfl
   rw[if_neg c3,s4]
   have hc:x0%8*262144+x1%64*4096+x2%64*64+x3%64=(((x0-240)*64+x1-128)*64+x2-128)*64+x3-128:=by omega
   generalize hC:(((x0-240)*64+x1-128)*64+x2-128)*64+x3-128=C at*
   have hd:Lib.decodeN n x0 x1 x2 x3=if C≥65536∧(C<55296∨(57344≤C∧C≤1114111))then (C,4)else (65533,1):=by
    unfold Lib.decodeN
    rw[if_neg h1,if_neg (by omega),if_neg (by omega),if_pos (by omega),hc]
   rw[hd]
   by_cases c:C≥65536∧(C<55296∨(57344≤C∧C≤1114111))
   · rw[if_pos c,if_neg (by omega),if_neg (by simp)]
   · rw[if_neg c,if_pos (by omega),if_pos rfl]
 rw[if_neg h5]
 have hd:Lib.decodeN n x0 x1 x2 x3=(65533,1):=by
  unfold Lib.decodeN
  rw[if_neg h1,if_neg (by omega),if_neg (by omega),if_neg (by omega)]
 rw[hd,if_pos rfl]
theorem py(s:ByteArray)(i:Nat)(h:i<s.size):pt s i=if Utf8.decode s i=(65533,1)then (0,0)else Utf8.decode s i:=by
 rw[gL]
 have b0:=nf s i
 have b1:=nf s (i+1)
 have b2:=nf s (i+2)
 have b3:=nf s (i+3)
 have e1:(s.size≤i+1)=(s.size-i≤1):=by apply propext;omega
 have e2:(s.size≤i+2)=(s.size-i≤2):=by apply propext;omega
 have e3:(s.size≤i+3)=(s.size-i≤3):=by apply propext;omega
 unfold pt
 simp only[jI,e1,e2,e3,Nat.reduceAdd]
 generalize byte s i=x0 at*
 generalize byte s (i+1)=x1 at*
 generalize byte s (i+2)=x2 at*
 generalize byte s (i+3)=x3 at*
 have hn:0<s.size-i:=by omega
 generalize s.size-i=n at*
 clear e1 e2 e3 h
 exact Q8 n x0 x1 x2 x3 b0 b1 b2 b3
end Ax
/- The reference's tokens are the program's. No program here. -/
namespace Ax
theorem tX(s:ByteArray)(i:Nat):(s.data.toList.getD i 0).toNat=byte s i:=by
 unfold byte
 cases s with
 | mk d=>
  show(d.toList.getD i 0).toNat=(d[i]!).toNat
  by_cases h:i<d.size
  · rw[getElem!_pos d i h];simp[List.getD,h]
  · rw[getElem!_neg d i h];simp[List.getD,h];rfl
theorem eW(s:ByteArray)(p q:Nat):(s.extract p q).data.toList=(s.data.toList.drop p).take (q-p):=by
 exact Lib.extract_data s p q
theorem wE{a b:ByteArray}(h:a.data.toList=b.data.toList):a=b:=by
 rcases a with⟨⟨a⟩⟩
 rcases b with⟨⟨b⟩⟩
 simp at h
 rw[h]
theorem pK(s:ByteArray)(p q:Nat):byte (s.extract p s.size) q=byte s (p+q):=by
 rw[←tX,←tX,eW]
 have:(s.data.toList.drop p).take (s.size-p)=s.data.toList.drop p:=by
  apply List.take_of_length_le
  simp
 rw[this]
 simp[List.getD,List.getElem?_drop]
theorem dw(s:ByteArray)(p:Nat):(s.extract p s.size).size=s.size-p:=by simp
theorem jJ(s:ByteArray)(p q:Nat):Utf8.decode (s.extract p s.size) q=Utf8.decode s (p+q):=by
 rw[gL,gL,dw,pK,pK,pK,pK,Nat.sub_sub]
 congr 1
theorem Cb(s:ByteArray)(p q:Nat):(s.extract p s.size).extract q (s.extract p s.size).size=s.extract (p+q) s.size:=by
 apply wE
 rw[eW,eW,eW,dw,List.drop_take,List.drop_drop,List.take_take]
 congr 1
 omega
end Ax
/- The reference's words are the program's. No program here. -/
namespace Ax
theorem gE(s:ByteArray)(pos:Nat)(h:pos<s.size):1≤(Utf8.decode s pos).2:=by
 by_cases ha:(s[pos]'h).toNat<128
 · rw[decode_ascii s pos h ha]
   exact Nat.le_refl _
 · exact(decode_high s pos h (by omega)).2
theorem drop_cons(s:ByteArray)(i:Nat)(h:i<s.size):∃a:UInt8,s.data.toList.drop i=a::s.data.toList.drop (i+1)∧a.toNat=byte s i:=by
 have hl:i<s.data.toList.length:=by simpa using h
 refine⟨s.data.toList[i],List.drop_eq_getElem_cons hl, ?_⟩
 rw[←tX,List.getD_eq_getElem?_getD,List.getElem?_eq_getElem hl]
 rfl
theorem mc(s:ByteArray)(i:Nat)(h:¬i<s.size):s.data.toList.drop i=[]:=List.drop_eq_nil_of_le (by simpa using h)
theorem AV(s:ByteArray)(i:Nat):(s.extract i s.size).data.toList=s.data.toList.drop i:=by
 rw[eW]
 apply List.take_of_length_le
 simp
theorem VC(s:ByteArray)(i:Nat)(a b c:UInt8):pre (s.extract i s.size) ⟨#[a,b,c]⟩=true↔(i+2<s.size∧byte s i=a.toNat∧byte s (i+1)=b.toNat∧byte s (i+2)=c.toNat):=by
 unfold pre
 rw[AV]
 show List.isPrefixOf [a,b,c] _=true↔_
 by_cases h0:i<s.size
 · obtain⟨x,hx,ex⟩:=drop_cons s i h0
   by_cases h1:i+1<s.size
   · obtain⟨y,hy,ey⟩:=drop_cons s (i+1) h1
     by_cases h2:i+1+1<s.size
     · obtain⟨z,hz,ez⟩:=drop_cons s (i+1+1) h2
       rw[hx,hy,hz]
       simp only[List.isPrefixOf,Bool.and_true,Bool.and_eq_true,beq_iff_eq]
       rw[←ex,←ey,←ez]
       constructor
       · rintro⟨rfl,rfl,rfl⟩;exact⟨h2,rfl,rfl,rfl⟩
       · rintro⟨_,e1,e2,e3⟩;exact⟨(UInt8.toNat_inj.1 e1).symm,(UInt8.toNat_inj.1 e2).symm,(UInt8.toNat_inj.1 e3).symm⟩
     · rw[hx,hy,mc s _ h2]
       simp[List.isPrefixOf]
       omega
   · rw[hx,mc s _ h1]
     simp[List.isPrefixOf]
     omega
 · rw[mc s _ h0]
   simp[List.isPrefixOf]
   omega
theorem MG(s:ByteArray)(i:Nat)(a b:UInt8):pre (s.extract i s.size) ⟨#[a,b]⟩=true↔(i+1<s.size∧byte s i=a.toNat∧byte s (i+1)=b.toNat):=by
 unfold pre
 rw[AV]
 show List.isPrefixOf [a,b] _=true↔_
 by_cases h0:i<s.size
 · obtain⟨x,hx,ex⟩:=drop_cons s i h0
   by_cases h1:i+1<s.size
   · obtain⟨y,hy,ey⟩:=drop_cons s (i+1) h1
     rw[hx,hy]
     simp only[List.isPrefixOf,Bool.and_true,Bool.and_eq_true,beq_iff_eq]
     rw[←ex,←ey]
     constructor
     · rintro⟨rfl,rfl⟩;exact⟨h1,rfl,rfl⟩
     · rintro⟨_,e1,e2⟩;exact⟨(UInt8.toNat_inj.1 e1).symm,(UInt8.toNat_inj.1 e2).symm⟩
   · rw[hx,mc s _ h1]
     simp[List.isPrefixOf]
     omega
 · rw[mc s _ h0]
   simp[List.isPrefixOf]
   omega
theorem BH(s:ByteArray)(i w:Nat)(h:i<s.size)(hd:Utf8.decode s i=(65533,w)):
 (w=1∧pre (s.extract i s.size) ⟨#[239,191,189]⟩=false)∨(w=3∧pre (s.extract i s.size) ⟨#[239,191,189]⟩=true):=by
 have b1:=nf s (i+1)
 have b2:=nf s (i+2)
 have hp:=VC s i 239 191 189
 have e1:(239:UInt8).toNat=239:=rfl
 have e2:(191:UInt8).toNat=191:=rfl
 have e3:(189:UInt8).toNat=189:=rfl
 rw[e1,e2,e3]at hp
 by_cases hb:i+2<s.size∧byte s i=239∧byte s (i+1)=191∧byte s (i+2)=189
 · right
   refine⟨?_,hp.2 hb⟩
   rw[gL]at hd
   obtain⟨h1,h2,h3,h4⟩:=hb
   rw[h2,h3,h4]at hd
   have:Lib.decodeN (s.size-i) 239 191 189 (byte s (i+3))=(65533,3):=by
    unfold Lib.decodeN
    rw[if_neg (by omega),if_neg (by omega),if_pos (by omega)]
    rfl
   rw[this]at hd
   simp at hd
   exact hd.symm
 · left
   have hpf:pre (s.extract i s.size) ⟨#[239,191,189]⟩=false:=by
    rw[Bool.eq_false_iff]
    exact fun h=>hb (hp.1 h)
   refine⟨?_,hpf⟩
   rw[gL]at hd
   unfold Lib.decodeN at hd
   split at hd
   · simp at hd;omega
   · split at hd
     · split at hd
       · simp at hd;omega
       · simp at hd;omega
     · split at hd
       · split at hd
         · simp at hd;omega
         · simp at hd;omega
       · split at hd
         · split at hd
           · simp at hd;omega
           · simp at hd;omega
         · simp at hd;omega
theorem tj(s:ByteArray)(i:Nat)(h:i<s.size):small (s.extract i s.size) (Utf8.decode s i).1=(decide (0<(pt s i).2)&&nO (pt s i).1):=by
 rw[py s i h]
 rcases hd:Utf8.decode s i with⟨r,w⟩
 by_cases hr:r=65533
 · subst hr
   rcases BH s i w h hd with⟨rfl,hp⟩ | ⟨rfl,hp⟩
   · simp[small,hp,nO]
   · simp[small,hp,nO]
 · have hw:1≤w:=by have:=gE s i h;rw[hd]at this;exact this
   rw[if_neg (by simp[hr])]
   have:(r:Int)≠65533:=by omega
   simp only[small,if_neg this,nO]
   have:decide (0<w)=true:=by simp;omega
   rw[this,Bool.true_and]
theorem Dd(s:ByteArray)(i:Nat)(h:i<s.size)(lo hi:Nat)(h0:0<lo)(h2:hi<65533):(decide ((lo:Int)≤(Utf8.decode s i).1)&&decide (((Utf8.decode s i).1:Int)≤hi))=(decide (0<(pt s i).2)&&(decide (lo≤(pt s i).1)&&decide ((pt s i).1≤hi))):=by
 rw[py s i h]
 rcases hd:Utf8.decode s i with⟨r,w⟩
 have hw:1≤w:=by have:=gE s i h;rw[hd]at this;exact this
 by_cases hr:(r,w)=(65533,1)
 · rw[if_pos hr]
   simp at hr
   rw[Bool.eq_iff_iff]
   simp
   omega
 · rw[if_neg hr]
   rw[Bool.eq_iff_iff]
   simp
   omega
end Ax
/- The reference's tokens are the program's: words, tokens, lists. No program here. -/
namespace Ax
theorem kt(s:ByteArray)(pos:Nat)(h:pos<s.size):pos+(Utf8.decode s pos).2≤s.size:=by
 have:=SU s pos h
 rw[py s pos h]at this
 split at this
 · rename_i e;rw[e];omega
 · exact this
theorem O7(s:ByteArray)(i:Nat)(h:i<s.size):digit (Utf8.decode s i).1=(decide (0<(pt s i).2)&&(decide (48≤(pt s i).1)&&decide ((pt s i).1≤57))):=Dd s i h 48 57 (by decide) (by decide)
theorem Gc(s:ByteArray)(i:Nat)(h:i<s.size):eT (Utf8.decode s i).1=(decide (0<(pt s i).2)&&(decide (65≤(pt s i).1)&&decide ((pt s i).1≤90))):=Dd s i h 65 90 (by decide) (by decide)
theorem NU(s:ByteArray)(i:Nat)(h:i<s.size):qq s i 0=(small (s.extract i s.size) (Utf8.decode s i).1||eT (Utf8.decode s i).1):=by
 rw[tj s i h,Gc s i h]
 unfold qq
 cases decide (0<(pt s i).2)<;>cases nO (pt s i).1<;>simp
theorem N0(s:ByteArray)(i n:Nat)(h:i<s.size)(hn:0<n):qq s i n=(small (s.extract i s.size) (Utf8.decode s i).1||digit (Utf8.decode s i).1):=by
 rw[tj s i h,O7 s i h]
 unfold qq
 have:decide (n=0)=false:=by simp;omega
 have h2:decide (0<n)=true:=by simp;omega
 rw[this,h2]
 cases decide (0<(pt s i).2)<;>cases nO (pt s i).1<;>simp
theorem Bd(s:ByteArray)(i n:Nat)(h:i<s.size)(hk:qq s i n=true):(pt s i).2=(Utf8.decode s i).2:=by
 have:=IP hk
 rw[py s i h]at this ⊢
 split at this
 · simp at this
 · rename_i cL;rw[if_neg cL]
theorem Au(s:ByteArray)(p:Nat)(hp:p≤s.size):∀f q n f',0<q→0<n→p+q≤s.size→s.size≤p+q+f→s.size≤p+q+f'→
 bY s f' (p+q) n=(p+(aG (s.extract p s.size) f q n).1,(aG (s.extract p s.size) f q n).2)
 | 0,q,n,f',hq,hn,hl,hf,_=>by
  have:p+q=s.size:=by omega
  rw[mA (by omega)]
  simp only[aG,dw]
  congr 1
  omega
 | f+1,q,n,f',hq,hn,hl,hf,hf'=>by
  by_cases aC:p+q<s.size
  · have Im:q<(s.extract p s.size).size:=by rw[dw];omega
    have hs:stops (s.extract p s.size) q= !qq s (p+q) n:=by
     rw[N0 s (p+q) n aC hn]
     unfold stops tail
     rw[jJ,Cb]
     have:decide (0<q)=true:=by simp;omega
     rw[this]
     cases small (s.extract (p+q) s.size) (Utf8.decode s (p+q)).1<;>cases digit (Utf8.decode s (p+q)).1<;>rfl
    unfold aG
    rw[if_pos Im,hs]
    cases hk:qq s (p+q) n
    · rw[jc hk]
      simp
    · obtain⟨g,rfl⟩:∃g,f'=g+1:=⟨f'-1,by omega⟩
      rw[me aC hk,Bd s (p+q) n aC hk,jJ]
      have hw:=gE s (p+q) aC
      have OT:=kt s (p+q) aC
      simp only[Bool.not_true,Bool.false_eq_true,if_false]
      rw[Nat.add_assoc p q]
      exact Au s p hp f (q+(Utf8.decode s (p+q)).2) (n+1) g (by omega) (by omega) (by omega) (by omega) (by omega)
  · have Im:¬q<(s.extract p s.size).size:=by rw[dw];omega
    rw[mA aC]
    unfold aG
    rw[if_neg Im]
    have:p+q=s.size:=by omega
    simp only[dw]
    congr 1
    omega
theorem Ns(s:ByteArray)(f p n:Nat)(h:p<s.size)(hs:stops s p=false):aG s (f+1) p n=aG s f (p+(Utf8.decode s p).2) (n+1):=by simp[aG,h,hs]
theorem Il(s:ByteArray)(p:Nat)(hp:p<s.size)(hk:qq s p 0=true):
 bY s s.size p 0=(p+(aG (s.extract p s.size) (s.extract p s.size).size 0 0).1,(aG (s.extract p s.size) (s.extract p s.size).size 0 0).2):=by
 obtain⟨g,hg⟩:∃g,s.size=g+1:=⟨s.size-1,by omega⟩
 have cr:(s.extract p s.size).size=s.size-p:=dw s p
 obtain⟨f,hf⟩:∃f,(s.extract p s.size).size=f+1:=⟨s.size-p-1,by omega⟩
 have e1:bY s s.size p 0=bY s g (p+(Utf8.decode s p).2) 1:=by
  conv=>lhs;rw[hg]
  rw[me hp hk,Bd s p 0 hp hk]
 have e2:aG (s.extract p s.size) (s.extract p s.size).size 0 0=aG (s.extract p s.size) f ((Utf8.decode s p).2) 1:=by
  have eo:stops (s.extract p s.size) 0=false:=by simp[stops]
  have:=Ns (s.extract p s.size) f 0 0 (by omega) eo
  rw[jJ]at this
  rw[hf,this]
  simp
 rw[e1,e2]
 have hw:=gE s p hp
 have OT:=kt s p hp
 exact Au s p (by omega) f _ 1 g (by omega) (by omega) OT (by omega) (by omega)
theorem eU(s:ByteArray)(p:Nat)(hp:p<s.size)(c:Nat)(hc:c<128):(Utf8.decode s p).1=c↔byte s p=c:=by
 by_cases ha:(s[p]'hp).toNat<128
 · rw[decode_ascii s p hp ha,hO s p hp]
 · have h1:=(decode_high s p hp (by omega)).1
   rw[hO s p hp]at ha
   constructor<;>intro h<;>omega
theorem mq(s:ByteArray)(p:Nat)(hp:p<s.size)(hc:byte s p<128):Utf8.decode s p=(byte s p,1):=by
 rw[←hO s p hp]at hc ⊢
 exact decode_ascii s p hp hc
theorem BX(s:ByteArray)(p:Nat)(hp:p<s.size):eT (Utf8.decode s p).1=decide (65≤byte s p∧byte s p≤90):=by
 by_cases ha:byte s p<128
 · rw[mq s p hp ha]
   unfold eT
   rw[Bool.eq_iff_iff]
   simp
   omega
 · have h1:=(decode_high s p hp (by rw[hO s p hp];omega)).1
   have:eT (Utf8.decode s p).1=false:=by
    unfold eT
    simp
    omega
   rw[this]
   symm
   simp
   omega
end Ax
/- The reference's tokens are the program's: lists. No program here. -/
namespace Ax
theorem nj(s:ByteArray)(p:Nat):s.extract p (p+0)=⟨#[]⟩:=by
 apply wE
 rw[eW]
 simp
theorem iZ(s:ByteArray)(p:Nat)(hk:qq s p 0=false):bY s s.size p 0=(p,0):=jc hk
theorem E4(s:ByteArray)(p:Nat)(hp:p<s.size)(hk:qq s p 0=true):0<(bY s s.size p 0).2:=by
 obtain⟨g,hg⟩:∃g,s.size=g+1:=⟨s.size-1,by omega⟩
 have h1:bY s s.size p 0=bY s g (p+(pt s p).2) 1:=by
  conv=>lhs;rw[hg]
  exact me hp hk
 rw[h1]
 have:∀f i n,n≤(bY s f i n).2:=by
  intro f
  induction f with
  | zero=>intro i n;exact Nat.le_refl _
  | succ f ih=>
   intro i n
   unfold bY
   split
   · split
     · have:=ih (i+(pt s i).2) (n+1);omega
     · exact Nat.le_refl _
   · exact Nat.le_refl _
 exact this _ _ _
theorem VJ(s:ByteArray)(p:Nat)(hp:p<s.size):
 cW s p=conv ⟨(aD (s.extract p s.size) (Utf8.decode s p).1).1,p,s.extract p (p+(aD (s.extract p s.size) (Utf8.decode s p).1).2)⟩:=by
 have cL:¬p=s.size:=by omega
 have d40:=eU s p hp 40 (by decide)
 have d41:=eU s p hp 41 (by decide)
 have d44:=eU s p hp 44 (by decide)
 have d46:=eU s p hp 46 (by decide)
 have CY:=MG s p 58 45
 rw[show(58:UInt8).toNat=58 from rfl,show(45:UInt8).toNat=45 from rfl]at CY
 have Gh:=NU s p hp
 have na:=BX s p hp
 have OH:∀c:Nat,c<65→byte s p=c→qq s p 0=false:=by
  intro c hc hb
  rw[Gh,na,tj s p hp]
  have TA:pt s p=(c,1):=by simp[pt,hb];omega
  rw[TA,hb]
  simp[nO]
  omega
 unfold aD
 by_cases C0:((Utf8.decode s p).1:Int)=40
 · have hb:byte s p=40:=d40.1 (by omega)
   rw[if_pos C0]
   unfold cW
   rw[iZ s p (OH 40 (by decide) hb),hb]
   simp[cL,conv,kc]
 by_cases SZ:((Utf8.decode s p).1:Int)=41
 · have hb:byte s p=41:=d41.1 (by omega)
   rw[if_neg C0,if_pos SZ]
   unfold cW
   rw[iZ s p (OH 41 (by decide) hb),hb]
   simp[cL,conv,kc]
 by_cases h44:((Utf8.decode s p).1:Int)=44
 · have hb:byte s p=44:=d44.1 (by omega)
   rw[if_neg C0,if_neg SZ,if_pos h44]
   unfold cW
   rw[iZ s p (OH 44 (by decide) hb),hb]
   simp[cL,conv,kc]
 by_cases h46:((Utf8.decode s p).1:Int)=46
 · have hb:byte s p=46:=d46.1 (by omega)
   rw[if_neg C0,if_neg SZ,if_neg h44,if_pos h46]
   unfold cW
   rw[iZ s p (OH 46 (by decide) hb),hb]
   simp[cL,conv,kc]
 rw[if_neg C0,if_neg SZ,if_neg h44,if_neg h46]
 have b4:¬(byte s p=40∨byte s p=41∨byte s p=44∨byte s p=46):=by
  rintro(e | e | e | e)
  · exact C0 (by have:=d40.2 e;omega)
  · exact SZ (by have:=d41.2 e;omega)
  · exact h44 (by have:=d44.2 e;omega)
  · exact h46 (by have:=d46.2 e;omega)
 by_cases hc:pre (s.extract p s.size) ⟨#[58,45]⟩=true
 · obtain⟨hs,bK,bk⟩:=CY.1 hc
   rw[if_pos hc]
   unfold cW
   rw[iZ s p (OH 58 (by decide) bK),if_neg cL]
   simp only[bK,bk,hs]
   simp only[conv,kc]
   have:s.extract p (p+2)=⟨#[58,45]⟩:=by
    apply wE
    rw[eW]
    obtain⟨x,hx,ex⟩:=drop_cons s p hp
    obtain⟨y,hy,ey⟩:=drop_cons s (p+1) hs
    rw[hx,hy]
    have adW:x=58:=UInt8.toNat_inj.1 (by rw[ex,bK];rfl)
    have adU:y=45:=UInt8.toNat_inj.1 (by rw[ey,bk];rfl)
    rw[adW,adU]
    simp
   rw[this]
   simp
 rw[if_neg hc]
 have VU:¬(byte s p=58∧p+1<s.size∧byte s (p+1)=45):=fun ⟨a,b,c⟩=>hc (CY.2 ⟨b,a,c⟩)
 by_cases xE:small (s.extract p s.size) (Utf8.decode s p).1=true
 · have hk:qq s p 0=true:=by rw[Gh,xE];rfl
   have PX:¬(65≤byte s p∧byte s p≤90):=by
    intro h
    have:eT (Utf8.decode s p).1=true:=by rw[na];simp;exact h
    unfold eT at this
    simp at this
    unfold small at xE
    split at xE
    · omega
    · simp at xE;omega
   have Vo:=E4 s p hp hk
   rw[if_pos xE]
   unfold cW word
   rw[Il s p hp hk]at Vo ⊢
   generalize aG (s.extract p s.size) (s.extract p s.size).size 0 0=x at*
   simp only at Vo
   simp only[if_neg cL]
   by_cases h6:6<x.2
   · simp only[if_pos h6,nj];rfl
   · have:¬(0<x.2∧65≤byte s p∧byte s p≤90):=fun h=>PX h.2
     simp only[if_neg h6,if_neg this,if_pos Vo];rfl
 rw[if_neg xE]
 by_cases sU:eT (Utf8.decode s p).1=true
 · have hk:qq s p 0=true:=by rw[Gh,sU];simp
   have Qt:65≤byte s p∧byte s p≤90:=by rw[na]at sU;simpa using sU
   have Vo:=E4 s p hp hk
   rw[if_pos sU]
   unfold cW word
   rw[Il s p hp hk]at Vo ⊢
   generalize aG (s.extract p s.size) (s.extract p s.size).size 0 0=x at*
   simp only at Vo
   simp only[if_neg cL]
   by_cases h6:6<x.2
   · simp only[if_pos h6,nj];rfl
   · simp only[if_neg h6,if_pos (And.intro Vo Qt)];rfl
 · have hk:qq s p 0=false:=by
    rw[Gh]
    simp at xE sU
    rw[xE,sU]
    rfl
   rw[if_neg sU]
   unfold cW
   rw[iZ s p hk]
   simp only[if_neg cL,if_neg b4,if_neg VU,nj]
   simp[conv,kc]
end Ax
end Go.Proofs.YtdmicblafmhflaaGreatDoor
