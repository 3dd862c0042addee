/- encode.Reader: Number, Text, NewReader, Failed, Rest. -/
import Derived.Test.YtdmicblafmhflaaGreatDoorC42
set_option linter.unusedSimpArgs false
set_option linter.unusedVariables false
set_option maxHeartbeats 2000000
set_option maxRecDepth 100000
namespace Go.Proofs.YtdmicblafmhflaaGreatDoor
section
open Go.RowKit
namespace Rd
theorem go_le:∀(k i:Nat) (l:List UInt8) (acc:Nat),(go k i l acc).2≤i+l.length
 | 0,_,_,_=>by simp[go]
 | _+1,_,[],_=>by simp[go]
 | k+1,i,b::l,acc=>by
  simp only[go,List.length_cons]
  split
  · omega
  · split
    · simp only;omega
    · have:=go_le k (i+1) l (acc+(b.toNat-128)*128^i)
      omega
theorem yt(l:List UInt8):(first l).2≤l.length:=by
 have:=go_le 4 0 l 0
 unfold first
 omega
theorem go_lt:∀(k i:Nat) (l:List UInt8) (acc:Nat),acc<128^i→(go k i l acc).1<128^(i+k)
 | 0,i,_,_,_=>by simp only[go];exact Nat.pow_pos (by decide)
 | k+1,i,[],_,_=>by simp only[go];exact Nat.pow_pos (by decide)
 | k+1,i,b::l,acc,h=>by
  have hb:b.toNat<256:=b.toNat_lt
  have hp:(128:Nat)^(i+1)≤128^(i+(k+1)):=Nat.pow_le_pow_right (by decide) (by omega)
  have hs:(128:Nat)^(i+1)=128^i*128:=Nat.pow_succ _ _
  simp only[go]
  split
  · exact Nat.pow_pos (by decide)
  · split
    · rename_i h1
      have h2:b.toNat*128^i≤127*128^i:=Nat.mul_le_mul_right _ (by omega)
      simp only
      omega
    · have h2:(b.toNat-128)*128^i≤127*128^i:=Nat.mul_le_mul_right _ (by omega)
      have:=go_lt k (i+1) l (acc+(b.toNat-128)*128^i) (by omega)
      rw[show i+1+k=i+(k+1) by omega]at this
      exact this
theorem Mn(l:List UInt8):(first l).1<268435456:=go_lt 4 0 l 0 (by decide)
theorem go_num:∀(k i n acc:Nat) (t:List UInt8),n<128^k→0<k→(i=0∨0<n)→go k i (Rc.aV n++t) acc=(acc+n*128^i,i+(Rc.aV n).length)
 | 0,_,_,_,_,_,h,_=>absurd h (by decide)
 | k+1,i,n,acc,t,hn,_,hi=>by
  by_cases h:n≤127
  · rw[Rc.qj h]
    have e:(UInt8.ofNat n).toNat=n:=by simp;omega
    simp only[List.cons_append,List.nil_append,go,e,List.length_singleton]
    rw[if_neg (by omega),if_pos (by omega)]
  · rw[Rc.yu h]
    have e:(UInt8.ofNat (n%128+128)).toNat=n%128+128:=by simp;omega
    simp only[List.cons_append,go,e,List.length_cons]
    rw[if_neg (by omega),if_neg (by omega)]
    have hk:0<k:=by
     rcases k with _ | k
     · simp at hn;omega
     · omega
    have hd:n/128<128^k:=Nat.div_lt_of_lt_mul (by rw[Nat.pow_succ,Nat.mul_comm]at hn;exact hn)
    rw[go_num k (i+1) (n/128) _ t hd hk (.inr (by omega))]
    have e2:n%128+128-128=n%128:=by omega
    have e3:n/128*128^(i+1)+n%128*128^i=n*128^i:=by
     rw[Nat.pow_succ,Nat.mul_comm (128^i) 128,←Nat.mul_assoc,←Nat.add_mul,Nat.mul_comm (n/128) 128,Nat.div_add_mod]
    rw[e2,Nat.add_assoc,Nat.add_comm (n%128*128^i),e3,Nat.add_assoc,Nat.add_comm 1]
theorem LD{n:Nat}(h:n<268435456)(t:List UInt8):first (Rc.aV n++t)=(n,(Rc.aV n).length):=by
 have:=go_num 4 0 n 0 t (by simpa using h) (by decide) (.inl rfl)
 simpa [first]using this
def number(l:List UInt8)(f:Bool)(most:Int):Nat×List UInt8×Bool:=if f=true∨(first l).2=0∨most<((first l).1:Int)then (0,l,true)else ((first l).1,l.drop (first l).2,false)
def text(l:List UInt8)(f:Bool):List UInt8×List UInt8×Bool:=
 let r:=number l f 9223372036854775807
 if r.2.1.length<r.1 then ([],r.2.1,true)else (r.2.1.take r.1,r.2.1.drop r.1,r.2.2)
end Rd
namespace Rd
theorem D1(n:Nat):0<(Rc.aV n).length:=by
 unfold Rc.aV
 split<;>simp
theorem iW{n:Nat}(h:n<268435456){most:Int}(hm:(n:Int)≤most)(t:List UInt8):number (Rc.aV n++t) false most=(n,t,false):=by
 have h1:=LD h t
 have h2:=D1 n
 unfold number
 rw[h1,if_neg ?_]
 · simp
 · rintro(h3 | h3 | h3)
   · exact absurd h3 (by decide)
   · have:(Rc.aV n).length=0:=h3
     omega
   · have:most<(n:Int):=h3
     omega
theorem sY{x:ByteArray}(h:x.size<268435456)(t:List UInt8):text (Rc.aL x++t) false=(x.data.toList,t,false):=by
 have h1:=iW (n:=x.size) h (most:=9223372036854775807) (by omega) (x.data.toList++t)
 unfold Rc.aL
 rw[List.append_assoc]
 unfold text
 rw[h1]
 have e:x.data.toList.length=x.size:=by simp
 simp only[List.length_append,e]
 rw[if_neg (by omega),List.take_left' e,List.drop_left' e]
end Rd
def cJ(w:World)(rb:Nat)(l:List UInt8)(f:Bool):Prop:=w.heap[rb]?=some (.cells #[.string ⟨l.toArray⟩,.bool f] 251 (0,0))
theorem cJ.cells{w:World}{rb:Nat}{l:List UInt8}{f:Bool}(h:cJ w rb l f):w.cell? ⟨rb,0,none⟩=some (.string ⟨l.toArray⟩)∧w.cell? ⟨rb,1,none⟩=some (.bool f)∧rb<w.heap.size∧w.frozen? ⟨rb,0,none⟩=false∧w.frozen? ⟨rb,1,none⟩=false:=by
 unfold cJ at h
 exact⟨by rw[cell_of_row _ _ _ _ _ _ h];rfl,by rw[cell_of_row _ _ _ _ _ _ h];rfl,lt_of_heap h,by simp[World.frozen?,h],by simp[World.frozen?,h]⟩
theorem cJ.rest{w:World}{rb:Nat}{l:List UInt8}{f:Bool}(h:cJ w rb l f)(m:List UInt8):cJ (w.setCell ⟨rb,0,none⟩ (.string ⟨m.toArray⟩)) rb m f∧Kb [rb] w (w.setCell ⟨rb,0,none⟩ (.string ⟨m.toArray⟩)):=by
 unfold cJ at h ⊢
 refine⟨?_,Kb.setCell w ⟨rb,0,none⟩ _⟩
 rw[an w h 0 (.string ⟨m.toArray⟩)]
 rfl
theorem cJ.fail{w:World}{rb:Nat}{l:List UInt8}{f:Bool}(h:cJ w rb l f):cJ (w.setCell ⟨rb,1,none⟩ (.bool true)) rb l true∧Kb [rb] w (w.setCell ⟨rb,1,none⟩ (.bool true)):=by
 unfold cJ at h ⊢
 refine⟨?_,Kb.setCell w ⟨rb,1,none⟩ _⟩
 rw[an w h 1 (.bool true)]
 rfl
theorem xl(l:List UInt8)(k:Nat):(⟨l.toArray⟩:ByteArray).extract k l.length=⟨(l.drop k).toArray⟩:=by
 apply ByteArray.ext
 simp[ByteArray.data_extract]
 exact List.take_of_length_le (by simp)
theorem xL(l:List UInt8)(k:Nat):(⟨l.toArray⟩:ByteArray).extract 0 k=⟨(l.take k).toArray⟩:=by
 apply ByteArray.ext
 simp[ByteArray.data_extract]
theorem fS(w:World)(rb:Nat)(l:List UInt8)(f:Bool)(most:Int)(h:cJ w rb l f)(hl:l.length≤1000000000):
 Calls Tryz.prog 139 #[.pointer (some ⟨rb,0,none⟩),.int .i64 most] w fun e w'=>e=.returned (.int .i64 ((Rd.number l f most).1:Nat))∧cJ w' rb (Rd.number l f most).2.1 (Rd.number l f most).2.2∧Kb [rb] w w':=by
 have JM:Hid (Calls Tryz.prog 204 #[.string ⟨l.toArray⟩] w fun e w'=>e=.returned (.tuple #[.int .i64 ((Rd.first l).1:Nat),.int .i64 ((Rd.first l).2:Nat)])∧w'=w):=vp w l hl
 have hle:=Rd.yt l
 have vo:Hid (cJ (w.setCell ⟨rb,0,none⟩ (.string ⟨(l.drop (Rd.first l).2).toArray⟩)) rb (l.drop (Rd.first l).2) f∧Kb [rb] w (w.setCell ⟨rb,0,none⟩ (.string ⟨(l.drop (Rd.first l).2).toArray⟩))):=h.rest _
 have Tn:Hid (cJ (w.setCell ⟨rb,1,none⟩ (.bool true)) rb l true∧Kb [rb] w (w.setCell ⟨rb,1,none⟩ (.bool true))):=h.fail
 obtain⟨c0,c1,hrl,f0,f1⟩:=h.cells
 have N2:=xl l (Rd.first l).2
 have cr:(⟨l.toArray⟩:ByteArray).size=l.length:=rfl
 have BW:Hid (Rd.number l f most=if f=true∨(Rd.first l).2=0∨most<((Rd.first l).1:Int)then (0,l,true)else ((Rd.first l).1,l.drop (Rd.first l).2,false)):=(rfl:Rd.number l f most=_)
 generalize Rd.number l f most=R at BW ⊢
 generalize (Rd.first l).1=n at*
 generalize (Rd.first l).2=sz at*
 generalize vI:(⟨(l.drop sz).toArray⟩:ByteArray)=s2 at*
 have IL:Hid ((⟨(l.drop sz).toArray⟩:ByteArray)=s2):=vI
 generalize (⟨l.toArray⟩:ByteArray)=s at*
 clear vI h
 have z1:(0:Int)≤(sz:Int):=by omega
 have z2:(sz:Int)≤(l.length:Int):=by omega
 go_enter Tryz.func139,Tryz.ntmps139
 by_cases u6:f=true∨sz=0∨most<(n:Int)
 · have HE:Hid (R=(0,l,true)):=by
    have h9:=BW.out
    rw[if_pos u6]at h9
    exact h9
   clear BW vo
   by_cases hf:f=true
   · subst hf
     clear u6
     go_wp2_with (go_at_call 204;refine JM.out.mono ?_;rintro e w1 ⟨rfl,hw⟩;subst hw)
     go_ret
     rw[HE.out]
     exact⟨rfl,Tn.out⟩
   · have hf:f=false:=by simpa using hf
     subst hf
     by_cases Yz:sz=0
     · clear u6
       go_wp2_with (go_at_call 204;refine JM.out.mono ?_;rintro e w1 ⟨rfl,hw⟩;subst hw)
       go_ret
       rw[HE.out]
       exact⟨rfl,Tn.out⟩
     · have Ny:most<(n:Int):=by simpa [Yz]using u6
       have hdm:decide (most<(n:Int))=true:=decide_eq_true Ny
       clear u6
       go_wp2_with (go_at_call 204;refine JM.out.mono ?_;rintro e w1 ⟨rfl,hw⟩;subst hw)
       go_ret
       rw[HE.out]
       exact⟨rfl,Tn.out⟩
 · have HE:Hid (R=(n,l.drop sz,false)):=by
    have h9:=BW.out
    rw[if_neg u6]at h9
    exact h9
   clear BW
   have hf:f=false:=by cases f<;>simp_all
   subst hf
   have Yz:¬sz=0:=fun e=>u6 (.inr (.inl e))
   have Ny:¬most<(n:Int):=fun e=>u6 (.inr (.inr e))
   have hdm:decide (most<(n:Int))=false:=decide_eq_false Ny
   clear u6
   go_wp2_with (go_at_call 204;refine JM.out.mono ?_;rintro e w1 ⟨rfl,hw⟩;subst hw)
   go_ret
   rw[HE.out]
   exact⟨rfl,vo.out⟩
theorem xD(w:World)(rb:Nat)(l:List UInt8)(f:Bool)(h:cJ w rb l f)(hl:l.length≤1000000000):
 Calls Tryz.prog 81 #[.pointer (some ⟨rb,0,none⟩)] w fun e w'=>e=.returned (.string ⟨(Rd.text l f).1.toArray⟩)∧cJ w' rb (Rd.text l f).2.1 (Rd.text l f).2.2∧Kb [rb] w w':=by
 have KE:(Rd.number l f 9223372036854775807).2.1.length≤l.length:=by
  unfold Rd.number
  split<;>simp
 have zS:Hid (Rd.text l f=if (Rd.number l f 9223372036854775807).2.1.length<(Rd.number l f 9223372036854775807).1 then ([],(Rd.number l f 9223372036854775807).2.1,true)else ((Rd.number l f 9223372036854775807).2.1.take (Rd.number l f 9223372036854775807).1,(Rd.number l f 9223372036854775807).2.1.drop (Rd.number l f 9223372036854775807).1,(Rd.number l f 9223372036854775807).2.2)):=(rfl:Rd.text l f=_)
 have iG:=fS w rb l f 9223372036854775807 h hl
 generalize Rd.text l f=R at zS ⊢
 generalize (Rd.number l f 9223372036854775807).1=n at*
 generalize WC:(Rd.number l f 9223372036854775807).2.1=m at*
 generalize (Rd.number l f 9223372036854775807).2.2=g at*
 have Fy:Hid (Calls Tryz.prog 139 #[.pointer (some ⟨rb,0,none⟩),.int .i64 9223372036854775807] w fun e w'=>e=.returned (.int .i64 (n:Nat))∧w'.cell? ⟨rb,0,none⟩=some (.string ⟨m.toArray⟩)∧w'.cell? ⟨rb,1,none⟩=some (.bool g)∧rb<w'.heap.size∧w'.frozen? ⟨rb,0,none⟩=false∧w'.frozen? ⟨rb,1,none⟩=false∧Hid (cJ w' rb m g∧Kb [rb] w w')):=by
  refine iG.mono ?_
  rintro e w' ⟨rfl,q1,q2⟩
  obtain⟨c0,c1,c2,c3,c4⟩:=q1.cells
  exact⟨rfl,c0,c1,c2,c3,c4,q1,q2⟩
 have N2:=xl m n
 have sO:=xL m n
 have cr:(⟨m.toArray⟩:ByteArray).size=m.length:=rfl
 generalize vI:(⟨(m.drop n).toArray⟩:ByteArray)=s2 at*
 generalize hs3:(⟨(m.take n).toArray⟩:ByteArray)=s3 at*
 have IL:Hid ((⟨(m.drop n).toArray⟩:ByteArray)=s2∧(⟨(m.take n).toArray⟩:ByteArray)=s3):=⟨vI,hs3⟩
 generalize (⟨m.toArray⟩:ByteArray)=s at*
 clear vI hs3 h iG WC
 have z1:(0:Int)≤(n:Int):=by omega
 go_enter Tryz.func81,Tryz.ntmps81
 by_cases u6:m.length<n
 · have HE:Hid (R=([],m,true)):=by
    have h9:=zS.out
    rw[if_pos u6]at h9
    exact h9
   have hdm:decide ((m.length:Int)<(n:Int))=true:=decide_eq_true (by omega)
   clear zS
   go_wp2_with (go_at_call 139;refine Fy.out.mono ?_;rintro e w1 ⟨rfl,c0,c1,c2,c3,c4,H1⟩)
   go_ret
   rw[HE.out]
   obtain⟨k1,k2⟩:=H1.out.1.fail
   exact⟨rfl,k1,H1.out.2.trans k2⟩
 · have HE:Hid (R=(m.take n,m.drop n,g)):=by
    have h9:=zS.out
    rw[if_neg u6]at h9
    exact h9
   have hdm:decide ((m.length:Int)<(n:Int))=false:=decide_eq_false (by omega)
   have z2:(n:Int)≤(m.length:Int):=by omega
   clear zS
   go_wp2_with (go_at_call 139;refine Fy.out.mono ?_;rintro e w1 ⟨rfl,c0,c1,c2,c3,c4,H1⟩)
   go_ret
   rw[HE.out]
   obtain⟨k1,k2⟩:=H1.out.1.rest (m.drop n)
   rw[IL.out.1]at k1 k2
   exact⟨by rw[←IL.out.2];rfl,k1,H1.out.2.trans k2⟩
theorem yY(w:World)(l:List UInt8):
 Calls Tryz.prog 80 #[.string ⟨l.toArray⟩] w fun e w'=>e=.returned (.pointer (some ⟨w.heap.size,0,none⟩))∧cJ w' w.heap.size l false∧Below w.heap.size w w':=by
 go_enter Tryz.func80,Tryz.ntmps80
 go_wp2_with fail
 go_ret
 exact⟨rfl,heap_alloc_new w _,(Below.refl _ _).alloc (Nat.le_refl _) _⟩
theorem nL(w:World)(rb:Nat)(l:List UInt8)(f:Bool)(h:cJ w rb l f):
 Calls Tryz.prog 142 #[.pointer (some ⟨rb,0,none⟩)] w fun e w'=>e=.returned (.bool f)∧w'=w:=by
 obtain⟨c0,c1,c2,c3,c4⟩:=h.cells
 clear h
 go_enter Tryz.func142,Tryz.ntmps142
 go_wp2_with fail
 go_ret
 exact⟨rfl,rfl⟩
end
/- state.readNames, state.readFact. -/
section
open Go.RowKit
namespace Rd
def texts:Nat→List UInt8→Bool→List ByteArray×List UInt8×Bool
 | 0,l,f=>([],l,f)
 | k+1,l,f=>
  let r:=texts k l f
  let t:=text r.2.1 r.2.2
  (r.1++[⟨t.1.toArray⟩],t.2.1,t.2.2)
theorem tO(k:Nat)(l:List UInt8)(f:Bool):(texts k l f).1.length=k:=by
 induction k with
 | zero=>rfl
 | succ k ih=>simp[texts,ih]
theorem eu(l:List UInt8)(f:Bool)(m:Int):(number l f m).2.1.length≤l.length:=by
 unfold number
 split<;>simp
theorem Fi(l:List UInt8)(f:Bool):(text l f).2.1.length≤l.length:=by
 have:=eu l f 9223372036854775807
 unfold text
 simp only
 split
 · exact this
 · simp only[List.length_drop];omega
theorem wK(k:Nat)(l:List UInt8)(f:Bool):(texts k l f).2.1.length≤l.length:=by
 induction k with
 | zero=>exact Nat.le_refl _
 | succ k ih=>
  have:=Fi (texts k l f).2.1 (texts k l f).2.2
  simp only[texts]
  omega
theorem pL(l:List UInt8)(f:Bool)(m:Nat):(number l f (m:Int)).1≤m:=by
 unfold number
 split
 · exact Nat.zero_le _
 · rename_i h
   simp only
   have:¬(m:Int)<((first l).1:Int):=fun e=>h (.inr (.inr e))
   omega
def names(l:List UInt8)(f:Bool):List ByteArray×List UInt8×Bool:=texts (number l f 600).1 (number l f 600).2.1 (number l f 600).2.2
end Rd
namespace Rd
def bz(N:List ByteArray):Nat→List UInt8→Bool→List ByteArray×List UInt8×Bool
 | 0,l,f=>([],l,f)
 | k+1,l,f=>
  let r:=bz N k l f
  let t:=number r.2.1 r.2.2 ((N.length:Int)-1)
  (r.1++[if t.2.2=true then ByteArray.empty else N.getD t.1 ByteArray.empty],t.2.1,t.2.2)
theorem ti(N:List ByteArray)(k:Nat)(l:List UInt8)(f:Bool):(bz N k l f).1.length=k:=by
 induction k with
 | zero=>rfl
 | succ k ih=>simp[bz,ih]
theorem DX(N:List ByteArray)(k:Nat)(l:List UInt8)(f:Bool):(bz N k l f).2.1.length≤l.length:=by
 induction k with
 | zero=>exact Nat.le_refl _
 | succ k ih=>
  have:=eu (bz N k l f).2.1 (bz N k l f).2.2 ((N.length:Int)-1)
  simp only[bz]
  omega
theorem Kl{l:List UInt8}{f:Bool}{m:Int}(h:(number l f m).2.2=false):((number l f m).1:Int)≤m:=by
 unfold number at h ⊢
 split at h
 · cases h
 · rename_i h1
   rw[if_neg h1]
   have:¬m<((first l).1:Int):=fun e=>h1 (.inr (.inr e))
   simp only
   omega
end Rd
structure my(w wr:World)(rb g n:Nat)(L:List ByteArray)(l:List UInt8)(f:Bool):Prop where
 da:wr.heap[g]?=some (.cells (strCells L++List.replicate (n-L.length) (Value.string ByteArray.empty)).toArray 9 (0,0))
 rd:cJ wr rb l f
 kb:Kb [rb] w wr
 ge:w.heap.size≤g
 le:L.length≤n
theorem my.cells{w wr:World}{rb g n:Nat}{L:List ByteArray}{l:List UInt8}{f:Bool}(h:my w wr rb g n L l f){k:Nat}(hk:L.length=k)(aC:k<n):wr.cell? ⟨g,k,none⟩=some (.string ByteArray.empty)∧wr.frozen? ⟨g,k,none⟩=false∧g<wr.heap.size:=by
 refine⟨?_,by simp[World.frozen?,h.da],lt_of_heap h.da⟩
 rw[cell_of_row _ _ _ _ _ _ h.da,List.getElem?_toArray,List.getElem?_append_right (by simp[strCells,hk])]
 rw[hk,show n-k=(n-k-1)+1 by omega]
 simp[strCells,hk,List.replicate_succ]
theorem my.read{w wr w':World}{rb g n:Nat}{L:List ByteArray}{l l':List UInt8}{f f':Bool}(h:my w wr rb g n L l f)(hk:Kb [rb] wr w')(hr:cJ w' rb l' f'):my w w' rb g n L l' f':=by
 have cL:g≠rb:=lN h.da h.rd (by decide)
 exact⟨hk.heap h.da (by simpa using cL),hr,h.kb.trans hk,h.ge,h.le⟩
theorem my.set{w wr:World}{rb g n:Nat}{L:List ByteArray}{l:List UInt8}{f:Bool}(h:my w wr rb g n L l f){k:Nat}(hk:L.length=k)(aC:k<n)(x:ByteArray):my w (wr.setCell ⟨g,k,none⟩ (.string x)) rb g n (L++[x]) l f:=by
 have cL:rb≠g:=fun e=>lN h.da h.rd (by decide) e.symm
 have fC:Kb [g] wr (wr.setCell ⟨g,k,none⟩ (.string x)):=Kb.setCell wr ⟨g,k,none⟩ _
 refine⟨?_,fC.heap h.rd (by simpa using cL), ?_,h.ge,by rw[List.length_append];simp;omega⟩
 · rw[an wr h.da k (.string x)]
   congr 2
   rw[List.setIfInBounds_toArray]
   congr 1
   rw[List.set_append_right _ _ (by simp[strCells,hk])]
   have e1:n-L.length=(n-(L++[x]).length)+1:=by simp;omega
   rw[e1,List.replicate_succ]
   simp[strCells,hk]
 · exact h.kb.trans' fC (fun i hi aC=>by
    have:=h.ge
    simp at hi
    omega)
theorem my.skip{w wr:World}{rb g n:Nat}{L:List ByteArray}{l:List UInt8}{f:Bool}(h:my w wr rb g n L l f)(aC:L.length<n):my w wr rb g n (L++[ByteArray.empty]) l f:=by
 refine⟨?_,h.rd,h.kb,h.ge,by rw[List.length_append];simp;omega⟩
 have hb:=h.da
 have e1:n-L.length=(n-(L++[ByteArray.empty]).length)+1:=by simp;omega
 rw[e1,List.replicate_succ]at hb
 simpa [strCells]using hb
theorem my.all{w wr:World}{rb g n:Nat}{L:List ByteArray}{l:List UInt8}{f:Bool}(h:my w wr rb g n L l f)(hn:L.length=n)(hm:n≤999999):wr.ownsRow w.heap.size 9 1 (.slice (some ⟨g,0,none⟩) n n) n (strCells L):=by
 have hb:=h.da
 rw[hn,Nat.sub_self]at hb
 refine⟨by simp[strCells,hn],.inr ⟨g,n,_,rfl,h.ge,hb,Nat.le_refl _,by unfold maxLen;omega,by simp[strCells,hn], ?_⟩⟩
 simp[strCells,List.take_of_length_le,hn]
theorem Ba(n:Nat):(madeCells (#[Value.string ByteArray.empty]) n).toList=List.replicate n (Value.string ByteArray.empty):=by
 unfold madeCells
 simp only[Array.toList_map,Array.toList_range]
 apply List.ext_getElem
 · simp
 · intro i h1 h2
   simp[Nat.mod_one]
theorem yZ(w:World)(rb:Nat)(l:List UInt8)(f:Bool)(h:cJ w rb l f)(hl:l.length≤1000000000):
 Calls Tryz.prog 140 #[.pointer (some ⟨rb,0,none⟩)] w fun e w'=>∃g,e=.returned (.slice (some ⟨g,0,none⟩) (Rd.names l f).1.length (Rd.names l f).1.length)∧w'.ownsRow w.heap.size 9 1 (.slice (some ⟨g,0,none⟩) (Rd.names l f).1.length (Rd.names l f).1.length) (Rd.names l f).1.length (strCells (Rd.names l f).1)∧cJ w' rb (Rd.names l f).2.1 (Rd.names l f).2.2∧Kb [rb] w w':=by
 obtain⟨i0,kP,eX,eP,eA⟩:=info_parts Tryz.vL
 have hn:=fS w rb l f 600 h hl
 have hle:(Rd.number l f 600).1≤600:=Rd.pL l f 600
 have KE:=Rd.eu l f 600
 have hrl:=h.cells.2.2.1
 unfold Rd.names
 have cL:(Rd.texts (Rd.number l f 600).1 (Rd.number l f 600).2.1 (Rd.number l f 600).2.2).1.length=(Rd.number l f 600).1:=Rd.tO _ _ _
 rw[cL]
 clear cL
 generalize (Rd.number l f 600).1=n at*
 generalize (Rd.number l f 600).2.1=m at*
 generalize (Rd.number l f 600).2.2=g at*
 have Fy:Hid (Calls Tryz.prog 139 #[.pointer (some ⟨rb,0,none⟩),.int .i64 600] w fun e w'=>e=.returned (.int .i64 (n:Nat))∧Hid (cJ w' rb m g∧Kb [rb] w w')):=hn.mono (fun e w' ⟨a,b⟩=>⟨a,b⟩)
 clear hn h
 go_enter Tryz.func140,Tryz.ntmps140
 go_wp2_with (first | (go_at_call 139;refine Fy.out.mono ?_;rintro e w1 ⟨rfl,H1⟩) | (at_make;refine wpList_make_full _ rfl _ _ 46 rfl w1.heap.size 9 i0 _ 1 Tryz.underlying46 kP eX eP .i64 .i64 n n n rfl rfl rfl rfl (by rw[eA];omega) (by unfold maxLen;omega) (Nat.le_refl _) ?_;intro w2 aO ch))
 have Sw:Hid (my w w2 rb w1.heap.size n (Rd.texts 0 m g).1 (Rd.texts 0 m g).2.1 (Rd.texts 0 m g).2.2):=by
  have bk:Below w1.heap.size w1 w2:=(Below.refl _ _).grown ch (Nat.le_refl _) (fun q hq=>by cases hq)
  refine⟨?_, ?_,H1.out.2.below bk,H1.out.2.size,Nat.zero_le _⟩
  · obtain⟨_,⟨e1,_⟩ | ⟨g',cap,cur,e1,_,e3,_,_,e6,e7⟩⟩:=aO
    · cases e1
    · simp only[Value.slice.injEq,Option.some.injEq,Addr.mk.injEq,and_true,true_and]at e1
      obtain⟨rfl,rfl⟩:=e1
      rw[List.take_of_length_le (by rw[Array.length_toList,e6];exact Nat.le_refl _),Nat.mul_one]at e7
      have e8:cur.toList=List.replicate n (Value.string ByteArray.empty):=by rw[e7];exact Ba n
      rw[e3]
      have e9:cur=(strCells (Rd.texts 0 m g).1++List.replicate (n-(Rd.texts 0 m g).1.length) (Value.string ByteArray.empty)).toArray:=by
       have:(Rd.texts 0 m g).1=[]:=rfl
       rw[this,List.length_nil,Nat.sub_zero,←e8]
       simp[strCells]
      rw[←e9]
  · unfold cJ
    rw[bk.block _ (lt_of_heap H1.out.1)]
    exact H1.out.1
 clear aO ch kP eX eP eA H1 Fy
 go_loopw [10] (fun i wr=>∃(k:Nat),k≤n∧i=.int .i64 k∧my w wr rb w1.heap.size n (Rd.texts k m g).1 (Rd.texts k m g).2.1 (Rd.texts k m g).2.2) (fun i _=>n-(intOf i).toNat)
 case atStart=>exact⟨0,Nat.zero_le _,rfl,Sw.out⟩
 case round=>
  obtain⟨k,hk,rfl,hF⟩:=hrel
  have oe:=Rd.tO k m g
  have Vk:=Rd.wK k m g
  clear Sw
  by_cases aC:k<n
  · have vh:=xD wr rb _ _ hF.rd (by omega)
    obtain⟨R,TW⟩:∃R,R=Rd.texts (k+1) m g:=⟨_,rfl⟩
    have FA:Hid (R=Rd.texts (k+1) m g):=TW
    have gG:Hid (R=((Rd.texts k m g).1++[⟨(Rd.text (Rd.texts k m g).2.1 (Rd.texts k m g).2.2).1.toArray⟩],(Rd.text (Rd.texts k m g).2.1 (Rd.texts k m g).2.2).2.1,(Rd.text (Rd.texts k m g).2.1 (Rd.texts k m g).2.2).2.2)):=by
     rw[TW]
     exact(rfl:Rd.texts (k+1) m g=_)
    clear TW
    generalize (Rd.text (Rd.texts k m g).2.1 (Rd.texts k m g).2.2).1.toArray=ta at vh gG
    generalize (Rd.text (Rd.texts k m g).2.1 (Rd.texts k m g).2.2).2.1=tl at vh gG
    generalize (Rd.text (Rd.texts k m g).2.1 (Rd.texts k m g).2.2).2.2=tf at vh gG
    have zS:Hid (Calls Tryz.prog 81 #[.pointer (some ⟨rb,0,none⟩)] wr fun e w5=>e=.returned (.string ⟨ta⟩)∧w5.cell? ⟨w1.heap.size,k,none⟩=some (.string ByteArray.empty)∧w5.frozen? ⟨w1.heap.size,k,none⟩=false∧w1.heap.size<w5.heap.size∧Hid (my w (w5.setCell ⟨w1.heap.size,k,none⟩ (.string ⟨ta⟩)) rb w1.heap.size n R.1 R.2.1 R.2.2)):=by
     refine vh.mono ?_
     rintro e w5 ⟨rfl,q1,q2⟩
     have h5:=hF.read q2 q1
     obtain⟨y1,y2,y3⟩:=h5.cells oe aC
     rw[gG.out]
     exact⟨rfl,y1,y2,y3,h5.set oe aC _⟩
    have b1:(0:Int)≤(k:Int):=by omega
    have b2:(k:Int)<(n:Int):=by omega
    clear vh hF oe Vk
    go_wp2_with (go_at_call 81;refine zS.out.mono ?_;rintro e w5 ⟨rfl,y1,y2,y3,H5⟩)
    go_roundw
    case rel=>exact⟨k+1,aC,by go_num,by rw[←FA.out];exact H5.out⟩
    case measure=>simp[intOf];omega
  · have e:k=n:=by omega
    have HE:Hid (wr.ownsRow w.heap.size 9 1 (.slice (some ⟨w1.heap.size,0,none⟩) n n) n (strCells (Rd.texts n m g).1)∧cJ wr rb (Rd.texts n m g).2.1 (Rd.texts n m g).2.2∧Kb [rb] w wr):=by
     rw[e]at hF oe
     exact⟨hF.all oe (by omega),hF.rd,hF.kb⟩
    clear hF
    go_wp2_with fail
    go_ret
    exact⟨_,rfl,HE.out⟩
theorem B4(w:World)(rb:Nat)(l:List UInt8)(f:Bool)(h:cJ w rb l f)(hl:l.length≤1000000000)(nd:Option Addr)(nl nc:Nat)(N:List ByteArray)(hN:w.ownsRow 0 9 1 (.slice nd nl nc) nl (strCells N))(hn9:nl≤100000)(pl:Nat)(lu:pl≤1000):
 Calls Tryz.prog 141 #[.pointer (some ⟨rb,0,none⟩),.slice nd nl nc,.int .i64 (pl:Nat)] w fun e w'=>∃g,e=.returned (.slice (some ⟨g,0,none⟩) pl pl)∧w'.ownsRow w.heap.size 9 1 (.slice (some ⟨g,0,none⟩) pl pl) pl (strCells (Rd.bz N pl l f).1)∧cJ w' rb (Rd.bz N pl l f).2.1 (Rd.bz N pl l f).2.2∧Kb [rb] w w':=by
 obtain⟨i0,kP,eX,eP,eA⟩:=info_parts Tryz.vL
 have hNl:N.length=nl:=by have:=hN.1;simp[strCells]at this;omega
 have PN:Hid (∀W,Kb [rb] w W→W.ownsRow 0 9 1 (.slice nd nl nc) nl (strCells N)):=fun W hW=>hW.ie hN (fun b cur fz hb e=>by
  simp at hb
  subst hb
  unfold cJ at h
  rw[h]at e
  simp at e)
 have HR:Hid (cJ w rb l f):=h
 clear h hN
 go_enter Tryz.func141,Tryz.ntmps141
 go_wp2_with (at_make;refine wpList_make_full _ rfl _ _ 46 rfl w.heap.size 9 i0 _ 1 Tryz.underlying46 kP eX eP .i64 .i64 pl pl pl rfl rfl rfl rfl (by rw[eA];omega) (by unfold maxLen;omega) (Nat.le_refl _) ?_;intro w2 aO ch)
 have Sw:Hid (my w w2 rb w.heap.size pl (Rd.bz N 0 l f).1 (Rd.bz N 0 l f).2.1 (Rd.bz N 0 l f).2.2):=by
  have bk:Below w.heap.size w w2:=(Below.refl _ _).grown ch (Nat.le_refl _) (fun q hq=>by cases hq)
  refine⟨?_, ?_,Kb.bG bk _,Nat.le_refl _,Nat.zero_le _⟩
  · obtain⟨_,⟨e1,_⟩ | ⟨g',cap,cur,e1,_,e3,_,_,e6,e7⟩⟩:=aO
    · cases e1
    · simp only[Value.slice.injEq,Option.some.injEq,Addr.mk.injEq,and_true,true_and]at e1
      obtain⟨rfl,rfl⟩:=e1
      rw[List.take_of_length_le (by rw[Array.length_toList,e6];exact Nat.le_refl _),Nat.mul_one]at e7
      have e8:cur.toList=List.replicate pl (Value.string ByteArray.empty):=by rw[e7];exact Ba pl
      rw[e3]
      have e9:cur=(strCells (Rd.bz N 0 l f).1++List.replicate (pl-(Rd.bz N 0 l f).1.length) (Value.string ByteArray.empty)).toArray:=by
       have:(Rd.bz N 0 l f).1=[]:=rfl
       rw[this,List.length_nil,Nat.sub_zero,←e8]
       simp[strCells]
      rw[←e9]
  · unfold cJ
    rw[bk.block _ (lt_of_heap HR.out)]
    exact HR.out
 have PZ:IntKind.i64.wrap ((nl:Int)-1)=(nl:Int)-1:=by
  rw[IntKind.wrap_i64]
  omega
 clear aO ch kP eX eP eA HR
 go_loopw [14] (fun i wr=>∃(k:Nat),k≤pl∧i=.int .i64 k∧my w wr rb w.heap.size pl (Rd.bz N k l f).1 (Rd.bz N k l f).2.1 (Rd.bz N k l f).2.2) (fun i _=>pl-(intOf i).toNat)
 case atStart=>exact⟨0,Nat.zero_le _,rfl,Sw.out⟩
 case round=>
  obtain⟨k,hk,rfl,hF⟩:=hrel
  have oe:=Rd.ti N k l f
  have Vk:=Rd.DX N k l f
  clear Sw
  by_cases aC:k<pl
  · have Nr:=fS wr rb _ _ ((N.length:Int)-1) hF.rd (by omega)
    have cB:=@Rd.Kl (Rd.bz N k l f).2.1 (Rd.bz N k l f).2.2 ((N.length:Int)-1)
    obtain⟨R,TW⟩:∃R,R=Rd.bz N (k+1) l f:=⟨_,rfl⟩
    have FA:Hid (R=Rd.bz N (k+1) l f):=TW
    have gG:Hid (R=((Rd.bz N k l f).1++[if (Rd.number (Rd.bz N k l f).2.1 (Rd.bz N k l f).2.2 ((N.length:Int)-1)).2.2=true then ByteArray.empty else N.getD (Rd.number (Rd.bz N k l f).2.1 (Rd.bz N k l f).2.2 ((N.length:Int)-1)).1 ByteArray.empty],(Rd.number (Rd.bz N k l f).2.1 (Rd.bz N k l f).2.2 ((N.length:Int)-1)).2.1,(Rd.number (Rd.bz N k l f).2.1 (Rd.bz N k l f).2.2 ((N.length:Int)-1)).2.2)):=by
     rw[TW]
     exact(rfl:Rd.bz N (k+1) l f=_)
    clear TW
    generalize (Rd.number (Rd.bz N k l f).2.1 (Rd.bz N k l f).2.2 ((N.length:Int)-1)).1=at_ at Nr gG cB
    generalize (Rd.number (Rd.bz N k l f).2.1 (Rd.bz N k l f).2.2 ((N.length:Int)-1)).2.1=tl at Nr gG
    generalize (Rd.number (Rd.bz N k l f).2.1 (Rd.bz N k l f).2.2 ((N.length:Int)-1)).2.2=tf at Nr gG cB
    rw[hNl]at Nr cB
    have b1:(0:Int)≤(k:Int):=by omega
    have b2:(k:Int)<(pl:Int):=by omega
    cases tf with
    | true=>
     have Fy:Hid (Calls Tryz.prog 139 #[.pointer (some ⟨rb,0,none⟩),.int .i64 ((nl:Int)-1)] wr fun e w5=>e=.returned (.int .i64 (at_:Nat))∧Hid (cJ w5 rb tl true∧my w w5 rb w.heap.size pl R.1 R.2.1 R.2.2)):=by
      refine Nr.mono ?_
      rintro e w5 ⟨rfl,q1,q2⟩
      have h5:=(hF.read q2 q1).skip (by omega)
      rw[gG.out]
      exact⟨rfl,q1,h5⟩
     have FJ:Hid (∀w5,cJ w5 rb tl true→Calls Tryz.prog 142 #[.pointer (some ⟨rb,0,none⟩)] w5 fun e w'=>e=.returned (.bool true)∧w'=w5):=fun w5 h=>nL w5 rb tl true h
     clear Nr hF oe Vk cB
     go_wp2_with (first | (go_at_call 139;refine Fy.out.mono ?_;rintro e w5 ⟨rfl,H5⟩) | (go_at_call 142;refine(FJ.out _ H5.out.1).mono ?_;rintro e w6 ⟨rfl,hw⟩;subst hw))
     go_roundw
     case rel=>exact⟨k+1,aC,by go_num,by rw[←FA.out];exact H5.out.2⟩
     case measure=>simp[intOf];omega
    | false=>
     have sJ:=cB rfl
     have QN:at_<N.length:=by omega
     have zU:N.getD at_ ByteArray.empty=N[at_]:=by rw[List.getD_eq_getElem?_getD,List.getElem?_eq_getElem QN];rfl
     have Fx:0<nl:=by omega
     obtain⟨gn,rfl,_,_,_⟩:=ax (PN.out wr hF.kb) Fx
     have Fy:Hid (Calls Tryz.prog 139 #[.pointer (some ⟨rb,0,none⟩),.int .i64 ((nl:Int)-1)] wr fun e w5=>e=.returned (.int .i64 (at_:Nat))∧w5.cell? ⟨gn,at_,none⟩=some (.string N[at_])∧w5.cell? ⟨w.heap.size,k,none⟩=some (.string ByteArray.empty)∧w5.frozen? ⟨w.heap.size,k,none⟩=false∧w.heap.size<w5.heap.size∧Hid (cJ w5 rb tl false∧my w (w5.setCell ⟨w.heap.size,k,none⟩ (.string N[at_])) rb w.heap.size pl R.1 R.2.1 R.2.2)):=by
      refine Nr.mono ?_
      rintro e w5 ⟨rfl,q1,q2⟩
      have h4:=hF.read q2 q1
      have h5:=h4.set oe aC N[at_]
      obtain⟨y1,y2,y3⟩:=h4.cells oe aC
      obtain⟨gn',e',_,_,bA⟩:=ax (PN.out w5 h4.kb) Fx
      simp only[Option.some.injEq,Addr.mk.injEq,and_true]at e'
      subst e'
      have hc:=bA at_ (.string N[at_]) (by simp[strCells,List.getElem?_eq_getElem QN])
      rw[gG.out]
      refine⟨rfl,hc,y1,y2,y3,q1, ?_⟩
      simp only[Bool.false_eq_true,if_false,zU]
      exact h5
     have FJ:Hid (∀w5,cJ w5 rb tl false→Calls Tryz.prog 142 #[.pointer (some ⟨rb,0,none⟩)] w5 fun e w'=>e=.returned (.bool false)∧w'=w5):=fun w5 h=>nL w5 rb tl false h
     have b3:(0:Int)≤(at_:Int):=by omega
     have b4:(at_:Int)<(nl:Int):=by omega
     generalize N[at_]=y at Fy
     clear Nr hF oe Vk cB zU PN
     go_wp2_with (first | (go_at_call 139;refine Fy.out.mono ?_;rintro e w5 ⟨rfl,hc,y1,y2,y3,H5⟩) | (go_at_call 142;refine(FJ.out _ H5.out.1).mono ?_;rintro e w6 ⟨rfl,hw⟩;subst hw))
     go_roundw
     case rel=>exact⟨k+1,aC,by go_num,by rw[←FA.out];exact H5.out.2⟩
     case measure=>simp[intOf];omega
  · have e:k=pl:=by omega
    have HE:Hid (wr.ownsRow w.heap.size 9 1 (.slice (some ⟨w.heap.size,0,none⟩) pl pl) pl (strCells (Rd.bz N pl l f).1)∧cJ wr rb (Rd.bz N pl l f).2.1 (Rd.bz N pl l f).2.2∧Kb [rb] w wr):=by
     rw[e]at hF oe
     exact⟨hF.all oe (by omega),hF.rd,hF.kb⟩
    clear hF
    go_wp2_with fail
    go_ret
    exact⟨_,rfl,HE.out⟩
end
/- state.readGiven: what it needs. -/
section
open Go.RowKit Go.Maps
namespace Rd
theorem xk:∀(k:Nat) (X:List ByteArray) (t:List UInt8),(∀x,x∈X→x.size<268435456)→k≤X.length→texts k (X.flatMap Rc.aL++t) false=(X.take k,(X.drop k).flatMap Rc.aL++t,false)
 | 0,X,t,_,_=>by simp[texts]
 | k+1,X,t,hx,hk=>by
  have aC:k<X.length:=by omega
  have h1:=xk k X t hx (by omega)
  have hd:X.drop k=X[k]::X.drop (k+1):=List.drop_eq_getElem_cons aC
  have h2:=sY (x:=X[k]) (hx _ (List.getElem_mem aC)) ((X.drop (k+1)).flatMap Rc.aL++t)
  simp only[texts,h1]
  rw[hd,List.flatMap_cons,List.append_assoc,h2,List.take_add_one,List.getElem?_eq_getElem aC]
  rfl
theorem Ea{X:List ByteArray}(hx:∀x,x∈X→x.size<268435456)(hl:X.length≤600)(t:List UInt8):names (Rc.aV X.length++(X.flatMap Rc.aL++t)) false=(X,t,false):=by
 have h1:=iW (n:=X.length) (by omega) (most:=600) (by omega) (X.flatMap Rc.aL++t)
 have h2:=xk X.length X t hx (Nat.le_refl _)
 unfold names
 rw[h1]
 simp only
 rw[h2]
 simp
theorem xQ(N:List ByteArray)(f:ByteArray→Nat):∀(k:Nat) (X:List ByteArray) (t:List UInt8),(∀x,x∈X→N[f x]?=some x)→N.length<268435456→k≤X.length→bz N k (X.flatMap (fun x=>Rc.aV (f x))++t) false=(X.take k,(X.drop k).flatMap (fun x=>Rc.aV (f x))++t,false)
 | 0,X,t,_,_,_=>by simp[bz]
 | k+1,X,t,hx,hN,hk=>by
  have aC:k<X.length:=by omega
  have h1:=xQ N f k X t hx hN (by omega)
  have hd:X.drop k=X[k]::X.drop (k+1):=List.drop_eq_getElem_cons aC
  have hf:=hx _ (List.getElem_mem aC)
  have hfl:=(List.getElem?_eq_some_iff.1 hf).1
  have h2:=iW (n:=f X[k]) (by omega) (most:=(N.length:Int)-1) (by omega) ((X.drop (k+1)).flatMap (fun x=>Rc.aV (f x))++t)
  simp only[bz,h1]
  rw[hd,List.flatMap_cons,List.append_assoc,h2]
  simp only[Bool.false_eq_true,if_false,List.getD_eq_getElem?_getD,hf,Option.getD_some]
  rw[List.take_add_one,List.getElem?_eq_getElem aC]
  rfl
end Rd
def lj(bad:List TypeId)(w w':World):Prop:=∃S,Kb S w w'∧∀b,b∈S→b<w.heap.size→∃(cur:Array Value) (t:TypeId) (fz:Nat×Nat),w.heap[b]?=some (.cells cur t fz)∧t∈bad
theorem lj.bG{w w':World}(h:Below w.heap.size w w')(bad:List TypeId):lj bad w w':=⟨[],Kb.bG h [],by simp⟩
theorem lj.sB{w w':World}{x:Nat}{cur:Array Value}{t:TypeId}{fz:Nat×Nat}(h:Kb [x] w w')(hx:w.heap[x]?=some (.cells cur t fz)){bad:List TypeId}(ht:t∈bad):lj bad w w':=⟨[x],h,fun b hb _=>by
 simp only[List.mem_cons,List.not_mem_nil,or_false]at hb
 subst hb
 exact⟨cur,t,fz,hx,ht⟩⟩
theorem lj.trans{bad:List TypeId}{a b c:World}(h:lj bad a b)(k:lj bad b c):lj bad a c:=by
 obtain⟨S,h1,h2⟩:=h
 obtain⟨T,k1,k2⟩:=k
 refine⟨S++T,(h1.mono (fun i hi _=>by simp[hi])).trans (k1.mono (fun i hi _=>by simp[hi])), ?_⟩
 intro x hx hl
 by_cases hS:x∈S
 · exact h2 x hS hl
 · have hT:x∈T:=by
    rcases List.mem_append.1 hx with h | h
    · exact absurd h hS
    · exact h
   obtain⟨cur,t,fz,e,ht⟩:=k2 x hT (Nat.lt_of_lt_of_le hl h1.size)
   rw[h1.block x hl hS]at e
   exact⟨cur,t,fz,e,ht⟩
theorem lj.heap{bad:List TypeId}{w w':World}(h:lj bad w w'){b:Nat}{cur:Array Value}{t:TypeId}{fz:Nat×Nat}(hb:w.heap[b]?=some (.cells cur t fz))(ht:¬t∈bad):w'.heap[b]?=some (.cells cur t fz):=by
 obtain⟨S,h1,h2⟩:=h
 refine h1.heap hb (fun hS=> ?_)
 obtain⟨oJ,t',fz',e,oh⟩:=h2 b hS (lt_of_heap hb)
 rw[hb]at e
 simp at e
 exact ht (by rw[e.2.1];exact oh)
theorem lj.row{bad:List TypeId}{w w':World}(h:lj bad w w'){base:Nat}{e:TypeId}{size:Nat}{v:Value}{n:Nat}{xs:List Value}(ho:w.ownsRow base e size v n xs)(ht:¬e∈bad):w'.ownsRow base e size v n xs:=by
 obtain⟨S,h1,h2⟩:=h
 refine h1.row ho (fun b hb hS=> ?_)
 obtain⟨cur,fz,e1⟩:=cu ho b hb
 obtain⟨oJ,t',fz',e2,oh⟩:=h2 b hS (lt_of_heap e1)
 rw[e1]at e2
 simp at e2
 exact ht (by rw[e2.2.1];exact oh)
end
end Go.Proofs.YtdmicblafmhflaaGreatDoor
