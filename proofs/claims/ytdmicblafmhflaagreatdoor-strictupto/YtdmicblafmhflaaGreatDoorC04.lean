/- word and firstToken. -/
import Derived.Test.YtdmicblafmhflaaGreatDoorC03
import Derived.Lib.OthersKept
import Derived.Test.YtdmicblafmhflaaGreatDoorC00
set_option linter.unusedSimpArgs false
set_option linter.unusedVariables false
set_option maxHeartbeats 1000000
namespace Go.Proofs.YtdmicblafmhflaaGreatDoor
section
open Go.RowKit
theorem Bn(s:ByteArray)(pos:Nat)(h:pos<s.size):1≤(Utf8.decode s pos).2:=by
 by_cases ha:(s[pos]'h).toNat<128
 · rw[decode_ascii s pos h ha]
   exact Nat.le_refl _
 · exact(decode_high s pos h (by omega)).2
theorem Dh(s:ByteArray)(pos:Nat):(Utf8.decode s pos).2≤4:=by
 unfold Utf8.decode
 simp only
 repeat' split
 all_goals simp
theorem we(s:ByteArray)(p:Nat)(h:s.size≤maxLen):(s.extract p s.size).size≤maxLen:=by
 have:(s.extract p s.size).size≤s.size:=by simp only[ByteArray.size_extract];omega
 omega
theorem BE(s:ByteArray)(f p n:Nat)(h:¬p<s.size):Ax.aG s f p n=(s.size,n):=by
 cases f<;>simp[Ax.aG,h]
theorem zD(s:ByteArray)(f p n:Nat)(h:p<s.size)(hs:Ax.stops s p=true):Ax.aG s (f+1) p n=(p,n):=by
 simp[Ax.aG,h,hs]
theorem oM(s:ByteArray)(f p n:Nat)(h:p<s.size)(hs:Ax.stops s p=false):Ax.aG s (f+1) p n=Ax.aG s f (p+(Utf8.decode s p).2) (n+1):=by
 simp[Ax.aG,h,hs]
theorem Bb(s:ByteArray)(k:Int)(e n:Nat)(h:Ax.aG s s.size 0 0=(e,n))(hn:6<n):Ax.word s k=(0,0):=by
 simp[Ax.word,h,hn]
theorem Ev(s:ByteArray)(k:Int)(e n:Nat)(h:Ax.aG s s.size 0 0=(e,n))(hn:¬6<n):Ax.word s k=(k,e):=by
 simp[Ax.word,h,hn]
theorem D0(s:ByteArray)(k:Int)(w:World)(hs:s.size≤maxLen):
 Calls Tryz.prog 220 #[.string s,.int .i64 k] w fun e w'=>e=.returned (.tuple #[.int .i64 (Ax.word s k).1,.int .i64 (Ax.word s k).2])∧∃pos,w'=w.iter s pos:=by
 have UF:=hs
 unfold maxLen at hs
 go_enter Tryz.func220,Tryz.ntmps220
 go_wp2_with fail
 go_loopw [6,7] (fun a b w'=>∃(pos n f:Nat),w'=w.iter s pos∧a=.int .i64 s.size∧b=.int .i64 n∧n≤pos∧pos≤s.size+4∧s.size≤pos+f∧Hid (Ax.aG s f pos n=Ax.aG s s.size 0 0)) (fun _ _ w'=>s.size-w'.iterPos w.heap.size)
 case atStart=>exact⟨0,0,s.size,rfl,rfl,rfl,by omega,by omega,by omega,rfl⟩
 case round=>
  obtain⟨pos,n,f,rfl,rfl,rfl,hn,DQ,hf,hl⟩:=hrel
  by_cases hp:pos<s.size
  · have Uu:∀ty,(Instr.next (.pointer (some ⟨w.heap.size,0,none⟩)) true ty).run Tryz.prog (w.iter s pos)=_:=fun ty=>run_next_any w s pos ty hp
    have hwd:=Bn s pos hp
    have adj:=Dh s pos
    cases f with
    | zero=>omega
    | succ f=>
    by_cases h0:0<pos
    · by_cases xE:Ax.small (s.extract pos s.size) (Utf8.decode s pos).1=true
      · go_wp2_with (first | (go_at_call 219;refine(fM _ _ _ (we s pos UF)).mono ?_;rintro e w' ⟨rfl,rfl⟩) | (go_at_call 259;refine(lC _ _).mono ?_;rintro e w' ⟨rfl,rfl⟩))
        go_roundw
        case rel=>exact⟨pos+(Utf8.decode s pos).2,n+1,f,rfl,rfl,by go_num,by omega,by omega,by omega,(oM s f pos n hp (by simp[Ax.stops,Ax.tail,xE])).symm.trans hl.out⟩
        case measure=>simp;omega
      · have abV:Ax.small (s.extract pos s.size) (Utf8.decode s pos).1=false:=by simpa using xE
        clear xE
        by_cases hdg:Ax.digit (Utf8.decode s pos).1=true
        · go_wp2_with (first | (go_at_call 219;refine(fM _ _ _ (we s pos UF)).mono ?_;rintro e w' ⟨rfl,rfl⟩) | (go_at_call 259;refine(lC _ _).mono ?_;rintro e w' ⟨rfl,rfl⟩))
          go_roundw
          case rel=>exact⟨pos+(Utf8.decode s pos).2,n+1,f,rfl,rfl,by go_num,by omega,by omega,by omega,(oM s f pos n hp (by simp[Ax.stops,hdg])).symm.trans hl.out⟩
          case measure=>simp;omega
        · have ad9:Ax.digit (Utf8.decode s pos).1=false:=by simpa using hdg
          clear hdg
          have dU:Hid (Ax.aG s s.size 0 0=(pos,n)):=hl.out.symm.trans (zD s f pos n hp (by simp[Ax.stops,Ax.tail,h0,abV,ad9]))
          go_wp2_with (first | (go_at_call 219;refine(fM _ _ _ (we s pos UF)).mono ?_;rintro e w' ⟨rfl,rfl⟩) | (go_at_call 259;refine(lC _ _).mono ?_;rintro e w' ⟨rfl,rfl⟩))
          · have hm:6<n:=by omega
            go_ret2
            exact⟨by rw[Bb s k _ _ dU.out hm];rfl,_,rfl⟩
          · have hm:¬6<n:=by omega
            go_ret2
            exact⟨by rw[Ev s k _ _ dU.out hm];rfl,_,rfl⟩
    · go_wp2_with (first | (go_at_call 219;refine(fM _ _ _ (we s pos UF)).mono ?_;rintro e w' ⟨rfl,rfl⟩) | (go_at_call 259;refine(lC _ _).mono ?_;rintro e w' ⟨rfl,rfl⟩))
      go_roundw
      case rel=>exact⟨pos+(Utf8.decode s pos).2,n+1,f,rfl,rfl,by go_num,by omega,by omega,by omega,(oM s f pos n hp (by simp[Ax.stops];omega)).symm.trans hl.out⟩
      case measure=>simp;omega
  · have Uu:∀ty,(Instr.next (.pointer (some ⟨w.heap.size,0,none⟩)) true ty).run Tryz.prog (w.iter s pos)=_:=fun ty=>run_next_end w s pos ty hp
    have dU:Hid (Ax.aG s s.size 0 0=(s.size,n)):=hl.out.symm.trans (BE s f pos n hp)
    go_wp2_with fail
    · have hm:6<n:=by omega
      go_ret2
      exact⟨by rw[Bb s k _ _ dU.out hm];rfl,_,rfl⟩
    · have hm:¬6<n:=by omega
      go_ret2
      exact⟨by rw[Ev s k _ _ dU.out hm];rfl,_,rfl⟩
end
/- firstToken. -/
section
open Go.RowKit
theorem qm(w:World)(s:ByteArray)(pos:Nat):Below w.heap.size w (w.iter s pos):=(Below.refl _ _).alloc (Nat.le_refl _) _
theorem ft1(s:ByteArray)(r:Int)(h:(r==40)=true):Ax.aD s r=(4,1):=by simp at h;simp[Ax.aD,h]
theorem ft2(s:ByteArray)(r:Int)(h1:(r==40)=false)(h:(r==41)=true):Ax.aD s r=(5,1):=by simp at h;simp[Ax.aD,h]
theorem ft3(s:ByteArray)(r:Int)(h1:(r==40)=false)(h2:(r==41)=false)(h:(r==44)=true):Ax.aD s r=(6,1):=by simp at h;simp[Ax.aD,h]
theorem ft4(s:ByteArray)(r:Int)(h1:(r==40)=false)(h2:(r==41)=false)(h3:(r==44)=false)(h:(r==46)=true):Ax.aD s r=(7,1):=by simp at h;simp[Ax.aD,h]
theorem ft5(s:ByteArray)(r:Int)(h1:(r==40)=false)(h2:(r==41)=false)(h3:(r==44)=false)(h4:(r==46)=false)(h:Ax.pre s ⟨#[58,45]⟩=true):Ax.aD s r=(8,2):=by
 simp at h1 h2 h3 h4;simp[Ax.aD, *]
theorem ft6(s:ByteArray)(r:Int)(h1:(r==40)=false)(h2:(r==41)=false)(h3:(r==44)=false)(h4:(r==46)=false)(h5:Ax.pre s ⟨#[58,45]⟩=false)(h:Ax.small s r=true):Ax.aD s r=Ax.word s 2:=by
 simp at h1 h2 h3 h4;simp[Ax.aD, *]
theorem ft7(s:ByteArray)(r:Int)(h1:(r==40)=false)(h2:(r==41)=false)(h3:(r==44)=false)(h4:(r==46)=false)(h5:Ax.pre s ⟨#[58,45]⟩=false)(h6:Ax.small s r=false)(h:Ax.eT r=true):Ax.aD s r=Ax.word s 3:=by
 simp at h1 h2 h3 h4;simp[Ax.aD, *]
theorem ft8(s:ByteArray)(r:Int)(h1:(r==40)=false)(h2:(r==41)=false)(h3:(r==44)=false)(h4:(r==46)=false)(h5:Ax.pre s ⟨#[58,45]⟩=false)(h6:Ax.small s r=false)(h:Ax.eT r=false):Ax.aD s r=(0,0):=by
 simp at h1 h2 h3 h4;simp[Ax.aD, *]
theorem vO{t:Int×Nat}{a:Int}(h:t=(a,1)):Ending.returned (.tuple #[.int .i64 a,.int .i64 1])=.returned (.tuple #[.int .i64 t.1,.int .i64 t.2]):=by rw[h];rfl
theorem RS{t:Int×Nat}{a:Int}(h:t=(a,2)):Ending.returned (.tuple #[.int .i64 a,.int .i64 2])=.returned (.tuple #[.int .i64 t.1,.int .i64 t.2]):=by rw[h];rfl
theorem QK{t:Int×Nat}{a:Int}(h:t=(a,0)):Ending.returned (.tuple #[.int .i64 a,.int .i64 0])=.returned (.tuple #[.int .i64 t.1,.int .i64 t.2]):=by rw[h];rfl
theorem Io{t u:Int×Nat}(h:t=u):Ending.returned (.tuple #[.int .i64 u.1,.int .i64 u.2])=.returned (.tuple #[.int .i64 t.1,.int .i64 t.2]):=by rw[h]
theorem kA(s:ByteArray)(r:Int)(w:World)(hs:s.size≤maxLen):
 Calls Tryz.prog 178 #[.string s,.int .i32 r] w fun e w'=>e=.returned (.tuple #[.int .i64 (Ax.aD s r).1,.int .i64 (Ax.aD s r).2])∧Below w.heap.size w w':=by
 cases h1:(r==40)
 case true=>
  go_enter Tryz.func178,Tryz.ntmps178
  go_wp2_with fail
  go_ret2
  exact⟨vO (ft1 s r h1),Below.refl _ _⟩
 cases h2:(r==41)
 case true=>
  go_enter Tryz.func178,Tryz.ntmps178
  go_wp2_with fail
  go_ret2
  exact⟨vO (ft2 s r h1 h2),Below.refl _ _⟩
 cases h3:(r==44)
 case true=>
  go_enter Tryz.func178,Tryz.ntmps178
  go_wp2_with fail
  go_ret2
  exact⟨vO (ft3 s r h1 h2 h3),Below.refl _ _⟩
 cases h4:(r==46)
 case true=>
  go_enter Tryz.func178,Tryz.ntmps178
  go_wp2_with fail
  go_ret2
  exact⟨vO (ft4 s r h1 h2 h3 h4),Below.refl _ _⟩
 cases h5:Ax.pre s ⟨#[58,45]⟩
 case true=>
  go_enter Tryz.func178,Tryz.ntmps178
  go_wp2_with (go_at_call 143;refine(gp _ _ _ hs (by decide)).mono ?_;rintro e w' ⟨rfl,rfl⟩)
  go_ret2
  exact⟨RS (ft5 s r h1 h2 h3 h4 h5),Below.refl _ _⟩
 cases h6:Ax.small s r
 case true=>
  have za:Hid (Ax.aD s r=Ax.word s 2):=ft6 s r h1 h2 h3 h4 h5 h6
  go_enter Tryz.func178,Tryz.ntmps178
  go_wp2_with (first | (go_at_call 143;refine(gp _ _ _ hs (by decide)).mono ?_;rintro e w' ⟨rfl,rfl⟩) | (go_at_call 219;refine(fM _ _ _ hs).mono ?_;rintro e w' ⟨rfl,rfl⟩) | (go_at_call 220;refine(D0 _ _ _ hs).mono ?_;rintro e w' ⟨rfl,pos,rfl⟩))
  go_ret2
  exact⟨Io za.out,qm _ _ _⟩
 cases h7:Ax.eT r
 case true=>
  have za:Hid (Ax.aD s r=Ax.word s 3):=ft7 s r h1 h2 h3 h4 h5 h6 h7
  go_enter Tryz.func178,Tryz.ntmps178
  go_wp2_with (first | (go_at_call 143;refine(gp _ _ _ hs (by decide)).mono ?_;rintro e w' ⟨rfl,rfl⟩) | (go_at_call 219;refine(fM _ _ _ hs).mono ?_;rintro e w' ⟨rfl,rfl⟩) | (go_at_call 221;refine(pU _ _).mono ?_;rintro e w' ⟨rfl,rfl⟩) | (go_at_call 220;refine(D0 _ _ _ hs).mono ?_;rintro e w' ⟨rfl,pos,rfl⟩))
  go_ret2
  exact⟨Io za.out,qm _ _ _⟩
 go_enter Tryz.func178,Tryz.ntmps178
 go_wp2_with (first | (go_at_call 143;refine(gp _ _ _ hs (by decide)).mono ?_;rintro e w' ⟨rfl,rfl⟩) | (go_at_call 219;refine(fM _ _ _ hs).mono ?_;rintro e w' ⟨rfl,rfl⟩) | (go_at_call 221;refine(pU _ _).mono ?_;rintro e w' ⟨rfl,rfl⟩))
 go_ret2
 exact⟨QK (ft8 s r h1 h2 h3 h4 h5 h6 h7),Below.refl _ _⟩
end
/- split. -/
section
open Go.RowKit
def dk(l:List Ax.Tok):List Value:=l.flatMap fun t=>[.int .i64 t.kind,.int .i64 t.at_,.string t.text]
theorem lQ(l:List Ax.Tok)(t:Ax.Tok):dk (l++[t])=dk l++[.int .i64 t.kind,.int .i64 t.at_,.string t.text]:=by simp[dk]
theorem Tryz.Qi:(Tryz.prog.info? 210).map (fun i=>(i.zero,i.size,i.bytes))=some (some (.agg #[.int .i64 0,.int .i64 0,.string ByteArray.empty]),3,32):=by kernel_rfl
theorem af{w w':World}{base:Nat}{e:TypeId}{size:Nat}{v:Value}{n:Nat}{xs:List Value}(h:w.ownsRow base e size v n xs)(hb:Below w.heap.size w w'):w'.ownsRow base e size v n xs:=
 h.kept (row:=none) ⟨hb.os,hb.tape,hb.output,hb.size,fun k hk _=>hb.block k hk⟩ (by cases hv:v.ownBlock<;>simp)
theorem ownsRow_iterAt{w:World}{base:Nat}{e:TypeId}{size:Nat}{v:Value}{n:Nat}{xs:List Value}(h:w.ownsRow base e size v n xs){k:Nat}(hk:k<base)(s:ByteArray)(pos:Nat):(w.iterAt k s pos).ownsRow base e size v n xs:=by
 refine⟨h.1, ?_⟩
 rcases h.2 with hn | ⟨g,cap,cur,hv,hg,hh,r⟩
 · exact .inl hn
 · exact .inr ⟨g,cap,cur,hv,hg,by rw[Lib.iterAt_other _ _ _ _ _ (by omega)];exact hh,r⟩
theorem mv(w:World)(t:TypeId)(xs:List Value):∀(j:Nat) (u:Value),xs[j]?=some u→(w.alloc (.cells xs.toArray t)).cell? ((⟨w.heap.size,0,none⟩:Addr).add j)=some u:=by
 intro j u hu
 have dR:(⟨w.heap.size,0,none⟩:Addr).add j=⟨w.heap.size,j,none⟩:=by unfold Addr.add;split<;>simp_all
 rw[dR,cell_of_row _ w.heap.size j xs.toArray t (0,0) (heap_alloc_new w _)]
 simpa using hu
theorem lt_of_heap{w:World}{k:Nat}{o:Obj}(h:w.heap[k]?=some o):k<w.heap.size:=(Array.getElem?_eq_some_iff.1 h).1
def yk(s:ByteArray)(w wr:World)(v:Value)(pos D5 f:Nat)(acc:List Ax.Tok):Prop:=
 wr.heap[w.heap.size]?=some (.stringIter s pos)∧wr.ownsRow (w.heap.size+1) 210 3 v acc.length (dk acc)∧Below w.heap.size w wr∧
 acc.length≤pos∧pos≤s.size+4∧s.size≤pos+f∧D5≤s.size∧Ax.aX s f pos D5 acc=Ax.split s
theorem uZ{s:ByteArray}{w wr w1 w2:World}{v:Value}{n pos pos':Nat}{xs:List Value}{o:Obj}(hit:wr.heap[w.heap.size]?=some (.stringIter s pos))
 (aj:wr.ownsRow (w.heap.size+1) 210 3 v n xs)(aR:Below w.heap.size w wr)
 (bk:Below (wr.iterAt w.heap.size s pos').heap.size (wr.iterAt w.heap.size s pos') w1)(bx:(w1.alloc o).grownBy w2 v.ownBlock):
 w2.heap[w.heap.size]?=some (.stringIter s pos')∧Below w.heap.size w w2:=by
 have aC:=lt_of_heap hit
 have cr:(wr.iterAt w.heap.size s pos').heap.size=wr.heap.size:=Lib.iterAt_size _ _ _ _
 have kW:=bk.size
 have cL:some w.heap.size≠v.ownBlock:=by
  intro e
  have:=(aj.lt _ e.symm).1
  omega
 refine⟨?_, ?_⟩
 · rw[bx.block _ (by simp;omega) cL,Below.heap_alloc _ _ _ (by omega),bk.block _ (by omega)]
   exact Lib.iterAt_heap _ _ _ _ _ hit
 · refine((Lib.below_iterAt aR (Nat.le_refl _) s pos').trans ?_)
   refine((bk.mono (by omega)).alloc (by omega) o).grown bx (by simp;omega) ?_
   intro k hk
   have:=(aj.lt _ hk).1
   omega
theorem DJ(s:ByteArray)(w:World):yk s w (w.iter s 0) (.slice none 0 0) 0 0 s.size []:=
 ⟨World.iter_heap _ _ _,World.ownsRow_nil _ _ _ _,qm _ _ _,Nat.le_refl _,Nat.zero_le _,by omega,Nat.zero_le _,rfl⟩
theorem ja{w:World}{k:Nat}{s:ByteArray}{pos:Nat}(h:w.heap[k]?=some (.stringIter s pos)):w.iterPos k=pos:=by simp[World.iterPos,h]
theorem aN{w:World}{b b':Nat}{e:TypeId}{size:Nat}{v:Value}{n:Nat}{xs:List Value}(h:w.ownsRow b e size v n xs)(hb:b'≤b):w.ownsRow b' e size v n xs:=by
 refine⟨h.1, ?_⟩
 rcases h.2 with hn | ⟨g,cap,cur,hv,hg,r⟩
 · exact .inl hn
 · exact .inr ⟨g,cap,cur,hv,by omega,r⟩
theorem kq(s:ByteArray)(w:World)(hs:s.size≤600):
 Calls Tryz.prog 103 #[.string s] w fun e w'=>∃v,e=.returned v∧w'.ownsRow w.heap.size 210 3 v (Ax.split s).length (dk (Ax.split s))∧Below w.heap.size w w':=by
 obtain⟨i0,hi,eX,eP,eA⟩:=info_parts Tryz.Qi
 go_enter Tryz.func103,Tryz.ntmps103
 go_wp2_with fail
 go_loopw [3,4] (fun v b wr=>∃(pos D5 f:Nat) (acc:List Ax.Tok),b=.int .i64 D5∧yk s w wr v pos D5 f acc) (fun _ _ wr=>s.size-wr.iterPos w.heap.size)
 case atStart=>exact⟨0,0,s.size,[],rfl,DJ s w⟩
 case round=>
  obtain⟨pos,D5,f,acc,rfl,hit,aj,aR,PE,DQ,hf,acM,hl⟩:=hrel
  have HL:Hid (Ax.aX s f pos D5 acc=Ax.split s):=hl
  clear hl
  have aC:=lt_of_heap hit
  by_cases hp:pos<s.size
  · have Uu:∀ty,(Instr.next (.pointer (some ⟨w.heap.size,0,none⟩)) true ty).run Tryz.prog wr=_:=fun ty=>Lib.run_next_any_at wr w.heap.size s pos ty hit hp
    have hwd:=Bn s pos hp
    have adj:=Dh s pos
    cases f with
    | zero=>omega
    | succ f=>
    have skip:∀(hb:pos<D5∨Ax.blank (Utf8.decode s pos).1=true),yk s w (wr.iterAt w.heap.size s (pos+(Utf8.decode s pos).2)) u3 (pos+(Utf8.decode s pos).2) D5 f acc:=fun hb=>
     ⟨Lib.iterAt_heap _ _ _ _ _ hit,ownsRow_iterAt aj (by omega) _ _,Lib.below_iterAt aR (Nat.le_refl _) _ _,by omega,by omega,by omega,acM,(Ax.ia s f pos D5 acc hp hb).symm.trans HL.out⟩
    by_cases hb:pos<D5
    · have SK:=skip (.inl hb)
      clear skip aj
      go_wp2_with fail
      go_roundw
      case rel=>exact⟨_,D5,f,acc,rfl,SK⟩
      case measure=>rw[ja SK.1,ja hit];omega
    · cases fE:Ax.blank (Utf8.decode s pos).1
      case true=>
       have SK:=skip (.inr fE)
       clear skip aj
       go_wp2_with (go_at_call 177;refine(o9 _ _).mono ?_;rintro e w' ⟨rfl,rfl⟩)
       go_roundw
       case rel=>exact⟨_,D5,f,acc,rfl,SK⟩
       case measure=>rw[ja SK.1,ja hit];omega
      case false=>
       clear skip
       have Cl:Hid (¬(pos<D5∨Ax.blank (Utf8.decode s pos).1=true)):=by rw[fE];simp[Hid];omega
       have cr:(s.extract pos s.size).size≤maxLen:=by simp only[ByteArray.size_extract];unfold maxLen;omega
       have T6:=Ax.EH (s.extract pos s.size) (Utf8.decode s pos).1 (by simp only[ByteArray.size_extract];omega)
       simp only[ByteArray.size_extract]at T6
       obtain⟨kd,sz,za⟩:∃kd sz,Ax.aD (s.extract pos s.size) (Utf8.decode s pos).1=(kd,sz):=⟨_,_,rfl⟩
       rw[za]at T6
       simp only at T6
       have Xc:Hid (Ax.aD (s.extract pos s.size) (Utf8.decode s pos).1=(kd,sz)):=za
       clear za
       cases FO:(kd==0)
       case false=>
        go_wp2_with (first | (go_at_call 177;refine(o9 _ _).mono ?_;rintro e w' ⟨rfl,rfl⟩) | (go_at_call 178;refine(kA _ _ _ cr).mono ?_;rintro e w1 ⟨rfl,bk⟩;rw[Xc.out];have bj:=af (ownsRow_iterAt aj (by omega) _ _) bk;have JV:=bk.size) | (at_builtin;refine wpList_append_own _ rfl (.tmp 30) (.tmp 40) 202 rfl (w.heap.size+1) 210 i0 _ 3 32 Tryz.underlying202 hi eX eP eA rfl (by decide) _ _ _ rfl (bj.alloc _) ⟨w1.heap.size,0,none⟩ 1 1 [.int .i64 kd,.int .i64 pos,.string (s.extract pos (pos+sz))] rfl rfl (mv _ _ _) (by simp[Value.oneCell']) (by unfold maxLen;omega) (by omega) (by rw[Lib.iterAt_size]at JV;simp;omega) ?_;intro v2 w2 aO bx _;obtain⟨TR,fU⟩:=uZ hit aj aR bk bx;clear bx bj))
        go_roundw
        case rel=>
         refine⟨pos+(Utf8.decode s pos).2,pos+sz,f,acc++[⟨kd,pos,s.extract pos (pos+sz)⟩],by go_num,TR, ?_,fU, ?_,by omega,by omega,by omega, ?_⟩
         · rw[lQ];simpa using aO
         · simp;omega
         · exact(Ax.qY s f pos D5 acc hp Cl.out kd sz Xc.out (by simpa using FO)).symm.trans HL.out
        case measure=>rw[ja TR,ja hit];omega
       case true=>
        go_wp2_with (first | (go_at_call 177;refine(o9 _ _).mono ?_;rintro e w' ⟨rfl,rfl⟩) | (go_at_call 178;refine(kA _ _ _ cr).mono ?_;rintro e w1 ⟨rfl,bk⟩;rw[Xc.out];have bj:=af (ownsRow_iterAt aj (by omega) _ _) bk;have JV:=bk.size) | (at_builtin;refine wpList_append_own _ rfl (.tmp 30) (.tmp 40) 202 rfl (w.heap.size+1) 210 i0 _ 3 32 Tryz.underlying202 hi eX eP eA rfl (by decide) _ _ _ rfl (bj.alloc _) ⟨w1.heap.size,0,none⟩ 1 1 [.int .i64 kd,.int .i64 pos,.string (s.extract pos (pos+sz))] rfl rfl (mv _ _ _) (by simp[Value.oneCell']) (by unfold maxLen;omega) (by omega) (by rw[Lib.iterAt_size]at JV;simp;omega) ?_;intro v2 w2 aO bx _;obtain⟨TR,fU⟩:=uZ hit aj aR bk bx;clear bx bj))
        go_ret
        have Tr:Ax.split s=acc++[⟨kd,pos,s.extract pos (pos+sz)⟩]:=HL.out.symm.trans (Ax.nZ s f pos D5 acc hp Cl.out kd sz Xc.out (by simpa using FO))
        refine⟨_,rfl, ?_,fU⟩
        rw[Tr,lQ]
        refine aN (by simpa using aO) (Nat.le_succ _)
  · have Uu:∀ty,(Instr.next (.pointer (some ⟨w.heap.size,0,none⟩)) true ty).run Tryz.prog wr=_:=fun ty=>Lib.run_next_end_at wr w.heap.size s pos ty hit hp
    have Tr:Hid (Ax.split s=acc++[⟨1,s.size,ByteArray.empty⟩]):=HL.out.symm.trans (Ax.pV s f pos D5 acc hp)
    go_wp2_with (at_builtin;refine wpList_append_own _ rfl (.tmp 48) (.tmp 52) 202 rfl (w.heap.size+1) 210 i0 _ 3 32 Tryz.underlying202 hi eX eP eA rfl (by decide) _ _ _ rfl (aj.alloc _) ⟨wr.heap.size,0,none⟩ 1 1 [.int .i64 1,.int .i64 s.size,.string ByteArray.empty] rfl rfl (mv _ _ _) (by simp[Value.oneCell']) (by unfold maxLen;omega) (by omega) (by simp;omega) ?_;intro v2 w2 aO bx _)
    go_ret
    refine⟨_,rfl, ?_, ?_⟩
    · rw[Tr.out,lQ]
      refine aN (by simpa using aO) (Nat.le_succ _)
    · refine(aR.alloc (by omega) _).grown bx (by simp;omega) ?_
      intro k hk
      have:=(aj.lt _ hk).1
      omega
end
/- The parser: peek, take. -/
section
open Go.RowKit
def dg(w:World)(pb:Nat)(tv:Value)(aa:List Ax.Tok)(nx:Nat):Prop:=
 w.heap[pb]?=some (.cells #[tv,.int .i64 nx] 205 (0,0))∧w.ownsRow 0 210 3 tv aa.length (dk aa)∧nx<aa.length∧aa.length≤1000∧Ax.Ends aa
theorem jX(l:List Ax.Tok)(k:Nat)(h:k<l.length):
 (dk l)[k*3]?=some (.int .i64 l[k].kind)∧(dk l)[k*3+1]?=some (.int .i64 l[k].at_)∧(dk l)[k*3+2]?=some (.string l[k].text):=by
 induction l generalizing k with
 | nil=>simp at h
 | cons a l ih=>
  cases k with
  | zero=>simp[dk]
  | succ k=>
   have:=ih k (by simpa using h)
   have e:∀j,(dk (a::l))[(k+1)*3+j]?=(dk l)[k*3+j]?:=by
    intro j
    have:dk (a::l)=[.int .i64 a.kind,.int .i64 a.at_,.string a.text]++dk l:=by simp[dk]
    rw[this,List.getElem?_append_right (by simp;omega)]
    congr 1
    simp;omega
   have e0:=e 0
   simp only[Nat.add_zero]at e0
   rw[e0,e 1,e 2]
   simpa using this
theorem qV{aa:List Ax.Tok}{nx:Nat}{t:Ax.Tok}(ht:aa[nx]?=some t):∃h:nx<aa.length,aa[nx]=t:=List.getElem?_eq_some_iff.1 ht
theorem dg.cells{w:World}{pb:Nat}{tv:Value}{aa:List Ax.Tok}{nx:Nat}(h:dg w pb tv aa nx){t:Ax.Tok}(ht:aa[nx]?=some t):
 ∃tb cap,tv=.slice (some ⟨tb,0,none⟩) aa.length cap∧w.cell? ⟨pb,0,none⟩=some tv∧w.cell? ⟨pb,1,none⟩=some (.int .i64 nx)∧pb<w.heap.size∧tb<w.heap.size∧tb≠pb∧
  w.frozen? ⟨pb,1,none⟩=false∧aa.length≤cap∧
  w.cell? ⟨tb,nx*3,none⟩=some (.int .i64 t.kind)∧w.cell? ⟨tb,nx*3+1,none⟩=some (.int .i64 t.at_)∧w.cell? ⟨tb,nx*3+2,none⟩=some (.string t.text):=by
 obtain⟨hp,aj,aC,hle,l7⟩:=h
 obtain⟨_,rfl⟩:=qV ht
 rcases aj.2 with⟨rfl,h0⟩ | ⟨g,cap,cur,rfl,_,hg,hc,_⟩
 · omega
 · have bA:=World.ownsRow.cells aj (g:=g) rfl
   have dR:∀j,(⟨g,0,none⟩:Addr).add j=⟨g,j,none⟩:=by intro j;unfold Addr.add;split<;>simp_all
   obtain⟨c0,c1,c2⟩:=jX aa nx aC
   have d0:=bA _ _ c0
   have d1:=bA _ _ c1
   have d2:=bA _ _ c2
   rw[dR]at d0 d1 d2
   refine⟨g,cap,rfl, ?_, ?_,lt_of_heap hp,lt_of_heap hg, ?_, ?_,hc,d0,d1,d2⟩
   · rw[cell_of_row _ pb 0 _ _ _ hp];rfl
   · rw[cell_of_row _ pb 1 _ _ _ hp];rfl
   · intro e
     rw[e,hp]at hg
     simp at hg
   · simp[World.frozen?,hp]
theorem dY(w:World)(pb:Nat)(tv:Value)(aa:List Ax.Tok)(nx:Nat)(h:dg w pb tv aa nx)(t:Ax.Tok)(ht:Hid (aa[nx]?=some t)):
 Calls Tryz.prog 105 #[.pointer (some ⟨pb,0,none⟩)] w fun e w'=>e=.returned (.agg #[.int .i64 t.kind,.int .i64 t.at_,.string t.text])∧Below w.heap.size w w':=by
 have aC:=h.2.2.1
 have hle:=h.2.2.2.1
 obtain⟨tb,cap,rfl,c0,c1,yB,Un,cL,SD,na,d0,d1,d2⟩:=h.cells ht.out
 clear h
 go_enter Tryz.func105,Tryz.ntmps105
 go_wp2_with fail
 go_region
 all_goals (try go_wp2_with fail)
 exact bodyPost_ret (v:=.agg #[.int .i64 t.kind,.int .i64 t.at_,.string t.text]) (by simp[results,Tryz.results105,go_sem]) rfl ⟨rfl,((Below.refl _ _).alloc (Nat.le_refl _) _).drew⟩
theorem al{w w1 w2:World}{row:Option Nat}(h:w.grownBy w1 row)(k:w1.grownBy w2 row):w.grownBy w2 row:=
 ⟨k.os.trans h.os,k.tape.trans h.tape,k.output.trans h.output,Nat.le_trans h.size k.size,fun i hi hr=>(k.block i (Nat.lt_of_lt_of_le hi h.size) hr).trans (h.block i hi hr)⟩
theorem aT{w w':World}(h:Below w.heap.size w w')(row:Option Nat):w.grownBy w' row:=⟨h.os,h.tape,h.output,h.size,fun k hk _=>h.block k hk⟩
theorem ic(w:World)(row:Option Nat):w.grownBy w row:=⟨rfl,rfl,rfl,Nat.le_refl _,fun _ _ _=>rfl⟩
theorem grownBy_alloc{w w1:World}{row:Option Nat}(h:w.grownBy w1 row)(o:Obj):w.grownBy (w1.alloc o) row:=al h (World.grownBy_alloc w1 o row)
theorem fP{w w1:World}{row:Option Nat}(h:w.grownBy w1 row):w.grownBy w1.drew row:=⟨h.os,h.tape,h.output,h.size,h.block⟩
theorem grownBy_setCell{w:World}(a:Addr)(v:Value):w.grownBy (w.setCell a v) (some a.block):=
 ⟨rfl,rfl,rfl,by simp[World.setCell],fun k _ hr=>Below.heap_setCell _ _ _ _ (fun e=>hr (by rw[e]))⟩
theorem cX{w w1:World}{row:Option Nat}(h:w.grownBy w1 row){a:Addr}(ha:w.heap.size≤a.block)(v:Value):w.grownBy (w1.setCell a v) row:=
 ⟨h.os,h.tape,h.output,by have:=h.size;simp[World.setCell];omega,fun k hk hr=>(Below.heap_setCell _ _ _ _ (by omega)).trans (h.block k hk hr)⟩
theorem dg.below{w w':World}{pb:Nat}{tv:Value}{aa:List Ax.Tok}{nx:Nat}(h:dg w pb tv aa nx)(hb:Below w.heap.size w w'):dg w' pb tv aa nx:=
 ⟨(hb.block pb (lt_of_heap h.1)).trans h.1,af h.2.1 hb,h.2.2⟩
theorem cV{w w':World}{b:Nat}{e e':TypeId}{size:Nat}{v:Value}{n:Nat}{xs:List Value}{row:Option Nat}(h:w.ownsRow b e size v n xs)(hg:w.grownBy w' row)
 (hr:∀k,row=some k→∃cur fz,w.heap[k]?=some (.cells cur e' fz))(cL:e≠e'):w'.ownsRow b e size v n xs:=by
 refine h.kept hg ?_
 rcases h.2 with⟨rfl,_⟩ | ⟨g,cap,cur,rfl,_,hh,_⟩
 · exact .inl rfl
 · refine .inr fun e1=> ?_
   obtain⟨oJ,fz,hk⟩:=hr g e1.symm
   rw[hk]at hh
   simp at hh
   exact cL hh.2.1.symm
theorem dg.step{w w':World}{pb:Nat}{tv:Value}{aa:List Ax.Tok}{nx nx':Nat}(h:dg w pb tv aa nx)(hg:w.grownBy w' (some pb))(hp:w'.heap[pb]?=some (.cells #[tv,.int .i64 nx'] 205 (0,0)))(hn:nx'<aa.length):dg w' pb tv aa nx':=
 ⟨hp,cV h.2.1 hg (e':=205) (fun k hk=>by cases hk;exact⟨_,_,h.1⟩) (by decide),hn,h.2.2.2⟩
theorem Tryz.sS(a b:Int)(c:ByteArray)(w:World):(Instr.field 210 (.agg #[.int .i64 a,.int .i64 b,.string c]) 0).run Tryz.prog w=.ok (.int .i64 a) w:=by kernel_rfl
theorem Tryz.pC(a b:Int)(c:ByteArray)(w:World):(Instr.field 210 (.agg #[.int .i64 a,.int .i64 b,.string c]) 1).run Tryz.prog w=.ok (.int .i64 b) w:=by kernel_rfl
theorem Fg{w:World}{pb:Nat}{a b c:Value}{t:TypeId}(h:w.heap[pb]?=some (.cells #[a,b] t (0,0))):(w.setCell ⟨pb,1,none⟩ c).heap[pb]?=some (.cells #[a,c] t (0,0)):=by
 simp only[World.setCell,Array.getElem?_modify,h]
 simp
theorem dm(w:World)(pb:Nat)(tv:Value)(aa:List Ax.Tok)(nx:Nat)(h:dg w pb tv aa nx)(t:Ax.Tok)(ht:Hid (aa[nx]?=some t))(kd:Int)(hk:2≤kd)(he:(t.kind==kd)=true):
 Calls Tryz.prog 223 #[.pointer (some ⟨pb,0,none⟩),.int .i64 kd] w fun e w'=>e=.returned (.bool true)∧dg w' pb tv aa (nx+1)∧w.grownBy w' (some pb):=by
 have vU:nx+1<aa.length:=by
  obtain⟨aC,e⟩:=qV ht.out
  have e2:t.kind=kd:=by simpa using he
  exact h.2.2.2.2.next aC (by rw[e];omega) (by rw[e];omega)
 have hle:=h.2.2.2.1
 have cL:(t.kind != kd)=false:=by simpa using he
 clear he
 have ur:=Tryz.sS
 go_enter Tryz.func223,Tryz.ntmps223
 go_wp2_with (go_at_call 105;refine(dY _ _ _ _ _ h _ ht).mono ?_;rintro e w1 ⟨rfl,bk⟩;obtain⟨tb,cap,_,_,c1,yB,_,_,SD,_⟩:=(h.below bk).cells ht.out)
 go_ret
 refine⟨rfl, ?_, ?_⟩
 · refine(h.below bk).step (grownBy_setCell _ _) ?_ vU
   rw[Fg (h.below bk).1]
   go_num
 · exact al (aT bk _) (grownBy_setCell _ _)
theorem gx(w:World)(pb:Nat)(tv:Value)(aa:List Ax.Tok)(nx:Nat)(h:dg w pb tv aa nx)(t:Ax.Tok)(ht:Hid (aa[nx]?=some t))(kd:Int)(he:(t.kind==kd)=false):
 Calls Tryz.prog 223 #[.pointer (some ⟨pb,0,none⟩),.int .i64 kd] w fun e w'=>e=.returned (.bool false)∧Below w.heap.size w w':=by
 have cL:(t.kind != kd)=true:=by simpa using he
 clear he
 have ur:=Tryz.sS
 go_enter Tryz.func223,Tryz.ntmps223
 go_wp2_with (go_at_call 105;refine(dY _ _ _ _ _ h _ ht).mono ?_;rintro e w1 ⟨rfl,bk⟩)
 go_ret
 exact⟨rfl,bk⟩
end
end Go.Proofs.YtdmicblafmhflaaGreatDoor
