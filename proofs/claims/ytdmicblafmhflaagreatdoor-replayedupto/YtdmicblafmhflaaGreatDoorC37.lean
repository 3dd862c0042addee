/- axiomkeep: text, walked. -/
import Derived.Test.YtdmicblafmhflaaGreatDoorC36
import Derived.Deep.CutRange
import Derived.Test.YtdmicblafmhflaaGreatDoorC11
import Derived.Deep.RegionHeld3
import Derived.Deep.AppendLies
import Derived.Test.YtdmicblafmhflaaGreatDoorC33
import Derived.BigQuiet
set_option linter.unusedSimpArgs false
set_option linter.unusedVariables false
set_option maxHeartbeats 8000000
set_option maxRecDepth 100000
namespace Go.Proofs.YtdmicblafmhflaaGreatDoor
section
open Go.RowKit
theorem Po(w:World)(ad:Option Addr)(n c:Nat)(l:List Ax.ay)(h:qY w ad n c l)(R:ByteArray)(HR:Hid (kk (l.take 6) yA=R)):
 Calls Tryz.prog 35 #[.slice ad n c] w fun e w'=>e=.returned (.string R)∧Below w.heap.size w w'∧R.size≤338:=by
 have Ci:c≤9223372036854775807:=h.max
 have VE:=h.cap
 have hlen:=h.len
 rw[OX]at HR
 go_enter Tryz.func35,Tryz.ntmps35
 go_wp2_with fail
 go_loopw [3,4] (fun sv iv wr=>∃(i:Nat) (q:ByteArray),i≤min n 6∧sv=.string q∧iv=.int .i64 i∧Below w.heap.size w wr∧q.size≤38+50*i∧kk ((l.take 6).drop i) q=R) (fun _ iv _=>6-(intOf iv).toNat)
 case atStart=>exact⟨0,_,Nat.zero_le _,rfl,rfl,Below.refl _ _,by decide,HR.out⟩
 case round=>
  obtain⟨i,q,hi,rfl,rfl,aU,F7,hr⟩:=hrel
  have Jf:Hid (kk ((l.take 6).drop i) q=R):=hr
  clear hr HR
  have cE:=aU.size
  by_cases aE:i<min n 6
  · have xG:decide ((i:Int)<(n:Int))=true:=by simp;omega
    have Bt:decide ((i:Int)<6)=true:=by simp;omega
    have hn3:(i:Int)<(n:Int):=by omega
    have fl:(l.take 6).drop i=l[i]::(l.take 6).drop (i+1):=by
     rw[List.drop_eq_getElem_cons (by rw[List.length_take];omega),List.getElem_take]
    rw[fl]at Jf
    clear fl
    obtain⟨g,o,PD,Fk⟩:=h.at_ i (by omega)
    subst PD
    generalize l[i]=r at*
    have HN:Hid (kk ((l.take 6).drop (i+1)) (Az r q)=R):=Jf
    clear Jf
    obtain⟨⟨e0,e1,e2,f0,f1,f2⟩,bd,bn,bc,e3,hB⟩:=Fk
    have HT:Hid (Az r q=kx (Ax.jS r) 0 (q++uQ (Ax.bk r.head.pred 3) (Ax.eH r))++⟨#[46]⟩):=rfl
    have St:=QK hB f0 f1 f2 _ rfl
    have PC:=vZ (w:=w) f0 _ (zP r).2 (DQ r) _ rfl
    have hAs:=xi (Ax.bk r.head.pred 3) (Ax.eH r) (zP r).2
    have LL:=hB.two
    obtain⟨m,hm⟩:∃m,min bn 2=m:=⟨_,rfl⟩
    have YB:m≤2:=by omega
    have EK:=Qf hB r.head.pred r.head.a r.head.b m hm
    rw[hm]at LL
    clear hm hB
    generalize Az r q=Q at*
    generalize uQ (Ax.bk r.head.pred 3) (Ax.eH r)=A at*
    generalize Ax.eH r=T at*
    generalize Ax.jS r=gb at*
    rcases r with⟨⟨p,a,b⟩,rb⟩
    simp only at*
    have E0:=bz aU e0
    have E1:=bz aU e1
    have E2:=bz aU e2
    have E3:=bz aU e3
    have hA1:(q++A).size≤50+50*i:=by rw[ByteArray.size_append];omega
    go_upto_region 5 with fail
    go_cut [3]from 7 to 62 (fun sv wx=>sv=.string (q++A)∧Below w.heap.size w wx)
    case first=>
     go_region_with (first | (go_at_call 62;refine(St _ (by first | exact aU | exact aU.drew)).mono ?_;rintro e w2 ⟨d2,c2,rfl,yE,cM⟩;have G0:=bz cM e0) | (go_at_call 61;refine(PC _ _ _ cM yE).mono ?_;rintro e w3 ⟨rfl,eA⟩))
     all_goals (go_wp2_with fail)
     all_goals go_meet
     all_goals exact⟨rfl,by first | exact eA | exact eA.drew⟩
    case rest=>
     obtain⟨rfl,yJ⟩:=hcut
     clear E0 E1 E2 E3 aU St PC F7 cE
     have K0:=bz yJ e0
     have K1:=bz yJ e1
     have K2:=bz yJ e2
     have K3:=bz yJ e3
     go_wp2_with (go_at_call 63;refine(EK _ yJ).mono ?_;rintro e w4 ⟨rfl,kW⟩)
     generalize (q++A:ByteArray)=q1 at*
     clear K0 K1 K2 K3 yJ EK
     obtain⟨Z,hZ⟩:∃Z,kx gb 0 q1=Z:=⟨_,rfl⟩
     have HZ:Hid (kx gb 0 q1=Z):=hZ
     rw[hZ]at HT
     clear hZ e0 e1 e2 e3
     have mO:=LL.len
     have hbm:bc≤9223372036854775807:=LL.max
     have hmc:=LL.cap
     go_loopw [3,6] (fun sv kv wx=>∃(k:Nat) (q2:ByteArray),k≤m∧sv=.string q2∧kv=.int .i64 k∧Below w.heap.size w wx∧q2.size≤50+50*i+15*k∧kx (gb.drop k) k q2=Z) (fun _ kv _=>m-(intOf kv).toNat)
     case atStart=>exact⟨0,_,Nat.zero_le _,rfl,rfl,kW,by omega,HZ.out⟩
     case round=>
      obtain⟨k,q2,hk,rfl,rfl,Pq,hq2,hz⟩:=hrel
      have X2:Hid (kx (gb.drop k) k q2=Z):=hz
      clear hz HZ kW
      by_cases hkm:k<m
      · have fl:gb.drop k=gb[k]::gb.drop (k+1):=List.drop_eq_getElem_cons (by omega)
        rw[fl]at X2
        clear fl
        obtain⟨bg,bo,PD,ha⟩:=LL.at_ k (by omega)
        subst PD
        generalize gb[k]=x at*
        obtain⟨e0,e1,e2,f0,f1,f2⟩:=ha
        have hte:=MY (w:=w) f0 f1 f2 _ rfl
        have PC:=vZ (w:=w) f0 _ (kL x).2 (rA x) (wA x) rfl
        have hAs:=xi (Ax.bk x.pred 3) (Ax.bW x) (kL x).2
        have hAs:(wA x).size≤12:=hAs
        have ZL:Hid (kx (gb.drop (k+1)) (k+1) ((if k=0 then q2++⟨#[58,45]⟩else q2++⟨#[44]⟩)++wA x)=Z):=X2
        clear X2
        generalize wA x=A at*
        generalize Ax.bW x=T at*
        rcases x with⟨p,a,b⟩
        simp only at*
        have E0:=bz Pq e0
        have E1:=bz Pq e1
        have E2:=bz Pq e2
        have KS:(k:Int)<(m:Int):=by omega
        by_cases ET:k=0
        · have bL:(((k:Nat):Int)==0)=true:=by simp;omega
          have HQ:Hid (kx (gb.drop (k+1)) (k+1) (q2++⟨#[58,45]⟩++A)=Z):=by
           have:=ZL.out
           rw[if_pos ET]at this
           exact this
          have h1s:(⟨#[58,45]⟩:ByteArray).size=2:=rfl
          have kV:(q2++⟨#[58,45]⟩:ByteArray).size≤52+50*i+15*k:=by rw[ByteArray.size_append];omega
          have zX:(q2++⟨#[58,45]⟩++A:ByteArray).size≤50+50*i+15*(k+1):=by rw[ByteArray.size_append,ByteArray.size_append];omega
          clear ZL ET
          go_wp2_with fail
          go_region_with (first | (go_at_call 64;refine(hte _ (by first | exact Pq | exact Pq.drew)).mono ?_;rintro e w2 ⟨d2,c2,rfl,yE,cM⟩;have G0:=bz cM e0) | (go_at_call 61;refine(PC _ _ _ cM yE).mono ?_;rintro e w3 ⟨rfl,eA⟩))
          all_goals (go_wp2_with fail)
          all_goals (go_roundw;(case rel=>exact⟨k+1,_,by omega,rfl,by go_num,(by first | exact eA | exact eA.drew),by omega,HQ.out⟩);(case measure=>simp[intOf];omega))
        · have bL:(((k:Nat):Int)==0)=false:=by simp;omega
          have HQ:Hid (kx (gb.drop (k+1)) (k+1) (q2++⟨#[44]⟩++A)=Z):=by
           have:=ZL.out
           rw[if_neg ET]at this
           exact this
          have h1s:(⟨#[44]⟩:ByteArray).size=1:=rfl
          have kV:(q2++⟨#[44]⟩:ByteArray).size≤52+50*i+15*k:=by rw[ByteArray.size_append];omega
          have zX:(q2++⟨#[44]⟩++A:ByteArray).size≤50+50*i+15*(k+1):=by rw[ByteArray.size_append,ByteArray.size_append];omega
          clear ZL ET
          go_wp2_with fail
          go_region_with (first | (go_at_call 64;refine(hte _ (by first | exact Pq | exact Pq.drew)).mono ?_;rintro e w2 ⟨d2,c2,rfl,yE,cM⟩;have G0:=bz cM e0) | (go_at_call 61;refine(PC _ _ _ cM yE).mono ?_;rintro e w3 ⟨rfl,eA⟩))
          all_goals (go_wp2_with fail)
          all_goals (go_roundw;(case rel=>exact⟨k+1,_,by omega,rfl,by go_num,(by first | exact eA | exact eA.drew),by omega,HQ.out⟩);(case measure=>simp[intOf];omega))
      · have hqZ:q2=Z:=by
         have:=X2.out
         rw[List.drop_eq_nil_of_le (by omega)]at this
         exact this
        subst hqZ
        clear X2
        have h1s:(⟨#[46]⟩:ByteArray).size=1:=rfl
        have aky:(q2++⟨#[46]⟩:ByteArray).size≤88+50*i:=by rw[ByteArray.size_append];omega
        go_wp2_with fail
        go_roundw
        case rel=>exact⟨i+1,_,by omega,rfl,by go_num,Pq,by omega,by rw[←HT.out];exact HN.out⟩
        case measure=>simp[intOf];omega
  · by_cases dN:i<n
    · have xG:decide ((i:Int)<(n:Int))=true:=by simp;omega
      have Bt:decide ((i:Int)<6)=false:=by simp;omega
      have YJ:q=R:=by
       have:=Jf.out
       rw[List.drop_eq_nil_of_le (by simp;omega)]at this
       exact this
      subst YJ
      clear Jf
      go_wp2_with fail
      go_ret
      exact⟨rfl,aU,by omega⟩
    · have xG:decide ((i:Int)<(n:Int))=false:=by simp;omega
      have YJ:q=R:=by
       have:=Jf.out
       rw[List.drop_eq_nil_of_le (by simp;omega)]at this
       exact this
      subst YJ
      clear Jf
      go_wp2_with fail
      go_ret
      exact⟨rfl,aU,by omega⟩
end
/- axiomkeep.Shop.least: what its loops work out. -/
section
open Go.RowKit
theorem mV(H:Nat→Bool):(ky H).length=36:=by simp[ky]
theorem Gb(H:Nat→Bool)(x:Nat)(b:Bool):(ky H).toArray.setIfInBounds x (.bool b)=(ky (gA H x b)).toArray:=by
 rw[List.setIfInBounds_toArray]
 congr 1
 apply List.ext_getElem?
 intro i
 rw[List.getElem?_set]
 by_cases hi:i<36
 · by_cases e:x=i
   · subst e
     rw[if_pos rfl,if_pos (by rw[mV];exact hi),oX _ hi]
     simp[gA]
   · rw[if_neg e,oX _ hi,oX _ hi]
     simp[gA,Ne.symm e]
 · have h1:(ky H)[i]?=none:=List.getElem?_eq_none (by rw[mV];omega)
   have h2:(ky (gA H x b))[i]?=none:=List.getElem?_eq_none (by rw[mV];omega)
   rw[h1,h2]
   by_cases e:x=i
   · subst e
     rw[if_pos rfl,if_neg (by rw[mV];omega)]
   · rw[if_neg e]
end
/- axiomkeep.all. -/
section
open Go.RowKit
theorem Tryz.ou:(Tryz.prog.info? 48).map (fun i=>(i.zero,i.size,i.bytes))=some (some (.agg #[.string ByteArray.empty,.slice none 0 0]),2,40):=by kernel_rfl
theorem mI{n:Nat}(h:n<1000):cr (n:Int):=by constructor<;>omega
def eh(p a b:Nat):Nat:=if p=0 then a+(if b=0 then 0 else 1)else 4+16*(p-1)+4*a+b
theorem PV(w:World):Calls Tryz.prog 65 #[] w fun e w'=>∃v l,e=.returned v∧iT w w' v 36 l:=by
 obtain⟨i0,hi,ew,dZ,dX⟩:=info_parts Tryz.ou
 go_enter Tryz.func65,Tryz.ntmps65
 go_wp2_with fail
 go_loopw [1,2] (fun a i wr=>∃(p:Nat) (l:List FI),p≤3∧i=.int .i64 p∧iT w wr a (eh p 0 0) l) (fun _ i _=>3-(intOf i).toNat)
 case atStart=>exact⟨0,[],by omega,rfl,iT.nil w⟩
 case round=>
  obtain⟨p,l,hp,rfl,hA⟩:=hrel
  obtain⟨ad,ac,rfl⟩:=ah hA.row
  by_cases vk:p<3
  · have HA:Hid (iT w wr (.slice ad l.length ac) (eh p 0 0) l):=hA
    have hdp:decide ((p:Int)<3)=true:=decide_eq_true (by omega)
    clear hA
    go_wp2_with fail
    go_loopw [1,3] (fun a i wr=>∃(a':Nat) (l:List FI),a'≤4∧i=.int .i64 a'∧iT w wr a (eh p a' 0) l) (fun _ i _=>4-(intOf i).toNat)
    case atStart=>exact⟨0,l,by omega,rfl,HA.out⟩
    case round=>
     obtain⟨a,l2,ha,rfl,hA2⟩:=hrel
     obtain⟨bd,bc,rfl⟩:=ah hA2.row
     have X9:Hid (iT w wr (.slice bd l2.length bc) (eh p a 0) l2):=hA2
     clear hA2
     by_cases ZG:a<4
     · have hda:decide ((a:Int)<4)=true:=decide_eq_true (by omega)
       go_wp2_with fail
       go_loopw [1,4] (fun a0 i wr=>∃(b':Nat) (l:List FI),b'≤4∧i=.int .i64 b'∧iT w wr a0 (eh p a b') l) (fun _ i _=>4-(intOf i).toNat)
       case atStart=>exact⟨0,l2,by omega,rfl,X9.out⟩
       case round=>
        obtain⟨b,l3,hb,rfl,ZV⟩:=hrel
        obtain⟨bd,bc,rfl⟩:=ah ZV.row
        have TY:Hid (iT w wr (.slice bd l3.length bc) (eh p a b) l3):=ZV
        have yD:=ZV.len
        have vD:eh p a b≤40:=by unfold eh;split<;>(try split)<;>omega
        have hl3:l3.length≤40:=by omega
        clear ZV yD vD
        by_cases kW:b<4
        · have hna:=fun W=>qU (a:Int) W (mI (by omega))
          have Bw:=fun W=>qU (b:Int) W (mI (by omega))
          have hpd:=fun W=>C7 (p:Int) W (mI (by omega))
          have kY:=fun W=>vY (p:Int) W (mI (by omega))
          rw[jA ZG]at hna
          rw[jA kW]at Bw
          rw[jA vk]at hpd kY
          by_cases A8:p=0
          · rw[if_pos A8]at kY
            by_cases bL:b=0
            · have ZJ:((b:Int)==0)=true:=beq_iff_eq.2 (by omega)
              have HD:Hid (be (eh p a b)=(Ax.cu p,[Ax.cf a])):=by
               have e:be (eh p a b)=(Ax.cu p,[Ax.cf a]):=by
                have e1:eh p a b=a:=by simp[eh,A8,bL]
                rw[e1,W4 ZG 0,A8]
                rfl
               exact e
              have HC:Hid (eh p a (b+1)=eh p a b+1):=by
               have e:eh p a (b+1)=eh p a b+1:=by simp[eh,A8,bL]
               exact e
              clear A8 bL
              go_wp2_with (first | (go_at_call 19;refine(kY _).mono ?_;rintro e w' ⟨rfl,rfl⟩) | (go_at_call 18;refine(hpd _).mono ?_;rintro e w3 ⟨rfl,eA⟩) | (go_at_call 122;refine(hna _).mono ?_;rintro e w4 ⟨rfl,TB⟩;have RO:Hid (iT w w4 (.slice bd l3.length bc) (eh p a b) l3):=(TY.out.below eA).below TB) | (at_builtin;refine wpList_append_own _ rfl (.tmp 24) (.tmp 31) 37 rfl w.heap.size 48 i0 _ 2 40 Tryz.underlying37 hi ew dZ dX rfl (by decide) _ _ _ rfl ((RO.out.row.alloc _).alloc _) ⟨w4.heap.size+1,0,none⟩ 1 1 [.string (Ax.cu p),.slice (some ⟨w4.heap.size,0,none⟩) 1 1] rfl rfl (eL _ _ _ _) (by simp[Value.oneCell']) (by unfold maxLen;omega) (by omega) (by have:=RO.out.aZ.size;simp;omega) ?_;intro v2 w2 aR bG _))
              have HX:Hid (iT w w' v2 (eh p a (b+1)) (l3++[⟨Ax.cu p,[Ax.cf a],.slice (some ⟨w4.heap.size,0,none⟩) 1 1⟩])):=by
               rw[HC.out]
               exact RO.out.step (args:=[Ax.cf a]) HD.out (by simp) (by simp) aR bG
              go_roundw
              case rel=>exact⟨b+1,_,by omega,by go_num,HX.out⟩
              case measure=>simp[intOf];omega
            · have ZJ:((b:Int)==0)=false:=beq_eq_false_iff_ne.2 (by omega)
              have XS:Hid (iT w wr (.slice bd l3.length bc) (eh p a (b+1)) l3):=by
               have e:eh p a (b+1)=eh p a b:=by simp[eh,A8,bL]
               rw[e]
               exact TY.out
              clear A8 bL
              go_wp2_with (go_at_call 19;refine(kY _).mono ?_;rintro e w' ⟨rfl,rfl⟩)
              go_roundw
              case rel=>exact⟨b+1,l3,by omega,by go_num,XS.out⟩
              case measure=>simp[intOf];omega
          · rw[if_neg A8]at kY
            have HD:Hid (be (eh p a b)=(Ax.cu p,[Ax.cf a,Ax.cf b])):=by
             have e:be (eh p a b)=(Ax.cu p,[Ax.cf a,Ax.cf b]):=by
              have e1:eh p a b=4+16*(p-1)+4*a+b:=by simp[eh,A8]
              rw[e1,XG (by omega) ZG kW]
              simp[pB,A8]
             exact e
            have HC:Hid (eh p a (b+1)=eh p a b+1):=by
             have e:eh p a (b+1)=eh p a b+1:=by simp[eh,A8];omega
             exact e
            have yM:Hid (∀W (x:Nat),x<4→Calls Tryz.prog 122 #[.int .i64 (x:Nat)] W fun e w'=>e=.returned (.string (Ax.cf x))∧Below W.heap.size W w'):=by
             intro W x hx
             have h9:=qU (x:Int) W (mI (by omega))
             rw[jA hx]at h9
             exact h9
            clear A8 hna Bw
            go_wp2_with (first | (go_at_call 19;refine(kY _).mono ?_;rintro e w' ⟨rfl,rfl⟩) | (go_at_call 18;refine(hpd _).mono ?_;rintro e w3 ⟨rfl,eA⟩;have RO:Hid (iT w w3 (.slice bd l3.length bc) (eh p a b) l3):=TY.out.below eA) | (go_at_call 122;refine(yM.out _ _ (by assumption)).mono ?_;rintro e w4 ⟨rfl,TB⟩;replace RO:Hid (iT w w4 (.slice bd l3.length bc) (eh p a b) l3):=RO.out.below TB) | (at_builtin;refine wpList_append_own _ rfl (.tmp 36) (.tmp 45) 37 rfl w.heap.size 48 i0 _ 2 40 Tryz.underlying37 hi ew dZ dX rfl (by decide) _ _ _ rfl ((RO.out.row.alloc _).alloc _) ⟨w4.heap.size+1,0,none⟩ 1 1 [.string (Ax.cu p),.slice (some ⟨w4.heap.size,0,none⟩) 2 2] rfl rfl (eL _ _ _ _) (by simp[Value.oneCell']) (by unfold maxLen;omega) (by omega) (by have:=RO.out.aZ.size;simp;omega) ?_;intro v2 w2 aR bG _))
            have HX:Hid (iT w w2 v2 (eh p a (b+1)) (l3++[⟨Ax.cu p,[Ax.cf a,Ax.cf b],.slice (some ⟨w4.heap.size,0,none⟩) 2 2⟩])):=by
             rw[HC.out]
             exact RO.out.step (args:=[Ax.cf a,Ax.cf b]) HD.out (by simp) (by simp) aR bG
            go_roundw
            case rel=>exact⟨b+1,_,by omega,by go_num,HX.out⟩
            case measure=>simp[intOf];omega
        · have tp:b=4:=by omega
          subst tp
          have XS:Hid (iT w wr (.slice bd l3.length bc) (eh p (a+1) 0) l3):=by
           have e:eh p (a+1) 0=eh p a 4:=by unfold eh;split<;>(try simp)<;>omega
           rw[e]
           exact TY.out
          go_wp2_with fail
          go_roundw
          case rel=>exact⟨a+1,l3,by omega,by go_num,XS.out⟩
          case measure=>simp[intOf];omega
     · have hae:a=4:=by omega
       subst hae
       have XS:Hid (iT w wr (.slice bd l2.length bc) (eh (p+1) 0 0) l2):=by
        have e:eh (p+1) 0 0=eh p 4 0:=by unfold eh;split<;>(try simp)<;>(try split)<;>omega
        rw[e]
        exact X9.out
       go_wp2_with fail
       go_roundw
       case rel=>exact⟨p+1,l2,by omega,by go_num,XS.out⟩
       case measure=>simp[intOf];omega
  · have Zz:p=3:=by omega
    subst Zz
    have HA:Hid (iT w wr (.slice ad l.length ac) 36 l):=hA
    clear hA
    go_wp2_with fail
    go_ret
    exact⟨_,l,rfl,HA.out⟩
end
/- axiomkeep.fact. -/
section
open Go.RowKit
theorem Jt(w:World)(c:Int)(hc:cr c):Calls Tryz.prog 72 #[.int .i64 c] w fun e w'=>∃f:FI,e=.returned (.agg #[.string f.pred,f.av])∧(f.pred,f.args)=be (Ax.bk c 36)∧
 w'.ownsRow w.heap.size 9 1 f.av f.args.length (strCells f.args)∧Below w.heap.size w w':=by
 have JQ:=fun w=>oW c 36 w hc (by decide) (by decide)
 have aE:=Ax.eB c 36 (by decide)
 generalize Ax.bk c 36=k at JQ aE ⊢
 obtain⟨w0,cZ⟩:∃w0,w0=w.alloc (.cells #[.string ⟨#[]⟩,.slice none 0 0] 48):=⟨_,rfl⟩
 have bL:Below w.heap.size w w0:=by rw[cZ];exact(Below.refl _ _).alloc (Nat.le_refl _) _
 have mN:w0.heap[w.heap.size]?=some (.cells #[.string ⟨#[]⟩,.slice none 0 0] 48 (0,0)):=by rw[cZ];exact heap_alloc_new w _
 have Xs:Hid (Calls Tryz.prog 65 #[] w0 fun e w'=>∃c g,∃f:FI,e=.returned (.slice (some ⟨g,0,none⟩) 36 c)∧Hid ((f.pred,f.args)=be k∧w'.ownsRow (w.heap.size+1) 9 1 f.av f.args.length (strCells f.args)∧Below w.heap.size w w'∧w'.heap[w.heap.size]?=some (.cells #[.string ⟨#[]⟩,.slice none 0 0] 48 (0,0)))∧g<w'.heap.size∧36≤c∧w'.cell? ⟨g,k*2,none⟩=some (.string f.pred)∧w'.cell? ⟨g,k*2+1,none⟩=some f.av∧
  w'.cell? ⟨w.heap.size,0,none⟩=some (.string ⟨#[]⟩)∧w'.cell? ⟨w.heap.size,1,none⟩=some (.slice none 0 0)∧(∀o,w'.frozen? ⟨w.heap.size,o,none⟩=false)):=by
  refine(PV w0).mono ?_
  rintro e w' ⟨v,l,rfl,hA⟩
  have hl:=hA.len
  have hk:k<l.length:=by omega
  obtain⟨d,c,rfl⟩:=ah hA.row
  obtain⟨g,rfl,hg,Ko,bH⟩:=aD hA.row (by omega)
  have wy:Below w0.heap.size w0 w':=hA.aZ
  have h1:w'.heap[w.heap.size]?=some (.cells #[.string ⟨#[]⟩,.slice none 0 0] 48 (0,0)):=by rw[wy.block _ (lt_of_heap mN)];exact mN
  have cE:w0.heap.size=w.heap.size+1:=by rw[cZ];simp
  refine⟨c,g,l[k],by rw[hl],⟨?_,by rw[←cE];exact hA.each _ (List.getElem_mem hk),bL.trans (wy.mono bL.size),h1⟩,hg,by omega,bH _ _ (eI l k hk).1,bH _ _ (eI l k hk).2,by rw[cell_of_row _ _ _ _ _ _ h1];rfl,by rw[cell_of_row _ _ _ _ _ _ h1];rfl,fun o=>by simp[World.frozen?,h1]⟩
  have h9:=congrArg (fun z=>z[k]?) hA.data
  simp[aE,hk]at h9
  exact h9
 clear bL mN
 go_enter Tryz.func72,Tryz.ntmps72
 go_wp2_with fail
 rw[←cZ]
 clear cZ
 refine Xs.out.mono ?_
 rintro e w1 ⟨cc,g,f,rfl,HF,hg,h36,c0,c1,d0,d1,df⟩
 have df0:=df 0
 have df1:=df 1
 obtain⟨fp,fa,fv⟩:=f
 simp only at c0 c1 HF
 obtain⟨xd,xc,hfv⟩:=ah HF.out.2.1
 subst hfv
 go_wp2_with (go_at_call 27;refine(JQ _).mono ?_;rintro e w' ⟨rfl,hw⟩;subst hw)
 obtain⟨e1,e2,e3,e4⟩:=HF.out
 have k1:=an _ e4 0 (.string fp)
 have k2:=an _ k1 1 (.slice xd fa.length xc)
 have k3:Kb [w.heap.size] w' ((w'.setCell ⟨w.heap.size,0,none⟩ (.string fp)).setCell ⟨w.heap.size,1,none⟩ (.slice xd fa.length xc)):=(Kb.setCell w' ⟨w.heap.size,0,none⟩ _).trans (Kb.setCell _ ⟨w.heap.size,1,none⟩ _)
 refine bodyPost_ret (v:=.agg #[.string fp,.slice xd fa.length xc]) ?_ rfl ⟨⟨fp,fa,.slice xd fa.length xc⟩,rfl,e1,aG (k3.row e2 (fun b hb=>by have:=(e2.lt b hb).1;simp;omega)) (by omega),k3.aK e3 e3.size (by simp)⟩
 exact results_cell_row rfl _ _ _ _ _ _ _ rfl k2 Tryz.underlying48 rfl (by kernel_rfl)
end
/- axiomkeep.facts. -/
section
open Go.RowKit
structure fT(w:World)(ad:Option Addr)(n c:Nat)(l:List Int):Prop where
 len:l.length=n
 cap:n≤c
 max:c≤maxLen
 at_:∀k (h:k<l.length),∃g o,ad=some ⟨g,o,none⟩∧w.cell? ⟨g,o+k,none⟩=some (.int .i64 l[k])∧cr l[k]
theorem fT.below{w w':World}{ad:Option Addr}{n c:Nat}{l:List Int}(h:fT w ad n c l)(hb:Below w.heap.size w w'):fT w' ad n c l:=
 ⟨h.len,h.cap,h.max,fun k hk=>let ⟨g,o,e,c1,f⟩:=h.at_ k hk;⟨g,o,e,bz hb c1,f⟩⟩
structure nZ(w wr:World)(a:Value)(l:List FI)(D:List (ByteArray×List ByteArray)):Prop where
 row:wr.ownsRow w.heap.size 48 2 a l.length (dC l)
 each:∀f,f∈l→wr.ownsRow w.heap.size 9 1 f.av f.args.length (strCells f.args)
 data:l.map (fun f=>(f.pred,f.args))=D
 aZ:Below w.heap.size w wr
theorem nZ.nil(w:World):nZ w w (.slice none 0 0) [] []:=⟨World.ownsRow_nil _ _ _ _,by simp,rfl,Below.refl _ _⟩
theorem nZ.below{w wr w':World}{a:Value}{l:List FI}{D:List (ByteArray×List ByteArray)}(h:nZ w wr a l D)(hb:Below wr.heap.size wr w'):nZ w w' a l D:=
 ⟨ae h.row hb,fun f hf=>ae (h.each f hf) hb,h.data,h.aZ.trans (hb.mono h.aZ.size)⟩
theorem nZ.step{w wr w2:World}{a v2:Value}{l:List FI}{D:List (ByteArray×List ByteArray)}(h:nZ w wr a l D)(f:FI)(ZB:wr.ownsRow w.heap.size 9 1 f.av f.args.length (strCells f.args))
 (al:w2.ownsRow w.heap.size 48 2 v2 (l.length+1) (dC l++[.string f.pred,f.av])){o:Obj}(hg:(wr.alloc o).grownBy w2 a.ownBlock):nZ w w2 v2 (l++[f]) (D++[(f.pred,f.args)]):=by
 have hs:=h.aZ.size
 have cM:Below wr.heap.size wr (wr.alloc o):=(Below.refl _ _).alloc (Nat.le_refl _) _
 have hk:=Kb.dz hg
 have aE:∀q,a.ownBlock=some q→w.heap.size≤q∧q<wr.heap.size:=fun q hq=>h.row.lt q hq
 have Tf:∀u:FI,wr.ownsRow w.heap.size 9 1 u.av u.args.length (strCells u.args)→w2.ownsRow w.heap.size 9 1 u.av u.args.length (strCells u.args):=fun u hu=>by
  refine hk.row (ae hu cM) (fun b hb hc=> ?_)
  rw[Option.mem_toList]at hc
  obtain⟨c1,e1⟩:=aH hu hb
  obtain⟨c2,e2⟩:=aH h.row hc
  rw[e1]at e2
  simp at e2
 refine⟨?_, ?_, ?_, ?_⟩
 · rw[np,List.length_append]
   exact al
 · intro u hu
   rcases List.mem_append.1 hu with hu | hu
   · exact Tf u (h.each u hu)
   · simp only[List.mem_singleton]at hu
     subst hu
     exact Tf _ ZB
 · rw[List.map_append,h.data]
   simp
 · exact hk.aK (h.aZ.trans (cM.mono hs)) (by simp;omega) (fun q hq=>by rw[Option.mem_toList]at hq;exact(aE q hq).1)
def Ee(l:List Int):List (ByteArray×List ByteArray):=(l.take 30).map fun c=>be (Ax.bk c 36)
theorem Gw(w:World)(ad:Option Addr)(n c:Nat)(L:List Int)(hL:fT w ad n c L):Calls Tryz.prog 39 #[.slice ad n c] w fun e w'=>∃v l,e=.returned v∧nZ w w' v l (Ee L):=by
 obtain⟨i0,hi,ew,dZ,dX⟩:=info_parts Tryz.ou
 have yS:=hL.len
 subst yS
 have HL:Hid (fT w ad L.length c L):=hL
 have mG:=hL.cap
 have W5:=hL.max
 have hm:maxLen=9223372036854775807:=rfl
 clear hL
 go_enter Tryz.func39,Tryz.ntmps39
 go_wp2_with fail
 go_loopw [3,4] (fun a i wr=>∃(k:Nat) (l:List FI),k≤L.length∧k≤30∧i=.int .i64 k∧nZ w wr a l ((L.take k).map fun c=>be (Ax.bk c 36))) (fun _ i _=>30-(intOf i).toNat)
 case atStart=>exact⟨0,[],by omega,by omega,rfl,nZ.nil w⟩
 case round=>
  obtain⟨k,l,hk,TC,rfl,hF⟩:=hrel
  obtain⟨bd,bc,rfl⟩:=ah hF.row
  have HF:Hid (nZ w wr (.slice bd l.length bc) l ((L.take k).map fun c=>be (Ax.bk c 36))):=hF
  have yD:l.length≤30:=by
   have:=congrArg List.length hF.data
   simp at this
   omega
  clear hF
  by_cases aE:k<L.length
  · by_cases PJ:k<30
    · obtain⟨g,o,rfl,ca,kD⟩:=(HL.out.below HF.out.aZ).at_ k aE
      have fR:Hid ((L.take (k+1)).map (fun c=>be (Ax.bk c 36))=(L.take k).map (fun c=>be (Ax.bk c 36))++[be (Ax.bk L[k] 36)]):=by
       have e0:L.take (k+1)=L.take k++[L[k]]:=by rw[List.take_add_one,List.getElem?_eq_getElem aE];rfl
       have e1:(L.take (k+1)).map (fun c=>be (Ax.bk c 36))=(L.take k).map (fun c=>be (Ax.bk c 36))++[be (Ax.bk L[k] 36)]:=by rw[e0,List.map_append];rfl
       exact e1
      have Pg:=Jt wr L[k] kD
      generalize L[k]=x at ca Pg fR
      have yT:Hid (Calls Tryz.prog 72 #[.int .i64 x] wr fun e w'=>∃f:FI,e=.returned (.agg #[.string f.pred,f.av])∧Hid ((f.pred,f.args)=be (Ax.bk x 36)∧w'.ownsRow w.heap.size 9 1 f.av f.args.length (strCells f.args)∧nZ w w' (.slice bd l.length bc) l ((L.take k).map fun c=>be (Ax.bk c 36)))):=by
       refine Pg.mono ?_
       rintro e w' ⟨f,rfl,q1,q2,q3⟩
       exact⟨f,rfl,q1,aG q2 HF.out.aZ.size,HF.out.below q3⟩
      clear Pg kD
      go_wp2_with (first | (go_at_call 72;refine yT.out.mono ?_;rintro e w3 ⟨f,rfl,HQ⟩;obtain⟨fp,fa,fv⟩:=f;simp only at HQ ⊢;obtain⟨xd,xc,hfv⟩:=ah HQ.out.2.1;subst hfv) | (at_builtin;refine wpList_append_own _ rfl (.tmp 15) (.tmp 21) 37 rfl w.heap.size 48 i0 _ 2 40 Tryz.underlying37 hi ew dZ dX rfl (by decide) _ _ _ rfl (HQ.out.2.2.row.alloc _) ⟨w3.heap.size,0,none⟩ 1 1 [.string fp,.slice xd fa.length xc] rfl rfl (mq _ _ _) (by simp[Value.oneCell']) (by unfold maxLen;omega) (by omega) (by have:=HQ.out.2.2.aZ.size;simp;omega) ?_;intro v2 w2 aR bG _))
      have HX:Hid (nZ w w2 v2 (l++[⟨fp,fa,.slice xd fa.length xc⟩]) ((L.take (k+1)).map fun c=>be (Ax.bk c 36))):=by
       rw[fR.out,←HQ.out.1]
       exact HQ.out.2.2.step ⟨fp,fa,.slice xd fa.length xc⟩ HQ.out.2.1 aR bG
      go_roundw
      case rel=>exact⟨k+1,_,aE,PJ,by go_num,HX.out⟩
      case measure=>simp[intOf];omega
    · have HE:Hid (nZ w wr (.slice bd l.length bc) l (Ee L)):=by
       have e:k=30:=by omega
       have h9:=HF.out
       rw[e]at h9
       exact h9
      go_wp2_with fail
      go_ret
      exact⟨_,l,rfl,HE.out⟩
  · have HE:Hid (nZ w wr (.slice bd l.length bc) l (Ee L)):=by
     have h9:=HF.out
     have e1:L.take k=L.take 30:=by rw[List.take_of_length_le (by omega),List.take_of_length_le (by omega)]
     rw[e1]at h9
     exact h9
    go_wp2_with fail
    go_ret
    exact⟨_,l,rfl,HE.out⟩
end
/- axiomkeep.Shop.right: what its loops work out. -/
section
open Go.RowKit
def b3(H:Nat→Bool)(C:Nat→Nat)(i:Nat):Nat→Nat:=fun x=>(if x<i∧(H x&&H (4+5*x))=true then 1 else 0)+((if x<i∧(H x&&H (20+5*x))=true then 1 else 0)+C x)
end
/- axiomkeep.Shop.apply: what it keeps. -/
section
open Go.RowKit Go.Maps
def idxs(L:List Int):List Nat:=(L.take 30).map fun c=>Ax.bk c 36
theorem ng(L:List Int):∀i,i∈idxs L→i<36:=by
 intro i hi
 obtain⟨c,_,rfl⟩:=List.mem_map.1 hi
 exact Ax.eB c 36 (by decide)
theorem oG(L:List Int):(idxs L).length≤30:=by simp[idxs];omega
theorem sX{L:List Int}{k:Nat}(h1:k<L.length)(h2:k<30):(idxs L).take (k+1)=(idxs L).take k++[Ax.bk L[k] 36]:=by
 unfold idxs
 rw[←List.map_take,←List.map_take,List.take_take,List.take_take,Nat.min_eq_left (by omega),Nat.min_eq_left (by omega),List.take_add_one,List.getElem?_eq_getElem h1,List.map_append]
 rfl
theorem l6{L:List Int}{k:Nat}(h:¬(k<L.length∧k<30)):(idxs L).take k=idxs L:=by
 refine List.take_of_length_le ?_
 simp[idxs]
 omega
structure L0(L:List Int)(fd:Option Addr)(fc:Nat)(l:List FI)(W:World):Prop where
 CC:bM W fd fc l
 idx:fM l (idxs L)
theorem L0.below{L:List Int}{fd:Option Addr}{fc:Nat}{l:List FI}{W W':World}(h:L0 L fd fc l W)(hb:Below W.heap.size W W'):L0 L fd fc l W':=⟨h.CC.below hb,h.idx⟩
theorem L0.len{L:List Int}{fd:Option Addr}{fc:Nat}{l:List FI}{W:World}(h:L0 L fd fc l W):l.length≤30:=by
 rw[←h.idx.len]
 exact oG L
theorem TN{W w':World}{v:Value}{l:List FI}{L:List Int}(h:nZ W w' v l (Ee L)):∃fd fc,v=.slice fd l.length fc∧L0 L fd fc l w':=by
 obtain⟨fd,fc,rfl⟩:=ah h.row
 refine⟨fd,fc,rfl,⟨aG h.row (Nat.zero_le _),fun f hf=>aG (h.each f hf) (Nat.zero_le _)⟩, ?_,ng L⟩
 rw[h.data]
 unfold Ee idxs
 rw[List.map_map]
 rfl
structure s8(B:Nat)(w:World)(sb eg:Nat)(rv:Value)(kl:List Ax.ay)(gs ge:Nat→Bool)(n:Nat):Prop where
 lQ:fw w sb eg rv gs
 Kr:nQ w B eg kl ge n
 le:B≤sb
theorem s8.below{B:Nat}{w w':World}{sb eg:Nat}{rv:Value}{kl:List Ax.ay}{gs ge:Nat→Bool}{n:Nat}(h:s8 B w sb eg rv kl gs ge n)(hb:Below w.heap.size w w'):s8 B w' sb eg rv kl gs ge n:=⟨h.lQ.below hb,h.Kr.below hb,h.le⟩
theorem nQ.off{w w':World}{B eg:Nat}{kl:List Ax.ay}{gv:Nat→Bool}{n:Nat}(h:nQ w B eg kl gv n){x:Nat}(hk:Kb [x] w w'){Z:Array Value}{f:Nat×Nat}(hx:w.heap[x]?=some (.cells Z 43 f)):nQ w' B eg kl gv n:=by
 obtain⟨pl,rd,rc,l,gm,G,hm,T,s,hd,lv,ln,lx,eb,dN,he,hG,hR,hH,hI,hT,bS,nT,yS,EF⟩:=h.at_
 have cA:eg≠x:=fg eb hx (by decide)
 refine⟨⟨pl,rd,rc,l,gm,G,hm,T,s,hd,lv,ln,lx,hk.heap eb (by simpa using cA),dN.kept hk ?_,he,hG.kept hk (hG.kU hx (by decide) (by decide)),hR,hH.kept hk ?_,hI,hT,bS,hk.dQ nT ?_,yS,EF⟩,h.ge⟩
 · intro b cur U hb e
   simp only[List.mem_cons,List.not_mem_nil,or_false]at hb
   subst hb
   rw[hx]at e
   simp at e
   rw[←e.2.1]
   decide
 · intro b hb e
   simp only[List.mem_cons,List.not_mem_nil,or_false]at e
   subst e
   unfold cK at hb
   rcases List.mem_cons.1 hb with rfl | hb
   · obtain⟨es,ck,e⟩:=hH.map.block
     rw[e]at hx
     cases hx
   · obtain⟨u,hu,hb⟩:=List.mem_flatMap.1 hb
     obtain⟨cur,T,e,hT⟩:=(hH.b7 u hu).types hb
     rw[e]at hx
     simp at hx
     rcases hT with rfl | rfl | rfl
     · exact absurd hx.2.1 (by decide)
     · exact absurd hx.2.1 (by decide)
     · exact absurd hx.2.1 (by decide)
 · intro b cur fz hb e
   simp only[List.mem_cons,List.not_mem_nil,or_false]at hb
   subst hb
   rw[hx]at e
   simp at e
theorem Ef(eg:Nat)(rv:Value)(gv:Nat→Bool)(i:Nat)(b:Bool):(o9 eg rv gv).setIfInBounds (2+i) (.bool b)=o9 eg rv (gA gv i b):=by
 unfold o9
 have h:=Gb gv i b
 rw[List.setIfInBounds_toArray]at h
 have h2:(ky gv).set i (.bool b)=ky (gA gv i b):=by simpa using congrArg Array.toList h
 rw[List.setIfInBounds_toArray,List.set_append_right _ _ (by simp)]
 have e:2+i-[Value.pointer (some ⟨eg,0,none⟩),rv].length=i:=by simp
 rw[e,h2]
theorem s8.set{B:Nat}{w:World}{sb eg:Nat}{rv:Value}{kl:List Ax.ay}{gs ge:Nat→Bool}{n:Nat}(h:s8 B w sb eg rv kl gs ge n)(i:Nat)(b:Bool):s8 B (w.setCell ⟨sb,2+i,none⟩ (.bool b)) sb eg rv kl (gA gs i b) ge n∧Below B w (w.setCell ⟨sb,2+i,none⟩ (.bool b)):=by
 have hs:=h.lQ
 unfold fw at hs
 have hk:Kb [sb] w (w.setCell ⟨sb,2+i,none⟩ (.bool b)):=Kb.setCell w ⟨sb,2+i,none⟩ _
 refine⟨⟨?_,h.Kr.off hk hs,h.le⟩,(Below.refl _ _).setCell (p:=⟨sb,2+i,none⟩) h.le _⟩
 unfold fw
 rw[an w hs (2+i),Ef]
theorem s8.cell{B:Nat}{w:World}{sb eg:Nat}{rv:Value}{kl:List Ax.ay}{gs ge:Nat→Bool}{n:Nat}(h:s8 B w sb eg rv kl gs ge n){i:Nat}(hi:i<36):w.cell? ⟨sb,2+i,none⟩=some (.bool (gs i))∧w.frozen? ⟨sb,2+i,none⟩=false∧sb<w.heap.size:=by
 have hs:=h.lQ
 unfold fw at hs
 exact⟨h.lQ.cells.2.2 i hi,by simp[World.frozen?,hs],lt_of_heap hs⟩
end
end Go.Proofs.YtdmicblafmhflaaGreatDoor
