/- axiomkeep: text, walked. -/
import Derived.Test.YtdmicblafmhflaaGreatDoorC36
import Derived.Deep.CutRange
import Derived.Test.YtdmicblafmhflaaGreatDoorC11
import Derived.Deep.RegionHeld3
import Derived.Deep.AppendLies
import Derived.Test.YtdmicblafmhflaaGreatDoorC33
import Derived.BigQuiet
set_option linter.unusedSimpArgs false
set_option linter.unusedVariables false
set_option maxHeartbeats 8000000
set_option maxRecDepth 100000
namespace Go.Proofs.YtdmicblafmhflaaGreatDoor
section
open Go.RowKit
theorem M0(w:World)(ad:Option Addr)(n c:Nat)(l:List Ax.ay)(h:rR w ad n c l)(R:ByteArray)(HR:Hid (kS (l.take 6) wO=R)):
 Calls Tryz.prog 35 #[.slice ad n c] w fun e w'=>e=.returned (.string R)∧Below w.heap.size w w'∧R.size≤338:=by
 have Ce:c≤9223372036854775807:=h.max
 have UG:=h.cap
 have hlen:=h.len
 rw[N2]at HR
 go_enter Tryz.func35,Tryz.ntmps35
 go_wp2_with fail
 go_loopw [3,4] (fun sv iv wr=>∃(i:Nat) (q:ByteArray),i≤min n 6∧sv=.string q∧iv=.int .i64 i∧Below w.heap.size w wr∧q.size≤38+50*i∧kS ((l.take 6).drop i) q=R) (fun _ iv _=>6-(intOf iv).toNat)
 case atStart=>exact⟨0,_,Nat.zero_le _,rfl,rfl,Below.refl _ _,by decide,HR.out⟩
 case round=>
  obtain⟨i,q,hi,rfl,rfl,aU,F1,hr⟩:=hrel
  have JG:Hid (kS ((l.take 6).drop i) q=R):=hr
  clear hr HR
  have cE:=aU.size
  by_cases aE:i<min n 6
  · have yw:decide ((i:Int)<(n:Int))=true:=by simp;omega
    have BI:decide ((i:Int)<6)=true:=by simp;omega
    have hn3:(i:Int)<(n:Int):=by omega
    have fi:(l.take 6).drop i=l[i]::(l.take 6).drop (i+1):=by
     rw[List.drop_eq_getElem_cons (by rw[List.length_take];omega),List.getElem_take]
    rw[fi]at JG
    clear fi
    obtain⟨g,o,PL,F2⟩:=h.at_ i (by omega)
    subst PL
    generalize l[i]=r at*
    have HN:Hid (kS ((l.take 6).drop (i+1)) (Az r q)=R):=JG
    clear JG
    obtain⟨⟨e0,e1,e2,f0,f1,f2⟩,bd,bn,bc,e3,hB⟩:=F2
    have HT:Hid (Az r q=kj (Ax.jO r) 0 (q++ux (Ax.bk r.head.pred 3) (Ax.eH r))++⟨#[46]⟩):=rfl
    have Tk:=P5 hB f0 f1 f2 _ rfl
    have PN:=xl (w:=w) f0 _ (Ab r).2 (Dv r) _ rfl
    have hAs:=xv (Ax.bk r.head.pred 3) (Ax.eH r) (Ab r).2
    have LC:=hB.two
    obtain⟨m,hm⟩:∃m,min bn 2=m:=⟨_,rfl⟩
    have XY:m≤2:=by omega
    have D9:=Q0 hB r.head.pred r.head.a r.head.b m hm
    rw[hm]at LC
    clear hm hB
    generalize Az r q=Q at*
    generalize ux (Ax.bk r.head.pred 3) (Ax.eH r)=A at*
    generalize Ax.eH r=T at*
    generalize Ax.jO r=gb at*
    rcases r with⟨⟨p,a,b⟩,rb⟩
    simp only at*
    have E0:=bx aU e0
    have E1:=bx aU e1
    have E2:=bx aU e2
    have E3:=bx aU e3
    have hA1:(q++A).size≤50+50*i:=by rw[ByteArray.size_append];omega
    go_upto_region 5 with fail
    go_cut [3]from 7 to 62 (fun sv wx=>sv=.string (q++A)∧Below w.heap.size w wx)
    case first=>
     go_region_with (first | (go_at_call 62;refine(Tk _ (by first | exact aU | exact aU.drew)).mono ?_;rintro e w2 ⟨d2,c2,rfl,yF,cM⟩;have G0:=bx cM e0) | (go_at_call 61;refine(PN _ _ _ cM yF).mono ?_;rintro e w3 ⟨rfl,eA⟩))
     all_goals (go_wp2_with fail)
     all_goals go_meet
     all_goals exact⟨rfl,by first | exact eA | exact eA.drew⟩
    case rest=>
     obtain⟨rfl,yI⟩:=ko
     clear E0 E1 E2 E3 aU Tk PN F1 cE
     have K0:=bx yI e0
     have K1:=bx yI e1
     have K2:=bx yI e2
     have K3:=bx yI e3
     go_wp2_with (go_at_call 63;refine(D9 _ yI).mono ?_;rintro e w4 ⟨rfl,kY⟩)
     generalize (q++A:ByteArray)=q1 at*
     clear K0 K1 K2 K3 yI D9
     obtain⟨Z,hZ⟩:∃Z,kj gb 0 q1=Z:=⟨_,rfl⟩
     have HZ:Hid (kj gb 0 q1=Z):=hZ
     rw[hZ]at HT
     clear hZ e0 e1 e2 e3
     have mO:=LC.len
     have hbm:bc≤9223372036854775807:=LC.max
     have hmc:=LC.cap
     go_loopw [3,6] (fun sv kv wx=>∃(k:Nat) (q2:ByteArray),k≤m∧sv=.string q2∧kv=.int .i64 k∧Below w.heap.size w wx∧q2.size≤50+50*i+15*k∧kj (gb.drop k) k q2=Z) (fun _ kv _=>m-(intOf kv).toNat)
     case atStart=>exact⟨0,_,Nat.zero_le _,rfl,rfl,kY,by omega,HZ.out⟩
     case round=>
      obtain⟨k,q2,hk,rfl,rfl,Mg,hq2,hz⟩:=hrel
      have Ya:Hid (kj (gb.drop k) k q2=Z):=hz
      clear hz HZ kY
      by_cases hkm:k<m
      · have fi:gb.drop k=gb[k]::gb.drop (k+1):=List.drop_eq_getElem_cons (by omega)
        rw[fi]at Ya
        clear fi
        obtain⟨bg,bo,PL,ha⟩:=LC.at_ k (by omega)
        subst PL
        generalize gb[k]=x at*
        obtain⟨e0,e1,e2,f0,f1,f2⟩:=ha
        have hte:=L9 (w:=w) f0 f1 f2 _ rfl
        have PN:=xl (w:=w) f0 _ (kN x).2 (qT x) (wA x) rfl
        have hAs:=xv (Ax.bk x.pred 3) (Ax.bU x) (kN x).2
        have hAs:(wA x).size≤12:=hAs
        have ZE:Hid (kj (gb.drop (k+1)) (k+1) ((if k=0 then q2++⟨#[58,45]⟩else q2++⟨#[44]⟩)++wA x)=Z):=Ya
        clear Ya
        generalize wA x=A at*
        generalize Ax.bU x=T at*
        rcases x with⟨p,a,b⟩
        simp only at*
        have E0:=bx Mg e0
        have E1:=bx Mg e1
        have E2:=bx Mg e2
        have J9:(k:Int)<(m:Int):=by omega
        by_cases EX:k=0
        · have bL:(((k:Nat):Int)==0)=true:=by simp;omega
          have HQ:Hid (kj (gb.drop (k+1)) (k+1) (q2++⟨#[58,45]⟩++A)=Z):=by
           have:=ZE.out
           rw[if_pos EX]at this
           exact this
          have h1s:(⟨#[58,45]⟩:ByteArray).size=2:=rfl
          have kA:(q2++⟨#[58,45]⟩:ByteArray).size≤52+50*i+15*k:=by rw[ByteArray.size_append];omega
          have Aq:(q2++⟨#[58,45]⟩++A:ByteArray).size≤50+50*i+15*(k+1):=by rw[ByteArray.size_append,ByteArray.size_append];omega
          clear ZE EX
          go_wp2_with fail
          go_region_with (first | (go_at_call 64;refine(hte _ (by first | exact Mg | exact Mg.drew)).mono ?_;rintro e w2 ⟨d2,c2,rfl,yF,cM⟩;have G0:=bx cM e0) | (go_at_call 61;refine(PN _ _ _ cM yF).mono ?_;rintro e w3 ⟨rfl,eA⟩))
          all_goals (go_wp2_with fail)
          all_goals (go_roundw;(case rel=>exact⟨k+1,_,by omega,rfl,by go_num,(by first | exact eA | exact eA.drew),by omega,HQ.out⟩);(case measure=>simp[intOf];omega))
        · have bL:(((k:Nat):Int)==0)=false:=by simp;omega
          have HQ:Hid (kj (gb.drop (k+1)) (k+1) (q2++⟨#[44]⟩++A)=Z):=by
           have:=ZE.out
           rw[if_neg EX]at this
           exact this
          have h1s:(⟨#[44]⟩:ByteArray).size=1:=rfl
          have kA:(q2++⟨#[44]⟩:ByteArray).size≤52+50*i+15*k:=by rw[ByteArray.size_append];omega
          have Aq:(q2++⟨#[44]⟩++A:ByteArray).size≤50+50*i+15*(k+1):=by rw[ByteArray.size_append,ByteArray.size_append];omega
          clear ZE EX
          go_wp2_with fail
          go_region_with (first | (go_at_call 64;refine(hte _ (by first | exact Mg | exact Mg.drew)).mono ?_;rintro e w2 ⟨d2,c2,rfl,yF,cM⟩;have G0:=bx cM e0) | (go_at_call 61;refine(PN _ _ _ cM yF).mono ?_;rintro e w3 ⟨rfl,eA⟩))
          all_goals (go_wp2_with fail)
          all_goals (go_roundw;(case rel=>exact⟨k+1,_,by omega,rfl,by go_num,(by first | exact eA | exact eA.drew),by omega,HQ.out⟩);(case measure=>simp[intOf];omega))
      · have hqZ:q2=Z:=by
         have:=Ya.out
         rw[List.drop_eq_nil_of_le (by omega)]at this
         exact this
        subst hqZ
        clear Ya
        have h1s:(⟨#[46]⟩:ByteArray).size=1:=rfl
        have aiQ:(q2++⟨#[46]⟩:ByteArray).size≤88+50*i:=by rw[ByteArray.size_append];omega
        go_wp2_with fail
        go_roundw
        case rel=>exact⟨i+1,_,by omega,rfl,by go_num,Mg,by omega,by rw[←HT.out];exact HN.out⟩
        case measure=>simp[intOf];omega
  · by_cases dN:i<n
    · have yw:decide ((i:Int)<(n:Int))=true:=by simp;omega
      have BI:decide ((i:Int)<6)=false:=by simp;omega
      have Y9:q=R:=by
       have:=JG.out
       rw[List.drop_eq_nil_of_le (by simp;omega)]at this
       exact this
      subst Y9
      clear JG
      go_wp2_with fail
      go_ret
      exact⟨rfl,aU,by omega⟩
    · have yw:decide ((i:Int)<(n:Int))=false:=by simp;omega
      have Y9:q=R:=by
       have:=JG.out
       rw[List.drop_eq_nil_of_le (by simp;omega)]at this
       exact this
      subst Y9
      clear JG
      go_wp2_with fail
      go_ret
      exact⟨rfl,aU,by omega⟩
end
/- axiomkeep.Shop.least: what its loops work out. -/
section
open Go.RowKit
theorem nA(H:Nat→Bool):(kh H).length=36:=by simp[kh]
theorem Fm(H:Nat→Bool)(x:Nat)(b:Bool):(kh H).toArray.setIfInBounds x (.bool b)=(kh (gp H x b)).toArray:=by
 rw[List.setIfInBounds_toArray]
 congr 1
 apply List.ext_getElem?
 intro i
 rw[List.getElem?_set]
 by_cases hi:i<36
 · by_cases e:x=i
   · subst e
     rw[if_pos rfl,if_pos (by rw[nA];exact hi),o7 _ hi]
     simp[gp]
   · rw[if_neg e,o7 _ hi,o7 _ hi]
     simp[gp,Ne.symm e]
 · have h1:(kh H)[i]?=none:=List.getElem?_eq_none (by rw[nA];omega)
   have h2:(kh (gp H x b))[i]?=none:=List.getElem?_eq_none (by rw[nA];omega)
   rw[h1,h2]
   by_cases e:x=i
   · subst e
     rw[if_pos rfl,if_neg (by rw[nA];omega)]
   · rw[if_neg e]
end
/- axiomkeep.all. -/
section
open Go.RowKit
theorem Tryz.ow:(Tryz.prog.info? 48).map (fun i=>(i.zero,i.size,i.bytes))=some (some (.agg #[.string ByteArray.empty,.slice none 0 0]),2,40):=by kernel_rfl
theorem mG{n:Nat}(h:n<1000):cw (n:Int):=by constructor<;>omega
def ef(p a b:Nat):Nat:=if p=0 then a+(if b=0 then 0 else 1)else 4+16*(p-1)+4*a+b
theorem QF(w:World):Calls Tryz.prog 65 #[] w fun e w'=>∃v l,e=.returned v∧iO w w' v 36 l:=by
 obtain⟨i0,hi,ew,dZ,dU⟩:=info_parts Tryz.ow
 go_enter Tryz.func65,Tryz.ntmps65
 go_wp2_with fail
 go_loopw [1,2] (fun a i wr=>∃(p:Nat) (l:List FI),p≤3∧i=.int .i64 p∧iO w wr a (ef p 0 0) l) (fun _ i _=>3-(intOf i).toNat)
 case atStart=>exact⟨0,[],by omega,rfl,iO.nil w⟩
 case round=>
  obtain⟨p,l,hp,rfl,hA⟩:=hrel
  obtain⟨ad,ac,rfl⟩:=ah hA.row
  by_cases vx:p<3
  · have HA:Hid (iO w wr (.slice ad l.length ac) (ef p 0 0) l):=hA
    have hdp:decide ((p:Int)<3)=true:=decide_eq_true (by omega)
    clear hA
    go_wp2_with fail
    go_loopw [1,3] (fun a i wr=>∃(a':Nat) (l:List FI),a'≤4∧i=.int .i64 a'∧iO w wr a (ef p a' 0) l) (fun _ i _=>4-(intOf i).toNat)
    case atStart=>exact⟨0,l,by omega,rfl,HA.out⟩
    case round=>
     obtain⟨a,l2,ha,rfl,hA2⟩:=hrel
     obtain⟨bd,bc,rfl⟩:=ah hA2.row
     have WS:Hid (iO w wr (.slice bd l2.length bc) (ef p a 0) l2):=hA2
     clear hA2
     by_cases Z5:a<4
     · have hda:decide ((a:Int)<4)=true:=decide_eq_true (by omega)
       go_wp2_with fail
       go_loopw [1,4] (fun a0 i wr=>∃(b':Nat) (l:List FI),b'≤4∧i=.int .i64 b'∧iO w wr a0 (ef p a b') l) (fun _ i _=>4-(intOf i).toNat)
       case atStart=>exact⟨0,l2,by omega,rfl,WS.out⟩
       case round=>
        obtain⟨b,l3,hb,rfl,hA3⟩:=hrel
        obtain⟨bd,bc,rfl⟩:=ah hA3.row
        have Tu:Hid (iO w wr (.slice bd l3.length bc) (ef p a b) l3):=hA3
        have yE:=hA3.len
        have vl:ef p a b≤40:=by unfold ef;split<;>(try split)<;>omega
        have ZP:l3.length≤40:=by omega
        clear hA3 yE vl
        by_cases kY:b<4
        · have hna:=fun W=>rS (a:Int) W (mG (by omega))
          have Bc:=fun W=>rS (b:Int) W (mG (by omega))
          have hpd:=fun W=>Er (p:Int) W (mG (by omega))
          have lj:=fun W=>xU (p:Int) W (mG (by omega))
          rw[jA Z5]at hna
          rw[jA kY]at Bc
          rw[jA vx]at hpd lj
          by_cases An:p=0
          · rw[if_pos An]at lj
            by_cases bL:b=0
            · have Z7:((b:Int)==0)=true:=beq_iff_eq.2 (by omega)
              have HD:Hid (be (ef p a b)=(Ax.cr p,[Ax.cf a])):=by
               have e:be (ef p a b)=(Ax.cr p,[Ax.cf a]):=by
                have e1:ef p a b=a:=by simp[ef,An,bL]
                rw[e1,Xd Z5 0,An]
                rfl
               exact e
              have HC:Hid (ef p a (b+1)=ef p a b+1):=by
               have e:ef p a (b+1)=ef p a b+1:=by simp[ef,An,bL]
               exact e
              clear An bL
              go_wp2_with (first | (go_at_call 19;refine(lj _).mono ?_;rintro e w' ⟨rfl,rfl⟩) | (go_at_call 18;refine(hpd _).mono ?_;rintro e w3 ⟨rfl,eA⟩) | (go_at_call 122;refine(hna _).mono ?_;rintro e w4 ⟨rfl,VD⟩;have Qe:Hid (iO w w4 (.slice bd l3.length bc) (ef p a b) l3):=(Tu.out.below eA).below VD) | (at_builtin;refine wpList_append_own _ rfl (.tmp 24) (.tmp 31) 37 rfl w.heap.size 48 i0 _ 2 40 Tryz.underlying37 hi ew dZ dU rfl (by decide) _ _ _ rfl ((Qe.out.row.alloc _).alloc _) ⟨w4.heap.size+1,0,none⟩ 1 1 [.string (Ax.cr p),.slice (some ⟨w4.heap.size,0,none⟩) 1 1] rfl rfl (eP _ _ _ _) (by simp[Value.oneCell']) (by unfold maxLen;omega) (by omega) (by have:=Qe.out.aZ.size;simp;omega) ?_;intro v2 w2 aR bG _))
              have HX:Hid (iO w w' v2 (ef p a (b+1)) (l3++[⟨Ax.cr p,[Ax.cf a],.slice (some ⟨w4.heap.size,0,none⟩) 1 1⟩])):=by
               rw[HC.out]
               exact Qe.out.step (args:=[Ax.cf a]) HD.out (by simp) (by simp) aR bG
              go_roundw
              case rel=>exact⟨b+1,_,by omega,by go_num,HX.out⟩
              case measure=>simp[intOf];omega
            · have Z7:((b:Int)==0)=false:=beq_eq_false_iff_ne.2 (by omega)
              have Xf:Hid (iO w wr (.slice bd l3.length bc) (ef p a (b+1)) l3):=by
               have e:ef p a (b+1)=ef p a b:=by simp[ef,An,bL]
               rw[e]
               exact Tu.out
              clear An bL
              go_wp2_with (go_at_call 19;refine(lj _).mono ?_;rintro e w' ⟨rfl,rfl⟩)
              go_roundw
              case rel=>exact⟨b+1,l3,by omega,by go_num,Xf.out⟩
              case measure=>simp[intOf];omega
          · rw[if_neg An]at lj
            have HD:Hid (be (ef p a b)=(Ax.cr p,[Ax.cf a,Ax.cf b])):=by
             have e:be (ef p a b)=(Ax.cr p,[Ax.cf a,Ax.cf b]):=by
              have e1:ef p a b=4+16*(p-1)+4*a+b:=by simp[ef,An]
              rw[e1,Za (by omega) Z5 kY]
              simp[pE,An]
             exact e
            have HC:Hid (ef p a (b+1)=ef p a b+1):=by
             have e:ef p a (b+1)=ef p a b+1:=by simp[ef,An];omega
             exact e
            have ze:Hid (∀W (x:Nat),x<4→Calls Tryz.prog 122 #[.int .i64 (x:Nat)] W fun e w'=>e=.returned (.string (Ax.cf x))∧Below W.heap.size W w'):=by
             intro W x hx
             have h9:=rS (x:Int) W (mG (by omega))
             rw[jA hx]at h9
             exact h9
            clear An hna Bc
            go_wp2_with (first | (go_at_call 19;refine(lj _).mono ?_;rintro e w' ⟨rfl,rfl⟩) | (go_at_call 18;refine(hpd _).mono ?_;rintro e w3 ⟨rfl,eA⟩;have Qe:Hid (iO w w3 (.slice bd l3.length bc) (ef p a b) l3):=Tu.out.below eA) | (go_at_call 122;refine(ze.out _ _ (by assumption)).mono ?_;rintro e w4 ⟨rfl,VD⟩;replace Qe:Hid (iO w w4 (.slice bd l3.length bc) (ef p a b) l3):=Qe.out.below VD) | (at_builtin;refine wpList_append_own _ rfl (.tmp 36) (.tmp 45) 37 rfl w.heap.size 48 i0 _ 2 40 Tryz.underlying37 hi ew dZ dU rfl (by decide) _ _ _ rfl ((Qe.out.row.alloc _).alloc _) ⟨w4.heap.size+1,0,none⟩ 1 1 [.string (Ax.cr p),.slice (some ⟨w4.heap.size,0,none⟩) 2 2] rfl rfl (eP _ _ _ _) (by simp[Value.oneCell']) (by unfold maxLen;omega) (by omega) (by have:=Qe.out.aZ.size;simp;omega) ?_;intro v2 w2 aR bG _))
            have HX:Hid (iO w w2 v2 (ef p a (b+1)) (l3++[⟨Ax.cr p,[Ax.cf a,Ax.cf b],.slice (some ⟨w4.heap.size,0,none⟩) 2 2⟩])):=by
             rw[HC.out]
             exact Qe.out.step (args:=[Ax.cf a,Ax.cf b]) HD.out (by simp) (by simp) aR bG
            go_roundw
            case rel=>exact⟨b+1,_,by omega,by go_num,HX.out⟩
            case measure=>simp[intOf];omega
        · have ti:b=4:=by omega
          subst ti
          have Xf:Hid (iO w wr (.slice bd l3.length bc) (ef p (a+1) 0) l3):=by
           have e:ef p (a+1) 0=ef p a 4:=by unfold ef;split<;>(try simp)<;>omega
           rw[e]
           exact Tu.out
          go_wp2_with fail
          go_roundw
          case rel=>exact⟨a+1,l3,by omega,by go_num,Xf.out⟩
          case measure=>simp[intOf];omega
     · have hae:a=4:=by omega
       subst hae
       have Xf:Hid (iO w wr (.slice bd l2.length bc) (ef (p+1) 0 0) l2):=by
        have e:ef (p+1) 0 0=ef p 4 0:=by unfold ef;split<;>(try simp)<;>(try split)<;>omega
        rw[e]
        exact WS.out
       go_wp2_with fail
       go_roundw
       case rel=>exact⟨p+1,l2,by omega,by go_num,Xf.out⟩
       case measure=>simp[intOf];omega
  · have Z9:p=3:=by omega
    subst Z9
    have HA:Hid (iO w wr (.slice ad l.length ac) 36 l):=hA
    clear hA
    go_wp2_with fail
    go_ret
    exact⟨_,l,rfl,HA.out⟩
end
/- axiomkeep.fact. -/
section
open Go.RowKit
theorem Jg(w:World)(c:Int)(hc:cw c):Calls Tryz.prog 72 #[.int .i64 c] w fun e w'=>∃f:FI,e=.returned (.agg #[.string f.pred,f.av])∧(f.pred,f.args)=be (Ax.bk c 36)∧
 w'.ownsRow w.heap.size 9 1 f.av f.args.length (strCells f.args)∧Below w.heap.size w w':=by
 have Km:=fun w=>oz c 36 w hc (by decide) (by decide)
 have aE:=Ax.eE c 36 (by decide)
 generalize Ax.bk c 36=k at Km aE ⊢
 obtain⟨w0,cZ⟩:∃w0,w0=w.alloc (.cells #[.string ⟨#[]⟩,.slice none 0 0] 48):=⟨_,rfl⟩
 have bL:Below w.heap.size w w0:=by rw[cZ];exact(Below.refl _ _).alloc (Nat.le_refl _) _
 have mN:w0.heap[w.heap.size]?=some (.cells #[.string ⟨#[]⟩,.slice none 0 0] 48 (0,0)):=by rw[cZ];exact heap_alloc_new w _
 have Y5:Hid (Calls Tryz.prog 65 #[] w0 fun e w'=>∃c g,∃f:FI,e=.returned (.slice (some ⟨g,0,none⟩) 36 c)∧Hid ((f.pred,f.args)=be k∧w'.ownsRow (w.heap.size+1) 9 1 f.av f.args.length (strCells f.args)∧Below w.heap.size w w'∧w'.heap[w.heap.size]?=some (.cells #[.string ⟨#[]⟩,.slice none 0 0] 48 (0,0)))∧g<w'.heap.size∧36≤c∧w'.cell? ⟨g,k*2,none⟩=some (.string f.pred)∧w'.cell? ⟨g,k*2+1,none⟩=some f.av∧
  w'.cell? ⟨w.heap.size,0,none⟩=some (.string ⟨#[]⟩)∧w'.cell? ⟨w.heap.size,1,none⟩=some (.slice none 0 0)∧(∀o,w'.frozen? ⟨w.heap.size,o,none⟩=false)):=by
  refine(QF w0).mono ?_
  rintro e w' ⟨v,l,rfl,hA⟩
  have hl:=hA.len
  have hk:k<l.length:=by omega
  obtain⟨d,c,rfl⟩:=ah hA.row
  obtain⟨g,rfl,hg,Kk,bH⟩:=aD hA.row (by omega)
  have xg:Below w0.heap.size w0 w':=hA.aZ
  have h1:w'.heap[w.heap.size]?=some (.cells #[.string ⟨#[]⟩,.slice none 0 0] 48 (0,0)):=by rw[xg.block _ (lt_of_heap mN)];exact mN
  have cE:w0.heap.size=w.heap.size+1:=by rw[cZ];simp
  refine⟨c,g,l[k],by rw[hl],⟨?_,by rw[←cE];exact hA.each _ (List.getElem_mem hk),bL.trans (xg.mono bL.size),h1⟩,hg,by omega,bH _ _ (eI l k hk).1,bH _ _ (eI l k hk).2,by rw[cell_of_row _ _ _ _ _ _ h1];rfl,by rw[cell_of_row _ _ _ _ _ _ h1];rfl,fun o=>by simp[World.frozen?,h1]⟩
  have h9:=congrArg (fun z=>z[k]?) hA.data
  simp[aE,hk]at h9
  exact h9
 clear bL mN
 go_enter Tryz.func72,Tryz.ntmps72
 go_wp2_with fail
 rw[←cZ]
 clear cZ
 refine Y5.out.mono ?_
 rintro e w1 ⟨cc,g,f,rfl,HF,hg,h36,c0,c1,d0,d1,df⟩
 have df0:=df 0
 have df1:=df 1
 obtain⟨fp,fa,fv⟩:=f
 simp only at c0 c1 HF
 obtain⟨xd,xc,hfv⟩:=ah HF.out.2.1
 subst hfv
 go_wp2_with (go_at_call 27;refine(Km _).mono ?_;rintro e w' ⟨rfl,hw⟩;subst hw)
 obtain⟨e1,e2,e3,e4⟩:=HF.out
 have k1:=an _ e4 0 (.string fp)
 have k2:=an _ k1 1 (.slice xd fa.length xc)
 have k3:Kb [w.heap.size] w' ((w'.setCell ⟨w.heap.size,0,none⟩ (.string fp)).setCell ⟨w.heap.size,1,none⟩ (.slice xd fa.length xc)):=(Kb.setCell w' ⟨w.heap.size,0,none⟩ _).trans (Kb.setCell _ ⟨w.heap.size,1,none⟩ _)
 refine bodyPost_ret (v:=.agg #[.string fp,.slice xd fa.length xc]) ?_ rfl ⟨⟨fp,fa,.slice xd fa.length xc⟩,rfl,e1,aG (k3.row e2 (fun b hb=>by have:=(e2.lt b hb).1;simp;omega)) (by omega),k3.aJ e3 e3.size (by simp)⟩
 exact results_cell_row rfl _ _ _ _ _ _ _ rfl k2 Tryz.underlying48 rfl (by kernel_rfl)
end
/- axiomkeep.facts. -/
section
open Go.RowKit
structure fT(w:World)(ad:Option Addr)(n c:Nat)(l:List Int):Prop where
 len:l.length=n
 cap:n≤c
 max:c≤maxLen
 at_:∀k (h:k<l.length),∃g o,ad=some ⟨g,o,none⟩∧w.cell? ⟨g,o+k,none⟩=some (.int .i64 l[k])∧cw l[k]
theorem fT.below{w w':World}{ad:Option Addr}{n c:Nat}{l:List Int}(h:fT w ad n c l)(hb:Below w.heap.size w w'):fT w' ad n c l:=
 ⟨h.len,h.cap,h.max,fun k hk=>let ⟨g,o,e,c1,f⟩:=h.at_ k hk;⟨g,o,e,bx hb c1,f⟩⟩
structure oC(w wr:World)(a:Value)(l:List FI)(D:List (ByteArray×List ByteArray)):Prop where
 row:wr.ownsRow w.heap.size 48 2 a l.length (dC l)
 each:∀f,f∈l→wr.ownsRow w.heap.size 9 1 f.av f.args.length (strCells f.args)
 data:l.map (fun f=>(f.pred,f.args))=D
 aZ:Below w.heap.size w wr
theorem oC.nil(w:World):oC w w (.slice none 0 0) [] []:=⟨World.ownsRow_nil _ _ _ _,by simp,rfl,Below.refl _ _⟩
theorem oC.below{w wr w':World}{a:Value}{l:List FI}{D:List (ByteArray×List ByteArray)}(h:oC w wr a l D)(hb:Below wr.heap.size wr w'):oC w w' a l D:=
 ⟨ae h.row hb,fun f hf=>ae (h.each f hf) hb,h.data,h.aZ.trans (hb.mono h.aZ.size)⟩
theorem oC.step{w wr w2:World}{a v2:Value}{l:List FI}{D:List (ByteArray×List ByteArray)}(h:oC w wr a l D)(f:FI)(ZQ:wr.ownsRow w.heap.size 9 1 f.av f.args.length (strCells f.args))
 (al:w2.ownsRow w.heap.size 48 2 v2 (l.length+1) (dC l++[.string f.pred,f.av])){o:Obj}(hg:(wr.alloc o).grownBy w2 a.ownBlock):oC w w2 v2 (l++[f]) (D++[(f.pred,f.args)]):=by
 have hs:=h.aZ.size
 have cM:Below wr.heap.size wr (wr.alloc o):=(Below.refl _ _).alloc (Nat.le_refl _) _
 have hk:=Kb.dA hg
 have aE:∀q,a.ownBlock=some q→w.heap.size≤q∧q<wr.heap.size:=fun q hq=>h.row.lt q hq
 have SQ:∀u:FI,wr.ownsRow w.heap.size 9 1 u.av u.args.length (strCells u.args)→w2.ownsRow w.heap.size 9 1 u.av u.args.length (strCells u.args):=fun u hu=>by
  refine hk.row (ae hu cM) (fun b hb hc=> ?_)
  rw[Option.mem_toList]at hc
  obtain⟨c1,e1⟩:=aH hu hb
  obtain⟨c2,e2⟩:=aH h.row hc
  rw[e1]at e2
  simp at e2
 refine⟨?_, ?_, ?_, ?_⟩
 · rw[ng,List.length_append]
   exact al
 · intro u hu
   rcases List.mem_append.1 hu with hu | hu
   · exact SQ u (h.each u hu)
   · simp only[List.mem_singleton]at hu
     subst hu
     exact SQ _ ZQ
 · rw[List.map_append,h.data]
   simp
 · exact hk.aJ (h.aZ.trans (cM.mono hs)) (by simp;omega) (fun q hq=>by rw[Option.mem_toList]at hq;exact(aE q hq).1)
def ED(l:List Int):List (ByteArray×List ByteArray):=(l.take 30).map fun c=>be (Ax.bk c 36)
theorem FQ(w:World)(ad:Option Addr)(n c:Nat)(L:List Int)(hL:fT w ad n c L):Calls Tryz.prog 39 #[.slice ad n c] w fun e w'=>∃v l,e=.returned v∧oC w w' v l (ED L):=by
 obtain⟨i0,hi,ew,dZ,dU⟩:=info_parts Tryz.ow
 have zn:=hL.len
 subst zn
 have HL:Hid (fT w ad L.length c L):=hL
 have mH:=hL.cap
 have Xp:=hL.max
 have hm:maxLen=9223372036854775807:=rfl
 clear hL
 go_enter Tryz.func39,Tryz.ntmps39
 go_wp2_with fail
 go_loopw [3,4] (fun a i wr=>∃(k:Nat) (l:List FI),k≤L.length∧k≤30∧i=.int .i64 k∧oC w wr a l ((L.take k).map fun c=>be (Ax.bk c 36))) (fun _ i _=>30-(intOf i).toNat)
 case atStart=>exact⟨0,[],by omega,by omega,rfl,oC.nil w⟩
 case round=>
  obtain⟨k,l,hk,VN,rfl,hF⟩:=hrel
  obtain⟨bd,bc,rfl⟩:=ah hF.row
  have HF:Hid (oC w wr (.slice bd l.length bc) l ((L.take k).map fun c=>be (Ax.bk c 36))):=hF
  have yE:l.length≤30:=by
   have:=congrArg List.length hF.data
   simp at this
   omega
  clear hF
  by_cases aE:k<L.length
  · by_cases PS:k<30
    · obtain⟨g,o,rfl,ca,km⟩:=(HL.out.below HF.out.aZ).at_ k aE
      have fS:Hid ((L.take (k+1)).map (fun c=>be (Ax.bk c 36))=(L.take k).map (fun c=>be (Ax.bk c 36))++[be (Ax.bk L[k] 36)]):=by
       have e0:L.take (k+1)=L.take k++[L[k]]:=by rw[List.take_add_one,List.getElem?_eq_getElem aE];rfl
       have e1:(L.take (k+1)).map (fun c=>be (Ax.bk c 36))=(L.take k).map (fun c=>be (Ax.bk c 36))++[be (Ax.bk L[k] 36)]:=by rw[e0,List.map_append];rfl
       exact e1
      have OA:=Jg wr L[k] km
      generalize L[k]=x at ca OA fS
      have zo:Hid (Calls Tryz.prog 72 #[.int .i64 x] wr fun e w'=>∃f:FI,e=.returned (.agg #[.string f.pred,f.av])∧Hid ((f.pred,f.args)=be (Ax.bk x 36)∧w'.ownsRow w.heap.size 9 1 f.av f.args.length (strCells f.args)∧oC w w' (.slice bd l.length bc) l ((L.take k).map fun c=>be (Ax.bk c 36)))):=by
       refine OA.mono ?_
       rintro e w' ⟨f,rfl,q1,q2,q3⟩
       exact⟨f,rfl,q1,aG q2 HF.out.aZ.size,HF.out.below q3⟩
      clear OA km
      go_wp2_with (first | (go_at_call 72;refine zo.out.mono ?_;rintro e w3 ⟨f,rfl,HQ⟩;obtain⟨fp,fa,fv⟩:=f;simp only at HQ ⊢;obtain⟨xd,xc,hfv⟩:=ah HQ.out.2.1;subst hfv) | (at_builtin;refine wpList_append_own _ rfl (.tmp 15) (.tmp 21) 37 rfl w.heap.size 48 i0 _ 2 40 Tryz.underlying37 hi ew dZ dU rfl (by decide) _ _ _ rfl (HQ.out.2.2.row.alloc _) ⟨w3.heap.size,0,none⟩ 1 1 [.string fp,.slice xd fa.length xc] rfl rfl (ml _ _ _) (by simp[Value.oneCell']) (by unfold maxLen;omega) (by omega) (by have:=HQ.out.2.2.aZ.size;simp;omega) ?_;intro v2 w2 aR bG _))
      have HX:Hid (oC w w2 v2 (l++[⟨fp,fa,.slice xd fa.length xc⟩]) ((L.take (k+1)).map fun c=>be (Ax.bk c 36))):=by
       rw[fS.out,←HQ.out.1]
       exact HQ.out.2.2.step ⟨fp,fa,.slice xd fa.length xc⟩ HQ.out.2.1 aR bG
      go_roundw
      case rel=>exact⟨k+1,_,aE,PS,by go_num,HX.out⟩
      case measure=>simp[intOf];omega
    · have HE:Hid (oC w wr (.slice bd l.length bc) l (ED L)):=by
       have e:k=30:=by omega
       have h9:=HF.out
       rw[e]at h9
       exact h9
      go_wp2_with fail
      go_ret
      exact⟨_,l,rfl,HE.out⟩
  · have HE:Hid (oC w wr (.slice bd l.length bc) l (ED L)):=by
     have h9:=HF.out
     have e1:L.take k=L.take 30:=by rw[List.take_of_length_le (by omega),List.take_of_length_le (by omega)]
     rw[e1]at h9
     exact h9
    go_wp2_with fail
    go_ret
    exact⟨_,l,rfl,HE.out⟩
end
/- axiomkeep.Shop.right: what its loops work out. -/
section
open Go.RowKit
def b3(H:Nat→Bool)(C:Nat→Nat)(i:Nat):Nat→Nat:=fun x=>(if x<i∧(H x&&H (4+5*x))=true then 1 else 0)+((if x<i∧(H x&&H (20+5*x))=true then 1 else 0)+C x)
end
/- axiomkeep.Shop.apply: what it keeps. -/
section
open Go.RowKit Go.Maps
def idxs(L:List Int):List Nat:=(L.take 30).map fun c=>Ax.bk c 36
theorem ny(L:List Int):∀i,i∈idxs L→i<36:=by
 intro i hi
 obtain⟨c,_,rfl⟩:=List.mem_map.1 hi
 exact Ax.eE c 36 (by decide)
theorem oP(L:List Int):(idxs L).length≤30:=by simp[idxs];omega
theorem tG{L:List Int}{k:Nat}(h1:k<L.length)(h2:k<30):(idxs L).take (k+1)=(idxs L).take k++[Ax.bk L[k] 36]:=by
 unfold idxs
 rw[←List.map_take,←List.map_take,List.take_take,List.take_take,Nat.min_eq_left (by omega),Nat.min_eq_left (by omega),List.take_add_one,List.getElem?_eq_getElem h1,List.map_append]
 rfl
theorem mu{L:List Int}{k:Nat}(h:¬(k<L.length∧k<30)):(idxs L).take k=idxs L:=by
 refine List.take_of_length_le ?_
 simp[idxs]
 omega
structure Ps(L:List Int)(fd:Option Addr)(fc:Nat)(l:List FI)(W:World):Prop where
 CC:bM W fd fc l
 idx:fI l (idxs L)
theorem Ps.below{L:List Int}{fd:Option Addr}{fc:Nat}{l:List FI}{W W':World}(h:Ps L fd fc l W)(hb:Below W.heap.size W W'):Ps L fd fc l W':=⟨h.CC.below hb,h.idx⟩
theorem Ps.len{L:List Int}{fd:Option Addr}{fc:Nat}{l:List FI}{W:World}(h:Ps L fd fc l W):l.length≤30:=by
 rw[←h.idx.len]
 exact oP L
theorem TX{W w':World}{v:Value}{l:List FI}{L:List Int}(h:oC W w' v l (ED L)):∃fd fc,v=.slice fd l.length fc∧Ps L fd fc l w':=by
 obtain⟨fd,fc,rfl⟩:=ah h.row
 refine⟨fd,fc,rfl,⟨aG h.row (Nat.zero_le _),fun f hf=>aG (h.each f hf) (Nat.zero_le _)⟩, ?_,ny L⟩
 rw[h.data]
 unfold ED idxs
 rw[List.map_map]
 rfl
structure sW(B:Nat)(w:World)(sb eg:Nat)(rv:Value)(kl:List Ax.ay)(gs ge:Nat→Bool)(n:Nat):Prop where
 lP:fo w sb eg rv gs
 KW:nP w B eg kl ge n
 le:B≤sb
theorem sW.below{B:Nat}{w w':World}{sb eg:Nat}{rv:Value}{kl:List Ax.ay}{gs ge:Nat→Bool}{n:Nat}(h:sW B w sb eg rv kl gs ge n)(hb:Below w.heap.size w w'):sW B w' sb eg rv kl gs ge n:=⟨h.lP.below hb,h.KW.below hb,h.le⟩
theorem nP.off{w w':World}{B eg:Nat}{kl:List Ax.ay}{gv:Nat→Bool}{n:Nat}(h:nP w B eg kl gv n){x:Nat}(hk:Kb [x] w w'){Z:Array Value}{f:Nat×Nat}(hx:w.heap[x]?=some (.cells Z 43 f)):nP w' B eg kl gv n:=by
 obtain⟨pl,rd,rc,l,gm,G,hm,T,s,hd,lv,ln,lx,eb,dN,he,hG,hR,hH,hI,hT,bT,nU,zn,DL⟩:=h.at_
 have cA:eg≠x:=fg eb hx (by decide)
 refine⟨⟨pl,rd,rc,l,gm,G,hm,T,s,hd,lv,ln,lx,hk.heap eb (by simpa using cA),dN.kept hk ?_,he,hG.kept hk (hG.kx hx (by decide) (by decide)),hR,hH.kept hk ?_,hI,hT,bT,hk.dV nU ?_,zn,DL⟩,h.ge⟩
 · intro b cur U hb e
   simp only[List.mem_cons,List.not_mem_nil,or_false]at hb
   subst hb
   rw[hx]at e
   simp at e
   rw[←e.2.1]
   decide
 · intro b hb e
   simp only[List.mem_cons,List.not_mem_nil,or_false]at e
   subst e
   unfold cK at hb
   rcases List.mem_cons.1 hb with rfl | hb
   · obtain⟨es,ck,e⟩:=hH.map.block
     rw[e]at hx
     cases hx
   · obtain⟨u,hu,hb⟩:=List.mem_flatMap.1 hb
     obtain⟨cur,T,e,hT⟩:=(hH.b8 u hu).types hb
     rw[e]at hx
     simp at hx
     rcases hT with rfl | rfl | rfl
     · exact absurd hx.2.1 (by decide)
     · exact absurd hx.2.1 (by decide)
     · exact absurd hx.2.1 (by decide)
 · intro b cur fz hb e
   simp only[List.mem_cons,List.not_mem_nil,or_false]at hb
   subst hb
   rw[hx]at e
   simp at e
theorem CV(eg:Nat)(rv:Value)(gv:Nat→Bool)(i:Nat)(b:Bool):(o6 eg rv gv).setIfInBounds (2+i) (.bool b)=o6 eg rv (gp gv i b):=by
 unfold o6
 have h:=Fm gv i b
 rw[List.setIfInBounds_toArray]at h
 have h2:(kh gv).set i (.bool b)=kh (gp gv i b):=by simpa using congrArg Array.toList h
 rw[List.setIfInBounds_toArray,List.set_append_right _ _ (by simp)]
 have e:2+i-[Value.pointer (some ⟨eg,0,none⟩),rv].length=i:=by simp
 rw[e,h2]
theorem sW.set{B:Nat}{w:World}{sb eg:Nat}{rv:Value}{kl:List Ax.ay}{gs ge:Nat→Bool}{n:Nat}(h:sW B w sb eg rv kl gs ge n)(i:Nat)(b:Bool):sW B (w.setCell ⟨sb,2+i,none⟩ (.bool b)) sb eg rv kl (gp gs i b) ge n∧Below B w (w.setCell ⟨sb,2+i,none⟩ (.bool b)):=by
 have hs:=h.lP
 unfold fo at hs
 have hk:Kb [sb] w (w.setCell ⟨sb,2+i,none⟩ (.bool b)):=Kb.setCell w ⟨sb,2+i,none⟩ _
 refine⟨⟨?_,h.KW.off hk hs,h.le⟩,(Below.refl _ _).setCell (p:=⟨sb,2+i,none⟩) h.le _⟩
 unfold fo
 rw[an w hs (2+i),CV]
theorem sW.cell{B:Nat}{w:World}{sb eg:Nat}{rv:Value}{kl:List Ax.ay}{gs ge:Nat→Bool}{n:Nat}(h:sW B w sb eg rv kl gs ge n){i:Nat}(hi:i<36):w.cell? ⟨sb,2+i,none⟩=some (.bool (gs i))∧w.frozen? ⟨sb,2+i,none⟩=false∧sb<w.heap.size:=by
 have hs:=h.lP
 unfold fo at hs
 exact⟨h.lP.cells.2.2 i hi,by simp[World.frozen?,hs],lt_of_heap hs⟩
end
end Go.Proofs.YtdmicblafmhflaaGreatDoor
