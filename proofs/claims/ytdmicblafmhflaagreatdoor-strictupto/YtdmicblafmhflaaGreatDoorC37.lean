/- axiomkeep: text, walked. -/
import Derived.Test.YtdmicblafmhflaaGreatDoorC36
import Derived.Deep.CutRange
import Derived.Test.YtdmicblafmhflaaGreatDoorC11
import Derived.Deep.RegionHeld3
import Derived.Deep.AppendLies
import Derived.Test.YtdmicblafmhflaaGreatDoorC33
import Derived.BigQuiet
set_option linter.unusedSimpArgs false
set_option linter.unusedVariables false
set_option maxHeartbeats 8000000
set_option maxRecDepth 100000
namespace Go.Proofs.YtdmicblafmhflaaGreatDoor
section
open Go.RowKit
theorem Ng(w:World)(ad:Option Addr)(n c:Nat)(l:List Ax.aM)(h:rZ w ad n c l)(R:ByteArray)(HR:Hid (kQ (l.take 6) xF=R)):
 Calls Tryz.prog 35 #[.slice ad n c] w fun e w'=>e=.returned (.string R)∧Below w.heap.size w w'∧R.size≤338:=by
 have Ca:c≤9223372036854775807:=h.max
 have VU:=h.cap
 have hlen:=h.len
 rw[Ol]at HR
 go_enter Tryz.func35,Tryz.ntmps35
 go_wp2_with fail
 go_loopw [3,4] (fun sv iv wr=>∃(i:Nat) (q:ByteArray),i≤min n 6∧sv=.string q∧iv=.int .i64 i∧Below w.heap.size w wr∧q.size≤38+50*i∧kQ ((l.take 6).drop i) q=R) (fun _ iv _=>6-(intOf iv).toNat)
 case atStart=>exact⟨0,_,Nat.zero_le _,rfl,rfl,Below.refl _ _,by decide,HR.out⟩
 case round=>
  obtain⟨i,q,hi,rfl,rfl,aR,Co,hr⟩:=hrel
  have KS:Hid (kQ ((l.take 6).drop i) q=R):=hr
  clear hr HR
  have cr:=aR.size
  by_cases aC:i<min n 6
  · have vU:decide ((i:Int)<(n:Int))=true:=by simp;omega
    have FK:decide ((i:Int)<6)=true:=by simp;omega
    have hn3:(i:Int)<(n:Int):=by omega
    have fo:(l.take 6).drop i=l[i]::(l.take 6).drop (i+1):=by
     rw[List.drop_eq_getElem_cons (by rw[List.length_take];omega),List.getElem_take]
    rw[fo]at KS
    clear fo
    obtain⟨g,o,Tl,GN⟩:=h.at_ i (by omega)
    subst Tl
    generalize l[i]=r at*
    have HN:Hid (kQ ((l.take 6).drop (i+1)) (An r q)=R):=KS
    clear KS
    obtain⟨⟨e0,e1,e2,f0,f1,f2⟩,bd,bn,bc,e3,hB⟩:=GN
    have HT:Hid (An r q=kV (Ax.jW r) 0 (q++uV (Ax.a8 r.head.pred 3) (Ax.eJ r))++⟨#[46]⟩):=rfl
    have Fz:=Rq hB f0 f1 f2 _ rfl
    have PZ:=wo (w:=w) f0 _ (BA r).2 (DL r) _ rfl
    have hAs:=wG (Ax.a8 r.head.pred 3) (Ax.eJ r) (BA r).2
    have L3:=hB.two
    obtain⟨m,hm⟩:∃m,min bn 2=m:=⟨_,rfl⟩
    have M9:m≤2:=by omega
    have DB:=R6 hB r.head.pred r.head.a r.head.b m hm
    rw[hm]at L3
    clear hm hB
    generalize An r q=Q at*
    generalize uV (Ax.a8 r.head.pred 3) (Ax.eJ r)=A at*
    generalize Ax.eJ r=T at*
    generalize Ax.jW r=gb at*
    rcases r with⟨⟨p,a,b⟩,rb⟩
    simp only at*
    have E0:=bS aR e0
    have E1:=bS aR e1
    have E2:=bS aR e2
    have E3:=bS aR e3
    have hA1:(q++A).size≤50+50*i:=by rw[ByteArray.size_append];omega
    go_upto_region 5 with fail
    go_cut [3]from 7 to 62 (fun sv wx=>sv=.string (q++A)∧Below w.heap.size w wx)
    case first=>
     go_region_with (first | (go_at_call 62;refine(Fz _ (by first | exact aR | exact aR.drew)).mono ?_;rintro e w2 ⟨d2,c2,rfl,yW,cM⟩;have G0:=bS cM e0) | (go_at_call 61;refine(PZ _ _ _ cM yW).mono ?_;rintro e w3 ⟨rfl,eB⟩))
     all_goals (go_wp2_with fail)
     all_goals go_meet
     all_goals exact⟨rfl,by first | exact eB | exact eB.drew⟩
    case rest=>
     obtain⟨rfl,vN⟩:=hcut
     clear E0 E1 E2 E3 aR Fz PZ Co cr
     have K0:=bS vN e0
     have K1:=bS vN e1
     have K2:=bS vN e2
     have K3:=bS vN e3
     go_wp2_with (go_at_call 63;refine(DB _ vN).mono ?_;rintro e w4 ⟨rfl,lZ⟩)
     generalize (q++A:ByteArray)=q1 at*
     clear K0 K1 K2 K3 vN DB
     obtain⟨Z,hZ⟩:∃Z,kV gb 0 q1=Z:=⟨_,rfl⟩
     have HZ:Hid (kV gb 0 q1=Z):=hZ
     rw[hZ]at HT
     clear hZ e0 e1 e2 e3
     have mh:=L3.len
     have hbm:bc≤9223372036854775807:=L3.max
     have hmc:=L3.cap
     go_loopw [3,6] (fun sv kv wx=>∃(k:Nat) (q2:ByteArray),k≤m∧sv=.string q2∧kv=.int .i64 k∧Below w.heap.size w wx∧q2.size≤50+50*i+15*k∧kV (gb.drop k) k q2=Z) (fun _ kv _=>m-(intOf kv).toNat)
     case atStart=>exact⟨0,_,Nat.zero_le _,rfl,rfl,lZ,by omega,HZ.out⟩
     case round=>
      obtain⟨k,q2,hk,rfl,rfl,MK,hq2,hz⟩:=hrel
      have ZQ:Hid (kV (gb.drop k) k q2=Z):=hz
      clear hz HZ lZ
      by_cases hkm:k<m
      · have fo:gb.drop k=gb[k]::gb.drop (k+1):=List.drop_eq_getElem_cons (by omega)
        rw[fo]at ZQ
        clear fo
        obtain⟨bg,bo,Tl,ha⟩:=L3.at_ k (by omega)
        subst Tl
        generalize gb[k]=x at*
        obtain⟨e0,e1,e2,f0,f1,f2⟩:=ha
        have W7:=Mk (w:=w) f0 f1 f2 _ rfl
        have PZ:=wo (w:=w) f0 _ (kY x).2 (rE x) (wA x) rfl
        have hAs:=wG (Ax.a8 x.pred 3) (Ax.bT x) (kY x).2
        have hAs:(wA x).size≤12:=hAs
        have HZx:Hid (kV (gb.drop (k+1)) (k+1) ((if k=0 then q2++⟨#[58,45]⟩else q2++⟨#[44]⟩)++wA x)=Z):=ZQ
        clear ZQ
        generalize wA x=A at*
        generalize Ax.bT x=T at*
        rcases x with⟨p,a,b⟩
        simp only at*
        have E0:=bS MK e0
        have E1:=bS MK e1
        have E2:=bS MK e2
        have Gk:(k:Int)<(m:Int):=by omega
        by_cases FO:k=0
        · have bK:(((k:Nat):Int)==0)=true:=by simp;omega
          have HQ:Hid (kV (gb.drop (k+1)) (k+1) (q2++⟨#[58,45]⟩++A)=Z):=by
           have:=HZx.out
           rw[if_pos FO]at this
           exact this
          have h1s:(⟨#[58,45]⟩:ByteArray).size=2:=rfl
          have kW:(q2++⟨#[58,45]⟩:ByteArray).size≤52+50*i+15*k:=by rw[ByteArray.size_append];omega
          have vI:(q2++⟨#[58,45]⟩++A:ByteArray).size≤50+50*i+15*(k+1):=by rw[ByteArray.size_append,ByteArray.size_append];omega
          clear HZx FO
          go_wp2_with fail
          go_region_with (first | (go_at_call 64;refine(W7 _ (by first | exact MK | exact MK.drew)).mono ?_;rintro e w2 ⟨d2,c2,rfl,yW,cM⟩;have G0:=bS cM e0) | (go_at_call 61;refine(PZ _ _ _ cM yW).mono ?_;rintro e w3 ⟨rfl,eB⟩))
          all_goals (go_wp2_with fail)
          all_goals (go_roundw;(case rel=>exact⟨k+1,_,by omega,rfl,by go_num,(by first | exact eB | exact eB.drew),by omega,HQ.out⟩);(case measure=>simp[intOf];omega))
        · have bK:(((k:Nat):Int)==0)=false:=by simp;omega
          have HQ:Hid (kV (gb.drop (k+1)) (k+1) (q2++⟨#[44]⟩++A)=Z):=by
           have:=HZx.out
           rw[if_neg FO]at this
           exact this
          have h1s:(⟨#[44]⟩:ByteArray).size=1:=rfl
          have kW:(q2++⟨#[44]⟩:ByteArray).size≤52+50*i+15*k:=by rw[ByteArray.size_append];omega
          have vI:(q2++⟨#[44]⟩++A:ByteArray).size≤50+50*i+15*(k+1):=by rw[ByteArray.size_append,ByteArray.size_append];omega
          clear HZx FO
          go_wp2_with fail
          go_region_with (first | (go_at_call 64;refine(W7 _ (by first | exact MK | exact MK.drew)).mono ?_;rintro e w2 ⟨d2,c2,rfl,yW,cM⟩;have G0:=bS cM e0) | (go_at_call 61;refine(PZ _ _ _ cM yW).mono ?_;rintro e w3 ⟨rfl,eB⟩))
          all_goals (go_wp2_with fail)
          all_goals (go_roundw;(case rel=>exact⟨k+1,_,by omega,rfl,by go_num,(by first | exact eB | exact eB.drew),by omega,HQ.out⟩);(case measure=>simp[intOf];omega))
      · have hqZ:q2=Z:=by
         have:=ZQ.out
         rw[List.drop_eq_nil_of_le (by omega)]at this
         exact this
        subst hqZ
        clear ZQ
        have h1s:(⟨#[46]⟩:ByteArray).size=1:=rfl
        have ahH:(q2++⟨#[46]⟩:ByteArray).size≤88+50*i:=by rw[ByteArray.size_append];omega
        go_wp2_with fail
        go_roundw
        case rel=>exact⟨i+1,_,by omega,rfl,by go_num,MK,by omega,by rw[←HT.out];exact HN.out⟩
        case measure=>simp[intOf];omega
  · by_cases dQ:i<n
    · have vU:decide ((i:Int)<(n:Int))=true:=by simp;omega
      have FK:decide ((i:Int)<6)=false:=by simp;omega
      have Ya:q=R:=by
       have:=KS.out
       rw[List.drop_eq_nil_of_le (by simp;omega)]at this
       exact this
      subst Ya
      clear KS
      go_wp2_with fail
      go_ret
      exact⟨rfl,aR,by omega⟩
    · have vU:decide ((i:Int)<(n:Int))=false:=by simp;omega
      have Ya:q=R:=by
       have:=KS.out
       rw[List.drop_eq_nil_of_le (by simp;omega)]at this
       exact this
      subst Ya
      clear KS
      go_wp2_with fail
      go_ret
      exact⟨rfl,aR,by omega⟩
end
/- axiomkeep.Shop.least: what its loops work out. -/
section
open Go.RowKit
theorem mU(H:Nat→Bool):(kH H).length=36:=by simp[kH]
theorem Gf(H:Nat→Bool)(x:Nat)(b:Bool):(kH H).toArray.setIfInBounds x (.bool b)=(kH (jR H x b)).toArray:=by
 rw[List.setIfInBounds_toArray]
 congr 1
 apply List.ext_getElem?
 intro i
 rw[List.getElem?_set]
 by_cases hi:i<36
 · by_cases e:x=i
   · subst e
     rw[if_pos rfl,if_pos (by rw[mU];exact hi),pv _ hi]
     simp[jR]
   · rw[if_neg e,pv _ hi,pv _ hi]
     simp[jR,Ne.symm e]
 · have h1:(kH H)[i]?=none:=List.getElem?_eq_none (by rw[mU];omega)
   have h2:(kH (jR H x b))[i]?=none:=List.getElem?_eq_none (by rw[mU];omega)
   rw[h1,h2]
   by_cases e:x=i
   · subst e
     rw[if_pos rfl,if_neg (by rw[mU];omega)]
   · rw[if_neg e]
end
/- axiomkeep.all. -/
section
open Go.RowKit
theorem Tryz.uz:(Tryz.prog.info? 48).map (fun i=>(i.zero,i.size,i.bytes))=some (some (.agg #[.string ByteArray.empty,.slice none 0 0]),2,40):=by kernel_rfl
theorem mo{n:Nat}(h:n<1000):b8 (n:Int):=by constructor<;>omega
def et(p a b:Nat):Nat:=if p=0 then a+(if b=0 then 0 else 1)else 4+16*(p-1)+4*a+b
theorem QT(w:World):Calls Tryz.prog 65 #[] w fun e w'=>∃v l,e=.returned v∧je w w' v 36 l:=by
 obtain⟨i0,hi,eX,eP,eA⟩:=info_parts Tryz.uz
 go_enter Tryz.func65,Tryz.ntmps65
 go_wp2_with fail
 go_loopw [1,2] (fun a i wr=>∃(p:Nat) (l:List FI),p≤3∧i=.int .i64 p∧je w wr a (et p 0 0) l) (fun _ i _=>3-(intOf i).toNat)
 case atStart=>exact⟨0,[],by omega,rfl,je.nil w⟩
 case round=>
  obtain⟨p,l,hp,rfl,hA⟩:=hrel
  obtain⟨ad,ac,rfl⟩:=ah hA.row
  by_cases vj:p<3
  · have HA:Hid (je w wr (.slice ad l.length ac) (et p 0 0) l):=hA
    have hdp:decide ((p:Int)<3)=true:=decide_eq_true (by omega)
    clear hA
    go_wp2_with fail
    go_loopw [1,3] (fun a i wr=>∃(a':Nat) (l:List FI),a'≤4∧i=.int .i64 a'∧je w wr a (et p a' 0) l) (fun _ i _=>4-(intOf i).toNat)
    case atStart=>exact⟨0,l,by omega,rfl,HA.out⟩
    case round=>
     obtain⟨a,l2,ha,rfl,RF⟩:=hrel
     obtain⟨bd,bc,rfl⟩:=ah RF.row
     have Zs:Hid (je w wr (.slice bd l2.length bc) (et p a 0) l2):=RF
     clear RF
     by_cases Z7:a<4
     · have hda:decide ((a:Int)<4)=true:=decide_eq_true (by omega)
       go_wp2_with fail
       go_loopw [1,4] (fun a0 i wr=>∃(b':Nat) (l:List FI),b'≤4∧i=.int .i64 b'∧je w wr a0 (et p a b') l) (fun _ i _=>4-(intOf i).toNat)
       case atStart=>exact⟨0,l2,by omega,rfl,Zs.out⟩
       case round=>
        obtain⟨b,l3,hb,rfl,hA3⟩:=hrel
        obtain⟨bd,bc,rfl⟩:=ah hA3.row
        have UD:Hid (je w wr (.slice bd l3.length bc) (et p a b) l3):=hA3
        have wu:=hA3.len
        have vE:et p a b≤40:=by unfold et;split<;>(try split)<;>omega
        have hl3:l3.length≤40:=by omega
        clear hA3 wu vE
        by_cases lZ:b<4
        · have hna:=fun W=>ra (a:Int) W (mo (by omega))
          have Cl:=fun W=>ra (b:Int) W (mo (by omega))
          have hpd:=fun W=>EG (p:Int) W (mo (by omega))
          have lu:=fun W=>yL (p:Int) W (mo (by omega))
          rw[jH Z7]at hna
          rw[jH lZ]at Cl
          rw[jH vj]at hpd lu
          by_cases Ao:p=0
          · rw[if_pos Ao]at lu
            by_cases bK:b=0
            · have Z9:((b:Int)==0)=true:=beq_iff_eq.2 (by omega)
              have HD:Hid (cP (et p a b)=(Ax.cq p,[Ax.bZ a])):=by
               have e:cP (et p a b)=(Ax.cq p,[Ax.bZ a]):=by
                have e1:et p a b=a:=by simp[et,Ao,bK]
                rw[e1,ZN Z7 0,Ao]
                rfl
               exact e
              have HC:Hid (et p a (b+1)=et p a b+1):=by
               have e:et p a (b+1)=et p a b+1:=by simp[et,Ao,bK]
               exact e
              clear Ao bK
              go_wp2_with (first | (go_at_call 19;refine(lu _).mono ?_;rintro e w' ⟨rfl,rfl⟩) | (go_at_call 18;refine(hpd _).mono ?_;rintro e w3 ⟨rfl,eB⟩) | (go_at_call 122;refine(hna _).mono ?_;rintro e w4 ⟨rfl,Up⟩;have Qc:Hid (je w w4 (.slice bd l3.length bc) (et p a b) l3):=(UD.out.below eB).below Up) | (at_builtin;refine wpList_append_own _ rfl (.tmp 24) (.tmp 31) 37 rfl w.heap.size 48 i0 _ 2 40 Tryz.underlying37 hi eX eP eA rfl (by decide) _ _ _ rfl ((Qc.out.row.alloc _).alloc _) ⟨w4.heap.size+1,0,none⟩ 1 1 [.string (Ax.cq p),.slice (some ⟨w4.heap.size,0,none⟩) 1 1] rfl rfl (eM _ _ _ _) (by simp[Value.oneCell']) (by unfold maxLen;omega) (by omega) (by have:=Qc.out.be.size;simp;omega) ?_;intro v2 w2 aO bx _))
              have HX:Hid (je w w' v2 (et p a (b+1)) (l3++[⟨Ax.cq p,[Ax.bZ a],.slice (some ⟨w4.heap.size,0,none⟩) 1 1⟩])):=by
               rw[HC.out]
               exact Qc.out.step (args:=[Ax.bZ a]) HD.out (by simp) (by simp) aO bx
              go_roundw
              case rel=>exact⟨b+1,_,by omega,by go_num,HX.out⟩
              case measure=>simp[intOf];omega
            · have Z9:((b:Int)==0)=false:=beq_eq_false_iff_ne.2 (by omega)
              have ZW:Hid (je w wr (.slice bd l3.length bc) (et p a (b+1)) l3):=by
               have e:et p a (b+1)=et p a b:=by simp[et,Ao,bK]
               rw[e]
               exact UD.out
              clear Ao bK
              go_wp2_with (go_at_call 19;refine(lu _).mono ?_;rintro e w' ⟨rfl,rfl⟩)
              go_roundw
              case rel=>exact⟨b+1,l3,by omega,by go_num,ZW.out⟩
              case measure=>simp[intOf];omega
          · rw[if_neg Ao]at lu
            have HD:Hid (cP (et p a b)=(Ax.cq p,[Ax.bZ a,Ax.bZ b])):=by
             have e:cP (et p a b)=(Ax.cq p,[Ax.bZ a,Ax.bZ b]):=by
              have e1:et p a b=4+16*(p-1)+4*a+b:=by simp[et,Ao]
              rw[e1,XI (by omega) Z7 lZ]
              simp[pO,Ao]
             exact e
            have HC:Hid (et p a (b+1)=et p a b+1):=by
             have e:et p a (b+1)=et p a b+1:=by simp[et,Ao];omega
             exact e
            have BW:Hid (∀W (x:Nat),x<4→Calls Tryz.prog 122 #[.int .i64 (x:Nat)] W fun e w'=>e=.returned (.string (Ax.bZ x))∧Below W.heap.size W w'):=by
             intro W x hx
             have h9:=ra (x:Int) W (mo (by omega))
             rw[jH hx]at h9
             exact h9
            clear Ao hna Cl
            go_wp2_with (first | (go_at_call 19;refine(lu _).mono ?_;rintro e w' ⟨rfl,rfl⟩) | (go_at_call 18;refine(hpd _).mono ?_;rintro e w3 ⟨rfl,eB⟩;have Qc:Hid (je w w3 (.slice bd l3.length bc) (et p a b) l3):=UD.out.below eB) | (go_at_call 122;refine(BW.out _ _ (by assumption)).mono ?_;rintro e w4 ⟨rfl,Up⟩;replace Qc:Hid (je w w4 (.slice bd l3.length bc) (et p a b) l3):=Qc.out.below Up) | (at_builtin;refine wpList_append_own _ rfl (.tmp 36) (.tmp 45) 37 rfl w.heap.size 48 i0 _ 2 40 Tryz.underlying37 hi eX eP eA rfl (by decide) _ _ _ rfl ((Qc.out.row.alloc _).alloc _) ⟨w4.heap.size+1,0,none⟩ 1 1 [.string (Ax.cq p),.slice (some ⟨w4.heap.size,0,none⟩) 2 2] rfl rfl (eM _ _ _ _) (by simp[Value.oneCell']) (by unfold maxLen;omega) (by omega) (by have:=Qc.out.be.size;simp;omega) ?_;intro v2 w2 aO bx _))
            have HX:Hid (je w w2 v2 (et p a (b+1)) (l3++[⟨Ax.cq p,[Ax.bZ a,Ax.bZ b],.slice (some ⟨w4.heap.size,0,none⟩) 2 2⟩])):=by
             rw[HC.out]
             exact Qc.out.step (args:=[Ax.bZ a,Ax.bZ b]) HD.out (by simp) (by simp) aO bx
            go_roundw
            case rel=>exact⟨b+1,_,by omega,by go_num,HX.out⟩
            case measure=>simp[intOf];omega
        · have lW:b=4:=by omega
          subst lW
          have ZW:Hid (je w wr (.slice bd l3.length bc) (et p (a+1) 0) l3):=by
           have e:et p (a+1) 0=et p a 4:=by unfold et;split<;>(try simp)<;>omega
           rw[e]
           exact UD.out
          go_wp2_with fail
          go_roundw
          case rel=>exact⟨a+1,l3,by omega,by go_num,ZW.out⟩
          case measure=>simp[intOf];omega
     · have hae:a=4:=by omega
       subst hae
       have ZW:Hid (je w wr (.slice bd l2.length bc) (et (p+1) 0 0) l2):=by
        have e:et (p+1) 0 0=et p 4 0:=by unfold et;split<;>(try simp)<;>(try split)<;>omega
        rw[e]
        exact Zs.out
       go_wp2_with fail
       go_roundw
       case rel=>exact⟨p+1,l2,by omega,by go_num,ZW.out⟩
       case measure=>simp[intOf];omega
  · have hpe:p=3:=by omega
    subst hpe
    have HA:Hid (je w wr (.slice ad l.length ac) 36 l):=hA
    clear hA
    go_wp2_with fail
    go_ret
    exact⟨_,l,rfl,HA.out⟩
end
/- axiomkeep.fact. -/
section
open Go.RowKit
theorem Lg(w:World)(c:Int)(hc:b8 c):Calls Tryz.prog 72 #[.int .i64 c] w fun e w'=>∃f:FI,e=.returned (.agg #[.string f.pred,f.av])∧(f.pred,f.args)=cP (Ax.a8 c 36)∧
 w'.ownsRow w.heap.size 9 1 f.av f.args.length (strCells f.args)∧Below w.heap.size w w':=by
 have JF:=fun w=>oP c 36 w hc (by decide) (by decide)
 have aC:=Ax.ef c 36 (by decide)
 generalize Ax.a8 c 36=k at JF aC ⊢
 obtain⟨w0,di⟩:∃w0,w0=w.alloc (.cells #[.string ⟨#[]⟩,.slice none 0 0] 48):=⟨_,rfl⟩
 have bK:Below w.heap.size w w0:=by rw[di];exact(Below.refl _ _).alloc (Nat.le_refl _) _
 have nD:w0.heap[w.heap.size]?=some (.cells #[.string ⟨#[]⟩,.slice none 0 0] 48 (0,0)):=by rw[di];exact heap_alloc_new w _
 have HAL:Hid (Calls Tryz.prog 65 #[] w0 fun e w'=>∃c g,∃f:FI,e=.returned (.slice (some ⟨g,0,none⟩) 36 c)∧Hid ((f.pred,f.args)=cP k∧w'.ownsRow (w.heap.size+1) 9 1 f.av f.args.length (strCells f.args)∧Below w.heap.size w w'∧w'.heap[w.heap.size]?=some (.cells #[.string ⟨#[]⟩,.slice none 0 0] 48 (0,0)))∧g<w'.heap.size∧36≤c∧w'.cell? ⟨g,k*2,none⟩=some (.string f.pred)∧w'.cell? ⟨g,k*2+1,none⟩=some f.av∧
  w'.cell? ⟨w.heap.size,0,none⟩=some (.string ⟨#[]⟩)∧w'.cell? ⟨w.heap.size,1,none⟩=some (.slice none 0 0)∧(∀o,w'.frozen? ⟨w.heap.size,o,none⟩=false)):=by
  refine(QT w0).mono ?_
  rintro e w' ⟨v,l,rfl,hA⟩
  have hl:=hA.len
  have hk:k<l.length:=by omega
  obtain⟨d,c,rfl⟩:=ah hA.row
  obtain⟨g,rfl,hg,NP,bA⟩:=ax hA.row (by omega)
  have yN:Below w0.heap.size w0 w':=hA.be
  have h1:w'.heap[w.heap.size]?=some (.cells #[.string ⟨#[]⟩,.slice none 0 0] 48 (0,0)):=by rw[yN.block _ (lt_of_heap nD)];exact nD
  have cr:w0.heap.size=w.heap.size+1:=by rw[di];simp
  refine⟨c,g,l[k],by rw[hl],⟨?_,by rw[←cr];exact hA.each _ (List.getElem_mem hk),bK.trans (yN.mono bK.size),h1⟩,hg,by omega,bA _ _ (eK l k hk).1,bA _ _ (eK l k hk).2,by rw[cell_of_row _ _ _ _ _ _ h1];rfl,by rw[cell_of_row _ _ _ _ _ _ h1];rfl,fun o=>by simp[World.frozen?,h1]⟩
  have h9:=congrArg (fun z=>z[k]?) hA.data
  simp[aC,hk]at h9
  exact h9
 clear bK nD
 go_enter Tryz.func72,Tryz.ntmps72
 go_wp2_with fail
 rw[←di]
 clear di
 refine HAL.out.mono ?_
 rintro e w1 ⟨cc,g,f,rfl,HF,hg,h36,c0,c1,d0,d1,df⟩
 have df0:=df 0
 have df1:=df 1
 obtain⟨fp,fa,fv⟩:=f
 simp only at c0 c1 HF
 obtain⟨xd,xc,hfv⟩:=ah HF.out.2.1
 subst hfv
 go_wp2_with (go_at_call 27;refine(JF _).mono ?_;rintro e w' ⟨rfl,hw⟩;subst hw)
 obtain⟨e1,e2,e3,e4⟩:=HF.out
 have k1:=an _ e4 0 (.string fp)
 have k2:=an _ k1 1 (.slice xd fa.length xc)
 have k3:Kb [w.heap.size] w' ((w'.setCell ⟨w.heap.size,0,none⟩ (.string fp)).setCell ⟨w.heap.size,1,none⟩ (.slice xd fa.length xc)):=(Kb.setCell w' ⟨w.heap.size,0,none⟩ _).trans (Kb.setCell _ ⟨w.heap.size,1,none⟩ _)
 refine bodyPost_ret (v:=.agg #[.string fp,.slice xd fa.length xc]) ?_ rfl ⟨⟨fp,fa,.slice xd fa.length xc⟩,rfl,e1,aN (k3.row e2 (fun b hb=>by have:=(e2.lt b hb).1;simp;omega)) (by omega),k3.aK e3 e3.size (by simp)⟩
 exact results_cell_row rfl _ _ _ _ _ _ _ rfl k2 Tryz.underlying48 rfl (by kernel_rfl)
end
/- axiomkeep.facts. -/
section
open Go.RowKit
structure fF(w:World)(ad:Option Addr)(n c:Nat)(l:List Int):Prop where
 len:l.length=n
 cap:n≤c
 max:c≤maxLen
 at_:∀k (h:k<l.length),∃g o,ad=some ⟨g,o,none⟩∧w.cell? ⟨g,o+k,none⟩=some (.int .i64 l[k])∧b8 l[k]
theorem fF.below{w w':World}{ad:Option Addr}{n c:Nat}{l:List Int}(h:fF w ad n c l)(hb:Below w.heap.size w w'):fF w' ad n c l:=
 ⟨h.len,h.cap,h.max,fun k hk=>let ⟨g,o,e,c1,f⟩:=h.at_ k hk;⟨g,o,e,bS hb c1,f⟩⟩
structure oA(w wr:World)(a:Value)(l:List FI)(D:List (ByteArray×List ByteArray)):Prop where
 row:wr.ownsRow w.heap.size 48 2 a l.length (fN l)
 each:∀f,f∈l→wr.ownsRow w.heap.size 9 1 f.av f.args.length (strCells f.args)
 data:l.map (fun f=>(f.pred,f.args))=D
 be:Below w.heap.size w wr
theorem oA.nil(w:World):oA w w (.slice none 0 0) [] []:=⟨World.ownsRow_nil _ _ _ _,by simp,rfl,Below.refl _ _⟩
theorem oA.below{w wr w':World}{a:Value}{l:List FI}{D:List (ByteArray×List ByteArray)}(h:oA w wr a l D)(hb:Below wr.heap.size wr w'):oA w w' a l D:=
 ⟨af h.row hb,fun f hf=>af (h.each f hf) hb,h.data,h.be.trans (hb.mono h.be.size)⟩
theorem oA.step{w wr w2:World}{a v2:Value}{l:List FI}{D:List (ByteArray×List ByteArray)}(h:oA w wr a l D)(f:FI)(hf0:wr.ownsRow w.heap.size 9 1 f.av f.args.length (strCells f.args))
 (aj:w2.ownsRow w.heap.size 48 2 v2 (l.length+1) (fN l++[.string f.pred,f.av])){o:Obj}(hg:(wr.alloc o).grownBy w2 a.ownBlock):oA w w2 v2 (l++[f]) (D++[(f.pred,f.args)]):=by
 have hs:=h.be.size
 have cM:Below wr.heap.size wr (wr.alloc o):=(Below.refl _ _).alloc (Nat.le_refl _) _
 have hk:=Kb.dK hg
 have aC:∀q,a.ownBlock=some q→w.heap.size≤q∧q<wr.heap.size:=fun q hq=>h.row.lt q hq
 have SP:∀u:FI,wr.ownsRow w.heap.size 9 1 u.av u.args.length (strCells u.args)→w2.ownsRow w.heap.size 9 1 u.av u.args.length (strCells u.args):=fun u hu=>by
  refine hk.row (af hu cM) (fun b hb hc=> ?_)
  rw[Option.mem_toList]at hc
  obtain⟨c1,e1⟩:=ay hu hb
  obtain⟨c2,e2⟩:=ay h.row hc
  rw[e1]at e2
  simp at e2
 refine⟨?_, ?_, ?_, ?_⟩
 · rw[ry,List.length_append]
   exact aj
 · intro u hu
   rcases List.mem_append.1 hu with hu | hu
   · exact SP u (h.each u hu)
   · simp only[List.mem_singleton]at hu
     subst hu
     exact SP _ hf0
 · rw[List.map_append,h.data]
   simp
 · exact hk.aK (h.be.trans (cM.mono hs)) (by simp;omega) (fun q hq=>by rw[Option.mem_toList]at hq;exact(aC q hq).1)
def Eb(l:List Int):List (ByteArray×List ByteArray):=(l.take 30).map fun c=>cP (Ax.a8 c 36)
theorem GF(w:World)(ad:Option Addr)(n c:Nat)(L:List Int)(hL:fF w ad n c L):Calls Tryz.prog 39 #[.slice ad n c] w fun e w'=>∃v l,e=.returned v∧oA w w' v l (Eb L):=by
 obtain⟨i0,hi,eX,eP,eA⟩:=info_parts Tryz.uz
 have Dc:=hL.len
 subst Dc
 have HL:Hid (fF w ad L.length c L):=hL
 have na:=hL.cap
 have ZH:=hL.max
 have hm:maxLen=9223372036854775807:=rfl
 clear hL
 go_enter Tryz.func39,Tryz.ntmps39
 go_wp2_with fail
 go_loopw [3,4] (fun a i wr=>∃(k:Nat) (l:List FI),k≤L.length∧k≤30∧i=.int .i64 k∧oA w wr a l ((L.take k).map fun c=>cP (Ax.a8 c 36))) (fun _ i _=>30-(intOf i).toNat)
 case atStart=>exact⟨0,[],by omega,by omega,rfl,oA.nil w⟩
 case round=>
  obtain⟨k,l,hk,VW,rfl,hF⟩:=hrel
  obtain⟨bd,bc,rfl⟩:=ah hF.row
  have HF:Hid (oA w wr (.slice bd l.length bc) l ((L.take k).map fun c=>cP (Ax.a8 c 36))):=hF
  have wu:l.length≤30:=by
   have:=congrArg List.length hF.data
   simp at this
   omega
  clear hF
  by_cases aC:k<L.length
  · by_cases PV:k<30
    · obtain⟨g,o,rfl,ca,jF⟩:=(HL.out.below HF.out.be).at_ k aC
      have gG:Hid ((L.take (k+1)).map (fun c=>cP (Ax.a8 c 36))=(L.take k).map (fun c=>cP (Ax.a8 c 36))++[cP (Ax.a8 L[k] 36)]):=by
       have e0:L.take (k+1)=L.take k++[L[k]]:=by rw[List.take_add_one,List.getElem?_eq_getElem aC];rfl
       have e1:(L.take (k+1)).map (fun c=>cP (Ax.a8 c 36))=(L.take k).map (fun c=>cP (Ax.a8 c 36))++[cP (Ax.a8 L[k] 36)]:=by rw[e0,List.map_append];rfl
       exact e1
      have Uj:=Lg wr L[k] jF
      generalize L[k]=x at ca Uj gG
      have FJ:Hid (Calls Tryz.prog 72 #[.int .i64 x] wr fun e w'=>∃f:FI,e=.returned (.agg #[.string f.pred,f.av])∧Hid ((f.pred,f.args)=cP (Ax.a8 x 36)∧w'.ownsRow w.heap.size 9 1 f.av f.args.length (strCells f.args)∧oA w w' (.slice bd l.length bc) l ((L.take k).map fun c=>cP (Ax.a8 c 36)))):=by
       refine Uj.mono ?_
       rintro e w' ⟨f,rfl,q1,q2,q3⟩
       exact⟨f,rfl,q1,aN q2 HF.out.be.size,HF.out.below q3⟩
      clear Uj jF
      go_wp2_with (first | (go_at_call 72;refine FJ.out.mono ?_;rintro e w3 ⟨f,rfl,HQ⟩;obtain⟨fp,fa,fv⟩:=f;simp only at HQ ⊢;obtain⟨xd,xc,hfv⟩:=ah HQ.out.2.1;subst hfv) | (at_builtin;refine wpList_append_own _ rfl (.tmp 15) (.tmp 21) 37 rfl w.heap.size 48 i0 _ 2 40 Tryz.underlying37 hi eX eP eA rfl (by decide) _ _ _ rfl (HQ.out.2.2.row.alloc _) ⟨w3.heap.size,0,none⟩ 1 1 [.string fp,.slice xd fa.length xc] rfl rfl (mv _ _ _) (by simp[Value.oneCell']) (by unfold maxLen;omega) (by omega) (by have:=HQ.out.2.2.be.size;simp;omega) ?_;intro v2 w2 aO bx _))
      have HX:Hid (oA w w2 v2 (l++[⟨fp,fa,.slice xd fa.length xc⟩]) ((L.take (k+1)).map fun c=>cP (Ax.a8 c 36))):=by
       rw[gG.out,←HQ.out.1]
       exact HQ.out.2.2.step ⟨fp,fa,.slice xd fa.length xc⟩ HQ.out.2.1 aO bx
      go_roundw
      case rel=>exact⟨k+1,_,aC,PV,by go_num,HX.out⟩
      case measure=>simp[intOf];omega
    · have HE:Hid (oA w wr (.slice bd l.length bc) l (Eb L)):=by
       have e:k=30:=by omega
       have h9:=HF.out
       rw[e]at h9
       exact h9
      go_wp2_with fail
      go_ret
      exact⟨_,l,rfl,HE.out⟩
  · have HE:Hid (oA w wr (.slice bd l.length bc) l (Eb L)):=by
     have h9:=HF.out
     have e1:L.take k=L.take 30:=by rw[List.take_of_length_le (by omega),List.take_of_length_le (by omega)]
     rw[e1]at h9
     exact h9
    go_wp2_with fail
    go_ret
    exact⟨_,l,rfl,HE.out⟩
end
/- axiomkeep.Shop.right: what its loops work out. -/
section
open Go.RowKit
def xj(R:List En.bN)(H:Nat→Bool)(i:Nat):Nat→Nat:=fun x=>((R.take i).map fun r=>En.kD (En.gO r H) x).sum
def b3(H:Nat→Bool)(C:Nat→Nat)(i:Nat):Nat→Nat:=fun x=>(if x<i∧(H x&&H (4+5*x))=true then 1 else 0)+((if x<i∧(H x&&H (20+5*x))=true then 1 else 0)+C x)
end
/- axiomkeep.Shop.apply: what it keeps. -/
section
open Go.RowKit Go.Maps
def idxs(L:List Int):List Nat:=(L.take 30).map fun c=>Ax.a8 c 36
theorem Cg(L:List Int):∀i,i∈idxs L→i<36:=by
 intro i hi
 obtain⟨c,_,rfl⟩:=List.mem_map.1 hi
 exact Ax.ef c 36 (by decide)
theorem Oo(L:List Int):(idxs L).length≤30:=by simp[idxs];omega
theorem tE{L:List Int}{k:Nat}(h1:k<L.length)(h2:k<30):(idxs L).take (k+1)=(idxs L).take k++[Ax.a8 L[k] 36]:=by
 unfold idxs
 rw[←List.map_take,←List.map_take,List.take_take,List.take_take,Nat.min_eq_left (by omega),Nat.min_eq_left (by omega),List.take_add_one,List.getElem?_eq_getElem h1,List.map_append]
 rfl
theorem mN{L:List Int}{k:Nat}(h:¬(k<L.length∧k<30)):(idxs L).take k=idxs L:=by
 refine List.take_of_length_le ?_
 simp[idxs]
 omega
structure Nb(L:List Int)(fd:Option Addr)(fc:Nat)(l:List FI)(W:World):Prop where
 C1:dN W fd fc l
 idx:mM l (idxs L)
theorem Nb.below{L:List Int}{fd:Option Addr}{fc:Nat}{l:List FI}{W W':World}(h:Nb L fd fc l W)(hb:Below W.heap.size W W'):Nb L fd fc l W':=⟨h.C1.below hb,h.idx⟩
theorem Nb.len{L:List Int}{fd:Option Addr}{fc:Nat}{l:List FI}{W:World}(h:Nb L fd fc l W):l.length≤30:=by
 rw[←h.idx.len]
 exact Oo L
theorem Vy{W w':World}{v:Value}{l:List FI}{L:List Int}(h:oA W w' v l (Eb L)):∃fd fc,v=.slice fd l.length fc∧Nb L fd fc l w':=by
 obtain⟨fd,fc,rfl⟩:=ah h.row
 refine⟨fd,fc,rfl,⟨aN h.row (Nat.zero_le _),fun f hf=>aN (h.each f hf) (Nat.zero_le _)⟩, ?_,Cg L⟩
 rw[h.data]
 unfold Eb idxs
 rw[List.map_map]
 rfl
structure vV(B:Nat)(w:World)(sb eg:Nat)(rv:Value)(kl:List Ax.aM)(gs ge:Nat→Bool)(n:Nat):Prop where
 wj:iE w sb eg rv gs
 Wp:yU w B eg kl ge n
 le:B≤sb
theorem vV.below{B:Nat}{w w':World}{sb eg:Nat}{rv:Value}{kl:List Ax.aM}{gs ge:Nat→Bool}{n:Nat}(h:vV B w sb eg rv kl gs ge n)(hb:Below w.heap.size w w'):vV B w' sb eg rv kl gs ge n:=⟨h.wj.below hb,h.Wp.below hb,h.le⟩
theorem yU.off{w w':World}{B eg:Nat}{kl:List Ax.aM}{gv:Nat→Bool}{n:Nat}(h:yU w B eg kl gv n){x:Nat}(hk:Kb [x] w w'){Z:Array Value}{f:Nat×Nat}(hx:w.heap[x]?=some (.cells Z 43 f)):yU w' B eg kl gv n:=by
 obtain⟨pl,rd,rc,l,gm,G,hm,T,s,hd,lv,ln,lx,eb,dQ,he,hG,hR,hH,hI,hT,cN,va,Dc,DY⟩:=h.at_
 have cL:eg≠x:=lN eb hx (by decide)
 refine⟨⟨pl,rd,rc,l,gm,G,hm,T,s,hd,lv,ln,lx,hk.heap eb (by simpa using cL),dQ.kept hk ?_,he,hG.kept hk (hG.kG hx (by decide) (by decide)),hR,hH.kept hk ?_,hI,hT,cN,hk.ie va ?_,Dc,DY⟩,h.ge⟩
 · intro b cur U hb e
   simp only[List.mem_cons,List.not_mem_nil,or_false]at hb
   subst hb
   rw[hx]at e
   simp at e
   rw[←e.2.1]
   decide
 · intro b hb e
   simp only[List.mem_cons,List.not_mem_nil,or_false]at e
   subst e
   unfold cA at hb
   rcases List.mem_cons.1 hb with rfl | hb
   · obtain⟨es,ck,e⟩:=hH.map.block
     rw[e]at hx
     cases hx
   · obtain⟨u,hu,hb⟩:=List.mem_flatMap.1 hb
     obtain⟨cur,T,e,hT⟩:=(hH.bX u hu).types hb
     rw[e]at hx
     simp at hx
     rcases hT with rfl | rfl | rfl
     · exact absurd hx.2.1 (by decide)
     · exact absurd hx.2.1 (by decide)
     · exact absurd hx.2.1 (by decide)
 · intro b cur fz hb e
   simp only[List.mem_cons,List.not_mem_nil,or_false]at hb
   subst hb
   rw[hx]at e
   simp at e
theorem Eh(eg:Nat)(rv:Value)(gv:Nat→Bool)(i:Nat)(b:Bool):(pq eg rv gv).setIfInBounds (2+i) (.bool b)=pq eg rv (jR gv i b):=by
 unfold pq
 have h:=Gf gv i b
 rw[List.setIfInBounds_toArray]at h
 have h2:(kH gv).set i (.bool b)=kH (jR gv i b):=by simpa using congrArg Array.toList h
 rw[List.setIfInBounds_toArray,List.set_append_right _ _ (by simp)]
 have e:2+i-[Value.pointer (some ⟨eg,0,none⟩),rv].length=i:=by simp
 rw[e,h2]
theorem vV.set{B:Nat}{w:World}{sb eg:Nat}{rv:Value}{kl:List Ax.aM}{gs ge:Nat→Bool}{n:Nat}(h:vV B w sb eg rv kl gs ge n)(i:Nat)(b:Bool):vV B (w.setCell ⟨sb,2+i,none⟩ (.bool b)) sb eg rv kl (jR gs i b) ge n∧Below B w (w.setCell ⟨sb,2+i,none⟩ (.bool b)):=by
 have hs:=h.wj
 unfold iE at hs
 have hk:Kb [sb] w (w.setCell ⟨sb,2+i,none⟩ (.bool b)):=Kb.setCell w ⟨sb,2+i,none⟩ _
 refine⟨⟨?_,h.Wp.off hk hs,h.le⟩,(Below.refl _ _).setCell (p:=⟨sb,2+i,none⟩) h.le _⟩
 unfold iE
 rw[an w hs (2+i),Eh]
theorem vV.cell{B:Nat}{w:World}{sb eg:Nat}{rv:Value}{kl:List Ax.aM}{gs ge:Nat→Bool}{n:Nat}(h:vV B w sb eg rv kl gs ge n){i:Nat}(hi:i<36):w.cell? ⟨sb,2+i,none⟩=some (.bool (gs i))∧w.frozen? ⟨sb,2+i,none⟩=false∧sb<w.heap.size:=by
 have hs:=h.wj
 unfold iE at hs
 exact⟨h.wj.cells.2.2 i hi,by simp[World.frozen?,hs],lt_of_heap hs⟩
end
end Go.Proofs.YtdmicblafmhflaaGreatDoor
