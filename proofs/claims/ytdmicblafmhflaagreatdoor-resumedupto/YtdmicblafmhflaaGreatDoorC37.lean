/- axiomkeep: text, walked. -/
import Derived.Test.YtdmicblafmhflaaGreatDoorC36
import Derived.Deep.CutRange
import Derived.Test.YtdmicblafmhflaaGreatDoorC12
import Derived.Test.YtdmicblafmhflaaGreatDoorC33
set_option linter.unusedSimpArgs false
set_option linter.unusedVariables false
set_option maxHeartbeats 8000000
set_option maxRecDepth 100000
namespace Go.Proofs.YtdmicblafmhflaaGreatDoor
section
open Go.RowKit
theorem Ny(w:World)(ad:Option Addr)(n c:Nat)(l:List Ax.aA)(h:eF w ad n c l)(R:ByteArray)(HR:Hid (kt (l.take 6) vL=R)):
 Calls Tryz.prog 35 #[.slice ad n c] w fun e w'=>e=.returned (.string R)∧Below w.heap.size w w'∧R.size≤338:=by
 have yG:c≤9223372036854775807:=h.max
 have Vw:=h.cap
 have hlen:=h.len
 rw[MI]at HR
 go_enter Tryz.func35,Tryz.ntmps35
 go_wp2_with fail
 go_loopw [3,4] (fun sv iv wr=>∃(i:Nat) (q:ByteArray),i≤min n 6∧sv=.string q∧iv=.int .i64 i∧Below w.heap.size w wr∧q.size≤38+50*i∧kt ((l.take 6).drop i) q=R) (fun _ iv _=>6-(intOf iv).toNat)
 case atStart=>exact⟨0,_,Nat.zero_le _,rfl,rfl,Below.refl _ _,by decide,HR.out⟩
 case round=>
  obtain⟨i,q,hi,rfl,rfl,aV,Fh,hr⟩:=hrel
  have Jh:Hid (kt ((l.take 6).drop i) q=R):=hr
  clear hr HR
  have cR:=aV.size
  by_cases aG:i<min n 6
  · have yg:decide ((i:Int)<(n:Int))=true:=by simp;omega
    have CL:decide ((i:Int)<6)=true:=by simp;omega
    have hn3:(i:Int)<(n:Int):=by omega
    have fq:(l.take 6).drop i=l[i]::(l.take 6).drop (i+1):=by
     rw[List.drop_eq_getElem_cons (by rw[List.length_take];omega),List.getElem_take]
    rw[fq]at Jh
    clear fq
    obtain⟨g,o,AK,FF⟩:=h.at_ i (by omega)
    subst AK
    generalize l[i]=r at*
    have HN:Hid (kt ((l.take 6).drop (i+1)) (zW r q)=R):=Jh
    clear Jh
    obtain⟨⟨e0,e1,e2,f0,f1,f2⟩,bd,bn,bc,e3,hB⟩:=FF
    have HT:Hid (zW r q=ko (Ax.bG r) 0 (q++uz (Ax.aT r.head.pred 3) (Ax.di r))++⟨#[46]⟩):=rfl
    have RT:=Rj hB f0 f1 f2 _ rfl
    have Ja:=vM (w:=w) f0 _ (AD r).2 (CX r) _ rfl
    have hAs:=xC (Ax.aT r.head.pred 3) (Ax.di r) (AD r).2
    have Ll:=hB.two
    obtain⟨m,hm⟩:∃m,min bn 2=m:=⟨_,rfl⟩
    have X9:m≤2:=by omega
    have DZ:=PU hB r.head.pred r.head.a r.head.b m hm
    rw[hm]at Ll
    clear hm hB
    generalize zW r q=Q at*
    generalize uz (Ax.aT r.head.pred 3) (Ax.di r)=A at*
    generalize Ax.di r=T at*
    generalize Ax.bG r=gb at*
    rcases r with⟨⟨p,a,b⟩,rb⟩
    simp only at*
    have E0:=bl aV e0
    have E1:=bl aV e1
    have E2:=bl aV e2
    have E3:=bl aV e3
    have hA1:(q++A).size≤50+50*i:=by rw[ByteArray.size_append];omega
    go_upto_region 5 with fail
    go_cut [3]from 7 to 62 (fun sv wx=>sv=.string (q++A)∧Below w.heap.size w wx)
    case first=>
     go_region_with (first | (go_at_call 62;refine(RT _ (by first | exact aV | exact aV.drew)).mono ?_;rintro e w2 ⟨d2,c2,rfl,yf,cw⟩;have G0:=bl cw e0) | (go_at_call 61;refine(Ja _ _ _ cw yf).mono ?_;rintro e w3 ⟨rfl,fH⟩))
     all_goals (go_wp2_with fail)
     all_goals go_meet
     all_goals exact⟨rfl,by first | exact fH | exact fH.drew⟩
    case rest=>
     obtain⟨rfl,yL⟩:=hcut
     clear E0 E1 E2 E3 aV RT Ja Fh cR
     have K0:=bl yL e0
     have K1:=bl yL e1
     have K2:=bl yL e2
     have K3:=bl yL e3
     go_wp2_with (go_at_call 63;refine(DZ _ yL).mono ?_;rintro e w4 ⟨rfl,qX⟩)
     generalize (q++A:ByteArray)=q1 at*
     clear K0 K1 K2 K3 yL DZ
     obtain⟨Z,hZ⟩:∃Z,ko gb 0 q1=Z:=⟨_,rfl⟩
     have HZ:Hid (ko gb 0 q1=Z):=hZ
     rw[hZ]at HT
     clear hZ e0 e1 e2 e3
     have mO:=Ll.len
     have hbm:bc≤9223372036854775807:=Ll.max
     have hmc:=Ll.cap
     go_loopw [3,6] (fun sv kv wx=>∃(k:Nat) (q2:ByteArray),k≤m∧sv=.string q2∧kv=.int .i64 k∧Below w.heap.size w wx∧q2.size≤50+50*i+15*k∧ko (gb.drop k) k q2=Z) (fun _ kv _=>m-(intOf kv).toNat)
     case atStart=>exact⟨0,_,Nat.zero_le _,rfl,rfl,qX,by omega,HZ.out⟩
     case round=>
      obtain⟨k,q2,hk,rfl,rfl,Mm,hq2,hz⟩:=hrel
      have XG:Hid (ko (gb.drop k) k q2=Z):=hz
      clear hz HZ qX
      by_cases hkm:k<m
      · have fq:gb.drop k=gb[k]::gb.drop (k+1):=List.drop_eq_getElem_cons (by omega)
        rw[fq]at XG
        clear fq
        obtain⟨bg,bo,AK,ha⟩:=Ll.at_ k (by omega)
        subst AK
        generalize gb[k]=x at*
        obtain⟨e0,e1,e2,f0,f1,f2⟩:=ha
        have S7:=MO (w:=w) f0 f1 f2 _ rfl
        have Ja:=vM (w:=w) f0 _ (kU x).2 (so x) (wA x) rfl
        have hAs:=xC (Ax.aT x.pred 3) (Ax.a8 x) (kU x).2
        have hAs:(wA x).size≤12:=hAs
        have ZF:Hid (ko (gb.drop (k+1)) (k+1) ((if k=0 then q2++⟨#[58,45]⟩else q2++⟨#[44]⟩)++wA x)=Z):=XG
        clear XG
        generalize wA x=A at*
        generalize Ax.a8 x=T at*
        rcases x with⟨p,a,b⟩
        simp only at*
        have E0:=bl Mm e0
        have E1:=bl Mm e1
        have E2:=bl Mm e2
        have Ig:(k:Int)<(m:Int):=by omega
        by_cases EK:k=0
        · have bU:(((k:Nat):Int)==0)=true:=by simp;omega
          have HQ:Hid (ko (gb.drop (k+1)) (k+1) (q2++⟨#[58,45]⟩++A)=Z):=by
           have:=ZF.out
           rw[if_pos EK]at this
           exact this
          have h1s:(⟨#[58,45]⟩:ByteArray).size=2:=rfl
          have kV:(q2++⟨#[58,45]⟩:ByteArray).size≤52+50*i+15*k:=by rw[ByteArray.size_append];omega
          have yH:(q2++⟨#[58,45]⟩++A:ByteArray).size≤50+50*i+15*(k+1):=by rw[ByteArray.size_append,ByteArray.size_append];omega
          clear ZF EK
          go_wp2_with fail
          go_region_with (first | (go_at_call 64;refine(S7 _ (by first | exact Mm | exact Mm.drew)).mono ?_;rintro e w2 ⟨d2,c2,rfl,yf,cw⟩;have G0:=bl cw e0) | (go_at_call 61;refine(Ja _ _ _ cw yf).mono ?_;rintro e w3 ⟨rfl,fH⟩))
          all_goals (go_wp2_with fail)
          all_goals (go_roundw;(case rel=>exact⟨k+1,_,by omega,rfl,by go_num,(by first | exact fH | exact fH.drew),by omega,HQ.out⟩);(case measure=>simp[intOf];omega))
        · have bU:(((k:Nat):Int)==0)=false:=by simp;omega
          have HQ:Hid (ko (gb.drop (k+1)) (k+1) (q2++⟨#[44]⟩++A)=Z):=by
           have:=ZF.out
           rw[if_neg EK]at this
           exact this
          have h1s:(⟨#[44]⟩:ByteArray).size=1:=rfl
          have kV:(q2++⟨#[44]⟩:ByteArray).size≤52+50*i+15*k:=by rw[ByteArray.size_append];omega
          have yH:(q2++⟨#[44]⟩++A:ByteArray).size≤50+50*i+15*(k+1):=by rw[ByteArray.size_append,ByteArray.size_append];omega
          clear ZF EK
          go_wp2_with fail
          go_region_with (first | (go_at_call 64;refine(S7 _ (by first | exact Mm | exact Mm.drew)).mono ?_;rintro e w2 ⟨d2,c2,rfl,yf,cw⟩;have G0:=bl cw e0) | (go_at_call 61;refine(Ja _ _ _ cw yf).mono ?_;rintro e w3 ⟨rfl,fH⟩))
          all_goals (go_wp2_with fail)
          all_goals (go_roundw;(case rel=>exact⟨k+1,_,by omega,rfl,by go_num,(by first | exact fH | exact fH.drew),by omega,HQ.out⟩);(case measure=>simp[intOf];omega))
      · have hqZ:q2=Z:=by
         have:=XG.out
         rw[List.drop_eq_nil_of_le (by omega)]at this
         exact this
        subst hqZ
        clear XG
        have h1s:(⟨#[46]⟩:ByteArray).size=1:=rfl
        have ahI:(q2++⟨#[46]⟩:ByteArray).size≤88+50*i:=by rw[ByteArray.size_append];omega
        go_wp2_with fail
        go_roundw
        case rel=>exact⟨i+1,_,by omega,rfl,by go_num,Mm,by omega,by rw[←HT.out];exact HN.out⟩
        case measure=>simp[intOf];omega
  · by_cases dS:i<n
    · have yg:decide ((i:Int)<(n:Int))=true:=by simp;omega
      have CL:decide ((i:Int)<6)=false:=by simp;omega
      have YE:q=R:=by
       have:=Jh.out
       rw[List.drop_eq_nil_of_le (by simp;omega)]at this
       exact this
      subst YE
      clear Jh
      go_wp2_with fail
      go_ret
      exact⟨rfl,aV,by omega⟩
    · have yg:decide ((i:Int)<(n:Int))=false:=by simp;omega
      have YE:q=R:=by
       have:=Jh.out
       rw[List.drop_eq_nil_of_le (by simp;omega)]at this
       exact this
      subst YE
      clear Jh
      go_wp2_with fail
      go_ret
      exact⟨rfl,aV,by omega⟩
end
/- axiomkeep.Shop.least: what its loops work out. -/
section
open Go.RowKit
theorem rounds_succ(R:List En.bC):∀(n:Nat) (H:Nat→Bool),En.rounds R (n+1) H=En.cM R (En.rounds R n H)
 | 0,_=>rfl
 | n+1,H=>by
  show En.rounds R (n+1) (En.cM R H)=_
  rw[rounds_succ R n]
  rfl
def gT(R:List En.bC)(i:Nat)(H:Nat→Bool):Nat→Bool:=(R.take i).foldl (fun H r=>En.dh H (En.cB r H)) H
theorem Kg(R:List En.bC)(H:Nat→Bool):gT R R.length H=En.cM R H:=by unfold gT En.cM;rw[List.take_length]
theorem GP{R:List En.bC}{i:Nat}(hi:i<R.length)(H:Nat→Bool):gT R (i+1) H=En.dh (gT R i H) (En.cB R[i] (gT R i H)):=by
 unfold gT
 rw[List.take_add_one,List.getElem?_eq_getElem hi,List.foldl_append]
 rfl
theorem FE(H:Nat→Bool):En.dh H []=H:=by
 funext i
 simp[En.dh]
theorem Ft{H K:Nat→Bool}(h:∀i,i<36→H i=K i):dK H=dK K:=by
 unfold dK
 refine List.map_congr_left ?_
 intro i hi
 rw[h i (by simpa using hi)]
theorem mV(H:Nat→Bool):(dK H).length=36:=by simp[dK]
theorem wQ(H:Nat→Bool)(x:Nat)(b:Bool):(dK H).toArray.setIfInBounds x (.bool b)=(dK (fm H x b)).toArray:=by
 rw[List.setIfInBounds_toArray]
 congr 1
 apply List.ext_getElem?
 intro i
 rw[List.getElem?_set]
 by_cases hi:i<36
 · by_cases e:x=i
   · subst e
     rw[if_pos rfl,if_pos (by rw[mV];exact hi),mi _ hi]
     simp[fm]
   · rw[if_neg e,mi _ hi,mi _ hi]
     simp[fm,Ne.symm e]
 · have h1:(dK H)[i]?=none:=List.getElem?_eq_none (by rw[mV];omega)
   have h2:(dK (fm H x b))[i]?=none:=List.getElem?_eq_none (by rw[mV];omega)
   rw[h1,h2]
   by_cases e:x=i
   · subst e
     rw[if_pos rfl,if_neg (by rw[mV];omega)]
   · rw[if_neg e]
theorem CP(H:Nat→Bool)(l:List Nat)(x:Nat):En.dh H (l++[x])=fm (En.dh H l) x true:=by
 funext i
 unfold En.dh fm
 by_cases e:i=x
 · simp[e]
 · simp[e]
theorem dJ.set{w:World}{hb:Nat}{H:Nat→Bool}(h:dJ w hb H)(x:Nat)(b:Bool):dJ (w.setCell ⟨hb,x,none⟩ (.bool b)) hb (fm H x b):=by
 unfold dJ
 rw[aw w h x,wQ]
theorem dJ.ext{w:World}{hb:Nat}{H K:Nat→Bool}(h:dJ w hb H)(e:∀i,i<36→H i=K i):dJ w hb K:=by
 unfold dJ at h ⊢
 rw[←Ft e]
 exact h
theorem vC{kl:List Ax.aA}{i:Nat}(h:i<(kl.take 6).length):∃hi:i<(En.af kl).length,(En.af kl)[i]=En.pI (kl.take 6)[i]:=by
 have hl:(En.af kl).length=(kl.take 6).length:=by simp[En.af]
 exact⟨by omega,by simp[En.af]⟩
theorem qu(kl:List Ax.aA):(En.af kl).length=(kl.take 6).length:=by simp[En.af]
theorem BP.below{w w':World}{g o:Nat}{r:Ax.aA}(h:BP w g o r)(hb:Below w.heap.size w w'):BP w' g o r:=by
 obtain⟨bd,bn,bc,h1,h2⟩:=h.body
 exact⟨h.head.below hb,bd,bn,bc,bl hb h1,h2.below hb⟩
theorem eF.below{w w':World}{ad:Option Addr}{n c:Nat}{l:List Ax.aA}(h:eF w ad n c l)(hb:Below w.heap.size w w'):eF w' ad n c l:=
 ⟨h.len,h.cap,h.max,fun k hk=>let ⟨g,o,e,ha⟩:=h.at_ k hk;⟨g,o,e,ha.below hb⟩⟩
structure tB(w wr:World)(hb:Nat)(H:Nat→Bool):Prop where
 hold:dJ wr hb H
 aQ:Below w.heap.size w wr
 ge:w.heap.size≤hb
theorem tB.below{w wr w':World}{hb:Nat}{H:Nat→Bool}(h:tB w wr hb H)(kE:Below wr.heap.size wr w'):tB w w' hb H:=⟨h.hold.below kE,h.aQ.trans (kE.mono h.aQ.size),h.ge⟩
theorem tB.set{w wr:World}{hb:Nat}{H:Nat→Bool}(h:tB w wr hb H)(x:Nat)(b:Bool):tB w (wr.setCell ⟨hb,x,none⟩ (.bool b)) hb (fm H x b):=⟨h.hold.set x b,h.aQ.setCell (p:=⟨hb,x,none⟩) h.ge _,h.ge⟩
theorem tB.cell{w wr:World}{hb:Nat}{H:Nat→Bool}(h:tB w wr hb H){i:Nat}(hi:i<36):wr.cell? ⟨hb,i,none⟩=some (.bool (H i))∧wr.frozen? ⟨hb,i,none⟩=false∧hb<wr.heap.size:=⟨h.hold.cell hi,by have:=h.hold;unfold dJ at this;simp[World.frozen?,this],lt_of_heap h.hold⟩
theorem Jo{w:World}{base g:Nat}(h:w.ownsRow base 4 1 (.slice (some ⟨g,0,none⟩) 36 36) 36 (madeCells ((Value.bool false).cells) (36*1)).toList):dJ w g (fun _=>false):=by
 obtain⟨_,⟨h1,_⟩ | ⟨g',cap,cur,h1,_,h3,_,_,h6,h7⟩⟩:=h
 · cases h1
 · simp only[Value.slice.injEq,Option.some.injEq,Addr.mk.injEq,and_true,true_and]at h1
   obtain⟨rfl,rfl⟩:=h1
   have e:(madeCells ((Value.bool false).cells) (36*1)).toList=dK (fun _=>false):=by kernel_rfl
   rw[e,List.take_of_length_le (by rw[Array.length_toList,h6];exact Nat.le_refl _)]at h7
   unfold dJ
   rw[h3,←h7]
def Pf(gv:Nat→Bool)(k:Nat):Nat→Bool:=fun i=>decide (i<k)&&gv i
theorem MF(gv:Nat→Bool)(k:Nat):fm (Pf gv k) k (gv k)=Pf gv (k+1):=by
 funext i
 unfold fm Pf
 by_cases e:i=k
 · subst e
   simp
 · rw[if_neg e]
   congr 1
   rw[decide_eq_decide]
   omega
end
/- axiomkeep.Shop.least, walked. -/
section
open Go.RowKit
theorem Tryz.I6:(Tryz.prog.info? 4).map (fun i=>(i.zero,i.size,i.bytes))=some (some (.bool false),1,1):=by kernel_rfl
theorem GK(w:World)(sb eg:Nat)(ad:Option Addr)(m c:Nat)(kl:List Ax.aA)(gv:Nat→Bool)(hS:dv w sb eg (.slice ad m c) gv)(hR:eF w ad m c (kl.take 6)):
 Calls Tryz.prog 16 #[.pointer (some ⟨sb,0,none⟩)] w fun e w'=>∃hb,e=.returned (.slice (some ⟨hb,0,none⟩) 36 36)∧dJ w' hb (En.al (En.af kl) gv)∧Below w.heap.size w w':=by
 have hm6:m≤6:=by rw[←hR.len];simp;omega
 have VD:=lt_of_heap hS
 have hmc:=hR.cap
 have yG:c≤9223372036854775807:=hR.max
 have EL:Hid (∀W,Below w.heap.size w W→W.cell? ⟨sb,1,none⟩=some (.slice ad m c)∧∀i,i<36→W.cell? ⟨sb,2+i,none⟩=some (.bool (gv i))):=fun W hW=>⟨(hS.below hW).cells.2.1,(hS.below hW).cells.2.2⟩
 have S6:Hid (eF w ad m c (kl.take 6)):=hR
 have G5:Hid ((kl.take 6).length=m):=hR.len
 have aea:Hid (En.rounds (En.af kl) 37 gv=En.al (En.af kl) gv):=(rfl:En.rounds (En.af kl) 37 gv=En.al (En.af kl) gv)
 have FY:Hid (∀W hb H i (hi:i<(kl.take 6).length) g o,tB w W hb H→ad=some ⟨g,o,none⟩→∃p a b bd bn bc,W.cell? ⟨g,o+i*4,none⟩=some (.int .i64 p)∧W.cell? ⟨g,o+i*4+1,none⟩=some (.int .i64 a)∧W.cell? ⟨g,o+i*4+2,none⟩=some (.int .i64 b)∧W.cell? ⟨g,o+i*4+3,none⟩=some (.slice bd bn bc)∧Calls Tryz.prog 37 #[.agg #[.int .i64 p,.int .i64 a,.int .i64 b,.slice bd bn bc],.slice (some ⟨hb,0,none⟩) 36 36] W fun e w'=>∃d n cc,e=.returned (.slice d n cc)∧Hid (w'.ownsRow W.heap.size 3 1 (.slice d n cc) n (an (En.cB (En.pI (kl.take 6)[i]) H))∧tB w w' hb H∧n=(En.cB (En.pI (kl.take 6)[i]) H).length)):=by
  intro W hb H i hi g o hW AK
  obtain⟨g',o',e,hr⟩:=(hR.below hW.aQ).at_ i hi
  rw[AK]at e
  simp only[Option.some.injEq,Addr.mk.injEq,and_true]at e
  obtain⟨rfl,rfl⟩:=e
  obtain⟨bd,bn,bc,h3,hB⟩:=hr.body
  refine⟨_,_,_,bd,bn,bc,hr.head.c0,hr.head.c1,hr.head.c2,h3, ?_⟩
  refine(pZ W (kl.take 6)[i] H bd bn bc hB hr.head.f0 hr.head.f1 hr.head.f2 hb hW.hold).mono ?_
  rintro e w' ⟨v,rfl,q1,q2⟩
  obtain⟨d,cc,rfl⟩:=aj q1
  exact⟨d,_,cc,rfl,q1,hW.below q2,rfl⟩
 clear hS hR
 go_enter Tryz.func16,Tryz.ntmps16
 obtain⟨i0,jS,ew,ev,dY⟩:=info_parts Tryz.I6
 go_wp2_with (at_make;refine wpList_make_full _ rfl _ _ 35 rfl w.heap.size 4 i0 _ 1 Tryz.underlying35 jS ew ev .i64 .i64 36 36 36 rfl rfl rfl rfl (by rw[dY];decide) (by unfold maxLen;decide) (Nat.le_refl _) ?_;intro w1 bH Nz)
 have Ix:Hid (tB w w1 w.heap.size (Pf gv 0)):=by
  have h9:tB w w1 w.heap.size (Pf gv 0):=⟨(Jo bH).ext (fun i _=>by simp[Pf]),(Below.refl _ _).grown Nz (Nat.le_refl _) (fun q hq=>by cases hq),Nat.le_refl _⟩
  exact h9
 clear bH Nz jS ew ev dY
 go_loopw [4] (fun i wr=>∃(k:Nat),k≤36∧i=.int .i64 k∧tB w wr w.heap.size (Pf gv k)) (fun i _=>36-(intOf i).toNat)
 case atStart=>exact⟨0,by omega,rfl,Ix.out⟩
 case round=>
  obtain⟨k,hk,rfl,hL⟩:=hrel
  clear Ix
  by_cases aG:k<36
  · obtain⟨s1,s2⟩:=EL.out wr hL.aQ
    have s3:=s2 k aG
    obtain⟨l1,l2,l3⟩:=hL.cell aG
    have HX:Hid (tB w (wr.setCell ⟨w.heap.size,k,none⟩ (.bool (gv k))) w.heap.size (Pf gv (k+1))):=by
     have h9:=hL.set k (gv k)
     rw[MF]at h9
     exact h9
    generalize Pf gv k k=ok at l1
    clear s1 s2 hL FY EL
    generalize gv k=gk at*
    go_wp2_with fail
    go_roundw
    case rel=>exact⟨k+1,aG,by go_num,HX.out⟩
    case measure=>simp[intOf];omega
  · have HL:Hid (tB w wr w.heap.size (En.rounds (En.af kl) 0 gv)):=⟨hL.hold.ext (fun i hi=>by unfold Pf;rw[decide_eq_true (by omega),Bool.true_and];rfl),hL.aQ,hL.ge⟩
    clear hL
    go_wp2_with fail
    go_loopw [5] (fun i wr=>∃(j:Nat),j≤37∧i=.int .i64 j∧tB w wr w.heap.size (En.rounds (En.af kl) j gv)) (fun i _=>37-(intOf i).toNat)
    case atStart=>exact⟨0,by omega,rfl,HL.out⟩
    case round=>
     obtain⟨j,hj,rfl,hL⟩:=hrel
     clear HL
     by_cases YL:j<37
     · have hdj:decide ((j:Int)<37)=true:=decide_eq_true (by omega)
       have HRS:Hid (En.rounds (En.af kl) (j+1) gv=gT (En.af kl) (En.af kl).length (En.rounds (En.af kl) j gv)):=by
        have e:En.rounds (En.af kl) (j+1) gv=gT (En.af kl) (En.af kl).length (En.rounds (En.af kl) j gv):=by rw[rounds_succ,Kg]
        exact e
       have HL:Hid (tB w wr w.heap.size (gT (En.af kl) 0 (En.rounds (En.af kl) j gv))):=hL
       clear hL
       go_wp2_with fail
       go_loopw [6] (fun i wr=>∃(i':Nat),i'≤m∧i=.int .i64 i'∧tB w wr w.heap.size (gT (En.af kl) i' (En.rounds (En.af kl) j gv))) (fun i _=>m-(intOf i).toNat)
       case atStart=>exact⟨0,Nat.zero_le _,rfl,HL.out⟩
       case round=>
        obtain⟨i,hi,rfl,hL⟩:=hrel
        clear HL
        obtain⟨s1,_⟩:=EL.out wr hL.aQ
        by_cases hit:i<m
        · have hdi:decide ((i:Int)<(m:Int))=true:=decide_eq_true (by omega)
          have Vu:i<(kl.take 6).length:=by rw[G5.out];exact hit
          obtain⟨dS,DC⟩:=vC Vu
          obtain⟨g,o,AK,_⟩:=(S6.out.below hL.aQ).at_ i Vu
          obtain⟨p,a,b,bd,bn,bc,r0,r1,r2,r3,Bn⟩:=FY.out wr w.heap.size _ i Vu g o hL AK
          have Qa:Hid (gT (En.af kl) (i+1) (En.rounds (En.af kl) j gv)=En.dh (gT (En.af kl) i (En.rounds (En.af kl) j gv)) (En.cB (En.pI (kl.take 6)[i]) (gT (En.af kl) i (En.rounds (En.af kl) j gv)))):=by
           have h9:=GP dS (En.rounds (En.af kl) j gv)
           rw[DC]at h9
           exact h9
          have Qk:Hid (∀x,x∈En.cB (En.pI (kl.take 6)[i]) (gT (En.af kl) i (En.rounds (En.af kl) j gv))→x<36):=fun x hx=>En.Bj (R:=[]) (En.BG _) hx
          subst AK
          have T5:Hid _:=Bn
          clear Bn DC hL FY EL
          generalize En.cB (En.pI (kl.take 6)[i]) (gT (En.af kl) i (En.rounds (En.af kl) j gv))=L at T5 Qa Qk
          go_wp2_with (go_at_call 37;refine(show Calls Tryz.prog 37 _ _ _ from T5.out).mono ?_;rintro e w5 ⟨d5,n5,c5,rfl,HO⟩)
          have UY:Hid (tB w w5 w.heap.size (En.dh (gT (En.af kl) i (En.rounds (En.af kl) j gv)) (L.take 0))):=by
           have h9:tB w w5 w.heap.size (En.dh (gT (En.af kl) i (En.rounds (En.af kl) j gv)) (L.take 0)):=by
            rw[List.take_zero,FE]
            exact HO.out.2.1
           exact h9
          have KA:Hid (w5.ownsRow 0 3 1 (.slice d5 n5 c5) n5 (an L)):=aE HO.out.1 (Nat.zero_le _)
          have YX:Hid (n5=L.length):=HO.out.2.2
          have hn5:=be KA.out
          clear HO T5 r0 r1 r2 r3 s1
          generalize gT (En.af kl) i (En.rounds (En.af kl) j gv)=H0 at UY Qa
          go_loopw [8] (fun i wr=>∃(q:Nat),q≤n5∧i=.int .i64 q∧tB w wr w.heap.size (En.dh H0 (L.take q))∧wr.ownsRow 0 3 1 (.slice d5 n5 c5) n5 (an L)) (fun i _=>n5-(intOf i).toNat)
          case atStart=>exact⟨0,Nat.zero_le _,rfl,UY.out,KA.out⟩
          case round=>
           obtain⟨q,hq,rfl,hL,bF⟩:=hrel
           clear UY KA
           by_cases WJ:q<n5
           · have Fl:q<L.length:=by rw[←YX.out];exact WJ
             obtain⟨gx,rfl,Fw,hcx,br⟩:=aD bF (by omega)
             have cx:=br q _ (oh L q Fl)
             have Vm:L[q]<36:=Qk.out _ (List.getElem_mem Fl)
             obtain⟨l1,l2,l3⟩:=hL.cell Vm
             have HX:Hid (tB w (wr.setCell ⟨w.heap.size,L[q],none⟩ (.bool true)) w.heap.size (En.dh H0 (L.take (q+1)))∧(wr.setCell ⟨w.heap.size,L[q],none⟩ (.bool true)).ownsRow 0 3 1 (.slice (some ⟨gx,0,none⟩) n5 c5) n5 (an L)):=by
              refine⟨?_, ?_⟩
              · have e0:L.take (q+1)=L.take q++[L[q]]:=by rw[List.take_add_one,List.getElem?_eq_getElem Fl];rfl
                rw[e0,CP]
                exact hL.set _ true
              · refine(Kb.setCell wr ⟨w.heap.size,L[q],none⟩ (.bool true)).fC bF ?_
                intro b' cur fz jR e
                simp at jR
                subst jR
                have h9:=hL.hold
                unfold dJ at h9
                rw[h9]at e
                simp at e
             generalize En.dh H0 (L.take q) L[q]=ox at l1
             clear br bF hL
             generalize L[q]=x at*
             go_wp2_with fail
             go_roundw
             case rel=>exact⟨q+1,WJ,by go_num,HX.out.1,HX.out.2⟩
             case measure=>simp[intOf];omega
           · have X3:Hid (tB w wr w.heap.size (gT (En.af kl) (i+1) (En.rounds (En.af kl) j gv))):=by
              have h9:=hL
              rw[List.take_of_length_le (by rw[←YX.out];omega)]at h9
              have h8:tB w wr w.heap.size (gT (En.af kl) (i+1) (En.rounds (En.af kl) j gv)):=by
               rw[Qa.out]
               exact h9
              exact h8
             clear hL bF
             go_wp2_with fail
             all_goals
              (go_roundw
               case rel=>exact⟨i+1,hit,by go_num,X3.out⟩
               case measure=>(simp[intOf];omega))
        · have X3:Hid (tB w wr w.heap.size (En.rounds (En.af kl) (j+1) gv)):=by
           have e:i=(En.af kl).length:=by rw[qu,G5.out];omega
           have h8:tB w wr w.heap.size (En.rounds (En.af kl) (j+1) gv):=by
            rw[HRS.out,←e]
            exact hL
           exact h8
          clear hL
          go_wp2_with fail
          all_goals
           (go_roundw
            case rel=>exact⟨j+1,YL,by go_num,X3.out⟩
            case measure=>(simp[intOf];omega))
     · have ZN:j=37:=by omega
       subst ZN
       rw[aea.out]at hL
       have HL:Hid (tB w wr w.heap.size (En.al (En.af kl) gv)):=hL
       clear hL
       go_wp2_with fail
       go_ret
       exact⟨w.heap.size,rfl,HL.out.hold,HL.out.aQ⟩
end
/- axiomkeep.all. -/
section
open Go.RowKit
theorem Tryz.uC:(Tryz.prog.info? 48).map (fun i=>(i.zero,i.size,i.bytes))=some (some (.agg #[.string ByteArray.empty,.slice none 0 0]),2,40):=by kernel_rfl
theorem mh{n:Nat}(h:n<1000):cn (n:Int):=by constructor<;>omega
def eB(p a b:Nat):Nat:=if p=0 then a+(if b=0 then 0 else 1)else 4+16*(p-1)+4*a+b
theorem Hv(w:World):Calls Tryz.prog 65 #[] w fun e w'=>∃v l,e=.returned v∧iL w w' v 36 l:=by
 obtain⟨i0,hi,ew,ev,dY⟩:=info_parts Tryz.uC
 go_enter Tryz.func65,Tryz.ntmps65
 go_wp2_with fail
 go_loopw [1,2] (fun a i wr=>∃(p:Nat) (l:List FI),p≤3∧i=.int .i64 p∧iL w wr a (eB p 0 0) l) (fun _ i _=>3-(intOf i).toNat)
 case atStart=>exact⟨0,[],by omega,rfl,iL.nil w⟩
 case round=>
  obtain⟨p,l,hp,rfl,hA⟩:=hrel
  obtain⟨ad,ac,rfl⟩:=aj hA.row
  by_cases vh:p<3
  · have HA:Hid (iL w wr (.slice ad l.length ac) (eB p 0 0) l):=hA
    have hdp:decide ((p:Int)<3)=true:=decide_eq_true (by omega)
    clear hA
    go_wp2_with fail
    go_loopw [1,3] (fun a i wr=>∃(a':Nat) (l:List FI),a'≤4∧i=.int .i64 a'∧iL w wr a (eB p a' 0) l) (fun _ i _=>4-(intOf i).toNat)
    case atStart=>exact⟨0,l,by omega,rfl,HA.out⟩
    case round=>
     obtain⟨a,l2,ha,rfl,hA2⟩:=hrel
     obtain⟨bd,bc,rfl⟩:=aj hA2.row
     have SE:Hid (iL w wr (.slice bd l2.length bc) (eB p a 0) l2):=hA2
     clear hA2
     by_cases ZG:a<4
     · have hda:decide ((a:Int)<4)=true:=decide_eq_true (by omega)
       go_wp2_with fail
       go_loopw [1,4] (fun a0 i wr=>∃(b':Nat) (l:List FI),b'≤4∧i=.int .i64 b'∧iL w wr a0 (eB p a b') l) (fun _ i _=>4-(intOf i).toNat)
       case atStart=>exact⟨0,l2,by omega,rfl,SE.out⟩
       case round=>
        obtain⟨b,l3,hb,rfl,hA3⟩:=hrel
        obtain⟨bd,bc,rfl⟩:=aj hA3.row
        have TV:Hid (iL w wr (.slice bd l3.length bc) (eB p a b) l3):=hA3
        have G2:=hA3.len
        have xI:eB p a b≤40:=by unfold eB;split<;>(try split)<;>omega
        have ZO:l3.length≤40:=by omega
        clear hA3 G2 xI
        by_cases qX:b<4
        · have hna:=fun W=>rK (a:Int) W (mh (by omega))
          have Cb:=fun W=>rK (b:Int) W (mh (by omega))
          have hpd:=fun W=>Dq (p:Int) W (mh (by omega))
          have la:=fun W=>xZ (p:Int) W (mh (by omega))
          rw[ju ZG]at hna
          rw[ju qX]at Cb
          rw[ju vh]at hpd la
          by_cases zg:p=0
          · rw[if_pos zg]at la
            by_cases bU:b=0
            · have Ta:((b:Int)==0)=true:=beq_iff_eq.2 (by omega)
              have HD:Hid (bk (eB p a b)=(Ax.cp p,[Ax.bZ a])):=by
               have e:bk (eB p a b)=(Ax.cp p,[Ax.bZ a]):=by
                have e1:eB p a b=a:=by simp[eB,zg,bU]
                rw[e1,Yt ZG 0,zg]
                rfl
               exact e
              have HC:Hid (eB p a (b+1)=eB p a b+1):=by
               have e:eB p a (b+1)=eB p a b+1:=by simp[eB,zg,bU]
               exact e
              clear zg bU
              go_wp2_with (first | (go_at_call 19;refine(la _).mono ?_;rintro e w' ⟨rfl,rfl⟩) | (go_at_call 18;refine(hpd _).mono ?_;rintro e w3 ⟨rfl,fH⟩) | (go_at_call 122;refine(hna _).mono ?_;rintro e w4 ⟨rfl,TN⟩;have Qt:Hid (iL w w4 (.slice bd l3.length bc) (eB p a b) l3):=(TV.out.below fH).below TN) | (at_builtin;refine wpList_append_own _ rfl (.tmp 24) (.tmp 31) 37 rfl w.heap.size 48 i0 _ 2 40 Tryz.underlying37 hi ew ev dY rfl (by decide) _ _ _ rfl ((Qt.out.row.alloc _).alloc _) ⟨w4.heap.size+1,0,none⟩ 1 1 [.string (Ax.cp p),.slice (some ⟨w4.heap.size,0,none⟩) 1 1] rfl rfl (eY _ _ _ _) (by simp[Value.oneCell']) (by unfold maxLen;omega) (by omega) (by have:=Qt.out.aQ.size;simp;omega) ?_;intro v2 w2 aP bx _))
              have HX:Hid (iL w w' v2 (eB p a (b+1)) (l3++[⟨Ax.cp p,[Ax.bZ a],.slice (some ⟨w4.heap.size,0,none⟩) 1 1⟩])):=by
               rw[HC.out]
               exact Qt.out.step (args:=[Ax.bZ a]) HD.out (by simp) (by simp) aP bx
              go_roundw
              case rel=>exact⟨b+1,_,by omega,by go_num,HX.out⟩
              case measure=>simp[intOf];omega
            · have Ta:((b:Int)==0)=false:=beq_eq_false_iff_ne.2 (by omega)
              have Yn:Hid (iL w wr (.slice bd l3.length bc) (eB p a (b+1)) l3):=by
               have e:eB p a (b+1)=eB p a b:=by simp[eB,zg,bU]
               rw[e]
               exact TV.out
              clear zg bU
              go_wp2_with (go_at_call 19;refine(la _).mono ?_;rintro e w' ⟨rfl,rfl⟩)
              go_roundw
              case rel=>exact⟨b+1,l3,by omega,by go_num,Yn.out⟩
              case measure=>simp[intOf];omega
          · rw[if_neg zg]at la
            have HD:Hid (bk (eB p a b)=(Ax.cp p,[Ax.bZ a,Ax.bZ b])):=by
             have e:bk (eB p a b)=(Ax.cp p,[Ax.bZ a,Ax.bZ b]):=by
              have e1:eB p a b=4+16*(p-1)+4*a+b:=by simp[eB,zg]
              rw[e1,Wv (by omega) ZG qX]
              simp[pC,zg]
             exact e
            have HC:Hid (eB p a (b+1)=eB p a b+1):=by
             have e:eB p a (b+1)=eB p a b+1:=by simp[eB,zg];omega
             exact e
            have Bp:Hid (∀W (x:Nat),x<4→Calls Tryz.prog 122 #[.int .i64 (x:Nat)] W fun e w'=>e=.returned (.string (Ax.bZ x))∧Below W.heap.size W w'):=by
             intro W x hx
             have h9:=rK (x:Int) W (mh (by omega))
             rw[ju hx]at h9
             exact h9
            clear zg hna Cb
            go_wp2_with (first | (go_at_call 19;refine(la _).mono ?_;rintro e w' ⟨rfl,rfl⟩) | (go_at_call 18;refine(hpd _).mono ?_;rintro e w3 ⟨rfl,fH⟩;have Qt:Hid (iL w w3 (.slice bd l3.length bc) (eB p a b) l3):=TV.out.below fH) | (go_at_call 122;refine(Bp.out _ _ (by assumption)).mono ?_;rintro e w4 ⟨rfl,TN⟩;replace Qt:Hid (iL w w4 (.slice bd l3.length bc) (eB p a b) l3):=Qt.out.below TN) | (at_builtin;refine wpList_append_own _ rfl (.tmp 36) (.tmp 45) 37 rfl w.heap.size 48 i0 _ 2 40 Tryz.underlying37 hi ew ev dY rfl (by decide) _ _ _ rfl ((Qt.out.row.alloc _).alloc _) ⟨w4.heap.size+1,0,none⟩ 1 1 [.string (Ax.cp p),.slice (some ⟨w4.heap.size,0,none⟩) 2 2] rfl rfl (eY _ _ _ _) (by simp[Value.oneCell']) (by unfold maxLen;omega) (by omega) (by have:=Qt.out.aQ.size;simp;omega) ?_;intro v2 w2 aP bx _))
            have HX:Hid (iL w w2 v2 (eB p a (b+1)) (l3++[⟨Ax.cp p,[Ax.bZ a,Ax.bZ b],.slice (some ⟨w4.heap.size,0,none⟩) 2 2⟩])):=by
             rw[HC.out]
             exact Qt.out.step (args:=[Ax.bZ a,Ax.bZ b]) HD.out (by simp) (by simp) aP bx
            go_roundw
            case rel=>exact⟨b+1,_,by omega,by go_num,HX.out⟩
            case measure=>simp[intOf];omega
        · have wM:b=4:=by omega
          subst wM
          have Yn:Hid (iL w wr (.slice bd l3.length bc) (eB p (a+1) 0) l3):=by
           have e:eB p (a+1) 0=eB p a 4:=by unfold eB;split<;>(try simp)<;>omega
           rw[e]
           exact TV.out
          go_wp2_with fail
          go_roundw
          case rel=>exact⟨a+1,l3,by omega,by go_num,Yn.out⟩
          case measure=>simp[intOf];omega
     · have hae:a=4:=by omega
       subst hae
       have Yn:Hid (iL w wr (.slice bd l2.length bc) (eB (p+1) 0 0) l2):=by
        have e:eB (p+1) 0 0=eB p 4 0:=by unfold eB;split<;>(try simp)<;>(try split)<;>omega
        rw[e]
        exact SE.out
       go_wp2_with fail
       go_roundw
       case rel=>exact⟨p+1,l2,by omega,by go_num,Yn.out⟩
       case measure=>simp[intOf];omega
  · have ZE:p=3:=by omega
    subst ZE
    have HA:Hid (iL w wr (.slice ad l.length ac) 36 l):=hA
    clear hA
    go_wp2_with fail
    go_ret
    exact⟨_,l,rfl,HA.out⟩
end
/- axiomkeep.fact. -/
section
open Go.RowKit
theorem JR(w:World)(c:Int)(hc:cn c):Calls Tryz.prog 72 #[.int .i64 c] w fun e w'=>∃f:FI,e=.returned (.agg #[.string f.pred,f.av])∧(f.pred,f.args)=bk (Ax.aT c 36)∧
 w'.ownsRow w.heap.size 9 1 f.av f.args.length (strCells f.args)∧Below w.heap.size w w':=by
 have ED:=fun w=>mB c 36 w hc (by decide) (by decide)
 have aG:=Ax.eJ c 36 (by decide)
 generalize Ax.aT c 36=k at ED aG ⊢
 obtain⟨w0,db⟩:∃w0,w0=w.alloc (.cells #[.string ⟨#[]⟩,.slice none 0 0] 48):=⟨_,rfl⟩
 have bU:Below w.heap.size w w0:=by rw[db];exact(Below.refl _ _).alloc (Nat.le_refl _) _
 have mJ:w0.heap[w.heap.size]?=some (.cells #[.string ⟨#[]⟩,.slice none 0 0] 48 (0,0)):=by rw[db];exact heap_alloc_new w _
 have HAL:Hid (Calls Tryz.prog 65 #[] w0 fun e w'=>∃c g,∃f:FI,e=.returned (.slice (some ⟨g,0,none⟩) 36 c)∧Hid ((f.pred,f.args)=bk k∧w'.ownsRow (w.heap.size+1) 9 1 f.av f.args.length (strCells f.args)∧Below w.heap.size w w'∧w'.heap[w.heap.size]?=some (.cells #[.string ⟨#[]⟩,.slice none 0 0] 48 (0,0)))∧g<w'.heap.size∧36≤c∧w'.cell? ⟨g,k*2,none⟩=some (.string f.pred)∧w'.cell? ⟨g,k*2+1,none⟩=some f.av∧
  w'.cell? ⟨w.heap.size,0,none⟩=some (.string ⟨#[]⟩)∧w'.cell? ⟨w.heap.size,1,none⟩=some (.slice none 0 0)∧(∀o,w'.frozen? ⟨w.heap.size,o,none⟩=false)):=by
  refine(Hv w0).mono ?_
  rintro e w' ⟨v,l,rfl,hA⟩
  have hl:=hA.len
  have hk:k<l.length:=by omega
  obtain⟨d,c,rfl⟩:=aj hA.row
  obtain⟨g,rfl,hg,Lp,br⟩:=aD hA.row (by omega)
  have jR:Below w0.heap.size w0 w':=hA.aQ
  have h1:w'.heap[w.heap.size]?=some (.cells #[.string ⟨#[]⟩,.slice none 0 0] 48 (0,0)):=by rw[jR.block _ (lt_of_heap mJ)];exact mJ
  have cR:w0.heap.size=w.heap.size+1:=by rw[db];simp
  refine⟨c,g,l[k],by rw[hl],⟨?_,by rw[←cR];exact hA.each _ (List.getElem_mem hk),bU.trans (jR.mono bU.size),h1⟩,hg,by omega,br _ _ (dN l k hk).1,br _ _ (dN l k hk).2,by rw[cell_of_row _ _ _ _ _ _ h1];rfl,by rw[cell_of_row _ _ _ _ _ _ h1];rfl,fun o=>by simp[World.frozen?,h1]⟩
  have h9:=congrArg (fun z=>z[k]?) hA.data
  simp[aG,hk]at h9
  exact h9
 clear bU mJ
 go_enter Tryz.func72,Tryz.ntmps72
 go_wp2_with fail
 rw[←db]
 clear db
 refine HAL.out.mono ?_
 rintro e w1 ⟨cc,g,f,rfl,HF,hg,h36,c0,c1,d0,d1,df⟩
 have df0:=df 0
 have df1:=df 1
 obtain⟨fp,fa,fv⟩:=f
 simp only at c0 c1 HF
 obtain⟨xd,xc,hfv⟩:=aj HF.out.2.1
 subst hfv
 go_wp2_with (go_at_call 27;refine(ED _).mono ?_;rintro e w' ⟨rfl,hw⟩;subst hw)
 obtain⟨e1,e2,e3,e4⟩:=HF.out
 have k1:=aw _ e4 0 (.string fp)
 have k2:=aw _ k1 1 (.slice xd fa.length xc)
 have k3:Kb [w.heap.size] w' ((w'.setCell ⟨w.heap.size,0,none⟩ (.string fp)).setCell ⟨w.heap.size,1,none⟩ (.slice xd fa.length xc)):=(Kb.setCell w' ⟨w.heap.size,0,none⟩ _).trans (Kb.setCell _ ⟨w.heap.size,1,none⟩ _)
 refine bodyPost_ret (v:=.agg #[.string fp,.slice xd fa.length xc]) ?_ rfl ⟨⟨fp,fa,.slice xd fa.length xc⟩,rfl,e1,aE (k3.row e2 (fun b hb=>by have:=(e2.lt b hb).1;simp;omega)) (by omega),k3.aU e3 e3.size (by simp)⟩
 exact results_cell_row rfl _ _ _ _ _ _ _ rfl k2 Tryz.underlying48 rfl (by kernel_rfl)
end
end Go.Proofs.YtdmicblafmhflaaGreatDoor
