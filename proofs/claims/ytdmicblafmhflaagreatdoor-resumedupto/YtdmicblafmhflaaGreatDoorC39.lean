/- axiomkeep.Shop.right, walked. -/
import Derived.Test.YtdmicblafmhflaaGreatDoorC38
set_option linter.unusedSimpArgs false
set_option linter.unusedVariables false
set_option maxHeartbeats 4000000
set_option maxRecDepth 100000
namespace Go.Proofs.YtdmicblafmhflaaGreatDoor
section
open Go.RowKit Go.Maps
theorem JJ(w:World)(B sb eg:Nat)(ad:Option Addr)(m c:Nat)(kl:List Ax.aA)(gv:Nat→Bool)(n:Nat)(hS:dv w sb eg (.slice ad m c) gv)(hR:eF w ad m c (kl.take 6))(hE:nG w B eg kl gv n)(hg:fX gv)(hU:eM w):
 Calls Tryz.prog 14 #[.pointer (some ⟨sb,0,none⟩)] w fun e w'=>e=.returned (.bool true)∧Below w.heap.size w w':=by
 have hm6:m≤6:=by rw[←hR.len];simp;omega
 have VD:=lt_of_heap hS
 have hmc:=hR.cap
 have yG:c≤9223372036854775807:=hR.max
 have HTU:Hid (Calls Tryz.prog 36 #[.pointer (some ⟨sb,0,none⟩)] w fun e w'=>∃od oc,e=.returned (.tuple #[.slice od 36 oc,.bool true])∧Hid (w'.ownsRow 0 52 3 (.slice od 36 oc) 36 (cA kl gv 36)∧Below w.heap.size w w')):=by
  refine(qf w B sb eg _ kl gv n hS hE hg hU).mono ?_
  rintro e w' ⟨od,oc,rfl,q1,q2⟩
  exact⟨od,oc,rfl,aE q1 (Nat.zero_le _),q2⟩
 have SP:Hid (∀W,Below w.heap.size w W→Calls Tryz.prog 16 #[.pointer (some ⟨sb,0,none⟩)] W fun e w'=>∃hb,e=.returned (.slice (some ⟨hb,0,none⟩) 36 36)∧Hid (dJ w' hb (En.al (En.af kl) gv)∧Below W.heap.size W w')):=by
  intro W hW
  refine(GK W sb eg ad m c kl gv (hS.below hW) (hR.below hW)).mono ?_
  rintro e w' ⟨hb,rfl,q1,q2⟩
  exact⟨hb,rfl,q1,q2⟩
 have EL:Hid (∀W,Below w.heap.size w W→W.cell? ⟨sb,1,none⟩=some (.slice ad m c)):=fun W hW=>(hS.below hW).cells.2.1
 have S6:Hid (eF w ad m c (kl.take 6)):=hR
 have G5:Hid ((kl.take 6).length=m):=hR.len
 have HZ:Hid (∀i,En.al (En.af kl) gv i=false→lq kl gv i=0):=fun i h=>Nl hg h
 have Ve:Hid (∀x,b3 (En.al (En.af kl) gv) (jF (En.af kl) (En.al (En.af kl) gv) (En.af kl).length) 4 x=lq kl gv x):=abZ kl gv
 have FY:Hid (∀W hb H i (hi:i<(kl.take 6).length) g o,Below w.heap.size w W→dJ W hb H→ad=some ⟨g,o,none⟩→∃p a b bd bn bc,W.cell? ⟨g,o+i*4,none⟩=some (.int .i64 p)∧W.cell? ⟨g,o+i*4+1,none⟩=some (.int .i64 a)∧W.cell? ⟨g,o+i*4+2,none⟩=some (.int .i64 b)∧W.cell? ⟨g,o+i*4+3,none⟩=some (.slice bd bn bc)∧Calls Tryz.prog 37 #[.agg #[.int .i64 p,.int .i64 a,.int .i64 b,.slice bd bn bc],.slice (some ⟨hb,0,none⟩) 36 36] W fun e w'=>∃d n cc,e=.returned (.slice d n cc)∧Hid (w'.ownsRow 0 3 1 (.slice d n cc) n (an (En.cB (En.pI (kl.take 6)[i]) H))∧Below W.heap.size W w'∧n=(En.cB (En.pI (kl.take 6)[i]) H).length)):=by
  intro W hb H i hi g o hW hH AK
  obtain⟨g',o',e,hr⟩:=(hR.below hW).at_ i hi
  rw[AK]at e
  simp only[Option.some.injEq,Addr.mk.injEq,and_true]at e
  obtain⟨rfl,rfl⟩:=e
  obtain⟨bd,bn,bc,h3,hB⟩:=hr.body
  refine⟨_,_,_,bd,bn,bc,hr.head.c0,hr.head.c1,hr.head.c2,h3, ?_⟩
  refine(pZ W (kl.take 6)[i] H bd bn bc hB hr.head.f0 hr.head.f1 hr.head.f2 hb hH).mono ?_
  rintro e w' ⟨v,rfl,q1,q2⟩
  obtain⟨d,cc,rfl⟩:=aj q1
  exact⟨d,_,cc,rfl,aE q1 (Nat.zero_le _),q2,rfl⟩
 clear hS hR hE hg hU
 obtain⟨LH,hLH⟩:∃LH,LH=En.al (En.af kl) gv:=⟨_,rfl⟩
 rw[←hLH]at SP HZ Ve
 have TK:Hid (∀k,k<36→(cA kl gv 36)[k*3+1]?=some (.bool (LH k))∧(cA kl gv 36)[k*3+2]?=some (.int .i64 (lq kl gv k:Nat))):=by
  rw[hLH]
  exact D1 kl gv
 generalize cA kl gv 36=TC at HTU TK
 clear hLH
 go_enter Tryz.func14,Tryz.ntmps14
 go_wp2_with (first | (go_at_call 36;refine HTU.out.mono ?_;rintro e w1 ⟨od,oc,rfl,Sp⟩) | (go_at_call 16;refine(SP.out _ Sp.out.2).mono ?_;rintro e w2 ⟨hb,rfl,M3⟩))
 have pG:Hid (Below w.heap.size w w2):=Sp.out.2.trans (M3.out.2.mono Sp.out.2.size)
 have HHO:Hid (∀W,Below w2.heap.size w2 W→dJ W hb LH):=fun W hW=>M3.out.1.below hW
 have O9:Hid (∀W,Below w2.heap.size w2 W→W.ownsRow 0 52 3 (.slice od 36 oc) 36 TC):=fun W hW=>ah (ah Sp.out.1 M3.out.2) hW
 clear Sp M3 HTU SP
 go_loopw [7] (fun i wr=>∃(i':Nat),i'≤m∧i=.int .i64 i'∧o6 w2 wr (jF (En.af kl) LH i')) (fun i _=>m-(intOf i).toNat)
 case atStart=>exact⟨0,Nat.zero_le _,rfl,⟨heap_alloc_new w2 _,(Below.refl _ _).alloc (Nat.le_refl _) _⟩⟩
 case round=>
  obtain⟨i,hi,rfl,hL⟩:=hrel
  have P6:Below w.heap.size w wr:=pG.out.trans (hL.aQ.mono pG.out.size)
  have s1:=EL.out wr P6
  by_cases hit:i<m
  · have hdi:decide ((i:Int)<(m:Int))=true:=decide_eq_true (by omega)
    have Vu:i<(kl.take 6).length:=by rw[G5.out];exact hit
    obtain⟨dS,DC⟩:=vC Vu
    obtain⟨g,o,AK,_⟩:=(S6.out.below P6).at_ i Vu
    obtain⟨p,a,b,bd,bn,bc,r0,r1,r2,r3,Bn⟩:=FY.out wr hb LH i Vu g o P6 (HHO.out wr hL.aQ) AK
    have Qa:Hid (∀x,jF (En.af kl) LH (i+1) x=jF (En.af kl) LH i x+En.eA (En.cB (En.pI (kl.take 6)[i]) LH) x):=fun x=>by
     have h9:=AH (H:=LH) dS x
     rw[DC]at h9
     exact h9
    have Qk:Hid ((∀x,x∈En.cB (En.pI (kl.take 6)[i]) LH→x<36)∧(En.cB (En.pI (kl.take 6)[i]) LH).length≤64):=⟨fun x hx=>En.Bj (R:=[]) (En.BG _) hx,zP _ _⟩
    have WQ:Hid (∀x,jF (En.af kl) LH i x≤384):=fun x=>by
     have h9:=vu (En.af kl) LH x i
     have h8:jF (En.af kl) LH i x≤384:=by omega
     exact h8
    subst AK
    have T5:Hid _:=Bn
    have HL:Hid (o6 w2 wr (jF (En.af kl) LH i)):=hL
    clear Bn DC hL FY EL P6
    generalize En.cB (En.pI (kl.take 6)[i]) LH=L at T5 Qa Qk
    go_wp2_with (go_at_call 37;refine(show Calls Tryz.prog 37 _ _ _ from T5.out).mono ?_;rintro e w5 ⟨d5,n5,c5,rfl,HO⟩)
    have UY:Hid (o6 w2 w5 (pH (jF (En.af kl) LH i) L 0)):=by
     have h9:o6 w2 w5 (pH (jF (En.af kl) LH i) L 0):=(HL.out.below HO.out.2.1).ext (fun x _=>by simp[pH,En.eA])
     exact h9
    have KA:Hid (w5.ownsRow 0 3 1 (.slice d5 n5 c5) n5 (an L)):=HO.out.1
    have YX:Hid (n5=L.length):=HO.out.2.2
    have hn5:=be KA.out
    clear HO T5 r0 r1 r2 r3 s1 HL
    generalize Ss:jF (En.af kl) LH i=C0 at UY Qa WQ
    clear Ss
    go_loopw [9] (fun i wr=>∃(q:Nat),q≤n5∧i=.int .i64 q∧o6 w2 wr (pH C0 L q)∧wr.ownsRow 0 3 1 (.slice d5 n5 c5) n5 (an L)) (fun i _=>n5-(intOf i).toNat)
    case atStart=>exact⟨0,Nat.zero_le _,rfl,UY.out,KA.out⟩
    case round=>
     obtain⟨q,hq,rfl,hL,bF⟩:=hrel
     clear UY KA
     by_cases WJ:q<n5
     · have Fl:q<L.length:=by rw[←YX.out];exact WJ
       obtain⟨gx,rfl,Fw,hcx,br⟩:=aD bF (by omega)
       have cx:=br q _ (oh L q Fl)
       have Vm:L[q]<36:=Qk.out.1 _ (List.getElem_mem Fl)
       obtain⟨l1,l2,l3⟩:=hL.cell Vm
       have hle:pH C0 L q L[q]≤1000:=by
        unfold pH
        have h1:=WQ.out L[q]
        have h2:En.eA (L.take q) L[q]≤(L.take q).length:=List.count_le_length
        have h3:=Qk.out.2
        rw[List.length_take]at h2
        omega
       have HX:Hid (o6 w2 (wr.setCell ⟨w2.heap.size,L[q],none⟩ (.int .i64 ((pH C0 L q L[q]:Nat)+1))) (pH C0 L (q+1))∧(wr.setCell ⟨w2.heap.size,L[q],none⟩ (.int .i64 ((pH C0 L q L[q]:Nat)+1))).ownsRow 0 3 1 (.slice (some ⟨gx,0,none⟩) n5 c5) n5 (an L)):=by
        refine⟨?_, ?_⟩
        · have h9:=hL.set L[q] (pH C0 L q L[q]+1)
          rw[Kk Fl]at h9
          exact h9
        · refine(Kb.setCell wr ⟨w2.heap.size,L[q],none⟩ _).fC bF ?_
          intro b' cur fz jR e
          simp at jR
          subst jR
          have h9:=hL.jX
          unfold Aw at h9
          rw[h9]at e
          simp at e
       clear br bF hL
       generalize pH C0 L q L[q]=cq at*
       generalize L[q]=x at*
       go_wp2_with fail
       go_roundw
       case rel=>exact⟨q+1,WJ,by go_num,HX.out.1,HX.out.2⟩
       case measure=>simp[intOf];omega
     · have X3:Hid (o6 w2 wr (jF (En.af kl) LH (i+1))):=by
        have h8:o6 w2 wr (jF (En.af kl) LH (i+1)):=hL.ext (fun x _=>by
         rw[Qa.out x]
         unfold pH
         rw[List.take_of_length_le (by rw[←YX.out];omega)])
        exact h8
       clear hL bF
       go_wp2_with fail
       all_goals
        (go_roundw
         case rel=>exact⟨i+1,hit,by go_num,X3.out⟩
         case measure=>(simp[intOf];omega))
  · have HL:Hid (o6 w2 wr (b3 LH (jF (En.af kl) LH (En.af kl).length) 0)):=by
     have e:i=(En.af kl).length:=by rw[qu,G5.out];omega
     have h8:o6 w2 wr (b3 LH (jF (En.af kl) LH (En.af kl).length) 0):=by
      rw[aaH,←e]
      exact hL
     exact h8
    have WQ:Hid (∀x,jF (En.af kl) LH (En.af kl).length x≤384):=fun x=>by
     have h9:=vu (En.af kl) LH x (En.af kl).length
     have h7:(En.af kl).length≤6:=by rw[qu,G5.out];exact hm6
     have h8:jF (En.af kl) LH (En.af kl).length x≤384:=by omega
     exact h8
    clear hL FY S6
    generalize ZP:jF (En.af kl) LH (En.af kl).length=S0 at HL WQ Ve
    clear ZP
    go_wp2_with fail
    clear s1
    go_loopw [10] (fun i wr=>∃(k:Nat),k≤4∧i=.int .i64 k∧o6 w2 wr (b3 LH S0 k)) (fun i _=>4-(intOf i).toNat)
    case atStart=>exact⟨0,by omega,rfl,HL.out⟩
    case round=>
     obtain⟨k,hk,rfl,hL⟩:=hrel
     clear HL
     by_cases AU:k<4
     · have hH:=HHO.out wr hL.aQ
       have ff:hb<wr.heap.size:=lt_of_heap hH
       have ake:hb<w2.heap.size:=lt_of_heap (HHO.out w2 (Below.refl _ _))
       have ai4:hb≠w2.heap.size:=by omega
       have akA:w2.heap.size≠hb:=by omega
       have h1:=hH.cell (i:=k) (by omega)
       have h2:=hH.cell (i:=4+5*k) (by omega)
       have h3:=hH.cell (i:=20+5*k) (by omega)
       obtain⟨l1,l2,l3⟩:=hL.cell (i:=k) (by omega)
       have LA:b3 LH S0 k k≤1000:=by
        rw[RE]
        have:=WQ.out k
        omega
       have pD:Hid (iU (OR LH S0 k) k (OR LH S0 k k+(if (LH k&&LH (20+5*k))=true then 1 else 0))=b3 LH S0 (k+1)):=QU LH S0 k
       have ML:Hid ((LH k&&LH (4+5*k))=false→OR LH S0 k=b3 LH S0 k):=fun h=>by
        unfold OR
        rw[h]
        exact o8 _ _
       have Jt:Hid ((LH k&&LH (4+5*k))=true→OR LH S0 k=iU (b3 LH S0 k) k (b3 LH S0 k k+1)):=fun h=>by
        unfold OR
        rw[h]
        rfl
       have LQ:Hid (∀v,iU (b3 LH S0 k) k v k=v):=fun v=>by simp[iU]
       have w1k:(0:Int)≤4+5*(k:Int):=by omega
       have w2k:4+5*(k:Int)<36:=by omega
       have w3k:((4:Int)+5*(k:Int)).toNat=4+5*k:=by omega
       have w4k:(0:Int)≤20+5*(k:Int):=by omega
       have w5k:20+5*(k:Int)<36:=by omega
       have w6k:((20:Int)+5*(k:Int)).toNat=20+5*k:=by omega
       have HL:Hid (o6 w2 wr (b3 LH S0 k)):=hL
       clear hH hL
       cases lS:LH k with
       | false=>
        have HX:Hid (o6 w2 wr (b3 LH S0 (k+1))):=by
         rw[lS,Bool.false_and]at pD ML
         have h9:=pD.out
         rw[ML.out rfl]at h9
         have h8:iU (b3 LH S0 k) k (b3 LH S0 k k+0)=b3 LH S0 (k+1):=h9
         rw[o8]at h8
         rw[←h8]
         exact HL.out
        rw[lS]at h1
        clear h2 h3 l1 pD ML Jt LQ
        go_wp2_with fail
        all_goals
         (go_roundw
          case rel=>exact⟨k+1,AU,by go_num,HX.out⟩
          case measure=>(simp[intOf];omega))
       | true=>
        rw[lS]at h1
        cases Ck:LH (4+5*k)with
        | false=>
         rw[Ck]at h2
         cases D9:LH (20+5*k)with
         | false=>
          rw[D9]at h3
          have HX:Hid (o6 w2 wr (b3 LH S0 (k+1))):=by
           rw[lS,Ck]at ML
           rw[lS,D9]at pD
           have h9:=pD.out
           rw[ML.out rfl]at h9
           have h8:iU (b3 LH S0 k) k (b3 LH S0 k k+0)=b3 LH S0 (k+1):=h9
           rw[o8]at h8
           rw[←h8]
           exact HL.out
          clear l1 pD ML Jt LQ
          go_wp2_with fail
          all_goals
           (go_roundw
            case rel=>exact⟨k+1,AU,by go_num,HX.out⟩
            case measure=>(simp[intOf];omega))
         | true=>
          rw[D9]at h3
          have HX:Hid (o6 w2 (wr.setCell ⟨w2.heap.size,k,none⟩ (.int .i64 (((b3 LH S0 k k:Nat):Int)+1))) (b3 LH S0 (k+1))):=by
           rw[lS,Ck]at ML
           rw[lS,D9]at pD
           have h9:=pD.out
           rw[ML.out rfl]at h9
           have h8:iU (b3 LH S0 k) k (b3 LH S0 k k+1)=b3 LH S0 (k+1):=h9
           rw[←h8]
           exact HL.out.set k _
          clear pD ML Jt LQ
          generalize b3 LH S0 k k=c0 at*
          go_wp2_with fail
          all_goals
           (go_roundw
            case rel=>exact⟨k+1,AU,by go_num,HX.out⟩
            case measure=>(simp[intOf];omega))
        | true=>
         rw[Ck]at h2
         cases D9:LH (20+5*k)with
         | false=>
          rw[D9]at h3
          have HX:Hid (o6 w2 (wr.setCell ⟨w2.heap.size,k,none⟩ (.int .i64 (((b3 LH S0 k k:Nat):Int)+1))) (b3 LH S0 (k+1))):=by
           rw[lS,Ck]at Jt
           rw[lS,D9]at pD
           have h9:=pD.out
           rw[Jt.out rfl]at h9
           have h8:iU (iU (b3 LH S0 k) k (b3 LH S0 k k+1)) k (iU (b3 LH S0 k) k (b3 LH S0 k k+1) k+0)=b3 LH S0 (k+1):=h9
           rw[o8]at h8
           rw[←h8]
           exact HL.out.set k _
          clear pD ML Jt LQ
          generalize b3 LH S0 k k=c0 at*
          go_wp2_with fail
          all_goals
           (go_roundw
            case rel=>exact⟨k+1,AU,by go_num,HX.out⟩
            case measure=>(simp[intOf];omega))
         | true=>
          rw[D9]at h3
          have HX:Hid (o6 w2 ((wr.setCell ⟨w2.heap.size,k,none⟩ (.int .i64 (((b3 LH S0 k k:Nat):Int)+1))).setCell ⟨w2.heap.size,k,none⟩ (.int .i64 (((b3 LH S0 k k:Nat):Int)+1+1))) (b3 LH S0 (k+1))):=by
           rw[lS,Ck]at Jt
           rw[lS,D9]at pD
           have h9:=pD.out
           rw[Jt.out rfl]at h9
           have h8:iU (iU (b3 LH S0 k) k (b3 LH S0 k k+1)) k (iU (b3 LH S0 k) k (b3 LH S0 k k+1) k+1)=b3 LH S0 (k+1):=h9
           rw[LQ.out]at h8
           rw[←h8]
           exact(HL.out.set k (b3 LH S0 k k+1)).set k (b3 LH S0 k k+1+1)
          clear pD ML Jt LQ
          generalize b3 LH S0 k k=c0 at*
          go_wp2_with fail
          all_goals
           (go_roundw
            case rel=>exact⟨k+1,AU,by go_num,HX.out⟩
            case measure=>(simp[intOf];omega))
     · have HL:Hid (o6 w2 wr (lq kl gv)):=by
        have e:k=4:=by omega
        rw[e]at hL
        have h8:o6 w2 wr (lq kl gv):=hL.ext (fun x _=>Ve.out x)
        exact h8
       clear hL Ve
       go_wp2_with fail
       go_loopw [11] (fun i wr=>∃(k:Nat),k≤36∧i=.int .i64 k∧o6 w2 wr (lq kl gv)) (fun i _=>36-(intOf i).toNat)
       case atStart=>exact⟨0,by omega,rfl,HL.out⟩
       case round=>
        obtain⟨k,hk,rfl,hL⟩:=hrel
        clear HL
        have HL:Hid (o6 w2 wr (lq kl gv)):=hL
        by_cases AU:k<36
        · have hH:=HHO.out wr hL.aQ
          have ff:hb<wr.heap.size:=lt_of_heap hH
          have h1:=hH.cell (i:=k) AU
          obtain⟨l1,l2,l3⟩:=hL.cell (i:=k) AU
          obtain⟨gt,hod,TH,Pn,br⟩:=aD (O9.out wr hL.aQ) (by omega)
          subst hod
          obtain⟨e1,e2⟩:=TK.out k AU
          have t1:=br _ _ e1
          have t2:=br _ _ e2
          clear hH hL br e1 e2 O9
          have HZK:Hid (LH k=false→lq kl gv k=0):=HZ.out k
          generalize Zw:lq kl gv k=ck at l1 t2 HZK
          clear Zw
          cases hx:LH k with
          | false=>
           rw[hx]at h1 t1
           have ada:ck=0:=HZK.out hx
           subst ada
           go_upto_region 24 with fail
           go_quiet (fail)
           have HL9:Hid (o6 w2 (wr.drewN nq) (lq kl gv)):=HL.out.below ⟨rfl,rfl,rfl,Nat.le_refl _,fun _ _=>rfl⟩
           go_wp2_with fail
           go_roundw
           case rel=>exact⟨k+1,AU,by go_num,HL9.out⟩
           case measure=>(simp[intOf];omega)
          | true=>
           rw[hx]at h1 t1
           go_upto_region 24 with fail
           go_quiet (fail)
           have HL9:Hid (o6 w2 (wr.drewN nq) (lq kl gv)):=HL.out.below ⟨rfl,rfl,rfl,Nat.le_refl _,fun _ _=>rfl⟩
           go_wp2_with fail
           go_roundw
           case rel=>exact⟨k+1,AU,by go_num,HL9.out⟩
           case measure=>(simp[intOf];omega)
        · have HBE:Hid (Below w.heap.size w wr):=pG.out.trans (hL.aQ.mono pG.out.size)
          clear hL
          go_wp2_with fail
          go_ret
          exact⟨rfl,HBE.out⟩
end
/- axiomkeep.Shop.apply: what it keeps. -/
section
open Go.RowKit Go.Maps
def idxs(L:List Int):List Nat:=(L.take 30).map fun c=>Ax.aT c 36
theorem AZ(L:List Int):∀i,i∈idxs L→i<36:=by
 intro i hi
 obtain⟨c,_,rfl⟩:=List.mem_map.1 hi
 exact Ax.eJ c 36 (by decide)
theorem L8(L:List Int):(idxs L).length≤30:=by simp[idxs];omega
theorem tu{L:List Int}{k:Nat}(h1:k<L.length)(h2:k<30):(idxs L).take (k+1)=(idxs L).take k++[Ax.aT L[k] 36]:=by
 unfold idxs
 rw[←List.map_take,←List.map_take,List.take_take,List.take_take,Nat.min_eq_left (by omega),Nat.min_eq_left (by omega),List.take_add_one,List.getElem?_eq_getElem h1,List.map_append]
 rfl
theorem l8{L:List Int}{k:Nat}(h:¬(k<L.length∧k<30)):(idxs L).take k=idxs L:=by
 refine List.take_of_length_le ?_
 simp[idxs]
 omega
structure Mn(L:List Int)(fd:Option Addr)(fc:Nat)(l:List FI)(W:World):Prop where
 Ca:dW W fd fc l
 idx:mq l (idxs L)
theorem Mn.below{L:List Int}{fd:Option Addr}{fc:Nat}{l:List FI}{W W':World}(h:Mn L fd fc l W)(hb:Below W.heap.size W W'):Mn L fd fc l W':=⟨h.Ca.below hb,h.idx⟩
theorem Mn.len{L:List Int}{fd:Option Addr}{fc:Nat}{l:List FI}{W:World}(h:Mn L fd fc l W):l.length≤30:=by
 rw[←h.idx.len]
 exact L8 L
theorem Vc{W w':World}{v:Value}{l:List FI}{L:List Int}(h:oC W w' v l (Ek L)):∃fd fc,v=.slice fd l.length fc∧Mn L fd fc l w':=by
 obtain⟨fd,fc,rfl⟩:=aj h.row
 refine⟨fd,fc,rfl,⟨aE h.row (Nat.zero_le _),fun f hf=>aE (h.each f hf) (Nat.zero_le _)⟩, ?_,AZ L⟩
 rw[h.data]
 unfold Ek idxs
 rw[List.map_map]
 rfl
structure ph(B:Nat)(w:World)(sb eg:Nat)(rv:Value)(kl:List Ax.aA)(gs ge:Nat→Bool)(n:Nat):Prop where
 lP:dv w sb eg rv gs
 Hu:nG w B eg kl ge n
 le:B≤sb
theorem ph.below{B:Nat}{w w':World}{sb eg:Nat}{rv:Value}{kl:List Ax.aA}{gs ge:Nat→Bool}{n:Nat}(h:ph B w sb eg rv kl gs ge n)(hb:Below w.heap.size w w'):ph B w' sb eg rv kl gs ge n:=⟨h.lP.below hb,h.Hu.below hb,h.le⟩
theorem nG.off{w w':World}{B eg:Nat}{kl:List Ax.aA}{gv:Nat→Bool}{n:Nat}(h:nG w B eg kl gv n){x:Nat}(hk:Kb [x] w w'){Z:Array Value}{f:Nat×Nat}(hx:w.heap[x]?=some (.cells Z 43 f)):nG w' B eg kl gv n:=by
 obtain⟨pl,rd,rc,l,gm,G,hm,T,s,hd,lv,ln,lx,eb,dS,he,hG,hR,hH,hI,hT,cu,mz,xM,uX⟩:=h.at_
 have cE:eg≠x:=fV eb hx (by decide)
 refine⟨⟨pl,rd,rc,l,gm,G,hm,T,s,hd,lv,ln,lx,hk.heap eb (by simpa using cE),dS.kept hk ?_,he,hG.kept hk (hG.kr hx (by decide) (by decide)),hR,hH.kept hk ?_,hI,hT,cu,hk.fC mz ?_,xM,uX⟩,h.ge⟩
 · intro b cur U hb e
   simp only[List.mem_cons,List.not_mem_nil,or_false]at hb
   subst hb
   rw[hx]at e
   simp at e
   rw[←e.2.1]
   decide
 · intro b hb e
   simp only[List.mem_cons,List.not_mem_nil,or_false]at e
   subst e
   unfold cG at hb
   rcases List.mem_cons.1 hb with rfl | hb
   · obtain⟨es,ck,e⟩:=hH.map.block
     rw[e]at hx
     cases hx
   · obtain⟨u,hu,hb⟩:=List.mem_flatMap.1 hb
     obtain⟨cur,T,e,hT⟩:=(hH.bR u hu).types hb
     rw[e]at hx
     simp at hx
     rcases hT with rfl | rfl | rfl
     · exact absurd hx.2.1 (by decide)
     · exact absurd hx.2.1 (by decide)
     · exact absurd hx.2.1 (by decide)
 · intro b cur fz hb e
   simp only[List.mem_cons,List.not_mem_nil,or_false]at hb
   subst hb
   rw[hx]at e
   simp at e
theorem DD(eg:Nat)(rv:Value)(gv:Nat→Bool)(i:Nat)(b:Bool):(jh eg rv gv).setIfInBounds (2+i) (.bool b)=jh eg rv (fm gv i b):=by
 unfold jh
 have h:=wQ gv i b
 rw[List.setIfInBounds_toArray]at h
 have h2:(dK gv).set i (.bool b)=dK (fm gv i b):=by simpa using congrArg Array.toList h
 rw[List.setIfInBounds_toArray,List.set_append_right _ _ (by simp)]
 have e:2+i-[Value.pointer (some ⟨eg,0,none⟩),rv].length=i:=by simp
 rw[e,h2]
theorem ph.set{B:Nat}{w:World}{sb eg:Nat}{rv:Value}{kl:List Ax.aA}{gs ge:Nat→Bool}{n:Nat}(h:ph B w sb eg rv kl gs ge n)(i:Nat)(b:Bool):ph B (w.setCell ⟨sb,2+i,none⟩ (.bool b)) sb eg rv kl (fm gs i b) ge n∧Below B w (w.setCell ⟨sb,2+i,none⟩ (.bool b)):=by
 have hs:=h.lP
 unfold dv at hs
 have hk:Kb [sb] w (w.setCell ⟨sb,2+i,none⟩ (.bool b)):=Kb.setCell w ⟨sb,2+i,none⟩ _
 refine⟨⟨?_,h.Hu.off hk hs,h.le⟩,(Below.refl _ _).setCell (p:=⟨sb,2+i,none⟩) h.le _⟩
 unfold dv
 rw[aw w hs (2+i),DD]
theorem ph.cell{B:Nat}{w:World}{sb eg:Nat}{rv:Value}{kl:List Ax.aA}{gs ge:Nat→Bool}{n:Nat}(h:ph B w sb eg rv kl gs ge n){i:Nat}(hi:i<36):w.cell? ⟨sb,2+i,none⟩=some (.bool (gs i))∧w.frozen? ⟨sb,2+i,none⟩=false∧sb<w.heap.size:=by
 have hs:=h.lP
 unfold dv at hs
 exact⟨h.lP.cells.2.2 i hi,by simp[World.frozen?,hs],lt_of_heap hs⟩
end
end Go.Proofs.YtdmicblafmhflaaGreatDoor
