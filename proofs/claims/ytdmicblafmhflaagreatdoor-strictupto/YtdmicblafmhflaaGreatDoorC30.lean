/- Package follow: Model, walked. -/
import Derived.Test.YtdmicblafmhflaaGreatDoorC29
import Derived.Test.YtdmicblafmhflaaGreatDoorC13
import Derived.Laws.IdiomStrings
import Derived.Test.YtdmicblafmhflaaGreatDoorC17
import Derived.Laws.Closers25b
import Derived.BigQuiet
import Derived.Deep.QuietTactic
import Derived.Deep.CutRange
set_option linter.unusedSimpArgs false
set_option linter.unusedVariables false
set_option maxHeartbeats 4000000
set_option maxRecDepth 100000
namespace Go.Proofs.YtdmicblafmhflaaGreatDoor
section
open Go.RowKit Go.Maps Go.WideMaps Go.WideElems
open Go.Sort (grow)
theorem A7(w:World)(pl:ByteArray)(rd:Option Addr)(rc:Nat)(l:List MR)(hl:eH w rd rc l)(CS:l.length≤8)(h1:Pd.One (aS (l.map MR.ak)))(cr:∀p,p∈aS (l.map MR.ak)→p.1.size≤1000000)
 (gm:Nat)(G:List GT)(hG:jY w gm G)(FH:∀p,p∈aS (l.map MR.ak)→p.1∈G.map GT.nm)(Ym:∀t,t∈G→t.L.length≤1000):
 Calls Tryz.prog 111 #[.agg #[.string pl,.slice rd l.length rc],.map (some gm)] w fun e w'=>∃Q,Hid (Pd.lX Q∧∀p,p∈Q↔p∈aS (l.map MR.ak))∧VP w (l.map MR.ak) Q G e w':=by
 obtain⟨w0,di⟩:∃w0,w0=w.alloc (.cells #[.string pl,.slice rd l.length rc] 101):=⟨_,rfl⟩
 have bK:Below w.heap.size w w0:=by rw[di];exact(Below.refl _ _).alloc (Nat.le_refl _) _
 have nG:w0.heap[w.heap.size]?=some (.cells #[.string pl,.slice rd l.length rc] 101 (0,0)):=by rw[di];exact heap_alloc_new w _
 have x0:w0.cell? ⟨w.heap.size,0,none⟩=some (.string pl):=by rw[cell_of_row _ _ 0 _ _ _ nG];rfl
 have x1:w0.cell? ⟨w.heap.size,1,none⟩=some (.slice rd l.length rc):=by rw[cell_of_row _ _ 1 _ _ _ nG];rfl
 have l6:Hid (Calls Tryz.prog 59 #[.agg #[.string pl,.slice rd l.length rc]] w0 fun e w1=>∃qd qc Q,e=.returned (.slice qd (List.length Q) qc)∧w1.cell? ⟨w.heap.size,1,none⟩=some (.slice rd l.length rc)∧w.heap.size<w1.heap.size∧Hid (w1.ownsRow 0 112 2 (.slice qd Q.length qc) Q.length (au Q)∧Below w.heap.size w w1∧Pd.lX Q∧∀p,p∈Q↔p∈aS (l.map MR.ak))):=by
  refine(pD w0 pl rd rc l (hl.C1.below bK) (by omega) h1).mono ?_
  rintro e w1 ⟨qd,qc,Q,rfl,q1,q2,q3⟩
  have aC:=lt_of_heap nG
  exact⟨qd,qc,Q,rfl,by rw[q2.cell aC];exact x1,Nat.lt_of_lt_of_le aC q2.size,aN q1 (Nat.zero_le _),bK.trans (q2.mono bK.size),q3.out.1,q3.out.2⟩
 have RK:Hid (∀p,p∈aS (l.map MR.ak)→p.1.size≤1000000):=cr
 have HGN:Hid (∀p,p∈aS (l.map MR.ak)→p.1∈G.map GT.nm):=FH
 have HGT:Hid (∀t,t∈G→t.L.length≤1000):=Ym
 have HL:Hid (eH w rd rc l):=hl
 have HG:Hid (jY w gm G):=hG
 have hle:=aZ hl.C1.1
 have H3:Hid ((aS (l.map MR.ak)).length≤24):=by have:=GD hl.two;exact(by omega:(aS (l.map MR.ak)).length≤24)
 clear h1 cr FH Ym hl hG nG
 go_enter Tryz.func111,Tryz.ntmps111
 go_upto_region 1 with fail
 rw[←di]
 clear di
 go_upto_region 2 with(go_at_call 59;refine l6.out.mono ?_;rintro e w1 ⟨qd,qc,Q,rfl,y1,Nn,HQ⟩)
 have hQl:Q.length≤24:=Nat.le_trans (Bg _ _ (tV HQ.out.2.2.1) (fun p hp=>(HQ.out.2.2.2 p).1 hp)) H3.out
 have hnh:Hid (∀W:World,Below w1.heap.size w1 W→Calls Tryz.prog 186 #[.slice qd Q.length qc] W fun e w2=>∃T,e=.returned (.map (some W.heap.size))∧Hid (kM W w2 W.heap.size Q.length Q T)∧w2.cell? ⟨w.heap.size,1,none⟩=some (.slice rd l.length rc)∧w.heap.size<w2.heap.size∧Below W.heap.size W w2):=by
  intro W hW
  refine(zj W 0 qd qc Q (af HQ.out.1 hW) (by omega) (fun p hp=>RK.out p ((HQ.out.2.2.2 p).1 hp))).mono ?_
  rintro e w2 ⟨T,rfl,hT⟩
  have zx:=hT.be
  refine⟨T,rfl,hT, ?_,Nat.lt_of_lt_of_le Nn (Nat.le_trans hW.size zx.size),zx⟩
  rw[zx.cell (Nat.lt_of_lt_of_le Nn hW.size),hW.cell Nn]
  exact y1
 go_cut [7]from 15 (fun v wx=>Hid (TT w1 (.slice rd l.length rc) Q v wx))
 case first=>
  go_region_with (go_at_call 186;refine(hnh.out _ (by first | exact(Below.refl _ _).drew | exact((Below.refl _ _).drew).alloc (Nat.le_refl _) _)).mono ?_;rintro e w2 ⟨T,rfl,HT,y2,rM,cM⟩;try (have hzz:=DF (w1:=w1) (by exact rfl) cM;obtain⟨hz,z0,z1,z2,f0,f1,f2,hzl⟩:=hzz))
  all_goals
   (go_wp2_with fail
    go_meet
    first
    | exact Vw HT.out rfl ((Below.refl _ _).drew) (dS HQ.out.2.2.1) (fun p hp=>RK.out p ((HQ.out.2.2.2 p).1 hp)) (by omega)
    | exact M5 HT.out (by simp) (((Below.refl _ _).alloc (Nat.le_refl _) _).drew) hz (dS HQ.out.2.2.1) (fun p hp=>RK.out p ((HQ.out.2.2.2 p).1 hp)) (by omega)
    | exact M5 HT.out (by simp) (((Below.refl _ _).drew).alloc (Nat.le_refl _) _) hz (dS HQ.out.2.2.1) (fun p hp=>RK.out p ((HQ.out.2.2.2 p).1 hp)) (by omega))
 case rest=>
  obtain⟨sb,mb,T0,rfl,JA,KX,P6,ZU,bk⟩:=hcut.out.out
  have mQ:Hid (Below w.heap.size w w1):=HQ.out.2.1
  have Vm:Hid (T0.map iR=Q.reverse):=KX
  have HM0:Hid (vF w1 wc sb mb (.slice rd l.length rc) (T0.map HT.key) En.cw):=⟨⟨none,0,T0,JA,rfl,ZU⟩,bk⟩
  have HQR:Hid (w1.ownsRow 0 112 2 (.slice qd Q.length qc) Q.length (au Q)):=HQ.out.1
  have mh:Hid ((cQ Q G).length≤24000):=by have:=NC (Q:=Q) HGT.out;exact(by omega:(cQ Q G).length≤24000)
  have OW:=aZ HQ.out.1
  clear hcut JA KX ZU bk hnh x0 x1 y1
  go_wp2_with fail
  go_loopw [22] (fun i wr=>∃k:Nat,k≤Q.length∧i=.int .i64 k∧vF w1 wr sb mb (.slice rd l.length rc) (T0.map HT.key) (En.cK En.cw (cQ (Q.take k) G))) (fun i _=>Q.length-(intOf i).toNat)
  case atStart=>exact⟨0,Nat.zero_le _,rfl,HM0.out⟩
  case round=>
   obtain⟨k,hk,rfl,hm⟩:=hrel
   have HM:Hid (vF w1 wr sb mb (.slice rd l.length rc) (T0.map HT.key) (En.cK En.cw (cQ (Q.take k) G))):=hm
   clear hm HM0
   obtain⟨wA,rfl⟩:∃x,x=wr:=⟨_,rfl⟩
   by_cases aC:k<Q.length
   · have FP:Hid (wA.ownsRow 0 112 2 (.slice qd Q.length qc) Q.length (au Q)):=af HQR.out HM.out.be
     obtain⟨g,rfl,hg,hc,bA⟩:=ax FP.out (by omega)
     have c0:=bA _ _ (aU Q k aC).1
     have c1:=bA _ _ (aU Q k aC).2
     have C2:Hid (Below w.heap.size w wA):=mQ.out.trans (HM.out.be.mono mQ.out.size)
     obtain⟨t,Vi,TM⟩:∃t,t∈G∧t.nm=(Q[k]).1:=by
      obtain⟨t,ht,e⟩:=List.mem_map.1 (HGN.out Q[k] ((HQ.out.2.2.2 _).1 (List.getElem_mem aC)))
      exact⟨t,ht,e⟩
     have LX:Hid (cQ (Q.take (k+1)) G=cQ (Q.take k) G++t.L.map fun r=>(t.nm,r)):=by
      have e:=Lm aC G
      rw[←TM,gB HG.out.names Vi]at e
      exact e
     have HTM:Hid (t.nm∈T0.map HT.nm):=by
      have e:T0.map HT.nm=(T0.map iR).map Prod.fst:=by rw[List.map_map];rfl
      rw[e,Vm.out,TM]
      exact List.mem_map.2 ⟨Q[k],by simp,rfl⟩
     have TL:Hid (t.L.length≤1000):=HGT.out t Vi
     have YM:Hid ((En.cK (En.cw (F:=En.bE)) (cQ (Q.take k) G)).found.length≤24000):=by
      have h1:=En.mH (cQ (Q.take k) G) (En.cw (F:=En.bE))
      have h2:=zQ Q k G
      have h3:=mh.out
      have h4:(En.cw (F:=En.bE)).found.length=0:=rfl
      have h5:(En.cK (En.cw (F:=En.bE)) (cQ (Q.take k) G)).found.length≤24000:=by omega
      exact h5
     have H3L:Hid (p9 t.L):=(cl.rows (HG.out.bX t Vi)).three
     rw[←TM]at c0
     have oe:∀W:World,Below wA.heap.size wA W→(Instr.lookup 102 (.map (some gm)) (.string t.nm) false).run Tryz.prog W=.ok (.pointer (some ⟨t.g,0,none⟩)) W:=fun W hW=>((HG.out.below C2.out).below hW).map.look (iT HG.out.names Vi) (HG.out.short t Vi) Tryz.underlying102 (Tryz.CH W)
     have FD:=oe (wA.alloc (.cells #[.string t.nm,.int .i64 (Q[k]).2] 112)) ((Below.refl _ _).alloc (Nat.le_refl _) _)
     have Ai:Hid (∀W,Below wA.heap.size wA W→Calls Tryz.prog 133 #[.pointer (some ⟨t.g,0,none⟩)] W fun e w2=>∃rd' rc',e=.returned (.slice rd' t.L.length rc')∧w2.ownsRow W.heap.size 119 3 (.slice rd' t.L.length rc') t.L.length (aF t.L)∧Below W.heap.size W w2):=fun W hW=>wM W t.g _ t.nm t.pl t.rd t.rc t.L [] (((HG.out.below C2.out).below hW).bX t Vi) (by have:=TL.out;omega)
     generalize (Q[k]).2=pp at c1 FD
     clear bA oe TM Vi
     go_wp2_with (go_at_call 133;refine(Ai.out _ (by exact(Below.refl _ _).alloc (Nat.le_refl _) _)).mono ?_;rintro e w2 ⟨rd',rc',rfl,mO,cM⟩)
     have VB:Below wA.heap.size wA w2:=((Below.refl _ _).alloc (Nat.le_refl _) _).trans (cM.mono (by simp))
     have Vt:Hid (w2.heap[wA.heap.size]?=some (.cells #[.string t.nm,.int .i64 pp] 112 (0,0))):=by
      rw[cM.block _ (by simp)]
      exact heap_alloc_new _ _
     obtain⟨fd,fc,T,Di,uh,GO⟩:=HM.out.at_
     have IL:Hid (mP w2 sb mb (.slice rd l.length rc) fd fc T (En.cK En.cw (cQ (Q.take k) G))):=Di.below VB
     have HNF:Hid (∀b,b∈dC sb fd fc (En.cK (En.cw (F:=En.bE)) (cQ (Q.take k) G)).found.length T→b<wA.heap.size):=fun b hb=>by
      obtain⟨cur,U,e,_⟩:=lA Di hb
      exact lt_of_heap e
     have HK:Hid (T.map HT.key=T0.map HT.key):=uh
     have HF:Hid (∀b,b∈dC sb fd fc (En.cK (En.cw (F:=En.bE)) (cQ (Q.take k) G)).found.length T→w1.heap.size≤b):=GO
     have XP:Hid (Below w1.heap.size w1 w2):=HM.out.be.trans (VB.mono HM.out.be.size)
     have Tu:Hid (w2.ownsRow (wA.heap.size+1) 119 3 (.slice rd' t.L.length rc') t.L.length (aF t.L)):=by
      have:=mO
      rw[World.size_alloc]at this
      exact this
     have ah2:=aZ mO
     have TF:Hid (∀f,(En.cK (En.cw (F:=En.bE)) (cQ (Q.take k) G)).count f=0):=fun f=>by rw[En.lL];rfl
     have HGS:Hid (En.cK (En.cK En.cw (cQ (Q.take k) G)) (t.L.map fun r=>(t.nm,r))=En.cK En.cw (cQ (Q.take (k+1)) G)):=by
      have h9:En.cK (En.cK En.cw (cQ (Q.take k) G)) (t.L.map fun r=>(t.nm,r))=En.cK En.cw (cQ (Q.take (k+1)) G):=by rw[LX.out,En.B1]
      exact h9
     generalize En.cK (En.cw (F:=En.bE)) (cQ (Q.take k) G)=s at IL HNF HF YM TF HGS
     clear Di uh GO mO cM VB c0 c1 FD Ai HM FP
     go_loopw [34] (fun i wr=>∃j:Nat,j≤t.L.length∧i=.int .i64 j∧iH w2 wr sb mb (.slice rd l.length rc) fd fc T s (En.cK s ((t.L.take j).map fun r=>(t.nm,r)))) (fun i _=>t.L.length-(intOf i).toNat)
     case atStart=>exact⟨0,Nat.zero_le _,rfl,iH.refl IL.out⟩
     case round=>
      obtain⟨j,hj,rfl,mK⟩:=hrel
      have mR:Hid (iH w2 wr sb mb (.slice rd l.length rc) fd fc T s (En.cK s ((t.L.take j).map fun r=>(t.nm,r)))):=mK
      clear mK
      by_cases CU:j<t.L.length
      · have hrw:wr.ownsRow (wA.heap.size+1) 119 3 (.slice rd' t.L.length rc') t.L.length (aF t.L):=by
         refine mR.out.kept.row Tu.out ?_
         intro b hb hm
         have h1:=HNF.out b hm
         have h2:=(Tu.out.lt b hb).1
         omega
        obtain⟨g3,rfl,nB,uP,kk⟩:=ax hrw (by omega)
        obtain⟨a,b,c,Ve⟩:=x8 (H3L.out _ (List.getElem_mem CU))
        obtain⟨r0,r1,r2⟩:=ko H3L.out CU Ve
        have r0:=kk _ _ r0
        have r1:=kk _ _ r1
        have r2:=kk _ _ r2
        have yB:wr.heap[wA.heap.size]?=some (.cells #[.string t.nm,.int .i64 pp] 112 (0,0)):=by
         refine mR.out.kept.heap Vt.out ?_
         intro hm
         have:=HNF.out _ hm
         omega
        have p0:wr.cell? ⟨wA.heap.size,0,none⟩=some (.string t.nm):=by rw[cell_of_row _ _ _ _ _ _ yB];rfl
        have lu:=lt_of_heap yB
        have uD:Hid (En.cK s ((t.L.take (j+1)).map fun r=>(t.nm,r))=En.hold (En.cK s ((t.L.take j).map fun r=>(t.nm,r))) (t.nm,[a,b,c]) 0):=by
         have e0:t.L.take (j+1)=t.L.take j++[t.L[j]]:=by rw[List.take_add_one,List.getElem?_eq_getElem CU];rfl
         rw[e0,List.map_append,Ve]
         exact En.GA _ _ _
        have uO:Hid (∀W:World,Below wr.heap.size wr W→Calls Tryz.prog 187 #[.pointer (some ⟨sb,0,none⟩),.agg #[.string t.nm,.string a,.string b,.string c],.int .i64 0] W fun e w'=>e=.returned (.tuple #[])∧Hid (iH w2 w' sb mb (.slice rd l.length rc) fd fc T s (En.cK s ((t.L.take (j+1)).map fun r=>(t.nm,r))))):=by
         intro W hW
         obtain⟨vS,vZ,T1,kW,mf,zH⟩:=mR.out.on
         obtain⟨A,t',B,hT1,QA⟩:=mY (T:=T1) (p:=t.nm) (by rw[kr (mf.trans HK.out)];exact HTM.out)
         subst hT1
         have pX:=En.D7 ((t.L.take j).map fun r=>(t.nm,r)) s
         have Mb:=En.mH ((t.L.take j).map fun r=>(t.nm,r)) s
         have akd:((t.L.take j).map fun r=>(t.nm,r)).length≤1000:=by
          have:=TL.out
          simp;omega
         have Xh:=YM.out
         have AW:=Av W sb mb _ vS vZ A B t' _ (kW.below hW) a b c 0 (by decide) (by omega) (fun f=>by rw[En.lL,TF.out f];decide)
         rw[←QA]at AW
         refine AW.mono ?_
         rintro e w' ⟨rfl,jK⟩
         refine⟨rfl, ?_⟩
         rw[uD.out]
         exact iH.trans IL.out (kW.below hW) mf zH (mR.out.kept.below hW) (mR.out.post hW).cells pX jK
        clear hrw kk yB Ve
        go_wp2_with (go_at_call 187;refine(uO.out _ (by exact(Below.refl _ _).alloc (Nat.le_refl _) _)).mono ?_;rintro e w6 ⟨rfl,U1⟩)
        go_roundw
        case rel=>exact⟨j+1,by omega,by go_num,U1.out⟩
        case measure=>simp[intOf];omega
      · have hje:j=t.L.length:=by omega
        have gG:Hid (vF w1 wr sb mb (.slice rd l.length rc) (T0.map HT.key) (En.cK En.cw (cQ (Q.take (k+1)) G))):=by
         have h1:=mR.out
         rw[hje,List.take_length,HGS.out]at h1
         exact vF.on XP.out HK.out HF.out h1
        clear hje
        go_wp2_with fail
        go_roundw
        case rel=>exact⟨k+1,by omega,by go_num,gG.out⟩
        case measure=>simp[intOf];omega
   · have CZ:k=Q.length:=by omega
     have HMQ:Hid (vF w1 wA sb mb (.slice rd l.length rc) (T0.map HT.key) (En.cK En.cw (cQ Q G))):=by
      have:=HM.out
      rw[CZ,List.take_length]at this
      exact this
     clear HM CZ
     have MS:Hid (∀W:World,Below w1.heap.size w1 W→eH W rd rc l):=fun W hW=>(HL.out.below mQ.out).below hW
     have HTN:Hid (∀T:List HT,T.map HT.key=T0.map HT.key→∀r,r∈l→r.head.1.pred∈T.map HT.nm):=by
      intro T hT r hr
      have e:T0.map HT.nm=(T0.map iR).map Prod.fst:=by rw[List.map_map];rfl
      rw[kr hT,e,Vm.out]
      have hm:oc r.head.1∈aS (l.map MR.ak):=by
       unfold aS
       refine List.mem_map.2 ⟨r.head.1,List.mem_flatMap.2 ⟨r.ak,List.mem_map.2 ⟨r,hr,rfl⟩, ?_⟩,rfl⟩
       simp[Ax.aP.atoms,MR.ak]
      have hq:=(HQ.out.2.2.2 _).2 hm
      exact List.mem_map.2 ⟨oc r.head.1,by simpa using hq,rfl⟩
     have DB:=zK CS mh.out
     have fE:Hid (Calls Tryz.prog 188 #[.pointer (some ⟨sb,0,none⟩)] wA fun e w3=>e=.returned (.tuple #[])∧Hid (vF w1 w3 sb mb (.slice rd l.length rc) (T0.map HT.key) (mstart (l.map MR.ak) (cQ Q G)))):=by
      obtain⟨fd,fc,T,Di,uh,GO⟩:=HMQ.out.at_
      have h1:=En.mH (cQ Q G) (En.cw (F:=En.bE))
      have h4:(En.cw (F:=En.bE)).found.length=0:=rfl
      have h5:=mh.out
      refine(B8 wA sb mb rd rc l fd fc T _ Di (MS.out _ HMQ.out.be) (HTN.out T uh) (by omega) (by omega) (fun f=>by rw[En.lL];have:(En.cw (F:=En.bE)).count f=0:=rfl;omega)).mono ?_
      rintro e w3 ⟨rfl,jK⟩
      exact⟨rfl,vF.on HMQ.out.be uh GO jK⟩
     have pQ:Hid (cg (l.map MR.ak) (cQ Q G)=En.search ((l.map MR.ak).map En.cp) 200 (202-0) 0 (mstart (l.map MR.ak) (cQ Q G))):=(rfl:cg (l.map MR.ak) (cQ Q G)=_)
     generalize QM:cg (l.map MR.ak) (cQ Q G)=vk at pQ
     have HMS:Hid (cg (l.map MR.ak) (cQ Q G)=vk):=QM
     clear QM
     clear HMQ
     go_wp2_with (go_at_call 188;refine fE.out.mono ?_;rintro e w3 ⟨rfl,HM3⟩)
     have HL0:Hid (Jc w1 w3 sb mb (.slice rd l.length rc) (T0.map HT.key) ((l.map MR.ak).map En.cp) 0 (mstart (l.map MR.ak) (cQ Q G)) vk):=⟨HM3.out,pQ.out.symm,by omega,DB.1,fun f=>by have:=DB.2 f;omega⟩
     clear DB HM3 fE pQ
     go_loopw [12] (fun i wr=>∃(n:Nat) (s:En.cU En.bE),i=.int .i64 n∧Jc w1 wr sb mb (.slice rd l.length rc) (T0.map HT.key) ((l.map MR.ak).map En.cp) n s vk) (fun i _=>202-(intOf i).toNat)
     case atStart=>exact⟨0,_,rfl,HL0.out⟩
     case round=>
      obtain⟨n,s,rfl,Sl⟩:=hrel
      have Wh:Hid (Jc w1 wr sb mb (.slice rd l.length rc) (T0.map HT.key) ((l.map MR.ak).map En.cp) n s vk):=Sl
      obtain⟨fd,fc,T,Di,uh,GO⟩:=Sl.rel.at_
      have afN:=Sl.le
      have hf3:=Sl.found
      have SJ:Hid (mP wr sb mb (.slice rd l.length rc) fd fc T s):=Di
      have WX:Hid (T.map HT.key=T0.map HT.key):=uh
      have FJ:Hid (∀b,b∈dC sb fd fc s.found.length T→w1.heap.size≤b):=GO
      have s2:wr.cell? ⟨sb,2,none⟩=some (.slice fd s.found.length fc):=by rw[cell_of_row _ _ 2 _ _ _ Di.da];rfl
      have s1:wr.cell? ⟨sb,1,none⟩=some (.map (some mb)):=by rw[cell_of_row _ _ 1 _ _ _ Di.da];rfl
      have hsb:=lt_of_heap Di.da
      have HBE:Hid (Below w.heap.size w wr):=mQ.out.trans (Sl.rel.be.mono mQ.out.size)
      clear Sl Di uh GO HL0
      by_cases rM:n<s.found.length
      · by_cases Zp:200<s.found.length
        · have km:Hid (vk=none):=by
           have h1:=Wh.out.res
           rw[show 202-n=(201-n)+1 by omega,En.uQ rM Zp]at h1
           exact h1.symm
          go_wp2_with fail
          go_ret2
          exact⟨Q,⟨HQ.out.2.2.1,HQ.out.2.2.2⟩,⟨HBE.out,.inr ⟨rfl,by rw[HMS.out,km.out]⟩⟩⟩
        · obtain⟨m1,m2,m3,m4⟩:=NM CS HL.out.two rM (by omega) Wh.out.count
          have HRN:Hid (En.search ((l.map MR.ak).map En.cp) 200 (202-(n+1)) (n+1) (En.meet ((l.map MR.ak).map En.cp) s n)=vk):=by
           have h1:=Wh.out.res
           rw[show 202-n=(202-(n+1))+1 by omega,En.Ag rM (by omega)]at h1
           exact h1
          have FB:Hid (Calls Tryz.prog 189 #[.pointer (some ⟨sb,0,none⟩),.int .i64 n] wr fun e w5=>e=.returned (.tuple #[])∧Hid (Jc w1 w5 sb mb (.slice rd l.length rc) (T0.map HT.key) ((l.map MR.ak).map En.cp) (n+1) (En.meet ((l.map MR.ak).map En.cp) s n) vk)):=by
           have hpz:s.found.take (n+1)=s.found.take n++[s.found[n]]:=by rw[List.take_add_one,List.getElem?_eq_getElem rM];rfl
           refine(Nd wr sb mb rd rc l fd fc T s SJ.out (MS.out _ Wh.out.rel.be) (HTN.out T WX.out) (by omega) (s.found.take n) s.found[n] n (by simp;omega) rM hpz (by omega) (fun f=>by have:=Wh.out.count f;omega)).mono ?_
           rintro e w5 ⟨rfl,jK⟩
           rw[m2]at jK
           exact⟨rfl,vF.on Wh.out.rel.be WX.out FJ.out jK,HRN.out,by omega,m3,m4⟩
          clear m1 m2 m3 m4
          go_wp2_with (go_at_call 189;refine FB.out.mono ?_;rintro e w5 ⟨rfl,HM5⟩)
          go_roundw
          case rel=>exact⟨n+1,_,by go_num,HM5.out⟩
          case measure=>simp[intOf];omega
      · have km:Hid (vk=some s):=by
         have h1:=Wh.out.res
         rw[show 202-n=(201-n)+1 by omega,En.xU rM]at h1
         exact h1.symm
        go_wp2_with fail
        go_ret2
        exact⟨Q,⟨HQ.out.2.2.1,HQ.out.2.2.2⟩,⟨HBE.out,.inl ⟨mb,T,s,rfl,by rw[HMS.out,km.out],SJ.out.toH,by rw[Qd WX.out];exact Vm.out,fun b hb=>Nat.le_trans mQ.out.size (Lf P6 FJ.out b hb)⟩⟩⟩
end
/- Package record: Content. -/
section
open Go.RowKit
theorem wX{w:World}{B:Nat}{v:Value}{n:Nat}{l:List UInt8}(h:w.ownsRow B 5 1 v n (Rc.bB l))(hl:l≠[]):(convert 63 9 v).run Tryz.prog w=.ok (.string ⟨l.toArray⟩) w:=by
 have hn:l.length=n:=by have:=h.1;rw[Rc.bC]at this;omega
 have hp:0<l.length:=List.length_pos_iff.2 hl
 obtain⟨vd,vc,rfl⟩:=ah h
 obtain⟨g,rfl,hg,hc,bA⟩:=ax h (by omega)
 subst hn
 refine run_convert_bytes_back w 63 9 5 ⟨g,0,none⟩ vc l Tryz.underlying63 Tryz.underlying5 Tryz.underlying9 ?_
 intro j hj
 have dR:(⟨g,0,none⟩:Addr).add j=⟨g,j,none⟩:=by unfold Addr.add;split<;>simp_all
 rw[dR]
 refine bA j _ ?_
 rw[Rc.bB,List.getElem?_map,List.getElem?_eq_getElem hj]
 rfl
theorem Rc.Jy(l:List FI):Rc.kO l≠[]:=by
 unfold Rc.kO Rc.aV
 split<;>simp
theorem EJ(w:World)(cd:Option Addr)(cc:Nat)(dO:List FI)(gd:Option Addr)(gc:Nat)(gone:List FI)(hc:dN w cd cc dO)(hg:dN w gd gc gone)(h1:nt dO)(h2:nt gone):
 Calls Tryz.prog 69 #[.slice cd dO.length cc,.slice gd gone.length gc] w fun e w'=>e=.returned (.string ⟨(Rc.fK dO gone).toArray⟩)∧Below w.heap.size w w':=by
 have MQ:=nV w.heap.size w (.slice none 0 0) 0 [] cd cc dO hc h1 (World.ownsRow_nil _ _ _ _) (Nat.le_refl _) (by omega)
 have Lp:Hid (∀w1 v1 n1,qK w.heap.size w w1 v1 n1 ([]++Rc.bB (Rc.kO dO))→Calls Tryz.prog 129 #[v1,.slice gd gone.length gc] w1 fun e w2=>∃v2,e=.returned v2∧(convert 63 9 v2).run Tryz.prog w2=.ok (.string ⟨(Rc.fK dO gone).toArray⟩) w2∧Hid (Below w.heap.size w w2)):=by
  intro w1 v1 n1 mK
  have FD:n1≤10000000000:=by
   have h3:=mK.len
   have h4:=h1.facts dO.length
   have h5:=Rc.rm dO.length (by have:=h1.oo;omega)
   rw[List.take_length]at h4
   rw[List.nil_append,Rc.bC,Rc.kO,List.length_append]at h3
   omega
  refine(nV w.heap.size w1 v1 n1 _ gd gc gone (hg.below mK.be) h2 mK.own mK.be.size FD).mono ?_
  rintro e w2 ⟨v2,n2,rfl,Zv⟩
  refine⟨v2,rfl, ?_,mK.be.trans Zv.be⟩
  refine wX (B:=w.heap.size) (n:=n2) ?_ ?_
  · have:=Zv.own
    rw[List.nil_append,←Rc.gq]at this
    exact this
  · have:=Rc.Jy dO
    unfold Rc.fK
    simp[this]
 clear hc hg h1 h2
 generalize Rc.fK dO gone=cb at Lp
 have Sw:Hid (Calls Tryz.prog 129 #[.slice none 0 0,.slice cd dO.length cc] w fun e w1=>∃v1,e=.returned v1∧Calls Tryz.prog 129 #[v1,.slice gd gone.length gc] w1 fun e w2=>∃v2,e=.returned v2∧(convert 63 9 v2).run Tryz.prog w2=.ok (.string ⟨cb.toArray⟩) w2∧Hid (Below w.heap.size w w2)):=by
  refine MQ.mono ?_
  rintro e w1 ⟨v1,n1,rfl,acU⟩
  exact⟨v1,rfl,Lp.out w1 v1 n1 acU⟩
 clear MQ Lp
 go_enter Tryz.func69,Tryz.ntmps69
 go_wp2_with (go_at_call 129;first | (refine Sw.out.mono ?_;rintro e w1 ⟨v1,rfl,RY⟩;clear Sw) | (refine RY.mono ?_;rintro e w2 ⟨v2,rfl,Ml,cM⟩))
 go_ret
 exact⟨rfl,cM.out⟩
end
/- Package digest: words turned; a round. -/
section
open Go.RowKit
namespace Dg
def shutN {α : Type} (f : α) (n : Nat) : α := if n = 0 then f else shutN f (n / 2)
def shut {α : Type} (f : α) : α := shutN f 0
theorem jm{α:Type}(f:α):shut f=f:= by unfold shut shutN; rw [if_pos rfl]
def sh(k:Int):Int:=bits .and .u64 (IntKind.u64.wrap k) 31
def UQ(x k:Int):Int:=bits .or .u32 (IntKind.u32.wrap (x*2^min (sh k).toNat IntKind.u32.bits)) (x/2^min (IntKind.u64.wrap (32-sh k)).toNat IntKind.u32.bits)
def Xe:Int→Int→Int:=shut UQ
def turn:Int→Int→Int:=shut fun x b=>Xe x (wrap64 (-b))
def zw(s:Nat→Int):Array Value:=#[.int .u32 (s 0),.int .u32 (s 1),.int .u32 (s 2),.int .u32 (s 3),.int .u32 (s 4),.int .u32 (s 5),.int .u32 (s 6),.int .u32 (s 7)]
def t1(s:Nat→Int)(word:Int):Int:=s 7+bits .xor .u32 (bits .xor .u32 (turn (s 4) 6) (turn (s 4) 11)) (turn (s 4) 25)+bits .xor .u32 (bits .and .u32 (s 4) (s 5)) (bits .and .u32 (bits .xor .u32 IntKind.u32.max (s 4)) (s 6))+word
def t2(s:Nat→Int):Int:=bits .xor .u32 (bits .xor .u32 (turn (s 0) 2) (turn (s 0) 13)) (turn (s 0) 22)+bits .xor .u32 (bits .xor .u32 (bits .and .u32 (s 0) (s 1)) (bits .and .u32 (s 0) (s 2))) (bits .and .u32 (s 1) (s 2))
def Hp(s:Nat→Int)(word:Int)(i:Nat):Int:=match i with
 | 0=>(t1 s word+t2 s)%4294967296
 | 1=>s 0
 | 2=>s 1
 | 3=>s 2
 | 4=>(s 3+t1 s word)%4294967296
 | 5=>s 4
 | 6=>s 5
 | _=>s 6
def Hj:(Nat→Int)→Int→Nat→Int:=shut Hp
end Dg
theorem vT{w2:World}{k:Nat}{T:TypeId}{a0 a1 a2 a3 a4 a5 a6 a7:Value}(r:w2.heap[k]?=some (.cells #[a0,a1,a2,a3,a4,a5,a6,a7] T (0,0)))(v0 v1 v2 v3 v4 v5 v6 v7:Value):
 ((((((((w2.setCell ⟨k,0,none⟩ v0).setCell ⟨k,1,none⟩ v1).setCell ⟨k,2,none⟩ v2).setCell ⟨k,3,none⟩ v3).setCell ⟨k,4,none⟩ v4).setCell ⟨k,5,none⟩ v5).setCell ⟨k,6,none⟩ v6).setCell ⟨k,7,none⟩ v7).heap[k]?=some (.cells #[v0,v1,v2,v3,v4,v5,v6,v7] T (0,0))∧
 Kb [k] w2 ((((((((w2.setCell ⟨k,0,none⟩ v0).setCell ⟨k,1,none⟩ v1).setCell ⟨k,2,none⟩ v2).setCell ⟨k,3,none⟩ v3).setCell ⟨k,4,none⟩ v4).setCell ⟨k,5,none⟩ v5).setCell ⟨k,6,none⟩ v6).setCell ⟨k,7,none⟩ v7):=by
 refine⟨?_,(((((((Kb.setCell w2 ⟨k,0,none⟩ v0).trans (Kb.setCell _ ⟨k,1,none⟩ v1)).trans (Kb.setCell _ ⟨k,2,none⟩ v2)).trans (Kb.setCell _ ⟨k,3,none⟩ v3)).trans (Kb.setCell _ ⟨k,4,none⟩ v4)).trans (Kb.setCell _ ⟨k,5,none⟩ v5)).trans (Kb.setCell _ ⟨k,6,none⟩ v6)).trans (Kb.setCell _ ⟨k,7,none⟩ v7)⟩
 have h0:(w2.setCell ⟨k,0,none⟩ v0).heap[k]?=some (.cells #[v0,a1,a2,a3,a4,a5,a6,a7] T (0,0)):=an w2 r 0 v0
 generalize w2.setCell ⟨k,0,none⟩ v0=x0 at h0 ⊢
 have h1:(x0.setCell ⟨k,1,none⟩ v1).heap[k]?=some (.cells #[v0,v1,a2,a3,a4,a5,a6,a7] T (0,0)):=an x0 h0 1 v1
 generalize x0.setCell ⟨k,1,none⟩ v1=x1 at h1 ⊢
 have h2:(x1.setCell ⟨k,2,none⟩ v2).heap[k]?=some (.cells #[v0,v1,v2,a3,a4,a5,a6,a7] T (0,0)):=an x1 h1 2 v2
 generalize x1.setCell ⟨k,2,none⟩ v2=x2 at h2 ⊢
 have h3:(x2.setCell ⟨k,3,none⟩ v3).heap[k]?=some (.cells #[v0,v1,v2,v3,a4,a5,a6,a7] T (0,0)):=an x2 h2 3 v3
 generalize x2.setCell ⟨k,3,none⟩ v3=x3 at h3 ⊢
 have h4:(x3.setCell ⟨k,4,none⟩ v4).heap[k]?=some (.cells #[v0,v1,v2,v3,v4,a5,a6,a7] T (0,0)):=an x3 h3 4 v4
 generalize x3.setCell ⟨k,4,none⟩ v4=x4 at h4 ⊢
 have h5:(x4.setCell ⟨k,5,none⟩ v5).heap[k]?=some (.cells #[v0,v1,v2,v3,v4,v5,a6,a7] T (0,0)):=an x4 h4 5 v5
 generalize x4.setCell ⟨k,5,none⟩ v5=x5 at h5 ⊢
 have h6:(x5.setCell ⟨k,6,none⟩ v6).heap[k]?=some (.cells #[v0,v1,v2,v3,v4,v5,v6,a7] T (0,0)):=an x5 h5 6 v6
 generalize x5.setCell ⟨k,6,none⟩ v6=x6 at h6 ⊢
 exact an x6 h6 7 v7
theorem Qk(x k:Int)(w:World):Calls Tryz.prog 244 #[.int .u32 x,.int .i64 k] w fun e w'=>e=.returned (.int .u32 (Dg.Xe x k))∧w'=w:=by
 have h0:0≤bits BinOp.and IntKind.u64 (IntKind.u64.wrap k) 31:=bits_lo_u64 _ _ _
 have e:Dg.Xe x k=Dg.UQ x k:=by unfold Dg.Xe;rw[Dg.jm]
 have HE:Hid (Dg.Xe x k=Dg.UQ x k):=e
 clear e
 go_enter Tryz.func244,Tryz.ntmps244
 go_wp2_with fail
 go_ret
 exact⟨by rw[HE.out];rfl,rfl⟩
theorem E7(x b:Int)(w:World):Calls Tryz.prog 195 #[.int .u32 x,.int .i64 b] w fun e w'=>e=.returned (.int .u32 (Dg.turn x b))∧w'=w:=by
 have e:Dg.turn x b=Dg.Xe x (wrap64 (-b)):=by unfold Dg.turn;rw[Dg.jm]
 rw[e]
 clear e
 go_enter Tryz.func195,Tryz.ntmps195
 go_wp2_with (go_at_call 244;refine(Qk _ _ _).mono ?_;rintro e w' ⟨rfl,rfl⟩)
 go_ret
 exact⟨rfl,rfl⟩
theorem KN(s:Nat→Int)(word:Int)(w:World):Calls Tryz.prog 193 #[.agg (Dg.zw s),.int .u32 word] w fun e w'=>e=.returned (.agg (Dg.zw (Dg.Hj s word)))∧Below w.heap.size w w':=by
 have hc:=fun x b w=>E7 x b w
 have HE:Hid (Dg.Hj s word=Dg.Hp s word):=by
  have:Dg.Hj s word=Dg.Hp s word:=by unfold Dg.Hj;rw[Dg.jm]
  exact this
 unfold Dg.zw
 go_enter Tryz.func193,Tryz.ntmps193
 go_upto_region 1 with fail
 go_quiet (fail)
 go_wp2_with (go_at_call 195;refine(hc _ _ _).mono ?_;rintro e w' ⟨rfl,rfl⟩)
 have hz:(((w.alloc (.cells #[.int .u32 (s 0),.int .u32 (s 1),.int .u32 (s 2),.int .u32 (s 3),.int .u32 (s 4),.int .u32 (s 5),.int .u32 (s 6),.int .u32 (s 7)] 230)).alloc (.cells #[.int .u32 0,.int .u32 0,.int .u32 0,.int .u32 0,.int .u32 0,.int .u32 0,.int .u32 0,.int .u32 0] 230)).drewN nq).heap[w.heap.size+1]?=some (.cells #[.int .u32 0,.int .u32 0,.int .u32 0,.int .u32 0,.int .u32 0,.int .u32 0,.int .u32 0,.int .u32 0] 230 (0,0)):=pN w _ _
 have P9:Below w.heap.size w (((w.alloc (.cells #[.int .u32 (s 0),.int .u32 (s 1),.int .u32 (s 2),.int .u32 (s 3),.int .u32 (s 4),.int .u32 (s 5),.int .u32 (s 6),.int .u32 (s 7)] 230)).alloc (.cells #[.int .u32 0,.int .u32 0,.int .u32 0,.int .u32 0,.int .u32 0,.int .u32 0,.int .u32 0,.int .u32 0] 230)).drewN nq):=(((Below.refl _ _).alloc (Nat.le_refl _) _).alloc (by simp) _).trans ⟨rfl,rfl,rfl,Nat.le_refl _,fun _ _=>rfl⟩
 have ue:w.heap.size≤(((w.alloc (.cells #[.int .u32 (s 0),.int .u32 (s 1),.int .u32 (s 2),.int .u32 (s 3),.int .u32 (s 4),.int .u32 (s 5),.int .u32 (s 6),.int .u32 (s 7)] 230)).alloc (.cells #[.int .u32 0,.int .u32 0,.int .u32 0,.int .u32 0,.int .u32 0,.int .u32 0,.int .u32 0,.int .u32 0] 230)).drewN nq).heap.size:=P9.size
 generalize (((w.alloc (.cells #[.int .u32 (s 0),.int .u32 (s 1),.int .u32 (s 2),.int .u32 (s 3),.int .u32 (s 4),.int .u32 (s 5),.int .u32 (s 6),.int .u32 (s 7)] 230)).alloc (.cells #[.int .u32 0,.int .u32 0,.int .u32 0,.int .u32 0,.int .u32 0,.int .u32 0,.int .u32 0,.int .u32 0] 230)).drewN nq)=wz at hz P9 ue ⊢
 obtain⟨k1,k2⟩:=vT hz (.int .u32 (Dg.Hp s word 0)) (.int .u32 (s 0)) (.int .u32 (s 1)) (.int .u32 (s 2)) (.int .u32 (Dg.Hp s word 4)) (.int .u32 (s 4)) (.int .u32 (s 5)) (.int .u32 (s 6))
 have hld:=run_loadVar_row (P:=Tryz.prog) _ _ _ 230 _ _ _ k1 Tryz.underlying230 rfl (by kernel_rfl)
 refine bodyPost_ret (v:=.agg #[.int .u32 (Dg.Hp s word 0),.int .u32 (s 0),.int .u32 (s 1),.int .u32 (s 2),.int .u32 (Dg.Hp s word 4),.int .u32 (s 4),.int .u32 (s 5),.int .u32 (s 6)]) ?_ rfl ⟨?_, ?_⟩
 · simp only[results,Tryz.results193]
   simp[asAddr]
   exact hld
 · rw[HE.out];rfl
 · exact k2.aK P9 ue (by simp)
end
/- Package digest: a word of four bytes; rows of words. -/
section
open Go.RowKit
theorem Kb.drewN{S:List Nat}{w w':World}(h:Kb S w w')(n:Nat):Kb S w (w'.drewN n):=⟨h.os,h.tape,h.output,h.size,h.block⟩
theorem wpList_store_row{P:Program}{ops:Array Oper}{rest:List Oper}{o:Oper}{a:Act}{w:World}{Q:Exit→Act→World→Prop}(zU:o.guard=none)(ty:TypeId)(x y:Operand)(ho:o.op=.store ty x y)
 (g:Nat)(hx:a.eval x=.pointer (some ⟨g,0,none⟩))(cs:Array Value)(hy:a.eval y=.agg cs)(t:TypeId)(cur:Array Value)(hg:w.heap[g]?=some (.cells cur t (0,0)))(hs:cs.size=cur.size)(hi:(P.info? ty).map (·.size)=some cs.size)(h1:∀v∈cs.toList,v.oneCell'=true)
 (h:wpList P ops Q rest (a.put o.dst undef) (w.setRow g cs)):wpList P ops Q (o::rest) a w:=by
 refine wpList_plain zU fun K hK=> ?_
 have eo:=run_storeCells_at P g 0 t cs.toList 0 cur w hg (by simp;omega) h1
 have e:(cur.toList.take 0++cs.toList++cur.toList.drop (0+cs.toList.length)).toArray=cs:=by
  have:cur.toList.drop (0+cs.toList.length)=[]:=List.drop_eq_nil_of_le (by simp;omega)
  rw[this]
  simp
 simp only[Nat.add_zero]at eo
 rw[e]at eo
 cases hq:P.info? ty with
 | none=>simp[hq]at hi
 | some i=>
  have cr:i.size=cs.size:=by simpa [hq]using hi
  have hc:(Value.agg cs).cells=cs:=rfl
  unfold Oper.wp execOp
  simp[ho,hx,hy,Instr.storeAt,Instr.sureAddr,storeVar,hc,sizeOf,typeInfo,hq,cr,eo]
  exact hK _ _ h
namespace Dg
theorem yo(n:Nat)(k:IntKind)(f:Nat→Int):∀v∈(((List.range n).map fun i=>Value.int k (f i)).toArray).toList,v.oneCell'=true:=by
 intro v hv
 simp only[List.toList_toArray,List.mem_map]at hv
 obtain⟨i,_,rfl⟩:=hv
 rfl
def bp(n:Nat)(k:IntKind)(f:Nat→Int):Array Value:=((List.range n).map fun i=>Value.int k (f i)).toArray
def lk(f:Nat→Int)(i:Nat)(v:Int):Nat→Int:=fun j=>if j=i then v else f j
theorem cH(n:Nat)(k:IntKind)(f:Nat→Int):(bp n k f).size=n:=by simp[bp]
theorem sg{n:Nat}{k:IntKind}{f:Nat→Int}{i:Nat}(h:i<n):(bp n k f)[i]?=some (.int k (f i)):=by simp[bp,h]
theorem Ps{n:Nat}{k:IntKind}{f:Nat→Int}{i:Nat}(h:i<n)(v:Int):(bp n k f).setIfInBounds i (.int k v)=bp n k (lk f i v):=by
 apply Array.ext_getElem?
 intro j
 rw[Array.getElem?_setIfInBounds]
 by_cases hj:j<n
 · rw[sg hj,sg hj,cH]
   by_cases e:i=j
   · subst e;simp[lk,h]
   · have e':¬j=i:=fun x=>e x.symm
     simp[lk,e,e']
 · have h1:(bp n k f)[j]?=none:=Array.getElem?_eq_none (by rw[cH];omega)
   have h2:(bp n k (lk f i v))[j]?=none:=Array.getElem?_eq_none (by rw[cH];omega)
   rw[h1,h2,if_neg (by omega)]
theorem yE{n:Nat}{k:IntKind}{f g:Nat→Int}(h:∀i,i<n→f i=g i):bp n k f=bp n k g:=by
 unfold bp
 congr 1
 refine List.map_congr_left fun i hi=> ?_
 rw[h i (by simpa using hi)]
theorem aw{w:World}{g n:Nat}{k:IntKind}{f:Nat→Int}{T:TypeId}(hg:w.heap[g]?=some (.cells (bp n k f) T (0,0))){i:Nat}(h:i<n):w.cell? ⟨g,i,none⟩=some (.int k (f i)):=by
 rw[cell_of_row _ _ _ _ _ _ hg,sg h]
theorem po{w:World}{g n:Nat}{k:IntKind}{f:Nat→Int}{T:TypeId}(hg:w.heap[g]?=some (.cells (bp n k f) T (0,0))){i:Nat}(h:i<n)(v:Int):(w.setCell ⟨g,i,none⟩ (.int k v)).heap[g]?=some (.cells (bp n k (lk f i v)) T (0,0)):=by
 rw[an w hg,Ps h]
theorem bh{w:World}{g:Nat}{cs:Array Value}{T:TypeId}(hg:w.heap[g]?=some (.cells cs T (0,0)))(i:Nat):w.frozen? ⟨g,i,none⟩=false:=by simp[World.frozen?,hg]
def Oz(b0 b1 b2 b3:Int):Int:=bits .or .u32 (bits .or .u32 (bits .or .u32 (b0%4294967296*16777216%4294967296) (b1%4294967296*65536%4294967296)) (b2%4294967296*256%4294967296)) (b3%4294967296)
def word:Int→Int→Int→Int→Int:=shut Oz
end Dg
theorem JR(w:World)(g o n c:Nat)(b0 b1 b2 b3:Int)(hn:4≤n)(h0:w.cell? ⟨g,o,none⟩=some (.int .u8 b0))(h1:w.cell? ⟨g,o+1,none⟩=some (.int .u8 b1))(h2:w.cell? ⟨g,o+2,none⟩=some (.int .u8 b2))(h3:w.cell? ⟨g,o+3,none⟩=some (.int .u8 b3)):
 Calls Tryz.prog 194 #[.slice (some ⟨g,o,none⟩) n c] w fun e w'=>e=.returned (.int .u32 (Dg.word b0 b1 b2 b3))∧∃k,w'=w.drewN k:=by
 have HE:Hid (Dg.word b0 b1 b2 b3=Dg.Oz b0 b1 b2 b3):=by
  have:Dg.word b0 b1 b2 b3=Dg.Oz b0 b1 b2 b3:=by unfold Dg.word;rw[Dg.jm]
  exact this
 go_enter Tryz.func194,Tryz.ntmps194
 go_upto_region 1 with fail
 go_quiet (fail)
 go_wp2_with fail
 go_ret
 exact⟨by rw[HE.out];rfl,_,rfl⟩
end
end Go.Proofs.YtdmicblafmhflaaGreatDoor
