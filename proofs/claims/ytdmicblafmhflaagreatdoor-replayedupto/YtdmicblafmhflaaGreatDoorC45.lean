/- state.readGiven, walked. -/
import Derived.Test.YtdmicblafmhflaaGreatDoorC44
set_option linter.unusedSimpArgs false
set_option linter.unusedVariables false
set_option maxHeartbeats 4000000
set_option maxRecDepth 100000
namespace Go.Proofs.YtdmicblafmhflaaGreatDoor
section
open Go.RowKit Go.Maps
theorem VB(p:Pd.Pr):p∈gQ↔p∈jI:=by
 refine⟨oH,fun h=> ?_⟩
 unfold jI at h
 unfold gQ
 simp only[List.mem_cons,List.not_mem_nil,or_false]at h ⊢
 rcases h with h | h | h<;>simp[h]
theorem VR:Pd.vG gQ:=by unfold Pd.vG gQ;decide+kernel
abbrev zJ:List TypeId:=[251,125,119]
structure RI(wS wA W:World)(rb gm pb pp:Nat)(pn:ByteArray)(l:List UInt8)(N:List GT)(b:Option Nat):Prop where
 rd:bC W rb l false
 aZ:Below wS.heap.size wS W
 Sk:lJ W gm N
 tk:kp zJ wA W
 Lw:W.heap[pb]?=some (.cells #[.string pn,.int .i64 (pp:Nat)] 112 (0,0))
 cT:∀x,b=some x→W.heap[x]?=some (.cells #[.string ⟨#[]⟩,.string ⟨#[]⟩,.string ⟨#[]⟩] 119 (0,0))∧wS.heap.size≤x∧¬x∈eW gm N
theorem RI.pc{wS wA W:World}{rb gm pb pp:Nat}{pn:ByteArray}{l:List UInt8}{N:List GT}{b:Option Nat}(h:RI wS wA W rb gm pb pp pn l N b):W.cell? ⟨pb,1,none⟩=some (.int .i64 (pp:Nat)):=by rw[cell_of_row _ _ _ _ _ _ h.Lw];rfl
theorem RI.below{wS wA W w':World}{rb gm pb pp:Nat}{pn:ByteArray}{l:List UInt8}{N:List GT}{b:Option Nat}(h:RI wS wA W rb gm pb pp pn l N b)(hb:Below W.heap.size W w'):RI wS wA w' rb gm pb pp pn l N b:=by
 refine⟨?_,h.aZ.trans (hb.mono h.aZ.size),h.Sk.below hb,h.tk.trans (kp.bF hb _),by rw[hb.block _ (lt_of_heap h.Lw)];exact h.Lw,fun x hx=> ?_⟩
 · have:=h.rd
   unfold bC at this ⊢
   rw[hb.block _ (lt_of_heap this)]
   exact this
 · obtain⟨h1,h2,h3⟩:=h.cT x hx
   exact⟨by rw[hb.block _ (lt_of_heap h1)];exact h1,h2,h3⟩
theorem RI.drew{wS wA W:World}{rb gm pb pp:Nat}{pn:ByteArray}{l:List UInt8}{N:List GT}{b:Option Nat}(h:RI wS wA W rb gm pb pp pn l N b):RI wS wA W.drew rb gm pb pp pn l N b:=h.below (Below.refl _ _).drew
theorem RI.read{wS wA W w':World}{rb gm pb pp:Nat}{pn:ByteArray}{l l':List UInt8}{N:List GT}{b:Option Nat}(h:RI wS wA W rb gm pb pp pn l N b)(vX:wS.heap.size≤rb)(hk:Kb [rb] W w')(hr:bC w' rb l' false):RI wS wA w' rb gm pb pp pn l' N b:=by
 have rA:=h.rd
 unfold bC at rA
 refine⟨hr,hk.aJ h.aZ h.aZ.size (by simpa using vX),h.Sk.kept hk (h.Sk.kx rA (by decide) (by decide)),h.tk.trans (kp.pW hk rA (by simp)),hk.heap h.Lw (by simpa using fg h.Lw rA (by decide)),fun x hx=> ?_⟩
 obtain⟨h1,h2,h3⟩:=h.cT x hx
 exact⟨hk.heap h1 (by simpa using fg h1 rA (by decide)),h2,h3⟩
theorem RI.alloc{wS wA W:World}{rb gm pb pp:Nat}{pn:ByteArray}{l:List UInt8}{N:List GT}(h:RI wS wA W rb gm pb pp pn l N none):RI wS wA (W.alloc (.cells #[.string ⟨#[]⟩,.string ⟨#[]⟩,.string ⟨#[]⟩] 119)) rb gm pb pp pn l N (some W.heap.size):=by
 have h2:=h.below (w':=W.alloc (.cells #[.string ⟨#[]⟩,.string ⟨#[]⟩,.string ⟨#[]⟩] 119)) ((Below.refl _ _).alloc (Nat.le_refl _) _)
 refine⟨h2.rd,h2.aZ,h2.Sk,h2.tk,h2.Lw,fun x hx=> ?_⟩
 simp only[Option.some.injEq]at hx
 subst hx
 refine⟨heap_alloc_new _ _,h.aZ.size,fun hm=> ?_⟩
 have h3:=h.Sk.lt hm
 omega
theorem RI.cells{wS wA W:World}{rb gm pb pp:Nat}{pn:ByteArray}{l:List UInt8}{N:List GT}{x:Nat}(h:RI wS wA W rb gm pb pp pn l N (some x)):W.cell? ⟨x,0,none⟩=some (.string ⟨#[]⟩)∧W.cell? ⟨x,1,none⟩=some (.string ⟨#[]⟩)∧W.cell? ⟨x,2,none⟩=some (.string ⟨#[]⟩)∧W.frozen? ⟨x,0,none⟩=false∧W.frozen? ⟨x,1,none⟩=false∧W.frozen? ⟨x,2,none⟩=false∧x<W.heap.size:=by
 obtain⟨h2,_,_⟩:=h.cT x rfl
 exact⟨by rw[cell_of_row _ _ _ _ _ _ h2];rfl,by rw[cell_of_row _ _ _ _ _ _ h2];rfl,by rw[cell_of_row _ _ _ _ _ _ h2];rfl,by simp[World.frozen?,h2],by simp[World.frozen?,h2],by simp[World.frozen?,h2],lt_of_heap h2⟩
structure RJ(wS wA W:World)(rb gm pb pp:Nat)(pn:ByteArray)(l:List UInt8)(N:List GT)(D:List ByteArray)(g:Nat)(b:Option Nat):Prop where
 ri:RI wS wA W rb gm pb pp pn l N b
 av:W.ownsRow 0 9 1 (.slice (some ⟨g,0,none⟩) pp pp) pp (strCells D)
theorem RJ.alloc{wS wA W:World}{rb gm pb pp:Nat}{pn:ByteArray}{l:List UInt8}{N:List GT}{D:List ByteArray}{g:Nat}(h:RJ wS wA W rb gm pb pp pn l N D g none):RJ wS wA (W.alloc (.cells #[.string ⟨#[]⟩,.string ⟨#[]⟩,.string ⟨#[]⟩] 119)) rb gm pb pp pn l N D g (some W.heap.size):=⟨h.ri.alloc,h.av.alloc _⟩
structure Ve(wS wA:World)(rb gm pb pp:Nat)(pn:ByteArray)(l:List UInt8)(N:List GT)(x0 x1 x2:ByteArray)(v12 sJ:Value)(wx:World):Prop where
 sJ:sJ=.bool true
 out:∃xb,v12=.pointer (some ⟨xb,0,none⟩)∧wx.heap[xb]?=some (.cells #[.string x0,.string x1,.string x2] 119 (0,0))∧RI wS wA wx rb gm pb pp pn l N none
theorem RI.Sc{wS wA W:World}{rb gm pb pp:Nat}{pn:ByteArray}{l:List UInt8}{N:List GT}{x:Nat}(h:RI wS wA W rb gm pb pp pn l N (some x))(x0 x1 x2:ByteArray):Ve wS wA rb gm pb pp pn l N x0 x1 x2 (.pointer (some ⟨x,0,none⟩)) (.bool true) (((W.setCell ⟨x,0,none⟩ (.string x0)).setCell ⟨x,1,none⟩ (.string x1)).setCell ⟨x,2,none⟩ (.string x2)):=by
 obtain⟨h1,h2,h3⟩:=h.cT x rfl
 have hk:Kb [x] W (((W.setCell ⟨x,0,none⟩ (.string x0)).setCell ⟨x,1,none⟩ (.string x1)).setCell ⟨x,2,none⟩ (.string x2)):=((Kb.setCell W ⟨x,0,none⟩ _).trans (Kb.setCell _ ⟨x,1,none⟩ _)).trans (Kb.setCell _ ⟨x,2,none⟩ _)
 have rA:=h.rd
 unfold bC at rA
 refine⟨rfl,x,rfl,BQ h1 _ _ _, ?_,hk.aJ h.aZ h.aZ.size (by simpa using h2),h.Sk.kept hk (fun b hb hm=> ?_),h.tk.trans (kp.pW hk h1 (by simp)),hk.heap h.Lw (by simpa using fg h.Lw h1 (by decide)),fun x hx=>by cases hx⟩
 · exact hk.heap rA (by simpa using fg rA h1 (by decide))
 · simp at hm
   subst hm
   exact h3 hb
theorem RI.S8{wS wA W:World}{rb gm pb pp:Nat}{pn:ByteArray}{l:List UInt8}{N:List GT}(h:RI wS wA W rb gm pb pp pn l N none)(x0 x1 x2:ByteArray):Ve wS wA rb gm pb pp pn l N x0 x1 x2 (.pointer (some ⟨W.heap.size,0,none⟩)) (.bool true) (W.alloc (.cells #[.string x0,.string x1,.string x2] 119)):=by
 have h2:=h.below (w':=W.alloc (.cells #[.string x0,.string x1,.string x2] 119)) ((Below.refl _ _).alloc (Nat.le_refl _) _)
 exact⟨rfl,W.heap.size,rfl,heap_alloc_new _ _,h2⟩
theorem zx(wS w:World)(rb:Nat)(kl:List Ax.ay)(gv:Nat→Bool)(hg:jk gv)(hb:Below wS.heap.size wS w)(vX:wS.heap.size≤rb)(hr:bC w rb (Rc.aQ (Ex.jC (En.ak (En.aj kl) gv)).length++((Ex.jC (En.ak (En.aj kl) gv)).flatMap Rc.aC++gQ.flatMap fun p=>Ex.facts kl gv p.1)) false)(hU:eY wS)(qd:Option Addr)(qc:Nat)(hq:w.ownsRow 0 112 2 (.slice qd 3 qc) 3 (aB gQ)):
 Calls Tryz.prog 82 #[.pointer (some ⟨rb,0,none⟩),.slice qd 3 qc] w fun e w'=>∃gm,e=.returned (.tuple #[.map (some gm),.bool true])∧uW wS w' gm gv∧kp zJ w w':=by
 have HU:Hid (eY wS):=hU
 have Gr:Hid (∀p,p∈gQ→∀j,j∈cW (En.ak (En.aj kl) gv) p.1→∀x,x∈(be j).2→(Ex.jC (En.ak (En.aj kl) gv))[Ex.place (En.ak (En.aj kl) gv) x]?=some x):=fun p hp j hj x hx=>Ex.Dp _ hp hj hx
 have pS:(Rc.aQ (Ex.jC (En.ak (En.aj kl) gv)).length++((Ex.jC (En.ak (En.aj kl) gv)).flatMap Rc.aC++gQ.flatMap fun p=>Ex.facts kl gv p.1)).length≤10000000:=by
  have h9:=vM kl gv
  unfold Ex.body at h9
  simp only[List.length_append]at h9 ⊢
  omega
 have GH:=Ex.sr (En.ak (En.aj kl) gv)
 have VZ:=Rd.EM (X:=Ex.jC (En.ak (En.aj kl) gv)) (fun x hx=>Nat.lt_of_le_of_lt (wo _ x hx) (by decide)) (by omega) (gQ.flatMap fun p=>Ex.facts kl gv p.1)
 have gh:=pL w rb _ false hr (by omega)
 rw[VZ]at gh
 simp only at gh
 have HGO:Hid (jM gv (qe (En.ak (En.aj kl) gv) gQ)=gv):=NB hg
 have hfl:(gQ.flatMap fun p=>Ex.facts kl gv p.1).length≤10000000:=by
  simp only[List.length_append]at pS
  omega
 generalize hN:Ex.jC (En.ak (En.aj kl) gv)=N at*
 have ze:Hid (Calls Tryz.prog 140 #[.pointer (some ⟨rb,0,none⟩)] w fun e w1=>∃g,e=.returned (.slice (some ⟨g,0,none⟩) N.length N.length)∧Hid (w1.ownsRow 0 9 1 (.slice (some ⟨g,0,none⟩) N.length N.length) N.length (strCells N)∧bC w1 rb (gQ.flatMap fun p=>Ex.facts kl gv p.1) false∧Below wS.heap.size wS w1∧w1.ownsRow 0 112 2 (.slice qd 3 qc) 3 (aB gQ)∧kp zJ w w1)):=by
  refine gh.mono ?_
  rintro e w1 ⟨g,rfl,q1,q2,q3⟩
  unfold bC at hr
  exact⟨g,rfl,aG q1 (Nat.zero_le _),q2,q3.aJ hb hb.size (by simpa using vX),(kp.pW q3 hr (bad:=[251]) (by simp)).row hq (by simp),kp.pW q3 hr (by simp)⟩
 have Ws:Hid (∀w1,Below wS.heap.size wS w1→bC w1 rb (gQ.flatMap fun p=>Ex.facts kl gv p.1) false→w1.ownsRow 0 112 2 (.slice qd 3 qc) 3 (aB gQ)→Calls Tryz.prog 58 #[.slice qd 3 qc] w1 fun e w2=>e=.returned (.map (some w1.heap.size))∧Hid (VE wS w2 rb w1.heap.size ((gQ.drop 0).flatMap fun p=>Ex.facts kl gv p.1) (jM gv (qe (En.ak (En.aj kl) gv) (gQ.take 0)))∧Below w1.heap.size w1 w2)):=by
  intro w1 a8 E6 Z4
  refine(lR w1 0 qd qc gQ Z4 (by decide) (fun p hp=>Nat.le_trans (dP _ (oH hp)) (by decide))).mono ?_
  rintro e w2 ⟨T,rfl,hT⟩
  obtain⟨k1,k2⟩:=C1 hT VB VR
  refine⟨rfl,⟨?_,vX,⟨T,k1, ?_, ?_⟩,a8.trans (hT.aZ.mono a8.size)⟩,hT.aZ⟩
  · unfold bC at E6 ⊢
    rw[hT.aZ.block _ (lt_of_heap E6)]
    exact E6
  · have e:jM gv (qe (En.ak (En.aj kl) gv) (gQ.take 0))=fun _=>false:=by
     funext i
     simp[jM,qe]
    rw[e]
    exact k2
  · intro b hb
    unfold eW at hb
    rw[List.mem_cons,List.mem_flatMap]at hb
    rcases hb with rfl | ⟨t,ht,hb⟩
    · exact a8.size
    · obtain⟨_,p,g,rfl,aE⟩:=hT.b8 t ht
      unfold GT.bY wG at hb
      simp[Value.ownBlock]at hb
      have:=a8.size
      omega
 clear gh VZ pS hr hq hb hg hU
 go_enter Tryz.func82,Tryz.ntmps82
 go_wp2_with (first | (go_at_call 140;refine ze.out.mono ?_;rintro e w1 ⟨gn,rfl,H1⟩) | (go_at_call 58;refine(Ws.out w1 H1.out.2.2.1 H1.out.2.1 H1.out.2.2.2.1).mono ?_;rintro e w2 ⟨rfl,H2⟩))
 have HN2:Hid (w2.ownsRow 0 9 1 (.slice (some ⟨gn,0,none⟩) N.length N.length) N.length (strCells N)∧w2.ownsRow 0 112 2 (.slice qd 3 qc) 3 (aB gQ)):=⟨ae H1.out.1 H2.out.2,ae H1.out.2.2.2.1 H2.out.2⟩
 have HTW:Hid (kp zJ w w2):=H1.out.2.2.2.2.trans (kp.bF H2.out.2 _)
 have Lk:Hid (VE wS w2 rb w1.heap.size ((gQ.drop 0).flatMap fun p=>Ex.facts kl gv p.1) (jM gv (qe (En.ak (En.aj kl) gv) (gQ.take 0)))):=H2.out.1
 generalize w1.heap.size=gm at Lk
 clear ze Ws H2
 go_loopw [20] (fun i wr=>∃(k:Nat),k≤3∧i=.int .i64 k∧VE wS wr rb gm ((gQ.drop k).flatMap fun p=>Ex.facts kl gv p.1) (jM gv (qe (En.ak (En.aj kl) gv) (gQ.take k)))∧kp zJ w2 wr) (fun i _=>3-(intOf i).toNat)
 case atStart=>exact⟨0,Nat.zero_le _,rfl,Lk.out,kp.bF (Below.refl _ _) _⟩
 case round=>
  obtain⟨k,hk,rfl,U7,YC⟩:=hrel
  obtain⟨wA,rfl⟩:∃x,x=wr:=⟨_,rfl⟩
  clear Lk
  by_cases aE:k<3
  · have mP:k<gQ.length:=aE
    obtain⟨g2,rfl,dM,uD,bH⟩:=aD (YC.row HN2.out.2 (by decide)) (by omega)
    have c0:=bH _ _ (aT gQ k mP).1
    have c1:=bH _ _ (aT gQ k mP).2
    have CB:((gQ[k]).1,(gQ[k]).2)∈gQ:=List.getElem_mem mP
    have Jv:gQ.drop k=gQ[k]::gQ.drop (k+1):=List.drop_eq_getElem_cons mP
    rw[Jv,List.flatMap_cons]at U7
    have IB:Hid (qe (En.ak (En.aj kl) gv) (gQ.take (k+1))=qe (En.ak (En.aj kl) gv) (gQ.take k)++cW (En.ak (En.aj kl) gv) (gQ[k]).1):=by
     have e0:gQ.take (k+1)=gQ.take k++[gQ[k]]:=by rw[List.take_add_one,List.getElem?_eq_getElem mP];rfl
     have e1:qe (En.ak (En.aj kl) gv) (gQ.take (k+1))=qe (En.ak (En.aj kl) gv) (gQ.take k)++cW (En.ak (En.aj kl) gv) (gQ[k]).1:=by unfold qe;rw[e0,List.flatMap_append,List.flatMap_singleton]
     exact e1
    have Zd:=rz kl gv (gQ[k]).1
    have aj0:((gQ.drop (k+1)).flatMap fun p=>Ex.facts kl gv p.1).length≤10000000:=by
     have h9:=jX (fun p:Pd.Pr=>Ex.facts kl gv p.1) 10000 (gQ.drop (k+1)) (fun p _=>rz kl gv p.1)
     have h8:(gQ.drop (k+1)).length≤3:=by rw[List.length_drop];have:gQ.length=3:=rfl;omega
     omega
    have HPP:Hid (∀j,j∈cW (En.ak (En.aj kl) gv) (gQ[k]).1→j<36∧(be j).1=(gQ[k]).1∧(be j).2.length=(gQ[k]).2∧∀x,x∈(be j).2→N[Ex.place (En.ak (En.aj kl) gv) x]?=some x):=by
     intro j hj
     obtain⟨h1,_,h3⟩:=gJ.1 hj
     have h4:=kL h1
     rw[h3]at h4
     exact⟨h1,h3,tZ h4 (oH CB),Gr.out _ CB j hj⟩
    have FU:(gQ[k]).2≤3:=by
     have:∀q,q∈gQ→q.2≤3:=by unfold gQ;decide
     exact this _ CB
    generalize (gQ[k]).1=pn at*
    generalize (gQ[k]).2=pp at*
    generalize uK:((gQ.drop (k+1)).flatMap fun p=>Ex.facts kl gv p.1)=rest at*
    have YD:Hid (((gQ.drop (k+1)).flatMap fun p=>Ex.facts kl gv p.1)=rest):=uK
    have hfe:Ex.facts kl gv pn=Rc.aQ (cW (En.ak (En.aj kl) gv) pn).length++(cW (En.ak (En.aj kl) gv) pn).flatMap (Ex.fact kl gv):=rfl
    have E5:=wW (En.ak (En.aj kl) gv) pn
    rw[hfe,List.append_assoc]at U7
    rw[hfe]at Zd
    generalize cW (En.ak (En.aj kl) gv) pn=js at*
    generalize qe (En.ak (En.aj kl) gv) (gQ.take k)=S0 at*
    obtain⟨tg,hP,nS⟩:=U7.toP (oH CB)
    obtain⟨wP,Ho⟩:∃wP,wP=wA.alloc (.cells #[.string pn,.int .i64 (pp:Nat)] 112):=⟨_,rfl⟩
    have Hz:Below wA.heap.size wA wP:=by rw[Ho];exact(Below.refl _ _).alloc (Nat.le_refl _) _
    have LB:wP.heap[wA.heap.size]?=some (.cells #[.string pn,.int .i64 (pp:Nat)] 112 (0,0)):=by rw[Ho];exact heap_alloc_new wA _
    have p0:wP.cell? ⟨wA.heap.size,0,none⟩=some (.string pn):=by rw[cell_of_row _ _ _ _ _ _ LB];rfl
    have l1:=nS wP Hz
    have hPP:=hP.below Hz
    have LK:=eJ wP rb _ false 200 hPP.rd (by simp only[List.length_append]at Zd ⊢;omega)
    rw[Rd.eM (n:=js.length) (by omega) (by omega)]at LK
    have HTP:Hid (kp zJ w2 wP):=YC.trans (kp.bF Hz _)
    have Br:Hid (Calls Tryz.prog 139 #[.pointer (some ⟨rb,0,none⟩),.int .i64 200] wP fun e w3=>e=.returned (.int .i64 js.length)∧Hid (tX wS w3 rb gm ((js.drop 0).flatMap (Ex.fact kl gv)++rest) (jM gv (S0++js.take 0)) pn pp tg∧kp zJ w2 w3∧w3.heap[wA.heap.size]?=some (.cells #[.string pn,.int .i64 (pp:Nat)] 112 (0,0)))):=by
     refine LK.mono ?_
     rintro e w3 ⟨rfl,q1,q2⟩
     obtain⟨r1,r2⟩:=hPP.read q2 q1
     refine⟨rfl, ?_,HTP.out.trans r2,r2.heap LB (by decide)⟩
     simpa using r1
    have ahm:tg<wP.heap.size:=by
     obtain⟨N',k1,_,_,t,ht,_,e,_⟩:=hPP.ph
     rw[←e]
     exact lt_of_heap (cp.cT (k1.b8 t ht))
    clear U7 YC bH hP nS LK hPP uK Hz LB hfe
    go_upto_region 6 with fail
    rw[←Ho]
    clear Ho
    go_wp2_with (go_at_call 139;refine Br.out.mono ?_;rintro e w3 ⟨rfl,H3⟩)
    clear Br l1 p0 c0 c1
    go_loopw [30] (fun i w4=>∃(q:Nat),q≤js.length∧i=.int .i64 q∧tX wS w4 rb gm ((js.drop q).flatMap (Ex.fact kl gv)++rest) (jM gv (S0++js.take q)) pn pp tg∧kp zJ w2 w4∧w4.heap[wA.heap.size]?=some (.cells #[.string pn,.int .i64 (pp:Nat)] 112 (0,0))) (fun i _=>js.length-(intOf i).toNat)
    case atStart=>exact⟨0,Nat.zero_le _,rfl,H3.out⟩
    case round=>
     obtain⟨q,hq,rfl,Rh,hT4,Wc⟩:=hrel
     clear H3
     by_cases rJ:q<js.length
     · have Um:=HPP.out _ (List.getElem_mem rJ)
       have hdj:js.drop q=js[q]::js.drop (q+1):=List.drop_eq_getElem_cons rJ
       rw[hdj,List.flatMap_cons,List.append_assoc]at Rh
       have xt:((js.drop (q+1)).flatMap (Ex.fact kl gv)++rest).length≤20000000:=by
        have h9:=jX (Ex.fact kl gv) 100 (js.drop (q+1)) (fun x _=>vS kl gv x)
        rw[List.length_append]
        rw[List.length_drop]at h9
        omega
       have fS:Hid (jM gv (S0++js.take (q+1))=if gv js[q]=true then gp (jM gv (S0++js.take q)) js[q] true else jM gv (S0++js.take q)):=by
        have e0:js.take (q+1)=js.take q++[js[q]]:=by rw[List.take_add_one,List.getElem?_eq_getElem rJ];rfl
        have e1:jM gv (S0++js.take (q+1))=if gv js[q]=true then gp (jM gv (S0++js.take q)) js[q] true else jM gv (S0++js.take q):=by rw[e0,←List.append_assoc,Lj]
        exact e1
       have OA:Ex.fact kl gv js[q]=Rc.aQ (if gv js[q]=true then 1 else 0)++(Rc.aQ (Gc kl gv js[q])++(be js[q]).2.flatMap fun x=>Rc.aQ (Ex.place (En.ak (En.aj kl) gv) x)):=by unfold Ex.fact;rw[List.append_assoc]
       have Sl:=vS kl gv js[q]
       have EC:=G9 kl gv js[q]
       rw[OA]at Sl
       rw[OA,List.append_assoc,List.append_assoc]at Rh
       generalize Sw:((js.drop (q+1)).flatMap (Ex.fact kl gv)++rest)=tail at*
       have Sv:Hid (((js.drop (q+1)).flatMap (Ex.fact kl gv)++rest)=tail):=Sw
       clear Sw
       have vC:=Rd.wK N (Ex.place (En.ak (En.aj kl) gv)) (be js[q]).2.length (be js[q]).2 tail Um.2.2.2 (by omega) (Nat.le_refl _)
       rw[List.take_length,List.drop_length,List.flatMap_nil,List.nil_append]at vC
       obtain⟨yP,PM,RZ,_⟩:=Um
       generalize hgs:jM gv (S0++js.take q)=G0 at*
       have Wn:=oO (be js[q]).2
       generalize hlF:((be js[q]).2.flatMap fun x=>Rc.aQ (Ex.place (En.ak (En.aj kl) gv) x))++tail=lF at*
       have ai5:lF.length≤30000000:=by
        rw[←hlF]
        simp only[List.length_append]at Sl ⊢
        omega
       clear hlF OA hgs hdj
       obtain⟨fn,Cv⟩:∃fn:Nat,fn=if gv js[q]=true then 1 else 0:=⟨_,rfl⟩
       rw[←Cv]at Rh
       have acL:fn≤1:=by rw[Cv];split<;>omega
       have Wo:(((fn:Nat):Int)==1)=gv js[q]:=by
        rw[Cv]
        cases gv js[q]<;>rfl
       clear Cv
       have yw:=eJ wr rb _ false 1 Rh.rd (by rw[List.length_append,List.length_append];have:=iD (n:=fn) (by omega);have:=iD EC;omega)
       rw[Rd.eM (n:=fn) (by omega) (by omega)]at yw
       have HN1:Hid (Calls Tryz.prog 139 #[.pointer (some ⟨rb,0,none⟩),.int .i64 1] wr fun e w5=>e=.returned (.int .i64 (fn:Nat))∧Hid (tX wS w5 rb gm (Rc.aQ (Gc kl gv js[q])++lF) G0 pn pp tg∧kp zJ w2 w5∧w5.heap[wA.heap.size]?=some (.cells #[.string pn,.int .i64 (pp:Nat)] 112 (0,0)))):=by
        refine yw.mono ?_
        rintro e w5 ⟨rfl,q1,q2⟩
        obtain⟨r1,r2⟩:=Rh.read q2 q1
        exact⟨rfl,r1,hT4.trans r2,r2.heap Wc (by decide)⟩
       have ZH:Hid (∀w5,tX wS w5 rb gm (Rc.aQ (Gc kl gv js[q])++lF) G0 pn pp tg→kp zJ w2 w5→w5.heap[wA.heap.size]?=some (.cells #[.string pn,.int .i64 (pp:Nat)] 112 (0,0))→Calls Tryz.prog 139 #[.pointer (some ⟨rb,0,none⟩),.int .i64 320000] w5 fun e w6=>e=.returned (.int .i64 (Gc kl gv js[q]:Nat))∧Hid (tX wS w6 rb gm lF G0 pn pp tg∧kp zJ w2 w6∧w6.heap[wA.heap.size]?=some (.cells #[.string pn,.int .i64 (pp:Nat)] 112 (0,0)))):=by
        intro w5 h5 t5 b5
        have BI:=eJ w5 rb _ false 320000 h5.rd (by rw[List.length_append];have:=iD EC;omega)
        rw[Rd.eM (n:=Gc kl gv js[q]) (by omega) (by omega)]at BI
        refine BI.mono ?_
        rintro e w6 ⟨rfl,q1,q2⟩
        obtain⟨r1,r2⟩:=h5.read q2 q1
        exact⟨rfl,r1,t5.trans r2,r2.heap b5 (by decide)⟩
       have HRF:Hid (∀w6 N',kp zJ w2 w6→∀b W,RI wS w6 W rb gm wA.heap.size pp pn lF N' b→Calls Tryz.prog 141 #[.pointer (some ⟨rb,0,none⟩),.slice (some ⟨gn,0,none⟩) N.length N.length,.int .i64 (pp:Nat)] W fun e w'=>∃g,e=.returned (.slice (some ⟨g,0,none⟩) pp pp)∧RJ wS w6 w' rb gm wA.heap.size pp pn tail N' (be js[q]).2 g b):=by
        intro w6 N' t6 b W hW
        have X9:=BR W rb lF false hW.rd (by omega) (some ⟨gn,0,none⟩) N.length N.length N ((t6.trans hW.tk).row HN2.out.1 (by decide)) (by omega) pp (by omega)
        rw[←RZ,vC]at X9
        rw[←RZ]
        refine X9.mono ?_
        rintro e w' ⟨g,rfl,q1,q2,q3⟩
        rw[RZ]at q1 ⊢
        exact⟨g,rfl,hW.read vX q3 q2,aG q1 (Nat.zero_le _)⟩
       have LA:Hid (∀w6 N',(∀W,lJ W gm N'→bC W rb tail false→Below wS.heap.size wS W→tX wS W rb gm tail G0 pn pp tg)→∀b W g,RJ wS w6 W rb gm wA.heap.size pp pn tail N' (be js[q]).2 g b→Calls Tryz.prog 74 #[.pointer (some ⟨tg,0,none⟩),.slice (some ⟨g,0,none⟩) pp pp] W fun e w'=>e=.returned (.tuple #[.agg #[.string (Tb.eh (be js[q]).2 0),.string (Tb.eh (be js[q]).2 1),.string (Tb.eh (be js[q]).2 2)],.bool true])∧RI wS w6 w' rb gm wA.heap.size pp pn tail N' b):=by
        intro w6 N' Ut b W g hW
        have yS:=hW.av
        have hP9:=Ut W hW.ri.Sk hW.ri.rd hW.ri.aZ
        have h9:=hP9.row HU.out (Below.refl _ _) yP PM (av:=.slice (some ⟨g,0,none⟩) pp pp) (by rw[←RZ]at yS ⊢;exact yS)
        rw[Wn]at h9
        refine h9.mono ?_
        rintro e w' ⟨rfl,hb⟩
        exact⟨rfl,hW.ri.below hb⟩
       have PV:Hid (∀w7,tX wS w7 rb gm tail G0 pn pp tg→Calls Tryz.prog 127 #[.pointer (some ⟨tg,0,none⟩),.agg #[.string (Tb.eh (be js[q]).2 0),.string (Tb.eh (be js[q]).2 1),.string (Tb.eh (be js[q]).2 2)]] w7 fun e w'=>e=.returned (.tuple #[])∧Hid (tX wS w' rb gm tail (gp G0 js[q] true) pn pp tg∧kp zJ w7 w')):=by
        intro w7 h7
        have h9:=h7.cm (Below.refl _ _) yP PM
        rw[Wn]at h9
        exact h9.mono (fun e w' ⟨a,b⟩=>⟨a,b⟩)
       generalize Tb.eh (be js[q]).2 0=x0 at*
       generalize Tb.eh (be js[q]).2 1=x1 at*
       generalize Tb.eh (be js[q]).2 2=x2 at*
       generalize Gc kl gv js[q]=cj at*
       generalize gv js[q]=gj at*
       clear yw Rh hT4 Wc vC Wn
       go_upto_region 11 with(go_at_call 139;first | (refine HN1.out.mono ?_;rintro e w5 ⟨rfl,H5⟩;clear HN1) | (refine(ZH.out w5 H5.out.1 H5.out.2.1 H5.out.2.2).mono ?_;rintro e w6 ⟨rfl,H6⟩))
       obtain⟨N',g1,g2,g3,g4⟩:=H6.out.1.ph
       have Kf:Hid (∀W,lJ W gm N'→bC W rb tail false→Below wS.heap.size wS W→tX wS W rb gm tail G0 pn pp tg):=fun W a b c=>⟨b,vX,c,N',a,g2,g3,g4⟩
       have hI0:RI wS w6 w6 rb gm wA.heap.size pp pn lF N' none:=⟨H6.out.1.rd,H6.out.1.aZ,g1,kp.bF (Below.refl _ _) _,H6.out.2.2,fun x hx=>by cases hx⟩
       have HT6:Hid (kp zJ w2 w6):=H6.out.2.1
       have akQ:tg<w6.heap.size:=by
        obtain⟨t,ht,_,e,_⟩:=g4
        rw[←e]
        exact lt_of_heap (cp.cT (g1.b8 t ht))
       have UI:Hid (∀b W,RI wS w6 W rb gm wA.heap.size pp pn lF N' b→Calls Tryz.prog 141 #[.pointer (some ⟨rb,0,none⟩),.slice (some ⟨gn,0,none⟩) N.length N.length,.int .i64 (pp:Nat)] W fun e w'=>∃g,e=.returned (.slice (some ⟨g,0,none⟩) pp pp)∧RJ wS w6 w' rb gm wA.heap.size pp pn tail N' (be js[q]).2 g b):=HRF.out w6 N' HT6.out
       have Vr:Hid (∀b W g,RJ wS w6 W rb gm wA.heap.size pp pn tail N' (be js[q]).2 g b→Calls Tryz.prog 74 #[.pointer (some ⟨tg,0,none⟩),.slice (some ⟨g,0,none⟩) pp pp] W fun e w'=>e=.returned (.tuple #[.agg #[.string x0,.string x1,.string x2],.bool true])∧RI wS w6 w' rb gm wA.heap.size pp pn tail N' b):=LA.out w6 N' Kf.out
       generalize (be js[q]).2=dl at UI Vr
       clear H5 ZH HRF LA g1 g2 g3 g4 H6
       go_cut [12,13,30]from 30 to 55 (fun v12 sJ iv wx=>iv=.int .i64 q∧Hid (Ve wS w6 rb gm wA.heap.size pp pn tail N' x0 x1 x2 v12 sJ wx))
       case first=>
        have hpc:=hI0.pc
        go_region_held3 (fun W=>W.cell? ⟨wA.heap.size,1,none⟩=some (.int .i64 (pp:Nat))) (first | (exact RI.pc (by assumption)) | (exact RI.pc (RI.drew (by assumption))) | (exact RI.pc (RI.alloc (by assumption))) | (exact RI.pc (RI.alloc (RI.drew (by assumption)))) | (exact RI.pc (RJ.ri (by assumption))) | (exact RI.pc (RI.alloc (RJ.ri (by assumption)))) | (exact RI.pc (by obtain⟨_,_,_,_,vk⟩:=RI.Sc (by assumption) x0 x1 x2;exact vk)) | (exact RI.pc (by obtain⟨_,_,_,_,vk⟩:=RI.S8 (by assumption) x0 x1 x2;exact vk))) (first | (go_at_call 141;refine(UI.out _ _ (by first | assumption | exact RI.drew (by assumption) | exact RI.alloc (by assumption) | exact RI.alloc (RI.drew (by assumption)))).mono ?_;rintro e wn ⟨gl,rfl,hJn⟩) | (go_at_call 74;refine(Vr.out _ _ _ (by first | assumption | exact RJ.alloc (by assumption))).mono ?_;rintro e wm ⟨rfl,hIm⟩;(try (obtain⟨z0,z1,z2,f0,f1,f2,zl⟩:=RI.cells hIm;(try simp only[World.size_drew]at z0 z1 z2 f0 f1 f2 zl)))))
        all_goals
         (go_wp2_with fail
          go_meet
          first
          | exact⟨rfl,RI.Sc (by assumption) _ _ _⟩
          | exact⟨rfl,RI.S8 (by assumption) _ _ _⟩)
       case rest=>
        obtain⟨hiv,H7⟩:=ko
        subst hiv
        obtain⟨abe,xb,adB,bQ,VX⟩:=H7.out
        subst abe
        subst adB
        have ZZ:tX wS wc rb gm tail G0 pn pp tg:=Kf.out wc VX.Sk VX.rd VX.aZ
        have Uz:kp zJ w2 wc:=HT6.out.trans VX.tk
        have hB7:=VX.Lw
        have r0:wc.cell? ⟨xb,0,none⟩=some (.string x0):=by rw[cell_of_row _ _ _ _ _ _ bQ];rfl
        have r1:wc.cell? ⟨xb,1,none⟩=some (.string x1):=by rw[cell_of_row _ _ _ _ _ _ bQ];rfl
        have r2:wc.cell? ⟨xb,2,none⟩=some (.string x2):=by rw[cell_of_row _ _ _ _ _ _ bQ];rfl
        have nT:=lt_of_heap bQ
        have HP7:Hid (tX wS wc rb gm tail G0 pn pp tg∧kp zJ w2 wc∧wc.heap[wA.heap.size]?=some (.cells #[.string pn,.int .i64 (pp:Nat)] 112 (0,0))):=⟨ZZ,Uz,hB7⟩
        clear H7 VX bQ UI Vr hI0
        cases gj with
        | true=>
         have Wk:Hid (Calls Tryz.prog 127 #[.pointer (some ⟨tg,0,none⟩),.agg #[.string x0,.string x1,.string x2]] wc fun e w'=>e=.returned (.tuple #[])∧Hid (tX wS w' rb gm ((js.drop (q+1)).flatMap (Ex.fact kl gv)++rest) (jM gv (S0++js.take (q+1))) pn pp tg∧kp zJ w2 w'∧w'.heap[wA.heap.size]?=some (.cells #[.string pn,.int .i64 (pp:Nat)] 112 (0,0)))):=by
          refine(PV.out wc ZZ).mono ?_
          rintro e w' ⟨rfl,H9⟩
          rw[Sv.out,fS.out,if_pos rfl]
          exact⟨rfl,H9.out.1,Uz.trans H9.out.2,H9.out.2.heap hB7 (by decide)⟩
         clear ZZ Uz hB7 HP7 PV fS
         go_wp2_with (go_at_call 127;refine Wk.out.mono ?_;rintro e w9 ⟨rfl,H9⟩)
         go_roundw
         case rel=>exact⟨q+1,rJ,by go_num,H9.out⟩
         case measure=>simp[intOf];omega
        | false=>
         have Wk:Hid (tX wS wc rb gm ((js.drop (q+1)).flatMap (Ex.fact kl gv)++rest) (jM gv (S0++js.take (q+1))) pn pp tg∧kp zJ w2 wc∧wc.heap[wA.heap.size]?=some (.cells #[.string pn,.int .i64 (pp:Nat)] 112 (0,0))):=by
          rw[Sv.out,fS.out,if_neg (by decide)]
          exact HP7.out
         clear ZZ Uz hB7 HP7 PV fS r0 r1 r2
         go_wp2_with fail
         go_roundw
         case rel=>exact⟨q+1,rJ,by go_num,Wk.out⟩
         case measure=>simp[intOf];omega
     · have HE:Hid (VE wS wr rb gm ((gQ.drop (k+1)).flatMap fun p=>Ex.facts kl gv p.1) (jM gv (qe (En.ak (En.aj kl) gv) (gQ.take (k+1))))∧kp zJ w2 wr):=by
        have e0:js.take q=js:=List.take_of_length_le (by omega)
        have e1:js.drop q=[]:=List.drop_eq_nil_of_le (by omega)
        rw[e0,e1]at Rh
        rw[YD.out,IB.out]
        exact⟨by simpa using Rh.toW,hT4⟩
       clear Rh hT4 Wc
       go_wp2_with fail
       go_roundw
       case rel=>exact⟨k+1,by omega,by go_num,HE.out⟩
       case measure=>simp[intOf];omega
  · have vA:k=3:=by omega
    subst vA
    have HE:Hid (bC wA rb [] false∧uW wS wA gm gv∧kp zJ w wA):=by
     have h1:=U7.ch
     have e:gQ.take 3=gQ:=rfl
     rw[e,HGO.out]at h1
     exact⟨U7.rd,h1,HTW.out.trans YC⟩
    have OA:Hid (Calls Tryz.prog 142 #[.pointer (some ⟨rb,0,none⟩)] wA fun e w'=>e=.returned (.bool false)∧w'=wA):=fJ wA rb [] false HE.out.1
    clear U7 YC
    go_wp2_with (go_at_call 142;refine OA.out.mono ?_;rintro e w9 ⟨rfl,hw⟩;subst hw)
    go_ret2
    exact⟨gm,rfl,HE.out.2⟩
end
end Go.Proofs.YtdmicblafmhflaaGreatDoor
