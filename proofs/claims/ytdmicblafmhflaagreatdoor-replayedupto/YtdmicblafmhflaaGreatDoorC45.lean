/- state.readGiven, walked. -/
import Derived.Test.YtdmicblafmhflaaGreatDoorC44
set_option linter.unusedSimpArgs false
set_option linter.unusedVariables false
set_option maxHeartbeats 4000000
set_option maxRecDepth 100000
namespace Go.Proofs.YtdmicblafmhflaaGreatDoor
section
open Go.RowKit Go.Maps
theorem TU(p:Pd.Pr):p∈gQ↔p∈jL:=by
 refine⟨oh,fun h=> ?_⟩
 unfold jL at h
 unfold gQ
 simp only[List.mem_cons,List.not_mem_nil,or_false]at h ⊢
 rcases h with h | h | h<;>simp[h]
theorem UM:Pd.vF gQ:=by unfold Pd.vF gQ;decide+kernel
abbrev zY:List TypeId:=[251,125,119]
structure RI(wS wA W:World)(rb gm pb pp:Nat)(pn:ByteArray)(l:List UInt8)(N:List GT)(b:Option Nat):Prop where
 rd:bC W rb l false
 aZ:Below wS.heap.size wS W
 Sq:lB W gm N
 tk:kT zY wA W
 Jn:W.heap[pb]?=some (.cells #[.string pn,.int .i64 (pp:Nat)] 112 (0,0))
 cU:∀x,b=some x→W.heap[x]?=some (.cells #[.string ⟨#[]⟩,.string ⟨#[]⟩,.string ⟨#[]⟩] 119 (0,0))∧wS.heap.size≤x∧¬x∈eV gm N
theorem RI.pc{wS wA W:World}{rb gm pb pp:Nat}{pn:ByteArray}{l:List UInt8}{N:List GT}{b:Option Nat}(h:RI wS wA W rb gm pb pp pn l N b):W.cell? ⟨pb,1,none⟩=some (.int .i64 (pp:Nat)):=by rw[cell_of_row _ _ _ _ _ _ h.Jn];rfl
theorem RI.below{wS wA W w':World}{rb gm pb pp:Nat}{pn:ByteArray}{l:List UInt8}{N:List GT}{b:Option Nat}(h:RI wS wA W rb gm pb pp pn l N b)(hb:Below W.heap.size W w'):RI wS wA w' rb gm pb pp pn l N b:=by
 refine⟨?_,h.aZ.trans (hb.mono h.aZ.size),h.Sq.below hb,h.tk.trans (kT.bF hb _),by rw[hb.block _ (lt_of_heap h.Jn)];exact h.Jn,fun x hx=> ?_⟩
 · have:=h.rd
   unfold bC at this ⊢
   rw[hb.block _ (lt_of_heap this)]
   exact this
 · obtain⟨h1,h2,h3⟩:=h.cU x hx
   exact⟨by rw[hb.block _ (lt_of_heap h1)];exact h1,h2,h3⟩
theorem RI.drew{wS wA W:World}{rb gm pb pp:Nat}{pn:ByteArray}{l:List UInt8}{N:List GT}{b:Option Nat}(h:RI wS wA W rb gm pb pp pn l N b):RI wS wA W.drew rb gm pb pp pn l N b:=h.below (Below.refl _ _).drew
theorem RI.read{wS wA W w':World}{rb gm pb pp:Nat}{pn:ByteArray}{l l':List UInt8}{N:List GT}{b:Option Nat}(h:RI wS wA W rb gm pb pp pn l N b)(yh:wS.heap.size≤rb)(hk:Kb [rb] W w')(hr:bC w' rb l' false):RI wS wA w' rb gm pb pp pn l' N b:=by
 have qV:=h.rd
 unfold bC at qV
 refine⟨hr,hk.aK h.aZ h.aZ.size (by simpa using yh),h.Sq.kept hk (h.Sq.kU qV (by decide) (by decide)),h.tk.trans (kT.pU hk qV (by simp)),hk.heap h.Jn (by simpa using fg h.Jn qV (by decide)),fun x hx=> ?_⟩
 obtain⟨h1,h2,h3⟩:=h.cU x hx
 exact⟨hk.heap h1 (by simpa using fg h1 qV (by decide)),h2,h3⟩
theorem RI.alloc{wS wA W:World}{rb gm pb pp:Nat}{pn:ByteArray}{l:List UInt8}{N:List GT}(h:RI wS wA W rb gm pb pp pn l N none):RI wS wA (W.alloc (.cells #[.string ⟨#[]⟩,.string ⟨#[]⟩,.string ⟨#[]⟩] 119)) rb gm pb pp pn l N (some W.heap.size):=by
 have h2:=h.below (w':=W.alloc (.cells #[.string ⟨#[]⟩,.string ⟨#[]⟩,.string ⟨#[]⟩] 119)) ((Below.refl _ _).alloc (Nat.le_refl _) _)
 refine⟨h2.rd,h2.aZ,h2.Sq,h2.tk,h2.Jn,fun x hx=> ?_⟩
 simp only[Option.some.injEq]at hx
 subst hx
 refine⟨heap_alloc_new _ _,h.aZ.size,fun hm=> ?_⟩
 have h3:=h.Sq.lt hm
 omega
theorem RI.cells{wS wA W:World}{rb gm pb pp:Nat}{pn:ByteArray}{l:List UInt8}{N:List GT}{x:Nat}(h:RI wS wA W rb gm pb pp pn l N (some x)):W.cell? ⟨x,0,none⟩=some (.string ⟨#[]⟩)∧W.cell? ⟨x,1,none⟩=some (.string ⟨#[]⟩)∧W.cell? ⟨x,2,none⟩=some (.string ⟨#[]⟩)∧W.frozen? ⟨x,0,none⟩=false∧W.frozen? ⟨x,1,none⟩=false∧W.frozen? ⟨x,2,none⟩=false∧x<W.heap.size:=by
 obtain⟨h2,_,_⟩:=h.cU x rfl
 exact⟨by rw[cell_of_row _ _ _ _ _ _ h2];rfl,by rw[cell_of_row _ _ _ _ _ _ h2];rfl,by rw[cell_of_row _ _ _ _ _ _ h2];rfl,by simp[World.frozen?,h2],by simp[World.frozen?,h2],by simp[World.frozen?,h2],lt_of_heap h2⟩
structure RJ(wS wA W:World)(rb gm pb pp:Nat)(pn:ByteArray)(l:List UInt8)(N:List GT)(D:List ByteArray)(g:Nat)(b:Option Nat):Prop where
 ri:RI wS wA W rb gm pb pp pn l N b
 av:W.ownsRow 0 9 1 (.slice (some ⟨g,0,none⟩) pp pp) pp (strCells D)
theorem RJ.alloc{wS wA W:World}{rb gm pb pp:Nat}{pn:ByteArray}{l:List UInt8}{N:List GT}{D:List ByteArray}{g:Nat}(h:RJ wS wA W rb gm pb pp pn l N D g none):RJ wS wA (W.alloc (.cells #[.string ⟨#[]⟩,.string ⟨#[]⟩,.string ⟨#[]⟩] 119)) rb gm pb pp pn l N D g (some W.heap.size):=⟨h.ri.alloc,h.av.alloc _⟩
structure T4(wS wA:World)(rb gm pb pp:Nat)(pn:ByteArray)(l:List UInt8)(N:List GT)(x0 x1 x2:ByteArray)(v12 sI:Value)(wx:World):Prop where
 sI:sI=.bool true
 out:∃xb,v12=.pointer (some ⟨xb,0,none⟩)∧wx.heap[xb]?=some (.cells #[.string x0,.string x1,.string x2] 119 (0,0))∧RI wS wA wx rb gm pb pp pn l N none
theorem RI.Sv{wS wA W:World}{rb gm pb pp:Nat}{pn:ByteArray}{l:List UInt8}{N:List GT}{x:Nat}(h:RI wS wA W rb gm pb pp pn l N (some x))(x0 x1 x2:ByteArray):T4 wS wA rb gm pb pp pn l N x0 x1 x2 (.pointer (some ⟨x,0,none⟩)) (.bool true) (((W.setCell ⟨x,0,none⟩ (.string x0)).setCell ⟨x,1,none⟩ (.string x1)).setCell ⟨x,2,none⟩ (.string x2)):=by
 obtain⟨h1,h2,h3⟩:=h.cU x rfl
 have hk:Kb [x] W (((W.setCell ⟨x,0,none⟩ (.string x0)).setCell ⟨x,1,none⟩ (.string x1)).setCell ⟨x,2,none⟩ (.string x2)):=((Kb.setCell W ⟨x,0,none⟩ _).trans (Kb.setCell _ ⟨x,1,none⟩ _)).trans (Kb.setCell _ ⟨x,2,none⟩ _)
 have qV:=h.rd
 unfold bC at qV
 refine⟨rfl,x,rfl,Cl h1 _ _ _, ?_,hk.aK h.aZ h.aZ.size (by simpa using h2),h.Sq.kept hk (fun b hb hm=> ?_),h.tk.trans (kT.pU hk h1 (by simp)),hk.heap h.Jn (by simpa using fg h.Jn h1 (by decide)),fun x hx=>by cases hx⟩
 · exact hk.heap qV (by simpa using fg qV h1 (by decide))
 · simp at hm
   subst hm
   exact h3 hb
theorem RI.Sb{wS wA W:World}{rb gm pb pp:Nat}{pn:ByteArray}{l:List UInt8}{N:List GT}(h:RI wS wA W rb gm pb pp pn l N none)(x0 x1 x2:ByteArray):T4 wS wA rb gm pb pp pn l N x0 x1 x2 (.pointer (some ⟨W.heap.size,0,none⟩)) (.bool true) (W.alloc (.cells #[.string x0,.string x1,.string x2] 119)):=by
 have h2:=h.below (w':=W.alloc (.cells #[.string x0,.string x1,.string x2] 119)) ((Below.refl _ _).alloc (Nat.le_refl _) _)
 exact⟨rfl,W.heap.size,rfl,heap_alloc_new _ _,h2⟩
theorem zi(wS w:World)(rb:Nat)(kl:List Ax.ay)(gv:Nat→Bool)(hg:ji gv)(hb:Below wS.heap.size wS w)(yh:wS.heap.size≤rb)(hr:bC w rb (Rc.aQ (Ex.jC (En.ak (En.aj kl) gv)).length++((Ex.jC (En.ak (En.aj kl) gv)).flatMap Rc.aC++gQ.flatMap fun p=>Ex.facts kl gv p.1)) false)(hU:eW wS)(qd:Option Addr)(qc:Nat)(hq:w.ownsRow 0 112 2 (.slice qd 3 qc) 3 (aB gQ)):
 Calls Tryz.prog 82 #[.pointer (some ⟨rb,0,none⟩),.slice qd 3 qc] w fun e w'=>∃gm,e=.returned (.tuple #[.map (some gm),.bool true])∧uA wS w' gm gv∧kT zY w w':=by
 have HU:Hid (eW wS):=hU
 have Gn:Hid (∀p,p∈gQ→∀j,j∈cW (En.ak (En.aj kl) gv) p.1→∀x,x∈(be j).2→(Ex.jC (En.ak (En.aj kl) gv))[Ex.place (En.ak (En.aj kl) gv) x]?=some x):=fun p hp j hj x hx=>Ex.Ec _ hp hj hx
 have pT:(Rc.aQ (Ex.jC (En.ak (En.aj kl) gv)).length++((Ex.jC (En.ak (En.aj kl) gv)).flatMap Rc.aC++gQ.flatMap fun p=>Ex.facts kl gv p.1)).length≤10000000:=by
  have h9:=vN kl gv
  unfold Ex.body at h9
  simp only[List.length_append]at h9 ⊢
  omega
 have GY:=Ex.qX (En.ak (En.aj kl) gv)
 have Wb:=Rd.CO (X:=Ex.jC (En.ak (En.aj kl) gv)) (fun x hx=>Nat.lt_of_le_of_lt (wO _ x hx) (by decide)) (by omega) (gQ.flatMap fun p=>Ex.facts kl gv p.1)
 have ga:=p6 w rb _ false hr (by omega)
 rw[Wb]at ga
 simp only at ga
 have HGO:Hid (jJ gv (qq (En.ak (En.aj kl) gv) gQ)=gv):=OQ hg
 have hfl:(gQ.flatMap fun p=>Ex.facts kl gv p.1).length≤10000000:=by
  simp only[List.length_append]at pT
  omega
 generalize hN:Ex.jC (En.ak (En.aj kl) gv)=N at*
 have yM:Hid (Calls Tryz.prog 140 #[.pointer (some ⟨rb,0,none⟩)] w fun e w1=>∃g,e=.returned (.slice (some ⟨g,0,none⟩) N.length N.length)∧Hid (w1.ownsRow 0 9 1 (.slice (some ⟨g,0,none⟩) N.length N.length) N.length (strCells N)∧bC w1 rb (gQ.flatMap fun p=>Ex.facts kl gv p.1) false∧Below wS.heap.size wS w1∧w1.ownsRow 0 112 2 (.slice qd 3 qc) 3 (aB gQ)∧kT zY w w1)):=by
  refine ga.mono ?_
  rintro e w1 ⟨g,rfl,q1,q2,q3⟩
  unfold bC at hr
  exact⟨g,rfl,aG q1 (Nat.zero_le _),q2,q3.aK hb hb.size (by simpa using yh),(kT.pU q3 hr (bad:=[251]) (by simp)).row hq (by simp),kT.pU q3 hr (by simp)⟩
 have VU:Hid (∀w1,Below wS.heap.size wS w1→bC w1 rb (gQ.flatMap fun p=>Ex.facts kl gv p.1) false→w1.ownsRow 0 112 2 (.slice qd 3 qc) 3 (aB gQ)→Calls Tryz.prog 58 #[.slice qd 3 qc] w1 fun e w2=>e=.returned (.map (some w1.heap.size))∧Hid (Vv wS w2 rb w1.heap.size ((gQ.drop 0).flatMap fun p=>Ex.facts kl gv p.1) (jJ gv (qq (En.ak (En.aj kl) gv) (gQ.take 0)))∧Below w1.heap.size w1 w2)):=by
  intro w1 a8 E7 hq1
  refine(lK w1 0 qd qc gQ hq1 (by decide) (fun p hp=>Nat.le_trans (dP _ (oh hp)) (by decide))).mono ?_
  rintro e w2 ⟨T,rfl,hT⟩
  obtain⟨k1,k2⟩:=Ek hT TU UM
  refine⟨rfl,⟨?_,yh,⟨T,k1, ?_, ?_⟩,a8.trans (hT.aZ.mono a8.size)⟩,hT.aZ⟩
  · unfold bC at E7 ⊢
    rw[hT.aZ.block _ (lt_of_heap E7)]
    exact E7
  · have e:jJ gv (qq (En.ak (En.aj kl) gv) (gQ.take 0))=fun _=>false:=by
     funext i
     simp[jJ,qq]
    rw[e]
    exact k2
  · intro b hb
    unfold eV at hb
    rw[List.mem_cons,List.mem_flatMap]at hb
    rcases hb with rfl | ⟨t,ht,hb⟩
    · exact a8.size
    · obtain⟨_,p,g,rfl,aE⟩:=hT.b7 t ht
      unfold GT.bZ xM at hb
      simp[Value.ownBlock]at hb
      have:=a8.size
      omega
 clear ga Wb pT hr hq hb hg hU
 go_enter Tryz.func82,Tryz.ntmps82
 go_wp2_with (first | (go_at_call 140;refine yM.out.mono ?_;rintro e w1 ⟨gn,rfl,H1⟩) | (go_at_call 58;refine(VU.out w1 H1.out.2.2.1 H1.out.2.1 H1.out.2.2.2.1).mono ?_;rintro e w2 ⟨rfl,H2⟩))
 have HN2:Hid (w2.ownsRow 0 9 1 (.slice (some ⟨gn,0,none⟩) N.length N.length) N.length (strCells N)∧w2.ownsRow 0 112 2 (.slice qd 3 qc) 3 (aB gQ)):=⟨ae H1.out.1 H2.out.2,ae H1.out.2.2.2.1 H2.out.2⟩
 have HTW:Hid (kT zY w w2):=H1.out.2.2.2.2.trans (kT.bF H2.out.2 _)
 have Lb:Hid (Vv wS w2 rb w1.heap.size ((gQ.drop 0).flatMap fun p=>Ex.facts kl gv p.1) (jJ gv (qq (En.ak (En.aj kl) gv) (gQ.take 0)))):=H2.out.1
 generalize w1.heap.size=gm at Lb
 clear yM VU H2
 go_loopw [20] (fun i wr=>∃(k:Nat),k≤3∧i=.int .i64 k∧Vv wS wr rb gm ((gQ.drop k).flatMap fun p=>Ex.facts kl gv p.1) (jJ gv (qq (En.ak (En.aj kl) gv) (gQ.take k)))∧kT zY w2 wr) (fun i _=>3-(intOf i).toNat)
 case atStart=>exact⟨0,Nat.zero_le _,rfl,Lb.out,kT.bF (Below.refl _ _) _⟩
 case round=>
  obtain⟨k,hk,rfl,Us,YQ⟩:=hrel
  obtain⟨wA,rfl⟩:∃x,x=wr:=⟨_,rfl⟩
  clear Lb
  by_cases aE:k<3
  · have mL:k<gQ.length:=aE
    obtain⟨g2,rfl,dM,uI,bH⟩:=aD (YQ.row HN2.out.2 (by decide)) (by omega)
    have c0:=bH _ _ (aT gQ k mL).1
    have c1:=bH _ _ (aT gQ k mL).2
    have Cx:((gQ[k]).1,(gQ[k]).2)∈gQ:=List.getElem_mem mL
    have Ke:gQ.drop k=gQ[k]::gQ.drop (k+1):=List.drop_eq_getElem_cons mL
    rw[Ke,List.flatMap_cons]at Us
    have Ip:Hid (qq (En.ak (En.aj kl) gv) (gQ.take (k+1))=qq (En.ak (En.aj kl) gv) (gQ.take k)++cW (En.ak (En.aj kl) gv) (gQ[k]).1):=by
     have e0:gQ.take (k+1)=gQ.take k++[gQ[k]]:=by rw[List.take_add_one,List.getElem?_eq_getElem mL];rfl
     have e1:qq (En.ak (En.aj kl) gv) (gQ.take (k+1))=qq (En.ak (En.aj kl) gv) (gQ.take k)++cW (En.ak (En.aj kl) gv) (gQ[k]).1:=by unfold qq;rw[e0,List.flatMap_append,List.flatMap_singleton]
     exact e1
    have Zl:=qP kl gv (gQ[k]).1
    have akD:((gQ.drop (k+1)).flatMap fun p=>Ex.facts kl gv p.1).length≤10000000:=by
     have h9:=jV (fun p:Pd.Pr=>Ex.facts kl gv p.1) 10000 (gQ.drop (k+1)) (fun p _=>qP kl gv p.1)
     have h8:(gQ.drop (k+1)).length≤3:=by rw[List.length_drop];have:gQ.length=3:=rfl;omega
     omega
    have HPP:Hid (∀j,j∈cW (En.ak (En.aj kl) gv) (gQ[k]).1→j<36∧(be j).1=(gQ[k]).1∧(be j).2.length=(gQ[k]).2∧∀x,x∈(be j).2→N[Ex.place (En.ak (En.aj kl) gv) x]?=some x):=by
     intro j hj
     obtain⟨h1,_,h3⟩:=gE.1 hj
     have h4:=kO h1
     rw[h3]at h4
     exact⟨h1,h3,s7 h4 (oh Cx),Gn.out _ Cx j hj⟩
    have FP:(gQ[k]).2≤3:=by
     have:∀q,q∈gQ→q.2≤3:=by unfold gQ;decide
     exact this _ Cx
    generalize (gQ[k]).1=pn at*
    generalize (gQ[k]).2=pp at*
    generalize um:((gQ.drop (k+1)).flatMap fun p=>Ex.facts kl gv p.1)=rest at*
    have Ye:Hid (((gQ.drop (k+1)).flatMap fun p=>Ex.facts kl gv p.1)=rest):=um
    have hfe:Ex.facts kl gv pn=Rc.aQ (cW (En.ak (En.aj kl) gv) pn).length++(cW (En.ak (En.aj kl) gv) pn).flatMap (Ex.fact kl gv):=rfl
    have EZ:=xL (En.ak (En.aj kl) gv) pn
    rw[hfe,List.append_assoc]at Us
    rw[hfe]at Zl
    generalize cW (En.ak (En.aj kl) gv) pn=js at*
    generalize qq (En.ak (En.aj kl) gv) (gQ.take k)=S0 at*
    obtain⟨tg,hP,nU⟩:=Us.toP (oh Cx)
    obtain⟨wP,Hd⟩:∃wP,wP=wA.alloc (.cells #[.string pn,.int .i64 (pp:Nat)] 112):=⟨_,rfl⟩
    have IX:Below wA.heap.size wA wP:=by rw[Hd];exact(Below.refl _ _).alloc (Nat.le_refl _) _
    have LH:wP.heap[wA.heap.size]?=some (.cells #[.string pn,.int .i64 (pp:Nat)] 112 (0,0)):=by rw[Hd];exact heap_alloc_new wA _
    have p0:wP.cell? ⟨wA.heap.size,0,none⟩=some (.string pn):=by rw[cell_of_row _ _ _ _ _ _ LH];rfl
    have l1:=nU wP IX
    have ZI:=hP.below IX
    have LA:=eT wP rb _ false 200 ZI.rd (by simp only[List.length_append]at Zl ⊢;omega)
    rw[Rd.eO (n:=js.length) (by omega) (by omega)]at LA
    have HTP:Hid (kT zY w2 wP):=YQ.trans (kT.bF IX _)
    have Bs:Hid (Calls Tryz.prog 139 #[.pointer (some ⟨rb,0,none⟩),.int .i64 200] wP fun e w3=>e=.returned (.int .i64 js.length)∧Hid (te wS w3 rb gm ((js.drop 0).flatMap (Ex.fact kl gv)++rest) (jJ gv (S0++js.take 0)) pn pp tg∧kT zY w2 w3∧w3.heap[wA.heap.size]?=some (.cells #[.string pn,.int .i64 (pp:Nat)] 112 (0,0)))):=by
     refine LA.mono ?_
     rintro e w3 ⟨rfl,q1,q2⟩
     obtain⟨r1,r2⟩:=ZI.read q2 q1
     refine⟨rfl, ?_,HTP.out.trans r2,r2.heap LH (by decide)⟩
     simpa using r1
    have aiL:tg<wP.heap.size:=by
     obtain⟨N',k1,_,_,t,ht,_,e,_⟩:=ZI.o7
     rw[←e]
     exact lt_of_heap (cp.cU (k1.b7 t ht))
    clear Us YQ bH hP nU LA ZI um IX LH hfe
    go_upto_region 6 with fail
    rw[←Hd]
    clear Hd
    go_wp2_with (go_at_call 139;refine Bs.out.mono ?_;rintro e w3 ⟨rfl,H3⟩)
    clear Bs l1 p0 c0 c1
    go_loopw [30] (fun i w4=>∃(q:Nat),q≤js.length∧i=.int .i64 q∧te wS w4 rb gm ((js.drop q).flatMap (Ex.fact kl gv)++rest) (jJ gv (S0++js.take q)) pn pp tg∧kT zY w2 w4∧w4.heap[wA.heap.size]?=some (.cells #[.string pn,.int .i64 (pp:Nat)] 112 (0,0))) (fun i _=>js.length-(intOf i).toNat)
    case atStart=>exact⟨0,Nat.zero_le _,rfl,H3.out⟩
    case round=>
     obtain⟨q,hq,rfl,Qb,hT4,Wa⟩:=hrel
     clear H3
     by_cases qS:q<js.length
     · have Ub:=HPP.out _ (List.getElem_mem qS)
       have hdj:js.drop q=js[q]::js.drop (q+1):=List.drop_eq_getElem_cons qS
       rw[hdj,List.flatMap_cons,List.append_assoc]at Qb
       have xB:((js.drop (q+1)).flatMap (Ex.fact kl gv)++rest).length≤20000000:=by
        have h9:=jV (Ex.fact kl gv) 100 (js.drop (q+1)) (fun x _=>vR kl gv x)
        rw[List.length_append]
        rw[List.length_drop]at h9
        omega
       have fR:Hid (jJ gv (S0++js.take (q+1))=if gv js[q]=true then gA (jJ gv (S0++js.take q)) js[q] true else jJ gv (S0++js.take q)):=by
        have e0:js.take (q+1)=js.take q++[js[q]]:=by rw[List.take_add_one,List.getElem?_eq_getElem qS];rfl
        have e1:jJ gv (S0++js.take (q+1))=if gv js[q]=true then gA (jJ gv (S0++js.take q)) js[q] true else jJ gv (S0++js.take q):=by rw[e0,←List.append_assoc,KO]
        exact e1
       have Pg:Ex.fact kl gv js[q]=Rc.aQ (if gv js[q]=true then 1 else 0)++(Rc.aQ (FJ kl gv js[q])++(be js[q]).2.flatMap fun x=>Rc.aQ (Ex.place (En.ak (En.aj kl) gv) x)):=by unfold Ex.fact;rw[List.append_assoc]
       have Sr:=vR kl gv js[q]
       have DB:=Gq kl gv js[q]
       rw[Pg]at Sr
       rw[Pg,List.append_assoc,List.append_assoc]at Qb
       generalize Sw:((js.drop (q+1)).flatMap (Ex.fact kl gv)++rest)=tail at*
       have To:Hid (((js.drop (q+1)).flatMap (Ex.fact kl gv)++rest)=tail):=Sw
       clear Sw
       have vB:=Rd.xR N (Ex.place (En.ak (En.aj kl) gv)) (be js[q]).2.length (be js[q]).2 tail Ub.2.2.2 (by omega) (Nat.le_refl _)
       rw[List.take_length,List.drop_length,List.flatMap_nil,List.nil_append]at vB
       obtain⟨zk,PG,QW,_⟩:=Ub
       generalize hgs:jJ gv (S0++js.take q)=G0 at*
       have Ws:=n9 (be js[q]).2
       generalize hlF:((be js[q]).2.flatMap fun x=>Rc.aQ (Ex.place (En.ak (En.aj kl) gv) x))++tail=lF at*
       have ahh:lF.length≤30000000:=by
        rw[←hlF]
        simp only[List.length_append]at Sr ⊢
        omega
       clear hlF Pg hgs hdj
       obtain⟨fn,CA⟩:∃fn:Nat,fn=if gv js[q]=true then 1 else 0:=⟨_,rfl⟩
       rw[←CA]at Qb
       have acI:fn≤1:=by rw[CA];split<;>omega
       have VX:(((fn:Nat):Int)==1)=gv js[q]:=by
        rw[CA]
        cases gv js[q]<;>rfl
       clear CA
       have xG:=eT wr rb _ false 1 Qb.rd (by rw[List.length_append,List.length_append];have:=iL (n:=fn) (by omega);have:=iL DB;omega)
       rw[Rd.eO (n:=fn) (by omega) (by omega)]at xG
       have HN1:Hid (Calls Tryz.prog 139 #[.pointer (some ⟨rb,0,none⟩),.int .i64 1] wr fun e w5=>e=.returned (.int .i64 (fn:Nat))∧Hid (te wS w5 rb gm (Rc.aQ (FJ kl gv js[q])++lF) G0 pn pp tg∧kT zY w2 w5∧w5.heap[wA.heap.size]?=some (.cells #[.string pn,.int .i64 (pp:Nat)] 112 (0,0)))):=by
        refine xG.mono ?_
        rintro e w5 ⟨rfl,q1,q2⟩
        obtain⟨r1,r2⟩:=Qb.read q2 q1
        exact⟨rfl,r1,hT4.trans r2,r2.heap Wa (by decide)⟩
       have ZN:Hid (∀w5,te wS w5 rb gm (Rc.aQ (FJ kl gv js[q])++lF) G0 pn pp tg→kT zY w2 w5→w5.heap[wA.heap.size]?=some (.cells #[.string pn,.int .i64 (pp:Nat)] 112 (0,0))→Calls Tryz.prog 139 #[.pointer (some ⟨rb,0,none⟩),.int .i64 320000] w5 fun e w6=>e=.returned (.int .i64 (FJ kl gv js[q]:Nat))∧Hid (te wS w6 rb gm lF G0 pn pp tg∧kT zY w2 w6∧w6.heap[wA.heap.size]?=some (.cells #[.string pn,.int .i64 (pp:Nat)] 112 (0,0)))):=by
        intro w5 h5 t5 b5
        have Bt:=eT w5 rb _ false 320000 h5.rd (by rw[List.length_append];have:=iL DB;omega)
        rw[Rd.eO (n:=FJ kl gv js[q]) (by omega) (by omega)]at Bt
        refine Bt.mono ?_
        rintro e w6 ⟨rfl,q1,q2⟩
        obtain⟨r1,r2⟩:=h5.read q2 q1
        exact⟨rfl,r1,t5.trans r2,r2.heap b5 (by decide)⟩
       have HRF:Hid (∀w6 N',kT zY w2 w6→∀b W,RI wS w6 W rb gm wA.heap.size pp pn lF N' b→Calls Tryz.prog 141 #[.pointer (some ⟨rb,0,none⟩),.slice (some ⟨gn,0,none⟩) N.length N.length,.int .i64 (pp:Nat)] W fun e w'=>∃g,e=.returned (.slice (some ⟨g,0,none⟩) pp pp)∧RJ wS w6 w' rb gm wA.heap.size pp pn tail N' (be js[q]).2 g b):=by
        intro w6 N' t6 b W hW
        have Zc:=B8 W rb lF false hW.rd (by omega) (some ⟨gn,0,none⟩) N.length N.length N ((t6.trans hW.tk).row HN2.out.1 (by decide)) (by omega) pp (by omega)
        rw[←QW,vB]at Zc
        rw[←QW]
        refine Zc.mono ?_
        rintro e w' ⟨g,rfl,q1,q2,q3⟩
        rw[QW]at q1 ⊢
        exact⟨g,rfl,hW.read yh q3 q2,aG q1 (Nat.zero_le _)⟩
       have Ly:Hid (∀w6 N',(∀W,lB W gm N'→bC W rb tail false→Below wS.heap.size wS W→te wS W rb gm tail G0 pn pp tg)→∀b W g,RJ wS w6 W rb gm wA.heap.size pp pn tail N' (be js[q]).2 g b→Calls Tryz.prog 74 #[.pointer (some ⟨tg,0,none⟩),.slice (some ⟨g,0,none⟩) pp pp] W fun e w'=>e=.returned (.tuple #[.agg #[.string (Tb.ef (be js[q]).2 0),.string (Tb.ef (be js[q]).2 1),.string (Tb.ef (be js[q]).2 2)],.bool true])∧RI wS w6 w' rb gm wA.heap.size pp pn tail N' b):=by
        intro w6 N' U0 b W g hW
        have zv:=hW.av
        have hP9:=U0 W hW.ri.Sq hW.ri.rd hW.ri.aZ
        have h9:=hP9.row HU.out (Below.refl _ _) zk PG (av:=.slice (some ⟨g,0,none⟩) pp pp) (by rw[←QW]at zv ⊢;exact zv)
        rw[Ws]at h9
        refine h9.mono ?_
        rintro e w' ⟨rfl,hb⟩
        exact⟨rfl,hW.ri.below hb⟩
       have PB:Hid (∀w7,te wS w7 rb gm tail G0 pn pp tg→Calls Tryz.prog 127 #[.pointer (some ⟨tg,0,none⟩),.agg #[.string (Tb.ef (be js[q]).2 0),.string (Tb.ef (be js[q]).2 1),.string (Tb.ef (be js[q]).2 2)]] w7 fun e w'=>e=.returned (.tuple #[])∧Hid (te wS w' rb gm tail (gA G0 js[q] true) pn pp tg∧kT zY w7 w')):=by
        intro w7 h7
        have h9:=h7.cm (Below.refl _ _) zk PG
        rw[Ws]at h9
        exact h9.mono (fun e w' ⟨a,b⟩=>⟨a,b⟩)
       generalize Tb.ef (be js[q]).2 0=x0 at*
       generalize Tb.ef (be js[q]).2 1=x1 at*
       generalize Tb.ef (be js[q]).2 2=x2 at*
       generalize FJ kl gv js[q]=cj at*
       generalize gv js[q]=gj at*
       clear xG Qb hT4 Wa vB Ws
       go_upto_region 11 with(go_at_call 139;first | (refine HN1.out.mono ?_;rintro e w5 ⟨rfl,H5⟩;clear HN1) | (refine(ZN.out w5 H5.out.1 H5.out.2.1 H5.out.2.2).mono ?_;rintro e w6 ⟨rfl,H6⟩))
       obtain⟨N',g1,g2,g3,g4⟩:=H6.out.1.o7
       have Ln:Hid (∀W,lB W gm N'→bC W rb tail false→Below wS.heap.size wS W→te wS W rb gm tail G0 pn pp tg):=fun W a b c=>⟨b,yh,c,N',a,g2,g3,g4⟩
       have hI0:RI wS w6 w6 rb gm wA.heap.size pp pn lF N' none:=⟨H6.out.1.rd,H6.out.1.aZ,g1,kT.bF (Below.refl _ _) _,H6.out.2.2,fun x hx=>by cases hx⟩
       have HT6:Hid (kT zY w2 w6):=H6.out.2.1
       have aiS:tg<w6.heap.size:=by
        obtain⟨t,ht,_,e,_⟩:=g4
        rw[←e]
        exact lt_of_heap (cp.cU (g1.b7 t ht))
       have Ur:Hid (∀b W,RI wS w6 W rb gm wA.heap.size pp pn lF N' b→Calls Tryz.prog 141 #[.pointer (some ⟨rb,0,none⟩),.slice (some ⟨gn,0,none⟩) N.length N.length,.int .i64 (pp:Nat)] W fun e w'=>∃g,e=.returned (.slice (some ⟨g,0,none⟩) pp pp)∧RJ wS w6 w' rb gm wA.heap.size pp pn tail N' (be js[q]).2 g b):=HRF.out w6 N' HT6.out
       have UN:Hid (∀b W g,RJ wS w6 W rb gm wA.heap.size pp pn tail N' (be js[q]).2 g b→Calls Tryz.prog 74 #[.pointer (some ⟨tg,0,none⟩),.slice (some ⟨g,0,none⟩) pp pp] W fun e w'=>e=.returned (.tuple #[.agg #[.string x0,.string x1,.string x2],.bool true])∧RI wS w6 w' rb gm wA.heap.size pp pn tail N' b):=Ly.out w6 N' Ln.out
       generalize (be js[q]).2=dl at Ur UN
       clear H5 ZN HRF Ly g1 g2 g3 g4 H6
       go_cut [12,13,30]from 30 to 55 (fun v12 sI iv wx=>iv=.int .i64 q∧Hid (T4 wS w6 rb gm wA.heap.size pp pn tail N' x0 x1 x2 v12 sI wx))
       case first=>
        have hpc:=hI0.pc
        go_region_held3 (fun W=>W.cell? ⟨wA.heap.size,1,none⟩=some (.int .i64 (pp:Nat))) (first | (exact RI.pc (by assumption)) | (exact RI.pc (RI.drew (by assumption))) | (exact RI.pc (RI.alloc (by assumption))) | (exact RI.pc (RI.alloc (RI.drew (by assumption)))) | (exact RI.pc (RJ.ri (by assumption))) | (exact RI.pc (RI.alloc (RJ.ri (by assumption)))) | (exact RI.pc (by obtain⟨_,_,_,_,vA⟩:=RI.Sv (by assumption) x0 x1 x2;exact vA)) | (exact RI.pc (by obtain⟨_,_,_,_,vA⟩:=RI.Sb (by assumption) x0 x1 x2;exact vA))) (first | (go_at_call 141;refine(Ur.out _ _ (by first | assumption | exact RI.drew (by assumption) | exact RI.alloc (by assumption) | exact RI.alloc (RI.drew (by assumption)))).mono ?_;rintro e wn ⟨gl,rfl,hJn⟩) | (go_at_call 74;refine(UN.out _ _ _ (by first | assumption | exact RJ.alloc (by assumption))).mono ?_;rintro e wm ⟨rfl,hIm⟩;(try (obtain⟨z0,z1,z2,f0,f1,f2,zl⟩:=RI.cells hIm;(try simp only[World.size_drew]at z0 z1 z2 f0 f1 f2 zl)))))
        all_goals
         (go_wp2_with fail
          go_meet
          first
          | exact⟨rfl,RI.Sv (by assumption) _ _ _⟩
          | exact⟨rfl,RI.Sb (by assumption) _ _ _⟩)
       case rest=>
        obtain⟨hiv,H7⟩:=hcut
        subst hiv
        obtain⟨adC,xb,abd,bQ,Wn⟩:=H7.out
        subst adC
        subst abd
        have hP7:te wS wc rb gm tail G0 pn pp tg:=Ln.out wc Wn.Sq Wn.rd Wn.aZ
        have Ua:kT zY w2 wc:=HT6.out.trans Wn.tk
        have Z9:=Wn.Jn
        have r0:wc.cell? ⟨xb,0,none⟩=some (.string x0):=by rw[cell_of_row _ _ _ _ _ _ bQ];rfl
        have r1:wc.cell? ⟨xb,1,none⟩=some (.string x1):=by rw[cell_of_row _ _ _ _ _ _ bQ];rfl
        have r2:wc.cell? ⟨xb,2,none⟩=some (.string x2):=by rw[cell_of_row _ _ _ _ _ _ bQ];rfl
        have nR:=lt_of_heap bQ
        have HP7:Hid (te wS wc rb gm tail G0 pn pp tg∧kT zY w2 wc∧wc.heap[wA.heap.size]?=some (.cells #[.string pn,.int .i64 (pp:Nat)] 112 (0,0))):=⟨hP7,Ua,Z9⟩
        clear H7 Wn bQ Ur UN hI0
        cases gj with
        | true=>
         have V6:Hid (Calls Tryz.prog 127 #[.pointer (some ⟨tg,0,none⟩),.agg #[.string x0,.string x1,.string x2]] wc fun e w'=>e=.returned (.tuple #[])∧Hid (te wS w' rb gm ((js.drop (q+1)).flatMap (Ex.fact kl gv)++rest) (jJ gv (S0++js.take (q+1))) pn pp tg∧kT zY w2 w'∧w'.heap[wA.heap.size]?=some (.cells #[.string pn,.int .i64 (pp:Nat)] 112 (0,0)))):=by
          refine(PB.out wc hP7).mono ?_
          rintro e w' ⟨rfl,H9⟩
          rw[To.out,fR.out,if_pos rfl]
          exact⟨rfl,H9.out.1,Ua.trans H9.out.2,H9.out.2.heap Z9 (by decide)⟩
         clear hP7 Ua Z9 HP7 PB fR
         go_wp2_with (go_at_call 127;refine V6.out.mono ?_;rintro e w9 ⟨rfl,H9⟩)
         go_roundw
         case rel=>exact⟨q+1,qS,by go_num,H9.out⟩
         case measure=>simp[intOf];omega
        | false=>
         have V6:Hid (te wS wc rb gm ((js.drop (q+1)).flatMap (Ex.fact kl gv)++rest) (jJ gv (S0++js.take (q+1))) pn pp tg∧kT zY w2 wc∧wc.heap[wA.heap.size]?=some (.cells #[.string pn,.int .i64 (pp:Nat)] 112 (0,0))):=by
          rw[To.out,fR.out,if_neg (by decide)]
          exact HP7.out
         clear hP7 Ua Z9 HP7 PB fR r0 r1 r2
         go_wp2_with fail
         go_roundw
         case rel=>exact⟨q+1,qS,by go_num,V6.out⟩
         case measure=>simp[intOf];omega
     · have HE:Hid (Vv wS wr rb gm ((gQ.drop (k+1)).flatMap fun p=>Ex.facts kl gv p.1) (jJ gv (qq (En.ak (En.aj kl) gv) (gQ.take (k+1))))∧kT zY w2 wr):=by
        have e0:js.take q=js:=List.take_of_length_le (by omega)
        have e1:js.drop q=[]:=List.drop_eq_nil_of_le (by omega)
        rw[e0,e1]at Qb
        rw[Ye.out,Ip.out]
        exact⟨by simpa using Qb.toW,hT4⟩
       clear Qb hT4 Wa
       go_wp2_with fail
       go_roundw
       case rel=>exact⟨k+1,by omega,by go_num,HE.out⟩
       case measure=>simp[intOf];omega
  · have va:k=3:=by omega
    subst va
    have HE:Hid (bC wA rb [] false∧uA wS wA gm gv∧kT zY w wA):=by
     have h1:=Us.ch
     have e:gQ.take 3=gQ:=rfl
     rw[e,HGO.out]at h1
     exact⟨Us.rd,h1,HTW.out.trans YQ⟩
    have Pg:Hid (Calls Tryz.prog 142 #[.pointer (some ⟨rb,0,none⟩)] wA fun e w'=>e=.returned (.bool false)∧w'=wA):=fH wA rb [] false HE.out.1
    clear Us YQ
    go_wp2_with (go_at_call 142;refine Pg.out.mono ?_;rintro e w9 ⟨rfl,hw⟩;subst hw)
    go_ret2
    exact⟨gm,rfl,HE.out.2⟩
end
end Go.Proofs.YtdmicblafmhflaaGreatDoor
