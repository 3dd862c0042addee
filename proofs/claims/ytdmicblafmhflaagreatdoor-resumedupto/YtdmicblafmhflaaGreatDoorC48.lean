/- state.readGiven, walked. -/
import Derived.Test.YtdmicblafmhflaaGreatDoorC47
set_option linter.unusedSimpArgs false
set_option linter.unusedVariables false
set_option maxHeartbeats 4000000
set_option maxRecDepth 100000
namespace Go.Proofs.YtdmicblafmhflaaGreatDoor
section
open Go.RowKit Go.Maps
theorem T4(p:Pd.Pr):p∈gQ↔p∈jW:=by
 refine⟨oK,fun h=> ?_⟩
 unfold jW at h
 unfold gQ
 simp only[List.mem_cons,List.not_mem_nil,or_false]at h ⊢
 rcases h with h | h | h<;>simp[h]
theorem Uu:Pd.vp gQ:=by unfold Pd.vp gQ;decide+kernel
abbrev AF:List TypeId:=[251,125,119]
structure RI(wS wA W:World)(rb gm pb pp:Nat)(pn:ByteArray)(l:List UInt8)(N:List GT)(b:Option Nat):Prop where
 rd:cN W rb l false
 aQ:Below wS.heap.size wS W
 Sl:kY W gm N
 tk:kW AF wA W
 KV:W.heap[pb]?=some (.cells #[.string pn,.int .i64 (pp:Nat)] 112 (0,0))
 cP:∀x,b=some x→W.heap[x]?=some (.cells #[.string ⟨#[]⟩,.string ⟨#[]⟩,.string ⟨#[]⟩] 119 (0,0))∧wS.heap.size≤x∧¬x∈eO gm N
theorem RI.pc{wS wA W:World}{rb gm pb pp:Nat}{pn:ByteArray}{l:List UInt8}{N:List GT}{b:Option Nat}(h:RI wS wA W rb gm pb pp pn l N b):W.cell? ⟨pb,1,none⟩=some (.int .i64 (pp:Nat)):=by rw[cell_of_row _ _ _ _ _ _ h.KV];rfl
theorem RI.below{wS wA W w':World}{rb gm pb pp:Nat}{pn:ByteArray}{l:List UInt8}{N:List GT}{b:Option Nat}(h:RI wS wA W rb gm pb pp pn l N b)(hb:Below W.heap.size W w'):RI wS wA w' rb gm pb pp pn l N b:=by
 refine⟨?_,h.aQ.trans (hb.mono h.aQ.size),h.Sl.below hb,h.tk.trans (kW.bM hb _),by rw[hb.block _ (lt_of_heap h.KV)];exact h.KV,fun x hx=> ?_⟩
 · have:=h.rd
   unfold cN at this ⊢
   rw[hb.block _ (lt_of_heap this)]
   exact this
 · obtain⟨h1,h2,h3⟩:=h.cP x hx
   exact⟨by rw[hb.block _ (lt_of_heap h1)];exact h1,h2,h3⟩
theorem RI.drew{wS wA W:World}{rb gm pb pp:Nat}{pn:ByteArray}{l:List UInt8}{N:List GT}{b:Option Nat}(h:RI wS wA W rb gm pb pp pn l N b):RI wS wA W.drew rb gm pb pp pn l N b:=h.below (Below.refl _ _).drew
theorem RI.read{wS wA W w':World}{rb gm pb pp:Nat}{pn:ByteArray}{l l':List UInt8}{N:List GT}{b:Option Nat}(h:RI wS wA W rb gm pb pp pn l N b)(AM:wS.heap.size≤rb)(hk:Kb [rb] W w')(hr:cN w' rb l' false):RI wS wA w' rb gm pb pp pn l' N b:=by
 have rZ:=h.rd
 unfold cN at rZ
 refine⟨hr,hk.aU h.aQ h.aQ.size (by simpa using AM),h.Sl.kept hk (h.Sl.kr rZ (by decide) (by decide)),h.tk.trans (kW.rU hk rZ (by simp)),hk.heap h.KV (by simpa using fV h.KV rZ (by decide)),fun x hx=> ?_⟩
 obtain⟨h1,h2,h3⟩:=h.cP x hx
 exact⟨hk.heap h1 (by simpa using fV h1 rZ (by decide)),h2,h3⟩
theorem RI.alloc{wS wA W:World}{rb gm pb pp:Nat}{pn:ByteArray}{l:List UInt8}{N:List GT}(h:RI wS wA W rb gm pb pp pn l N none):RI wS wA (W.alloc (.cells #[.string ⟨#[]⟩,.string ⟨#[]⟩,.string ⟨#[]⟩] 119)) rb gm pb pp pn l N (some W.heap.size):=by
 have h2:=h.below (w':=W.alloc (.cells #[.string ⟨#[]⟩,.string ⟨#[]⟩,.string ⟨#[]⟩] 119)) ((Below.refl _ _).alloc (Nat.le_refl _) _)
 refine⟨h2.rd,h2.aQ,h2.Sl,h2.tk,h2.KV,fun x hx=> ?_⟩
 simp only[Option.some.injEq]at hx
 subst hx
 refine⟨heap_alloc_new _ _,h.aQ.size,fun hm=> ?_⟩
 have h3:=h.Sl.lt hm
 omega
theorem RI.cells{wS wA W:World}{rb gm pb pp:Nat}{pn:ByteArray}{l:List UInt8}{N:List GT}{x:Nat}(h:RI wS wA W rb gm pb pp pn l N (some x)):W.cell? ⟨x,0,none⟩=some (.string ⟨#[]⟩)∧W.cell? ⟨x,1,none⟩=some (.string ⟨#[]⟩)∧W.cell? ⟨x,2,none⟩=some (.string ⟨#[]⟩)∧W.frozen? ⟨x,0,none⟩=false∧W.frozen? ⟨x,1,none⟩=false∧W.frozen? ⟨x,2,none⟩=false∧x<W.heap.size:=by
 obtain⟨h2,_,_⟩:=h.cP x rfl
 exact⟨by rw[cell_of_row _ _ _ _ _ _ h2];rfl,by rw[cell_of_row _ _ _ _ _ _ h2];rfl,by rw[cell_of_row _ _ _ _ _ _ h2];rfl,by simp[World.frozen?,h2],by simp[World.frozen?,h2],by simp[World.frozen?,h2],lt_of_heap h2⟩
structure RJ(wS wA W:World)(rb gm pb pp:Nat)(pn:ByteArray)(l:List UInt8)(N:List GT)(D:List ByteArray)(g:Nat)(b:Option Nat):Prop where
 ri:RI wS wA W rb gm pb pp pn l N b
 av:W.ownsRow 0 9 1 (.slice (some ⟨g,0,none⟩) pp pp) pp (strCells D)
theorem RJ.alloc{wS wA W:World}{rb gm pb pp:Nat}{pn:ByteArray}{l:List UInt8}{N:List GT}{D:List ByteArray}{g:Nat}(h:RJ wS wA W rb gm pb pp pn l N D g none):RJ wS wA (W.alloc (.cells #[.string ⟨#[]⟩,.string ⟨#[]⟩,.string ⟨#[]⟩] 119)) rb gm pb pp pn l N D g (some W.heap.size):=⟨h.ri.alloc,h.av.alloc _⟩
structure T8(wS wA:World)(rb gm pb pp:Nat)(pn:ByteArray)(l:List UInt8)(N:List GT)(x0 x1 x2:ByteArray)(v12 Z0:Value)(wx:World):Prop where
 Z0:Z0=.bool true
 out:∃xb,v12=.pointer (some ⟨xb,0,none⟩)∧wx.heap[xb]?=some (.cells #[.string x0,.string x1,.string x2] 119 (0,0))∧RI wS wA wx rb gm pb pp pn l N none
theorem RI.Ec{wS wA W:World}{rb gm pb pp:Nat}{pn:ByteArray}{l:List UInt8}{N:List GT}{x:Nat}(h:RI wS wA W rb gm pb pp pn l N (some x))(x0 x1 x2:ByteArray):T8 wS wA rb gm pb pp pn l N x0 x1 x2 (.pointer (some ⟨x,0,none⟩)) (.bool true) (((W.setCell ⟨x,0,none⟩ (.string x0)).setCell ⟨x,1,none⟩ (.string x1)).setCell ⟨x,2,none⟩ (.string x2)):=by
 obtain⟨h1,h2,h3⟩:=h.cP x rfl
 have hk:Kb [x] W (((W.setCell ⟨x,0,none⟩ (.string x0)).setCell ⟨x,1,none⟩ (.string x1)).setCell ⟨x,2,none⟩ (.string x2)):=((Kb.setCell W ⟨x,0,none⟩ _).trans (Kb.setCell _ ⟨x,1,none⟩ _)).trans (Kb.setCell _ ⟨x,2,none⟩ _)
 have rZ:=h.rd
 unfold cN at rZ
 refine⟨rfl,x,rfl,re h1 _ _ _, ?_,hk.aU h.aQ h.aQ.size (by simpa using h2),h.Sl.kept hk (fun b hb hm=> ?_),h.tk.trans (kW.rU hk h1 (by simp)),hk.heap h.KV (by simpa using fV h.KV h1 (by decide)),fun x hx=>by cases hx⟩
 · exact hk.heap rZ (by simpa using fV rZ h1 (by decide))
 · simp at hm
   subst hm
   exact h3 hb
theorem RI.C6{wS wA W:World}{rb gm pb pp:Nat}{pn:ByteArray}{l:List UInt8}{N:List GT}(h:RI wS wA W rb gm pb pp pn l N none)(x0 x1 x2:ByteArray):T8 wS wA rb gm pb pp pn l N x0 x1 x2 (.pointer (some ⟨W.heap.size,0,none⟩)) (.bool true) (W.alloc (.cells #[.string x0,.string x1,.string x2] 119)):=by
 have h2:=h.below (w':=W.alloc (.cells #[.string x0,.string x1,.string x2] 119)) ((Below.refl _ _).alloc (Nat.le_refl _) _)
 exact⟨rfl,W.heap.size,rfl,heap_alloc_new _ _,h2⟩
theorem yY(wS w:World)(rb:Nat)(kl:List Ax.aA)(gv:Nat→Bool)(hg:fX gv)(hb:Below wS.heap.size wS w)(AM:wS.heap.size≤rb)(hr:cN w rb (Rc.aZ (Ex.jH (En.al (En.af kl) gv)).length++((Ex.jH (En.al (En.af kl) gv)).flatMap Rc.aS++gQ.flatMap fun p=>Ex.facts kl gv p.1)) false)(hU:eM wS)(qd:Option Addr)(qc:Nat)(hq:w.ownsRow 0 112 2 (.slice qd 3 qc) 3 (aF gQ)):
 Calls Tryz.prog 82 #[.pointer (some ⟨rb,0,none⟩),.slice qd 3 qc] w fun e w'=>∃gm,e=.returned (.tuple #[.map (some gm),.bool true])∧uy wS w' gm gv∧kW AF w w':=by
 have HU:Hid (eM wS):=hU
 have Lm:Hid (∀p,p∈gQ→∀j,j∈cW (En.al (En.af kl) gv) p.1→∀x,x∈(bk j).2→(Ex.jH (En.al (En.af kl) gv))[Ex.place (En.al (En.af kl) gv) x]?=some x):=fun p hp j hj x hx=>Ex.CS _ hp hj hx
 have pY:(Rc.aZ (Ex.jH (En.al (En.af kl) gv)).length++((Ex.jH (En.al (En.af kl) gv)).flatMap Rc.aS++gQ.flatMap fun p=>Ex.facts kl gv p.1)).length≤10000000:=by
  have h9:=G6 kl gv
  unfold Ex.body at h9
  simp only[List.length_append]at h9 ⊢
  omega
 have Hy:=Ex.sa (En.al (En.af kl) gv)
 have Vn:=Rd.D7 (X:=Ex.jH (En.al (En.af kl) gv)) (fun x hx=>Nat.lt_of_le_of_lt (xy _ x hx) (by decide)) (by omega) (gQ.flatMap fun p=>Ex.facts kl gv p.1)
 have iJ:=yy w rb _ false hr (by omega)
 rw[Vn]at iJ
 simp only at iJ
 have HGO:Hid (jO gv (qn (En.al (En.af kl) gv) gQ)=gv):=NN hg
 have hfl:(gQ.flatMap fun p=>Ex.facts kl gv p.1).length≤10000000:=by
  simp only[List.length_append]at pY
  omega
 generalize hN:Ex.jH (En.al (En.af kl) gv)=N at*
 have Bp:Hid (Calls Tryz.prog 140 #[.pointer (some ⟨rb,0,none⟩)] w fun e w1=>∃g,e=.returned (.slice (some ⟨g,0,none⟩) N.length N.length)∧Hid (w1.ownsRow 0 9 1 (.slice (some ⟨g,0,none⟩) N.length N.length) N.length (strCells N)∧cN w1 rb (gQ.flatMap fun p=>Ex.facts kl gv p.1) false∧Below wS.heap.size wS w1∧w1.ownsRow 0 112 2 (.slice qd 3 qc) 3 (aF gQ)∧kW AF w w1)):=by
  refine iJ.mono ?_
  rintro e w1 ⟨g,rfl,q1,q2,q3⟩
  unfold cN at hr
  exact⟨g,rfl,aE q1 (Nat.zero_le _),q2,q3.aU hb hb.size (by simpa using AM),(kW.rU q3 hr (bad:=[251]) (by simp)).row hq (by simp),kW.rU q3 hr (by simp)⟩
 have ZY:Hid (∀w1,Below wS.heap.size wS w1→cN w1 rb (gQ.flatMap fun p=>Ex.facts kl gv p.1) false→w1.ownsRow 0 112 2 (.slice qd 3 qc) 3 (aF gQ)→Calls Tryz.prog 58 #[.slice qd 3 qc] w1 fun e w2=>e=.returned (.map (some w1.heap.size))∧Hid (U9 wS w2 rb w1.heap.size ((gQ.drop 0).flatMap fun p=>Ex.facts kl gv p.1) (jO gv (qn (En.al (En.af kl) gv) (gQ.take 0)))∧Below w1.heap.size w1 w2)):=by
  intro w1 bq LB hq1
  refine(pT w1 0 qd qc gQ hq1 (by decide) (fun p hp=>Nat.le_trans (dO _ (oK hp)) (by decide))).mono ?_
  rintro e w2 ⟨T,rfl,hT⟩
  obtain⟨k1,k2⟩:=Eb hT T4 Uu
  refine⟨rfl,⟨?_,AM,⟨T,k1, ?_, ?_⟩,bq.trans (hT.aQ.mono bq.size)⟩,hT.aQ⟩
  · unfold cN at LB ⊢
    rw[hT.aQ.block _ (lt_of_heap LB)]
    exact LB
  · have e:jO gv (qn (En.al (En.af kl) gv) (gQ.take 0))=fun _=>false:=by
     funext i
     simp[jO,qn]
    rw[e]
    exact k2
  · intro b hb
    unfold eO at hb
    rw[List.mem_cons,List.mem_flatMap]at hb
    rcases hb with rfl | ⟨t,ht,hb⟩
    · exact bq.size
    · obtain⟨_,p,g,rfl,aG⟩:=hT.bR t ht
      unfold GT.bY xD at hb
      simp[Value.ownBlock]at hb
      have:=bq.size
      omega
 clear iJ Vn pY hr hq hb hg hU
 go_enter Tryz.func82,Tryz.ntmps82
 go_wp2_with (first | (go_at_call 140;refine Bp.out.mono ?_;rintro e w1 ⟨gn,rfl,H1⟩) | (go_at_call 58;refine(ZY.out w1 H1.out.2.2.1 H1.out.2.1 H1.out.2.2.2.1).mono ?_;rintro e w2 ⟨rfl,H2⟩))
 have HN2:Hid (w2.ownsRow 0 9 1 (.slice (some ⟨gn,0,none⟩) N.length N.length) N.length (strCells N)∧w2.ownsRow 0 112 2 (.slice qd 3 qc) 3 (aF gQ)):=⟨ah H1.out.1 H2.out.2,ah H1.out.2.2.2.1 H2.out.2⟩
 have HTW:Hid (kW AF w w2):=H1.out.2.2.2.2.trans (kW.bM H2.out.2 _)
 have Kp:Hid (U9 wS w2 rb w1.heap.size ((gQ.drop 0).flatMap fun p=>Ex.facts kl gv p.1) (jO gv (qn (En.al (En.af kl) gv) (gQ.take 0)))):=H2.out.1
 generalize w1.heap.size=gm at Kp
 clear Bp ZY H2
 go_loopw [20] (fun i wr=>∃(k:Nat),k≤3∧i=.int .i64 k∧U9 wS wr rb gm ((gQ.drop k).flatMap fun p=>Ex.facts kl gv p.1) (jO gv (qn (En.al (En.af kl) gv) (gQ.take k)))∧kW AF w2 wr) (fun i _=>3-(intOf i).toNat)
 case atStart=>exact⟨0,Nat.zero_le _,rfl,Kp.out,kW.bM (Below.refl _ _) _⟩
 case round=>
  obtain⟨k,hk,rfl,UB,Zn⟩:=hrel
  obtain⟨wA,rfl⟩:∃x,x=wr:=⟨_,rfl⟩
  clear Kp
  by_cases aG:k<3
  · have mL:k<gQ.length:=aG
    obtain⟨g2,rfl,eE,qD,br⟩:=aD (Zn.row HN2.out.2 (by decide)) (by omega)
    have c0:=br _ _ (aY gQ k mL).1
    have c1:=br _ _ (aY gQ k mL).2
    have Cg:((gQ[k]).1,(gQ[k]).2)∈gQ:=List.getElem_mem mL
    have Pp:gQ.drop k=gQ[k]::gQ.drop (k+1):=List.drop_eq_getElem_cons mL
    rw[Pp,List.flatMap_cons]at UB
    have pD:Hid (qn (En.al (En.af kl) gv) (gQ.take (k+1))=qn (En.al (En.af kl) gv) (gQ.take k)++cW (En.al (En.af kl) gv) (gQ[k]).1):=by
     have e0:gQ.take (k+1)=gQ.take k++[gQ[k]]:=by rw[List.take_add_one,List.getElem?_eq_getElem mL];rfl
     have e1:qn (En.al (En.af kl) gv) (gQ.take (k+1))=qn (En.al (En.af kl) gv) (gQ.take k)++cW (En.al (En.af kl) gv) (gQ[k]).1:=by unfold qn;rw[e0,List.flatMap_append,List.flatMap_singleton]
     exact e1
    have XA:=sr kl gv (gQ[k]).1
    have akt:((gQ.drop (k+1)).flatMap fun p=>Ex.facts kl gv p.1).length≤10000000:=by
     have h9:=j6 (fun p:Pd.Pr=>Ex.facts kl gv p.1) 10000 (gQ.drop (k+1)) (fun p _=>sr kl gv p.1)
     have h8:(gQ.drop (k+1)).length≤3:=by rw[List.length_drop];have:gQ.length=3:=rfl;omega
     omega
    have HPP:Hid (∀j,j∈cW (En.al (En.af kl) gv) (gQ[k]).1→j<36∧(bk j).1=(gQ[k]).1∧(bk j).2.length=(gQ[k]).2∧∀x,x∈(bk j).2→N[Ex.place (En.al (En.af kl) gv) x]?=some x):=by
     intro j hj
     obtain⟨h1,_,h3⟩:=gS.1 hj
     have h4:=kp h1
     rw[h3]at h4
     exact⟨h1,h3,xQ h4 (oK Cg),Lm.out _ Cg j hj⟩
    have Gf:(gQ[k]).2≤3:=by
     have:∀q,q∈gQ→q.2≤3:=by unfold gQ;decide
     exact this _ Cg
    generalize (gQ[k]).1=pn at*
    generalize (gQ[k]).2=pp at*
    generalize Hk:((gQ.drop (k+1)).flatMap fun p=>Ex.facts kl gv p.1)=rest at*
    have Yc:Hid (((gQ.drop (k+1)).flatMap fun p=>Ex.facts kl gv p.1)=rest):=Hk
    have hfe:Ex.facts kl gv pn=Rc.aZ (cW (En.al (En.af kl) gv) pn).length++(cW (En.al (En.af kl) gv) pn).flatMap (Ex.fact kl gv):=rfl
    have Hw:=xT (En.al (En.af kl) gv) pn
    rw[hfe,List.append_assoc]at UB
    rw[hfe]at XA
    generalize cW (En.al (En.af kl) gv) pn=js at*
    generalize qn (En.al (En.af kl) gv) (gQ.take k)=S0 at*
    obtain⟨tg,hP,nP⟩:=UB.toP (oK Cg)
    obtain⟨wP,Hf⟩:∃wP,wP=wA.alloc (.cells #[.string pn,.int .i64 (pp:Nat)] 112):=⟨_,rfl⟩
    have Hl:Below wA.heap.size wA wP:=by rw[Hf];exact(Below.refl _ _).alloc (Nat.le_refl _) _
    have Lz:wP.heap[wA.heap.size]?=some (.cells #[.string pn,.int .i64 (pp:Nat)] 112 (0,0)):=by rw[Hf];exact heap_alloc_new wA _
    have p0:wP.cell? ⟨wA.heap.size,0,none⟩=some (.string pn):=by rw[cell_of_row _ _ _ _ _ _ Lz];rfl
    have l1:=nP wP Hl
    have hPP:=hP.below Hl
    have Lx:=fN wP rb _ false 200 hPP.rd (by simp only[List.length_append]at XA ⊢;omega)
    rw[Rd.jc (n:=js.length) (by omega) (by omega)]at Lx
    have HTP:Hid (kW AF w2 wP):=Zn.trans (kW.bM Hl _)
    have EM:Hid (Calls Tryz.prog 139 #[.pointer (some ⟨rb,0,none⟩),.int .i64 200] wP fun e w3=>e=.returned (.int .i64 js.length)∧Hid (tS wS w3 rb gm ((js.drop 0).flatMap (Ex.fact kl gv)++rest) (jO gv (S0++js.take 0)) pn pp tg∧kW AF w2 w3∧w3.heap[wA.heap.size]?=some (.cells #[.string pn,.int .i64 (pp:Nat)] 112 (0,0)))):=by
     refine Lx.mono ?_
     rintro e w3 ⟨rfl,q1,q2⟩
     obtain⟨r1,r2⟩:=hPP.read q2 q1
     refine⟨rfl, ?_,HTP.out.trans r2,r2.heap Lz (by decide)⟩
     simpa using r1
    have ah8:tg<wP.heap.size:=by
     obtain⟨N',k1,_,_,t,ht,_,e,_⟩:=hPP.nW
     rw[←e]
     exact lt_of_heap (bW.cP (k1.bR t ht))
    clear UB Zn br hP nP Lx hPP Hk Hl Lz hfe
    go_upto_region 6 with fail
    rw[←Hf]
    clear Hf
    go_wp2_with (go_at_call 139;refine EM.out.mono ?_;rintro e w3 ⟨rfl,H3⟩)
    clear EM l1 p0 c0 c1
    go_loopw [30] (fun i w4=>∃(q:Nat),q≤js.length∧i=.int .i64 q∧tS wS w4 rb gm ((js.drop q).flatMap (Ex.fact kl gv)++rest) (jO gv (S0++js.take q)) pn pp tg∧kW AF w2 w4∧w4.heap[wA.heap.size]?=some (.cells #[.string pn,.int .i64 (pp:Nat)] 112 (0,0))) (fun i _=>js.length-(intOf i).toNat)
    case atStart=>exact⟨0,Nat.zero_le _,rfl,H3.out⟩
    case round=>
     obtain⟨q,hq,rfl,Qo,hT4,VM⟩:=hrel
     clear H3
     by_cases yi:q<js.length
     · have Tj:=HPP.out _ (List.getElem_mem yi)
       have hdj:js.drop q=js[q]::js.drop (q+1):=List.drop_eq_getElem_cons yi
       rw[hdj,List.flatMap_cons,List.append_assoc]at Qo
       have x7:((js.drop (q+1)).flatMap (Ex.fact kl gv)++rest).length≤20000000:=by
        have h9:=j6 (Ex.fact kl gv) 100 (js.drop (q+1)) (fun x _=>vB kl gv x)
        rw[List.length_append]
        rw[List.length_drop]at h9
        omega
       have eX:Hid (jO gv (S0++js.take (q+1))=if gv js[q]=true then fm (jO gv (S0++js.take q)) js[q] true else jO gv (S0++js.take q)):=by
        have e0:js.take (q+1)=js.take q++[js[q]]:=by rw[List.take_add_one,List.getElem?_eq_getElem yi];rfl
        have e1:jO gv (S0++js.take (q+1))=if gv js[q]=true then fm (jO gv (S0++js.take q)) js[q] true else jO gv (S0++js.take q):=by rw[e0,←List.append_assoc,K5]
        exact e1
       have My:Ex.fact kl gv js[q]=Rc.aZ (if gv js[q]=true then 1 else 0)++(Rc.aZ (lq kl gv js[q])++(bk js[q]).2.flatMap fun x=>Rc.aZ (Ex.place (En.al (En.af kl) gv) x)):=by unfold Ex.fact;rw[List.append_assoc]
       have SN:=vB kl gv js[q]
       have DN:=GL kl gv js[q]
       rw[My]at SN
       rw[My,List.append_assoc,List.append_assoc]at Qo
       generalize Rv:((js.drop (q+1)).flatMap (Ex.fact kl gv)++rest)=tail at*
       have R8:Hid (((js.drop (q+1)).flatMap (Ex.fact kl gv)++rest)=tail):=Rv
       clear Rv
       have u9:=Rd.xw N (Ex.place (En.al (En.af kl) gv)) (bk js[q]).2.length (bk js[q]).2 tail Tj.2.2.2 (by omega) (Nat.le_refl _)
       rw[List.take_length,List.drop_length,List.flatMap_nil,List.nil_append]at u9
       obtain⟨yW,Pu,QC,_⟩:=Tj
       generalize hgs:jO gv (S0++js.take q)=G0 at*
       have QK:=ow (bk js[q]).2
       generalize hlF:((bk js[q]).2.flatMap fun x=>Rc.aZ (Ex.place (En.al (En.af kl) gv) x))++tail=lF at*
       have ajd:lF.length≤30000000:=by
        rw[←hlF]
        simp only[List.length_append]at SN ⊢
        omega
       clear hlF My hgs hdj
       obtain⟨fn,Cj⟩:∃fn:Nat,fn=if gv js[q]=true then 1 else 0:=⟨_,rfl⟩
       rw[←Cj]at Qo
       have ad9:fn≤1:=by rw[Cj];split<;>omega
       have VG:(((fn:Nat):Int)==1)=gv js[q]:=by
        rw[Cj]
        cases gv js[q]<;>rfl
       clear Cj
       have yg:=fN wr rb _ false 1 Qo.rd (by rw[List.length_append,List.length_append];have:=iO (n:=fn) (by omega);have:=iO DN;omega)
       rw[Rd.jc (n:=fn) (by omega) (by omega)]at yg
       have HN1:Hid (Calls Tryz.prog 139 #[.pointer (some ⟨rb,0,none⟩),.int .i64 1] wr fun e w5=>e=.returned (.int .i64 (fn:Nat))∧Hid (tS wS w5 rb gm (Rc.aZ (lq kl gv js[q])++lF) G0 pn pp tg∧kW AF w2 w5∧w5.heap[wA.heap.size]?=some (.cells #[.string pn,.int .i64 (pp:Nat)] 112 (0,0)))):=by
        refine yg.mono ?_
        rintro e w5 ⟨rfl,q1,q2⟩
        obtain⟨r1,r2⟩:=Qo.read q2 q1
        exact⟨rfl,r1,hT4.trans r2,r2.heap VM (by decide)⟩
       have Zq:Hid (∀w5,tS wS w5 rb gm (Rc.aZ (lq kl gv js[q])++lF) G0 pn pp tg→kW AF w2 w5→w5.heap[wA.heap.size]?=some (.cells #[.string pn,.int .i64 (pp:Nat)] 112 (0,0))→Calls Tryz.prog 139 #[.pointer (some ⟨rb,0,none⟩),.int .i64 320000] w5 fun e w6=>e=.returned (.int .i64 (lq kl gv js[q]:Nat))∧Hid (tS wS w6 rb gm lF G0 pn pp tg∧kW AF w2 w6∧w6.heap[wA.heap.size]?=some (.cells #[.string pn,.int .i64 (pp:Nat)] 112 (0,0)))):=by
        intro w5 h5 t5 b5
        have CL:=fN w5 rb _ false 320000 h5.rd (by rw[List.length_append];have:=iO DN;omega)
        rw[Rd.jc (n:=lq kl gv js[q]) (by omega) (by omega)]at CL
        refine CL.mono ?_
        rintro e w6 ⟨rfl,q1,q2⟩
        obtain⟨r1,r2⟩:=h5.read q2 q1
        exact⟨rfl,r1,t5.trans r2,r2.heap b5 (by decide)⟩
       have HRF:Hid (∀w6 N',kW AF w2 w6→∀b W,RI wS w6 W rb gm wA.heap.size pp pn lF N' b→Calls Tryz.prog 141 #[.pointer (some ⟨rb,0,none⟩),.slice (some ⟨gn,0,none⟩) N.length N.length,.int .i64 (pp:Nat)] W fun e w'=>∃g,e=.returned (.slice (some ⟨g,0,none⟩) pp pp)∧RJ wS w6 w' rb gm wA.heap.size pp pn tail N' (bk js[q]).2 g b):=by
        intro w6 N' t6 b W hW
        have Zi:=BJ W rb lF false hW.rd (by omega) (some ⟨gn,0,none⟩) N.length N.length N ((t6.trans hW.tk).row HN2.out.1 (by decide)) (by omega) pp (by omega)
        rw[←QC,u9]at Zi
        rw[←QC]
        refine Zi.mono ?_
        rintro e w' ⟨g,rfl,q1,q2,q3⟩
        rw[QC]at q1 ⊢
        exact⟨g,rfl,hW.read AM q3 q2,aE q1 (Nat.zero_le _)⟩
       have Gj:Hid (∀w6 N',(∀W,kY W gm N'→cN W rb tail false→Below wS.heap.size wS W→tS wS W rb gm tail G0 pn pp tg)→∀b W g,RJ wS w6 W rb gm wA.heap.size pp pn tail N' (bk js[q]).2 g b→Calls Tryz.prog 74 #[.pointer (some ⟨tg,0,none⟩),.slice (some ⟨g,0,none⟩) pp pp] W fun e w'=>e=.returned (.tuple #[.agg #[.string (Tb.dZ (bk js[q]).2 0),.string (Tb.dZ (bk js[q]).2 1),.string (Tb.dZ (bk js[q]).2 2)],.bool true])∧RI wS w6 w' rb gm wA.heap.size pp pn tail N' b):=by
        intro w6 N' U4 b W g hW
        have pJ:=hW.av
        have hP9:=U4 W hW.ri.Sl hW.ri.rd hW.ri.aQ
        have h9:=hP9.row HU.out (Below.refl _ _) yW Pu (av:=.slice (some ⟨g,0,none⟩) pp pp) (by rw[←QC]at pJ ⊢;exact pJ)
        rw[QK]at h9
        refine h9.mono ?_
        rintro e w' ⟨rfl,hb⟩
        exact⟨rfl,hW.ri.below hb⟩
       have Hj:Hid (∀w7,tS wS w7 rb gm tail G0 pn pp tg→Calls Tryz.prog 127 #[.pointer (some ⟨tg,0,none⟩),.agg #[.string (Tb.dZ (bk js[q]).2 0),.string (Tb.dZ (bk js[q]).2 1),.string (Tb.dZ (bk js[q]).2 2)]] w7 fun e w'=>e=.returned (.tuple #[])∧Hid (tS wS w' rb gm tail (fm G0 js[q] true) pn pp tg∧kW AF w7 w')):=by
        intro w7 h7
        have h9:=h7.dX (Below.refl _ _) yW Pu
        rw[QK]at h9
        exact h9.mono (fun e w' ⟨a,b⟩=>⟨a,b⟩)
       generalize Tb.dZ (bk js[q]).2 0=x0 at*
       generalize Tb.dZ (bk js[q]).2 1=x1 at*
       generalize Tb.dZ (bk js[q]).2 2=x2 at*
       generalize lq kl gv js[q]=cj at*
       generalize gv js[q]=gj at*
       clear yg Qo hT4 VM u9 QK
       go_upto_region 11 with(go_at_call 139;first | (refine HN1.out.mono ?_;rintro e w5 ⟨rfl,H5⟩;clear HN1) | (refine(Zq.out w5 H5.out.1 H5.out.2.1 H5.out.2.2).mono ?_;rintro e w6 ⟨rfl,H6⟩))
       obtain⟨N',g1,g2,g3,g4⟩:=H6.out.1.nW
       have JE:Hid (∀W,kY W gm N'→cN W rb tail false→Below wS.heap.size wS W→tS wS W rb gm tail G0 pn pp tg):=fun W a b c=>⟨b,AM,c,N',a,g2,g3,g4⟩
       have hI0:RI wS w6 w6 rb gm wA.heap.size pp pn lF N' none:=⟨H6.out.1.rd,H6.out.1.aQ,g1,kW.bM (Below.refl _ _) _,H6.out.2.2,fun x hx=>by cases hx⟩
       have HT6:Hid (kW AF w2 w6):=H6.out.2.1
       have ahZ:tg<w6.heap.size:=by
        obtain⟨t,ht,_,e,_⟩:=g4
        rw[←e]
        exact lt_of_heap (bW.cP (g1.bR t ht))
       have Uo:Hid (∀b W,RI wS w6 W rb gm wA.heap.size pp pn lF N' b→Calls Tryz.prog 141 #[.pointer (some ⟨rb,0,none⟩),.slice (some ⟨gn,0,none⟩) N.length N.length,.int .i64 (pp:Nat)] W fun e w'=>∃g,e=.returned (.slice (some ⟨g,0,none⟩) pp pp)∧RJ wS w6 w' rb gm wA.heap.size pp pn tail N' (bk js[q]).2 g b):=HRF.out w6 N' HT6.out
       have Uk:Hid (∀b W g,RJ wS w6 W rb gm wA.heap.size pp pn tail N' (bk js[q]).2 g b→Calls Tryz.prog 74 #[.pointer (some ⟨tg,0,none⟩),.slice (some ⟨g,0,none⟩) pp pp] W fun e w'=>e=.returned (.tuple #[.agg #[.string x0,.string x1,.string x2],.bool true])∧RI wS w6 w' rb gm wA.heap.size pp pn tail N' b):=Gj.out w6 N' JE.out
       generalize (bk js[q]).2=dl at Uo Uk
       clear H5 Zq HRF Gj g1 g2 g3 g4 H6
       go_cut [12,13,30]from 30 to 55 (fun v12 Z0 iv wx=>iv=.int .i64 q∧Hid (T8 wS w6 rb gm wA.heap.size pp pn tail N' x0 x1 x2 v12 Z0 wx))
       case first=>
        have hpc:=hI0.pc
        go_region_held3 (fun W=>W.cell? ⟨wA.heap.size,1,none⟩=some (.int .i64 (pp:Nat))) (first | (exact RI.pc (by assumption)) | (exact RI.pc (RI.drew (by assumption))) | (exact RI.pc (RI.alloc (by assumption))) | (exact RI.pc (RI.alloc (RI.drew (by assumption)))) | (exact RI.pc (RJ.ri (by assumption))) | (exact RI.pc (RI.alloc (RJ.ri (by assumption)))) | (exact RI.pc (by obtain⟨_,_,_,_,sM⟩:=RI.Ec (by assumption) x0 x1 x2;exact sM)) | (exact RI.pc (by obtain⟨_,_,_,_,sM⟩:=RI.C6 (by assumption) x0 x1 x2;exact sM))) (first | (go_at_call 141;refine(Uo.out _ _ (by first | assumption | exact RI.drew (by assumption) | exact RI.alloc (by assumption) | exact RI.alloc (RI.drew (by assumption)))).mono ?_;rintro e wn ⟨gl,rfl,hJn⟩) | (go_at_call 74;refine(Uk.out _ _ _ (by first | assumption | exact RJ.alloc (by assumption))).mono ?_;rintro e wm ⟨rfl,hIm⟩;(try (obtain⟨z0,z1,z2,f0,f1,f2,zl⟩:=RI.cells hIm;(try simp only[World.size_drew]at z0 z1 z2 f0 f1 f2 zl)))))
        all_goals
         (go_wp2_with fail
          go_meet
          first
          | exact⟨rfl,RI.Ec (by assumption) _ _ _⟩
          | exact⟨rfl,RI.C6 (by assumption) _ _ _⟩)
       case rest=>
        obtain⟨hiv,H7⟩:=hcut
        subst hiv
        obtain⟨acR,xb,ad8,bF,Wa⟩:=H7.out
        subst acR
        subst ad8
        have Zt:tS wS wc rb gm tail G0 pn pp tg:=JE.out wc Wa.Sl Wa.rd Wa.aQ
        have Tu:kW AF w2 wc:=HT6.out.trans Wa.tk
        have hB7:=Wa.KV
        have r0:wc.cell? ⟨xb,0,none⟩=some (.string x0):=by rw[cell_of_row _ _ _ _ _ _ bF];rfl
        have r1:wc.cell? ⟨xb,1,none⟩=some (.string x1):=by rw[cell_of_row _ _ _ _ _ _ bF];rfl
        have r2:wc.cell? ⟨xb,2,none⟩=some (.string x2):=by rw[cell_of_row _ _ _ _ _ _ bF];rfl
        have oP:=lt_of_heap bF
        have HP7:Hid (tS wS wc rb gm tail G0 pn pp tg∧kW AF w2 wc∧wc.heap[wA.heap.size]?=some (.cells #[.string pn,.int .i64 (pp:Nat)] 112 (0,0))):=⟨Zt,Tu,hB7⟩
        clear H7 Wa bF Uo Uk hI0
        cases gj with
        | true=>
         have VX:Hid (Calls Tryz.prog 127 #[.pointer (some ⟨tg,0,none⟩),.agg #[.string x0,.string x1,.string x2]] wc fun e w'=>e=.returned (.tuple #[])∧Hid (tS wS w' rb gm ((js.drop (q+1)).flatMap (Ex.fact kl gv)++rest) (jO gv (S0++js.take (q+1))) pn pp tg∧kW AF w2 w'∧w'.heap[wA.heap.size]?=some (.cells #[.string pn,.int .i64 (pp:Nat)] 112 (0,0)))):=by
          refine(Hj.out wc Zt).mono ?_
          rintro e w' ⟨rfl,H9⟩
          rw[R8.out,eX.out,if_pos rfl]
          exact⟨rfl,H9.out.1,Tu.trans H9.out.2,H9.out.2.heap hB7 (by decide)⟩
         clear Zt Tu hB7 HP7 Hj eX
         go_wp2_with (go_at_call 127;refine VX.out.mono ?_;rintro e w9 ⟨rfl,H9⟩)
         go_roundw
         case rel=>exact⟨q+1,yi,by go_num,H9.out⟩
         case measure=>simp[intOf];omega
        | false=>
         have VX:Hid (tS wS wc rb gm ((js.drop (q+1)).flatMap (Ex.fact kl gv)++rest) (jO gv (S0++js.take (q+1))) pn pp tg∧kW AF w2 wc∧wc.heap[wA.heap.size]?=some (.cells #[.string pn,.int .i64 (pp:Nat)] 112 (0,0))):=by
          rw[R8.out,eX.out,if_neg (by decide)]
          exact HP7.out
         clear Zt Tu hB7 HP7 Hj eX r0 r1 r2
         go_wp2_with fail
         go_roundw
         case rel=>exact⟨q+1,yi,by go_num,VX.out⟩
         case measure=>simp[intOf];omega
     · have HE:Hid (U9 wS wr rb gm ((gQ.drop (k+1)).flatMap fun p=>Ex.facts kl gv p.1) (jO gv (qn (En.al (En.af kl) gv) (gQ.take (k+1))))∧kW AF w2 wr):=by
        have e0:js.take q=js:=List.take_of_length_le (by omega)
        have e1:js.drop q=[]:=List.drop_eq_nil_of_le (by omega)
        rw[e0,e1]at Qo
        rw[Yc.out,pD.out]
        exact⟨by simpa using Qo.toW,hT4⟩
       clear Qo hT4 VM
       go_wp2_with fail
       go_roundw
       case rel=>exact⟨k+1,by omega,by go_num,HE.out⟩
       case measure=>simp[intOf];omega
  · have qH:k=3:=by omega
    subst qH
    have HE:Hid (cN wA rb [] false∧uy wS wA gm gv∧kW AF w wA):=by
     have h1:=UB.ch
     have e:gQ.take 3=gQ:=rfl
     rw[e,HGO.out]at h1
     exact⟨UB.rd,h1,HTW.out.trans Zn⟩
    have My:Hid (Calls Tryz.prog 142 #[.pointer (some ⟨rb,0,none⟩)] wA fun e w'=>e=.returned (.bool false)∧w'=wA):=nD wA rb [] false HE.out.1
    clear UB Zn
    go_wp2_with (go_at_call 142;refine My.out.mono ?_;rintro e w9 ⟨rfl,hw⟩;subst hw)
    go_ret2
    exact⟨gm,rfl,HE.out.2⟩
end
end Go.Proofs.YtdmicblafmhflaaGreatDoor
