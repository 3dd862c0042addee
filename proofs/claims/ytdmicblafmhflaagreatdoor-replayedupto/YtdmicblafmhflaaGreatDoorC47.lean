/- state.Read of an export, walked. -/
import Derived.Test.YtdmicblafmhflaaGreatDoorC46
set_option linter.unusedSimpArgs false
set_option linter.unusedVariables false
set_option maxHeartbeats 8000000
set_option maxRecDepth 100000
namespace Go.Proofs.YtdmicblafmhflaaGreatDoor
section
open Go.RowKit Go.Maps
theorem Ft(a b:List UInt8):(⟨(a++b).toArray⟩:ByteArray).extract 0 a.length=⟨a.toArray⟩:=by
 apply ByteArray.ext
 simp[ByteArray.data_extract]
theorem OR(a b:List UInt8):(⟨(a++b).toArray⟩:ByteArray).extract a.length (a.length+b.length)=⟨b.toArray⟩:=by
 apply ByteArray.ext
 simp[ByteArray.data_extract]
theorem aI.tk{w w':World}{bad:List TypeId}{rd:Option Addr}{rc:Nat}{l:List MR}(h:aI w rd rc l)(hk:kT bad w w')(h1:¬222∈bad)(h2:¬219∈bad)(h3:¬310∈bad):aI w' rd rc l:=by
 obtain⟨S,k1,k2⟩:=hk
 refine h.kept k1 (fun b cur U hb e=> ?_)
 obtain⟨jX,t',Pn,e2,ht⟩:=k2 b hb (lt_of_heap e)
 rw[e]at e2
 simp at e2
 obtain⟨_,e3,_⟩:=e2
 subst e3
 exact⟨fun h=>h1 (h▸ht),fun h=>h2 (h▸ht),fun h=>h3 (h▸ht)⟩
structure RdP(w0 W:World)(kl:List Ax.ay)(gv:Nat→Bool)(rd:Option Addr)(rc:Nat)(l:List MR)(gm pb:Nat):Prop where
 aZ:Below w0.heap.size w0 W
 rul:aI W rd rc l
 Na:∃G,lB W gm G∧fV G gv
 ZY:W.heap[pb]?=some (.cells #[.string (Ax.au kl),.slice rd l.length rc] 101 (0,0))
theorem G4(w:World)(kl:List Ax.ay)(gv:Nat→Bool)(hg:ji gv)(hd:List UInt8)(bS:hd.length=32)(hU:eW w):
 Calls Tryz.prog 45 #[.string ⟨(Ex.body kl gv++hd).toArray⟩] w fun e w'=>∃rd rc l gm hm G T s,e=.returned (.tuple #[.agg (aO (Ax.au kl) (.slice rd (List.length l) rc) gm hm hd),.bool true])∧aI w' rd rc l∧(l.map MR.aw).map Ax.kX=Ax.gR kl∧lB w' gm G∧fV G gv∧pG w' hm T s∧En.Inv (En.sR (En.aj kl)) (En.gF gv) s s.found.length∧(∀p,p∈T.map ig↔p∈jL)∧Below w.heap.size w w':=by
 have HGV:Hid (ji gv):=hg
 obtain⟨S,hS⟩:∃S:ByteArray,S=⟨(Ex.body kl gv++hd).toArray⟩:=⟨_,rfl⟩
 have fm:=vN kl gv
 have hSs:S.size=(Ex.body kl gv).length+32:=by rw[hS];show(Ex.body kl gv++hd).toArray.size=_;simp[bS]
 have hSL:S.extract 0 (Ex.body kl gv).length=⟨(Ex.body kl gv).toArray⟩:=by rw[hS];exact Ft _ _
 have hSH:S.extract (Ex.body kl gv).length ((Ex.body kl gv).length+32)=⟨hd.toArray⟩:=by
  have:=OR (Ex.body kl gv) hd
  rw[bS]at this
  rw[hS]
  exact this
 have HSB:Hid (S=⟨(Ex.body kl gv++hd).toArray⟩):=hS
 rw[←hS]
 obtain⟨N,hN⟩:∃N,N=(Ex.body kl gv).length+32:=⟨_,rfl⟩
 rw[←hN]at hSs hSH
 obtain⟨L,hL⟩:∃L,L=(Ex.body kl gv).length:=⟨_,rfl⟩
 rw[←hL]at hN hSL hSH fm
 have xG:decide ((N:Int)<32)=false:=decide_eq_false (by omega)
 have Bt:IntKind.i64.wrap ((N:Int)-32)=(L:Int):=by
  rw[IntKind.wrap_i64]
  omega
 have hn3:(0:Int)≤(L:Int):=by omega
 have hn4:(L:Int)≤(N:Int):=by omega
 obtain⟨w0,cZ⟩:∃w0,w0=w.alloc (.cells (pZ (.string ⟨#[]⟩) (.slice none 0 0) (.map none) (.map none)) 107):=⟨_,rfl⟩
 have bL:Below w.heap.size w w0:=by rw[cZ];exact(Below.refl _ _).alloc (Nat.le_refl _) _
 have mN:w0.heap[w.heap.size]?=some (.cells (pZ (.string ⟨#[]⟩) (.slice none 0 0) (.map none) (.map none)) 107 (0,0)):=by rw[cZ];exact heap_alloc_new w _
 have Cy:Hid (Calls Tryz.prog 80 #[.string ⟨(Ex.body kl gv).toArray⟩] w0 fun e w1=>∃rb,e=.returned (.pointer (some ⟨rb,0,none⟩))∧Hid (w0.heap.size≤rb∧bC w1 rb (Ex.body kl gv) false∧Below w0.heap.size w0 w1)):=(iZ w0 (Ex.body kl gv)).mono (fun e w1 ⟨a,b,c⟩=>⟨_,a,Nat.le_refl _,b,c⟩)
 have qf:Hid (∀w1 rb,w0.heap.size≤rb→bC w1 rb (Ex.body kl gv) false→Below w0.heap.size w0 w1→Calls Tryz.prog 81 #[.pointer (some ⟨rb,0,none⟩)] w1 fun e w2=>e=.returned (.string (Ax.au kl))∧Hid (bC w2 rb (Rc.aQ (Ex.jC (En.ak (En.aj kl) gv)).length++((Ex.jC (En.ak (En.aj kl) gv)).flatMap Rc.aC++gQ.flatMap fun p=>Ex.facts kl gv p.1)) false∧Below w0.heap.size w0 w2)):=by
  intro w1 rb yh hr hb
  have h1:=iS w1 rb _ false hr (by omega)
  have e:Ex.body kl gv=Rc.aC (Ax.au kl)++(Rc.aQ (Ex.jC (En.ak (En.aj kl) gv)).length++((Ex.jC (En.ak (En.aj kl) gv)).flatMap Rc.aC++gQ.flatMap fun p=>Ex.facts kl gv p.1)):=by
   unfold Ex.body
   simp only[List.append_assoc]
  have h2:=Rd.j7 (x:=Ax.au kl) (Nat.lt_of_le_of_lt (Ax.jo kl) (by decide)) (Rc.aQ (Ex.jC (En.ak (En.aj kl) gv)).length++((Ex.jC (En.ak (En.aj kl) gv)).flatMap Rc.aC++gQ.flatMap fun p=>Ex.facts kl gv p.1))
  rw[←e]at h2
  rw[h2]at h1
  refine h1.mono ?_
  rintro e' w2 ⟨rfl,q1,q2⟩
  exact⟨by simp,q1,q2.aK hb hb.size (by simpa using yh)⟩
 have sH:Hid (∀w2,Calls Tryz.prog 56 #[.string (Ax.au kl)] w2 fun e w'=>∃rd rc l,e=.returned (.tuple #[.agg #[.string (Ax.au kl),.slice rd (List.length l) rc],.int .i64 0,.int .i64 0])∧Hid ((l.map MR.aw).map Ax.kX=Ax.gR kl∧aI w' rd rc l∧Below w2.heap.size w2 w')):=fun w2=>(DV kl w2).mono (fun e w' ⟨rd,rc,l,a,b⟩=>⟨rd,rc,l,a,b⟩)
 have HU0:Hid (eW w0):=Utf8Tabs_below hU bL
 have HB0:Hid (Below w.heap.size w w0):=bL
 have HZ0:Hid (w0.heap[w.heap.size]?=some (.cells (pZ (.string ⟨#[]⟩) (.slice none 0 0) (.map none) (.map none)) 107 (0,0))):=mN
 generalize (⟨(Ex.body kl gv).toArray⟩:ByteArray)=SB at*
 clear hS hN hL fm bL mN hU hg
 go_enter Tryz.func45,Tryz.ntmps45
 go_upto_region 1 with fail
 have hz:(w.alloc (.cells (pZ (.string ⟨#[]⟩) (.slice none 0 0) (.map none) (.map none)) 107))=w0:=cZ.symm
 unfold pZ at hz
 rw[hz]
 clear hz cZ
 go_upto_region 8 with(first | (go_at_call 80;refine Cy.out.mono ?_;rintro e w1 ⟨rb,rfl,H1⟩) | (go_at_call 81;refine(qf.out w1 rb H1.out.1 H1.out.2.1 H1.out.2.2).mono ?_;rintro e w2 ⟨rfl,H2⟩) | (go_at_call 56;refine(sH.out w2).mono ?_;rintro e w3 ⟨rd,rc,l,rfl,H3⟩))
 obtain⟨w4,II⟩:∃w4,w4=w3.alloc (.cells #[.string (Ax.au kl),.slice rd l.length rc] 101):=⟨_,rfl⟩
 rw[←II]
 obtain⟨he,qE,UZ⟩:=H3.out
 have UO:Below w3.heap.size w3 w4:=by rw[II];exact(Below.refl _ _).alloc (Nat.le_refl _) _
 have K9:Below w2.heap.size w2 w4:=UZ.trans (UO.mono UZ.size)
 have Vz:Below w0.heap.size w0 w4:=H2.out.2.trans (K9.mono H2.out.2.size)
 have ue:w4.heap[w3.heap.size]?=some (.cells #[.string (Ax.au kl),.slice rd l.length rc] 101 (0,0)):=by rw[II];exact heap_alloc_new w3 _
 have x0:w4.cell? ⟨w3.heap.size,0,none⟩=some (.string (Ax.au kl)):=by rw[cell_of_row _ _ 0 _ _ _ ue];rfl
 have x1:w4.cell? ⟨w3.heap.size,1,none⟩=some (.slice rd l.length rc):=by rw[cell_of_row _ _ 1 _ _ _ ue];rfl
 have uZ:aI w4 rd rc l:=qE.below UO
 obtain⟨Xa,_,Aa⟩:=iP uZ he
 have cA:l≠[]:=by
  rintro rfl
  simp[Ax.gR,Ax.ls]at he
 have BF:bC w4 rb (Rc.aQ (Ex.jC (En.ak (En.aj kl) gv)).length++((Ex.jC (En.ak (En.aj kl) gv)).flatMap Rc.aC++gQ.flatMap fun p=>Ex.facts kl gv p.1)) false:=by
  have h9:=H2.out.1
  unfold bC at h9 ⊢
  rw[K9.block _ (lt_of_heap h9)]
  exact h9
 have tS:Hid (Calls Tryz.prog 59 #[.agg #[.string (Ax.au kl),.slice rd l.length rc]] w4 fun e w5=>∃qd qc,e=.returned (.slice qd 3 qc)∧Hid (w5.ownsRow 0 112 2 (.slice qd 3 qc) 3 (aB gQ)∧Below w4.heap.size w4 w5)):=by
  refine(mf w4 _ rd rc l uZ (by omega) (nE he) cA).mono ?_
  rintro e w5 ⟨qd,qc,Q,rfl,q1,q2,q3⟩
  have hQ:Q=gQ:=N0 q3.out.1 (fun p=>(q3.out.2 p).trans (dW he p))
  subst hQ
  exact⟨qd,qc,rfl,aG q1 (Nat.zero_le _),q2⟩
 have U4:Hid (∀w5 qd qc,w5.ownsRow 0 112 2 (.slice qd 3 qc) 3 (aB gQ)→Below w4.heap.size w4 w5→Calls Tryz.prog 82 #[.pointer (some ⟨rb,0,none⟩),.slice qd 3 qc] w5 fun e w6=>∃gm,e=.returned (.tuple #[.map (some gm),.bool true])∧Hid (RdP w0 w6 kl gv rd rc l gm w3.heap.size)):=by
  intro w5 qd qc hq zA
  have Uq:bC w5 rb (Rc.aQ (Ex.jC (En.ak (En.aj kl) gv)).length++((Ex.jC (En.ak (En.aj kl) gv)).flatMap Rc.aC++gQ.flatMap fun p=>Ex.facts kl gv p.1)) false:=by
   unfold bC at BF ⊢
   rw[zA.block _ (lt_of_heap BF)]
   exact BF
  refine(zi w0 w5 rb kl gv HGV.out (Vz.trans (zA.mono Vz.size)) H1.out.1 Uq HU0.out qd qc hq).mono ?_
  rintro e w6 ⟨gm,rfl,PM,sK⟩
  obtain⟨G,g1,g2,_⟩:=PM.at_
  exact⟨gm,rfl,PM.aZ,(uZ.below zA).tk sK (by decide) (by decide) (by decide),⟨G,g1,g2⟩,sK.heap (by rw[zA.block _ (lt_of_heap ue)];exact ue) (by decide)⟩
 have HE:Hid ((l.map MR.aw).map Ax.kX=Ax.gR kl):=he
 clear II qE UZ UO K9 Vz ue uZ Xa BF he H1 H2 H3 Cy qf sH cA
 generalize w3.heap.size=pb at*
 go_upto_region 11 with(first | (go_at_call 59;refine tS.out.mono ?_;rintro e w5 ⟨qd,qc,rfl,H5⟩) | (go_at_call 82;refine(U4.out w5 qd qc H5.out.1 H5.out.2).mono ?_;rintro e w6 ⟨gm,rfl,H6⟩))
 clear tS U4 H5 x0 x1
 have Ln:Hid (∀b cb W,MX w6 pb (Ax.au kl) (.slice rd l.length rc) hd b cb W→Calls Tryz.prog 57 #[.agg #[.string (Ax.au kl),.slice rd l.length rc],.map (some gm),.agg (Rc.bA hd).toArray] W fun e w'=>∃hm T s,e=.returned (.tuple #[.agg (aO (Ax.au kl) (.slice rd l.length rc) gm hm hd),.bool true])∧u6 (aO (Ax.au kl) (.slice rd l.length rc) gm hm hd) b w'∧ME w6 pb (Ax.au kl) (.slice rd l.length rc) hd hm T s b cb w'∧Hid (En.Inv (En.sR (En.aj kl)) (En.gF gv) s s.found.length∧∀p,p∈T.map ig↔p∈jL)):=by
  intro b cb W hW
  obtain⟨G,VZ,g2⟩:=H6.out.Na
  have g1:=VZ.below hW.aZ
  have he:=HE.out
  obtain⟨Cz,_,Aa⟩:=iP (H6.out.rul.below hW.aZ) he
  have cA:l≠[]:=by
   rintro rfl
   simp[Ax.gR,Ax.ls]at he
  have dD:∀Q,Pd.vF Q→(∀p,p∈Q↔p∈bP (l.map MR.aw))→∃s,fi (l.map MR.aw) (dm Q G)=some s∧En.Inv (En.sR (En.aj kl)) (En.gF gv) s s.found.length:=fun Q _ hQ=>oM he g2 g1.names hQ
  refine(yn W _ rd rc l Cz Aa (nE he) cA (fun p hp=>Nat.le_trans (dP p ((dW he p).1 hp)) (by decide)) gm G g1 ?_ (Nat.le_trans (g2.sum g1.names (fun t ht=>cp.ord (g1.b7 t ht))) (by decide)) hd bS ?_).mono ?_
  · intro p hp
    obtain⟨t,ht,e,_⟩:=g2.has (p:=p.1) (n:=p.2) ((dW he p).1 hp)
    rw[←e]
    exact List.mem_map_of_mem ht
  · intro Q h1 h2
    obtain⟨s,e,_⟩:=dD Q h1 h2
    rw[e]
    rfl
  · rintro e w' ⟨hm,T,s,Q,rfl,m1,m2,m3,m4,m5,m6,m7⟩
    have h2:=hW.below m7
    obtain⟨s',e1,e2⟩:=dD Q m1 m2
    have hs:s'=s:=by
     rw[m3]at e1
     exact(Option.some.inj e1).symm
    subst hs
    refine⟨hm,T,s',rfl,N6 h2 (aL _ _ _ _ bS) (gJ _ _ _ _ _ _ _),⟨h2,m4, ?_⟩,e2, ?_⟩
    · intro x hx y hy
      obtain⟨_,Z,k2,_⟩:=hW.cU x hx
      have k3:=lt_of_heap k2
      have:=m6 y hy
      omega
    · intro p
      rw[m5,List.mem_reverse,m2]
      exact dW he p
 have hM:MX w6 pb (Ax.au kl) (.slice rd l.length rc) hd none none w6.drew:=by
  refine MX.drew ⟨Below.refl _ _,lt_of_heap H6.out.ZY,by rw[cell_of_row _ _ _ _ _ _ H6.out.ZY];rfl,by rw[cell_of_row _ _ _ _ _ _ H6.out.ZY];rfl,(fun x h=>by cases h),(fun x h=>by cases h)⟩
 have abh:=lt_of_heap H6.out.ZY
 obtain⟨SH,PW⟩:∃SH:ByteArray,SH=⟨hd.toArray⟩:=⟨_,rfl⟩
 have XN:Hid (SH=⟨hd.toArray⟩):=PW
 rw[←PW]at hSH
 have adV:SH.size=32:=by rw[PW];exact bS
 have E9:∀W,(convert 9 63 (.string SH)).run Tryz.prog W=.ok (.slice (some ⟨W.heap.size,0,none⟩) 32 (grownCap W 32 0 5)) (Lib.bytesWorld W 5 SH):=by
  intro W
  have h9:=Lib.run_convert_string_bytes (P:=Tryz.prog) W 9 63 5 SH Tryz.underlying9 Tryz.underlying63 Tryz.underlying5
  rw[adV]at h9
  exact h9
 have acj:=Ud
 have zh:(Tryz.prog.info? 105).map (·.size)=some (Rc.bA hd).length:=by
  rw[Rc.bB,bS]
  kernel_rfl
 clear PW
 go_cut [11,10]from 43 (fun v11 v10 wx=>Hid (SJ w6 kl (.slice rd l.length rc) gm gv hd v11 v10 wx))
 case first=>
  refine wp_region_held_drew (S:=fun W=>W.cell? ⟨pb,0,none⟩=some (.string (Ax.au kl))∧W.cell? ⟨pb,1,none⟩=some (.slice rd l.length rc)) (by kernel_rfl) hM.cells (fun cS=> ?_)
  generalize w6.drew=wn at hM cS ⊢
  refine wpAnyH_take (i:=0) (v:= ?_) rfl (by kernel_rfl) (by kernel_rfl) (by kernel_rfl) (fun _ _ _ h=>h) (Or.inl ⟨by rfl, ?_⟩) (by assumption) ?_
  rotate_left
  · intro wS jj
    (try obtain⟨lj,lk⟩:=jj)
    go_simp
    (try with_reducible rfl)
  try simp only[Act.put,List.setIfInBounds_toArray,List.set_cons_zero,List.set_cons_succ]
  refine wpAnyH_take (i:=1) (v:= ?_) rfl (by kernel_rfl) (by kernel_rfl) (by kernel_rfl) (fun _ _ _ h=>h) (Or.inl ⟨by rfl, ?_⟩) (by assumption) ?_
  rotate_left
  · intro wS jj
    (try obtain⟨lj,lk⟩:=jj)
    go_simp
    (try with_reducible rfl)
  try simp only[Act.put,List.setIfInBounds_toArray,List.set_cons_zero,List.set_cons_succ]
  refine wpAnyH_take (i:=2) (v:= ?_) rfl (by kernel_rfl) (by kernel_rfl) (by kernel_rfl) (fun _ _ _ h=>h) (Or.inl ⟨by rfl, ?_⟩) (by assumption) ?_
  rotate_left
  · intro wS jj
    (try obtain⟨lj,lk⟩:=jj)
    go_simp
    (try with_reducible rfl)
  try simp only[Act.put,List.setIfInBounds_toArray,List.set_cons_zero,List.set_cons_succ]
  refine wpAnyH_take (i:=3) (v:= ?_) rfl (by kernel_rfl) (by kernel_rfl) (by kernel_rfl) (fun _ _ _ h=>h) (Or.inl ⟨by rfl, ?_⟩) (by assumption) ?_
  rotate_left
  · intro wS jj
    (try obtain⟨lj,lk⟩:=jj)
    go_simp
    (try with_reducible rfl)
  try simp only[Act.put,List.setIfInBounds_toArray,List.set_cons_zero,List.set_cons_succ]
  refine wpAnyH_take (i:=4) (v:= ?_) rfl (by kernel_rfl) (by kernel_rfl) (by kernel_rfl) (fun _ _ _ h=>h) (Or.inl ⟨by rfl, ?_⟩) (by assumption) ?_
  rotate_left
  · intro wS jj
    (try obtain⟨lj,lk⟩:=jj)
    go_simp
    (try with_reducible rfl)
  try simp only[Act.put,List.setIfInBounds_toArray,List.set_cons_zero,List.set_cons_succ]
  refine wpAnyH_ready (rs:=[5,12]) (by kernel_rfl) (by simp) ?_
  refine AllReadyH.cons rfl (fun Kq ie=> ?_) (AllReadyH.cons rfl (fun Kq ie=> ?_) AllReadyH.nil)
  · go_simp
    have qj:=MX.conv hM
    rw[←XN.out]at qj
    refine ie.out _ _ qj.cells (fun cS=> ?_)
    clear ie Kq hM cS
    try simp only[Act.put,List.setIfInBounds_toArray,List.set_cons_zero,List.set_cons_succ]
    generalize wn.heap.size=cbn at qj ⊢
    generalize Lib.bytesWorld wn 5 SH=BP at qj ⊢
    have hM:=qj
    clear qj
    obtain⟨wn,rfl⟩:∃wn,wn=BP:=⟨_,rfl⟩
    have cS:=hM.cells
    refine wpAnyH_take (i:=6) (v:= ?_) rfl (by kernel_rfl) (by kernel_rfl) (by kernel_rfl) (fun _ _ _ h=>h) (Or.inl ⟨by rfl, ?_⟩) (by assumption) ?_
    rotate_left
    · intro wS jj
      (try obtain⟨lj,lk⟩:=jj)
      go_simp
      (try with_reducible rfl)
    try simp only[Act.put,List.setIfInBounds_toArray,List.set_cons_zero,List.set_cons_succ]
    refine wpAnyH_ready (rs:=[7,12]) (by kernel_rfl) (by simp) ?_
    refine AllReadyH.cons rfl (fun Kq ie=> ?_) (AllReadyH.cons rfl (fun Kq ie=> ?_) AllReadyH.nil)
    · rw[if_pos (by rfl)]
      refine wp_load_mid _ _ rfl _ 0 rfl (Rc.bA hd) _ (hM.YE _ rfl).2 Tryz.underlying105 rfl zh ?_
      refine ie.out _ _ hM.cells (fun cS=> ?_)
      clear ie Kq
      try simp only[Act.put,List.setIfInBounds_toArray,List.set_cons_zero,List.set_cons_succ]
      refine wpAnyH_ready (rs:=[8,12]) (by kernel_rfl) (by simp) ?_
      refine AllReadyH.cons rfl (fun Kq ie=> ?_) (AllReadyH.cons rfl (fun Kq ie=> ?_) AllReadyH.nil)
      · go_simp
        refine(Ln.out _ _ _ hM).mono ?_
        rintro e w5 ⟨hm,T,s,rfl,ev,hE,HI⟩
        unfold u6 at ev
        dsimp only at ev
        refine ie.out _ _ hE.mx.cells (fun cS=> ?_)
        clear ie Kq hM cS
        try simp only[Act.put,List.setIfInBounds_toArray,List.set_cons_zero,List.set_cons_succ]
        obtain⟨wn,rfl⟩:∃wn,wn=w5:=⟨_,rfl⟩
        have cS:=hE.mx.cells
        refine wpAnyH_take (i:=9) (v:= ?_) rfl (by kernel_rfl) (by kernel_rfl) (by kernel_rfl) (fun _ _ _ h=>h) (Or.inl ⟨by rfl, ?_⟩) (by assumption) ?_
        rotate_left
        · intro wS jj
          (try obtain⟨lj,lk⟩:=jj)
          go_simp
          (try with_reducible rfl)
        try simp only[Act.put,List.setIfInBounds_toArray,List.set_cons_zero,List.set_cons_succ]
        refine wpAnyH_take (i:=10) (v:= ?_) rfl (by kernel_rfl) (by kernel_rfl) (by kernel_rfl) (fun _ _ _ h=>h) (Or.inl ⟨by rfl, ?_⟩) (by assumption) ?_
        rotate_left
        · intro wS jj
          (try obtain⟨lj,lk⟩:=jj)
          go_simp
          (try with_reducible rfl)
        try simp only[Act.put,List.setIfInBounds_toArray,List.set_cons_zero,List.set_cons_succ]
        refine wpAnyH_take (i:=11) (v:= ?_) rfl (by kernel_rfl) (by kernel_rfl) (by kernel_rfl) (fun _ _ _ h=>h) (Or.inl ⟨by rfl, ?_⟩) (by assumption) ?_
        rotate_left
        · intro wS jj
          (try obtain⟨lj,lk⟩:=jj)
          go_simp
          (try with_reducible rfl)
        try simp only[Act.put,List.setIfInBounds_toArray,List.set_cons_zero,List.set_cons_succ]
        refine wpAnyH_ready (rs:=[12]) (by kernel_rfl) (by simp) ?_
        refine AllReadyH.cons rfl (fun Kq ie=> ?_) AllReadyH.nil
        go_simp
        obtain⟨BP,nD⟩:∃BP,BP=wn.alloc (.cells (pZ (.string ⟨#[]⟩) (.slice none 0 0) (.map none) (.map none)) 107):=⟨_,rfl⟩
        have XC:=ME.alloc hE (Z:=(pZ (.string ⟨#[]⟩) (.slice none 0 0) (.map none) (.map none))) rfl
        have CK:=ev (pZ (.string ⟨#[]⟩) (.slice none 0 0) (.map none) (.map none)) rfl
        rw[←nD]at XC CK
        unfold pZ at nD
        rw[←nD]
        refine ie.out _ _ XC.mx.cells (fun cS=> ?_)
        clear ie Kq hE ev cS nD
        try simp only[Act.put,List.setIfInBounds_toArray,List.set_cons_zero,List.set_cons_succ]
        generalize wn.heap.size=xbn at XC CK ⊢
        have hE:=XC
        have ev:=CK
        clear XC CK
        obtain⟨wn,rfl⟩:∃wn,wn=BP:=⟨_,rfl⟩
        have cS:=hE.mx.cells
        refine wpAnyH_ready (rs:=[13]) (by kernel_rfl) (by simp) ?_
        refine AllReadyH.cons rfl (fun Kq ie=> ?_) AllReadyH.nil
        have cE:=aL (Ax.au kl) (.slice rd l.length rc) gm hm bS
        go_simp
        refine ie.out _ _ (ME.jT hE cE) (fun cS=> ?_)
        clear ie Kq
        try simp only[Act.put,List.setIfInBounds_toArray,List.set_cons_zero,List.set_cons_succ]
        refine wpAnyH_take (i:=14) (oi:=⟨some 10,.assign (.tmp 54),4,"read.go:31",#[⟨11,.data⟩,⟨13,.chain⟩,⟨0,.phase⟩,⟨1,.phase⟩,⟨2,.phase⟩,⟨3,.phase⟩,⟨4,.phase⟩,⟨5,.phase⟩,⟨6,.phase⟩,⟨7,.phase⟩,⟨8,.phase⟩,⟨9,.phase⟩,⟨10,.phase⟩,⟨11,.phase⟩,⟨12,.phase⟩,⟨13,.phase⟩],none⟩) (v:= ?_) rfl (by kernel_rfl) (by kernel_rfl) (by kernel_rfl) (fun _ _ _ h=>h) (Or.inl ⟨by rfl, ?_⟩) (by assumption) ?_
        rotate_left
        · intro wS jj
          (try obtain⟨lj,lk⟩:=jj)
          go_simp
          (try with_reducible rfl)
        try simp only[Act.put,List.setIfInBounds_toArray,List.set_cons_zero,List.set_cons_succ]
        refine wpAnyH_done (by kernel_rfl) ?_ _
        go_wp2_with fail
        go_meet
        exact ME.cut hE bS HI.out.1 HI.out.2
      · go_simp
        obtain⟨BP,nD⟩:∃BP,BP=wn.alloc (.cells (pZ (.string ⟨#[]⟩) (.slice none 0 0) (.map none) (.map none)) 107):=⟨_,rfl⟩
        have qj:=MX.alloc hM (Z:=(pZ (.string ⟨#[]⟩) (.slice none 0 0) (.map none) (.map none))) rfl
        rw[←nD]at qj
        unfold pZ at nD
        rw[←nD]
        refine ie.out _ _ qj.cells (fun cS=> ?_)
        clear ie Kq hM cS nD
        try simp only[Act.put,List.setIfInBounds_toArray,List.set_cons_zero,List.set_cons_succ]
        generalize wn.heap.size=xbn at qj ⊢
        have hM:=qj
        clear qj
        obtain⟨wn,rfl⟩:∃wn,wn=BP:=⟨_,rfl⟩
        have cS:=hM.cells
        refine wpAnyH_ready (rs:=[8]) (by kernel_rfl) (by simp) ?_
        refine AllReadyH.cons rfl (fun Kq ie=> ?_) AllReadyH.nil
        go_simp
        refine(Ln.out _ _ _ hM).mono ?_
        rintro e w5 ⟨hm,T,s,rfl,ev,hE,HI⟩
        unfold u6 at ev
        dsimp only at ev
        refine ie.out _ _ hE.mx.cells (fun cS=> ?_)
        clear ie Kq hM cS
        try simp only[Act.put,List.setIfInBounds_toArray,List.set_cons_zero,List.set_cons_succ]
        obtain⟨wn,rfl⟩:∃wn,wn=w5:=⟨_,rfl⟩
        have cS:=hE.mx.cells
        refine wpAnyH_take (i:=9) (v:= ?_) rfl (by kernel_rfl) (by kernel_rfl) (by kernel_rfl) (fun _ _ _ h=>h) (Or.inl ⟨by rfl, ?_⟩) (by assumption) ?_
        rotate_left
        · intro wS jj
          (try obtain⟨lj,lk⟩:=jj)
          go_simp
          (try with_reducible rfl)
        try simp only[Act.put,List.setIfInBounds_toArray,List.set_cons_zero,List.set_cons_succ]
        refine wpAnyH_take (i:=10) (v:= ?_) rfl (by kernel_rfl) (by kernel_rfl) (by kernel_rfl) (fun _ _ _ h=>h) (Or.inl ⟨by rfl, ?_⟩) (by assumption) ?_
        rotate_left
        · intro wS jj
          (try obtain⟨lj,lk⟩:=jj)
          go_simp
          (try with_reducible rfl)
        try simp only[Act.put,List.setIfInBounds_toArray,List.set_cons_zero,List.set_cons_succ]
        refine wpAnyH_take (i:=11) (v:= ?_) rfl (by kernel_rfl) (by kernel_rfl) (by kernel_rfl) (fun _ _ _ h=>h) (Or.inl ⟨by rfl, ?_⟩) (by assumption) ?_
        rotate_left
        · intro wS jj
          (try obtain⟨lj,lk⟩:=jj)
          go_simp
          (try with_reducible rfl)
        try simp only[Act.put,List.setIfInBounds_toArray,List.set_cons_zero,List.set_cons_succ]
        refine wpAnyH_ready (rs:=[13]) (by kernel_rfl) (by simp) ?_
        refine AllReadyH.cons rfl (fun Kq ie=> ?_) AllReadyH.nil
        have cE:=aL (Ax.au kl) (.slice rd l.length rc) gm hm bS
        go_simp
        refine ie.out _ _ (ME.jT hE cE) (fun cS=> ?_)
        clear ie Kq
        try simp only[Act.put,List.setIfInBounds_toArray,List.set_cons_zero,List.set_cons_succ]
        refine wpAnyH_take (i:=14) (oi:=⟨some 10,.assign (.tmp 54),4,"read.go:31",#[⟨11,.data⟩,⟨13,.chain⟩,⟨0,.phase⟩,⟨1,.phase⟩,⟨2,.phase⟩,⟨3,.phase⟩,⟨4,.phase⟩,⟨5,.phase⟩,⟨6,.phase⟩,⟨7,.phase⟩,⟨8,.phase⟩,⟨9,.phase⟩,⟨10,.phase⟩,⟨11,.phase⟩,⟨12,.phase⟩,⟨13,.phase⟩],none⟩) (v:= ?_) rfl (by kernel_rfl) (by kernel_rfl) (by kernel_rfl) (fun _ _ _ h=>h) (Or.inl ⟨by rfl, ?_⟩) (by assumption) ?_
        rotate_left
        · intro wS jj
          (try obtain⟨lj,lk⟩:=jj)
          go_simp
          (try with_reducible rfl)
        try simp only[Act.put,List.setIfInBounds_toArray,List.set_cons_zero,List.set_cons_succ]
        refine wpAnyH_done (by kernel_rfl) ?_ _
        go_wp2_with fail
        go_meet
        exact ME.cut hE bS HI.out.1 HI.out.2
    · go_simp
      obtain⟨BP,nD⟩:∃BP,BP=wn.alloc (.cells (pZ (.string ⟨#[]⟩) (.slice none 0 0) (.map none) (.map none)) 107):=⟨_,rfl⟩
      have qj:=MX.alloc hM (Z:=(pZ (.string ⟨#[]⟩) (.slice none 0 0) (.map none) (.map none))) rfl
      rw[←nD]at qj
      unfold pZ at nD
      rw[←nD]
      refine ie.out _ _ qj.cells (fun cS=> ?_)
      clear ie Kq hM cS nD
      try simp only[Act.put,List.setIfInBounds_toArray,List.set_cons_zero,List.set_cons_succ]
      generalize wn.heap.size=xbn at qj ⊢
      have hM:=qj
      clear qj
      obtain⟨wn,rfl⟩:∃wn,wn=BP:=⟨_,rfl⟩
      have cS:=hM.cells
      refine wpAnyH_ready (rs:=[7]) (by kernel_rfl) (by simp) ?_
      refine AllReadyH.cons rfl (fun Kq ie=> ?_) AllReadyH.nil
      rw[if_pos (by rfl)]
      refine wp_load_mid _ _ rfl _ 0 rfl (Rc.bA hd) _ (hM.YE _ rfl).2 Tryz.underlying105 rfl zh ?_
      refine ie.out _ _ hM.cells (fun cS=> ?_)
      clear ie Kq
      try simp only[Act.put,List.setIfInBounds_toArray,List.set_cons_zero,List.set_cons_succ]
      refine wpAnyH_ready (rs:=[8]) (by kernel_rfl) (by simp) ?_
      refine AllReadyH.cons rfl (fun Kq ie=> ?_) AllReadyH.nil
      go_simp
      refine(Ln.out _ _ _ hM).mono ?_
      rintro e w5 ⟨hm,T,s,rfl,ev,hE,HI⟩
      unfold u6 at ev
      dsimp only at ev
      refine ie.out _ _ hE.mx.cells (fun cS=> ?_)
      clear ie Kq hM cS
      try simp only[Act.put,List.setIfInBounds_toArray,List.set_cons_zero,List.set_cons_succ]
      obtain⟨wn,rfl⟩:∃wn,wn=w5:=⟨_,rfl⟩
      have cS:=hE.mx.cells
      refine wpAnyH_take (i:=9) (v:= ?_) rfl (by kernel_rfl) (by kernel_rfl) (by kernel_rfl) (fun _ _ _ h=>h) (Or.inl ⟨by rfl, ?_⟩) (by assumption) ?_
      rotate_left
      · intro wS jj
        (try obtain⟨lj,lk⟩:=jj)
        go_simp
        (try with_reducible rfl)
      try simp only[Act.put,List.setIfInBounds_toArray,List.set_cons_zero,List.set_cons_succ]
      refine wpAnyH_take (i:=10) (v:= ?_) rfl (by kernel_rfl) (by kernel_rfl) (by kernel_rfl) (fun _ _ _ h=>h) (Or.inl ⟨by rfl, ?_⟩) (by assumption) ?_
      rotate_left
      · intro wS jj
        (try obtain⟨lj,lk⟩:=jj)
        go_simp
        (try with_reducible rfl)
      try simp only[Act.put,List.setIfInBounds_toArray,List.set_cons_zero,List.set_cons_succ]
      refine wpAnyH_take (i:=11) (v:= ?_) rfl (by kernel_rfl) (by kernel_rfl) (by kernel_rfl) (fun _ _ _ h=>h) (Or.inl ⟨by rfl, ?_⟩) (by assumption) ?_
      rotate_left
      · intro wS jj
        (try obtain⟨lj,lk⟩:=jj)
        go_simp
        (try with_reducible rfl)
      try simp only[Act.put,List.setIfInBounds_toArray,List.set_cons_zero,List.set_cons_succ]
      refine wpAnyH_ready (rs:=[13]) (by kernel_rfl) (by simp) ?_
      refine AllReadyH.cons rfl (fun Kq ie=> ?_) AllReadyH.nil
      have cE:=aL (Ax.au kl) (.slice rd l.length rc) gm hm bS
      go_simp
      refine ie.out _ _ (ME.jT hE cE) (fun cS=> ?_)
      clear ie Kq
      try simp only[Act.put,List.setIfInBounds_toArray,List.set_cons_zero,List.set_cons_succ]
      refine wpAnyH_take (i:=14) (oi:=⟨some 10,.assign (.tmp 54),4,"read.go:31",#[⟨11,.data⟩,⟨13,.chain⟩,⟨0,.phase⟩,⟨1,.phase⟩,⟨2,.phase⟩,⟨3,.phase⟩,⟨4,.phase⟩,⟨5,.phase⟩,⟨6,.phase⟩,⟨7,.phase⟩,⟨8,.phase⟩,⟨9,.phase⟩,⟨10,.phase⟩,⟨11,.phase⟩,⟨12,.phase⟩,⟨13,.phase⟩],none⟩) (v:= ?_) rfl (by kernel_rfl) (by kernel_rfl) (by kernel_rfl) (fun _ _ _ h=>h) (Or.inl ⟨by rfl, ?_⟩) (by assumption) ?_
      rotate_left
      · intro wS jj
        (try obtain⟨lj,lk⟩:=jj)
        go_simp
        (try with_reducible rfl)
      try simp only[Act.put,List.setIfInBounds_toArray,List.set_cons_zero,List.set_cons_succ]
      refine wpAnyH_done (by kernel_rfl) ?_ _
      go_wp2_with fail
      go_meet
      exact ME.cut hE bS HI.out.1 HI.out.2
  · go_simp
    obtain⟨BP,nD⟩:∃BP,BP=wn.alloc (.cells (pZ (.string ⟨#[]⟩) (.slice none 0 0) (.map none) (.map none)) 107):=⟨_,rfl⟩
    have qj:=MX.alloc hM (Z:=(pZ (.string ⟨#[]⟩) (.slice none 0 0) (.map none) (.map none))) rfl
    rw[←nD]at qj
    unfold pZ at nD
    rw[←nD]
    refine ie.out _ _ qj.cells (fun cS=> ?_)
    clear ie Kq hM cS nD
    try simp only[Act.put,List.setIfInBounds_toArray,List.set_cons_zero,List.set_cons_succ]
    generalize wn.heap.size=xbn at qj ⊢
    have hM:=qj
    clear qj
    obtain⟨wn,rfl⟩:∃wn,wn=BP:=⟨_,rfl⟩
    have cS:=hM.cells
    refine wpAnyH_ready (rs:=[5]) (by kernel_rfl) (by simp) ?_
    refine AllReadyH.cons rfl (fun Kq ie=> ?_) AllReadyH.nil
    go_simp
    have qj:=MX.conv hM
    rw[←XN.out]at qj
    refine ie.out _ _ qj.cells (fun cS=> ?_)
    clear ie Kq hM cS
    try simp only[Act.put,List.setIfInBounds_toArray,List.set_cons_zero,List.set_cons_succ]
    generalize wn.heap.size=cbn at qj ⊢
    generalize Lib.bytesWorld wn 5 SH=BP at qj ⊢
    have hM:=qj
    clear qj
    obtain⟨wn,rfl⟩:∃wn,wn=BP:=⟨_,rfl⟩
    have cS:=hM.cells
    refine wpAnyH_take (i:=6) (v:= ?_) rfl (by kernel_rfl) (by kernel_rfl) (by kernel_rfl) (fun _ _ _ h=>h) (Or.inl ⟨by rfl, ?_⟩) (by assumption) ?_
    rotate_left
    · intro wS jj
      (try obtain⟨lj,lk⟩:=jj)
      go_simp
      (try with_reducible rfl)
    try simp only[Act.put,List.setIfInBounds_toArray,List.set_cons_zero,List.set_cons_succ]
    refine wpAnyH_ready (rs:=[7]) (by kernel_rfl) (by simp) ?_
    refine AllReadyH.cons rfl (fun Kq ie=> ?_) AllReadyH.nil
    rw[if_pos (by rfl)]
    refine wp_load_mid _ _ rfl _ 0 rfl (Rc.bA hd) _ (hM.YE _ rfl).2 Tryz.underlying105 rfl zh ?_
    refine ie.out _ _ hM.cells (fun cS=> ?_)
    clear ie Kq
    try simp only[Act.put,List.setIfInBounds_toArray,List.set_cons_zero,List.set_cons_succ]
    refine wpAnyH_ready (rs:=[8]) (by kernel_rfl) (by simp) ?_
    refine AllReadyH.cons rfl (fun Kq ie=> ?_) AllReadyH.nil
    go_simp
    refine(Ln.out _ _ _ hM).mono ?_
    rintro e w5 ⟨hm,T,s,rfl,ev,hE,HI⟩
    unfold u6 at ev
    dsimp only at ev
    refine ie.out _ _ hE.mx.cells (fun cS=> ?_)
    clear ie Kq hM cS
    try simp only[Act.put,List.setIfInBounds_toArray,List.set_cons_zero,List.set_cons_succ]
    obtain⟨wn,rfl⟩:∃wn,wn=w5:=⟨_,rfl⟩
    have cS:=hE.mx.cells
    refine wpAnyH_take (i:=9) (v:= ?_) rfl (by kernel_rfl) (by kernel_rfl) (by kernel_rfl) (fun _ _ _ h=>h) (Or.inl ⟨by rfl, ?_⟩) (by assumption) ?_
    rotate_left
    · intro wS jj
      (try obtain⟨lj,lk⟩:=jj)
      go_simp
      (try with_reducible rfl)
    try simp only[Act.put,List.setIfInBounds_toArray,List.set_cons_zero,List.set_cons_succ]
    refine wpAnyH_take (i:=10) (v:= ?_) rfl (by kernel_rfl) (by kernel_rfl) (by kernel_rfl) (fun _ _ _ h=>h) (Or.inl ⟨by rfl, ?_⟩) (by assumption) ?_
    rotate_left
    · intro wS jj
      (try obtain⟨lj,lk⟩:=jj)
      go_simp
      (try with_reducible rfl)
    try simp only[Act.put,List.setIfInBounds_toArray,List.set_cons_zero,List.set_cons_succ]
    refine wpAnyH_take (i:=11) (v:= ?_) rfl (by kernel_rfl) (by kernel_rfl) (by kernel_rfl) (fun _ _ _ h=>h) (Or.inl ⟨by rfl, ?_⟩) (by assumption) ?_
    rotate_left
    · intro wS jj
      (try obtain⟨lj,lk⟩:=jj)
      go_simp
      (try with_reducible rfl)
    try simp only[Act.put,List.setIfInBounds_toArray,List.set_cons_zero,List.set_cons_succ]
    refine wpAnyH_ready (rs:=[13]) (by kernel_rfl) (by simp) ?_
    refine AllReadyH.cons rfl (fun Kq ie=> ?_) AllReadyH.nil
    have cE:=aL (Ax.au kl) (.slice rd l.length rc) gm hm bS
    go_simp
    refine ie.out _ _ (ME.jT hE cE) (fun cS=> ?_)
    clear ie Kq
    try simp only[Act.put,List.setIfInBounds_toArray,List.set_cons_zero,List.set_cons_succ]
    refine wpAnyH_take (i:=14) (oi:=⟨some 10,.assign (.tmp 54),4,"read.go:31",#[⟨11,.data⟩,⟨13,.chain⟩,⟨0,.phase⟩,⟨1,.phase⟩,⟨2,.phase⟩,⟨3,.phase⟩,⟨4,.phase⟩,⟨5,.phase⟩,⟨6,.phase⟩,⟨7,.phase⟩,⟨8,.phase⟩,⟨9,.phase⟩,⟨10,.phase⟩,⟨11,.phase⟩,⟨12,.phase⟩,⟨13,.phase⟩],none⟩) (v:= ?_) rfl (by kernel_rfl) (by kernel_rfl) (by kernel_rfl) (fun _ _ _ h=>h) (Or.inl ⟨by rfl, ?_⟩) (by assumption) ?_
    rotate_left
    · intro wS jj
      (try obtain⟨lj,lk⟩:=jj)
      go_simp
      (try with_reducible rfl)
    try simp only[Act.put,List.setIfInBounds_toArray,List.set_cons_zero,List.set_cons_succ]
    refine wpAnyH_done (by kernel_rfl) ?_ _
    go_wp2_with fail
    go_meet
    exact ME.cut hE bS HI.out.1 HI.out.2
 case rest=>
  obtain⟨Ue,x,hm,T,s,ad4,hx,hH,hI,hT,yJ⟩:=hcut.out
  subst Ue
  subst ad4
  have Uh:aI wc rd rc l:=H6.out.rul.below yJ
  obtain⟨G,VZ,g2⟩:=H6.out.Na
  have g1:=VZ.below yJ
  have hSt:NJ wc kl gv (.slice rd l.length rc) gm hm:=OH Uh HE.out g1 g2 hH hI hT HGV.out
  have cE:=aL (Ax.au kl) (.slice rd l.length rc) gm hm bS
  have FA:=gJ (Ax.au kl) rd l.length rc gm hm hd
  have kY:(Ax.au kl).size≤100000:=Nat.le_trans (Ax.jo kl) (by decide)
  have Fc:Below w0.heap.size w0 wc:=H6.out.aZ.trans (yJ.mono H6.out.aZ.size)
  have HBY:Hid (Calls Tryz.prog 44 #[.agg (aO (Ax.au kl) (.slice rd l.length rc) gm hm hd)] wc fun e w9=>e=.returned (.string S)∧Below wc.heap.size wc w9):=by
   rw[HSB.out]
   exact AZ wc kl gv rd l.length rc gm hm hd bS kY hSt
  have HQ:Hid (aI wc rd rc l∧lB wc gm G∧fV G gv∧pG wc hm T s∧En.Inv (En.sR (En.aj kl)) (En.gF gv) s s.found.length∧(∀p,p∈T.map ig↔p∈jL)∧Below w0.heap.size w0 wc):=⟨Uh,g1,g2,hH,hI,hT,Fc⟩
  have hld:∀W:World,Below wc.heap.size wc W→(loadVar 107 ⟨x,0,none⟩).run Tryz.prog W=.ok (.agg (aO (Ax.au kl) (.slice rd l.length rc) gm hm hd)) W:=fun W hW=>run_loadVar_row W x _ _ _ _ _ (by rw[hW.block _ (lt_of_heap hx)];exact hx) Tryz.underlying107 rfl (by rw[cE];kernel_rfl)
  have Th:Hid (∀W:World,Below wc.heap.size wc W→(loadVar 107 ⟨x,0,none⟩).run Tryz.prog W=.ok (.agg (aO (Ax.au kl) (.slice rd l.length rc) gm hm hd)) W):=hld
  have Ui:∀W:World,Below wc.heap.size wc W→W.heap[w.heap.size]?=some (.cells (pZ (.string ⟨#[]⟩) (.slice none 0 0) (.map none) (.map none)) 107 (0,0)):=fun W hW=>by
   have h1:wc.heap[w.heap.size]?=some (.cells (pZ (.string ⟨#[]⟩) (.slice none 0 0) (.map none) (.map none)) 107 (0,0)):=by rw[Fc.block _ (lt_of_heap HZ0.out)];exact HZ0.out
   rw[hW.block _ (lt_of_heap h1)]
   exact h1
  have yF:Hid (∀W:World,Below wc.heap.size wc W→(storeCells ⟨w.heap.size,0,none⟩ (aO (Ax.au kl) (.slice rd l.length rc) gm hm hd).toList).run Tryz.prog W=.ok () (W.setCells w.heap.size 0 (aO (Ax.au kl) (.slice rd l.length rc) gm hm hd).toList)):=fun W hW=>cN (Ui W hW) rfl cE FA
  have HZ9:Hid (∀W:World,Below wc.heap.size wc W→W.heap[w.heap.size]?=some (.cells (pZ (.string ⟨#[]⟩) (.slice none 0 0) (.map none) (.map none)) 107 (0,0))):=Ui
  clear hcut Uh VZ g1 g2 hSt hH hI hT Fc hld Ui Ln hM E9 acj zh FA yJ
  go_wp2_with (first | (refine wpList_load_row rfl _ _ rfl x rfl _ _ _ _ hx9 Tryz.underlying107 rfl (by rw[cE];kernel_rfl) ?_) | (refine sM (by rfl) _ _ rfl x rfl _ _ _ _ hx Tryz.underlying107 rfl (by rw[cE];kernel_rfl) ?_) | (go_at_call 44;refine HBY.out.mono ?_;rintro e w9 ⟨rfl,H9⟩;have hx9:w9.heap[x]?=some (.cells (aO (Ax.au kl) (.slice rd l.length rc) gm hm hd) 107 (0,0)):=(by rw[H9.block _ (lt_of_heap hx)];exact hx);have hs9:=yF.out w9 H9))
  obtain⟨q1,q2,q3,q4,q5,q6,q7⟩:=HQ.out
  have YS:=HZ9.out w9 H9
  have Pk:=fI YS rfl cE
  obtain⟨_,Z4⟩:=bX w.heap.size (aO (Ax.au kl) (.slice rd l.length rc) gm hm hd).toList 0 _ w9 YS (by rw[Array.length_toList,cE];exact Nat.le_refl 36)
  have abe:Below w0.heap.size w0 w9:=q7.trans (H9.mono q7.size)
  have hw9:Below w.heap.size w w9:=HB0.out.trans (abe.mono HB0.out.size)
  refine bodyPost_ret (v:=.tuple #[.agg (aO (Ax.au kl) (.slice rd l.length rc) gm hm hd),.bool true]) ?_ rfl ⟨rd,rc,l,gm,hm,G,T,s,rfl,(q1.below H9).kept Z4 ?_,HE.out,(q2.below H9).kept Z4 ((q2.below H9).kU YS (by decide) (by decide)),q3,(q4.below H9).kept Z4 ((q4.below H9).kU YS (by decide) (by decide) (by decide)),q5,q6,Z4.aK hw9 hw9.size (by simp)⟩
  · refine Eq.trans (cQ rfl _ _ _ _ _ _ _ rfl Pk Tryz.underlying107 rfl (by rw[cE];kernel_rfl)) ?_
    rfl
  · intro b cur U hb e
    simp only[List.mem_cons,List.not_mem_nil,or_false]at hb
    subst hb
    rw[YS]at e
    simp at e
    rw[←e.2]
    decide
end
end Go.Proofs.YtdmicblafmhflaaGreatDoor
