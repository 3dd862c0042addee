/- state.Read of an export, walked. -/
import Derived.Test.YtdmicblafmhflaaGreatDoorC49
set_option linter.unusedSimpArgs false
set_option linter.unusedVariables false
set_option maxHeartbeats 8000000
set_option maxRecDepth 100000
namespace Go.Proofs.YtdmicblafmhflaaGreatDoor
section
open Go.RowKit Go.Maps
theorem UU(a b:List UInt8):(⟨(a++b).toArray⟩:ByteArray).extract 0 a.length=⟨a.toArray⟩:=by
 apply ByteArray.ext
 simp[ByteArray.data_extract]
theorem UH(a b:List UInt8):(⟨(a++b).toArray⟩:ByteArray).extract a.length (a.length+b.length)=⟨b.toArray⟩:=by
 apply ByteArray.ext
 simp[ByteArray.data_extract]
theorem aX.tk{w w':World}{bad:List TypeId}{rd:Option Addr}{rc:Nat}{l:List MR}(h:aX w rd rc l)(hk:kW bad w w')(h1:¬222∈bad)(h2:¬219∈bad)(h3:¬310∈bad):aX w' rd rc l:=by
 obtain⟨S,k1,k2⟩:=hk
 refine h.kept k1 (fun b cur U hb e=> ?_)
 obtain⟨lN,t',Sa,e2,ht⟩:=k2 b hb (lt_of_heap e)
 rw[e]at e2
 simp at e2
 obtain⟨_,e3,_⟩:=e2
 subst e3
 exact⟨fun h=>h1 (h▸ht),fun h=>h2 (h▸ht),fun h=>h3 (h▸ht)⟩
structure RdP(w0 W:World)(kl:List Ax.aA)(gv:Nat→Bool)(rd:Option Addr)(rc:Nat)(l:List MR)(gm pb:Nat):Prop where
 aQ:Below w0.heap.size w0 W
 rul:aX W rd rc l
 NT:∃G,kY W gm G∧gh G gv
 Z7:W.heap[pb]?=some (.cells #[.string (Ax.aC kl),.slice rd l.length rc] 101 (0,0))
theorem FZ(w:World)(kl:List Ax.aA)(gv:Nat→Bool)(hg:fX gv)(hd:List UInt8)(cu:hd.length=32)(hU:eM w):
 Calls Tryz.prog 45 #[.string ⟨(Ex.body kl gv++hd).toArray⟩] w fun e w'=>∃rd rc l gm hm G T s,e=.returned (.tuple #[.agg (aL (Ax.aC kl) (.slice rd (List.length l) rc) gm hm hd),.bool true])∧aX w' rd rc l∧(l.map MR.ay).map Ax.lj=Ax.gR kl∧kY w' gm G∧gh G gv∧pe w' hm T s∧En.Inv (En.sR (En.af kl)) (En.gF gv) s s.found.length∧(∀p,p∈T.map gX↔p∈jW)∧Below w.heap.size w w':=by
 have HGV:Hid (fX gv):=hg
 obtain⟨S,hS⟩:∃S:ByteArray,S=⟨(Ex.body kl gv++hd).toArray⟩:=⟨_,rfl⟩
 have ff:=G6 kl gv
 have hSs:S.size=(Ex.body kl gv).length+32:=by rw[hS];show(Ex.body kl gv++hd).toArray.size=_;simp[cu]
 have hSL:S.extract 0 (Ex.body kl gv).length=⟨(Ex.body kl gv).toArray⟩:=by rw[hS];exact UU _ _
 have hSH:S.extract (Ex.body kl gv).length ((Ex.body kl gv).length+32)=⟨hd.toArray⟩:=by
  have:=UH (Ex.body kl gv) hd
  rw[cu]at this
  rw[hS]
  exact this
 have HSB:Hid (S=⟨(Ex.body kl gv++hd).toArray⟩):=hS
 rw[←hS]
 obtain⟨N,hN⟩:∃N,N=(Ex.body kl gv).length+32:=⟨_,rfl⟩
 rw[←hN]at hSs hSH
 obtain⟨L,hL⟩:∃L,L=(Ex.body kl gv).length:=⟨_,rfl⟩
 rw[←hL]at hN hSL hSH ff
 have yg:decide ((N:Int)<32)=false:=decide_eq_false (by omega)
 have CL:IntKind.i64.wrap ((N:Int)-32)=(L:Int):=by
  rw[IntKind.wrap_i64]
  omega
 have hn3:(0:Int)≤(L:Int):=by omega
 have hn4:(L:Int)≤(N:Int):=by omega
 obtain⟨w0,db⟩:∃w0,w0=w.alloc (.cells (sK (.string ⟨#[]⟩) (.slice none 0 0) (.map none) (.map none)) 107):=⟨_,rfl⟩
 have bU:Below w.heap.size w w0:=by rw[db];exact(Below.refl _ _).alloc (Nat.le_refl _) _
 have mJ:w0.heap[w.heap.size]?=some (.cells (sK (.string ⟨#[]⟩) (.slice none 0 0) (.map none) (.map none)) 107 (0,0)):=by rw[db];exact heap_alloc_new w _
 have SL:Hid (Calls Tryz.prog 80 #[.string ⟨(Ex.body kl gv).toArray⟩] w0 fun e w1=>∃rb,e=.returned (.pointer (some ⟨rb,0,none⟩))∧Hid (w0.heap.size≤rb∧cN w1 rb (Ex.body kl gv) false∧Below w0.heap.size w0 w1)):=(yK w0 (Ex.body kl gv)).mono (fun e w1 ⟨a,b,c⟩=>⟨_,a,Nat.le_refl _,b,c⟩)
 have Cc:Hid (∀w1 rb,w0.heap.size≤rb→cN w1 rb (Ex.body kl gv) false→Below w0.heap.size w0 w1→Calls Tryz.prog 81 #[.pointer (some ⟨rb,0,none⟩)] w1 fun e w2=>e=.returned (.string (Ax.aC kl))∧Hid (cN w2 rb (Rc.aZ (Ex.jH (En.al (En.af kl) gv)).length++((Ex.jH (En.al (En.af kl) gv)).flatMap Rc.aS++gQ.flatMap fun p=>Ex.facts kl gv p.1)) false∧Below w0.heap.size w0 w2)):=by
  intro w1 rb AM hr hb
  have h1:=vP w1 rb _ false hr (by omega)
  have e:Ex.body kl gv=Rc.aS (Ax.aC kl)++(Rc.aZ (Ex.jH (En.al (En.af kl) gv)).length++((Ex.jH (En.al (En.af kl) gv)).flatMap Rc.aS++gQ.flatMap fun p=>Ex.facts kl gv p.1)):=by
   unfold Ex.body
   simp only[List.append_assoc]
  have h2:=Rd.Ad (x:=Ax.aC kl) (Nat.lt_of_le_of_lt (Ax.kA kl) (by decide)) (Rc.aZ (Ex.jH (En.al (En.af kl) gv)).length++((Ex.jH (En.al (En.af kl) gv)).flatMap Rc.aS++gQ.flatMap fun p=>Ex.facts kl gv p.1))
  rw[←e]at h2
  rw[h2]at h1
  refine h1.mono ?_
  rintro e' w2 ⟨rfl,q1,q2⟩
  exact⟨by simp,q1,q2.aU hb hb.size (by simpa using AM)⟩
 have Oz:Hid (∀w2,Calls Tryz.prog 56 #[.string (Ax.aC kl)] w2 fun e w'=>∃rd rc l,e=.returned (.tuple #[.agg #[.string (Ax.aC kl),.slice rd (List.length l) rc],.int .i64 0,.int .i64 0])∧Hid ((l.map MR.ay).map Ax.lj=Ax.gR kl∧aX w' rd rc l∧Below w2.heap.size w2 w')):=fun w2=>(Es kl w2).mono (fun e w' ⟨rd,rc,l,a,b⟩=>⟨rd,rc,l,a,b⟩)
 have HU0:Hid (eM w0):=Utf8Tabs_below hU bU
 have PE:Hid (Below w.heap.size w w0):=bU
 have Z5:Hid (w0.heap[w.heap.size]?=some (.cells (sK (.string ⟨#[]⟩) (.slice none 0 0) (.map none) (.map none)) 107 (0,0))):=mJ
 generalize (⟨(Ex.body kl gv).toArray⟩:ByteArray)=SB at*
 clear hS hN hL ff bU mJ hU hg
 go_enter Tryz.func45,Tryz.ntmps45
 go_upto_region 1 with fail
 have hz:(w.alloc (.cells (sK (.string ⟨#[]⟩) (.slice none 0 0) (.map none) (.map none)) 107))=w0:=db.symm
 unfold sK at hz
 rw[hz]
 clear hz db
 go_upto_region 8 with(first | (go_at_call 80;refine SL.out.mono ?_;rintro e w1 ⟨rb,rfl,H1⟩) | (go_at_call 81;refine(Cc.out w1 rb H1.out.1 H1.out.2.1 H1.out.2.2).mono ?_;rintro e w2 ⟨rfl,H2⟩) | (go_at_call 56;refine(Oz.out w2).mono ?_;rintro e w3 ⟨rd,rc,l,rfl,H3⟩))
 obtain⟨w4,ZH⟩:∃w4,w4=w3.alloc (.cells #[.string (Ax.aC kl),.slice rd l.length rc] 101):=⟨_,rfl⟩
 rw[←ZH]
 obtain⟨he,N3,Ub⟩:=H3.out
 have Ti:Below w3.heap.size w3 w4:=by rw[ZH];exact(Below.refl _ _).alloc (Nat.le_refl _) _
 have Oy:Below w2.heap.size w2 w4:=Ub.trans (Ti.mono Ub.size)
 have Tc:Below w0.heap.size w0 w4:=H2.out.2.trans (Oy.mono H2.out.2.size)
 have za:w4.heap[w3.heap.size]?=some (.cells #[.string (Ax.aC kl),.slice rd l.length rc] 101 (0,0)):=by rw[ZH];exact heap_alloc_new w3 _
 have x0:w4.cell? ⟨w3.heap.size,0,none⟩=some (.string (Ax.aC kl)):=by rw[cell_of_row _ _ 0 _ _ _ za];rfl
 have x1:w4.cell? ⟨w3.heap.size,1,none⟩=some (.slice rd l.length rc):=by rw[cell_of_row _ _ 1 _ _ _ za];rfl
 have EO:aX w4 rd rc l:=N3.below Ti
 obtain⟨ac8,_,EE⟩:=ky EO he
 have cE:l≠[]:=by
  rintro rfl
  simp[Ax.gR,Ax.nO]at he
 have Qe:cN w4 rb (Rc.aZ (Ex.jH (En.al (En.af kl) gv)).length++((Ex.jH (En.al (En.af kl) gv)).flatMap Rc.aS++gQ.flatMap fun p=>Ex.facts kl gv p.1)) false:=by
  have h9:=H2.out.1
  unfold cN at h9 ⊢
  rw[Oy.block _ (lt_of_heap h9)]
  exact h9
 have zU:Hid (Calls Tryz.prog 59 #[.agg #[.string (Ax.aC kl),.slice rd l.length rc]] w4 fun e w5=>∃qd qc,e=.returned (.slice qd 3 qc)∧Hid (w5.ownsRow 0 112 2 (.slice qd 3 qc) 3 (aF gQ)∧Below w4.heap.size w4 w5)):=by
  refine(pw w4 _ rd rc l EO (by omega) (pq he) cE).mono ?_
  rintro e w5 ⟨qd,qc,Q,rfl,q1,q2,q3⟩
  have hQ:Q=gQ:=RA q3.out.1 (fun p=>(q3.out.2 p).trans (eZ he p))
  subst hQ
  exact⟨qd,qc,rfl,aE q1 (Nat.zero_le _),q2⟩
 have HRG:Hid (∀w5 qd qc,w5.ownsRow 0 112 2 (.slice qd 3 qc) 3 (aF gQ)→Below w4.heap.size w4 w5→Calls Tryz.prog 82 #[.pointer (some ⟨rb,0,none⟩),.slice qd 3 qc] w5 fun e w6=>∃gm,e=.returned (.tuple #[.map (some gm),.bool true])∧Hid (RdP w0 w6 kl gv rd rc l gm w3.heap.size)):=by
  intro w5 qd qc hq PG
  have adH:cN w5 rb (Rc.aZ (Ex.jH (En.al (En.af kl) gv)).length++((Ex.jH (En.al (En.af kl) gv)).flatMap Rc.aS++gQ.flatMap fun p=>Ex.facts kl gv p.1)) false:=by
   unfold cN at Qe ⊢
   rw[PG.block _ (lt_of_heap Qe)]
   exact Qe
  refine(yY w0 w5 rb kl gv HGV.out (Tc.trans (PG.mono Tc.size)) H1.out.1 adH HU0.out qd qc hq).mono ?_
  rintro e w6 ⟨gm,rfl,Px,sN⟩
  obtain⟨G,g1,g2,_⟩:=Px.at_
  exact⟨gm,rfl,Px.aQ,(EO.below PG).tk sN (by decide) (by decide) (by decide),⟨G,g1,g2⟩,sN.heap (by rw[PG.block _ (lt_of_heap za)];exact za) (by decide)⟩
 have HE:Hid ((l.map MR.ay).map Ax.lj=Ax.gR kl):=he
 clear ZH N3 Ub Ti Oy Tc za EO ac8 Qe he H1 H2 H3 SL Cc Oz cE
 generalize w3.heap.size=pb at*
 go_upto_region 11 with(first | (go_at_call 59;refine zU.out.mono ?_;rintro e w5 ⟨qd,qc,rfl,H5⟩) | (go_at_call 82;refine(HRG.out w5 qd qc H5.out.1 H5.out.2).mono ?_;rintro e w6 ⟨gm,rfl,H6⟩))
 clear zU HRG H5 x0 x1
 have JE:Hid (∀b cb W,MX w6 pb (Ax.aC kl) (.slice rd l.length rc) hd b cb W→Calls Tryz.prog 57 #[.agg #[.string (Ax.aC kl),.slice rd l.length rc],.map (some gm),.agg (Rc.bP hd).toArray] W fun e w'=>∃hm T s,e=.returned (.tuple #[.agg (aL (Ax.aC kl) (.slice rd l.length rc) gm hm hd),.bool true])∧uN (aL (Ax.aC kl) (.slice rd l.length rc) gm hm hd) b w'∧ME w6 pb (Ax.aC kl) (.slice rd l.length rc) hd hm T s b cb w'∧Hid (En.Inv (En.sR (En.af kl)) (En.gF gv) s s.found.length∧∀p,p∈T.map gX↔p∈jW)):=by
  intro b cb W hW
  obtain⟨G,Wi,g2⟩:=H6.out.NT
  have g1:=Wi.below hW.aQ
  have he:=HE.out
  obtain⟨Ce,_,EE⟩:=ky (H6.out.rul.below hW.aQ) he
  have cE:l≠[]:=by
   rintro rfl
   simp[Ax.gR,Ax.nO]at he
  have dj:∀Q,Pd.vp Q→(∀p,p∈Q↔p∈bQ (l.map MR.ay))→∃s,fu (l.map MR.ay) (dz Q G)=some s∧En.Inv (En.sR (En.af kl)) (En.gF gv) s s.found.length:=fun Q _ hQ=>om he g2 g1.names hQ
  refine(xA W _ rd rc l Ce EE (pq he) cE (fun p hp=>Nat.le_trans (dO p ((eZ he p).1 hp)) (by decide)) gm G g1 ?_ (Nat.le_trans (g2.sum g1.names (fun t ht=>bW.ord (g1.bR t ht))) (by decide)) hd cu ?_).mono ?_
  · intro p hp
    obtain⟨t,ht,e,_⟩:=g2.has (p:=p.1) (n:=p.2) ((eZ he p).1 hp)
    rw[←e]
    exact List.mem_map_of_mem ht
  · intro Q h1 h2
    obtain⟨s,e,_⟩:=dj Q h1 h2
    rw[e]
    rfl
  · rintro e w' ⟨hm,T,s,Q,rfl,m1,m2,m3,m4,m5,m6,m7⟩
    have h2:=hW.below m7
    obtain⟨s',e1,e2⟩:=dj Q m1 m2
    have hs:s'=s:=by
     rw[m3]at e1
     exact(Option.some.inj e1).symm
    subst hs
    refine⟨hm,T,s',rfl,Om h2 (aJ _ _ _ _ cu) (gO _ _ _ _ _ _ _),⟨h2,m4, ?_⟩,e2, ?_⟩
    · intro x hx y hy
      obtain⟨_,Z,k2,_⟩:=hW.cP x hx
      have k3:=lt_of_heap k2
      have:=m6 y hy
      omega
    · intro p
      rw[m5,List.mem_reverse,m2]
      exact eZ he p
 have hM:MX w6 pb (Ax.aC kl) (.slice rd l.length rc) hd none none w6.drew:=by
  refine MX.drew ⟨Below.refl _ _,lt_of_heap H6.out.Z7,by rw[cell_of_row _ _ _ _ _ _ H6.out.Z7];rfl,by rw[cell_of_row _ _ _ _ _ _ H6.out.Z7];rfl,(fun x h=>by cases h),(fun x h=>by cases h)⟩
 have akx:=lt_of_heap H6.out.Z7
 obtain⟨SH,Qc⟩:∃SH:ByteArray,SH=⟨hd.toArray⟩:=⟨_,rfl⟩
 have XC:Hid (SH=⟨hd.toArray⟩):=Qc
 rw[←Qc]at hSH
 have aaK:SH.size=32:=by rw[Qc];exact cu
 have PV:∀W,(convert 9 63 (.string SH)).run Tryz.prog W=.ok (.slice (some ⟨W.heap.size,0,none⟩) 32 (grownCap W 32 0 5)) (Lib.bytesWorld W 5 SH):=by
  intro W
  have h9:=Lib.run_convert_string_bytes (P:=Tryz.prog) W 9 63 5 SH Tryz.underlying9 Tryz.underlying63 Tryz.underlying5
  rw[aaK]at h9
  exact h9
 have aaT:=UZ
 have J7:(Tryz.prog.info? 105).map (·.size)=some (Rc.bP hd).length:=by
  rw[Rc.bN,cu]
  kernel_rfl
 clear Qc
 go_cut [11,10]from 43 (fun v11 v10 wx=>Hid (R9 w6 kl (.slice rd l.length rc) gm gv hd v11 v10 wx))
 case first=>
  refine wp_region_held_drew (S:=fun W=>W.cell? ⟨pb,0,none⟩=some (.string (Ax.aC kl))∧W.cell? ⟨pb,1,none⟩=some (.slice rd l.length rc)) (by kernel_rfl) hM.cells (fun cT=> ?_)
  generalize w6.drew=wn at hM cT ⊢
  refine wpAnyH_take (i:=0) (v:= ?_) rfl (by kernel_rfl) (by kernel_rfl) (by kernel_rfl) (fun _ _ _ h=>h) (Or.inl ⟨by rfl, ?_⟩) (by assumption) ?_
  rotate_left
  · intro wS jB
    (try obtain⟨lk,lr⟩:=jB)
    go_simp
    (try with_reducible rfl)
  try simp only[Act.put,List.setIfInBounds_toArray,List.set_cons_zero,List.set_cons_succ]
  refine wpAnyH_take (i:=1) (v:= ?_) rfl (by kernel_rfl) (by kernel_rfl) (by kernel_rfl) (fun _ _ _ h=>h) (Or.inl ⟨by rfl, ?_⟩) (by assumption) ?_
  rotate_left
  · intro wS jB
    (try obtain⟨lk,lr⟩:=jB)
    go_simp
    (try with_reducible rfl)
  try simp only[Act.put,List.setIfInBounds_toArray,List.set_cons_zero,List.set_cons_succ]
  refine wpAnyH_take (i:=2) (v:= ?_) rfl (by kernel_rfl) (by kernel_rfl) (by kernel_rfl) (fun _ _ _ h=>h) (Or.inl ⟨by rfl, ?_⟩) (by assumption) ?_
  rotate_left
  · intro wS jB
    (try obtain⟨lk,lr⟩:=jB)
    go_simp
    (try with_reducible rfl)
  try simp only[Act.put,List.setIfInBounds_toArray,List.set_cons_zero,List.set_cons_succ]
  refine wpAnyH_take (i:=3) (v:= ?_) rfl (by kernel_rfl) (by kernel_rfl) (by kernel_rfl) (fun _ _ _ h=>h) (Or.inl ⟨by rfl, ?_⟩) (by assumption) ?_
  rotate_left
  · intro wS jB
    (try obtain⟨lk,lr⟩:=jB)
    go_simp
    (try with_reducible rfl)
  try simp only[Act.put,List.setIfInBounds_toArray,List.set_cons_zero,List.set_cons_succ]
  refine wpAnyH_take (i:=4) (v:= ?_) rfl (by kernel_rfl) (by kernel_rfl) (by kernel_rfl) (fun _ _ _ h=>h) (Or.inl ⟨by rfl, ?_⟩) (by assumption) ?_
  rotate_left
  · intro wS jB
    (try obtain⟨lk,lr⟩:=jB)
    go_simp
    (try with_reducible rfl)
  try simp only[Act.put,List.setIfInBounds_toArray,List.set_cons_zero,List.set_cons_succ]
  refine wpAnyH_ready (rs:=[5,12]) (by kernel_rfl) (by simp) ?_
  refine AllReadyH.cons rfl (fun Kq ix=> ?_) (AllReadyH.cons rfl (fun Kq ix=> ?_) AllReadyH.nil)
  · go_simp
    have qB:=MX.conv hM
    rw[←XC.out]at qB
    refine ix.out _ _ qB.cells (fun cT=> ?_)
    clear ix Kq hM cT
    try simp only[Act.put,List.setIfInBounds_toArray,List.set_cons_zero,List.set_cons_succ]
    generalize wn.heap.size=cbn at qB ⊢
    generalize Lib.bytesWorld wn 5 SH=Bi at qB ⊢
    have hM:=qB
    clear qB
    obtain⟨wn,rfl⟩:∃wn,wn=Bi:=⟨_,rfl⟩
    have cT:=hM.cells
    refine wpAnyH_take (i:=6) (v:= ?_) rfl (by kernel_rfl) (by kernel_rfl) (by kernel_rfl) (fun _ _ _ h=>h) (Or.inl ⟨by rfl, ?_⟩) (by assumption) ?_
    rotate_left
    · intro wS jB
      (try obtain⟨lk,lr⟩:=jB)
      go_simp
      (try with_reducible rfl)
    try simp only[Act.put,List.setIfInBounds_toArray,List.set_cons_zero,List.set_cons_succ]
    refine wpAnyH_ready (rs:=[7,12]) (by kernel_rfl) (by simp) ?_
    refine AllReadyH.cons rfl (fun Kq ix=> ?_) (AllReadyH.cons rfl (fun Kq ix=> ?_) AllReadyH.nil)
    · rw[if_pos (by rfl)]
      refine wp_load_mid _ _ rfl _ 0 rfl (Rc.bP hd) _ (hM.Wt _ rfl).2 Tryz.underlying105 rfl J7 ?_
      refine ix.out _ _ hM.cells (fun cT=> ?_)
      clear ix Kq
      try simp only[Act.put,List.setIfInBounds_toArray,List.set_cons_zero,List.set_cons_succ]
      refine wpAnyH_ready (rs:=[8,12]) (by kernel_rfl) (by simp) ?_
      refine AllReadyH.cons rfl (fun Kq ix=> ?_) (AllReadyH.cons rfl (fun Kq ix=> ?_) AllReadyH.nil)
      · go_simp
        refine(JE.out _ _ _ hM).mono ?_
        rintro e w5 ⟨hm,T,s,rfl,eL,hE,HI⟩
        unfold uN at eL
        dsimp only at eL
        refine ix.out _ _ hE.mx.cells (fun cT=> ?_)
        clear ix Kq hM cT
        try simp only[Act.put,List.setIfInBounds_toArray,List.set_cons_zero,List.set_cons_succ]
        obtain⟨wn,rfl⟩:∃wn,wn=w5:=⟨_,rfl⟩
        have cT:=hE.mx.cells
        refine wpAnyH_take (i:=9) (v:= ?_) rfl (by kernel_rfl) (by kernel_rfl) (by kernel_rfl) (fun _ _ _ h=>h) (Or.inl ⟨by rfl, ?_⟩) (by assumption) ?_
        rotate_left
        · intro wS jB
          (try obtain⟨lk,lr⟩:=jB)
          go_simp
          (try with_reducible rfl)
        try simp only[Act.put,List.setIfInBounds_toArray,List.set_cons_zero,List.set_cons_succ]
        refine wpAnyH_take (i:=10) (v:= ?_) rfl (by kernel_rfl) (by kernel_rfl) (by kernel_rfl) (fun _ _ _ h=>h) (Or.inl ⟨by rfl, ?_⟩) (by assumption) ?_
        rotate_left
        · intro wS jB
          (try obtain⟨lk,lr⟩:=jB)
          go_simp
          (try with_reducible rfl)
        try simp only[Act.put,List.setIfInBounds_toArray,List.set_cons_zero,List.set_cons_succ]
        refine wpAnyH_take (i:=11) (v:= ?_) rfl (by kernel_rfl) (by kernel_rfl) (by kernel_rfl) (fun _ _ _ h=>h) (Or.inl ⟨by rfl, ?_⟩) (by assumption) ?_
        rotate_left
        · intro wS jB
          (try obtain⟨lk,lr⟩:=jB)
          go_simp
          (try with_reducible rfl)
        try simp only[Act.put,List.setIfInBounds_toArray,List.set_cons_zero,List.set_cons_succ]
        refine wpAnyH_ready (rs:=[12]) (by kernel_rfl) (by simp) ?_
        refine AllReadyH.cons rfl (fun Kq ix=> ?_) AllReadyH.nil
        go_simp
        obtain⟨Bi,mY⟩:∃Bi,Bi=wn.alloc (.cells (sK (.string ⟨#[]⟩) (.slice none 0 0) (.map none) (.map none)) 107):=⟨_,rfl⟩
        have RL:=ME.alloc hE (Z:=(sK (.string ⟨#[]⟩) (.slice none 0 0) (.map none) (.map none))) rfl
        have D0:=eL (sK (.string ⟨#[]⟩) (.slice none 0 0) (.map none) (.map none)) rfl
        rw[←mY]at RL D0
        unfold sK at mY
        rw[←mY]
        refine ix.out _ _ RL.mx.cells (fun cT=> ?_)
        clear ix Kq hE eL cT mY
        try simp only[Act.put,List.setIfInBounds_toArray,List.set_cons_zero,List.set_cons_succ]
        generalize wn.heap.size=xbn at RL D0 ⊢
        have hE:=RL
        have eL:=D0
        clear RL D0
        obtain⟨wn,rfl⟩:∃wn,wn=Bi:=⟨_,rfl⟩
        have cT:=hE.mx.cells
        refine wpAnyH_ready (rs:=[13]) (by kernel_rfl) (by simp) ?_
        refine AllReadyH.cons rfl (fun Kq ix=> ?_) AllReadyH.nil
        have cR:=aJ (Ax.aC kl) (.slice rd l.length rc) gm hm cu
        go_simp
        refine ix.out _ _ (ME.j5 hE cR) (fun cT=> ?_)
        clear ix Kq
        try simp only[Act.put,List.setIfInBounds_toArray,List.set_cons_zero,List.set_cons_succ]
        refine wpAnyH_take (i:=14) (oi:=⟨some 10,.assign (.tmp 54),4,"read.go:31",#[⟨11,.data⟩,⟨13,.chain⟩,⟨0,.phase⟩,⟨1,.phase⟩,⟨2,.phase⟩,⟨3,.phase⟩,⟨4,.phase⟩,⟨5,.phase⟩,⟨6,.phase⟩,⟨7,.phase⟩,⟨8,.phase⟩,⟨9,.phase⟩,⟨10,.phase⟩,⟨11,.phase⟩,⟨12,.phase⟩,⟨13,.phase⟩],none⟩) (v:= ?_) rfl (by kernel_rfl) (by kernel_rfl) (by kernel_rfl) (fun _ _ _ h=>h) (Or.inl ⟨by rfl, ?_⟩) (by assumption) ?_
        rotate_left
        · intro wS jB
          (try obtain⟨lk,lr⟩:=jB)
          go_simp
          (try with_reducible rfl)
        try simp only[Act.put,List.setIfInBounds_toArray,List.set_cons_zero,List.set_cons_succ]
        refine wpAnyH_done (by kernel_rfl) ?_ _
        go_wp2_with fail
        go_meet
        exact ME.cut hE cu HI.out.1 HI.out.2
      · go_simp
        obtain⟨Bi,mY⟩:∃Bi,Bi=wn.alloc (.cells (sK (.string ⟨#[]⟩) (.slice none 0 0) (.map none) (.map none)) 107):=⟨_,rfl⟩
        have qB:=MX.alloc hM (Z:=(sK (.string ⟨#[]⟩) (.slice none 0 0) (.map none) (.map none))) rfl
        rw[←mY]at qB
        unfold sK at mY
        rw[←mY]
        refine ix.out _ _ qB.cells (fun cT=> ?_)
        clear ix Kq hM cT mY
        try simp only[Act.put,List.setIfInBounds_toArray,List.set_cons_zero,List.set_cons_succ]
        generalize wn.heap.size=xbn at qB ⊢
        have hM:=qB
        clear qB
        obtain⟨wn,rfl⟩:∃wn,wn=Bi:=⟨_,rfl⟩
        have cT:=hM.cells
        refine wpAnyH_ready (rs:=[8]) (by kernel_rfl) (by simp) ?_
        refine AllReadyH.cons rfl (fun Kq ix=> ?_) AllReadyH.nil
        go_simp
        refine(JE.out _ _ _ hM).mono ?_
        rintro e w5 ⟨hm,T,s,rfl,eL,hE,HI⟩
        unfold uN at eL
        dsimp only at eL
        refine ix.out _ _ hE.mx.cells (fun cT=> ?_)
        clear ix Kq hM cT
        try simp only[Act.put,List.setIfInBounds_toArray,List.set_cons_zero,List.set_cons_succ]
        obtain⟨wn,rfl⟩:∃wn,wn=w5:=⟨_,rfl⟩
        have cT:=hE.mx.cells
        refine wpAnyH_take (i:=9) (v:= ?_) rfl (by kernel_rfl) (by kernel_rfl) (by kernel_rfl) (fun _ _ _ h=>h) (Or.inl ⟨by rfl, ?_⟩) (by assumption) ?_
        rotate_left
        · intro wS jB
          (try obtain⟨lk,lr⟩:=jB)
          go_simp
          (try with_reducible rfl)
        try simp only[Act.put,List.setIfInBounds_toArray,List.set_cons_zero,List.set_cons_succ]
        refine wpAnyH_take (i:=10) (v:= ?_) rfl (by kernel_rfl) (by kernel_rfl) (by kernel_rfl) (fun _ _ _ h=>h) (Or.inl ⟨by rfl, ?_⟩) (by assumption) ?_
        rotate_left
        · intro wS jB
          (try obtain⟨lk,lr⟩:=jB)
          go_simp
          (try with_reducible rfl)
        try simp only[Act.put,List.setIfInBounds_toArray,List.set_cons_zero,List.set_cons_succ]
        refine wpAnyH_take (i:=11) (v:= ?_) rfl (by kernel_rfl) (by kernel_rfl) (by kernel_rfl) (fun _ _ _ h=>h) (Or.inl ⟨by rfl, ?_⟩) (by assumption) ?_
        rotate_left
        · intro wS jB
          (try obtain⟨lk,lr⟩:=jB)
          go_simp
          (try with_reducible rfl)
        try simp only[Act.put,List.setIfInBounds_toArray,List.set_cons_zero,List.set_cons_succ]
        refine wpAnyH_ready (rs:=[13]) (by kernel_rfl) (by simp) ?_
        refine AllReadyH.cons rfl (fun Kq ix=> ?_) AllReadyH.nil
        have cR:=aJ (Ax.aC kl) (.slice rd l.length rc) gm hm cu
        go_simp
        refine ix.out _ _ (ME.j5 hE cR) (fun cT=> ?_)
        clear ix Kq
        try simp only[Act.put,List.setIfInBounds_toArray,List.set_cons_zero,List.set_cons_succ]
        refine wpAnyH_take (i:=14) (oi:=⟨some 10,.assign (.tmp 54),4,"read.go:31",#[⟨11,.data⟩,⟨13,.chain⟩,⟨0,.phase⟩,⟨1,.phase⟩,⟨2,.phase⟩,⟨3,.phase⟩,⟨4,.phase⟩,⟨5,.phase⟩,⟨6,.phase⟩,⟨7,.phase⟩,⟨8,.phase⟩,⟨9,.phase⟩,⟨10,.phase⟩,⟨11,.phase⟩,⟨12,.phase⟩,⟨13,.phase⟩],none⟩) (v:= ?_) rfl (by kernel_rfl) (by kernel_rfl) (by kernel_rfl) (fun _ _ _ h=>h) (Or.inl ⟨by rfl, ?_⟩) (by assumption) ?_
        rotate_left
        · intro wS jB
          (try obtain⟨lk,lr⟩:=jB)
          go_simp
          (try with_reducible rfl)
        try simp only[Act.put,List.setIfInBounds_toArray,List.set_cons_zero,List.set_cons_succ]
        refine wpAnyH_done (by kernel_rfl) ?_ _
        go_wp2_with fail
        go_meet
        exact ME.cut hE cu HI.out.1 HI.out.2
    · go_simp
      obtain⟨Bi,mY⟩:∃Bi,Bi=wn.alloc (.cells (sK (.string ⟨#[]⟩) (.slice none 0 0) (.map none) (.map none)) 107):=⟨_,rfl⟩
      have qB:=MX.alloc hM (Z:=(sK (.string ⟨#[]⟩) (.slice none 0 0) (.map none) (.map none))) rfl
      rw[←mY]at qB
      unfold sK at mY
      rw[←mY]
      refine ix.out _ _ qB.cells (fun cT=> ?_)
      clear ix Kq hM cT mY
      try simp only[Act.put,List.setIfInBounds_toArray,List.set_cons_zero,List.set_cons_succ]
      generalize wn.heap.size=xbn at qB ⊢
      have hM:=qB
      clear qB
      obtain⟨wn,rfl⟩:∃wn,wn=Bi:=⟨_,rfl⟩
      have cT:=hM.cells
      refine wpAnyH_ready (rs:=[7]) (by kernel_rfl) (by simp) ?_
      refine AllReadyH.cons rfl (fun Kq ix=> ?_) AllReadyH.nil
      rw[if_pos (by rfl)]
      refine wp_load_mid _ _ rfl _ 0 rfl (Rc.bP hd) _ (hM.Wt _ rfl).2 Tryz.underlying105 rfl J7 ?_
      refine ix.out _ _ hM.cells (fun cT=> ?_)
      clear ix Kq
      try simp only[Act.put,List.setIfInBounds_toArray,List.set_cons_zero,List.set_cons_succ]
      refine wpAnyH_ready (rs:=[8]) (by kernel_rfl) (by simp) ?_
      refine AllReadyH.cons rfl (fun Kq ix=> ?_) AllReadyH.nil
      go_simp
      refine(JE.out _ _ _ hM).mono ?_
      rintro e w5 ⟨hm,T,s,rfl,eL,hE,HI⟩
      unfold uN at eL
      dsimp only at eL
      refine ix.out _ _ hE.mx.cells (fun cT=> ?_)
      clear ix Kq hM cT
      try simp only[Act.put,List.setIfInBounds_toArray,List.set_cons_zero,List.set_cons_succ]
      obtain⟨wn,rfl⟩:∃wn,wn=w5:=⟨_,rfl⟩
      have cT:=hE.mx.cells
      refine wpAnyH_take (i:=9) (v:= ?_) rfl (by kernel_rfl) (by kernel_rfl) (by kernel_rfl) (fun _ _ _ h=>h) (Or.inl ⟨by rfl, ?_⟩) (by assumption) ?_
      rotate_left
      · intro wS jB
        (try obtain⟨lk,lr⟩:=jB)
        go_simp
        (try with_reducible rfl)
      try simp only[Act.put,List.setIfInBounds_toArray,List.set_cons_zero,List.set_cons_succ]
      refine wpAnyH_take (i:=10) (v:= ?_) rfl (by kernel_rfl) (by kernel_rfl) (by kernel_rfl) (fun _ _ _ h=>h) (Or.inl ⟨by rfl, ?_⟩) (by assumption) ?_
      rotate_left
      · intro wS jB
        (try obtain⟨lk,lr⟩:=jB)
        go_simp
        (try with_reducible rfl)
      try simp only[Act.put,List.setIfInBounds_toArray,List.set_cons_zero,List.set_cons_succ]
      refine wpAnyH_take (i:=11) (v:= ?_) rfl (by kernel_rfl) (by kernel_rfl) (by kernel_rfl) (fun _ _ _ h=>h) (Or.inl ⟨by rfl, ?_⟩) (by assumption) ?_
      rotate_left
      · intro wS jB
        (try obtain⟨lk,lr⟩:=jB)
        go_simp
        (try with_reducible rfl)
      try simp only[Act.put,List.setIfInBounds_toArray,List.set_cons_zero,List.set_cons_succ]
      refine wpAnyH_ready (rs:=[13]) (by kernel_rfl) (by simp) ?_
      refine AllReadyH.cons rfl (fun Kq ix=> ?_) AllReadyH.nil
      have cR:=aJ (Ax.aC kl) (.slice rd l.length rc) gm hm cu
      go_simp
      refine ix.out _ _ (ME.j5 hE cR) (fun cT=> ?_)
      clear ix Kq
      try simp only[Act.put,List.setIfInBounds_toArray,List.set_cons_zero,List.set_cons_succ]
      refine wpAnyH_take (i:=14) (oi:=⟨some 10,.assign (.tmp 54),4,"read.go:31",#[⟨11,.data⟩,⟨13,.chain⟩,⟨0,.phase⟩,⟨1,.phase⟩,⟨2,.phase⟩,⟨3,.phase⟩,⟨4,.phase⟩,⟨5,.phase⟩,⟨6,.phase⟩,⟨7,.phase⟩,⟨8,.phase⟩,⟨9,.phase⟩,⟨10,.phase⟩,⟨11,.phase⟩,⟨12,.phase⟩,⟨13,.phase⟩],none⟩) (v:= ?_) rfl (by kernel_rfl) (by kernel_rfl) (by kernel_rfl) (fun _ _ _ h=>h) (Or.inl ⟨by rfl, ?_⟩) (by assumption) ?_
      rotate_left
      · intro wS jB
        (try obtain⟨lk,lr⟩:=jB)
        go_simp
        (try with_reducible rfl)
      try simp only[Act.put,List.setIfInBounds_toArray,List.set_cons_zero,List.set_cons_succ]
      refine wpAnyH_done (by kernel_rfl) ?_ _
      go_wp2_with fail
      go_meet
      exact ME.cut hE cu HI.out.1 HI.out.2
  · go_simp
    obtain⟨Bi,mY⟩:∃Bi,Bi=wn.alloc (.cells (sK (.string ⟨#[]⟩) (.slice none 0 0) (.map none) (.map none)) 107):=⟨_,rfl⟩
    have qB:=MX.alloc hM (Z:=(sK (.string ⟨#[]⟩) (.slice none 0 0) (.map none) (.map none))) rfl
    rw[←mY]at qB
    unfold sK at mY
    rw[←mY]
    refine ix.out _ _ qB.cells (fun cT=> ?_)
    clear ix Kq hM cT mY
    try simp only[Act.put,List.setIfInBounds_toArray,List.set_cons_zero,List.set_cons_succ]
    generalize wn.heap.size=xbn at qB ⊢
    have hM:=qB
    clear qB
    obtain⟨wn,rfl⟩:∃wn,wn=Bi:=⟨_,rfl⟩
    have cT:=hM.cells
    refine wpAnyH_ready (rs:=[5]) (by kernel_rfl) (by simp) ?_
    refine AllReadyH.cons rfl (fun Kq ix=> ?_) AllReadyH.nil
    go_simp
    have qB:=MX.conv hM
    rw[←XC.out]at qB
    refine ix.out _ _ qB.cells (fun cT=> ?_)
    clear ix Kq hM cT
    try simp only[Act.put,List.setIfInBounds_toArray,List.set_cons_zero,List.set_cons_succ]
    generalize wn.heap.size=cbn at qB ⊢
    generalize Lib.bytesWorld wn 5 SH=Bi at qB ⊢
    have hM:=qB
    clear qB
    obtain⟨wn,rfl⟩:∃wn,wn=Bi:=⟨_,rfl⟩
    have cT:=hM.cells
    refine wpAnyH_take (i:=6) (v:= ?_) rfl (by kernel_rfl) (by kernel_rfl) (by kernel_rfl) (fun _ _ _ h=>h) (Or.inl ⟨by rfl, ?_⟩) (by assumption) ?_
    rotate_left
    · intro wS jB
      (try obtain⟨lk,lr⟩:=jB)
      go_simp
      (try with_reducible rfl)
    try simp only[Act.put,List.setIfInBounds_toArray,List.set_cons_zero,List.set_cons_succ]
    refine wpAnyH_ready (rs:=[7]) (by kernel_rfl) (by simp) ?_
    refine AllReadyH.cons rfl (fun Kq ix=> ?_) AllReadyH.nil
    rw[if_pos (by rfl)]
    refine wp_load_mid _ _ rfl _ 0 rfl (Rc.bP hd) _ (hM.Wt _ rfl).2 Tryz.underlying105 rfl J7 ?_
    refine ix.out _ _ hM.cells (fun cT=> ?_)
    clear ix Kq
    try simp only[Act.put,List.setIfInBounds_toArray,List.set_cons_zero,List.set_cons_succ]
    refine wpAnyH_ready (rs:=[8]) (by kernel_rfl) (by simp) ?_
    refine AllReadyH.cons rfl (fun Kq ix=> ?_) AllReadyH.nil
    go_simp
    refine(JE.out _ _ _ hM).mono ?_
    rintro e w5 ⟨hm,T,s,rfl,eL,hE,HI⟩
    unfold uN at eL
    dsimp only at eL
    refine ix.out _ _ hE.mx.cells (fun cT=> ?_)
    clear ix Kq hM cT
    try simp only[Act.put,List.setIfInBounds_toArray,List.set_cons_zero,List.set_cons_succ]
    obtain⟨wn,rfl⟩:∃wn,wn=w5:=⟨_,rfl⟩
    have cT:=hE.mx.cells
    refine wpAnyH_take (i:=9) (v:= ?_) rfl (by kernel_rfl) (by kernel_rfl) (by kernel_rfl) (fun _ _ _ h=>h) (Or.inl ⟨by rfl, ?_⟩) (by assumption) ?_
    rotate_left
    · intro wS jB
      (try obtain⟨lk,lr⟩:=jB)
      go_simp
      (try with_reducible rfl)
    try simp only[Act.put,List.setIfInBounds_toArray,List.set_cons_zero,List.set_cons_succ]
    refine wpAnyH_take (i:=10) (v:= ?_) rfl (by kernel_rfl) (by kernel_rfl) (by kernel_rfl) (fun _ _ _ h=>h) (Or.inl ⟨by rfl, ?_⟩) (by assumption) ?_
    rotate_left
    · intro wS jB
      (try obtain⟨lk,lr⟩:=jB)
      go_simp
      (try with_reducible rfl)
    try simp only[Act.put,List.setIfInBounds_toArray,List.set_cons_zero,List.set_cons_succ]
    refine wpAnyH_take (i:=11) (v:= ?_) rfl (by kernel_rfl) (by kernel_rfl) (by kernel_rfl) (fun _ _ _ h=>h) (Or.inl ⟨by rfl, ?_⟩) (by assumption) ?_
    rotate_left
    · intro wS jB
      (try obtain⟨lk,lr⟩:=jB)
      go_simp
      (try with_reducible rfl)
    try simp only[Act.put,List.setIfInBounds_toArray,List.set_cons_zero,List.set_cons_succ]
    refine wpAnyH_ready (rs:=[13]) (by kernel_rfl) (by simp) ?_
    refine AllReadyH.cons rfl (fun Kq ix=> ?_) AllReadyH.nil
    have cR:=aJ (Ax.aC kl) (.slice rd l.length rc) gm hm cu
    go_simp
    refine ix.out _ _ (ME.j5 hE cR) (fun cT=> ?_)
    clear ix Kq
    try simp only[Act.put,List.setIfInBounds_toArray,List.set_cons_zero,List.set_cons_succ]
    refine wpAnyH_take (i:=14) (oi:=⟨some 10,.assign (.tmp 54),4,"read.go:31",#[⟨11,.data⟩,⟨13,.chain⟩,⟨0,.phase⟩,⟨1,.phase⟩,⟨2,.phase⟩,⟨3,.phase⟩,⟨4,.phase⟩,⟨5,.phase⟩,⟨6,.phase⟩,⟨7,.phase⟩,⟨8,.phase⟩,⟨9,.phase⟩,⟨10,.phase⟩,⟨11,.phase⟩,⟨12,.phase⟩,⟨13,.phase⟩],none⟩) (v:= ?_) rfl (by kernel_rfl) (by kernel_rfl) (by kernel_rfl) (fun _ _ _ h=>h) (Or.inl ⟨by rfl, ?_⟩) (by assumption) ?_
    rotate_left
    · intro wS jB
      (try obtain⟨lk,lr⟩:=jB)
      go_simp
      (try with_reducible rfl)
    try simp only[Act.put,List.setIfInBounds_toArray,List.set_cons_zero,List.set_cons_succ]
    refine wpAnyH_done (by kernel_rfl) ?_ _
    go_wp2_with fail
    go_meet
    exact ME.cut hE cu HI.out.1 HI.out.2
 case rest=>
  obtain⟨TA,x,hm,T,s,acn,hx,hH,hI,hT,yL⟩:=hcut.out
  subst TA
  subst acn
  have VA:aX wc rd rc l:=H6.out.rul.below yL
  obtain⟨G,Wi,g2⟩:=H6.out.NT
  have g1:=Wi.below yL
  have hSt:Oe wc kl gv (.slice rd l.length rc) gm hm:=Nv VA HE.out g1 g2 hH hI hT HGV.out
  have cR:=aJ (Ax.aC kl) (.slice rd l.length rc) gm hm cu
  have FR:=gO (Ax.aC kl) rd l.length rc gm hm hd
  have la:(Ax.aC kl).size≤100000:=Nat.le_trans (Ax.kA kl) (by decide)
  have F1:Below w0.heap.size w0 wc:=H6.out.aQ.trans (yL.mono H6.out.aQ.size)
  have HBY:Hid (Calls Tryz.prog 44 #[.agg (aL (Ax.aC kl) (.slice rd l.length rc) gm hm hd)] wc fun e w9=>e=.returned (.string S)∧Below wc.heap.size wc w9):=by
   rw[HSB.out]
   exact zB wc kl gv rd l.length rc gm hm hd cu la hSt
  have HQ:Hid (aX wc rd rc l∧kY wc gm G∧gh G gv∧pe wc hm T s∧En.Inv (En.sR (En.af kl)) (En.gF gv) s s.found.length∧(∀p,p∈T.map gX↔p∈jW)∧Below w0.heap.size w0 wc):=⟨VA,g1,g2,hH,hI,hT,F1⟩
  have hld:∀W:World,Below wc.heap.size wc W→(loadVar 107 ⟨x,0,none⟩).run Tryz.prog W=.ok (.agg (aL (Ax.aC kl) (.slice rd l.length rc) gm hm hd)) W:=fun W hW=>run_loadVar_row W x _ _ _ _ _ (by rw[hW.block _ (lt_of_heap hx)];exact hx) Tryz.underlying107 rfl (by rw[cR];kernel_rfl)
  have HLD:Hid (∀W:World,Below wc.heap.size wc W→(loadVar 107 ⟨x,0,none⟩).run Tryz.prog W=.ok (.agg (aL (Ax.aC kl) (.slice rd l.length rc) gm hm hd)) W):=hld
  have Tl:∀W:World,Below wc.heap.size wc W→W.heap[w.heap.size]?=some (.cells (sK (.string ⟨#[]⟩) (.slice none 0 0) (.map none) (.map none)) 107 (0,0)):=fun W hW=>by
   have h1:wc.heap[w.heap.size]?=some (.cells (sK (.string ⟨#[]⟩) (.slice none 0 0) (.map none) (.map none)) 107 (0,0)):=by rw[F1.block _ (lt_of_heap Z5.out)];exact Z5.out
   rw[hW.block _ (lt_of_heap h1)]
   exact h1
  have yk:Hid (∀W:World,Below wc.heap.size wc W→(storeCells ⟨w.heap.size,0,none⟩ (aL (Ax.aC kl) (.slice rd l.length rc) gm hm hd).toList).run Tryz.prog W=.ok () (W.setCells w.heap.size 0 (aL (Ax.aC kl) (.slice rd l.length rc) gm hm hd).toList)):=fun W hW=>da (Tl W hW) rfl cR FR
  have HZ9:Hid (∀W:World,Below wc.heap.size wc W→W.heap[w.heap.size]?=some (.cells (sK (.string ⟨#[]⟩) (.slice none 0 0) (.map none) (.map none)) 107 (0,0))):=Tl
  clear hcut VA Wi g1 g2 hSt hH hI hT F1 hld Tl JE hM PV aaT J7 FR yL
  go_wp2_with (first | (refine wpList_load_row rfl _ _ rfl x rfl _ _ _ _ hx9 Tryz.underlying107 rfl (by rw[cR];kernel_rfl) ?_) | (refine tz (by rfl) _ _ rfl x rfl _ _ _ _ hx Tryz.underlying107 rfl (by rw[cR];kernel_rfl) ?_) | (go_at_call 44;refine HBY.out.mono ?_;rintro e w9 ⟨rfl,H9⟩;have hx9:w9.heap[x]?=some (.cells (aL (Ax.aC kl) (.slice rd l.length rc) gm hm hd) 107 (0,0)):=(by rw[H9.block _ (lt_of_heap hx)];exact hx);have hs9:=yk.out w9 H9))
  obtain⟨q1,q2,q3,q4,q5,q6,q7⟩:=HQ.out
  have Zj:=HZ9.out w9 H9
  have acZ:=ir Zj rfl cR
  obtain⟨_,ZM⟩:=cD w.heap.size (aL (Ax.aC kl) (.slice rd l.length rc) gm hm hd).toList 0 _ w9 Zj (by rw[Array.length_toList,cR];exact Nat.le_refl 36)
  have abS:Below w0.heap.size w0 w9:=q7.trans (H9.mono q7.size)
  have O8:Below w.heap.size w w9:=PE.out.trans (abS.mono PE.out.size)
  refine bodyPost_ret (v:=.tuple #[.agg (aL (Ax.aC kl) (.slice rd l.length rc) gm hm hd),.bool true]) ?_ rfl ⟨rd,rc,l,gm,hm,G,T,s,rfl,(q1.below H9).kept ZM ?_,HE.out,(q2.below H9).kept ZM ((q2.below H9).kr Zj (by decide) (by decide)),q3,(q4.below H9).kept ZM ((q4.below H9).kr Zj (by decide) (by decide) (by decide)),q5,q6,ZM.aU O8 O8.size (by simp)⟩
  · refine Eq.trans (dn rfl _ _ _ _ _ _ _ rfl acZ Tryz.underlying107 rfl (by rw[cR];kernel_rfl)) ?_
    rfl
  · intro b cur U hb e
    simp only[List.mem_cons,List.not_mem_nil,or_false]at hb
    subst hb
    rw[Zj]at e
    simp at e
    rw[←e.2]
    decide
end
end Go.Proofs.YtdmicblafmhflaaGreatDoor
