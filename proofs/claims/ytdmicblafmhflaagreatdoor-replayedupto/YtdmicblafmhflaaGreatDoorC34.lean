/- New at axiomkeep's text. -/
import Derived.Test.YtdmicblafmhflaaGreatDoorC33
import Derived.OwnWalk
set_option linter.unusedSimpArgs false
set_option linter.unusedVariables false
set_option maxHeartbeats 4000000
set_option maxRecDepth 100000
namespace Go.Proofs.YtdmicblafmhflaaGreatDoor
section
open Go.RowKit Go.Maps
theorem DV(kl:List Ax.ay)(w:World):Calls Tryz.prog 56 #[.string (Ax.au kl)] w fun e w'=>∃rd rc l,e=.returned (.tuple #[.agg #[.string (Ax.au kl),.slice rd (List.length l) rc],.int .i64 0,.int .i64 0])∧(l.map MR.aw).map Ax.kX=Ax.gR kl∧aI w' rd rc l∧Below w.heap.size w w':=by
 obtain⟨rs,j,hR,he,h3,h4,h5,qV⟩:=Ax.K5 kl
 have cE:=Ax.jo kl
 have UP:=Ax.gO (Ax.au kl)
 have kD:=Ax.oa (M:=600) (fun t ht=>Nat.le_trans (Ax.mX (Ax.au kl) t ht) cE) _ _ _ (fun _ h=>by cases h) hR
 have HF:rs.length≤1000∧∀r,r∈rs→Ax.Fits 600 1000 r:=by
  refine⟨by have:=kD.2;simp only[List.length_nil,Nat.zero_add]at this;omega,fun r hr=> ?_⟩
  have:=kD.1 r hr
  exact⟨by have:=this.1;omega,this.2⟩
 have kY:(⟨(dt (Ax.split (Ax.au kl))).toArray⟩:ByteArray)=Ax.au kl:=by
  have h6:=Ax.Hb (by omega:¬600<(Ax.au kl).size) hR h3 h4 h5
  rw[qV]at h6
  exact(congrArg Prod.fst h6).symm
 refine(He (Ax.au kl) w cE rs j hR HF h3 h4 h5).mono ?_
 rintro e w' ⟨rd,rc,l,rfl,hl,dN,hb⟩
 rw[kY]
 exact⟨rd,rc,l,rfl,by rw[hl];exact he,dN,hb⟩
theorem Ek{w w':World}{mb:Nat}{Q:List Pd.Pr}{T:List GT}(h:og w w' mb Q.length Q T)(hQ:∀p,p∈Q↔p∈jL)(hs:Pd.vF Q):lB w' mb T∧fV T (fun _=>false):=by
 obtain⟨D,ho,hD⟩:=h.map
 have hp:T.map tX=Q.reverse:=by rw[h.ny,List.take_length]
 have hn:T.map GT.nm=(T.map tX).map Prod.fst:=by simp[tX,Function.comp_def]
 have hm:∀p,p∈T.map tX↔p∈jL:=fun p=>by rw[hp,List.mem_reverse];exact hQ p
 have P2:Q.length≤1000:=by
  have h1:=List.Nodup.length_le_of_subset (tu hs) (fun p hp=>(hQ p).1 hp)
  exact Nat.le_trans h1 (by decide)
 refine⟨⟨ks.of ho (by omega) hD,fun t ht=>(h.b7 t ht).1,h.apart, ?_, ?_⟩,⟨hm, ?_⟩⟩
 · rw[hn,hp,List.map_reverse]
   exact List.pairwise_reverse.2 (List.Pairwise.imp (fun h=>Ne.symm h) (pz hs))
 · intro t ht
   have:=dP _ ((hm _).1 (List.mem_map_of_mem ht))
   exact Nat.le_trans this (by decide)
 · intro t ht r
   obtain⟨_,p,g,rfl,_⟩:=h.b7 t ht
   simp[xM]
structure W6(w1:World)(kl:List Ax.ay)(rv:Value)(hd:List UInt8)(v8 v9:Value)(wx:World):Prop where
 v9:v9=.bool true
 out:∃x gm hm G T s,v8=.pointer (some ⟨x,0,none⟩)∧wx.heap[x]?=some (.cells (aO (Ax.au kl) rv gm hm hd) 107 (0,0))∧lB wx gm G∧fV G (fun _=>false)∧pG wx hm T s∧En.Inv (En.sR (En.aj kl)) (En.gF (fun _=>false)) s s.found.length∧(∀p,p∈T.map ig↔p∈jL)∧Below w1.heap.size w1 wx
structure NE(w1:World)(g:Nat)(kl:List Ax.ay)(rv:Value)(ny:List Pd.Pr)(b:Option Nat)(q:Option (Option Addr×List Pd.Pr×Nat))(gm hm:Nat)(G:List GT)(W:World):Prop where
 ni:NI w1 g (Ax.au kl) rv ny b q (some (gm,G)) W
 out:∃T s,pG W hm T s∧En.Inv (En.sR (En.aj kl)) (En.gF (fun _=>false)) s s.found.length∧(∀p,p∈T.map ig↔p∈jL)∧∀x,b=some x→∀y,y∈cK hm T→y≠x
theorem aL(pl:ByteArray)(rv:Value)(gm hm:Nat){hd:List UInt8}(h:hd.length=32):(aO pl rv gm hm hd).size=36:=by simp[aO,Rc.bB,h]
theorem gJ(pl:ByteArray)(rd:Option Addr)(n rc gm hm:Nat)(hd:List UInt8):∀v,v∈(aO pl (.slice rd n rc) gm hm hd).toList→v.oneCell'=true:=by
 intro v hv
 have Ts:=Rc.o4 hd
 simp[aO]at hv
 rcases hv with rfl | rfl | rfl | rfl | hv
 · rfl
 · rfl
 · rfl
 · rfl
 · exact Ts v hv
theorem NE.cut{w1 W:World}{g x:Nat}{kl:List Ax.ay}{rv:Value}{ny:List Pd.Pr}{q:Option (Option Addr×List Pd.Pr×Nat)}{gm hm:Nat}{G:List GT}{hd:List UInt8}(h:NE w1 g kl rv ny (some x) q gm hm G W)(hh:hd.length=32):W6 w1 kl rv hd (.pointer (some ⟨x,0,none⟩)) (.bool true) (W.setCells x 0 (aO (Ax.au kl) rv gm hm hd).toList):=by
 have hs:=h.ni.stored (cs:=aO (Ax.au kl) rv gm hm hd) (aL _ _ _ _ hh)
 obtain⟨_,Z,h2,h3⟩:=h.ni.cU x rfl
 obtain⟨T,s,e1,e2,e3,e4⟩:=h.out
 obtain⟨g1,g2⟩:=hs.Na gm G rfl
 obtain⟨XQ,hk⟩:=bX x (aO (Ax.au kl) rv gm hm hd).toList 0 Z W h2 (by simp[aL _ _ _ _ hh,h3])
 exact⟨rfl,x,gm,hm,G,T,s,rfl,fI h2 h3 (aL _ _ _ _ hh),g1,g2,e1.kept hk (fun b hb=>by simpa using e4 x rfl b hb),e2,e3,hs.aZ⟩
theorem NE.alloc{w1 W:World}{g:Nat}{kl:List Ax.ay}{rv:Value}{ny:List Pd.Pr}{q:Option (Option Addr×List Pd.Pr×Nat)}{gm hm:Nat}{G:List GT}{Z:Array Value}(h:NE w1 g kl rv ny none q gm hm G W)(hz:Z.size=36):NE w1 g kl rv ny (some W.heap.size) q gm hm G (W.alloc (.cells Z 107)):=by
 obtain⟨T,s,e1,e2,e3,e4⟩:=h.out
 refine⟨h.ni.alloc hz,T,s,e1.below ((Below.refl _ _).alloc (Nat.le_refl _) _),e2,e3, ?_⟩
 intro x hx y hy e
 simp only[Option.some.injEq]at hx
 have:=e1.lt hy
 omega
theorem Rx{Z:Array Value}{U:List Value}(h:U.length=36)(hz:Z.size=37):(U.zipIdx).foldl (fun cs x=>cs.setIfInBounds (0+x.snd) x.fst) Z=(U++Z.toList.drop 36).toArray:=by
 rw[xU 0 U 0 _ (by rw[h,hz];decide)]
 simp[h]
end
/- New at axiomkeep's text, walked. -/
section
open Go.RowKit Go.Maps
theorem Hs(cs Z:Array Value)(h:cs.size=36)(hz:Z.size=37):Array.foldl (fun c x=>c.setIfInBounds x.snd x.fst) Z cs.zipIdx 0 36=(cs.toList++Z.toList.drop 36).toArray:=by
 have e2:Array.foldl (fun c (x:Value×Nat)=>c.setIfInBounds x.snd x.fst) Z cs.zipIdx 0 36=(cs.toList.zipIdx).foldl (fun c x=>c.setIfInBounds (0+x.snd) x.fst) Z:=by
  have e1:36=cs.zipIdx.size:=by simp[h]
  rw[e1,←Array.foldl_toList,Array.toList_zipIdx]
  simp
 rw[e2]
 exact Rx (by rw[Array.length_toList];exact h) hz
theorem uq(pl:ByteArray)(rv:Value)(gm hm:Nat)(hd:List UInt8):((aO pl rv gm hm hd).toList++[Value.slice none 0 0]).toArray=bE pl rv gm hm hd (.slice none 0 0):=by simp[aO,bE]
theorem QF{w1 wc:World}{kl:List Ax.ay}{rd:Option Addr}{rc gm hm:Nat}{l:List MR}{G:List GT}{T:List HT}{s:En.dB En.cl}{hd:List UInt8}(dN:aI w1 rd rc l)(he:(l.map MR.aw).map Ax.kX=Ax.gR kl)(bS:hd.length=32)
 (h:lB wc gm G∧fV G (fun _=>false)∧pG wc hm T s∧En.Inv (En.sR (En.aj kl)) (En.gF (fun _=>false)) s s.found.length∧(∀p,p∈T.map ig↔p∈jL)∧Below w1.heap.size w1 wc){B:Nat}(hB:B≤wc.heap.size):
 nQ (wc.alloc (.cells (bE (Ax.au kl) (.slice rd l.length rc) gm hm hd (.slice none 0 0)) 109)) B wc.heap.size kl (fun _=>false) 0:=by
 obtain⟨h1,h2,h3,h4,h5,h6⟩:=h
 have hb:Below wc.heap.size wc (wc.alloc (.cells (bE (Ax.au kl) (.slice rd l.length rc) gm hm hd (.slice none 0 0)) 109)):=(Below.refl _ _).alloc (Nat.le_refl _) _
 exact⟨⟨_,rd,rc,l,gm,G,hm,T,s,hd,.slice none 0 0,0,[],heap_alloc_new _ _,(dN.below h6).below hb,he,h1.below hb,h2,h3.below hb,h4,h5,bS,World.ownsRow_nil _ _ _ _,Nat.zero_le _,rfl⟩,hB⟩
theorem R5(kl:List Ax.ay)(K:Nat→Int)(w:World)(hK:Dg.uw w K):Calls Tryz.prog 34 #[.string (Ax.au kl)] w fun e w'=>∃eg,e=.returned (.tuple #[.pointer (some ⟨eg,0,none⟩),.int .i64 0,.int .i64 0])∧nQ w' w.heap.size eg kl (fun _=>false) 0∧Below w.heap.size w w':=by
 have sH:Hid (Calls Tryz.prog 56 #[.string (Ax.au kl)] w fun e w'=>∃rd rc l,e=.returned (.tuple #[.agg #[.string (Ax.au kl),.slice rd (List.length l) rc],.int .i64 0,.int .i64 0])∧Hid ((l.map MR.aw).map Ax.kX=Ax.gR kl∧aI w' rd rc l∧Below w.heap.size w w')):=(DV kl w).mono (fun e w' ⟨rd,rc,l,a,b⟩=>⟨rd,rc,l,a,b⟩)
 have hpz:=Ax.jo kl
 go_enter Tryz.func34,Tryz.ntmps34
 go_upto_region 4 with(go_at_call 56;refine sH.out.mono ?_;rintro e w0 ⟨rd,rc,l,rfl,HRU⟩)
 obtain⟨w1,sL⟩:∃w1,w1=w0.alloc (.cells #[.string (Ax.au kl),.slice rd l.length rc] 101):=⟨_,rfl⟩
 rw[←sL]
 obtain⟨he,dN,bL⟩:=HRU.out
 have fQ:Below w0.heap.size w0 w1:=by rw[sL];exact(Below.refl _ _).alloc (Nat.le_refl _) _
 have a8:Below w.heap.size w w1:=bL.trans (fQ.mono bL.size)
 have fy:w1.heap[w0.heap.size]?=some (.cells #[.string (Ax.au kl),.slice rd l.length rc] 101 (0,0)):=by rw[sL];exact heap_alloc_new w0 _
 have Jp:aI w1 rd rc l:=dN.below fQ
 obtain⟨Cz,_,Aa⟩:=iP Jp he
 have cA:l≠[]:=by
  rintro rfl
  simp[Ax.gR,Ax.ls]at he
 have x0:w1.cell? ⟨w0.heap.size,0,none⟩=some (.string (Ax.au kl)):=by rw[cell_of_row _ _ 0 _ _ _ fy];rfl
 have x1:w1.cell? ⟨w0.heap.size,1,none⟩=some (.slice rd l.length rc):=by rw[cell_of_row _ _ 1 _ _ _ fy];rfl
 have mO:=lt_of_heap fy
 have hN1:NI w1 w0.heap.size (Ax.au kl) (.slice rd l.length rc) (bP (l.map MR.aw)) none none none w1:=⟨Below.refl _ _,mO,x0,x1,(fun x h=>by cases h),(fun _ _ _ h=>by cases h),(fun _ _ h=>by cases h)⟩
 obtain⟨hd,St⟩:∃hd,hd=Dg.Fy K (Ax.au kl):=⟨_,rfl⟩
 have bS:hd.length=32:=by rw[St];exact Dg.mA _ _
 have tS:Hid (∀b W,NI w1 w0.heap.size (Ax.au kl) (.slice rd l.length rc) (bP (l.map MR.aw)) b none none W→Calls Tryz.prog 59 #[.agg #[.string (Ax.au kl),.slice rd l.length rc]] W fun e w'=>∃qd qc Q,e=.returned (.slice qd (List.length Q) qc)∧NI w1 w0.heap.size (Ax.au kl) (.slice rd l.length rc) (bP (l.map MR.aw)) b (some (qd,Q,qc)) none w'):=by
  intro b W hW
  refine(mf W _ rd rc l (Jp.below hW.aZ) (by omega) (nE he) cA).mono ?_
  rintro e w' ⟨qd,qc,Q,rfl,q1,q2,q3⟩
  have h2:=hW.below q2
  refine⟨qd,qc,Q,rfl,h2.aZ,h2.gl,h2.c0,h2.c1,h2.cU, ?_,fun _ _ h=>by cases h⟩
  intro qd' Q' qc' h
  simp only[Option.some.injEq,Prod.mk.injEq]at h
  obtain⟨rfl,rfl,rfl⟩:=h
  exact⟨aG q1 (Nat.zero_le _),q3.out⟩
 have VU:Hid (∀b qd Q qc W,NI w1 w0.heap.size (Ax.au kl) (.slice rd l.length rc) (bP (l.map MR.aw)) b (some (qd,Q,qc)) none W→Calls Tryz.prog 58 #[.slice qd (List.length Q) qc] W fun e w'=>∃gm G,e=.returned (.map (some gm))∧NI w1 w0.heap.size (Ax.au kl) (.slice rd l.length rc) (bP (l.map MR.aw)) b (some (qd,Q,qc)) (some (gm,G)) w'):=by
  intro b qd Q qc W hW
  obtain⟨r1,r2,r3⟩:=hW.row qd Q qc rfl
  have hQ:∀p,p∈Q↔p∈jL:=fun p=>(r3 p).trans (dW he p)
  have P2:Q.length≤3:=List.Nodup.length_le_of_subset (tu r2) (fun p hp=>(hQ p).1 hp)
  refine(lK W 0 qd qc Q r1 (by omega) (fun p hp=>Nat.le_trans (dP p ((hQ p).1 hp)) (by decide))).mono ?_
  rintro e w' ⟨T,rfl,hT⟩
  have h2:=hW.below hT.aZ
  refine⟨_,T,rfl,h2.aZ,h2.gl,h2.c0,h2.c1,h2.cU,h2.row, ?_⟩
  intro gm' G' h
  simp only[Option.some.injEq,Prod.mk.injEq]at h
  obtain⟨rfl,rfl⟩:=h
  exact Ek hT hQ r2
 have HOF:Hid (∀b q m W,NI w1 w0.heap.size (Ax.au kl) (.slice rd l.length rc) (bP (l.map MR.aw)) b q m W→Calls Tryz.prog 60 #[.string (Ax.au kl)] W fun e w'=>e=.returned (.agg (Rc.bA hd).toArray)∧NI w1 w0.heap.size (Ax.au kl) (.slice rd l.length rc) (bP (l.map MR.aw)) b q m w'):=by
  intro b q m W hW
  rw[St]
  refine(Dm K (Ax.au kl) W (hK.below (a8.trans (hW.aZ.mono a8.size))) (by omega)).mono ?_
  rintro e w' ⟨rfl,hb⟩
  exact⟨rfl,hW.below hb⟩
 have Ln:Hid (∀b q gm G W,NI w1 w0.heap.size (Ax.au kl) (.slice rd l.length rc) (bP (l.map MR.aw)) b q (some (gm,G)) W→Calls Tryz.prog 57 #[.agg #[.string (Ax.au kl),.slice rd l.length rc],.map (some gm),.agg (Rc.bA hd).toArray] W fun e w'=>∃hm,e=.returned (.tuple #[.agg (aO (Ax.au kl) (.slice rd l.length rc) gm hm hd),.bool true])∧u6 (aO (Ax.au kl) (.slice rd l.length rc) gm hm hd) b w'∧NE w1 w0.heap.size kl (.slice rd l.length rc) (bP (l.map MR.aw)) b q gm hm G w'):=by
  intro b q gm G W hW
  obtain⟨g1,g2⟩:=hW.Na gm G rfl
  have dD:∀Q,Pd.vF Q→(∀p,p∈Q↔p∈bP (l.map MR.aw))→∃s,fi (l.map MR.aw) (dm Q G)=some s∧En.Inv (En.sR (En.aj kl)) (En.gF (fun _=>false)) s s.found.length:=fun Q _ hQ=>oM he g2 g1.names hQ
  refine(yn W _ rd rc l (Cz.below hW.aZ) Aa (nE he) cA (fun p hp=>Nat.le_trans (dP p ((dW he p).1 hp)) (by decide)) gm G g1 ?_ (Nat.le_trans (g2.sum g1.names (fun t ht=>cp.ord (g1.b7 t ht))) (by decide)) hd bS ?_).mono ?_
  · intro p hp
    obtain⟨t,ht,e,_⟩:=g2.has (p:=p.1) (n:=p.2) ((dW he p).1 hp)
    rw[←e]
    exact List.mem_map_of_mem ht
  · intro Q h1 h2
    obtain⟨s,e,_⟩:=dD Q h1 h2
    rw[e]
    rfl
  · rintro e w' ⟨hm,T,s,Q,rfl,m1,m2,m3,m4,m5,m6,m7⟩
    have h2:=hW.below m7
    obtain⟨s',e1,e2⟩:=dD Q m1 m2
    have hs:s'=s:=by
     rw[m3]at e1
     exact(Option.some.inj e1).symm
    subst hs
    refine⟨hm,rfl,R4 h2 (aL _ _ _ _ bS) (gJ _ _ _ _ _ _ _),h2,T,s',m4,e2, ?_, ?_⟩
    · intro p
      rw[m5,List.mem_reverse,m2]
      exact dW he p
    · intro x hx y hy
      obtain⟨_,Z,k2,_⟩:=hW.cU x hx
      have k3:=lt_of_heap k2
      have:=m6 y hy
      omega
 have XU:Hid (aI w1 rd rc l):=Jp
 have mK:Hid (Below w.heap.size w w1):=a8
 have HE:Hid ((l.map MR.aw).map Ax.kX=Ax.gR kl):=he
 generalize bP (l.map MR.aw)=ny at*
 clear Cz Jp a8 fQ bL dN he HRU sL fy hK sH cA St Aa
 go_cut [8,9]from 20 (fun v8 v9 wx=>Hid (W6 w1 kl (.slice rd l.length rc) hd v8 v9 wx))
 case first=>
  go_region_held3 (fun w'=>w'.cell? ⟨w0.heap.size,0,none⟩=some (.string (Ax.au kl))∧w'.cell? ⟨w0.heap.size,1,none⟩=some (.slice rd l.length rc)) (first | (exact NI.cells (by assumption)) | (exact NI.cells (NI.drew (by assumption))) | (exact NI.cells (NI.alloc (by assumption) rfl)) | (exact NI.cells (NI.alloc (NI.drew (by assumption)) rfl)) | (exact NI.cells (NE.ni (by assumption))) | (exact NI.cells (NE.ni (NE.alloc (by assumption) rfl))) | (exact NI.cells (NI.stored (NE.ni (by assumption)) (aL _ _ _ _ bS))) | (exact NI.cells (NI.stored (NE.ni (NE.alloc (by assumption) rfl)) (aL _ _ _ _ bS)))) (first | (go_at_call 59;refine(tS.out _ _ (by first | assumption | exact NI.drew (by assumption) | exact NI.alloc (by assumption) rfl | exact NI.alloc (NI.drew (by assumption)) rfl)).mono ?_;rintro e wn ⟨qd,qc,Q,rfl,hN⟩) | (go_at_call 58;refine(VU.out _ _ _ _ _ (by first | assumption | exact NI.drew (by assumption) | exact NI.alloc (by assumption) rfl | exact NI.alloc (NI.drew (by assumption)) rfl)).mono ?_;rintro e wn ⟨gm,G,rfl,hN⟩) | (go_at_call 60;refine(HOF.out _ _ _ _ (by first | assumption | exact NI.drew (by assumption) | exact NI.alloc (by assumption) rfl | exact NI.alloc (NI.drew (by assumption)) rfl)).mono ?_;rintro e wn ⟨rfl,hN⟩) | (go_at_call 57;refine(Ln.out _ _ _ _ _ (by first | assumption | exact NI.drew (by assumption) | exact NI.alloc (by assumption) rfl | exact NI.alloc (NI.drew (by assumption)) rfl)).mono ?_;rintro e wn ⟨hm,rfl,ev,hE⟩;unfold u6 at ev;dsimp only at ev;(try simp only[World.size_drew]at ev);have cE:=aL (Ax.au kl) (.slice rd l.length rc) gm hm bS))
  all_goals
   (go_wp2_with fail
    go_meet
    first
    | exact NE.cut (by assumption) bS
    | exact NE.cut (NE.alloc (by assumption) rfl) bS)
 case rest=>
  obtain⟨hv9,x,gm,hm,G,T,s,hv8,hx,HQ⟩:=hcut.out
  subst hv9
  subst hv8
  have HQ':Hid _:=HQ
  have cE:=aL (Ax.au kl) (.slice rd l.length rc) gm hm bS
  clear hcut HQ
  go_wp2_with (refine wpList_load_row rfl _ _ rfl x rfl _ _ _ _ hx Tryz.underlying107 rfl (by rw[aL _ _ _ _ bS];kernel_rfl) ?_)
  rw[Hs _ _ (aL _ _ _ _ bS) rfl]
  have e9:((aO (Ax.au kl) (.slice rd l.length rc) gm hm hd).toList++[Value.slice none 0 0]).toArray=bE (Ax.au kl) (.slice rd l.length rc) gm hm hd (.slice none 0 0):=uq _ _ _ _ _
  have yJ:=HQ'.out.2.2.2.2.2
  have Yn:Below w.heap.size w wc:=mK.out.trans (yJ.mono mK.out.size)
  go_ret3
  refine⟨wc.heap.size,rfl, ?_,Yn.alloc Yn.size _⟩
  exact QF XU.out HE.out bS HQ'.out Yn.size
end
/- Engine.changed: the tables as facts come and go. -/
section
open Go.RowKit Go.Maps
theorem lB.update{w w':World}{gm:Nat}{A B:List GT}{t t':GT}(h:lB w gm (A++t::B))(hk:Kb t.bZ w w')(ht:t'.ok w')(hn:t'.nm=t.nm)(hg:t'.g=t.g)(hf:∀b,b∈t'.bZ→b∈t.bZ∨w.heap.size≤b):lB w' gm (A++t'::B):=by
 have We:t∈A++t::B:=by simp
 have mH:(A++t'::B).map GT.key=(A++t::B).map GT.key:=by simp[GT.key,hn,hg]
 have ga:(A++t'::B).map GT.nm=(A++t::B).map GT.nm:=by simp[hn]
 have GW:=h.apart
 rw[List.pairwise_append,List.pairwise_cons]at GW
 obtain⟨p1,⟨p2,p3⟩,p4⟩:=GW
 have aE:∀u,u∈A++t::B→∀b,b∈u.bZ→b<w.heap.size:=fun u hu b hb=>(h.b7 u hu).lt hb
 have hA:∀a,a∈A→∀x,x∈a.bZ→¬x∈t.bZ:=fun a ha=>p4 a ha t (by simp)
 have hB:∀a,a∈B→∀x,x∈a.bZ→¬x∈t.bZ:=fun a ha x hx h2=>p2 a ha x h2 hx
 refine⟨?_, ?_, ?_,by rw[ga];exact h.names, ?_⟩
 · rw[mH]
   refine h.map.kept hk ?_
   intro hb
   obtain⟨cur,T,e,_⟩:=(h.b7 t We).types hb
   obtain⟨es,ck,e2⟩:=h.map.block
   rw[e2]at e
   cases e
 · intro u hu
   rcases List.mem_append.1 hu with hu | hu
   · exact(h.b7 u (by simp[hu])).kept hk (hA u hu)
   · rcases List.mem_cons.1 hu with rfl | hu
     · exact ht
     · exact(h.b7 u (by simp[hu])).kept hk (hB u hu)
 · rw[List.pairwise_append,List.pairwise_cons]
   refine⟨p1,⟨?_,p3⟩, ?_⟩
   · intro a ha x hx h2
     rcases hf x hx with h3 | h3
     · exact p2 a ha x h3 h2
     · have:=aE a (by simp[ha]) x h2;omega
   · intro a ha b hb x hx h2
     rcases List.mem_cons.1 hb with rfl | hb
     · rcases hf x h2 with h3 | h3
       · exact hA a ha x hx h3
       · have:=aE a (by simp[ha]) x hx;omega
     · exact p4 a ha b (by simp[hb]) x hx h2
 · intro u hu
   rcases List.mem_append.1 hu with hu | hu
   · exact h.short u (by simp[hu])
   · rcases List.mem_cons.1 hu with rfl | hu
     · rw[hn];exact h.short t We
     · exact h.short u (by simp[hu])
theorem fV.update{A B:List GT}{t t':GT}{gv:Nat→Bool}(h:fV (A++t::B) gv)(C6:((A++t::B).map GT.nm).Nodup)(hn:t'.nm=t.nm)(hp:t'.pl=t.pl){i:Nat}(hi:i<36){r0:List ByteArray}(hu:En.uF i=(t.nm,r0))(b:Bool)(hr:∀r,r∈t'.L↔if r=r0 then b=true else r∈t.L):fV (A++t'::B) (gA gv i b):=by
 have nK:(A++t'::B).map tX=(A++t::B).map tX:=by simp[tX,hn,hp]
 refine⟨by rw[nK];exact h.ny, ?_⟩
 have hu0:=hu
 have tG:∀u,u∈A++t::B→u.nm≠t.nm→∀r,r∈u.L↔∃j,j<36∧gA gv i b j=true∧En.uF j=(u.nm,r):=by
  intro u hu cA r
  rw[h.rows u hu r]
  constructor
  · rintro⟨j,hj,hg,e⟩
    refine⟨j,hj, ?_,e⟩
    unfold gA
    rw[if_neg ?_]
    · exact hg
    · rintro rfl
      rw[hu0]at e
      exact cA (congrArg Prod.fst e).symm
  · rintro⟨j,hj,hg,e⟩
    refine⟨j,hj, ?_,e⟩
    unfold gA at hg
    rw[if_neg ?_]at hg
    · exact hg
    · rintro rfl
      rw[hu0]at e
      exact cA (congrArg Prod.fst e).symm
 rw[List.map_append,List.map_cons,List.nodup_append,List.nodup_cons]at C6
 intro u pN r
 rcases List.mem_append.1 pN with pN | pN
 · refine tG u (by simp[pN]) ?_ r
   intro e
   exact C6.2.2 u.nm (List.mem_map_of_mem pN) t.nm (by simp) e
 · rcases List.mem_cons.1 pN with rfl | pN
   · rw[hr r,hn]
     by_cases hrr:r=r0
     · rw[if_pos hrr]
       subst hrr
       constructor
       · intro hb
         exact⟨i,hi,by simp[gA,hb],hu⟩
       · rintro⟨j,hj,hg,e⟩
         rw[←hu]at e
         have:=En.tP hj hi e
         subst this
         simpa [gA]using hg
     · rw[if_neg hrr,h.rows t (by simp) r]
       have Wd:∀j,En.uF j=(t.nm,r)→¬j=i:=by
        rintro j e rfl
        rw[hu]at e
        exact hrr (congrArg Prod.snd e).symm
       constructor
       · rintro⟨j,hj,hg,e⟩
         exact⟨j,hj,by unfold gA;rw[if_neg (Wd j e)];exact hg,e⟩
       · rintro⟨j,hj,hg,e⟩
         unfold gA at hg
         rw[if_neg (Wd j e)]at hg
         exact⟨j,hj,hg,e⟩
   · refine tG u (by simp[pN]) ?_ r
     intro e
     exact C6.2.1.1 (by rw[←e];exact List.mem_map_of_mem pN)
structure uA(w wr:World)(gm:Nat)(gv:Nat→Bool):Prop where
 at_:∃N,lB wr gm N∧fV N gv∧∀b,b∈eV gm N→w.heap.size≤b
 aZ:Below w.heap.size w wr
theorem uA.below{w wr w':World}{gm:Nat}{gv:Nat→Bool}(h:uA w wr gm gv)(hb:Below wr.heap.size wr w'):uA w w' gm gv:=by
 obtain⟨N,h1,h2,h3⟩:=h.at_
 exact⟨⟨N,h1.below hb,h2,h3⟩,h.aZ.trans (hb.mono h.aZ.size)⟩
theorem uA.set{w wr w':World}{gm:Nat}{gv:Nat→Bool}{A B:List GT}{t t':GT}(hb:Below w.heap.size w wr)(h1:lB wr gm (A++t::B))(h2:fV (A++t::B) gv)(h3:∀b,b∈eV gm (A++t::B)→w.heap.size≤b)
 (hk:Kb t.bZ wr w')(ht:t'.ok w')(hn:t'.nm=t.nm)(hg:t'.g=t.g)(hp:t'.pl=t.pl)(hf:∀b,b∈t'.bZ→b∈t.bZ∨wr.heap.size≤b){i:Nat}(hi:i<36){r0:List ByteArray}(hu:En.uF i=(t.nm,r0))(b:Bool)(hr:∀r,r∈t'.L↔if r=r0 then b=true else r∈t.L):uA w w' gm (gA gv i b):=by
 have zD:∀x,x∈t.bZ→w.heap.size≤x:=fun x hx=>h3 x (by unfold eV;simp[hx])
 refine⟨⟨A++t'::B,h1.update hk ht hn hg hf,h2.update h1.names hn hp hi hu b hr, ?_⟩,hk.aK hb hb.size zD⟩
 intro x hx
 unfold eV at hx
 rw[List.mem_cons,List.mem_flatMap]at hx
 rcases hx with rfl | ⟨u,pN,hx⟩
 · exact h3 x (by simp[eV])
 · rcases List.mem_append.1 pN with pN | pN
   · exact h3 x (by unfold eV;rw[List.mem_cons,List.mem_flatMap];exact .inr ⟨u,by simp[pN],hx⟩)
   · rcases List.mem_cons.1 pN with rfl | pN
     · rcases hf x hx with h4 | h4
       · exact zD x h4
       · have:=hb.size;omega
     · exact h3 x (by unfold eV;rw[List.mem_cons,List.mem_flatMap];exact .inr ⟨u,by simp[pN],hx⟩)
def ax(gv:Nat→Bool)(is:List Nat)(b:Bool):Nat→Bool:=is.foldl (fun g i=>gA g i b) gv
theorem ic(gv:Nat→Bool)(is:List Nat)(i:Nat)(b:Bool):ax gv (is++[i]) b=gA (ax gv is b) i b:=by simp[ax]
end
/- Engine.changed, walked. -/
section
open Go.RowKit Go.Maps
theorem BV(rd:Option Addr)(n m rc:Nat):(Value.slice rd n rc).ownBlock=(Value.slice rd m rc).ownBlock:=by cases rd<;>rfl
def fM(l:List FI)(is:List Nat):Prop:=l.map (fun f=>(f.pred,f.args))=is.map be∧∀i,i∈is→i<36
theorem fM.len{l:List FI}{is:List Nat}(h:fM l is):is.length=l.length:=by
 have:=congrArg List.length h.1
 simpa using this.symm
theorem fM.at_{l:List FI}{is:List Nat}(h:fM l is){k:Nat}(hk:k<l.length):∃i,is.take (k+1)=is.take k++[i]∧i<36∧(l[k]).pred=(be i).1∧(l[k]).args=(be i).2:=by
 have Z1:k<is.length:=by rw[h.len];exact hk
 refine⟨is[k],by rw[List.take_add_one,List.getElem?_eq_getElem Z1];rfl,h.2 _ (List.getElem_mem Z1), ?_⟩
 have e:=congrArg (fun x=>x[k]?) h.1
 simp only[List.getElem?_map,List.getElem?_eq_getElem hk,List.getElem?_eq_getElem Z1,Option.map_some,Option.some.injEq]at e
 exact⟨congrArg Prod.fst e,congrArg Prod.snd e⟩
theorem s7{p:ByteArray}{a b:Nat}(h1:(p,a)∈jL)(h2:(p,b)∈jL):a=b:=congrArg Prod.snd (IC _ h1 _ h2 rfl)
structure ChR(w wr:World)(eg gm:Nat)(gv:Nat→Bool)(p:ByteArray)(av:Value)(names:List ByteArray)(i tg:Nat):Prop where
 row:∀W,Below wr.heap.size wr W→Calls Tryz.prog 41 #[.pointer (some ⟨eg,0,none⟩),.agg #[.string p,av]] W fun e w'=>e=.returned (.tuple #[.agg (Tb.fA names),.bool true])∧Below W.heap.size W w'
 look:∀W,Below wr.heap.size wr W→(Instr.lookup 102 (.map (some gm)) (.string p) false).run Tryz.prog W=.ok (.pointer (some ⟨tg,0,none⟩)) W
 cm:∀W,Below wr.heap.size wr W→Calls Tryz.prog 127 #[.pointer (some ⟨tg,0,none⟩),.agg (Tb.fA names)] W fun e w'=>e=.returned (.tuple #[])∧uA w w' gm (gA gv i true)
 leave:∀W,Below wr.heap.size wr W→Calls Tryz.prog 128 #[.pointer (some ⟨tg,0,none⟩),.agg (Tb.fA names)] W fun e w'=>e=.returned (.tuple #[])∧uA w w' gm (gA gv i false)
theorem UI{w wr:World}{eg gm hm:Nat}{gv:Nat→Bool}{T:List HT}{s:En.dB En.cl}(vm:w.cell? ⟨eg,3,none⟩=some (.map (some hm)))(hH:pG w hm T s)(hT:∀p,p∈T.map ig↔p∈jL)(hU:eW w)(h:uA w wr gm gv){i:Nat}(hi:i<36){av:Value}(zv:wr.ownsRow 0 9 1 av (be i).2.length (strCells (be i).2)):
 ∃tg,ChR w wr eg gm gv (be i).1 av (be i).2 i tg:=by
 obtain⟨N,hG,hR,hf⟩:=h.at_
 have nK:=kO hi
 obtain⟨t,ht,ga,kY⟩:=hR.has nK
 obtain⟨u,hu,pN⟩:=List.mem_map.1 ((hT _).2 nK)
 simp only[ig,Prod.mk.injEq]at pN
 have ux:(be i).1.size≤1000000:=Nat.le_trans (dP _ nK) (by decide)
 have hlL:t.L.length≤36:=Nat.le_trans (oe ht) (hR.sum hG.names (fun t ht=>cp.ord (hG.b7 t ht)))
 obtain⟨A,B,hAB⟩:=List.append_of_mem ht
 subst hAB
 refine⟨t.g,⟨?_, ?_, ?_, ?_⟩⟩
 · intro W hW
   have qL:Below w.heap.size w W:=h.aZ.trans (hW.mono h.aZ.size)
   have h3:(be i).2.length≤3:=by
    have:∀p,p∈jL→p.2≤3:=by unfold jL;decide
    exact this _ nK
   refine Ps W eg hm u.g (be i).2.length (T.map HT.pk) (be i).1 (be i).2 av (by rw[qL.cell (block_lt_of_cell vm)];exact vm) (hH.map.below qL) (by rw[←pN.1];exact rF hH.names hu) ux ?_ (ae zv hW) rfl h3 (fun a ha=>(iD i a ha).1) (fun a ha=>Nat.le_trans (iD i a ha).2 (by decide)) (Utf8Tabs_below hU qL)
   have:=(((hH.b7 u hu).below qL).o7).lE.2.2.1
   rw[pN.2]at this
   exact this
 · intro W hW
   exact(hG.below hW).map.look (by rw[←ga];exact iW hG.names (by simp)) ux Tryz.underlying102 (Tryz.zeroValue122 W)
 · intro W hW
   refine(Dx W t.g t.nm t.pl t.rd t.rc t.L _ _ _ ((hG.below hW).b7 t (by simp)) (by omega)).mono ?_
   rintro e w' ⟨rd',rc',rfl,q1,q2,q3⟩
   refine⟨rfl, ?_⟩
   refine uA.set (t':=⟨t.nm,t.pl,t.g,rd',rc',Tb.put t.L (Tb.eu (be i).2)⟩) (h.aZ.trans (hW.mono h.aZ.size)) (hG.below hW) hR hf q2 q1 rfl rfl rfl ?_ hi (r0:=Tb.eu (be i).2) (by rw[kS,ga]) true ?_
   · intro b hb
     unfold GT.bZ at hb
     rcases List.mem_cons.1 hb with rfl | hb
     · exact .inl (by simp[GT.bZ])
     · rw[Option.mem_toList]at hb
       rcases q3 b hb with h5 | h5
       · exact .inl (by unfold GT.bZ;rw[List.mem_cons,Option.mem_toList];exact .inr h5)
       · exact .inr h5
   · intro r
     show r∈Tb.put t.L (Tb.eu (be i).2)↔_
     rw[Tb.vS]
     by_cases e:r=Tb.eu (be i).2
     · simp[e]
     · simp[e]
 · intro W hW
   refine(J7 W t.g t.nm t.pl t.rd t.rc t.L _ _ _ ((hG.below hW).b7 t (by simp)) (by omega)).mono ?_
   rintro e w' ⟨rfl,q1,q2⟩
   refine⟨rfl, ?_⟩
   have O1:Tb.Ord t.L:=cp.ord (hG.b7 t (by simp))
   refine uA.set (t':=⟨t.nm,t.pl,t.g,t.rd,t.rc,Tb.leave t.L (Tb.eu (be i).2)⟩) (h.aZ.trans (hW.mono h.aZ.size)) (hG.below hW) hR hf q2 q1 rfl rfl rfl ?_ hi (r0:=Tb.eu (be i).2) (by rw[kS,ga]) false ?_
   · intro b hb
     refine .inl ?_
     unfold GT.bZ at hb ⊢
     rcases List.mem_cons.1 hb with rfl | hb
     · simp
     · rw[Option.mem_toList]at hb
       rw[List.mem_cons,Option.mem_toList]
       exact .inr ((BV _ _ _ _).trans hb)
   · intro r
     show r∈Tb.leave t.L (Tb.eu (be i).2)↔_
     rw[Tb.Lk O1]
     by_cases e:r=Tb.eu (be i).2
     · simp[e]
     · simp[e]
end
/- Engine.changed, its loops. -/
section
open Go.RowKit Go.Maps
theorem Dp(w:World)(eg gm hm:Nat)(G:List GT)(gv:Nat→Bool)(T:List HT)(s:En.dB En.cl)(uI:w.cell? ⟨eg,2,none⟩=some (.map (some gm)))(vm:w.cell? ⟨eg,3,none⟩=some (.map (some hm)))(hG:lB w gm G)(hR:fV G gv)(hH:pG w hm T s)(hT:∀p,p∈T.map ig↔p∈jL)(hU:eW w)
 (cd:Option Addr)(cc:Nat)(cm:List FI)(gd:Option Addr)(gc:Nat)(gone:List FI)(LQ:bM w cd cc cm)(Ia:bM w gd gc gone)(ci gi:List Nat)(QM:fM cm ci)(P4:fM gone gi)(vD:cm.length≤1000)(mO:gone.length≤1000):
 Calls Tryz.prog 68 #[.pointer (some ⟨eg,0,none⟩),.slice cd cm.length cc,.slice gd gone.length gc] w fun e w'=>∃gm',e=.returned (.tuple #[.map (some gm'),.bool true])∧uA w w' gm' (ax (ax gv ci true) gi false):=by
 have hG3:=hR.len hG.names
 have hGs:=hR.sum hG.names (fun t ht=>cp.ord (hG.b7 t ht))
 have HCG:Hid (Calls Tryz.prog 126 #[.map (some gm)] w fun e w'=>e=.returned (.map (some w.heap.size))∧Hid (uA w w' w.heap.size gv)):=by
  refine(za w gm G hG (fun t ht=>by have:=oe ht;omega) (by omega)).mono ?_
  rintro e w' ⟨N,rfl,hN⟩
  obtain⟨g1,g2⟩:=hN.toG hG.short hG.names (by omega)
  refine⟨rfl,⟨⟨N,g1,hR.perm g2, ?_⟩,hN.aZ⟩⟩
  intro b hb
  unfold eV at hb
  rw[List.mem_cons,List.mem_flatMap]at hb
  rcases hb with rfl | ⟨t,ht,hb⟩
  · exact Nat.le_refl _
  · have:=(hN.b7 t ht).2 b hb
    omega
 have VP:Hid (∀wr gv' i av,uA w wr w.heap.size gv'→i<36→wr.ownsRow 0 9 1 av (be i).2.length (strCells (be i).2)→∃tg,ChR w wr eg w.heap.size gv' (be i).1 av (be i).2 i tg):=fun wr gv' i av h hi zv=>UI vm hH hT hU h hi zv
 have HCF:Hid (bM w cd cc cm):=LQ
 have HGF:Hid (bM w gd gc gone):=Ia
 have HCI:Hid (fM cm ci):=QM
 have HGI:Hid (fM gone gi):=P4
 have SN:=bh LQ.row
 have Sk:=bh Ia.row
 have Pc:=block_lt_of_cell uI
 clear hG hR hH hT hU LQ Ia QM P4 vm hG3 hGs
 go_enter Tryz.func68,Tryz.ntmps68
 go_wp2_with (go_at_call 126;refine HCG.out.mono ?_;rintro e w0 ⟨rfl,WI⟩)
 go_loopw [25] (fun i wr=>∃k:Nat,k≤cm.length∧i=.int .i64 k∧uA w wr w.heap.size (ax gv (ci.take k) true)) (fun i _=>cm.length-(intOf i).toNat)
 case atStart=>exact⟨0,Nat.zero_le _,rfl,WI.out⟩
 case round=>
  obtain⟨k,hk,rfl,hW⟩:=hrel
  have HW:Hid (uA w wr w.heap.size (ax gv (ci.take k) true)):=hW
  clear WI hW
  by_cases aE:k<cm.length
  · skip
    have bQ:=(HCF.out.below HW.out.aZ).row
    obtain⟨g,rfl,hg,Oq,bH⟩:=aD bQ (by omega)
    have c0:=bH _ _ (eI cm k aE).1
    have c1:=bH _ _ (eI cm k aE).2
    obtain⟨i,e1,hi,e2,e3⟩:=HCI.out.at_ aE
    have zv:wr.ownsRow 0 9 1 (cm[k]).av (be i).2.length (strCells (be i).2):=by
     have h9:=(HCF.out.below HW.out.aZ).each _ (List.getElem_mem aE)
     unfold FI.ok at h9
     rw[e3]at h9
     exact h9
    obtain⟨ad,ac,MI⟩:=ah zv
    obtain⟨tg,PM⟩:=VP.out wr _ i _ HW.out hi zv
    rw[e2]at c0
    rw[MI]at c1 PM
    obtain⟨hr,hl,WJ,hle⟩:=PM
    rw[EG]at hr WJ hle
    have Ly:Hid _:=hr
    have VT:Hid _:=hl
    have PB:Hid _:=WJ
    have fR:Hid (ax gv (ci.take (k+1)) true=gA (ax gv (ci.take k) true) i true):=by
     rw[e1,ic]
     exact rfl
    clear hr hl WJ hle zv MI bH bQ e1 e2 e3 VP
    generalize Tb.ef (be i).2 0=x0 at*
    generalize Tb.ef (be i).2 1=x1 at*
    generalize Tb.ef (be i).2 2=x2 at*
    generalize (be i).2.length=nl at*
    generalize (be i).1=p at*
    go_wp2_with (first | (go_at_call 41;refine(Ly.out _ (by exact(Below.refl _ _).alloc (Nat.le_refl _) _)).mono ?_;rintro e w5 ⟨rfl,la⟩;obtain⟨YM,Cg,Wv⟩:=tN la;have t5:w5.cell? ⟨wr.heap.size,0,none⟩=some (.string p):=(by rw[cell_of_row _ _ 0 _ _ _ YM];rfl);have l5:=VT.out (w5.alloc (.cells #[.string x0,.string x1,.string x2] 119)) (Cg.alloc Cg.size _);have acQ:wr.heap.size<w5.heap.size:=(by omega);have PL:Hid (Below wr.heap.size wr w5):=Cg;clear la YM Cg Wv) | (go_at_call 127;refine(PB.out _ (by exact PL.out.alloc PL.out.size _)).mono ?_;rintro e w7 ⟨rfl,YY⟩;have HW7:Hid _:=YY;clear YY))
    go_roundw
    case rel=>exact⟨k+1,aE,by go_num,by rw[fR.out];exact HW7.out⟩
    case measure=>simp[intOf];omega
  · have Mh:Hid (uA w wr w.heap.size (ax gv ci true)):=by
     have h9:=HW.out
     rw[List.take_of_length_le (by rw[HCI.out.len];omega)]at h9
     exact h9
    clear HW
    go_wp2_with fail
    go_loopw [46] (fun i wr=>∃k:Nat,k≤gone.length∧i=.int .i64 k∧uA w wr w.heap.size (ax (ax gv ci true) (gi.take k) false)) (fun i _=>gone.length-(intOf i).toNat)
    case atStart=>exact⟨0,Nat.zero_le _,rfl,Mh.out⟩
    case round=>
     obtain⟨k,hk,rfl,hW⟩:=hrel
     have HW:Hid (uA w wr w.heap.size (ax (ax gv ci true) (gi.take k) false)):=hW
     clear Mh hW
     by_cases aE:k<gone.length
     · skip
       have bQ:=(HGF.out.below HW.out.aZ).row
       obtain⟨g,rfl,hg,Oq,bH⟩:=aD bQ (by omega)
       have c0:=bH _ _ (eI gone k aE).1
       have c1:=bH _ _ (eI gone k aE).2
       obtain⟨i,e1,hi,e2,e3⟩:=HGI.out.at_ aE
       have zv:wr.ownsRow 0 9 1 (gone[k]).av (be i).2.length (strCells (be i).2):=by
        have h9:=(HGF.out.below HW.out.aZ).each _ (List.getElem_mem aE)
        unfold FI.ok at h9
        rw[e3]at h9
        exact h9
       obtain⟨ad,ac,MI⟩:=ah zv
       obtain⟨tg,PM⟩:=VP.out wr _ i _ HW.out hi zv
       rw[e2]at c0
       rw[MI]at c1 PM
       obtain⟨hr,hl,WJ,hle⟩:=PM
       rw[EG]at hr WJ hle
       have Ly:Hid _:=hr
       have VT:Hid _:=hl
       have PB:Hid _:=hle
       have fR:Hid (ax (ax gv ci true) (gi.take (k+1)) false=gA (ax (ax gv ci true) (gi.take k) false) i false):=by
        rw[e1,ic]
        exact rfl
       clear hr hl WJ hle zv MI bH bQ e1 e2 e3 VP
       generalize Tb.ef (be i).2 0=x0 at*
       generalize Tb.ef (be i).2 1=x1 at*
       generalize Tb.ef (be i).2 2=x2 at*
       generalize (be i).2.length=nl at*
       generalize (be i).1=p at*
       go_wp2_with (first | (go_at_call 41;refine(Ly.out _ (by exact(Below.refl _ _).alloc (Nat.le_refl _) _)).mono ?_;rintro e w5 ⟨rfl,la⟩;obtain⟨YM,Cg,Wv⟩:=tN la;have t5:w5.cell? ⟨wr.heap.size,0,none⟩=some (.string p):=(by rw[cell_of_row _ _ 0 _ _ _ YM];rfl);have l5:=VT.out (w5.alloc (.cells #[.string x0,.string x1,.string x2] 119)) (Cg.alloc Cg.size _);have acQ:wr.heap.size<w5.heap.size:=(by omega);have PL:Hid (Below wr.heap.size wr w5):=Cg;clear la YM Cg Wv) | (go_at_call 128;refine(PB.out _ (by exact PL.out.alloc PL.out.size _)).mono ?_;rintro e w7 ⟨rfl,YY⟩;have HW7:Hid _:=YY;clear YY))
       go_roundw
       case rel=>exact⟨k+1,aE,by go_num,by rw[fR.out];exact HW7.out⟩
       case measure=>simp[intOf];omega
     · have WH:Hid (uA w wr w.heap.size (ax (ax gv ci true) gi false)):=by
        have h9:=HW.out
        rw[List.take_of_length_le (by rw[HGI.out.len];omega)]at h9
        exact h9
       clear HW
       go_wp2_with fail
       go_ret2
       exact⟨_,rfl,WH.out⟩
end
end Go.Proofs.YtdmicblafmhflaaGreatDoor
