/- New at axiomkeep's text. -/
import Derived.Test.YtdmicblafmhflaaGreatDoorC33
import Derived.OwnWalk
set_option linter.unusedSimpArgs false
set_option linter.unusedVariables false
set_option maxHeartbeats 4000000
set_option maxRecDepth 100000
namespace Go.Proofs.YtdmicblafmhflaaGreatDoor
section
open Go.RowKit Go.Maps
theorem CR(kl:List Ax.ay)(w:World):Calls Tryz.prog 56 #[.string (Ax.au kl)] w fun e w'=>∃rd rc l,e=.returned (.tuple #[.agg #[.string (Ax.au kl),.slice rd (List.length l) rc],.int .i64 0,.int .i64 0])∧(l.map MR.aw).map Ax.kX=Ax.gR kl∧aI w' rd rc l∧Below w.heap.size w w':=by
 obtain⟨rs,j,hR,he,h3,h4,h5,rA⟩:=Ax.KZ kl
 have cE:=Ax.ji kl
 have VG:=Ax.ie (Ax.au kl)
 have km:=Ax.oI (M:=600) (fun t ht=>Nat.le_trans (Ax.nw (Ax.au kl) t ht) cE) _ _ _ (fun _ h=>by cases h) hR
 have HF:rs.length≤1000∧∀r,r∈rs→Ax.Fits 600 1000 r:=by
  refine⟨by have:=km.2;simp only[List.length_nil,Nat.zero_add]at this;omega,fun r hr=> ?_⟩
  have:=km.1 r hr
  exact⟨by have:=this.1;omega,this.2⟩
 have lj:(⟨(dv (Ax.split (Ax.au kl))).toArray⟩:ByteArray)=Ax.au kl:=by
  have h6:=Ax.Gf (by omega:¬600<(Ax.au kl).size) hR h3 h4 h5
  rw[rA]at h6
  exact(congrArg Prod.fst h6).symm
 refine(IV (Ax.au kl) w cE rs j hR HF h3 h4 h5).mono ?_
 rintro e w' ⟨rd,rc,l,rfl,hl,dN,hb⟩
 rw[lj]
 exact⟨rd,rc,l,rfl,by rw[hl];exact he,dN,hb⟩
theorem C1{w w':World}{mb:Nat}{Q:List Pd.Pr}{T:List GT}(h:oB w w' mb Q.length Q T)(hQ:∀p,p∈Q↔p∈jI)(hs:Pd.vG Q):lJ w' mb T∧fU T (fun _=>false):=by
 obtain⟨D,ho,hD⟩:=h.map
 have hp:T.map tD=Q.reverse:=by rw[h.nJ,List.take_length]
 have hn:T.map GT.nm=(T.map tD).map Prod.fst:=by simp[tD,Function.comp_def]
 have hm:∀p,p∈T.map tD↔p∈jI:=fun p=>by rw[hp,List.mem_reverse];exact hQ p
 have QA:Q.length≤1000:=by
  have h1:=List.Nodup.length_le_of_subset (th hs) (fun p hp=>(hQ p).1 hp)
  exact Nat.le_trans h1 (by decide)
 refine⟨⟨kH.of ho (by omega) hD,fun t ht=>(h.b8 t ht).1,h.apart, ?_, ?_⟩,⟨hm, ?_⟩⟩
 · rw[hn,hp,List.map_reverse]
   exact List.pairwise_reverse.2 (List.Pairwise.imp (fun h=>Ne.symm h) (oZ hs))
 · intro t ht
   have:=dP _ ((hm _).1 (List.mem_map_of_mem ht))
   exact Nat.le_trans this (by decide)
 · intro t ht r
   obtain⟨_,p,g,rfl,_⟩:=h.b8 t ht
   simp[wG]
structure W7(w1:World)(kl:List Ax.ay)(rv:Value)(hd:List UInt8)(v8 v9:Value)(wx:World):Prop where
 v9:v9=.bool true
 out:∃x gm hm G T s,v8=.pointer (some ⟨x,0,none⟩)∧wx.heap[x]?=some (.cells (aO (Ax.au kl) rv gm hm hd) 107 (0,0))∧lJ wx gm G∧fU G (fun _=>false)∧pH wx hm T s∧En.Inv (En.sR (En.aj kl)) (En.gF (fun _=>false)) s s.found.length∧(∀p,p∈T.map ic↔p∈jI)∧Below w1.heap.size w1 wx
structure NE(w1:World)(g:Nat)(kl:List Ax.ay)(rv:Value)(nJ:List Pd.Pr)(b:Option Nat)(q:Option (Option Addr×List Pd.Pr×Nat))(gm hm:Nat)(G:List GT)(W:World):Prop where
 ni:NI w1 g (Ax.au kl) rv nJ b q (some (gm,G)) W
 out:∃T s,pH W hm T s∧En.Inv (En.sR (En.aj kl)) (En.gF (fun _=>false)) s s.found.length∧(∀p,p∈T.map ic↔p∈jI)∧∀x,b=some x→∀y,y∈cK hm T→y≠x
theorem aL(pl:ByteArray)(rv:Value)(gm hm:Nat){hd:List UInt8}(h:hd.length=32):(aO pl rv gm hm hd).size=36:=by simp[aO,Rc.bB,h]
theorem gE(pl:ByteArray)(rd:Option Addr)(n rc gm hm:Nat)(hd:List UInt8):∀v,v∈(aO pl (.slice rd n rc) gm hm hd).toList→v.oneCell'=true:=by
 intro v hv
 have SV:=Rc.po hd
 simp[aO]at hv
 rcases hv with rfl | rfl | rfl | rfl | hv
 · rfl
 · rfl
 · rfl
 · rfl
 · exact SV v hv
theorem NE.cut{w1 W:World}{g x:Nat}{kl:List Ax.ay}{rv:Value}{nJ:List Pd.Pr}{q:Option (Option Addr×List Pd.Pr×Nat)}{gm hm:Nat}{G:List GT}{hd:List UInt8}(h:NE w1 g kl rv nJ (some x) q gm hm G W)(hh:hd.length=32):W7 w1 kl rv hd (.pointer (some ⟨x,0,none⟩)) (.bool true) (W.setCells x 0 (aO (Ax.au kl) rv gm hm hd).toList):=by
 have hs:=h.ni.stored (cs:=aO (Ax.au kl) rv gm hm hd) (aL _ _ _ _ hh)
 obtain⟨_,Z,h2,h3⟩:=h.ni.cT x rfl
 obtain⟨T,s,e1,e2,e3,e4⟩:=h.out
 obtain⟨g1,g2⟩:=hs.Oz gm G rfl
 obtain⟨W8,hk⟩:=bX x (aO (Ax.au kl) rv gm hm hd).toList 0 Z W h2 (by simp[aL _ _ _ _ hh,h3])
 exact⟨rfl,x,gm,hm,G,T,s,rfl,fH h2 h3 (aL _ _ _ _ hh),g1,g2,e1.kept hk (fun b hb=>by simpa using e4 x rfl b hb),e2,e3,hs.aZ⟩
theorem NE.alloc{w1 W:World}{g:Nat}{kl:List Ax.ay}{rv:Value}{nJ:List Pd.Pr}{q:Option (Option Addr×List Pd.Pr×Nat)}{gm hm:Nat}{G:List GT}{Z:Array Value}(h:NE w1 g kl rv nJ none q gm hm G W)(hz:Z.size=36):NE w1 g kl rv nJ (some W.heap.size) q gm hm G (W.alloc (.cells Z 107)):=by
 obtain⟨T,s,e1,e2,e3,e4⟩:=h.out
 refine⟨h.ni.alloc hz,T,s,e1.below ((Below.refl _ _).alloc (Nat.le_refl _) _),e2,e3, ?_⟩
 intro x hx y hy e
 simp only[Option.some.injEq]at hx
 have:=e1.lt hy
 omega
theorem Q9{Z:Array Value}{U:List Value}(h:U.length=36)(hz:Z.size=37):(U.zipIdx).foldl (fun cs x=>cs.setIfInBounds (0+x.snd) x.fst) Z=(U++Z.toList.drop 36).toArray:=by
 rw[wa 0 U 0 _ (by rw[h,hz];decide)]
 simp[h]
end
/- New at axiomkeep's text, walked. -/
section
open Go.RowKit Go.Maps
theorem I1(cs Z:Array Value)(h:cs.size=36)(hz:Z.size=37):Array.foldl (fun c x=>c.setIfInBounds x.snd x.fst) Z cs.zipIdx 0 36=(cs.toList++Z.toList.drop 36).toArray:=by
 have e2:Array.foldl (fun c (x:Value×Nat)=>c.setIfInBounds x.snd x.fst) Z cs.zipIdx 0 36=(cs.toList.zipIdx).foldl (fun c x=>c.setIfInBounds (0+x.snd) x.fst) Z:=by
  have e1:36=cs.zipIdx.size:=by simp[h]
  rw[e1,←Array.foldl_toList,Array.toList_zipIdx]
  simp
 rw[e2]
 exact Q9 (by rw[Array.length_toList];exact h) hz
theorem uI(pl:ByteArray)(rv:Value)(gm hm:Nat)(hd:List UInt8):((aO pl rv gm hm hd).toList++[Value.slice none 0 0]).toArray=bE pl rv gm hm hd (.slice none 0 0):=by simp[aO,bE]
theorem RT{w1 wc:World}{kl:List Ax.ay}{rd:Option Addr}{rc gm hm:Nat}{l:List MR}{G:List GT}{T:List HT}{s:En.dB En.cg}{hd:List UInt8}(dN:aI w1 rd rc l)(he:(l.map MR.aw).map Ax.kX=Ax.gR kl)(bT:hd.length=32)
 (h:lJ wc gm G∧fU G (fun _=>false)∧pH wc hm T s∧En.Inv (En.sR (En.aj kl)) (En.gF (fun _=>false)) s s.found.length∧(∀p,p∈T.map ic↔p∈jI)∧Below w1.heap.size w1 wc){B:Nat}(hB:B≤wc.heap.size):
 nP (wc.alloc (.cells (bE (Ax.au kl) (.slice rd l.length rc) gm hm hd (.slice none 0 0)) 109)) B wc.heap.size kl (fun _=>false) 0:=by
 obtain⟨h1,h2,h3,h4,h5,h6⟩:=h
 have hb:Below wc.heap.size wc (wc.alloc (.cells (bE (Ax.au kl) (.slice rd l.length rc) gm hm hd (.slice none 0 0)) 109)):=(Below.refl _ _).alloc (Nat.le_refl _) _
 exact⟨⟨_,rd,rc,l,gm,G,hm,T,s,hd,.slice none 0 0,0,[],heap_alloc_new _ _,(dN.below h6).below hb,he,h1.below hb,h2,h3.below hb,h4,h5,bT,World.ownsRow_nil _ _ _ _,Nat.zero_le _,rfl⟩,hB⟩
theorem QZ(kl:List Ax.ay)(K:Nat→Int)(w:World)(hK:Dg.ui w K):Calls Tryz.prog 34 #[.string (Ax.au kl)] w fun e w'=>∃eg,e=.returned (.tuple #[.pointer (some ⟨eg,0,none⟩),.int .i64 0,.int .i64 0])∧nP w' w.heap.size eg kl (fun _=>false) 0∧Below w.heap.size w w':=by
 have sM:Hid (Calls Tryz.prog 56 #[.string (Ax.au kl)] w fun e w'=>∃rd rc l,e=.returned (.tuple #[.agg #[.string (Ax.au kl),.slice rd (List.length l) rc],.int .i64 0,.int .i64 0])∧Hid ((l.map MR.aw).map Ax.kX=Ax.gR kl∧aI w' rd rc l∧Below w.heap.size w w')):=(CR kl w).mono (fun e w' ⟨rd,rc,l,a,b⟩=>⟨rd,rc,l,a,b⟩)
 have hpz:=Ax.ji kl
 go_enter Tryz.func34,Tryz.ntmps34
 go_upto_region 4 with(go_at_call 56;refine sM.out.mono ?_;rintro e w0 ⟨rd,rc,l,rfl,HRU⟩)
 obtain⟨w1,sI⟩:∃w1,w1=w0.alloc (.cells #[.string (Ax.au kl),.slice rd l.length rc] 101):=⟨_,rfl⟩
 rw[←sI]
 obtain⟨he,dN,bL⟩:=HRU.out
 have fQ:Below w0.heap.size w0 w1:=by rw[sI];exact(Below.refl _ _).alloc (Nat.le_refl _) _
 have a8:Below w.heap.size w w1:=bL.trans (fQ.mono bL.size)
 have fq:w1.heap[w0.heap.size]?=some (.cells #[.string (Ax.au kl),.slice rd l.length rc] 101 (0,0)):=by rw[sI];exact heap_alloc_new w0 _
 have Jf:aI w1 rd rc l:=dN.below fQ
 obtain⟨CD,_,zK⟩:=iN Jf he
 have cA:l≠[]:=by
  rintro rfl
  simp[Ax.gR,Ax.lr]at he
 have x0:w1.cell? ⟨w0.heap.size,0,none⟩=some (.string (Ax.au kl)):=by rw[cell_of_row _ _ 0 _ _ _ fq];rfl
 have x1:w1.cell? ⟨w0.heap.size,1,none⟩=some (.slice rd l.length rc):=by rw[cell_of_row _ _ 1 _ _ _ fq];rfl
 have mO:=lt_of_heap fq
 have hN1:NI w1 w0.heap.size (Ax.au kl) (.slice rd l.length rc) (bP (l.map MR.aw)) none none none w1:=⟨Below.refl _ _,mO,x0,x1,(fun x h=>by cases h),(fun _ _ _ h=>by cases h),(fun _ _ h=>by cases h)⟩
 obtain⟨hd,Tk⟩:∃hd,hd=Dg.FG K (Ax.au kl):=⟨_,rfl⟩
 have bT:hd.length=32:=by rw[Tk];exact Dg.mo _ _
 have tq:Hid (∀b W,NI w1 w0.heap.size (Ax.au kl) (.slice rd l.length rc) (bP (l.map MR.aw)) b none none W→Calls Tryz.prog 59 #[.agg #[.string (Ax.au kl),.slice rd l.length rc]] W fun e w'=>∃qd qc Q,e=.returned (.slice qd (List.length Q) qc)∧NI w1 w0.heap.size (Ax.au kl) (.slice rd l.length rc) (bP (l.map MR.aw)) b (some (qd,Q,qc)) none w'):=by
  intro b W hW
  refine(mc W _ rd rc l (Jf.below hW.aZ) (by omega) (nH he) cA).mono ?_
  rintro e w' ⟨qd,qc,Q,rfl,q1,q2,q3⟩
  have h2:=hW.below q2
  refine⟨qd,qc,Q,rfl,h2.aZ,h2.gl,h2.c0,h2.c1,h2.cT, ?_,fun _ _ h=>by cases h⟩
  intro qd' Q' qc' h
  simp only[Option.some.injEq,Prod.mk.injEq]at h
  obtain⟨rfl,rfl,rfl⟩:=h
  exact⟨aG q1 (Nat.zero_le _),q3.out⟩
 have Ws:Hid (∀b qd Q qc W,NI w1 w0.heap.size (Ax.au kl) (.slice rd l.length rc) (bP (l.map MR.aw)) b (some (qd,Q,qc)) none W→Calls Tryz.prog 58 #[.slice qd (List.length Q) qc] W fun e w'=>∃gm G,e=.returned (.map (some gm))∧NI w1 w0.heap.size (Ax.au kl) (.slice rd l.length rc) (bP (l.map MR.aw)) b (some (qd,Q,qc)) (some (gm,G)) w'):=by
  intro b qd Q qc W hW
  obtain⟨r1,r2,r3⟩:=hW.row qd Q qc rfl
  have hQ:∀p,p∈Q↔p∈jI:=fun p=>(r3 p).trans (dX he p)
  have QA:Q.length≤3:=List.Nodup.length_le_of_subset (th r2) (fun p hp=>(hQ p).1 hp)
  refine(lR W 0 qd qc Q r1 (by omega) (fun p hp=>Nat.le_trans (dP p ((hQ p).1 hp)) (by decide))).mono ?_
  rintro e w' ⟨T,rfl,hT⟩
  have h2:=hW.below hT.aZ
  refine⟨_,T,rfl,h2.aZ,h2.gl,h2.c0,h2.c1,h2.cT,h2.row, ?_⟩
  intro gm' G' h
  simp only[Option.some.injEq,Prod.mk.injEq]at h
  obtain⟨rfl,rfl⟩:=h
  exact C1 hT hQ r2
 have HOF:Hid (∀b q m W,NI w1 w0.heap.size (Ax.au kl) (.slice rd l.length rc) (bP (l.map MR.aw)) b q m W→Calls Tryz.prog 60 #[.string (Ax.au kl)] W fun e w'=>e=.returned (.agg (Rc.bA hd).toArray)∧NI w1 w0.heap.size (Ax.au kl) (.slice rd l.length rc) (bP (l.map MR.aw)) b q m w'):=by
  intro b q m W hW
  rw[Tk]
  refine(D7 K (Ax.au kl) W (hK.below (a8.trans (hW.aZ.mono a8.size))) (by omega)).mono ?_
  rintro e w' ⟨rfl,hb⟩
  exact⟨rfl,hW.below hb⟩
 have Kf:Hid (∀b q gm G W,NI w1 w0.heap.size (Ax.au kl) (.slice rd l.length rc) (bP (l.map MR.aw)) b q (some (gm,G)) W→Calls Tryz.prog 57 #[.agg #[.string (Ax.au kl),.slice rd l.length rc],.map (some gm),.agg (Rc.bA hd).toArray] W fun e w'=>∃hm,e=.returned (.tuple #[.agg (aO (Ax.au kl) (.slice rd l.length rc) gm hm hd),.bool true])∧vE (aO (Ax.au kl) (.slice rd l.length rc) gm hm hd) b w'∧NE w1 w0.heap.size kl (.slice rd l.length rc) (bP (l.map MR.aw)) b q gm hm G w'):=by
  intro b q gm G W hW
  obtain⟨g1,g2⟩:=hW.Oz gm G rfl
  have dD:∀Q,Pd.vG Q→(∀p,p∈Q↔p∈bP (l.map MR.aw))→∃s,fk (l.map MR.aw) (dm Q G)=some s∧En.Inv (En.sR (En.aj kl)) (En.gF (fun _=>false)) s s.found.length:=fun Q _ hQ=>ox he g2 g1.names hQ
  refine(ym W _ rd rc l (CD.below hW.aZ) zK (nH he) cA (fun p hp=>Nat.le_trans (dP p ((dX he p).1 hp)) (by decide)) gm G g1 ?_ (Nat.le_trans (g2.sum g1.names (fun t ht=>cp.ord (g1.b8 t ht))) (by decide)) hd bT ?_).mono ?_
  · intro p hp
    obtain⟨t,ht,e,_⟩:=g2.has (p:=p.1) (n:=p.2) ((dX he p).1 hp)
    rw[←e]
    exact List.mem_map_of_mem ht
  · intro Q h1 h2
    obtain⟨s,e,_⟩:=dD Q h1 h2
    rw[e]
    rfl
  · rintro e w' ⟨hm,T,s,Q,rfl,m1,m2,m3,m4,m5,m6,m7⟩
    have h2:=hW.below m7
    obtain⟨s',e1,e2⟩:=dD Q m1 m2
    have hs:s'=s:=by
     rw[m3]at e1
     exact(Option.some.inj e1).symm
    subst hs
    refine⟨hm,rfl,PY h2 (aL _ _ _ _ bT) (gE _ _ _ _ _ _ _),h2,T,s',m4,e2, ?_, ?_⟩
    · intro p
      rw[m5,List.mem_reverse,m2]
      exact dX he p
    · intro x hx y hy
      obtain⟨_,Z,k2,_⟩:=hW.cT x hx
      have k3:=lt_of_heap k2
      have:=m6 y hy
      omega
 have Zj:Hid (aI w1 rd rc l):=Jf
 have mM:Hid (Below w.heap.size w w1):=a8
 have HE:Hid ((l.map MR.aw).map Ax.kX=Ax.gR kl):=he
 generalize bP (l.map MR.aw)=nJ at*
 clear CD Jf a8 fQ bL dN he HRU sI fq hK sM cA Tk zK
 go_cut [8,9]from 20 (fun v8 v9 wx=>Hid (W7 w1 kl (.slice rd l.length rc) hd v8 v9 wx))
 case first=>
  go_region_held3 (fun w'=>w'.cell? ⟨w0.heap.size,0,none⟩=some (.string (Ax.au kl))∧w'.cell? ⟨w0.heap.size,1,none⟩=some (.slice rd l.length rc)) (first | (exact NI.cells (by assumption)) | (exact NI.cells (NI.drew (by assumption))) | (exact NI.cells (NI.alloc (by assumption) rfl)) | (exact NI.cells (NI.alloc (NI.drew (by assumption)) rfl)) | (exact NI.cells (NE.ni (by assumption))) | (exact NI.cells (NE.ni (NE.alloc (by assumption) rfl))) | (exact NI.cells (NI.stored (NE.ni (by assumption)) (aL _ _ _ _ bT))) | (exact NI.cells (NI.stored (NE.ni (NE.alloc (by assumption) rfl)) (aL _ _ _ _ bT)))) (first | (go_at_call 59;refine(tq.out _ _ (by first | assumption | exact NI.drew (by assumption) | exact NI.alloc (by assumption) rfl | exact NI.alloc (NI.drew (by assumption)) rfl)).mono ?_;rintro e wn ⟨qd,qc,Q,rfl,hN⟩) | (go_at_call 58;refine(Ws.out _ _ _ _ _ (by first | assumption | exact NI.drew (by assumption) | exact NI.alloc (by assumption) rfl | exact NI.alloc (NI.drew (by assumption)) rfl)).mono ?_;rintro e wn ⟨gm,G,rfl,hN⟩) | (go_at_call 60;refine(HOF.out _ _ _ _ (by first | assumption | exact NI.drew (by assumption) | exact NI.alloc (by assumption) rfl | exact NI.alloc (NI.drew (by assumption)) rfl)).mono ?_;rintro e wn ⟨rfl,hN⟩) | (go_at_call 57;refine(Kf.out _ _ _ _ _ (by first | assumption | exact NI.drew (by assumption) | exact NI.alloc (by assumption) rfl | exact NI.alloc (NI.drew (by assumption)) rfl)).mono ?_;rintro e wn ⟨hm,rfl,eu,hE⟩;unfold vE at eu;dsimp only at eu;(try simp only[World.size_drew]at eu);have cE:=aL (Ax.au kl) (.slice rd l.length rc) gm hm bT))
  all_goals
   (go_wp2_with fail
    go_meet
    first
    | exact NE.cut (by assumption) bT
    | exact NE.cut (NE.alloc (by assumption) rfl) bT)
 case rest=>
  obtain⟨hv9,x,gm,hm,G,T,s,hv8,hx,HQ⟩:=ko.out
  subst hv9
  subst hv8
  have HQ':Hid _:=HQ
  have cE:=aL (Ax.au kl) (.slice rd l.length rc) gm hm bT
  clear ko HQ
  go_wp2_with (refine wpList_load_row rfl _ _ rfl x rfl _ _ _ _ hx Tryz.underlying107 rfl (by rw[aL _ _ _ _ bT];kernel_rfl) ?_)
  rw[I1 _ _ (aL _ _ _ _ bT) rfl]
  have e9:((aO (Ax.au kl) (.slice rd l.length rc) gm hm hd).toList++[Value.slice none 0 0]).toArray=bE (Ax.au kl) (.slice rd l.length rc) gm hm hd (.slice none 0 0):=uI _ _ _ _ _
  have yI:=HQ'.out.2.2.2.2.2
  have WY:Below w.heap.size w wc:=mM.out.trans (yI.mono mM.out.size)
  go_ret3
  refine⟨wc.heap.size,rfl, ?_,WY.alloc WY.size _⟩
  exact RT Zj.out HE.out bT HQ'.out WY.size
end
/- Engine.changed: the tables as facts come and go. -/
section
open Go.RowKit Go.Maps
theorem lJ.update{w w':World}{gm:Nat}{A B:List GT}{t t':GT}(h:lJ w gm (A++t::B))(hk:Kb t.bY w w')(ht:t'.ok w')(hn:t'.nm=t.nm)(hg:t'.g=t.g)(hf:∀b,b∈t'.bY→b∈t.bY∨w.heap.size≤b):lJ w' gm (A++t'::B):=by
 have V4:t∈A++t::B:=by simp
 have l7:(A++t'::B).map GT.key=(A++t::B).map GT.key:=by simp[GT.key,hn,hg]
 have gh:(A++t'::B).map GT.nm=(A++t::B).map GT.nm:=by simp[hn]
 have G3:=h.apart
 rw[List.pairwise_append,List.pairwise_cons]at G3
 obtain⟨p1,⟨p2,p3⟩,p4⟩:=G3
 have aE:∀u,u∈A++t::B→∀b,b∈u.bY→b<w.heap.size:=fun u hu b hb=>(h.b8 u hu).lt hb
 have hA:∀a,a∈A→∀x,x∈a.bY→¬x∈t.bY:=fun a ha=>p4 a ha t (by simp)
 have hB:∀a,a∈B→∀x,x∈a.bY→¬x∈t.bY:=fun a ha x hx h2=>p2 a ha x h2 hx
 refine⟨?_, ?_, ?_,by rw[gh];exact h.names, ?_⟩
 · rw[l7]
   refine h.map.kept hk ?_
   intro hb
   obtain⟨cur,T,e,_⟩:=(h.b8 t V4).types hb
   obtain⟨es,ck,e2⟩:=h.map.block
   rw[e2]at e
   cases e
 · intro u hu
   rcases List.mem_append.1 hu with hu | hu
   · exact(h.b8 u (by simp[hu])).kept hk (hA u hu)
   · rcases List.mem_cons.1 hu with rfl | hu
     · exact ht
     · exact(h.b8 u (by simp[hu])).kept hk (hB u hu)
 · rw[List.pairwise_append,List.pairwise_cons]
   refine⟨p1,⟨?_,p3⟩, ?_⟩
   · intro a ha x hx h2
     rcases hf x hx with h3 | h3
     · exact p2 a ha x h3 h2
     · have:=aE a (by simp[ha]) x h2;omega
   · intro a ha b hb x hx h2
     rcases List.mem_cons.1 hb with rfl | hb
     · rcases hf x h2 with h3 | h3
       · exact hA a ha x hx h3
       · have:=aE a (by simp[ha]) x hx;omega
     · exact p4 a ha b (by simp[hb]) x hx h2
 · intro u hu
   rcases List.mem_append.1 hu with hu | hu
   · exact h.short u (by simp[hu])
   · rcases List.mem_cons.1 hu with rfl | hu
     · rw[hn];exact h.short t V4
     · exact h.short u (by simp[hu])
theorem fU.update{A B:List GT}{t t':GT}{gv:Nat→Bool}(h:fU (A++t::B) gv)(DU:((A++t::B).map GT.nm).Nodup)(hn:t'.nm=t.nm)(hp:t'.pl=t.pl){i:Nat}(hi:i<36){r0:List ByteArray}(hu:En.uF i=(t.nm,r0))(b:Bool)(hr:∀r,r∈t'.L↔if r=r0 then b=true else r∈t.L):fU (A++t'::B) (gp gv i b):=by
 have nO:(A++t'::B).map tD=(A++t::B).map tD:=by simp[tD,hn,hp]
 refine⟨by rw[nO];exact h.nJ, ?_⟩
 have hu0:=hu
 have sU:∀u,u∈A++t::B→u.nm≠t.nm→∀r,r∈u.L↔∃j,j<36∧gp gv i b j=true∧En.uF j=(u.nm,r):=by
  intro u hu cA r
  rw[h.rows u hu r]
  constructor
  · rintro⟨j,hj,hg,e⟩
    refine⟨j,hj, ?_,e⟩
    unfold gp
    rw[if_neg ?_]
    · exact hg
    · rintro rfl
      rw[hu0]at e
      exact cA (congrArg Prod.fst e).symm
  · rintro⟨j,hj,hg,e⟩
    refine⟨j,hj, ?_,e⟩
    unfold gp at hg
    rw[if_neg ?_]at hg
    · exact hg
    · rintro rfl
      rw[hu0]at e
      exact cA (congrArg Prod.fst e).symm
 rw[List.map_append,List.map_cons,List.nodup_append,List.nodup_cons]at DU
 intro u p9 r
 rcases List.mem_append.1 p9 with p9 | p9
 · refine sU u (by simp[p9]) ?_ r
   intro e
   exact DU.2.2 u.nm (List.mem_map_of_mem p9) t.nm (by simp) e
 · rcases List.mem_cons.1 p9 with rfl | p9
   · rw[hr r,hn]
     by_cases ZX:r=r0
     · rw[if_pos ZX]
       subst ZX
       constructor
       · intro hb
         exact⟨i,hi,by simp[gp,hb],hu⟩
       · rintro⟨j,hj,hg,e⟩
         rw[←hu]at e
         have:=En.tE hj hi e
         subst this
         simpa [gp]using hg
     · rw[if_neg ZX,h.rows t (by simp) r]
       have Wv:∀j,En.uF j=(t.nm,r)→¬j=i:=by
        rintro j e rfl
        rw[hu]at e
        exact ZX (congrArg Prod.snd e).symm
       constructor
       · rintro⟨j,hj,hg,e⟩
         exact⟨j,hj,by unfold gp;rw[if_neg (Wv j e)];exact hg,e⟩
       · rintro⟨j,hj,hg,e⟩
         unfold gp at hg
         rw[if_neg (Wv j e)]at hg
         exact⟨j,hj,hg,e⟩
   · refine sU u (by simp[p9]) ?_ r
     intro e
     exact DU.2.1.1 (by rw[←e];exact List.mem_map_of_mem p9)
structure uW(w wr:World)(gm:Nat)(gv:Nat→Bool):Prop where
 at_:∃N,lJ wr gm N∧fU N gv∧∀b,b∈eW gm N→w.heap.size≤b
 aZ:Below w.heap.size w wr
theorem uW.below{w wr w':World}{gm:Nat}{gv:Nat→Bool}(h:uW w wr gm gv)(hb:Below wr.heap.size wr w'):uW w w' gm gv:=by
 obtain⟨N,h1,h2,h3⟩:=h.at_
 exact⟨⟨N,h1.below hb,h2,h3⟩,h.aZ.trans (hb.mono h.aZ.size)⟩
theorem uW.set{w wr w':World}{gm:Nat}{gv:Nat→Bool}{A B:List GT}{t t':GT}(hb:Below w.heap.size w wr)(h1:lJ wr gm (A++t::B))(h2:fU (A++t::B) gv)(h3:∀b,b∈eW gm (A++t::B)→w.heap.size≤b)
 (hk:Kb t.bY wr w')(ht:t'.ok w')(hn:t'.nm=t.nm)(hg:t'.g=t.g)(hp:t'.pl=t.pl)(hf:∀b,b∈t'.bY→b∈t.bY∨wr.heap.size≤b){i:Nat}(hi:i<36){r0:List ByteArray}(hu:En.uF i=(t.nm,r0))(b:Bool)(hr:∀r,r∈t'.L↔if r=r0 then b=true else r∈t.L):uW w w' gm (gp gv i b):=by
 have zq:∀x,x∈t.bY→w.heap.size≤x:=fun x hx=>h3 x (by unfold eW;simp[hx])
 refine⟨⟨A++t'::B,h1.update hk ht hn hg hf,h2.update h1.names hn hp hi hu b hr, ?_⟩,hk.aJ hb hb.size zq⟩
 intro x hx
 unfold eW at hx
 rw[List.mem_cons,List.mem_flatMap]at hx
 rcases hx with rfl | ⟨u,p9,hx⟩
 · exact h3 x (by simp[eW])
 · rcases List.mem_append.1 p9 with p9 | p9
   · exact h3 x (by unfold eW;rw[List.mem_cons,List.mem_flatMap];exact .inr ⟨u,by simp[p9],hx⟩)
   · rcases List.mem_cons.1 p9 with rfl | p9
     · rcases hf x hx with h4 | h4
       · exact zq x h4
       · have:=hb.size;omega
     · exact h3 x (by unfold eW;rw[List.mem_cons,List.mem_flatMap];exact .inr ⟨u,by simp[p9],hx⟩)
def ax(gv:Nat→Bool)(is:List Nat)(b:Bool):Nat→Bool:=is.foldl (fun g i=>gp g i b) gv
theorem il(gv:Nat→Bool)(is:List Nat)(i:Nat)(b:Bool):ax gv (is++[i]) b=gp (ax gv is b) i b:=by simp[ax]
end
/- Engine.changed, walked. -/
section
open Go.RowKit Go.Maps
theorem BT(rd:Option Addr)(n m rc:Nat):(Value.slice rd n rc).ownBlock=(Value.slice rd m rc).ownBlock:=by cases rd<;>rfl
def fI(l:List FI)(is:List Nat):Prop:=l.map (fun f=>(f.pred,f.args))=is.map be∧∀i,i∈is→i<36
theorem fI.len{l:List FI}{is:List Nat}(h:fI l is):is.length=l.length:=by
 have:=congrArg List.length h.1
 simpa using this.symm
theorem fI.at_{l:List FI}{is:List Nat}(h:fI l is){k:Nat}(hk:k<l.length):∃i,is.take (k+1)=is.take k++[i]∧i<36∧(l[k]).pred=(be i).1∧(l[k]).args=(be i).2:=by
 have hki:k<is.length:=by rw[h.len];exact hk
 refine⟨is[k],by rw[List.take_add_one,List.getElem?_eq_getElem hki];rfl,h.2 _ (List.getElem_mem hki), ?_⟩
 have e:=congrArg (fun x=>x[k]?) h.1
 simp only[List.getElem?_map,List.getElem?_eq_getElem hk,List.getElem?_eq_getElem hki,Option.map_some,Option.some.injEq]at e
 exact⟨congrArg Prod.fst e,congrArg Prod.snd e⟩
theorem tZ{p:ByteArray}{a b:Nat}(h1:(p,a)∈jI)(h2:(p,b)∈jI):a=b:=congrArg Prod.snd (II _ h1 _ h2 rfl)
structure ChR(w wr:World)(eg gm:Nat)(gv:Nat→Bool)(p:ByteArray)(av:Value)(names:List ByteArray)(i tg:Nat):Prop where
 row:∀W,Below wr.heap.size wr W→Calls Tryz.prog 41 #[.pointer (some ⟨eg,0,none⟩),.agg #[.string p,av]] W fun e w'=>e=.returned (.tuple #[.agg (Tb.fB names),.bool true])∧Below W.heap.size W w'
 look:∀W,Below wr.heap.size wr W→(Instr.lookup 102 (.map (some gm)) (.string p) false).run Tryz.prog W=.ok (.pointer (some ⟨tg,0,none⟩)) W
 cm:∀W,Below wr.heap.size wr W→Calls Tryz.prog 127 #[.pointer (some ⟨tg,0,none⟩),.agg (Tb.fB names)] W fun e w'=>e=.returned (.tuple #[])∧uW w w' gm (gp gv i true)
 leave:∀W,Below wr.heap.size wr W→Calls Tryz.prog 128 #[.pointer (some ⟨tg,0,none⟩),.agg (Tb.fB names)] W fun e w'=>e=.returned (.tuple #[])∧uW w w' gm (gp gv i false)
theorem T4{w wr:World}{eg gm hm:Nat}{gv:Nat→Bool}{T:List HT}{s:En.dB En.cg}(uY:w.cell? ⟨eg,3,none⟩=some (.map (some hm)))(hH:pH w hm T s)(hT:∀p,p∈T.map ic↔p∈jI)(hU:eY w)(h:uW w wr gm gv){i:Nat}(hi:i<36){av:Value}(yS:wr.ownsRow 0 9 1 av (be i).2.length (strCells (be i).2)):
 ∃tg,ChR w wr eg gm gv (be i).1 av (be i).2 i tg:=by
 obtain⟨N,hG,hR,hf⟩:=h.at_
 have nO:=kL hi
 obtain⟨t,ht,gh,lj⟩:=hR.has nO
 obtain⟨u,hu,p9⟩:=List.mem_map.1 ((hT _).2 nO)
 simp only[ic,Prod.mk.injEq]at p9
 have uH:(be i).1.size≤1000000:=Nat.le_trans (dP _ nO) (by decide)
 have hlL:t.L.length≤36:=Nat.le_trans (ot ht) (hR.sum hG.names (fun t ht=>cp.ord (hG.b8 t ht)))
 obtain⟨A,B,hAB⟩:=List.append_of_mem ht
 subst hAB
 refine⟨t.g,⟨?_, ?_, ?_, ?_⟩⟩
 · intro W hW
   have qL:Below w.heap.size w W:=h.aZ.trans (hW.mono h.aZ.size)
   have h3:(be i).2.length≤3:=by
    have:∀p,p∈jI→p.2≤3:=by unfold jI;decide
    exact this _ nO
   refine Ot W eg hm u.g (be i).2.length (T.map HT.pk) (be i).1 (be i).2 av (by rw[qL.cell (block_lt_of_cell uY)];exact uY) (hH.map.below qL) (by rw[←p9.1];exact rU hH.names hu) uH ?_ (ae yS hW) rfl h3 (fun a ha=>(iU i a ha).1) (fun a ha=>Nat.le_trans (iU i a ha).2 (by decide)) (Utf8Tabs_below hU qL)
   have:=(((hH.b8 u hu).below qL).ph).lH.2.2.1
   rw[p9.2]at this
   exact this
 · intro W hW
   exact(hG.below hW).map.look (by rw[←gh];exact iH hG.names (by simp)) uH Tryz.underlying102 (Tryz.zeroValue122 W)
 · intro W hW
   refine(DD W t.g t.nm t.pl t.rd t.rc t.L _ _ _ ((hG.below hW).b8 t (by simp)) (by omega)).mono ?_
   rintro e w' ⟨rd',rc',rfl,q1,q2,q3⟩
   refine⟨rfl, ?_⟩
   refine uW.set (t':=⟨t.nm,t.pl,t.g,rd',rc',Tb.put t.L (Tb.ev (be i).2)⟩) (h.aZ.trans (hW.mono h.aZ.size)) (hG.below hW) hR hf q2 q1 rfl rfl rfl ?_ hi (r0:=Tb.ev (be i).2) (by rw[kI,gh]) true ?_
   · intro b hb
     unfold GT.bY at hb
     rcases List.mem_cons.1 hb with rfl | hb
     · exact .inl (by simp[GT.bY])
     · rw[Option.mem_toList]at hb
       rcases q3 b hb with h5 | h5
       · exact .inl (by unfold GT.bY;rw[List.mem_cons,Option.mem_toList];exact .inr h5)
       · exact .inr h5
   · intro r
     show r∈Tb.put t.L (Tb.ev (be i).2)↔_
     rw[Tb.vL]
     by_cases e:r=Tb.ev (be i).2
     · simp[e]
     · simp[e]
 · intro W hW
   refine(Ks W t.g t.nm t.pl t.rd t.rc t.L _ _ _ ((hG.below hW).b8 t (by simp)) (by omega)).mono ?_
   rintro e w' ⟨rfl,q1,q2⟩
   refine⟨rfl, ?_⟩
   have NX:Tb.Ord t.L:=cp.ord (hG.b8 t (by simp))
   refine uW.set (t':=⟨t.nm,t.pl,t.g,t.rd,t.rc,Tb.leave t.L (Tb.ev (be i).2)⟩) (h.aZ.trans (hW.mono h.aZ.size)) (hG.below hW) hR hf q2 q1 rfl rfl rfl ?_ hi (r0:=Tb.ev (be i).2) (by rw[kI,gh]) false ?_
   · intro b hb
     refine .inl ?_
     unfold GT.bY at hb ⊢
     rcases List.mem_cons.1 hb with rfl | hb
     · simp
     · rw[Option.mem_toList]at hb
       rw[List.mem_cons,Option.mem_toList]
       exact .inr ((BT _ _ _ _).trans hb)
   · intro r
     show r∈Tb.leave t.L (Tb.ev (be i).2)↔_
     rw[Tb.Kd NX]
     by_cases e:r=Tb.ev (be i).2
     · simp[e]
     · simp[e]
end
/- Engine.changed, its loops. -/
section
open Go.RowKit Go.Maps
theorem EH(w:World)(eg gm hm:Nat)(G:List GT)(gv:Nat→Bool)(T:List HT)(s:En.dB En.cg)(uD:w.cell? ⟨eg,2,none⟩=some (.map (some gm)))(uY:w.cell? ⟨eg,3,none⟩=some (.map (some hm)))(hG:lJ w gm G)(hR:fU G gv)(hH:pH w hm T s)(hT:∀p,p∈T.map ic↔p∈jI)(hU:eY w)
 (cd:Option Addr)(cc:Nat)(cm:List FI)(gd:Option Addr)(gc:Nat)(gone:List FI)(LJ:bM w cd cc cm)(Hi:bM w gd gc gone)(ci gi:List Nat)(Qp:fI cm ci)(QW:fI gone gi)(vl:cm.length≤1000)(mO:gone.length≤1000):
 Calls Tryz.prog 68 #[.pointer (some ⟨eg,0,none⟩),.slice cd cm.length cc,.slice gd gone.length gc] w fun e w'=>∃gm',e=.returned (.tuple #[.map (some gm'),.bool true])∧uW w w' gm' (ax (ax gv ci true) gi false):=by
 have hG3:=hR.len hG.names
 have hGs:=hR.sum hG.names (fun t ht=>cp.ord (hG.b8 t ht))
 have HCG:Hid (Calls Tryz.prog 126 #[.map (some gm)] w fun e w'=>e=.returned (.map (some w.heap.size))∧Hid (uW w w' w.heap.size gv)):=by
  refine(zA w gm G hG (fun t ht=>by have:=ot ht;omega) (by omega)).mono ?_
  rintro e w' ⟨N,rfl,hN⟩
  obtain⟨g1,g2⟩:=hN.toG hG.short hG.names (by omega)
  refine⟨rfl,⟨⟨N,g1,hR.perm g2, ?_⟩,hN.aZ⟩⟩
  intro b hb
  unfold eW at hb
  rw[List.mem_cons,List.mem_flatMap]at hb
  rcases hb with rfl | ⟨t,ht,hb⟩
  · exact Nat.le_refl _
  · have:=(hN.b8 t ht).2 b hb
    omega
 have Ue:Hid (∀wr gv' i av,uW w wr w.heap.size gv'→i<36→wr.ownsRow 0 9 1 av (be i).2.length (strCells (be i).2)→∃tg,ChR w wr eg w.heap.size gv' (be i).1 av (be i).2 i tg):=fun wr gv' i av h hi yS=>T4 uY hH hT hU h hi yS
 have HCF:Hid (bM w cd cc cm):=LJ
 have HGF:Hid (bM w gd gc gone):=Hi
 have HCI:Hid (fI cm ci):=Qp
 have HGI:Hid (fI gone gi):=QW
 have SS:=bh LJ.row
 have S9:=bh Hi.row
 have MH:=block_lt_of_cell uD
 clear hG hR hH hT hU LJ Hi Qp QW uY hG3 hGs
 go_enter Tryz.func68,Tryz.ntmps68
 go_wp2_with (go_at_call 126;refine HCG.out.mono ?_;rintro e w0 ⟨rfl,V8⟩)
 go_loopw [25] (fun i wr=>∃k:Nat,k≤cm.length∧i=.int .i64 k∧uW w wr w.heap.size (ax gv (ci.take k) true)) (fun i _=>cm.length-(intOf i).toNat)
 case atStart=>exact⟨0,Nat.zero_le _,rfl,V8.out⟩
 case round=>
  obtain⟨k,hk,rfl,hW⟩:=hrel
  have HW:Hid (uW w wr w.heap.size (ax gv (ci.take k) true)):=hW
  clear V8 hW
  by_cases aE:k<cm.length
  · skip
    have bQ:=(HCF.out.below HW.out.aZ).row
    obtain⟨g,rfl,hg,NL,bH⟩:=aD bQ (by omega)
    have c0:=bH _ _ (eI cm k aE).1
    have c1:=bH _ _ (eI cm k aE).2
    obtain⟨i,e1,hi,e2,e3⟩:=HCI.out.at_ aE
    have yS:wr.ownsRow 0 9 1 (cm[k]).av (be i).2.length (strCells (be i).2):=by
     have h9:=(HCF.out.below HW.out.aZ).each _ (List.getElem_mem aE)
     unfold FI.ok at h9
     rw[e3]at h9
     exact h9
    obtain⟨ad,ac,Nu⟩:=ah yS
    obtain⟨tg,PC⟩:=Ue.out wr _ i _ HW.out hi yS
    rw[e2]at c0
    rw[Nu]at c1 PC
    obtain⟨hr,hl,VY,hle⟩:=PC
    rw[Ec]at hr VY hle
    have LA:Hid _:=hr
    have WJ:Hid _:=hl
    have PV:Hid _:=VY
    have fS:Hid (ax gv (ci.take (k+1)) true=gp (ax gv (ci.take k) true) i true):=by
     rw[e1,il]
     exact rfl
    clear hr hl VY hle yS Nu bH bQ e1 e2 e3 Ue
    generalize Tb.eh (be i).2 0=x0 at*
    generalize Tb.eh (be i).2 1=x1 at*
    generalize Tb.eh (be i).2 2=x2 at*
    generalize (be i).2.length=nl at*
    generalize (be i).1=p at*
    go_wp2_with (first | (go_at_call 41;refine(LA.out _ (by exact(Below.refl _ _).alloc (Nat.le_refl _) _)).mono ?_;rintro e w5 ⟨rfl,la⟩;obtain⟨Ys,B0,Wt⟩:=sN la;have t5:w5.cell? ⟨wr.heap.size,0,none⟩=some (.string p):=(by rw[cell_of_row _ _ 0 _ _ _ Ys];rfl);have l5:=WJ.out (w5.alloc (.cells #[.string x0,.string x1,.string x2] 119)) (B0.alloc B0.size _);have adK:wr.heap.size<w5.heap.size:=(by omega);have PT:Hid (Below wr.heap.size wr w5):=B0;clear la Ys B0 Wt) | (go_at_call 127;refine(PV.out _ (by exact PT.out.alloc PT.out.size _)).mono ?_;rintro e w7 ⟨rfl,X3⟩;have HW7:Hid _:=X3;clear X3))
    go_roundw
    case rel=>exact⟨k+1,aE,by go_num,by rw[fS.out];exact HW7.out⟩
    case measure=>simp[intOf];omega
  · have Nh:Hid (uW w wr w.heap.size (ax gv ci true)):=by
     have h9:=HW.out
     rw[List.take_of_length_le (by rw[HCI.out.len];omega)]at h9
     exact h9
    clear HW
    go_wp2_with fail
    go_loopw [46] (fun i wr=>∃k:Nat,k≤gone.length∧i=.int .i64 k∧uW w wr w.heap.size (ax (ax gv ci true) (gi.take k) false)) (fun i _=>gone.length-(intOf i).toNat)
    case atStart=>exact⟨0,Nat.zero_le _,rfl,Nh.out⟩
    case round=>
     obtain⟨k,hk,rfl,hW⟩:=hrel
     have HW:Hid (uW w wr w.heap.size (ax (ax gv ci true) (gi.take k) false)):=hW
     clear Nh hW
     by_cases aE:k<gone.length
     · skip
       have bQ:=(HGF.out.below HW.out.aZ).row
       obtain⟨g,rfl,hg,NL,bH⟩:=aD bQ (by omega)
       have c0:=bH _ _ (eI gone k aE).1
       have c1:=bH _ _ (eI gone k aE).2
       obtain⟨i,e1,hi,e2,e3⟩:=HGI.out.at_ aE
       have yS:wr.ownsRow 0 9 1 (gone[k]).av (be i).2.length (strCells (be i).2):=by
        have h9:=(HGF.out.below HW.out.aZ).each _ (List.getElem_mem aE)
        unfold FI.ok at h9
        rw[e3]at h9
        exact h9
       obtain⟨ad,ac,Nu⟩:=ah yS
       obtain⟨tg,PC⟩:=Ue.out wr _ i _ HW.out hi yS
       rw[e2]at c0
       rw[Nu]at c1 PC
       obtain⟨hr,hl,VY,hle⟩:=PC
       rw[Ec]at hr VY hle
       have LA:Hid _:=hr
       have WJ:Hid _:=hl
       have PV:Hid _:=hle
       have fS:Hid (ax (ax gv ci true) (gi.take (k+1)) false=gp (ax (ax gv ci true) (gi.take k) false) i false):=by
        rw[e1,il]
        exact rfl
       clear hr hl VY hle yS Nu bH bQ e1 e2 e3 Ue
       generalize Tb.eh (be i).2 0=x0 at*
       generalize Tb.eh (be i).2 1=x1 at*
       generalize Tb.eh (be i).2 2=x2 at*
       generalize (be i).2.length=nl at*
       generalize (be i).1=p at*
       go_wp2_with (first | (go_at_call 41;refine(LA.out _ (by exact(Below.refl _ _).alloc (Nat.le_refl _) _)).mono ?_;rintro e w5 ⟨rfl,la⟩;obtain⟨Ys,B0,Wt⟩:=sN la;have t5:w5.cell? ⟨wr.heap.size,0,none⟩=some (.string p):=(by rw[cell_of_row _ _ 0 _ _ _ Ys];rfl);have l5:=WJ.out (w5.alloc (.cells #[.string x0,.string x1,.string x2] 119)) (B0.alloc B0.size _);have adK:wr.heap.size<w5.heap.size:=(by omega);have PT:Hid (Below wr.heap.size wr w5):=B0;clear la Ys B0 Wt) | (go_at_call 128;refine(PV.out _ (by exact PT.out.alloc PT.out.size _)).mono ?_;rintro e w7 ⟨rfl,X3⟩;have HW7:Hid _:=X3;clear X3))
       go_roundw
       case rel=>exact⟨k+1,aE,by go_num,by rw[fS.out];exact HW7.out⟩
       case measure=>simp[intOf];omega
     · have Wf:Hid (uW w wr w.heap.size (ax (ax gv ci true) gi false)):=by
        have h9:=HW.out
        rw[List.take_of_length_le (by rw[HGI.out.len];omega)]at h9
        exact h9
       clear HW
       go_wp2_with fail
       go_ret2
       exact⟨_,rfl,Wf.out⟩
end
end Go.Proofs.YtdmicblafmhflaaGreatDoor
