/- Package follow: join for every atom; meet. -/
import Derived.Test.YtdmicblafmhflaaGreatDoorC26
import Derived.Test.YtdmicblafmhflaaGreatDoorC22
import Derived.Test.YtdmicblafmhflaaGreatDoorC11
import Derived.Test.YtdmicblafmhflaaGreatDoorC10
import Derived.Test.YtdmicblafmhflaaGreatDoorC21
set_option linter.unusedSimpArgs false
set_option linter.unusedVariables false
set_option maxHeartbeats 4000000
set_option maxRecDepth 100000
namespace Go.Proofs.YtdmicblafmhflaaGreatDoor
section
open Go.RowKit Go.Maps Go.WideMaps Go.WideElems
open Go.Sort (grow)
theorem Af{sb mb:Nat}{rv:Value}{a:Ax.Atom}{ad:Option Addr}{ac:Nat}{bd:Option Addr}{bc:Nat}{body:List MA}{P:List En.cl}{z:En.cl}{turn aX:Nat}(PQ:P.length=aX)(Bw:aX≤999990)(VQ:turn≤10):∀(m i:Nat),i+m=body.length→Hy sb mb rv a ad ac bd bc body P z turn aX i
 | 0,i,h=>by
  have:i=body.length:=by omega
  subst this
  exact JF
 | m+1,i,h=>NH (by omega) PQ Bw VQ (Af PQ Bw VQ m (i+1) (by omega))
structure fF(w:World)(rd:Option Addr)(rc:Nat)(l:List MR):Prop where
 CC:aI w rd rc l
 head:∀r,r∈l→Tp r.head.1
 atoms:∀r,r∈l→∀x,x∈r.body→Tp x.1
 two:∀r,r∈l→r.body.length≤2
theorem fF.below{w w':World}{rd:Option Addr}{rc:Nat}{l:List MR}(h:fF w rd rc l)(hb:Below w.heap.size w w'):fF w' rd rc l:=⟨h.CC.below hb,h.head,h.atoms,h.two⟩
theorem fF.search{w w':World}{sb mb:Nat}{rv:Value}{fd:Option Addr}{fc:Nat}{T:List HT}{s s':En.dB En.cl}{rd:Option Addr}{rc:Nat}{l:List MR}(h:fF w rd rc l)(h0:mM w sb mb rv fd fc T s)(hs:iy w w' sb mb rv fd fc T s s'):fF w' rd rc l:=by
 have iM:∀b cur U,b∈dA sb fd fc s.found.length T→w.heap[b]?=some (.cells cur U (0,0))→U=322∨U=325∨U=117∨U=119∨U=3:=by
  intro b cur U hb e
  obtain⟨jX,U',e',hU⟩:=lD h0 hb
  rw[e]at e'
  simp only[Option.some.injEq,Obj.cells.injEq]at e'
  rw[e'.2.1]
  exact hU
 have hT:∀b cur,b∈dA sb fd fc s.found.length T→w.heap[b]?=some (.cells cur 310 (0,0))→False:=by
  intro b cur hb e
  have:=iM b cur _ hb e
  rcases this with e | e | e | e | e<;>cases e
 refine⟨⟨hs.kept.row h.CC.1 ?_,fun r hr=>⟨MA.Hv (h.CC.2.1 r hr).1 hs.kept hT,hs.kept.row (h.CC.2.1 r hr).2.1 ?_,fun x hx=>MA.Hv ((h.CC.2.1 r hr).2.2 x hx) hs.kept hT⟩,h.CC.2.2⟩,h.head,h.atoms,h.two⟩
 · intro b hb hm
   obtain⟨cur,e⟩:=aH h.CC.1 hb
   have:=iM b cur _ hm e
   rcases this with e | e | e | e | e<;>cases e
 · intro b hb hm
   obtain⟨cur,e⟩:=aH (h.CC.2.1 r hr).2.1 hb
   have:=iM b cur _ hm e
   rcases this with e | e | e | e | e<;>cases e
theorem fF.at{w:World}{rd:Option Addr}{rc:Nat}{l:List MR}(h:fF w rd rc l){k:Nat}(hk:k<l.length):
 ∃g a ad ac bd bc body,rd=some ⟨g,0,none⟩∧g<w.heap.size∧l.length≤rc∧w.cell? ⟨g,k*4,none⟩=some (.int .i64 (Ax.Atom.at_ a))∧w.cell? ⟨g,k*4+1,none⟩=some (.string a.pred)∧w.cell? ⟨g,k*4+2,none⟩=some (.slice ad a.ag.length ac)∧
  w.cell? ⟨g,k*4+3,none⟩=some (.slice bd body.length bc)∧tZ w a ad ac bd bc body∧(l[k]).aw=⟨a,List.map Prod.fst body⟩:=by
 obtain⟨g,rfl,hg,hc,bH⟩:=aD h.CC.1 (by omega)
 have hm:=List.getElem_mem hk
 have dD:=h.CC.2.1 _ hm
 have h1:=h.head _ hm
 have h2:=h.atoms _ hm
 have h3:=h.two _ hm
 obtain⟨c0,c1,c2,c3⟩:=pP l k hk
 generalize l[k]=r at*
 rcases r with⟨⟨a,hv⟩,bv,body⟩
 obtain⟨ad,c,e1⟩:=ah dD.1
 obtain⟨bd,d,e2⟩:=ah dD.2.1
 simp only at e1 e2
 subst e1 e2
 exact⟨g,a,ad,c,bd,d,body,rfl,hg,hc,bH _ _ c0,bH _ _ c1,bH _ _ c2,bH _ _ c3,⟨dD,h1,h2,h3⟩,rfl⟩
end
/- Package follow: takeBodiless. -/
namespace En
def eE(r:Ax.br):List cl:=if r.body=[]then [du (val []) r.head]else []
end En
section
open Go.RowKit Go.Maps Go.WideMaps Go.WideElems
open Go.Sort (grow)
theorem Bz(w:World)(sb mb:Nat)(rd:Option Addr)(rc:Nat)(l:List MR)(fd:Option Addr)(fc:Nat)(T:List HT)(s:En.dB En.cl)(h:mM w sb mb (.slice rd l.length rc) fd fc T s)(hl:fF w rd rc l)(hp:∀r,r∈l→r.head.1.pred∈T.map HT.nm)(yD:l.length≤1000)
 (hF:s.found.length+l.length≤999990)(hC:∀f,s.count f+l.length≤1000000000000):
 Calls Tryz.prog 188 #[.pointer (some ⟨sb,0,none⟩)] w fun e w'=>e=.returned (.tuple #[])∧iy w w' sb mb (.slice rd l.length rc) fd fc T s (En.holds s ((l.map MR.aw).flatMap En.eE)):=by
 have s0:w.cell? ⟨sb,0,none⟩=some (.slice rd l.length rc):=by rw[cell_of_row _ _ 0 _ _ _ h.cU];rfl
 have hsb:sb<w.heap.size:=lt_of_heap h.cU
 have hle:=bh hl.CC.1
 have HH:Hid (mM w sb mb (.slice rd l.length rc) fd fc T s):=h
 have HL:Hid (fF w rd rc l):=hl
 have HP:Hid (∀r,r∈l→r.head.1.pred∈T.map HT.nm):=hp
 have HF:Hid (s.found.length+l.length≤999990):=hF
 have HC:Hid (∀f,s.count f+l.length≤1000000000000):=hC
 have fm:Hid (∀k,(((l.take k).map MR.aw).flatMap En.eE).length≤k):=by
  intro k
  have:∀q:List MR,((q.map MR.aw).flatMap En.eE).length≤q.length:=by
   intro q
   induction q with
   | nil=>simp
   | cons r q ih=>
    simp only[List.map_cons,List.flatMap_cons,List.length_append,List.length_cons]
    have:(En.eE r.aw).length≤1:=by unfold En.eE;split<;>simp
    omega
  have:=this (l.take k)
  rw[List.length_take]at this
  omega
 clear h hl hp hF hC
 go_enter Tryz.func188,Tryz.ntmps188
 go_wp2_with fail
 go_loopw [9] (fun iv wr=>∃k:Nat,k≤l.length∧iv=.int .i64 k∧iy w wr sb mb (.slice rd l.length rc) fd fc T s (En.holds s (((l.take k).map MR.aw).flatMap En.eE))) (fun iv _=>l.length-(intOf iv).toNat)
 case atStart=>exact⟨0,Nat.zero_le _,rfl,iy.refl HH.out⟩
 case round=>
  obtain⟨k,hk,rfl,jE⟩:=hrel
  have HS:Hid (iy w wr sb mb (.slice rd l.length rc) fd fc T s (En.holds s (((l.take k).map MR.aw).flatMap En.eE))):=jE
  clear jE
  by_cases aE:k<l.length
  · have Cz:=HL.out.search HH.out HS.out
    obtain⟨g,a,ad,ac,bd,bc,body,rfl,hg,mG,d0,d1,d2,d3,Fk,gC⟩:=Cz.at aE
    have J8:((l.take (k+1)).map MR.aw).flatMap En.eE=((l.take k).map MR.aw).flatMap En.eE++En.eE ⟨a,List.map Prod.fst body⟩:=by
     rw[List.take_succ_eq_append_getElem aE,List.map_append,List.flatMap_append,List.map_singleton,List.flatMap_singleton,gC]
    have ev:Hid (((l.take (k+1)).map MR.aw).flatMap En.eE=((l.take k).map MR.aw).flatMap En.eE++En.eE ⟨a,List.map Prod.fst body⟩):=J8
    clear J8
    have FP:=HP.out _ (List.getElem_mem aE)
    have Wy:a.pred∈T.map HT.nm:=by
     have:(l[k]).head.1=a:=by
      have:=congrArg Ax.br.head gC
      exact this
     rw[←this]
     exact FP
    have Pq:=fm.out k
    have WE:=HF.out
    have QT:=HC.out
    by_cases bL:body.length=0
    · have tp:En.eE ⟨a,List.map Prod.fst body⟩=[En.du (En.val []) a]:=by
       have:body=[]:=List.eq_nil_of_length_eq_zero bL
       subst this
       rfl
      obtain⟨vP,vK,T1,kV,ml,zt⟩:=HS.out.on
      have pS:=En.mn (((l.take k).map MR.aw).flatMap En.eE) s
      obtain⟨A,t,B,hT1,PZ⟩:=mP (T:=T1) (p:=a.pred) (by rw[j6 ml];exact Wy)
      subst hT1
      have qC:Hid (∀W:World,Below wr.heap.size wr W→Calls Tryz.prog 231 #[.pointer (some ⟨sb,0,none⟩),.agg #[.int .i64 a.at_,.string a.pred,.slice ad a.ag.length ac,.slice bd body.length bc],.agg #[.int .i64 0,.string ⟨#[]⟩,.string ⟨#[]⟩,.string ⟨#[]⟩,.string ⟨#[]⟩,.string ⟨#[]⟩,.string ⟨#[]⟩,.string ⟨#[]⟩,.string ⟨#[]⟩,.string ⟨#[]⟩,.string ⟨#[]⟩,.string ⟨#[]⟩,.string ⟨#[]⟩]] W fun e w'=>e=.returned (.tuple #[])∧iy w w' sb mb (.slice (some ⟨g,0,none⟩) l.length rc) fd fc T s (En.holds s (((l.take (k+1)).map MR.aw).flatMap En.eE))):=by
       intro W hW
       have:=sE W sb mb _ vP vK A B t _ (kV.below hW) (by omega) (fun f=>by have h1:=En.gS (((l.take k).map MR.aw).flatMap En.eE) s f;have h2:=QT f;omega) a ad ac _ (Fk.below hW).mr.1 Fk.head PZ [] 0 _ _ I0 bd body.length bc rfl
       refine this.mono ?_
       rintro e w' ⟨rfl,jE⟩
       refine⟨rfl, ?_⟩
       rw[ev.out,tp,En.j4]
       exact iy.trans HH.out (kV.below hW) ml zt (HS.out.kept.below hW) (HS.out.post hW).cells pS.1 jE
      have acK:((body.length:Int)==0)=true:=by simp[bL]
      clear bL tp kV zt ml pS PZ Fk Cz gC FP Wy Pq WE QT
      go_wp2_with (go_at_call 231;refine(qC.out _ (by exact(Below.refl _ _).alloc (Nat.le_refl _) _)).mono ?_;rintro e w6 ⟨rfl,uy⟩;have UY:Hid (iy w w6 sb mb (.slice (some ⟨g,0,none⟩) l.length rc) fd fc T s (En.holds s (((l.take (k+1)).map MR.aw).flatMap En.eE))):=uy;clear uy)
      go_roundw
      case rel=>exact⟨k+1,by omega,by go_num,UY.out⟩
      case measure=>simp[intOf];omega
    · have tp:En.eE ⟨a,List.map Prod.fst body⟩=[]:=by
       unfold En.eE
       rw[if_neg]
       intro e
       have:=congrArg List.length e
       simp at this
       exact bL (by rw[this];rfl)
      have Vq:Hid (iy w (wr.alloc (.cells #[.int .i64 a.at_,.string a.pred,.slice ad a.ag.length ac,.slice bd body.length bc] 222)) sb mb (.slice (some ⟨g,0,none⟩) l.length rc) fd fc T s (En.holds s (((l.take (k+1)).map MR.aw).flatMap En.eE))):=by
       rw[ev.out,tp,List.append_nil]
       exact HS.out.post ((Below.refl _ _).alloc (Nat.le_refl _) _)
      have acK:((body.length:Int)==0)=false:=by simp only[beq_eq_false_iff_ne];omega
      have agI:¬(body.length=0):=bL
      clear bL tp Fk Cz gC FP Wy Pq WE QT
      go_wp2_with fail
      go_roundw
      case rel=>exact⟨k+1,by omega,by go_num,Vq.out⟩
      case measure=>simp[intOf];omega
  · have Tc:k=l.length:=by omega
    have nW:Hid (iy w wr sb mb (.slice rd l.length rc) fd fc T s (En.holds s ((l.map MR.aw).flatMap En.eE))):=by
     have:=HS.out
     rw[Tc,List.take_length]at this
     exact this
    clear Tc
    go_wp2_with fail
    go_end0
    exact⟨rfl,nW.out⟩
end
/- Package follow: meet. -/
section
open Go.RowKit Go.Maps Go.WideMaps Go.WideElems
open Go.Sort (grow)
theorem GX{m j:Nat}(h:j<m):(List.range m).take (j+1)=(List.range m).take j++[j]:=by
 rw[List.take_succ_eq_append_getElem (by simpa using h)]
 simp
theorem NQ(w:World)(sb mb:Nat)(rd:Option Addr)(rc:Nat)(l:List MR)(fd:Option Addr)(fc:Nat)(T:List HT)(s:En.dB En.cl)(h:mM w sb mb (.slice rd l.length rc) fd fc T s)(hl:fF w rd rc l)(hp:∀r,r∈l→r.head.1.pred∈T.map HT.nm)(yD:l.length≤1000)
 (P:List En.cl)(z:En.cl)(aX:Nat)(PQ:P.length=aX)(Yb:aX<s.found.length)(UJ:s.found.take (aX+1)=P++[z])
 (hF:s.found.length+((l.map MR.aw).flatMap (En.bD P z)).length≤999990)(hC:∀f,s.count f+((l.map MR.aw).flatMap (En.bD P z)).length≤1000000000000):
 Calls Tryz.prog 189 #[.pointer (some ⟨sb,0,none⟩),.int .i64 aX] w fun e w'=>e=.returned (.tuple #[])∧iy w w' sb mb (.slice rd l.length rc) fd fc T s (En.holds s ((l.map MR.aw).flatMap (En.bD P z))):=by
 have s0:w.cell? ⟨sb,0,none⟩=some (.slice rd l.length rc):=by rw[cell_of_row _ _ 0 _ _ _ h.cU];rfl
 have hsb:sb<w.heap.size:=lt_of_heap h.cU
 have hle:=bh hl.CC.1
 have HH:Hid (mM w sb mb (.slice rd l.length rc) fd fc T s):=h
 have HL:Hid (fF w rd rc l):=hl
 have HP:Hid (∀r,r∈l→r.head.1.pred∈T.map HT.nm):=hp
 have HF:Hid (s.found.length+((l.map MR.aw).flatMap (En.bD P z)).length≤999990):=hF
 have HC:Hid (∀f,s.count f+((l.map MR.aw).flatMap (En.bD P z)).length≤1000000000000):=hC
 have HPZ:Hid (s.found.take (aX+1)=P++[z]):=UJ
 have Gn:Hid (P.length=aX):=PQ
 have Bw:aX≤999990:=by omega
 clear h hl hp hF hC UJ PQ
 go_enter Tryz.func189,Tryz.ntmps189
 go_wp2_with fail
 go_loopw [12] (fun iv wr=>∃k:Nat,k≤l.length∧iv=.int .i64 k∧iy w wr sb mb (.slice rd l.length rc) fd fc T s (En.holds s (((l.take k).map MR.aw).flatMap (En.bD P z)))) (fun iv _=>l.length-(intOf iv).toNat)
 case atStart=>exact⟨0,Nat.zero_le _,rfl,iy.refl HH.out⟩
 case round=>
  obtain⟨k,hk,rfl,jE⟩:=hrel
  have HS:Hid (iy w wr sb mb (.slice rd l.length rc) fd fc T s (En.holds s (((l.take k).map MR.aw).flatMap (En.bD P z)))):=jE
  clear jE
  by_cases aE:k<l.length
  · have Cz:=HL.out.search HH.out HS.out
    obtain⟨g,a,ad,ac,bd,bc,body,rfl,hg,mG,d0,d1,d2,d3,Fk,gC⟩:=Cz.at aE
    have J8:((l.take (k+1)).map MR.aw).flatMap (En.bD P z)=((l.take k).map MR.aw).flatMap (En.bD P z)++En.bD P z ⟨a,List.map Prod.fst body⟩:=by
     rw[List.take_succ_eq_append_getElem aE,List.map_append,List.flatMap_append,List.map_singleton,List.flatMap_singleton,gC]
    have ev:Hid (((l.take (k+1)).map MR.aw).flatMap (En.bD P z)=((l.take k).map MR.aw).flatMap (En.bD P z)++En.bD P z ⟨a,List.map Prod.fst body⟩):=J8
    have FP:=HP.out _ (List.getElem_mem aE)
    have Wy:a.pred∈T.map HT.nm:=by
     have:(l[k]).head.1=a:=congrArg Ax.br.head gC
     rw[←this]
     exact FP
    have Zm:((l.take (k+1)).map MR.aw).flatMap (En.bD P z)=((l.map MR.aw).take (k+1)).flatMap (En.bD P z):=by rw[List.map_take]
    have OU:=nI (En.bD P z) (l.map MR.aw) (k+1)
    rw[←Zm,J8,List.length_append]at OU
    have Wx:En.bD P z ⟨a,List.map Prod.fst body⟩=(List.range body.length).flatMap fun turn=>En.jn P z turn a 0 (body.map Prod.fst) []:=by
     unfold En.bD
     simp
    rw[Wx]at OU
    have HJT:Hid (En.bD P z ⟨a,List.map Prod.fst body⟩=(List.range body.length).flatMap fun turn=>En.jn P z turn a 0 (body.map Prod.fst) []):=Wx
    have aaN:Hid ((((l.take k).map MR.aw).flatMap (En.bD P z)).length+((List.range body.length).flatMap fun turn=>En.jn P z turn a 0 (body.map Prod.fst) []).length≤((l.map MR.aw).flatMap (En.bD P z)).length):=OU
    have h2:=Fk.two
    obtain⟨vP,vK,T1,kV,ml,zt⟩:=HS.out.on
    have pS:=En.mn (((l.take k).map MR.aw).flatMap (En.bD P z)) s
    have YK:Hid (s.found.length≤(En.holds s (((l.take k).map MR.aw).flatMap (En.bD P z))).found.length∧(En.holds s (((l.take k).map MR.aw).flatMap (En.bD P z))).found.length≤s.found.length+(((l.take k).map MR.aw).flatMap (En.bD P z)).length):=pS
    obtain⟨w1,sL⟩:∃w1,w1=wr.alloc (.cells #[.int .i64 a.at_,.string a.pred,.slice ad a.ag.length ac,.slice bd body.length bc] 222):=⟨_,rfl⟩
    have jw:Below wr.heap.size wr w1:=by rw[sL];exact(Below.refl _ _).alloc (Nat.le_refl _) _
    have BD:w1.heap[wr.heap.size]?=some (.cells #[.int .i64 a.at_,.string a.pred,.slice ad a.ag.length ac,.slice bd body.length bc] 222 (0,0)):=by rw[sL];exact heap_alloc_new wr _
    have PI:Hid (mM w1 sb mb (.slice (some ⟨g,0,none⟩) l.length rc) vP vK T1 (En.holds s (((l.take k).map MR.aw).flatMap (En.bD P z)))):=kV.below jw
    have HS0:Hid (mM wr sb mb (.slice (some ⟨g,0,none⟩) l.length rc) vP vK T1 (En.holds s (((l.take k).map MR.aw).flatMap (En.bD P z)))):=kV
    have HRA:Hid (tZ w1 a ad ac bd bc body):=Fk.below jw
    have HBX:Hid (w1.heap[wr.heap.size]?=some (.cells #[.int .i64 a.at_,.string a.pred,.slice ad a.ag.length ac,.slice bd body.length bc] 222 (0,0))):=BD
    have mK:Hid (Below wr.heap.size wr w1):=jw
    have Zt:Hid (T1.map HT.key=T.map HT.key):=ml
    have V8:Hid (∀b,b∈dA sb vP vK (En.holds s (((l.take k).map MR.aw).flatMap (En.bD P z))).found.length T1→b∈dA sb fd fc s.found.length T∨w.heap.size≤b):=zt
    have HPA:Hid (a.pred∈T.map HT.nm):=Wy
    have KQ:wr.heap.size<w1.heap.size:=lt_of_heap BD
    clear Fk Cz gC FP Wy Zm OU Wx J8 kV pS zt ml BD
    obtain⟨wA,PR⟩:∃x,x=wr:=⟨wr,rfl⟩
    go_upto_region 4 with fail
    rw[←sL]
    clear sL jw
    rw[←PR]
    rw[←PR]at HS HS0 HBX mK KQ
    clear d0 d1 d2 d3 hg PR
    go_loopw [19] (fun jv w2=>∃j:Nat,j≤body.length∧jv=.int .i64 j∧iy w1 w2 sb mb (.slice (some ⟨g,0,none⟩) l.length rc) vP vK T1 (En.holds s (((l.take k).map MR.aw).flatMap (En.bD P z))) (En.holds (En.holds s (((l.take k).map MR.aw).flatMap (En.bD P z))) (((List.range body.length).take j).flatMap fun turn=>En.jn P z turn a 0 (body.map Prod.fst) []))) (fun jv _=>body.length-(intOf jv).toNat)
    case atStart=>exact⟨0,Nat.zero_le _,rfl,iy.refl PI.out⟩
    case round=>
     obtain⟨j,hj,rfl,SG⟩:=hrel
     have Iv:Hid (iy w1 wr sb mb (.slice (some ⟨g,0,none⟩) l.length rc) vP vK T1 (En.holds s (((l.take k).map MR.aw).flatMap (En.bD P z))) (En.holds (En.holds s (((l.take k).map MR.aw).flatMap (En.bD P z))) (((List.range body.length).take j).flatMap fun turn=>En.jn P z turn a 0 (body.map Prod.fst) []))):=SG
     clear SG
     have Hz:wr.heap[wA.heap.size]?=some (.cells #[.int .i64 a.at_,.string a.pred,.slice ad a.ag.length ac,.slice bd body.length bc] 222 (0,0)):=Iv.out.kept.heap HBX.out (fun hc=>by have:=sB HS0.out hc;omega)
     by_cases EZ:j<body.length
     · obtain⟨Td,SA,T2,zX,Ms,XE⟩:=Iv.out.on
       have CK:(((List.range body.length).take (j+1)).flatMap fun turn=>En.jn P z turn a 0 (body.map Prod.fst) [])=(((List.range body.length).take j).flatMap fun turn=>En.jn P z turn a 0 (body.map Prod.fst) [])++En.jn P z j a 0 (body.map Prod.fst) []:=by
        rw[GX EZ,List.flatMap_append,List.flatMap_singleton]
       have Xm:=nI (fun turn=>En.jn P z turn a 0 (body.map Prod.fst) []) (List.range body.length) (j+1)
       rw[CK,List.length_append]at Xm
       have NB:=En.mn (((List.range body.length).take j).flatMap fun turn=>En.jn P z turn a 0 (body.map Prod.fst) []) (En.holds s (((l.take k).map MR.aw).flatMap (En.bD P z)))
       have ti:=YK.out
       have hL2:=aaN.out
       have WE:=HF.out
       have QT:=HC.out
       have GC:=(Af (sb:=sb) (mb:=mb) (rv:=(.slice (some ⟨g,0,none⟩) l.length rc)) (a:=a) (ad:=ad) (ac:=ac) (bd:=bd) (bc:=bc) (body:=body) (P:=P) (z:=z) (turn:=j) Gn.out Bw (by omega) body.length 0 (by omega)) wr Td SA T2 _ [] 0 _ _ zX (HRA.out.search PI.out Iv.out) I0 (by omega) (by rw[j6 Ms,j6 Zt.out];exact HPA.out) (by omega) (by rw[En.qa _ _ (by omega),En.qa _ _ (by omega)];exact HPZ.out) (by rw[List.drop_zero];omega) (fun f=>by have h1:=En.gS (((List.range body.length).take j).flatMap fun turn=>En.jn P z turn a 0 (body.map Prod.fst) []) (En.holds s (((l.take k).map MR.aw).flatMap (En.bD P z))) f;have h3:=En.gS (((l.take k).map MR.aw).flatMap (En.bD P z)) s f;have h4:=QT f;rw[List.drop_zero];omega)
       rw[List.drop_zero]at GC
       have AJ:Hid (Calls Tryz.prog 232 #[.pointer (some ⟨sb,0,none⟩),.agg #[.int .i64 a.at_,.string a.pred,.slice ad a.ag.length ac,.slice bd body.length bc],.int .i64 0,.int .i64 j,.int .i64 aX,.agg #[.int .i64 0,.string ⟨#[]⟩,.string ⟨#[]⟩,.string ⟨#[]⟩,.string ⟨#[]⟩,.string ⟨#[]⟩,.string ⟨#[]⟩,.string ⟨#[]⟩,.string ⟨#[]⟩,.string ⟨#[]⟩,.string ⟨#[]⟩,.string ⟨#[]⟩,.string ⟨#[]⟩]] wr fun e w'=>e=.returned (.tuple #[])∧iy w1 w' sb mb (.slice (some ⟨g,0,none⟩) l.length rc) vP vK T1 (En.holds s (((l.take k).map MR.aw).flatMap (En.bD P z))) (En.holds (En.holds s (((l.take k).map MR.aw).flatMap (En.bD P z))) (((List.range body.length).take (j+1)).flatMap fun turn=>En.jn P z turn a 0 (body.map Prod.fst) []))):=by
        refine GC.mono ?_
        rintro e w' ⟨rfl,jE⟩
        refine⟨rfl, ?_⟩
        rw[CK,En.j4]
        exact iy.trans PI.out zX Ms XE Iv.out.kept Iv.out.cells NB.1 jE
       have r0:wr.cell? ⟨wA.heap.size,0,none⟩=some (.int .i64 a.at_):=by rw[cell_of_row _ _ _ _ _ _ Hz];rfl
       have r1:wr.cell? ⟨wA.heap.size,1,none⟩=some (.string a.pred):=by rw[cell_of_row _ _ _ _ _ _ Hz];rfl
       have r2:wr.cell? ⟨wA.heap.size,2,none⟩=some (.slice ad a.ag.length ac):=by rw[cell_of_row _ _ _ _ _ _ Hz];rfl
       have r3:wr.cell? ⟨wA.heap.size,3,none⟩=some (.slice bd body.length bc):=by rw[cell_of_row _ _ _ _ _ _ Hz];rfl
       have u1:wA.heap.size<wr.heap.size:=lt_of_heap Hz
       clear GC zX Ms XE CK Xm NB ti hL2 WE QT Hz
       go_wp2_with (go_at_call 232;refine AJ.out.mono ?_;rintro e w6 ⟨rfl,uy⟩;have UY:Hid (iy w1 w6 sb mb (.slice (some ⟨g,0,none⟩) l.length rc) vP vK T1 (En.holds s (((l.take k).map MR.aw).flatMap (En.bD P z))) (En.holds (En.holds s (((l.take k).map MR.aw).flatMap (En.bD P z))) (((List.range body.length).take (j+1)).flatMap fun turn=>En.jn P z turn a 0 (body.map Prod.fst) []))):=uy;clear uy)
       go_roundw
       case rel=>exact⟨j+1,by omega,by go_num,UY.out⟩
       case measure=>simp[intOf];omega
     · have hjc:j=body.length:=by omega
       have uG:Hid (iy w wr sb mb (.slice (some ⟨g,0,none⟩) l.length rc) fd fc T s (En.holds s (((l.take (k+1)).map MR.aw).flatMap (En.bD P z)))):=by
        have h1:=Iv.out
        have e1:(List.range body.length).take j=List.range body.length:=List.take_of_length_le (by simp;omega)
        rw[e1,←HJT.out]at h1
        rw[ev.out,En.j4]
        exact iy.trans HH.out PI.out Zt.out V8.out (HS.out.kept.below mK.out) (HS.out.post mK.out).cells YK.out.1 h1
       clear hjc Hz
       go_wp2_with fail
       go_roundw
       case rel=>exact⟨k+1,by omega,by go_num,uG.out⟩
       case measure=>simp[intOf];omega
  · have Tc:k=l.length:=by omega
    have nW:Hid (iy w wr sb mb (.slice rd l.length rc) fd fc T s (En.holds s ((l.map MR.aw).flatMap (En.bD P z)))):=by
     have:=HS.out
     rw[Tc,List.take_length]at this
     exact this
    clear Tc
    go_wp2_with fail
    go_end0
    exact⟨rfl,nW.out⟩
end
/- The rules of axiomkeep's text are fit for the search. -/
section
open Go.RowKit
theorem iP{w:World}{rd:Option Addr}{rc:Nat}{l:List MR}{kl:List Ax.ay}(h:aI w rd rc l)(he:(l.map MR.aw).map Ax.kX=Ax.gR kl):fF w rd rc l∧(∀r,r∈l→r.head.1.pred∈Ax.gP)∧l.length≤8:=by
 have hG:=Ax.qZ kl
 have fU:∀r,r∈l→Ax.kX r.aw∈Ax.gR kl:=fun r hr=>by
  rw[←he]
  exact List.mem_map.2 ⟨_,List.mem_map.2 ⟨r,hr,rfl⟩,rfl⟩
 have u9:∀r,r∈l→Tp r.head.1:=fun r hr=>by
  have h1:=(hG.fit _ (fU r hr)).1.1
  have h2:=hG.atoms _ (fU r hr) _ (.inl rfl)
  exact⟨h2.2.2,h1.2⟩
 have pD:∀r,r∈l→∀x,x∈r.body→Tp x.1:=fun r hr x hx=>by
  have LP:Ax.Ct x.1∈(Ax.kX r.aw).2:=List.mem_map.2 ⟨x.1,List.mem_map.2 ⟨x,hx,rfl⟩,rfl⟩
  have h1:=(hG.fit _ (fU r hr)).1.2 _ LP
  have h2:=hG.atoms _ (fU r hr) _ (.inr LP)
  exact⟨h2.2.2,h1.2⟩
 have htw:∀r,r∈l→r.body.length≤2:=fun r hr=>by
  have:=(hG.fit _ (fU r hr)).2
  simpa [Ax.kX,MR.aw]using this
 refine⟨⟨h,u9,pD,htw⟩,fun r hr=>(hG.atoms _ (fU r hr) _ (.inl rfl)).1, ?_⟩
 have h1:=congrArg List.length he
 simp only[List.length_map]at h1
 have:=hG.CZ
 omega
theorem Fv{l:List MR}{P:List En.cl}{z:En.cl}(h2:∀r,r∈l→r.body.length≤2):(l.map MR.aw).flatMap (En.bD P z)=En.l8 ((l.map MR.aw).map En.cT) P z:=by
 refine En.rj P z _ ?_
 intro r hr
 obtain⟨m,hm,rfl⟩:=List.mem_map.1 hr
 simpa [MR.aw]using h2 m hm
end
/- The search's beginning: what is given, and the rules without a body. No program here. -/
namespace En
section
variable {F : Type} [DecidableEq F]
def cB:dB F:=⟨[],fun _=>0⟩
def cL(s:dB F)(l:List F):dB F:=l.foldl (fun s f=>hold s f 0) s
theorem qA(s:dB F)(f:F)(l:List F):cL s (f::l)=cL (hold s f 0) l:=rfl
theorem Bl(s:dB F)(a b:List F):cL s (a++b)=cL (cL s a) b:=by simp[cL]
theorem MC{s:dB F}{f g:F}{n:Nat}:g∈(hold s f n).found↔g=f∨g∈s.found:=by
 obtain⟨t,h1,h2,h3⟩:=wU s f n
 rw[h1,List.mem_append]
 constructor
 · rintro(h | h)
   · exact .inr h
   · exact .inl (h2 g h)
 · rintro(rfl | h)
   · exact List.mem_append.1 h3
   · exact .inl h
theorem qh:∀(l:List F) (s:dB F),(∀g,g∈(cL s l).found↔g∈s.found∨g∈l)∧(s.found.Nodup→(cL s l).found.Nodup)∧∀g,(cL s l).count g=s.count g
 | [],s=>⟨fun g=>by simp[cL],fun h=>h,fun g=>rfl⟩
 | f::l,s=>by
  obtain⟨h1,h2,h3⟩:=qh l (hold s f 0)
  rw[qA]
  refine⟨fun g=> ?_,fun h=>h2 (wQ h f 0),fun g=> ?_⟩
  · rw[h1,MC,List.mem_cons]
    constructor
    · rintro((h | h) | h)
      · exact .inr (.inl h)
      · exact .inl h
      · exact .inr (.inr h)
    · rintro(h | h | h)
      · exact .inl (.inr h)
      · exact .inl (.inl h)
      · exact .inr h
  · rw[h3,iV]
    simp
def S6(R:List (eo F)):List F:=R.flatMap fun r=>if r.k=0 then (r.inst []).toList else []
theorem AK(h:F):∀R:List (eo F),(∀r,r∈R→r.k≤2)→total R [] h=ib (S6 R) h
 | [],_=>rfl
 | r::R,hR=>by
  have ih:=AK h R (fun q hq=>hR q (by simp[hq]))
  unfold total S6 at*
  simp only[List.map_cons,List.sum_cons,List.flatMap_cons]
  rw[ih]
  have e:lu r (iA r.k []) h=ib (if r.k=0 then (r.inst []).toList else []) h:=by
   have hk:=hR r (by simp)
   have:r.k=0∨r.k=1∨r.k=2:=by omega
   rcases this with e | e | e
   · rw[e]
     simp only[iA,if_true,Bc,List.filterMap_cons,List.filterMap_nil]
     cases r.inst []<;>rfl
   · rw[e]
     simp[iA,Bc,ib]
   · rw[e]
     simp[iA,Bc,ib]
  rw[e]
  unfold ib
  rw[List.count_append]
theorem Ja(R:List (eo F))(hR:∀r,r∈R→r.k≤2)(gl:List F):Inv R (· ∈gl) (holds (cL cB gl) (S6 R)) 0:=by
 obtain⟨a1,a2,a3⟩:=qh gl (cB (F:=F))
 obtain⟨t,b1,b2,b3,b4,b5⟩:=gz (S6 R) (cL cB gl)
 have mO:∀f,f∈(cL cB gl).found↔f∈gl:=fun f=>by
  rw[a1]
  simp[cB]
 refine⟨b4 (a2 (by simp[cB])), ?_, ?_, ?_, ?_⟩
 · intro f hf
   rw[b1]
   exact List.mem_append_left _ ((mO f).2 hf)
 · intro h
   rw[List.take_zero,AK h R hR,b5,a3]
   show 0+_=_
   rw[Nat.zero_add]
   rfl
 · intro r hr fs OO h hi
   rw[List.take_zero]at OO
   have hm:=(ya (hR r hr)).1 OO
   have ET:r.k=0:=by
    cases hk:r.k with
    | zero=>rfl
    | succ m=>
     rw[hk]at hm
     cases fs with
     | nil=>simp at hm
     | cons x _=>exact absurd (hm.2 x (by simp)) (by simp)
   have CA:fs=[]:=by
    rw[ET]at hm
    exact List.eq_nil_of_length_eq_zero hm.1
   subst CA
   rw[b1]
   refine b3 h (List.mem_flatMap.2 ⟨r,hr, ?_⟩)
   rw[if_pos ET,hi]
   simp
 · intro X hX hgX f hf
   rw[b1]at hf
   rcases List.mem_append.1 hf with hf | hf
   · exact hgX f ((mO f).1 hf)
   · obtain⟨r,hr,vB⟩:=List.mem_flatMap.1 (b2 f hf)
     by_cases hk:r.k=0
     · rw[if_pos hk]at vB
       have hi:r.inst []=some f:=by
        cases h:r.inst []with
        | none=>rw[h]at vB;simp at vB
        | some q=>rw[h]at vB;simp at vB;rw[vB]
       exact hX r hr [] (by rw[hk];rfl) (by simp) f hi
     · rw[if_neg hk]at vB
       simp at vB
end
end En
/- takeBodiless says what the rules without a body say. -/
namespace En
theorem Kg(r:Ax.br):eE r=if (cT r).k=0 then ((cT r).inst []).toList else []:=by
 obtain⟨h,b⟩:=r
 cases b with
 | nil=>rfl
 | cons x b=>rfl
theorem tM:∀rs:List Ax.br,rs.flatMap eE=S6 (rs.map cT)
 | []=>rfl
 | r::rs=>by
  have ih:=tM rs
  unfold S6 at ih ⊢
  rw[List.flatMap_cons,List.map_cons,List.flatMap_cons,ih,Kg]
end En
/- NoneHolds: empty tables. -/
section
open Go.RowKit Go.Maps Go.WideMaps Go.WideElems
def El(p:Pd.Pr)(g:Nat):HT:=⟨p.1,p.2,g,none,0,none,0,[],[]⟩
theorem wK(p:Pd.Pr)(g:Nat):(El p g).bZ=[g]:=rfl
def ig(t:HT):Pd.Pr:=(t.nm,t.pl)
theorem N4{w:World}{p:Pd.Pr}{g:Nat}(h:w.heap[g]?=some (.cells #[.string p.1,.int .i64 p.2,.slice none 0 0,.slice none 0 0] 117 (0,0))):(El p g).ok w:=⟨⟨h,⟨(by intro r hr;cases hr),World.ownsRow_nil _ _ _ _⟩,List.Pairwise.nil,by decide⟩,World.ownsRow_nil _ _ _ _⟩
structure kA(w wr:World)(mb k:Nat)(Q:List Pd.Pr)(T:List HT):Prop where
 map:∃D,wr.ownsMap Tryz.prog 9 cR mb k D∧Fi D (T.map HT.pk)
 b7:∀t,t∈T→t.ok wr∧∃p g,t=El p g∧mb<g
 apart:T.Pairwise iB
 ny:T.map ig=(Q.take k).reverse
 aZ:Below w.heap.size w wr
 Wq:mb=w.heap.size
theorem Du{w wr w3:World}{mb k:Nat}{Q:List Pd.Pr}{T:List HT}{o1:Obj}(h:kA w wr mb k Q T)(hk:k<Q.length){D:DataW Unit}(hD:Fi D (T.map HT.pk))(hm:IsMap D)
 (hw:w3.ownsMap Tryz.prog 9 cR mb (k+1) (D.put (aY (Q[k]).1) (.lit (.int .i64 (wr.heap.size+1:Nat)))))(hg:((wr.alloc o1).alloc (.cells (match Q[k]with | p=>#[.string p.1,.int .i64 p.2,.slice none 0 0,.slice none 0 0]) 117)).grownBy w3 (some mb)):
 kA w w3 mb (k+1) Q (El Q[k] (wr.heap.size+1)::T):=by
 have fq:Kb [mb] ((wr.alloc o1).alloc (.cells (match Q[k]with | p=>#[.string p.1,.int .i64 p.2,.slice none 0 0,.slice none 0 0]) 117)) w3:=Kb.dz hg
 have cM:Below wr.heap.size wr ((wr.alloc o1).alloc (.cells (match Q[k]with | p=>#[.string p.1,.int .i64 p.2,.slice none 0 0,.slice none 0 0]) 117)):=((Below.refl _ _).alloc (Nat.le_refl _) _).alloc (by simp) _
 have hs:=h.aZ.size
 have aE:∀t,t∈T→∀b,b∈t.bZ→b<wr.heap.size∧mb<b:=by
  intro t ht b hb
  obtain⟨dD,p,g,rfl,Vc⟩:=h.b7 t ht
  refine⟨dD.lt hb, ?_⟩
  rw[wK,List.mem_singleton]at hb
  rw[hb];exact Vc
 have Pz:=h.Wq
 refine⟨⟨_,hw,Bd hD hm _ _⟩, ?_, ?_, ?_, ?_,Pz⟩
 · intro t ht
   rcases List.mem_cons.1 ht with rfl | ht
   · refine⟨N4 ?_,_,_,rfl,by omega⟩
     have:=fq.heap (qv wr o1 _) (by simp;omega)
     exact this
   · obtain⟨dD,p,g,e,Vc⟩:=h.b7 t ht
     refine⟨(dD.below cM).kept fq ?_,p,g,e,Vc⟩
     intro b hb hc
     simp only[List.mem_singleton]at hc
     have:=(aE t ht b hb).2
     omega
 · refine List.pairwise_cons.2 ⟨?_,h.apart⟩
   intro t ht x hx LP
   rw[wK,List.mem_singleton]at hx
   have:=(aE t ht x LP).1
   omega
 · have e:Q.take (k+1)=Q.take k++[Q[k]]:=by rw[List.take_add_one,List.getElem?_eq_getElem hk];rfl
   rw[e,List.reverse_append,List.map_cons,h.ny]
   rfl
 · exact fq.aK (h.aZ.trans (cM.mono hs)) (by simp;omega) (by simp;omega)
theorem yU(w:World)(B:Nat)(qd:Option Addr)(qc:Nat)(Q:List Pd.Pr)(hq:w.ownsRow B 112 2 (.slice qd Q.length qc) Q.length (aB Q))(hl:Q.length≤1000)(hs:∀p,p∈Q→p.1.size≤1000000):
 Calls Tryz.prog 186 #[.slice qd Q.length qc] w fun e w'=>∃T,e=.returned (.map (some w.heap.size))∧kA w w' w.heap.size Q.length Q T:=by
 have WA:=@run_makeMap Tryz.prog
 have HS:Hid (∀p,p∈Q→p.1.size≤1000000):=hs
 clear hs
 go_enter Tryz.func186,Tryz.ntmps186
 go_wp2_with fail
 go_loopw [9] (fun i wr=>∃(k:Nat) (T:List HT),k≤Q.length∧i=.int .i64 k∧kA w wr w.heap.size k Q T) (fun i _=>Q.length-(intOf i).toNat)
 case atStart=>exact⟨0,[],Nat.zero_le _,rfl,⟨⟨_,World.ownsMap_made _ _ _ _,B4⟩,by simp,List.Pairwise.nil,by simp,(Below.refl _ _).alloc (Nat.le_refl _) _,rfl⟩⟩
 case round=>
  obtain⟨k,T,hk,rfl,hn⟩:=hrel
  obtain⟨D,al,hD⟩:=hn.map
  have HN:Hid (kA w wr w.heap.size k Q T):=hn
  have HD:Hid (Fi D (T.map HT.pk)):=hD
  have hDm:=al.isMap
  have Pz:=al.lt
  have aU:=hn.aZ
  have cE:=aU.size
  have HB:Hid (Below w.heap.size w wr):=aU
  clear hD hn
  by_cases aE:k<Q.length
  · have bQ:=ae hq aU
    obtain⟨g,rfl,hg,hc,bH⟩:=aD bQ (by omega)
    have fG:=bH _ _ (aT Q k aE).1
    have fC:=bH _ _ (aT Q k aE).2
    have ux:(Q[k]).1.size≤1000000:=HS.out _ (List.getElem_mem aE)
    have yF:Hid (∀w3 o1,w3.ownsMap Tryz.prog 9 cR w.heap.size (k+1) (D.put (aY (Q[k]).1) (.lit (.int .i64 (wr.heap.size+1:Nat))))→((wr.alloc o1).alloc (.cells (match Q[k]with | p=>#[.string p.1,.int .i64 p.2,.slice none 0 0,.slice none 0 0]) 117)).grownBy w3 (some w.heap.size)→kA w w3 w.heap.size (k+1) Q (El Q[k] (wr.heap.size+1)::T)):=fun w3 o1 a b=>Du HN.out aE HD.out hDm a b
    generalize Q[k]=x at fG fC ux yF
    have mH:keyOf Tryz.prog 9 (.string x.1)=some (aY x.1):=keyOf_string_mk Tryz.underlying9 (by unfold maxLen;omega)
    have HK:Hid (keyOf Tryz.prog 9 (.string x.1)=some (aY x.1)):=mH
    clear mH bH bQ aU hq
    go_wp2_with (at_mapUpdate;go_must (refine wpList_mapUpdate_own _ rfl _ _ _ 103 rfl 9 97 Tryz.gq Tryz.underlying103 _ w.heap.size k D rfl ((al.alloc _).alloc _) (by unfold maxLen;omega) _ _ (aY x.1) rfl rfl HK.out (.lit (.int .i64 (wr.heap.size+1:Nat))) [] (by rfl) ?_;intro w3 fB gp))
    go_roundw
    case rel=>exact⟨k+1,_,by omega,by go_num,yF.out _ _ fB gp⟩
    case measure=>simp[intOf];omega
  · have va:k=Q.length:=by omega
    have HE:Hid (kA w wr w.heap.size Q.length Q T):=by rw[←va];exact HN.out
    clear aU va
    go_wp2_with fail
    go_ret
    exact⟨T,rfl,HE.out⟩
end
end Go.Proofs.YtdmicblafmhflaaGreatDoor
