/- Package follow: join for every atom; meet. -/
import Derived.Test.YtdmicblafmhflaaGreatDoorC26
import Derived.Test.YtdmicblafmhflaaGreatDoorC22
import Derived.Test.YtdmicblafmhflaaGreatDoorC11
import Derived.Test.YtdmicblafmhflaaGreatDoorC10
import Derived.Test.YtdmicblafmhflaaGreatDoorC21
set_option linter.unusedSimpArgs false
set_option linter.unusedVariables false
set_option maxHeartbeats 4000000
set_option maxRecDepth 100000
namespace Go.Proofs.YtdmicblafmhflaaGreatDoor
section
open Go.RowKit Go.Maps Go.WideMaps Go.WideElems
open Go.Sort (grow)
theorem AJ{sb mb:Nat}{rv:Value}{a:Ax.Atom}{ad:Option Addr}{ac:Nat}{bd:Option Addr}{bc:Nat}{body:List MA}{P:List En.cg}{z:En.cg}{turn aX:Nat}(Py:P.length=aX)(Bc:aX≤999990)(Ur:turn≤10):∀(m i:Nat),i+m=body.length→Hs sb mb rv a ad ac bd bc body P z turn aX i
 | 0,i,h=>by
  have:i=body.length:=by omega
  subst this
  exact KB
 | m+1,i,h=>NN (by omega) Py Bc Ur (AJ Py Bc Ur m (i+1) (by omega))
structure fu(w:World)(rd:Option Addr)(rc:Nat)(l:List MR):Prop where
 CC:aI w rd rc l
 head:∀r,r∈l→R9 r.head.1
 atoms:∀r,r∈l→∀x,x∈r.body→R9 x.1
 two:∀r,r∈l→r.body.length≤2
theorem fu.below{w w':World}{rd:Option Addr}{rc:Nat}{l:List MR}(h:fu w rd rc l)(hb:Below w.heap.size w w'):fu w' rd rc l:=⟨h.CC.below hb,h.head,h.atoms,h.two⟩
theorem fu.search{w w':World}{sb mb:Nat}{rv:Value}{fd:Option Addr}{fc:Nat}{T:List HT}{s s':En.dB En.cg}{rd:Option Addr}{rc:Nat}{l:List MR}(h:fu w rd rc l)(h0:mL w sb mb rv fd fc T s)(hs:iy w w' sb mb rv fd fc T s s'):fu w' rd rc l:=by
 have iM:∀b cur U,b∈dz sb fd fc s.found.length T→w.heap[b]?=some (.cells cur U (0,0))→U=322∨U=325∨U=117∨U=119∨U=3:=by
  intro b cur U hb e
  obtain⟨jU,U',e',hU⟩:=lD h0 hb
  rw[e]at e'
  simp only[Option.some.injEq,Obj.cells.injEq]at e'
  rw[e'.2.1]
  exact hU
 have hT:∀b cur,b∈dz sb fd fc s.found.length T→w.heap[b]?=some (.cells cur 310 (0,0))→False:=by
  intro b cur hb e
  have:=iM b cur _ hb e
  rcases this with e | e | e | e | e<;>cases e
 refine⟨⟨hs.kept.row h.CC.1 ?_,fun r hr=>⟨MA.Iy (h.CC.2.1 r hr).1 hs.kept hT,hs.kept.row (h.CC.2.1 r hr).2.1 ?_,fun x hx=>MA.Iy ((h.CC.2.1 r hr).2.2 x hx) hs.kept hT⟩,h.CC.2.2⟩,h.head,h.atoms,h.two⟩
 · intro b hb hm
   obtain⟨cur,e⟩:=aH h.CC.1 hb
   have:=iM b cur _ hm e
   rcases this with e | e | e | e | e<;>cases e
 · intro b hb hm
   obtain⟨cur,e⟩:=aH (h.CC.2.1 r hr).2.1 hb
   have:=iM b cur _ hm e
   rcases this with e | e | e | e | e<;>cases e
theorem fu.at{w:World}{rd:Option Addr}{rc:Nat}{l:List MR}(h:fu w rd rc l){k:Nat}(hk:k<l.length):
 ∃g a ad ac bd bc body,rd=some ⟨g,0,none⟩∧g<w.heap.size∧l.length≤rc∧w.cell? ⟨g,k*4,none⟩=some (.int .i64 (Ax.Atom.at_ a))∧w.cell? ⟨g,k*4+1,none⟩=some (.string a.pred)∧w.cell? ⟨g,k*4+2,none⟩=some (.slice ad a.ag.length ac)∧
  w.cell? ⟨g,k*4+3,none⟩=some (.slice bd body.length bc)∧tm w a ad ac bd bc body∧(l[k]).aw=⟨a,List.map Prod.fst body⟩:=by
 obtain⟨g,rfl,hg,hc,bH⟩:=aD h.CC.1 (by omega)
 have hm:=List.getElem_mem hk
 have dD:=h.CC.2.1 _ hm
 have h1:=h.head _ hm
 have h2:=h.atoms _ hm
 have h3:=h.two _ hm
 obtain⟨c0,c1,c2,c3⟩:=pT l k hk
 generalize l[k]=r at*
 rcases r with⟨⟨a,hv⟩,bv,body⟩
 obtain⟨ad,c,e1⟩:=ah dD.1
 obtain⟨bd,d,e2⟩:=ah dD.2.1
 simp only at e1 e2
 subst e1 e2
 exact⟨g,a,ad,c,bd,d,body,rfl,hg,hc,bH _ _ c0,bH _ _ c1,bH _ _ c2,bH _ _ c3,⟨dD,h1,h2,h3⟩,rfl⟩
end
/- Package follow: takeBodiless. -/
namespace En
def eF(r:Ax.br):List cg:=if r.body=[]then [dt (val []) r.head]else []
end En
section
open Go.RowKit Go.Maps Go.WideMaps Go.WideElems
open Go.Sort (grow)
theorem Bm(w:World)(sb mb:Nat)(rd:Option Addr)(rc:Nat)(l:List MR)(fd:Option Addr)(fc:Nat)(T:List HT)(s:En.dB En.cg)(h:mL w sb mb (.slice rd l.length rc) fd fc T s)(hl:fu w rd rc l)(hp:∀r,r∈l→r.head.1.pred∈T.map HT.nm)(yE:l.length≤1000)
 (hF:s.found.length+l.length≤999990)(hC:∀f,s.count f+l.length≤1000000000000):
 Calls Tryz.prog 188 #[.pointer (some ⟨sb,0,none⟩)] w fun e w'=>e=.returned (.tuple #[])∧iy w w' sb mb (.slice rd l.length rc) fd fc T s (En.holds s ((l.map MR.aw).flatMap En.eF)):=by
 have s0:w.cell? ⟨sb,0,none⟩=some (.slice rd l.length rc):=by rw[cell_of_row _ _ 0 _ _ _ h.cT];rfl
 have hsb:sb<w.heap.size:=lt_of_heap h.cT
 have hle:=bh hl.CC.1
 have HH:Hid (mL w sb mb (.slice rd l.length rc) fd fc T s):=h
 have HL:Hid (fu w rd rc l):=hl
 have HP:Hid (∀r,r∈l→r.head.1.pred∈T.map HT.nm):=hp
 have HF:Hid (s.found.length+l.length≤999990):=hF
 have HC:Hid (∀f,s.count f+l.length≤1000000000000):=hC
 have fl:Hid (∀k,(((l.take k).map MR.aw).flatMap En.eF).length≤k):=by
  intro k
  have:∀q:List MR,((q.map MR.aw).flatMap En.eF).length≤q.length:=by
   intro q
   induction q with
   | nil=>simp
   | cons r q ih=>
    simp only[List.map_cons,List.flatMap_cons,List.length_append,List.length_cons]
    have:(En.eF r.aw).length≤1:=by unfold En.eF;split<;>simp
    omega
  have:=this (l.take k)
  rw[List.length_take]at this
  omega
 clear h hl hp hF hC
 go_enter Tryz.func188,Tryz.ntmps188
 go_wp2_with fail
 go_loopw [9] (fun iv wr=>∃k:Nat,k≤l.length∧iv=.int .i64 k∧iy w wr sb mb (.slice rd l.length rc) fd fc T s (En.holds s (((l.take k).map MR.aw).flatMap En.eF))) (fun iv _=>l.length-(intOf iv).toNat)
 case atStart=>exact⟨0,Nat.zero_le _,rfl,iy.refl HH.out⟩
 case round=>
  obtain⟨k,hk,rfl,jN⟩:=hrel
  have HS:Hid (iy w wr sb mb (.slice rd l.length rc) fd fc T s (En.holds s (((l.take k).map MR.aw).flatMap En.eF))):=jN
  clear jN
  by_cases aE:k<l.length
  · have CD:=HL.out.search HH.out HS.out
    obtain⟨g,a,ad,ac,bd,bc,body,rfl,hg,mH,d0,d1,d2,d3,F2,gI⟩:=CD.at aE
    have Kl:((l.take (k+1)).map MR.aw).flatMap En.eF=((l.take k).map MR.aw).flatMap En.eF++En.eF ⟨a,List.map Prod.fst body⟩:=by
     rw[List.take_succ_eq_append_getElem aE,List.map_append,List.flatMap_append,List.map_singleton,List.flatMap_singleton,gI]
    have eu:Hid (((l.take (k+1)).map MR.aw).flatMap En.eF=((l.take k).map MR.aw).flatMap En.eF++En.eF ⟨a,List.map Prod.fst body⟩):=Kl
    clear Kl
    have FU:=HP.out _ (List.getElem_mem aE)
    have Wm:a.pred∈T.map HT.nm:=by
     have:(l[k]).head.1=a:=by
      have:=congrArg Ax.br.head gI
      exact this
     rw[←this]
     exact FU
    have Mg:=fl.out k
    have Wj:=HF.out
    have RM:=HC.out
    by_cases bL:body.length=0
    · have ti:En.eF ⟨a,List.map Prod.fst body⟩=[En.dt (En.val []) a]:=by
       have:body=[]:=List.eq_nil_of_length_eq_zero bL
       subst this
       rfl
      obtain⟨vN,vT,T1,kA,mg,zD⟩:=HS.out.on
      have pV:=En.mF (((l.take k).map MR.aw).flatMap En.eF) s
      obtain⟨A,t,B,hT1,Qo⟩:=nh (T:=T1) (p:=a.pred) (by rw[ke mg];exact Wm)
      subst hT1
      have qf:Hid (∀W:World,Below wr.heap.size wr W→Calls Tryz.prog 231 #[.pointer (some ⟨sb,0,none⟩),.agg #[.int .i64 a.at_,.string a.pred,.slice ad a.ag.length ac,.slice bd body.length bc],.agg #[.int .i64 0,.string ⟨#[]⟩,.string ⟨#[]⟩,.string ⟨#[]⟩,.string ⟨#[]⟩,.string ⟨#[]⟩,.string ⟨#[]⟩,.string ⟨#[]⟩,.string ⟨#[]⟩,.string ⟨#[]⟩,.string ⟨#[]⟩,.string ⟨#[]⟩,.string ⟨#[]⟩]] W fun e w'=>e=.returned (.tuple #[])∧iy w w' sb mb (.slice (some ⟨g,0,none⟩) l.length rc) fd fc T s (En.holds s (((l.take (k+1)).map MR.aw).flatMap En.eF))):=by
       intro W hW
       have:=rO W sb mb _ vN vT A B t _ (kA.below hW) (by omega) (fun f=>by have h1:=En.ir (((l.take k).map MR.aw).flatMap En.eF) s f;have h2:=RM f;omega) a ad ac _ (F2.below hW).mr.1 F2.head Qo [] 0 _ _ IA bd body.length bc rfl
       refine this.mono ?_
       rintro e w' ⟨rfl,jN⟩
       refine⟨rfl, ?_⟩
       rw[eu.out,ti,En.jT]
       exact iy.trans HH.out (kA.below hW) mg zD (HS.out.kept.below hW) (HS.out.post hW).cells pV.1 jN
      have aaT:((body.length:Int)==0)=true:=by simp[bL]
      clear bL ti kA zD mg pV Qo F2 CD gI FU Wm Mg Wj RM
      go_wp2_with (go_at_call 231;refine(qf.out _ (by exact(Below.refl _ _).alloc (Nat.le_refl _) _)).mono ?_;rintro e w6 ⟨rfl,uM⟩;have Vx:Hid (iy w w6 sb mb (.slice (some ⟨g,0,none⟩) l.length rc) fd fc T s (En.holds s (((l.take (k+1)).map MR.aw).flatMap En.eF))):=uM;clear uM)
      go_roundw
      case rel=>exact⟨k+1,by omega,by go_num,Vx.out⟩
      case measure=>simp[intOf];omega
    · have ti:En.eF ⟨a,List.map Prod.fst body⟩=[]:=by
       unfold En.eF
       rw[if_neg]
       intro e
       have:=congrArg List.length e
       simp at this
       exact bL (by rw[this];rfl)
      have Vo:Hid (iy w (wr.alloc (.cells #[.int .i64 a.at_,.string a.pred,.slice ad a.ag.length ac,.slice bd body.length bc] 222)) sb mb (.slice (some ⟨g,0,none⟩) l.length rc) fd fc T s (En.holds s (((l.take (k+1)).map MR.aw).flatMap En.eF))):=by
       rw[eu.out,ti,List.append_nil]
       exact HS.out.post ((Below.refl _ _).alloc (Nat.le_refl _) _)
      have aaT:((body.length:Int)==0)=false:=by simp only[beq_eq_false_iff_ne];omega
      have aeL:¬(body.length=0):=bL
      clear bL ti F2 CD gI FU Wm Mg Wj RM
      go_wp2_with fail
      go_roundw
      case rel=>exact⟨k+1,by omega,by go_num,Vo.out⟩
      case measure=>simp[intOf];omega
  · have Tm:k=l.length:=by omega
    have nV:Hid (iy w wr sb mb (.slice rd l.length rc) fd fc T s (En.holds s ((l.map MR.aw).flatMap En.eF))):=by
     have:=HS.out
     rw[Tm,List.take_length]at this
     exact this
    clear Tm
    go_wp2_with fail
    go_end0
    exact⟨rfl,nV.out⟩
end
/- Package follow: meet. -/
section
open Go.RowKit Go.Maps Go.WideMaps Go.WideElems
open Go.Sort (grow)
theorem GZ{m j:Nat}(h:j<m):(List.range m).take (j+1)=(List.range m).take j++[j]:=by
 rw[List.take_succ_eq_append_getElem (by simpa using h)]
 simp
theorem NO(w:World)(sb mb:Nat)(rd:Option Addr)(rc:Nat)(l:List MR)(fd:Option Addr)(fc:Nat)(T:List HT)(s:En.dB En.cg)(h:mL w sb mb (.slice rd l.length rc) fd fc T s)(hl:fu w rd rc l)(hp:∀r,r∈l→r.head.1.pred∈T.map HT.nm)(yE:l.length≤1000)
 (P:List En.cg)(z:En.cg)(aX:Nat)(Py:P.length=aX)(Xu:aX<s.found.length)(TU:s.found.take (aX+1)=P++[z])
 (hF:s.found.length+((l.map MR.aw).flatMap (En.bD P z)).length≤999990)(hC:∀f,s.count f+((l.map MR.aw).flatMap (En.bD P z)).length≤1000000000000):
 Calls Tryz.prog 189 #[.pointer (some ⟨sb,0,none⟩),.int .i64 aX] w fun e w'=>e=.returned (.tuple #[])∧iy w w' sb mb (.slice rd l.length rc) fd fc T s (En.holds s ((l.map MR.aw).flatMap (En.bD P z))):=by
 have s0:w.cell? ⟨sb,0,none⟩=some (.slice rd l.length rc):=by rw[cell_of_row _ _ 0 _ _ _ h.cT];rfl
 have hsb:sb<w.heap.size:=lt_of_heap h.cT
 have hle:=bh hl.CC.1
 have HH:Hid (mL w sb mb (.slice rd l.length rc) fd fc T s):=h
 have HL:Hid (fu w rd rc l):=hl
 have HP:Hid (∀r,r∈l→r.head.1.pred∈T.map HT.nm):=hp
 have HF:Hid (s.found.length+((l.map MR.aw).flatMap (En.bD P z)).length≤999990):=hF
 have HC:Hid (∀f,s.count f+((l.map MR.aw).flatMap (En.bD P z)).length≤1000000000000):=hC
 have HPZ:Hid (s.found.take (aX+1)=P++[z]):=TU
 have Gr:Hid (P.length=aX):=Py
 have Bc:aX≤999990:=by omega
 clear h hl hp hF hC TU Py
 go_enter Tryz.func189,Tryz.ntmps189
 go_wp2_with fail
 go_loopw [12] (fun iv wr=>∃k:Nat,k≤l.length∧iv=.int .i64 k∧iy w wr sb mb (.slice rd l.length rc) fd fc T s (En.holds s (((l.take k).map MR.aw).flatMap (En.bD P z)))) (fun iv _=>l.length-(intOf iv).toNat)
 case atStart=>exact⟨0,Nat.zero_le _,rfl,iy.refl HH.out⟩
 case round=>
  obtain⟨k,hk,rfl,jN⟩:=hrel
  have HS:Hid (iy w wr sb mb (.slice rd l.length rc) fd fc T s (En.holds s (((l.take k).map MR.aw).flatMap (En.bD P z)))):=jN
  clear jN
  by_cases aE:k<l.length
  · have CD:=HL.out.search HH.out HS.out
    obtain⟨g,a,ad,ac,bd,bc,body,rfl,hg,mH,d0,d1,d2,d3,F2,gI⟩:=CD.at aE
    have Kl:((l.take (k+1)).map MR.aw).flatMap (En.bD P z)=((l.take k).map MR.aw).flatMap (En.bD P z)++En.bD P z ⟨a,List.map Prod.fst body⟩:=by
     rw[List.take_succ_eq_append_getElem aE,List.map_append,List.flatMap_append,List.map_singleton,List.flatMap_singleton,gI]
    have eu:Hid (((l.take (k+1)).map MR.aw).flatMap (En.bD P z)=((l.take k).map MR.aw).flatMap (En.bD P z)++En.bD P z ⟨a,List.map Prod.fst body⟩):=Kl
    have FU:=HP.out _ (List.getElem_mem aE)
    have Wm:a.pred∈T.map HT.nm:=by
     have:(l[k]).head.1=a:=congrArg Ax.br.head gI
     rw[←this]
     exact FU
    have Yb:((l.take (k+1)).map MR.aw).flatMap (En.bD P z)=((l.map MR.aw).take (k+1)).flatMap (En.bD P z):=by rw[List.map_take]
    have N4:=nu (En.bD P z) (l.map MR.aw) (k+1)
    rw[←Yb,Kl,List.length_append]at N4
    have VW:En.bD P z ⟨a,List.map Prod.fst body⟩=(List.range body.length).flatMap fun turn=>En.jn P z turn a 0 (body.map Prod.fst) []:=by
     unfold En.bD
     simp
    rw[VW]at N4
    have HJT:Hid (En.bD P z ⟨a,List.map Prod.fst body⟩=(List.range body.length).flatMap fun turn=>En.jn P z turn a 0 (body.map Prod.fst) []):=VW
    have aaV:Hid ((((l.take k).map MR.aw).flatMap (En.bD P z)).length+((List.range body.length).flatMap fun turn=>En.jn P z turn a 0 (body.map Prod.fst) []).length≤((l.map MR.aw).flatMap (En.bD P z)).length):=N4
    have h2:=F2.two
    obtain⟨vN,vT,T1,kA,mg,zD⟩:=HS.out.on
    have pV:=En.mF (((l.take k).map MR.aw).flatMap (En.bD P z)) s
    have Zv:Hid (s.found.length≤(En.holds s (((l.take k).map MR.aw).flatMap (En.bD P z))).found.length∧(En.holds s (((l.take k).map MR.aw).flatMap (En.bD P z))).found.length≤s.found.length+(((l.take k).map MR.aw).flatMap (En.bD P z)).length):=pV
    obtain⟨w1,sI⟩:∃w1,w1=wr.alloc (.cells #[.int .i64 a.at_,.string a.pred,.slice ad a.ag.length ac,.slice bd body.length bc] 222):=⟨_,rfl⟩
    have jz:Below wr.heap.size wr w1:=by rw[sI];exact(Below.refl _ _).alloc (Nat.le_refl _) _
    have Bg:w1.heap[wr.heap.size]?=some (.cells #[.int .i64 a.at_,.string a.pred,.slice ad a.ag.length ac,.slice bd body.length bc] 222 (0,0)):=by rw[sI];exact heap_alloc_new wr _
    have Pv:Hid (mL w1 sb mb (.slice (some ⟨g,0,none⟩) l.length rc) vN vT T1 (En.holds s (((l.take k).map MR.aw).flatMap (En.bD P z)))):=kA.below jz
    have HS0:Hid (mL wr sb mb (.slice (some ⟨g,0,none⟩) l.length rc) vN vT T1 (En.holds s (((l.take k).map MR.aw).flatMap (En.bD P z)))):=kA
    have HRA:Hid (tm w1 a ad ac bd bc body):=F2.below jz
    have HBX:Hid (w1.heap[wr.heap.size]?=some (.cells #[.int .i64 a.at_,.string a.pred,.slice ad a.ag.length ac,.slice bd body.length bc] 222 (0,0))):=Bg
    have mM:Hid (Below wr.heap.size wr w1):=jz
    have Yo:Hid (T1.map HT.key=T.map HT.key):=mg
    have Wi:Hid (∀b,b∈dz sb vN vT (En.holds s (((l.take k).map MR.aw).flatMap (En.bD P z))).found.length T1→b∈dz sb fd fc s.found.length T∨w.heap.size≤b):=zD
    have HPA:Hid (a.pred∈T.map HT.nm):=Wm
    have KL:wr.heap.size<w1.heap.size:=lt_of_heap Bg
    clear F2 CD gI FU Wm Yb N4 VW Kl kA pV zD mg Bg
    obtain⟨wA,PU⟩:∃x,x=wr:=⟨wr,rfl⟩
    go_upto_region 4 with fail
    rw[←sI]
    clear sI jz
    rw[←PU]
    rw[←PU]at HS HS0 HBX mM KL
    clear d0 d1 d2 d3 hg PU
    go_loopw [19] (fun jv w2=>∃j:Nat,j≤body.length∧jv=.int .i64 j∧iy w1 w2 sb mb (.slice (some ⟨g,0,none⟩) l.length rc) vN vT T1 (En.holds s (((l.take k).map MR.aw).flatMap (En.bD P z))) (En.holds (En.holds s (((l.take k).map MR.aw).flatMap (En.bD P z))) (((List.range body.length).take j).flatMap fun turn=>En.jn P z turn a 0 (body.map Prod.fst) []))) (fun jv _=>body.length-(intOf jv).toNat)
    case atStart=>exact⟨0,Nat.zero_le _,rfl,iy.refl Pv.out⟩
    case round=>
     obtain⟨j,hj,rfl,S5⟩:=hrel
     have Iq:Hid (iy w1 wr sb mb (.slice (some ⟨g,0,none⟩) l.length rc) vN vT T1 (En.holds s (((l.take k).map MR.aw).flatMap (En.bD P z))) (En.holds (En.holds s (((l.take k).map MR.aw).flatMap (En.bD P z))) (((List.range body.length).take j).flatMap fun turn=>En.jn P z turn a 0 (body.map Prod.fst) []))):=S5
     clear S5
     have IX:wr.heap[wA.heap.size]?=some (.cells #[.int .i64 a.at_,.string a.pred,.slice ad a.ag.length ac,.slice bd body.length bc] 222 (0,0)):=Iq.out.kept.heap HBX.out (fun hc=>by have:=qP HS0.out hc;omega)
     by_cases E5:j<body.length
     · obtain⟨Sn,Tp,T2,Aq,Nf,W6⟩:=Iq.out.on
       have Dm:(((List.range body.length).take (j+1)).flatMap fun turn=>En.jn P z turn a 0 (body.map Prod.fst) [])=(((List.range body.length).take j).flatMap fun turn=>En.jn P z turn a 0 (body.map Prod.fst) [])++En.jn P z j a 0 (body.map Prod.fst) []:=by
        rw[GZ E5,List.flatMap_append,List.flatMap_singleton]
       have Yj:=nu (fun turn=>En.jn P z turn a 0 (body.map Prod.fst) []) (List.range body.length) (j+1)
       rw[Dm,List.length_append]at Yj
       have Om:=En.mF (((List.range body.length).take j).flatMap fun turn=>En.jn P z turn a 0 (body.map Prod.fst) []) (En.holds s (((l.take k).map MR.aw).flatMap (En.bD P z)))
       have s8:=Zv.out
       have hL2:=aaV.out
       have Wj:=HF.out
       have RM:=HC.out
       have GW:=(AJ (sb:=sb) (mb:=mb) (rv:=(.slice (some ⟨g,0,none⟩) l.length rc)) (a:=a) (ad:=ad) (ac:=ac) (bd:=bd) (bc:=bc) (body:=body) (P:=P) (z:=z) (turn:=j) Gr.out Bc (by omega) body.length 0 (by omega)) wr Sn Tp T2 _ [] 0 _ _ Aq (HRA.out.search Pv.out Iq.out) IA (by omega) (by rw[ke Nf,ke Yo.out];exact HPA.out) (by omega) (by rw[En.qa _ _ (by omega),En.qa _ _ (by omega)];exact HPZ.out) (by rw[List.drop_zero];omega) (fun f=>by have h1:=En.ir (((List.range body.length).take j).flatMap fun turn=>En.jn P z turn a 0 (body.map Prod.fst) []) (En.holds s (((l.take k).map MR.aw).flatMap (En.bD P z))) f;have h3:=En.ir (((l.take k).map MR.aw).flatMap (En.bD P z)) s f;have h4:=RM f;rw[List.drop_zero];omega)
       rw[List.drop_zero]at GW
       have zH:Hid (Calls Tryz.prog 232 #[.pointer (some ⟨sb,0,none⟩),.agg #[.int .i64 a.at_,.string a.pred,.slice ad a.ag.length ac,.slice bd body.length bc],.int .i64 0,.int .i64 j,.int .i64 aX,.agg #[.int .i64 0,.string ⟨#[]⟩,.string ⟨#[]⟩,.string ⟨#[]⟩,.string ⟨#[]⟩,.string ⟨#[]⟩,.string ⟨#[]⟩,.string ⟨#[]⟩,.string ⟨#[]⟩,.string ⟨#[]⟩,.string ⟨#[]⟩,.string ⟨#[]⟩,.string ⟨#[]⟩]] wr fun e w'=>e=.returned (.tuple #[])∧iy w1 w' sb mb (.slice (some ⟨g,0,none⟩) l.length rc) vN vT T1 (En.holds s (((l.take k).map MR.aw).flatMap (En.bD P z))) (En.holds (En.holds s (((l.take k).map MR.aw).flatMap (En.bD P z))) (((List.range body.length).take (j+1)).flatMap fun turn=>En.jn P z turn a 0 (body.map Prod.fst) []))):=by
        refine GW.mono ?_
        rintro e w' ⟨rfl,jN⟩
        refine⟨rfl, ?_⟩
        rw[Dm,En.jT]
        exact iy.trans Pv.out Aq Nf W6 Iq.out.kept Iq.out.cells Om.1 jN
       have r0:wr.cell? ⟨wA.heap.size,0,none⟩=some (.int .i64 a.at_):=by rw[cell_of_row _ _ _ _ _ _ IX];rfl
       have r1:wr.cell? ⟨wA.heap.size,1,none⟩=some (.string a.pred):=by rw[cell_of_row _ _ _ _ _ _ IX];rfl
       have r2:wr.cell? ⟨wA.heap.size,2,none⟩=some (.slice ad a.ag.length ac):=by rw[cell_of_row _ _ _ _ _ _ IX];rfl
       have r3:wr.cell? ⟨wA.heap.size,3,none⟩=some (.slice bd body.length bc):=by rw[cell_of_row _ _ _ _ _ _ IX];rfl
       have u1:wA.heap.size<wr.heap.size:=lt_of_heap IX
       clear GW Aq Nf W6 Dm Yj Om s8 hL2 Wj RM IX
       go_wp2_with (go_at_call 232;refine zH.out.mono ?_;rintro e w6 ⟨rfl,uM⟩;have Vx:Hid (iy w1 w6 sb mb (.slice (some ⟨g,0,none⟩) l.length rc) vN vT T1 (En.holds s (((l.take k).map MR.aw).flatMap (En.bD P z))) (En.holds (En.holds s (((l.take k).map MR.aw).flatMap (En.bD P z))) (((List.range body.length).take (j+1)).flatMap fun turn=>En.jn P z turn a 0 (body.map Prod.fst) []))):=uM;clear uM)
       go_roundw
       case rel=>exact⟨j+1,by omega,by go_num,Vx.out⟩
       case measure=>simp[intOf];omega
     · have hjc:j=body.length:=by omega
       have uE:Hid (iy w wr sb mb (.slice (some ⟨g,0,none⟩) l.length rc) fd fc T s (En.holds s (((l.take (k+1)).map MR.aw).flatMap (En.bD P z)))):=by
        have h1:=Iq.out
        have e1:(List.range body.length).take j=List.range body.length:=List.take_of_length_le (by simp;omega)
        rw[e1,←HJT.out]at h1
        rw[eu.out,En.jT]
        exact iy.trans HH.out Pv.out Yo.out Wi.out (HS.out.kept.below mM.out) (HS.out.post mM.out).cells Zv.out.1 h1
       clear hjc IX
       go_wp2_with fail
       go_roundw
       case rel=>exact⟨k+1,by omega,by go_num,uE.out⟩
       case measure=>simp[intOf];omega
  · have Tm:k=l.length:=by omega
    have nV:Hid (iy w wr sb mb (.slice rd l.length rc) fd fc T s (En.holds s ((l.map MR.aw).flatMap (En.bD P z)))):=by
     have:=HS.out
     rw[Tm,List.take_length]at this
     exact this
    clear Tm
    go_wp2_with fail
    go_end0
    exact⟨rfl,nV.out⟩
end
/- The rules of axiomkeep's text are fit for the search. -/
section
open Go.RowKit
theorem iN{w:World}{rd:Option Addr}{rc:Nat}{l:List MR}{kl:List Ax.ay}(h:aI w rd rc l)(he:(l.map MR.aw).map Ax.kX=Ax.gR kl):fu w rd rc l∧(∀r,r∈l→r.head.1.pred∈Ax.gP)∧l.length≤8:=by
 have hG:=Ax.rQ kl
 have fY:∀r,r∈l→Ax.kX r.aw∈Ax.gR kl:=fun r hr=>by
  rw[←he]
  exact List.mem_map.2 ⟨_,List.mem_map.2 ⟨r,hr,rfl⟩,rfl⟩
 have va:∀r,r∈l→R9 r.head.1:=fun r hr=>by
  have h1:=(hG.fit _ (fY r hr)).1.1
  have h2:=hG.atoms _ (fY r hr) _ (.inl rfl)
  exact⟨h2.2.2,h1.2⟩
 have pI:∀r,r∈l→∀x,x∈r.body→R9 x.1:=fun r hr x hx=>by
  have LF:Ax.Cx x.1∈(Ax.kX r.aw).2:=List.mem_map.2 ⟨x.1,List.mem_map.2 ⟨x,hx,rfl⟩,rfl⟩
  have h1:=(hG.fit _ (fY r hr)).1.2 _ LF
  have h2:=hG.atoms _ (fY r hr) _ (.inr LF)
  exact⟨h2.2.2,h1.2⟩
 have htw:∀r,r∈l→r.body.length≤2:=fun r hr=>by
  have:=(hG.fit _ (fY r hr)).2
  simpa [Ax.kX,MR.aw]using this
 refine⟨⟨h,va,pI,htw⟩,fun r hr=>(hG.atoms _ (fY r hr) _ (.inl rfl)).1, ?_⟩
 have h1:=congrArg List.length he
 simp only[List.length_map]at h1
 have:=hG.DY
 omega
theorem FY{l:List MR}{P:List En.cg}{z:En.cg}(h2:∀r,r∈l→r.body.length≤2):(l.map MR.aw).flatMap (En.bD P z)=En.mq ((l.map MR.aw).map En.cU) P z:=by
 refine En.su P z _ ?_
 intro r hr
 obtain⟨m,hm,rfl⟩:=List.mem_map.1 hr
 simpa [MR.aw]using h2 m hm
end
/- The search's beginning: what is given, and the rules without a body. No program here. -/
namespace En
section
variable {F : Type} [DecidableEq F]
def cD:dB F:=⟨[],fun _=>0⟩
def cL(s:dB F)(l:List F):dB F:=l.foldl (fun s f=>hold s f 0) s
theorem qz(s:dB F)(f:F)(l:List F):cL s (f::l)=cL (hold s f 0) l:=rfl
theorem B7(s:dB F)(a b:List F):cL s (a++b)=cL (cL s a) b:=by simp[cL]
theorem OQ{s:dB F}{f g:F}{n:Nat}:g∈(hold s f n).found↔g=f∨g∈s.found:=by
 obtain⟨t,h1,h2,h3⟩:=yg s f n
 rw[h1,List.mem_append]
 constructor
 · rintro(h | h)
   · exact .inr h
   · exact .inl (h2 g h)
 · rintro(rfl | h)
   · exact List.mem_append.1 h3
   · exact .inl h
theorem qj:∀(l:List F) (s:dB F),(∀g,g∈(cL s l).found↔g∈s.found∨g∈l)∧(s.found.Nodup→(cL s l).found.Nodup)∧∀g,(cL s l).count g=s.count g
 | [],s=>⟨fun g=>by simp[cL],fun h=>h,fun g=>rfl⟩
 | f::l,s=>by
  obtain⟨h1,h2,h3⟩:=qj l (hold s f 0)
  rw[qz]
  refine⟨fun g=> ?_,fun h=>h2 (wg h f 0),fun g=> ?_⟩
  · rw[h1,OQ,List.mem_cons]
    constructor
    · rintro((h | h) | h)
      · exact .inr (.inl h)
      · exact .inl h
      · exact .inr (.inr h)
    · rintro(h | h | h)
      · exact .inl (.inr h)
      · exact .inl (.inl h)
      · exact .inr h
  · rw[h3,iC]
    simp
def SO(R:List (eo F)):List F:=R.flatMap fun r=>if r.k=0 then (r.inst []).toList else []
theorem A7(h:F):∀R:List (eo F),(∀r,r∈R→r.k≤2)→total R [] h=gN (SO R) h
 | [],_=>rfl
 | r::R,hR=>by
  have ih:=A7 h R (fun q hq=>hR q (by simp[hq]))
  unfold total SO at*
  simp only[List.map_cons,List.sum_cons,List.flatMap_cons]
  rw[ih]
  have e:lC r (iz r.k []) h=gN (if r.k=0 then (r.inst []).toList else []) h:=by
   have hk:=hR r (by simp)
   have:r.k=0∨r.k=1∨r.k=2:=by omega
   rcases this with e | e | e
   · rw[e]
     simp only[iz,if_true,Ck,List.filterMap_cons,List.filterMap_nil]
     cases r.inst []<;>rfl
   · rw[e]
     simp[iz,Ck,gN]
   · rw[e]
     simp[iz,Ck,gN]
  rw[e]
  unfold gN
  rw[List.count_append]
theorem KD(R:List (eo F))(hR:∀r,r∈R→r.k≤2)(gl:List F):Inv R (· ∈gl) (holds (cL cD gl) (SO R)) 0:=by
 obtain⟨a1,a2,a3⟩:=qj gl (cD (F:=F))
 obtain⟨t,b1,b2,b3,b4,b5⟩:=gA (SO R) (cL cD gl)
 have mO:∀f,f∈(cL cD gl).found↔f∈gl:=fun f=>by
  rw[a1]
  simp[cD]
 refine⟨b4 (a2 (by simp[cD])), ?_, ?_, ?_, ?_⟩
 · intro f hf
   rw[b1]
   exact List.mem_append_left _ ((mO f).2 hf)
 · intro h
   rw[List.take_zero,A7 h R hR,b5,a3]
   show 0+_=_
   rw[Nat.zero_add]
   rfl
 · intro r hr fs L4 h hi
   rw[List.take_zero]at L4
   have hm:=(xJ (hR r hr)).1 L4
   have EX:r.k=0:=by
    cases hk:r.k with
    | zero=>rfl
    | succ m=>
     rw[hk]at hm
     cases fs with
     | nil=>simp at hm
     | cons x _=>exact absurd (hm.2 x (by simp)) (by simp)
   have Cv:fs=[]:=by
    rw[EX]at hm
    exact List.eq_nil_of_length_eq_zero hm.1
   subst Cv
   rw[b1]
   refine b3 h (List.mem_flatMap.2 ⟨r,hr, ?_⟩)
   rw[if_pos EX,hi]
   simp
 · intro X hX hgX f hf
   rw[b1]at hf
   rcases List.mem_append.1 hf with hf | hf
   · exact hgX f ((mO f).1 hf)
   · obtain⟨r,hr,vC⟩:=List.mem_flatMap.1 (b2 f hf)
     by_cases hk:r.k=0
     · rw[if_pos hk]at vC
       have hi:r.inst []=some f:=by
        cases h:r.inst []with
        | none=>rw[h]at vC;simp at vC
        | some q=>rw[h]at vC;simp at vC;rw[vC]
       exact hX r hr [] (by rw[hk];rfl) (by simp) f hi
     · rw[if_neg hk]at vC
       simp at vC
end
end En
/- takeBodiless says what the rules without a body say. -/
namespace En
theorem KK(r:Ax.br):eF r=if (cU r).k=0 then ((cU r).inst []).toList else []:=by
 obtain⟨h,b⟩:=r
 cases b with
 | nil=>rfl
 | cons x b=>rfl
theorem te:∀rs:List Ax.br,rs.flatMap eF=SO (rs.map cU)
 | []=>rfl
 | r::rs=>by
  have ih:=te rs
  unfold SO at ih ⊢
  rw[List.flatMap_cons,List.map_cons,List.flatMap_cons,ih,KK]
end En
/- NoneHolds: empty tables. -/
section
open Go.RowKit Go.Maps Go.WideMaps Go.WideElems
def Ey(p:Pd.Pr)(g:Nat):HT:=⟨p.1,p.2,g,none,0,none,0,[],[]⟩
theorem xV(p:Pd.Pr)(g:Nat):(Ey p g).bY=[g]:=rfl
def ic(t:HT):Pd.Pr:=(t.nm,t.pl)
theorem NH{w:World}{p:Pd.Pr}{g:Nat}(h:w.heap[g]?=some (.cells #[.string p.1,.int .i64 p.2,.slice none 0 0,.slice none 0 0] 117 (0,0))):(Ey p g).ok w:=⟨⟨h,⟨(by intro r hr;cases hr),World.ownsRow_nil _ _ _ _⟩,List.Pairwise.nil,by decide⟩,World.ownsRow_nil _ _ _ _⟩
structure kD(w wr:World)(mb k:Nat)(Q:List Pd.Pr)(T:List HT):Prop where
 map:∃D,wr.ownsMap Tryz.prog 9 cR mb k D∧GO D (T.map HT.pk)
 b8:∀t,t∈T→t.ok wr∧∃p g,t=Ey p g∧mb<g
 apart:T.Pairwise iB
 nJ:T.map ic=(Q.take k).reverse
 aZ:Below w.heap.size w wr
 WB:mb=w.heap.size
theorem CS{w wr w3:World}{mb k:Nat}{Q:List Pd.Pr}{T:List HT}{o1:Obj}(h:kD w wr mb k Q T)(hk:k<Q.length){D:DataW Unit}(hD:GO D (T.map HT.pk))(hm:IsMap D)
 (hw:w3.ownsMap Tryz.prog 9 cR mb (k+1) (D.put (aY (Q[k]).1) (.lit (.int .i64 (wr.heap.size+1:Nat)))))(hg:((wr.alloc o1).alloc (.cells (match Q[k]with | p=>#[.string p.1,.int .i64 p.2,.slice none 0 0,.slice none 0 0]) 117)).grownBy w3 (some mb)):
 kD w w3 mb (k+1) Q (Ey Q[k] (wr.heap.size+1)::T):=by
 have fG:Kb [mb] ((wr.alloc o1).alloc (.cells (match Q[k]with | p=>#[.string p.1,.int .i64 p.2,.slice none 0 0,.slice none 0 0]) 117)) w3:=Kb.dA hg
 have cM:Below wr.heap.size wr ((wr.alloc o1).alloc (.cells (match Q[k]with | p=>#[.string p.1,.int .i64 p.2,.slice none 0 0,.slice none 0 0]) 117)):=((Below.refl _ _).alloc (Nat.le_refl _) _).alloc (by simp) _
 have hs:=h.aZ.size
 have aE:∀t,t∈T→∀b,b∈t.bY→b<wr.heap.size∧mb<b:=by
  intro t ht b hb
  obtain⟨dD,p,g,rfl,TF⟩:=h.b8 t ht
  refine⟨dD.lt hb, ?_⟩
  rw[xV,List.mem_singleton]at hb
  rw[hb];exact TF
 have Pz:=h.WB
 refine⟨⟨_,hw,Cf hD hm _ _⟩, ?_, ?_, ?_, ?_,Pz⟩
 · intro t ht
   rcases List.mem_cons.1 ht with rfl | ht
   · refine⟨NH ?_,_,_,rfl,by omega⟩
     have:=fG.heap (qI wr o1 _) (by simp;omega)
     exact this
   · obtain⟨dD,p,g,e,TF⟩:=h.b8 t ht
     refine⟨(dD.below cM).kept fG ?_,p,g,e,TF⟩
     intro b hb hc
     simp only[List.mem_singleton]at hc
     have:=(aE t ht b hb).2
     omega
 · refine List.pairwise_cons.2 ⟨?_,h.apart⟩
   intro t ht x hx LF
   rw[xV,List.mem_singleton]at hx
   have:=(aE t ht x LF).1
   omega
 · have e:Q.take (k+1)=Q.take k++[Q[k]]:=by rw[List.take_add_one,List.getElem?_eq_getElem hk];rfl
   rw[e,List.reverse_append,List.map_cons,h.nJ]
   rfl
 · exact fG.aJ (h.aZ.trans (cM.mono hs)) (by simp;omega) (by simp;omega)
theorem yY(w:World)(B:Nat)(qd:Option Addr)(qc:Nat)(Q:List Pd.Pr)(hq:w.ownsRow B 112 2 (.slice qd Q.length qc) Q.length (aB Q))(hl:Q.length≤1000)(hs:∀p,p∈Q→p.1.size≤1000000):
 Calls Tryz.prog 186 #[.slice qd Q.length qc] w fun e w'=>∃T,e=.returned (.map (some w.heap.size))∧kD w w' w.heap.size Q.length Q T:=by
 have WH:=@run_makeMap Tryz.prog
 have HS:Hid (∀p,p∈Q→p.1.size≤1000000):=hs
 clear hs
 go_enter Tryz.func186,Tryz.ntmps186
 go_wp2_with fail
 go_loopw [9] (fun i wr=>∃(k:Nat) (T:List HT),k≤Q.length∧i=.int .i64 k∧kD w wr w.heap.size k Q T) (fun i _=>Q.length-(intOf i).toNat)
 case atStart=>exact⟨0,[],Nat.zero_le _,rfl,⟨⟨_,World.ownsMap_made _ _ _ _,Bl⟩,by simp,List.Pairwise.nil,by simp,(Below.refl _ _).alloc (Nat.le_refl _) _,rfl⟩⟩
 case round=>
  obtain⟨k,T,hk,rfl,hn⟩:=hrel
  obtain⟨D,al,hD⟩:=hn.map
  have HN:Hid (kD w wr w.heap.size k Q T):=hn
  have HD:Hid (GO D (T.map HT.pk)):=hD
  have hDm:=al.isMap
  have Pz:=al.lt
  have aU:=hn.aZ
  have cE:=aU.size
  have HB:Hid (Below w.heap.size w wr):=aU
  clear hD hn
  by_cases aE:k<Q.length
  · have bQ:=ae hq aU
    obtain⟨g,rfl,hg,hc,bH⟩:=aD bQ (by omega)
    have fC:=bH _ _ (aT Q k aE).1
    have fy:=bH _ _ (aT Q k aE).2
    have uH:(Q[k]).1.size≤1000000:=HS.out _ (List.getElem_mem aE)
    have yD:Hid (∀w3 o1,w3.ownsMap Tryz.prog 9 cR w.heap.size (k+1) (D.put (aY (Q[k]).1) (.lit (.int .i64 (wr.heap.size+1:Nat))))→((wr.alloc o1).alloc (.cells (match Q[k]with | p=>#[.string p.1,.int .i64 p.2,.slice none 0 0,.slice none 0 0]) 117)).grownBy w3 (some w.heap.size)→kD w w3 w.heap.size (k+1) Q (Ey Q[k] (wr.heap.size+1)::T)):=fun w3 o1 a b=>CS HN.out aE HD.out hDm a b
    generalize Q[k]=x at fC fy uH yD
    have l7:keyOf Tryz.prog 9 (.string x.1)=some (aY x.1):=keyOf_string_mk Tryz.underlying9 (by unfold maxLen;omega)
    have HK:Hid (keyOf Tryz.prog 9 (.string x.1)=some (aY x.1)):=l7
    clear l7 bH bQ aU hq
    go_wp2_with (at_mapUpdate;go_must (refine wpList_mapUpdate_own _ rfl _ _ _ 103 rfl 9 97 Tryz.gz Tryz.underlying103 _ w.heap.size k D rfl ((al.alloc _).alloc _) (by unfold maxLen;omega) _ _ (aY x.1) rfl rfl HK.out (.lit (.int .i64 (wr.heap.size+1:Nat))) [] (by rfl) ?_;intro w3 fE gq))
    go_roundw
    case rel=>exact⟨k+1,_,by omega,by go_num,yD.out _ _ fE gq⟩
    case measure=>simp[intOf];omega
  · have vA:k=Q.length:=by omega
    have HE:Hid (kD w wr w.heap.size Q.length Q T):=by rw[←vA];exact HN.out
    clear aU vA
    go_wp2_with fail
    go_ret
    exact⟨T,rfl,HE.out⟩
end
end Go.Proofs.YtdmicblafmhflaaGreatDoor
