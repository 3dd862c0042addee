/- Package follow: join for every atom; meet. -/
import Derived.Test.YtdmicblafmhflaaGreatDoorC26
import Derived.Test.YtdmicblafmhflaaGreatDoorC22
import Derived.Test.YtdmicblafmhflaaGreatDoorC11
import Derived.Test.YtdmicblafmhflaaGreatDoorC10
import Derived.Test.YtdmicblafmhflaaGreatDoorC21
set_option linter.unusedSimpArgs false
set_option linter.unusedVariables false
set_option maxHeartbeats 4000000
set_option maxRecDepth 100000
namespace Go.Proofs.YtdmicblafmhflaaGreatDoor
section
open Go.RowKit Go.Maps Go.WideMaps Go.WideElems
open Go.Sort (grow)
theorem Be{sb mb:Nat}{rv:Value}{a:Ax.Atom}{ad:Option Addr}{ac:Nat}{bd:Option Addr}{bc:Nat}{body:List MA}{P:List En.bE}{z:En.bE}{turn aW:Nat}(P7:P.length=aW)(Cl:aW≤999990)(Un:turn≤10):∀(m i:Nat),i+m=body.length→Ip sb mb rv a ad ac bd bc body P z turn aW i
 | 0,i,h=>by
  have:i=body.length:=by omega
  subst this
  exact Ls
 | m+1,i,h=>M3 (by omega) P7 Cl Un (Be P7 Cl Un m (i+1) (by omega))
structure eH(w:World)(rd:Option Addr)(rc:Nat)(l:List MR):Prop where
 C1:aB w rd rc l
 head:∀r,r∈l→S0 r.head.1
 atoms:∀r,r∈l→∀x,x∈r.body→S0 x.1
 two:∀r,r∈l→r.body.length≤2
theorem eH.below{w w':World}{rd:Option Addr}{rc:Nat}{l:List MR}(h:eH w rd rc l)(hb:Below w.heap.size w w'):eH w' rd rc l:=⟨h.C1.below hb,h.head,h.atoms,h.two⟩
theorem eH.search{w w':World}{sb mb:Nat}{rv:Value}{fd:Option Addr}{fc:Nat}{T:List HT}{s s':En.cU En.bE}{rd:Option Addr}{rc:Nat}{l:List MR}(h:eH w rd rc l)(h0:mP w sb mb rv fd fc T s)(hs:iH w w' sb mb rv fd fc T s s'):eH w' rd rc l:=by
 have jO:∀b cur U,b∈dC sb fd fc s.found.length T→w.heap[b]?=some (.cells cur U (0,0))→U=322∨U=325∨U=117∨U=119∨U=3:=by
  intro b cur U hb e
  obtain⟨oJ,U',e',hU⟩:=lA h0 hb
  rw[e]at e'
  simp only[Option.some.injEq,Obj.cells.injEq]at e'
  rw[e'.2.1]
  exact hU
 have hT:∀b cur,b∈dC sb fd fc s.found.length T→w.heap[b]?=some (.cells cur 310 (0,0))→False:=by
  intro b cur hb e
  have:=jO b cur _ hb e
  rcases this with e | e | e | e | e<;>cases e
 refine⟨⟨hs.kept.row h.C1.1 ?_,fun r hr=>⟨MA.I5 (h.C1.2.1 r hr).1 hs.kept hT,hs.kept.row (h.C1.2.1 r hr).2.1 ?_,fun x hx=>MA.I5 ((h.C1.2.1 r hr).2.2 x hx) hs.kept hT⟩,h.C1.2.2⟩,h.head,h.atoms,h.two⟩
 · intro b hb hm
   obtain⟨cur,e⟩:=ay h.C1.1 hb
   have:=jO b cur _ hm e
   rcases this with e | e | e | e | e<;>cases e
 · intro b hb hm
   obtain⟨cur,e⟩:=ay (h.C1.2.1 r hr).2.1 hb
   have:=jO b cur _ hm e
   rcases this with e | e | e | e | e<;>cases e
theorem eH.at{w:World}{rd:Option Addr}{rc:Nat}{l:List MR}(h:eH w rd rc l){k:Nat}(hk:k<l.length):
 ∃g a ad ac bd bc body,rd=some ⟨g,0,none⟩∧g<w.heap.size∧l.length≤rc∧w.cell? ⟨g,k*4,none⟩=some (.int .i64 (Ax.Atom.at_ a))∧w.cell? ⟨g,k*4+1,none⟩=some (.string a.pred)∧w.cell? ⟨g,k*4+2,none⟩=some (.slice ad a.ag.length ac)∧
  w.cell? ⟨g,k*4+3,none⟩=some (.slice bd body.length bc)∧tq w a ad ac bd bc body∧(l[k]).ak=⟨a,List.map Prod.fst body⟩:=by
 obtain⟨g,rfl,hg,hc,bA⟩:=ax h.C1.1 (by omega)
 have hm:=List.getElem_mem hk
 have cB:=h.C1.2.1 _ hm
 have h1:=h.head _ hm
 have h2:=h.atoms _ hm
 have h3:=h.two _ hm
 obtain⟨c0,c1,c2,c3⟩:=pZ l k hk
 generalize l[k]=r at*
 rcases r with⟨⟨a,hv⟩,bv,body⟩
 obtain⟨ad,c,e1⟩:=ah cB.1
 obtain⟨bd,d,e2⟩:=ah cB.2.1
 simp only at e1 e2
 subst e1 e2
 exact⟨g,a,ad,c,bd,d,body,rfl,hg,hc,bA _ _ c0,bA _ _ c1,bA _ _ c2,bA _ _ c3,⟨cB,h1,h2,h3⟩,rfl⟩
end
/- Package follow: takeBodiless. -/
namespace En
def eE(r:Ax.aP):List bE:=if r.body=[]then [dj (val []) r.head]else []
end En
section
open Go.RowKit Go.Maps Go.WideMaps Go.WideElems
open Go.Sort (grow)
theorem B8(w:World)(sb mb:Nat)(rd:Option Addr)(rc:Nat)(l:List MR)(fd:Option Addr)(fc:Nat)(T:List HT)(s:En.cU En.bE)(h:mP w sb mb (.slice rd l.length rc) fd fc T s)(hl:eH w rd rc l)(hp:∀r,r∈l→r.head.1.pred∈T.map HT.nm)(wu:l.length≤1000)
 (hF:s.found.length+l.length≤999990)(hC:∀f,s.count f+l.length≤1000000000000):
 Calls Tryz.prog 188 #[.pointer (some ⟨sb,0,none⟩)] w fun e w'=>e=.returned (.tuple #[])∧iH w w' sb mb (.slice rd l.length rc) fd fc T s (En.holds s ((l.map MR.ak).flatMap En.eE)):=by
 have s0:w.cell? ⟨sb,0,none⟩=some (.slice rd l.length rc):=by rw[cell_of_row _ _ 0 _ _ _ h.da];rfl
 have hsb:sb<w.heap.size:=lt_of_heap h.da
 have hle:=aZ hl.C1.1
 have HH:Hid (mP w sb mb (.slice rd l.length rc) fd fc T s):=h
 have HL:Hid (eH w rd rc l):=hl
 have HP:Hid (∀r,r∈l→r.head.1.pred∈T.map HT.nm):=hp
 have HF:Hid (s.found.length+l.length≤999990):=hF
 have HC:Hid (∀f,s.count f+l.length≤1000000000000):=hC
 have fE:Hid (∀k,(((l.take k).map MR.ak).flatMap En.eE).length≤k):=by
  intro k
  have:∀q:List MR,((q.map MR.ak).flatMap En.eE).length≤q.length:=by
   intro q
   induction q with
   | nil=>simp
   | cons r q ih=>
    simp only[List.map_cons,List.flatMap_cons,List.length_append,List.length_cons]
    have:(En.eE r.ak).length≤1:=by unfold En.eE;split<;>simp
    omega
  have:=this (l.take k)
  rw[List.length_take]at this
  omega
 clear h hl hp hF hC
 go_enter Tryz.func188,Tryz.ntmps188
 go_wp2_with fail
 go_loopw [9] (fun iv wr=>∃k:Nat,k≤l.length∧iv=.int .i64 k∧iH w wr sb mb (.slice rd l.length rc) fd fc T s (En.holds s (((l.take k).map MR.ak).flatMap En.eE))) (fun iv _=>l.length-(intOf iv).toNat)
 case atStart=>exact⟨0,Nat.zero_le _,rfl,iH.refl HH.out⟩
 case round=>
  obtain⟨k,hk,rfl,jK⟩:=hrel
  have HS:Hid (iH w wr sb mb (.slice rd l.length rc) fd fc T s (En.holds s (((l.take k).map MR.ak).flatMap En.eE))):=jK
  clear jK
  by_cases aC:k<l.length
  · have C5:=HL.out.search HH.out HS.out
    obtain⟨g,a,ad,ac,bd,bc,body,rfl,hg,na,d0,d1,d2,d3,GN,gS⟩:=C5.at aC
    have mX:((l.take (k+1)).map MR.ak).flatMap En.eE=((l.take k).map MR.ak).flatMap En.eE++En.eE ⟨a,List.map Prod.fst body⟩:=by
     rw[List.take_succ_eq_append_getElem aC,List.map_append,List.flatMap_append,List.map_singleton,List.flatMap_singleton,gS]
    have eo:Hid (((l.take (k+1)).map MR.ak).flatMap En.eE=((l.take k).map MR.ak).flatMap En.eE++En.eE ⟨a,List.map Prod.fst body⟩):=mX
    clear mX
    have F4:=HP.out _ (List.getElem_mem aC)
    have WZ:a.pred∈T.map HT.nm:=by
     have:(l[k]).head.1=a:=by
      have:=congrArg Ax.aP.head gS
      exact this
     rw[←this]
     exact F4
    have MK:=fE.out k
    have Wx:=HF.out
    have OI:=HC.out
    by_cases bK:body.length=0
    · have lW:En.eE ⟨a,List.map Prod.fst body⟩=[En.dj (En.val []) a]:=by
       have:body=[]:=List.eq_nil_of_length_eq_zero bK
       subst this
       rfl
      obtain⟨vS,vZ,T1,kW,mf,zH⟩:=HS.out.on
      have pX:=En.mj (((l.take k).map MR.ak).flatMap En.eE) s
      obtain⟨A,t,B,hT1,QA⟩:=mY (T:=T1) (p:=a.pred) (by rw[kr mf];exact WZ)
      subst hT1
      have ql:Hid (∀W:World,Below wr.heap.size wr W→Calls Tryz.prog 231 #[.pointer (some ⟨sb,0,none⟩),.agg #[.int .i64 a.at_,.string a.pred,.slice ad a.ag.length ac,.slice bd body.length bc],.agg #[.int .i64 0,.string ⟨#[]⟩,.string ⟨#[]⟩,.string ⟨#[]⟩,.string ⟨#[]⟩,.string ⟨#[]⟩,.string ⟨#[]⟩,.string ⟨#[]⟩,.string ⟨#[]⟩,.string ⟨#[]⟩,.string ⟨#[]⟩,.string ⟨#[]⟩,.string ⟨#[]⟩]] W fun e w'=>e=.returned (.tuple #[])∧iH w w' sb mb (.slice (some ⟨g,0,none⟩) l.length rc) fd fc T s (En.holds s (((l.take (k+1)).map MR.ak).flatMap En.eE))):=by
       intro W hW
       have:=sD W sb mb _ vS vZ A B t _ (kW.below hW) (by omega) (fun f=>by have h1:=En.ig (((l.take k).map MR.ak).flatMap En.eE) s f;have h2:=OI f;omega) a ad ac _ (GN.below hW).mr.1 GN.head QA [] 0 _ _ IG bd body.length bc rfl
       refine this.mono ?_
       rintro e w' ⟨rfl,jK⟩
       refine⟨rfl, ?_⟩
       rw[eo.out,lW,En.kp]
       exact iH.trans HH.out (kW.below hW) mf zH (HS.out.kept.below hW) (HS.out.post hW).cells pX.1 jK
      have ac4:((body.length:Int)==0)=true:=by simp[bK]
      clear bK lW kW zH mf pX QA GN C5 gS F4 WZ MK Wx OI
      go_wp2_with (go_at_call 231;refine(ql.out _ (by exact(Below.refl _ _).alloc (Nat.le_refl _) _)).mono ?_;rintro e w6 ⟨rfl,uc⟩;have U1:Hid (iH w w6 sb mb (.slice (some ⟨g,0,none⟩) l.length rc) fd fc T s (En.holds s (((l.take (k+1)).map MR.ak).flatMap En.eE))):=uc;clear uc)
      go_roundw
      case rel=>exact⟨k+1,by omega,by go_num,U1.out⟩
      case measure=>simp[intOf];omega
    · have lW:En.eE ⟨a,List.map Prod.fst body⟩=[]:=by
       unfold En.eE
       rw[if_neg]
       intro e
       have:=congrArg List.length e
       simp at this
       exact bK (by rw[this];rfl)
      have Uu:Hid (iH w (wr.alloc (.cells #[.int .i64 a.at_,.string a.pred,.slice ad a.ag.length ac,.slice bd body.length bc] 222)) sb mb (.slice (some ⟨g,0,none⟩) l.length rc) fd fc T s (En.holds s (((l.take (k+1)).map MR.ak).flatMap En.eE))):=by
       rw[eo.out,lW,List.append_nil]
       exact HS.out.post ((Below.refl _ _).alloc (Nat.le_refl _) _)
      have ac4:((body.length:Int)==0)=false:=by simp only[beq_eq_false_iff_ne];omega
      have afD:¬(body.length=0):=bK
      clear bK lW GN C5 gS F4 WZ MK Wx OI
      go_wp2_with fail
      go_roundw
      case rel=>exact⟨k+1,by omega,by go_num,Uu.out⟩
      case measure=>simp[intOf];omega
  · have Tj:k=l.length:=by omega
    have od:Hid (iH w wr sb mb (.slice rd l.length rc) fd fc T s (En.holds s ((l.map MR.ak).flatMap En.eE))):=by
     have:=HS.out
     rw[Tj,List.take_length]at this
     exact this
    clear Tj
    go_wp2_with fail
    go_end0
    exact⟨rfl,od.out⟩
end
/- Package follow: meet. -/
section
open Go.RowKit Go.Maps Go.WideMaps Go.WideElems
open Go.Sort (grow)
theorem F3{m j:Nat}(h:j<m):(List.range m).take (j+1)=(List.range m).take j++[j]:=by
 rw[List.take_succ_eq_append_getElem (by simpa using h)]
 simp
theorem Nd(w:World)(sb mb:Nat)(rd:Option Addr)(rc:Nat)(l:List MR)(fd:Option Addr)(fc:Nat)(T:List HT)(s:En.cU En.bE)(h:mP w sb mb (.slice rd l.length rc) fd fc T s)(hl:eH w rd rc l)(hp:∀r,r∈l→r.head.1.pred∈T.map HT.nm)(wu:l.length≤1000)
 (P:List En.bE)(z:En.bE)(aW:Nat)(P7:P.length=aW)(Y3:aW<s.found.length)(VM:s.found.take (aW+1)=P++[z])
 (hF:s.found.length+((l.map MR.ak).flatMap (En.bt P z)).length≤999990)(hC:∀f,s.count f+((l.map MR.ak).flatMap (En.bt P z)).length≤1000000000000):
 Calls Tryz.prog 189 #[.pointer (some ⟨sb,0,none⟩),.int .i64 aW] w fun e w'=>e=.returned (.tuple #[])∧iH w w' sb mb (.slice rd l.length rc) fd fc T s (En.holds s ((l.map MR.ak).flatMap (En.bt P z))):=by
 have s0:w.cell? ⟨sb,0,none⟩=some (.slice rd l.length rc):=by rw[cell_of_row _ _ 0 _ _ _ h.da];rfl
 have hsb:sb<w.heap.size:=lt_of_heap h.da
 have hle:=aZ hl.C1.1
 have HH:Hid (mP w sb mb (.slice rd l.length rc) fd fc T s):=h
 have HL:Hid (eH w rd rc l):=hl
 have HP:Hid (∀r,r∈l→r.head.1.pred∈T.map HT.nm):=hp
 have HF:Hid (s.found.length+((l.map MR.ak).flatMap (En.bt P z)).length≤999990):=hF
 have HC:Hid (∀f,s.count f+((l.map MR.ak).flatMap (En.bt P z)).length≤1000000000000):=hC
 have ZJ:Hid (s.found.take (aW+1)=P++[z]):=VM
 have LS:Hid (P.length=aW):=P7
 have Cl:aW≤999990:=by omega
 clear h hl hp hF hC VM P7
 go_enter Tryz.func189,Tryz.ntmps189
 go_wp2_with fail
 go_loopw [12] (fun iv wr=>∃k:Nat,k≤l.length∧iv=.int .i64 k∧iH w wr sb mb (.slice rd l.length rc) fd fc T s (En.holds s (((l.take k).map MR.ak).flatMap (En.bt P z)))) (fun iv _=>l.length-(intOf iv).toNat)
 case atStart=>exact⟨0,Nat.zero_le _,rfl,iH.refl HH.out⟩
 case round=>
  obtain⟨k,hk,rfl,jK⟩:=hrel
  have HS:Hid (iH w wr sb mb (.slice rd l.length rc) fd fc T s (En.holds s (((l.take k).map MR.ak).flatMap (En.bt P z)))):=jK
  clear jK
  by_cases aC:k<l.length
  · have C5:=HL.out.search HH.out HS.out
    obtain⟨g,a,ad,ac,bd,bc,body,rfl,hg,na,d0,d1,d2,d3,GN,gS⟩:=C5.at aC
    have mX:((l.take (k+1)).map MR.ak).flatMap (En.bt P z)=((l.take k).map MR.ak).flatMap (En.bt P z)++En.bt P z ⟨a,List.map Prod.fst body⟩:=by
     rw[List.take_succ_eq_append_getElem aC,List.map_append,List.flatMap_append,List.map_singleton,List.flatMap_singleton,gS]
    have eo:Hid (((l.take (k+1)).map MR.ak).flatMap (En.bt P z)=((l.take k).map MR.ak).flatMap (En.bt P z)++En.bt P z ⟨a,List.map Prod.fst body⟩):=mX
    have F4:=HP.out _ (List.getElem_mem aC)
    have WZ:a.pred∈T.map HT.nm:=by
     have:(l[k]).head.1=a:=congrArg Ax.aP.head gS
     rw[←this]
     exact F4
    have Yd:((l.take (k+1)).map MR.ak).flatMap (En.bt P z)=((l.map MR.ak).take (k+1)).flatMap (En.bt P z):=by rw[List.map_take]
    have OW:=nF (En.bt P z) (l.map MR.ak) (k+1)
    rw[←Yd,mX,List.length_append]at OW
    have hjt:En.bt P z ⟨a,List.map Prod.fst body⟩=(List.range body.length).flatMap fun turn=>En.jn P z turn a 0 (body.map Prod.fst) []:=by
     unfold En.bt
     simp
    rw[hjt]at OW
    have HJT:Hid (En.bt P z ⟨a,List.map Prod.fst body⟩=(List.range body.length).flatMap fun turn=>En.jn P z turn a 0 (body.map Prod.fst) []):=hjt
    have abn:Hid ((((l.take k).map MR.ak).flatMap (En.bt P z)).length+((List.range body.length).flatMap fun turn=>En.jn P z turn a 0 (body.map Prod.fst) []).length≤((l.map MR.ak).flatMap (En.bt P z)).length):=OW
    have h2:=GN.two
    obtain⟨vS,vZ,T1,kW,mf,zH⟩:=HS.out.on
    have pX:=En.mj (((l.take k).map MR.ak).flatMap (En.bt P z)) s
    have Y8:Hid (s.found.length≤(En.holds s (((l.take k).map MR.ak).flatMap (En.bt P z))).found.length∧(En.holds s (((l.take k).map MR.ak).flatMap (En.bt P z))).found.length≤s.found.length+(((l.take k).map MR.ak).flatMap (En.bt P z)).length):=pX
    obtain⟨w1,sP⟩:∃w1,w1=wr.alloc (.cells #[.int .i64 a.at_,.string a.pred,.slice ad a.ag.length ac,.slice bd body.length bc] 222):=⟨_,rfl⟩
    have jz:Below wr.heap.size wr w1:=by rw[sP];exact(Below.refl _ _).alloc (Nat.le_refl _) _
    have CK:w1.heap[wr.heap.size]?=some (.cells #[.int .i64 a.at_,.string a.pred,.slice ad a.ag.length ac,.slice bd body.length bc] 222 (0,0)):=by rw[sP];exact heap_alloc_new wr _
    have Su:Hid (mP w1 sb mb (.slice (some ⟨g,0,none⟩) l.length rc) vS vZ T1 (En.holds s (((l.take k).map MR.ak).flatMap (En.bt P z)))):=kW.below jz
    have HS0:Hid (mP wr sb mb (.slice (some ⟨g,0,none⟩) l.length rc) vS vZ T1 (En.holds s (((l.take k).map MR.ak).flatMap (En.bt P z)))):=kW
    have Wr:Hid (tq w1 a ad ac bd bc body):=GN.below jz
    have HBX:Hid (w1.heap[wr.heap.size]?=some (.cells #[.int .i64 a.at_,.string a.pred,.slice ad a.ag.length ac,.slice bd body.length bc] 222 (0,0))):=CK
    have mQ:Hid (Below wr.heap.size wr w1):=jz
    have Za:Hid (T1.map HT.key=T.map HT.key):=mf
    have Xc:Hid (∀b,b∈dC sb vS vZ (En.holds s (((l.take k).map MR.ak).flatMap (En.bt P z))).found.length T1→b∈dC sb fd fc s.found.length T∨w.heap.size≤b):=zH
    have HPA:Hid (a.pred∈T.map HT.nm):=WZ
    have JV:wr.heap.size<w1.heap.size:=lt_of_heap CK
    clear GN C5 gS F4 WZ Yd OW hjt mX kW pX zH mf CK
    obtain⟨wA,PW⟩:∃x,x=wr:=⟨wr,rfl⟩
    go_upto_region 4 with fail
    rw[←sP]
    clear sP jz
    rw[←PW]
    rw[←PW]at HS HS0 HBX mQ JV
    clear d0 d1 d2 d3 hg PW
    go_loopw [19] (fun jv w2=>∃j:Nat,j≤body.length∧jv=.int .i64 j∧iH w1 w2 sb mb (.slice (some ⟨g,0,none⟩) l.length rc) vS vZ T1 (En.holds s (((l.take k).map MR.ak).flatMap (En.bt P z))) (En.holds (En.holds s (((l.take k).map MR.ak).flatMap (En.bt P z))) (((List.range body.length).take j).flatMap fun turn=>En.jn P z turn a 0 (body.map Prod.fst) []))) (fun jv _=>body.length-(intOf jv).toNat)
    case atStart=>exact⟨0,Nat.zero_le _,rfl,iH.refl Su.out⟩
    case round=>
     obtain⟨j,hj,rfl,SS⟩:=hrel
     have IL:Hid (iH w1 wr sb mb (.slice (some ⟨g,0,none⟩) l.length rc) vS vZ T1 (En.holds s (((l.take k).map MR.ak).flatMap (En.bt P z))) (En.holds (En.holds s (((l.take k).map MR.ak).flatMap (En.bt P z))) (((List.range body.length).take j).flatMap fun turn=>En.jn P z turn a 0 (body.map Prod.fst) []))):=SS
     clear SS
     have Jo:wr.heap[wA.heap.size]?=some (.cells #[.int .i64 a.at_,.string a.pred,.slice ad a.ag.length ac,.slice bd body.length bc] 222 (0,0)):=IL.out.kept.heap HBX.out (fun hc=>by have:=rP HS0.out hc;omega)
     by_cases Lh:j<body.length
     · obtain⟨TC,Tk,T2,vI,L9,XH⟩:=IL.out.on
       have C9:(((List.range body.length).take (j+1)).flatMap fun turn=>En.jn P z turn a 0 (body.map Prod.fst) [])=(((List.range body.length).take j).flatMap fun turn=>En.jn P z turn a 0 (body.map Prod.fst) [])++En.jn P z j a 0 (body.map Prod.fst) []:=by
        rw[F3 Lh,List.flatMap_append,List.flatMap_singleton]
       have Yn:=nF (fun turn=>En.jn P z turn a 0 (body.map Prod.fst) []) (List.range body.length) (j+1)
       rw[C9,List.length_append]at Yn
       have Mb:=En.mj (((List.range body.length).take j).flatMap fun turn=>En.jn P z turn a 0 (body.map Prod.fst) []) (En.holds s (((l.take k).map MR.ak).flatMap (En.bt P z)))
       have sM:=Y8.out
       have hL2:=abn.out
       have Wx:=HF.out
       have OI:=HC.out
       have G5:=(Be (sb:=sb) (mb:=mb) (rv:=(.slice (some ⟨g,0,none⟩) l.length rc)) (a:=a) (ad:=ad) (ac:=ac) (bd:=bd) (bc:=bc) (body:=body) (P:=P) (z:=z) (turn:=j) LS.out Cl (by omega) body.length 0 (by omega)) wr TC Tk T2 _ [] 0 _ _ vI (Wr.out.search Su.out IL.out) IG (by omega) (by rw[kr L9,kr Za.out];exact HPA.out) (by omega) (by rw[En.qD _ _ (by omega),En.qD _ _ (by omega)];exact ZJ.out) (by rw[List.drop_zero];omega) (fun f=>by have h1:=En.ig (((List.range body.length).take j).flatMap fun turn=>En.jn P z turn a 0 (body.map Prod.fst) []) (En.holds s (((l.take k).map MR.ak).flatMap (En.bt P z))) f;have h3:=En.ig (((l.take k).map MR.ak).flatMap (En.bt P z)) s f;have h4:=OI f;rw[List.drop_zero];omega)
       rw[List.drop_zero]at G5
       have AW:Hid (Calls Tryz.prog 232 #[.pointer (some ⟨sb,0,none⟩),.agg #[.int .i64 a.at_,.string a.pred,.slice ad a.ag.length ac,.slice bd body.length bc],.int .i64 0,.int .i64 j,.int .i64 aW,.agg #[.int .i64 0,.string ⟨#[]⟩,.string ⟨#[]⟩,.string ⟨#[]⟩,.string ⟨#[]⟩,.string ⟨#[]⟩,.string ⟨#[]⟩,.string ⟨#[]⟩,.string ⟨#[]⟩,.string ⟨#[]⟩,.string ⟨#[]⟩,.string ⟨#[]⟩,.string ⟨#[]⟩]] wr fun e w'=>e=.returned (.tuple #[])∧iH w1 w' sb mb (.slice (some ⟨g,0,none⟩) l.length rc) vS vZ T1 (En.holds s (((l.take k).map MR.ak).flatMap (En.bt P z))) (En.holds (En.holds s (((l.take k).map MR.ak).flatMap (En.bt P z))) (((List.range body.length).take (j+1)).flatMap fun turn=>En.jn P z turn a 0 (body.map Prod.fst) []))):=by
        refine G5.mono ?_
        rintro e w' ⟨rfl,jK⟩
        refine⟨rfl, ?_⟩
        rw[C9,En.kp]
        exact iH.trans Su.out vI L9 XH IL.out.kept IL.out.cells Mb.1 jK
       have r0:wr.cell? ⟨wA.heap.size,0,none⟩=some (.int .i64 a.at_):=by rw[cell_of_row _ _ _ _ _ _ Jo];rfl
       have r1:wr.cell? ⟨wA.heap.size,1,none⟩=some (.string a.pred):=by rw[cell_of_row _ _ _ _ _ _ Jo];rfl
       have r2:wr.cell? ⟨wA.heap.size,2,none⟩=some (.slice ad a.ag.length ac):=by rw[cell_of_row _ _ _ _ _ _ Jo];rfl
       have r3:wr.cell? ⟨wA.heap.size,3,none⟩=some (.slice bd body.length bc):=by rw[cell_of_row _ _ _ _ _ _ Jo];rfl
       have u1:wA.heap.size<wr.heap.size:=lt_of_heap Jo
       clear G5 vI L9 XH C9 Yn Mb sM hL2 Wx OI Jo
       go_wp2_with (go_at_call 232;refine AW.out.mono ?_;rintro e w6 ⟨rfl,uc⟩;have U1:Hid (iH w1 w6 sb mb (.slice (some ⟨g,0,none⟩) l.length rc) vS vZ T1 (En.holds s (((l.take k).map MR.ak).flatMap (En.bt P z))) (En.holds (En.holds s (((l.take k).map MR.ak).flatMap (En.bt P z))) (((List.range body.length).take (j+1)).flatMap fun turn=>En.jn P z turn a 0 (body.map Prod.fst) []))):=uc;clear uc)
       go_roundw
       case rel=>exact⟨j+1,by omega,by go_num,U1.out⟩
       case measure=>simp[intOf];omega
     · have hjc:j=body.length:=by omega
       have uD:Hid (iH w wr sb mb (.slice (some ⟨g,0,none⟩) l.length rc) fd fc T s (En.holds s (((l.take (k+1)).map MR.ak).flatMap (En.bt P z)))):=by
        have h1:=IL.out
        have e1:(List.range body.length).take j=List.range body.length:=List.take_of_length_le (by simp;omega)
        rw[e1,←HJT.out]at h1
        rw[eo.out,En.kp]
        exact iH.trans HH.out Su.out Za.out Xc.out (HS.out.kept.below mQ.out) (HS.out.post mQ.out).cells Y8.out.1 h1
       clear hjc Jo
       go_wp2_with fail
       go_roundw
       case rel=>exact⟨k+1,by omega,by go_num,uD.out⟩
       case measure=>simp[intOf];omega
  · have Tj:k=l.length:=by omega
    have od:Hid (iH w wr sb mb (.slice rd l.length rc) fd fc T s (En.holds s ((l.map MR.ak).flatMap (En.bt P z)))):=by
     have:=HS.out
     rw[Tj,List.take_length]at this
     exact this
    clear Tj
    go_wp2_with fail
    go_end0
    exact⟨rfl,od.out⟩
end
/- The rules of axiomkeep's text are fit for the search. -/
section
open Go.RowKit
theorem xe{w:World}{rd:Option Addr}{rc:Nat}{l:List MR}{kl:List Ax.aM}(h:aB w rd rc l)(he:(l.map MR.ak).map Ax.ke=Ax.gR kl):eH w rd rc l∧(∀r,r∈l→r.head.1.pred∈Ax.gP)∧l.length≤8:=by
 have hG:=Ax.rS kl
 have fk:∀r,r∈l→Ax.ke r.ak∈Ax.gR kl:=fun r hr=>by
  rw[←he]
  exact List.mem_map.2 ⟨_,List.mem_map.2 ⟨r,hr,rfl⟩,rfl⟩
 have sJ:∀r,r∈l→S0 r.head.1:=fun r hr=>by
  have h1:=(hG.fit _ (fk r hr)).1.1
  have h2:=hG.atoms _ (fk r hr) _ (.inl rfl)
  exact⟨h2.2.2,h1.2⟩
 have pS:∀r,r∈l→∀x,x∈r.body→S0 x.1:=fun r hr x hx=>by
  have Jr:Ax.yR x.1∈(Ax.ke r.ak).2:=List.mem_map.2 ⟨x.1,List.mem_map.2 ⟨x,hx,rfl⟩,rfl⟩
  have h1:=(hG.fit _ (fk r hr)).1.2 _ Jr
  have h2:=hG.atoms _ (fk r hr) _ (.inr Jr)
  exact⟨h2.2.2,h1.2⟩
 have htw:∀r,r∈l→r.body.length≤2:=fun r hr=>by
  have:=(hG.fit _ (fk r hr)).2
  simpa [Ax.ke,MR.ak]using this
 refine⟨⟨h,sJ,pS,htw⟩,fun r hr=>(hG.atoms _ (fk r hr) _ (.inl rfl)).1, ?_⟩
 have h1:=congrArg List.length he
 simp only[List.length_map]at h1
 have:=hG.oo
 omega
theorem GR{l:List MR}{P:List En.bE}{z:En.bE}(h2:∀r,r∈l→r.body.length≤2):(l.map MR.ak).flatMap (En.bt P z)=En.mm ((l.map MR.ak).map En.cp) P z:=by
 refine En.sF P z _ ?_
 intro r hr
 obtain⟨m,hm,rfl⟩:=List.mem_map.1 hr
 simpa [MR.ak]using h2 m hm
end
/- The search's beginning: what is given, and the rules without a body. No program here. -/
namespace En
section
variable {F : Type} [DecidableEq F]
def cw:cU F:=⟨[],fun _=>0⟩
def cK(s:cU F)(l:List F):cU F:=l.foldl (fun s f=>hold s f 0) s
theorem qw(s:cU F)(f:F)(l:List F):cK s (f::l)=cK (hold s f 0) l:=rfl
theorem B1(s:cU F)(a b:List F):cK s (a++b)=cK (cK s a) b:=by simp[cK]
theorem PB{s:cU F}{f g:F}{n:Nat}:g∈(hold s f n).found↔g=f∨g∈s.found:=by
 obtain⟨t,h1,h2,h3⟩:=yF s f n
 rw[h1,List.mem_append]
 constructor
 · rintro(h | h)
   · exact .inr h
   · exact .inl (h2 g h)
 · rintro(rfl | h)
   · exact List.mem_append.1 h3
   · exact .inl h
theorem qv:∀(l:List F) (s:cU F),(∀g,g∈(cK s l).found↔g∈s.found∨g∈l)∧(s.found.Nodup→(cK s l).found.Nodup)∧∀g,(cK s l).count g=s.count g
 | [],s=>⟨fun g=>by simp[cK],fun h=>h,fun g=>rfl⟩
 | f::l,s=>by
  obtain⟨h1,h2,h3⟩:=qv l (hold s f 0)
  rw[qw]
  refine⟨fun g=> ?_,fun h=>h2 (wU h f 0),fun g=> ?_⟩
  · rw[h1,PB,List.mem_cons]
    constructor
    · rintro((h | h) | h)
      · exact .inr (.inl h)
      · exact .inl h
      · exact .inr (.inr h)
    · rintro(h | h | h)
      · exact .inl (.inr h)
      · exact .inl (.inl h)
      · exact .inr h
  · rw[h3,iO]
    simp
def Tw(R:List (dP F)):List F:=R.flatMap fun r=>if r.k=0 then (r.inst []).toList else []
theorem zX(h:F):∀R:List (dP F),(∀r,r∈R→r.k≤2)→total R [] h=iy (Tw R) h
 | [],_=>rfl
 | r::R,hR=>by
  have ih:=zX h R (fun q hq=>hR q (by simp[hq]))
  unfold total Tw at*
  simp only[List.map_cons,List.sum_cons,List.flatMap_cons]
  rw[ih]
  have e:jG r (fX r.k []) h=iy (if r.k=0 then (r.inst []).toList else []) h:=by
   have hk:=hR r (by simp)
   have:r.k=0∨r.k=1∨r.k=2:=by omega
   rcases this with e | e | e
   · rw[e]
     simp only[fX,if_true,B7,List.filterMap_cons,List.filterMap_nil]
     cases r.inst []<;>rfl
   · rw[e]
     simp[fX,B7,iy]
   · rw[e]
     simp[fX,B7,iy]
  rw[e]
  unfold iy
  rw[List.count_append]
theorem Bf(R:List (dP F))(hR:∀r,r∈R→r.k≤2)(gl:List F):Inv R (· ∈gl) (holds (cK cw gl) (Tw R)) 0:=by
 obtain⟨a1,a2,a3⟩:=qv gl (cw (F:=F))
 obtain⟨t,b1,b2,b3,b4,b5⟩:=gA (Tw R) (cK cw gl)
 have mh:∀f,f∈(cK cw gl).found↔f∈gl:=fun f=>by
  rw[a1]
  simp[cw]
 refine⟨b4 (a2 (by simp[cw])), ?_, ?_, ?_, ?_⟩
 · intro f hf
   rw[b1]
   exact List.mem_append_left _ ((mh f).2 hf)
 · intro h
   rw[List.take_zero,zX h R hR,b5,a3]
   show 0+_=_
   rw[Nat.zero_add]
   rfl
 · intro r hr fs F5 h hi
   rw[List.take_zero]at F5
   have hm:=(yG (hR r hr)).1 F5
   have FO:r.k=0:=by
    cases hk:r.k with
    | zero=>rfl
    | succ m=>
     rw[hk]at hm
     cases fs with
     | nil=>simp at hm
     | cons x _=>exact absurd (hm.2 x (by simp)) (by simp)
   have JM:fs=[]:=by
    rw[FO]at hm
    exact List.eq_nil_of_length_eq_zero hm.1
   subst JM
   rw[b1]
   refine b3 h (List.mem_flatMap.2 ⟨r,hr, ?_⟩)
   rw[if_pos FO,hi]
   simp
 · intro X hX hgX f hf
   rw[b1]at hf
   rcases List.mem_append.1 hf with hf | hf
   · exact hgX f ((mh f).1 hf)
   · obtain⟨r,hr,zO⟩:=List.mem_flatMap.1 (b2 f hf)
     by_cases hk:r.k=0
     · rw[if_pos hk]at zO
       have hi:r.inst []=some f:=by
        cases h:r.inst []with
        | none=>rw[h]at zO;simp at zO
        | some q=>rw[h]at zO;simp at zO;rw[zO]
       exact hX r hr [] (by rw[hk];rfl) (by simp) f hi
     · rw[if_neg hk]at zO
       simp at zO
end
end En
/- takeBodiless says what the rules without a body say. -/
namespace En
theorem Ka(r:Ax.aP):eE r=if (cp r).k=0 then ((cp r).inst []).toList else []:=by
 obtain⟨h,b⟩:=r
 cases b with
 | nil=>rfl
 | cons x b=>rfl
theorem pz:∀rs:List Ax.aP,rs.flatMap eE=Tw (rs.map cp)
 | []=>rfl
 | r::rs=>by
  have ih:=pz rs
  unfold Tw at ih ⊢
  rw[List.flatMap_cons,List.map_cons,List.flatMap_cons,ih,Ka]
end En
/- NoneHolds: empty tables. -/
section
open Go.RowKit Go.Maps Go.WideMaps Go.WideElems
def DZ(p:Pd.Pr)(g:Nat):HT:=⟨p.1,p.2,g,none,0,none,0,[],[]⟩
theorem yJ(p:Pd.Pr)(g:Nat):(DZ p g).bU=[g]:=rfl
def iR(t:HT):Pd.Pr:=(t.nm,t.pl)
theorem Mo{w:World}{p:Pd.Pr}{g:Nat}(h:w.heap[g]?=some (.cells #[.string p.1,.int .i64 p.2,.slice none 0 0,.slice none 0 0] 117 (0,0))):(DZ p g).ok w:=⟨⟨h,⟨(by intro r hr;cases hr),World.ownsRow_nil _ _ _ _⟩,List.Pairwise.nil,by decide⟩,World.ownsRow_nil _ _ _ _⟩
structure kM(w wr:World)(mb k:Nat)(Q:List Pd.Pr)(T:List HT):Prop where
 map:∃D,wr.ownsMap Tryz.prog 9 cS mb k D∧F0 D (T.map HT.pk)
 bX:∀t,t∈T→t.ok wr∧∃p g,t=DZ p g∧mb<g
 apart:T.Pairwise iM
 mS:T.map iR=(Q.take k).reverse
 be:Below w.heap.size w wr
 Ue:mb=w.heap.size
theorem Fu{w wr w3:World}{mb k:Nat}{Q:List Pd.Pr}{T:List HT}{o1:Obj}(h:kM w wr mb k Q T)(hk:k<Q.length){D:DataW Unit}(hD:F0 D (T.map HT.pk))(hm:IsMap D)
 (hw:w3.ownsMap Tryz.prog 9 cS mb (k+1) (D.put (aY (Q[k]).1) (.lit (.int .i64 (wr.heap.size+1:Nat)))))(hg:((wr.alloc o1).alloc (.cells (match Q[k]with | p=>#[.string p.1,.int .i64 p.2,.slice none 0 0,.slice none 0 0]) 117)).grownBy w3 (some mb)):
 kM w w3 mb (k+1) Q (DZ Q[k] (wr.heap.size+1)::T):=by
 have fC:Kb [mb] ((wr.alloc o1).alloc (.cells (match Q[k]with | p=>#[.string p.1,.int .i64 p.2,.slice none 0 0,.slice none 0 0]) 117)) w3:=Kb.dK hg
 have cM:Below wr.heap.size wr ((wr.alloc o1).alloc (.cells (match Q[k]with | p=>#[.string p.1,.int .i64 p.2,.slice none 0 0,.slice none 0 0]) 117)):=((Below.refl _ _).alloc (Nat.le_refl _) _).alloc (by simp) _
 have hs:=h.be.size
 have aC:∀t,t∈T→∀b,b∈t.bU→b<wr.heap.size∧mb<b:=by
  intro t ht b hb
  obtain⟨cB,p,g,rfl,Vb⟩:=h.bX t ht
  refine⟨cB.lt hb, ?_⟩
  rw[yJ,List.mem_singleton]at hb
  rw[hb];exact Vb
 have P6:=h.Ue
 refine⟨⟨_,hw,Cr hD hm _ _⟩, ?_, ?_, ?_, ?_,P6⟩
 · intro t ht
   rcases List.mem_cons.1 ht with rfl | ht
   · refine⟨Mo ?_,_,_,rfl,by omega⟩
     have:=fC.heap (pN wr o1 _) (by simp;omega)
     exact this
   · obtain⟨cB,p,g,e,Vb⟩:=h.bX t ht
     refine⟨(cB.below cM).kept fC ?_,p,g,e,Vb⟩
     intro b hb hc
     simp only[List.mem_singleton]at hc
     have:=(aC t ht b hb).2
     omega
 · refine List.pairwise_cons.2 ⟨?_,h.apart⟩
   intro t ht x hx Jr
   rw[yJ,List.mem_singleton]at hx
   have:=(aC t ht x Jr).1
   omega
 · have e:Q.take (k+1)=Q.take k++[Q[k]]:=by rw[List.take_add_one,List.getElem?_eq_getElem hk];rfl
   rw[e,List.reverse_append,List.map_cons,h.mS]
   rfl
 · exact fC.aK (h.be.trans (cM.mono hs)) (by simp;omega) (by simp;omega)
theorem zj(w:World)(B:Nat)(qd:Option Addr)(qc:Nat)(Q:List Pd.Pr)(hq:w.ownsRow B 112 2 (.slice qd Q.length qc) Q.length (au Q))(hl:Q.length≤1000)(hs:∀p,p∈Q→p.1.size≤1000000):
 Calls Tryz.prog 186 #[.slice qd Q.length qc] w fun e w'=>∃T,e=.returned (.map (some w.heap.size))∧kM w w' w.heap.size Q.length Q T:=by
 have WQ:=@run_makeMap Tryz.prog
 have HS:Hid (∀p,p∈Q→p.1.size≤1000000):=hs
 clear hs
 go_enter Tryz.func186,Tryz.ntmps186
 go_wp2_with fail
 go_loopw [9] (fun i wr=>∃(k:Nat) (T:List HT),k≤Q.length∧i=.int .i64 k∧kM w wr w.heap.size k Q T) (fun i _=>Q.length-(intOf i).toNat)
 case atStart=>exact⟨0,[],Nat.zero_le _,rfl,⟨⟨_,World.ownsMap_made _ _ _ _,CF⟩,by simp,List.Pairwise.nil,by simp,(Below.refl _ _).alloc (Nat.le_refl _) _,rfl⟩⟩
 case round=>
  obtain⟨k,T,hk,rfl,hn⟩:=hrel
  obtain⟨D,aj,hD⟩:=hn.map
  have HN:Hid (kM w wr w.heap.size k Q T):=hn
  have HD:Hid (F0 D (T.map HT.pk)):=hD
  have hDm:=aj.isMap
  have P6:=aj.lt
  have aR:=hn.be
  have cr:=aR.size
  have HB:Hid (Below w.heap.size w wr):=aR
  clear hD hn
  by_cases aC:k<Q.length
  · have bV:=af hq aR
    obtain⟨g,rfl,hg,hc,bA⟩:=ax bV (by omega)
    have gH:=bA _ _ (aU Q k aC).1
    have gC:=bA _ _ (aU Q k aC).2
    have uK:(Q[k]).1.size≤1000000:=HS.out _ (List.getElem_mem aC)
    have vo:Hid (∀w3 o1,w3.ownsMap Tryz.prog 9 cS w.heap.size (k+1) (D.put (aY (Q[k]).1) (.lit (.int .i64 (wr.heap.size+1:Nat))))→((wr.alloc o1).alloc (.cells (match Q[k]with | p=>#[.string p.1,.int .i64 p.2,.slice none 0 0,.slice none 0 0]) 117)).grownBy w3 (some w.heap.size)→kM w w3 w.heap.size (k+1) Q (DZ Q[k] (wr.heap.size+1)::T)):=fun w3 o1 a b=>Fu HN.out aC HD.out hDm a b
    generalize Q[k]=x at gH gC uK vo
    have mF:keyOf Tryz.prog 9 (.string x.1)=some (aY x.1):=keyOf_string_mk Tryz.underlying9 (by unfold maxLen;omega)
    have HK:Hid (keyOf Tryz.prog 9 (.string x.1)=some (aY x.1)):=mF
    clear mF bA bV aR hq
    go_wp2_with (at_mapUpdate;go_must (refine wpList_mapUpdate_own _ rfl _ _ _ 103 rfl 9 97 Tryz.gD Tryz.underlying103 _ w.heap.size k D rfl ((aj.alloc _).alloc _) (by unfold maxLen;omega) _ _ (aY x.1) rfl rfl HK.out (.lit (.int .i64 (wr.heap.size+1:Nat))) [] (by rfl) ?_;intro w3 fG gI))
    go_roundw
    case rel=>exact⟨k+1,_,by omega,by go_num,vo.out _ _ fG gI⟩
    case measure=>simp[intOf];omega
  · have CZ:k=Q.length:=by omega
    have HE:Hid (kM w wr w.heap.size Q.length Q T):=by rw[←CZ];exact HN.out
    clear aR CZ
    go_wp2_with fail
    go_ret
    exact⟨T,rfl,HE.out⟩
end
end Go.Proofs.YtdmicblafmhflaaGreatDoor
