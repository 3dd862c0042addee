/- Package follow: join for every atom; meet. -/
import Derived.Test.YtdmicblafmhflaaGreatDoorC26
import Derived.Test.YtdmicblafmhflaaGreatDoorC23
import Derived.Test.YtdmicblafmhflaaGreatDoorC11
import Derived.Test.YtdmicblafmhflaaGreatDoorC22
set_option linter.unusedSimpArgs false
set_option linter.unusedVariables false
set_option maxHeartbeats 4000000
set_option maxRecDepth 100000
namespace Go.Proofs.YtdmicblafmhflaaGreatDoor
section
open Go.RowKit Go.Maps Go.WideMaps Go.WideElems
open Go.Sort (grow)
theorem zH{sb mb:Nat}{rv:Value}{a:Ax.Atom}{ad:Option Addr}{ac:Nat}{bd:Option Addr}{bc:Nat}{body:List MA}{P:List En.b7}{z:En.b7}{turn ba:Nat}(Pq:P.length=ba)(Cb:ba≤999990)(Ln:turn≤10):∀(m i:Nat),i+m=body.length→GU sb mb rv a ad ac bd bc body P z turn ba i
 | 0,i,h=>by
  have:i=body.length:=by omega
  subst this
  exact I0
 | m+1,i,h=>OM (by omega) Pq Cb Ln (zH Pq Cb Ln m (i+1) (by omega))
structure fA(w:World)(rd:Option Addr)(rc:Nat)(l:List MR):Prop where
 Ca:aX w rd rc l
 head:∀r,r∈l→R5 r.head.1
 atoms:∀r,r∈l→∀x,x∈r.body→R5 x.1
 two:∀r,r∈l→r.body.length≤2
theorem fA.below{w w':World}{rd:Option Addr}{rc:Nat}{l:List MR}(h:fA w rd rc l)(hb:Below w.heap.size w w'):fA w' rd rc l:=⟨h.Ca.below hb,h.head,h.atoms,h.two⟩
theorem fA.search{w w':World}{sb mb:Nat}{rv:Value}{fd:Option Addr}{fc:Nat}{T:List HT}{s s':En.dH En.b7}{rd:Option Addr}{rc:Nat}{l:List MR}(h:fA w rd rc l)(h0:mK w sb mb rv fd fc T s)(hs:iI w w' sb mb rv fd fc T s s'):fA w' rd rc l:=by
 have jK:∀b cur U,b∈dI sb fd fc s.found.length T→w.heap[b]?=some (.cells cur U (0,0))→U=322∨U=325∨U=117∨U=119∨U=3:=by
  intro b cur U hb e
  obtain⟨lN,U',e',hU⟩:=ls h0 hb
  rw[e]at e'
  simp only[Option.some.injEq,Obj.cells.injEq]at e'
  rw[e'.2.1]
  exact hU
 have hT:∀b cur,b∈dI sb fd fc s.found.length T→w.heap[b]?=some (.cells cur 310 (0,0))→False:=by
  intro b cur hb e
  have:=jK b cur _ hb e
  rcases this with e | e | e | e | e<;>cases e
 refine⟨⟨hs.kept.row h.Ca.1 ?_,fun r hr=>⟨MA.Hm (h.Ca.2.1 r hr).1 hs.kept hT,hs.kept.row (h.Ca.2.1 r hr).2.1 ?_,fun x hx=>MA.Hm ((h.Ca.2.1 r hr).2.2 x hx) hs.kept hT⟩,h.Ca.2.2⟩,h.head,h.atoms,h.two⟩
 · intro b hb hm
   obtain⟨cur,e⟩:=aI h.Ca.1 hb
   have:=jK b cur _ hm e
   rcases this with e | e | e | e | e<;>cases e
 · intro b hb hm
   obtain⟨cur,e⟩:=aI (h.Ca.2.1 r hr).2.1 hb
   have:=jK b cur _ hm e
   rcases this with e | e | e | e | e<;>cases e
theorem fA.at{w:World}{rd:Option Addr}{rc:Nat}{l:List MR}(h:fA w rd rc l){k:Nat}(hk:k<l.length):
 ∃g a ad ac bd bc body,rd=some ⟨g,0,none⟩∧g<w.heap.size∧l.length≤rc∧w.cell? ⟨g,k*4,none⟩=some (.int .i64 (Ax.Atom.at_ a))∧w.cell? ⟨g,k*4+1,none⟩=some (.string a.pred)∧w.cell? ⟨g,k*4+2,none⟩=some (.slice ad a.ak.length ac)∧
  w.cell? ⟨g,k*4+3,none⟩=some (.slice bd body.length bc)∧tj w a ad ac bd bc body∧(l[k]).ay=⟨a,List.map Prod.fst body⟩:=by
 obtain⟨g,rfl,hg,hc,br⟩:=aD h.Ca.1 (by omega)
 have hm:=List.getElem_mem hk
 have dj:=h.Ca.2.1 _ hm
 have h1:=h.head _ hm
 have h2:=h.atoms _ hm
 have h3:=h.two _ hm
 obtain⟨c0,c1,c2,c3⟩:=pX l k hk
 generalize l[k]=r at*
 rcases r with⟨⟨a,hv⟩,bv,body⟩
 obtain⟨ad,c,e1⟩:=aj dj.1
 obtain⟨bd,d,e2⟩:=aj dj.2.1
 simp only at e1 e2
 subst e1 e2
 exact⟨g,a,ad,c,bd,d,body,rfl,hg,hc,br _ _ c0,br _ _ c1,br _ _ c2,br _ _ c3,⟨dj,h1,h2,h3⟩,rfl⟩
end
/- Package follow: takeBodiless. -/
namespace En
def eG(r:Ax.bD):List b7:=if r.body=[]then [dD (val []) r.head]else []
end En
section
open Go.RowKit Go.Maps Go.WideMaps Go.WideElems
open Go.Sort (grow)
theorem B7(w:World)(sb mb:Nat)(rd:Option Addr)(rc:Nat)(l:List MR)(fd:Option Addr)(fc:Nat)(T:List HT)(s:En.dH En.b7)(h:mK w sb mb (.slice rd l.length rc) fd fc T s)(hl:fA w rd rc l)(hp:∀r,r∈l→r.head.1.pred∈T.map HT.nm)(G2:l.length≤1000)
 (hF:s.found.length+l.length≤999990)(hC:∀f,s.count f+l.length≤1000000000000):
 Calls Tryz.prog 188 #[.pointer (some ⟨sb,0,none⟩)] w fun e w'=>e=.returned (.tuple #[])∧iI w w' sb mb (.slice rd l.length rc) fd fc T s (En.holds s ((l.map MR.ay).flatMap En.eG)):=by
 have s0:w.cell? ⟨sb,0,none⟩=some (.slice rd l.length rc):=by rw[cell_of_row _ _ 0 _ _ _ h.cP];rfl
 have hsb:sb<w.heap.size:=lt_of_heap h.cP
 have hle:=be hl.Ca.1
 have HH:Hid (mK w sb mb (.slice rd l.length rc) fd fc T s):=h
 have HL:Hid (fA w rd rc l):=hl
 have HP:Hid (∀r,r∈l→r.head.1.pred∈T.map HT.nm):=hp
 have HF:Hid (s.found.length+l.length≤999990):=hF
 have HC:Hid (∀f,s.count f+l.length≤1000000000000):=hC
 have ff:Hid (∀k,(((l.take k).map MR.ay).flatMap En.eG).length≤k):=by
  intro k
  have:∀q:List MR,((q.map MR.ay).flatMap En.eG).length≤q.length:=by
   intro q
   induction q with
   | nil=>simp
   | cons r q ih=>
    simp only[List.map_cons,List.flatMap_cons,List.length_append,List.length_cons]
    have:(En.eG r.ay).length≤1:=by unfold En.eG;split<;>simp
    omega
  have:=this (l.take k)
  rw[List.length_take]at this
  omega
 clear h hl hp hF hC
 go_enter Tryz.func188,Tryz.ntmps188
 go_wp2_with fail
 go_loopw [9] (fun iv wr=>∃k:Nat,k≤l.length∧iv=.int .i64 k∧iI w wr sb mb (.slice rd l.length rc) fd fc T s (En.holds s (((l.take k).map MR.ay).flatMap En.eG))) (fun iv _=>l.length-(intOf iv).toNat)
 case atStart=>exact⟨0,Nat.zero_le _,rfl,iI.refl HH.out⟩
 case round=>
  obtain⟨k,hk,rfl,jN⟩:=hrel
  have HS:Hid (iI w wr sb mb (.slice rd l.length rc) fd fc T s (En.holds s (((l.take k).map MR.ay).flatMap En.eG))):=jN
  clear jN
  by_cases aG:k<l.length
  · have Ce:=HL.out.search HH.out HS.out
    obtain⟨g,a,ad,ac,bd,bc,body,rfl,hg,ll,d0,d1,d2,d3,FF,gV⟩:=Ce.at aG
    have Jy:((l.take (k+1)).map MR.ay).flatMap En.eG=((l.take k).map MR.ay).flatMap En.eG++En.eG ⟨a,List.map Prod.fst body⟩:=by
     rw[List.take_succ_eq_append_getElem aG,List.map_append,List.flatMap_append,List.map_singleton,List.flatMap_singleton,gV]
    have eL:Hid (((l.take (k+1)).map MR.ay).flatMap En.eG=((l.take k).map MR.ay).flatMap En.eG++En.eG ⟨a,List.map Prod.fst body⟩):=Jy
    clear Jy
    have Gf:=HP.out _ (List.getElem_mem aG)
    have VI:a.pred∈T.map HT.nm:=by
     have:(l[k]).head.1=a:=by
      have:=congrArg Ax.bD.head gV
      exact this
     rw[←this]
     exact Gf
    have Mm:=ff.out k
    have We:=HF.out
    have QO:=HC.out
    by_cases bU:body.length=0
    · have wM:En.eG ⟨a,List.map Prod.fst body⟩=[En.dD (En.val []) a]:=by
       have:body=[]:=List.eq_nil_of_length_eq_zero bU
       subst this
       rfl
      obtain⟨vA,vm,T1,kV,mj,yu⟩:=HS.out.on
      have pQ:=En.l6 (((l.take k).map MR.ay).flatMap En.eG) s
      obtain⟨A,t,B,hT1,N5⟩:=nB (T:=T1) (p:=a.pred) (by rw[kk mj];exact VI)
      subst hT1
      have qz:Hid (∀W:World,Below wr.heap.size wr W→Calls Tryz.prog 231 #[.pointer (some ⟨sb,0,none⟩),.agg #[.int .i64 a.at_,.string a.pred,.slice ad a.ak.length ac,.slice bd body.length bc],.agg #[.int .i64 0,.string ⟨#[]⟩,.string ⟨#[]⟩,.string ⟨#[]⟩,.string ⟨#[]⟩,.string ⟨#[]⟩,.string ⟨#[]⟩,.string ⟨#[]⟩,.string ⟨#[]⟩,.string ⟨#[]⟩,.string ⟨#[]⟩,.string ⟨#[]⟩,.string ⟨#[]⟩]] W fun e w'=>e=.returned (.tuple #[])∧iI w w' sb mb (.slice (some ⟨g,0,none⟩) l.length rc) fd fc T s (En.holds s (((l.take (k+1)).map MR.ay).flatMap En.eG))):=by
       intro W hW
       have:=sG W sb mb _ vA vm A B t _ (kV.below hW) (by omega) (fun f=>by have h1:=En.ie (((l.take k).map MR.ay).flatMap En.eG) s f;have h2:=QO f;omega) a ad ac _ (FF.below hW).mr.1 FF.head N5 [] 0 _ _ GQ bd body.length bc rfl
       refine this.mono ?_
       rintro e w' ⟨rfl,jN⟩
       refine⟨rfl, ?_⟩
       rw[eL.out,wM,En.ki]
       exact iI.trans HH.out (kV.below hW) mj yu (HS.out.kept.below hW) (HS.out.post hW).cells pQ.1 jN
      have abH:((body.length:Int)==0)=true:=by simp[bU]
      clear bU wM kV yu mj pQ N5 FF Ce gV Gf VI Mm We QO
      go_wp2_with (go_at_call 231;refine(qz.out _ (by exact(Below.refl _ _).alloc (Nat.le_refl _) _)).mono ?_;rintro e w6 ⟨rfl,um⟩;have To:Hid (iI w w6 sb mb (.slice (some ⟨g,0,none⟩) l.length rc) fd fc T s (En.holds s (((l.take (k+1)).map MR.ay).flatMap En.eG))):=um;clear um)
      go_roundw
      case rel=>exact⟨k+1,by omega,by go_num,To.out⟩
      case measure=>simp[intOf];omega
    · have wM:En.eG ⟨a,List.map Prod.fst body⟩=[]:=by
       unfold En.eG
       rw[if_neg]
       intro e
       have:=congrArg List.length e
       simp at this
       exact bU (by rw[this];rfl)
      have TU:Hid (iI w (wr.alloc (.cells #[.int .i64 a.at_,.string a.pred,.slice ad a.ak.length ac,.slice bd body.length bc] 222)) sb mb (.slice (some ⟨g,0,none⟩) l.length rc) fd fc T s (En.holds s (((l.take (k+1)).map MR.ay).flatMap En.eG))):=by
       rw[eL.out,wM,List.append_nil]
       exact HS.out.post ((Below.refl _ _).alloc (Nat.le_refl _) _)
      have abH:((body.length:Int)==0)=false:=by simp only[beq_eq_false_iff_ne];omega
      have agn:¬(body.length=0):=bU
      clear bU wM FF Ce gV Gf VI Mm We QO
      go_wp2_with fail
      go_roundw
      case rel=>exact⟨k+1,by omega,by go_num,TU.out⟩
      case measure=>simp[intOf];omega
  · have Sb:k=l.length:=by omega
    have nS:Hid (iI w wr sb mb (.slice rd l.length rc) fd fc T s (En.holds s ((l.map MR.ay).flatMap En.eG))):=by
     have:=HS.out
     rw[Sb,List.take_length]at this
     exact this
    clear Sb
    go_wp2_with fail
    go_end0
    exact⟨rfl,nS.out⟩
end
/- Package follow: meet. -/
section
open Go.RowKit Go.Maps Go.WideMaps Go.WideElems
open Go.Sort (grow)
theorem FL{m j:Nat}(h:j<m):(List.range m).take (j+1)=(List.range m).take j++[j]:=by
 rw[List.take_succ_eq_append_getElem (by simpa using h)]
 simp
theorem Mo(w:World)(sb mb:Nat)(rd:Option Addr)(rc:Nat)(l:List MR)(fd:Option Addr)(fc:Nat)(T:List HT)(s:En.dH En.b7)(h:mK w sb mb (.slice rd l.length rc) fd fc T s)(hl:fA w rd rc l)(hp:∀r,r∈l→r.head.1.pred∈T.map HT.nm)(G2:l.length≤1000)
 (P:List En.b7)(z:En.b7)(ba:Nat)(Pq:P.length=ba)(Xk:ba<s.found.length)(Ux:s.found.take (ba+1)=P++[z])
 (hF:s.found.length+((l.map MR.ay).flatMap (En.bB P z)).length≤999990)(hC:∀f,s.count f+((l.map MR.ay).flatMap (En.bB P z)).length≤1000000000000):
 Calls Tryz.prog 189 #[.pointer (some ⟨sb,0,none⟩),.int .i64 ba] w fun e w'=>e=.returned (.tuple #[])∧iI w w' sb mb (.slice rd l.length rc) fd fc T s (En.holds s ((l.map MR.ay).flatMap (En.bB P z))):=by
 have s0:w.cell? ⟨sb,0,none⟩=some (.slice rd l.length rc):=by rw[cell_of_row _ _ 0 _ _ _ h.cP];rfl
 have hsb:sb<w.heap.size:=lt_of_heap h.cP
 have hle:=be hl.Ca.1
 have HH:Hid (mK w sb mb (.slice rd l.length rc) fd fc T s):=h
 have HL:Hid (fA w rd rc l):=hl
 have HP:Hid (∀r,r∈l→r.head.1.pred∈T.map HT.nm):=hp
 have HF:Hid (s.found.length+((l.map MR.ay).flatMap (En.bB P z)).length≤999990):=hF
 have HC:Hid (∀f,s.count f+((l.map MR.ay).flatMap (En.bB P z)).length≤1000000000000):=hC
 have HPZ:Hid (s.found.take (ba+1)=P++[z]):=Ux
 have Lm:Hid (P.length=ba):=Pq
 have Cb:ba≤999990:=by omega
 clear h hl hp hF hC Ux Pq
 go_enter Tryz.func189,Tryz.ntmps189
 go_wp2_with fail
 go_loopw [12] (fun iv wr=>∃k:Nat,k≤l.length∧iv=.int .i64 k∧iI w wr sb mb (.slice rd l.length rc) fd fc T s (En.holds s (((l.take k).map MR.ay).flatMap (En.bB P z)))) (fun iv _=>l.length-(intOf iv).toNat)
 case atStart=>exact⟨0,Nat.zero_le _,rfl,iI.refl HH.out⟩
 case round=>
  obtain⟨k,hk,rfl,jN⟩:=hrel
  have HS:Hid (iI w wr sb mb (.slice rd l.length rc) fd fc T s (En.holds s (((l.take k).map MR.ay).flatMap (En.bB P z)))):=jN
  clear jN
  by_cases aG:k<l.length
  · have Ce:=HL.out.search HH.out HS.out
    obtain⟨g,a,ad,ac,bd,bc,body,rfl,hg,ll,d0,d1,d2,d3,FF,gV⟩:=Ce.at aG
    have Jy:((l.take (k+1)).map MR.ay).flatMap (En.bB P z)=((l.take k).map MR.ay).flatMap (En.bB P z)++En.bB P z ⟨a,List.map Prod.fst body⟩:=by
     rw[List.take_succ_eq_append_getElem aG,List.map_append,List.flatMap_append,List.map_singleton,List.flatMap_singleton,gV]
    have eL:Hid (((l.take (k+1)).map MR.ay).flatMap (En.bB P z)=((l.take k).map MR.ay).flatMap (En.bB P z)++En.bB P z ⟨a,List.map Prod.fst body⟩):=Jy
    have Gf:=HP.out _ (List.getElem_mem aG)
    have VI:a.pred∈T.map HT.nm:=by
     have:(l[k]).head.1=a:=congrArg Ax.bD.head gV
     rw[←this]
     exact Gf
    have Xc:((l.take (k+1)).map MR.ay).flatMap (En.bB P z)=((l.map MR.ay).take (k+1)).flatMap (En.bB P z):=by rw[List.map_take]
    have N2:=ng (En.bB P z) (l.map MR.ay) (k+1)
    rw[←Xc,Jy,List.length_append]at N2
    have YL:En.bB P z ⟨a,List.map Prod.fst body⟩=(List.range body.length).flatMap fun turn=>En.jn P z turn a 0 (body.map Prod.fst) []:=by
     unfold En.bB
     simp
    rw[YL]at N2
    have HJT:Hid (En.bB P z ⟨a,List.map Prod.fst body⟩=(List.range body.length).flatMap fun turn=>En.jn P z turn a 0 (body.map Prod.fst) []):=YL
    have acD:Hid ((((l.take k).map MR.ay).flatMap (En.bB P z)).length+((List.range body.length).flatMap fun turn=>En.jn P z turn a 0 (body.map Prod.fst) []).length≤((l.map MR.ay).flatMap (En.bB P z)).length):=N2
    have h2:=FF.two
    obtain⟨vA,vm,T1,kV,mj,yu⟩:=HS.out.on
    have pQ:=En.l6 (((l.take k).map MR.ay).flatMap (En.bB P z)) s
    have X8:Hid (s.found.length≤(En.holds s (((l.take k).map MR.ay).flatMap (En.bB P z))).found.length∧(En.holds s (((l.take k).map MR.ay).flatMap (En.bB P z))).found.length≤s.found.length+(((l.take k).map MR.ay).flatMap (En.bB P z)).length):=pQ
    obtain⟨w1,qa⟩:∃w1,w1=wr.alloc (.cells #[.int .i64 a.at_,.string a.pred,.slice ad a.ak.length ac,.slice bd body.length bc] 222):=⟨_,rfl⟩
    have jE:Below wr.heap.size wr w1:=by rw[qa];exact(Below.refl _ _).alloc (Nat.le_refl _) _
    have Bw:w1.heap[wr.heap.size]?=some (.cells #[.int .i64 a.at_,.string a.pred,.slice ad a.ak.length ac,.slice bd body.length bc] 222 (0,0)):=by rw[qa];exact heap_alloc_new wr _
    have QS:Hid (mK w1 sb mb (.slice (some ⟨g,0,none⟩) l.length rc) vA vm T1 (En.holds s (((l.take k).map MR.ay).flatMap (En.bB P z)))):=kV.below jE
    have HS0:Hid (mK wr sb mb (.slice (some ⟨g,0,none⟩) l.length rc) vA vm T1 (En.holds s (((l.take k).map MR.ay).flatMap (En.bB P z)))):=kV
    have HRA:Hid (tj w1 a ad ac bd bc body):=FF.below jE
    have HBX:Hid (w1.heap[wr.heap.size]?=some (.cells #[.int .i64 a.at_,.string a.pred,.slice ad a.ak.length ac,.slice bd body.length bc] 222 (0,0))):=Bw
    have lh:Hid (Below wr.heap.size wr w1):=jE
    have Xb:Hid (T1.map HT.key=T.map HT.key):=mj
    have VZ:Hid (∀b,b∈dI sb vA vm (En.holds s (((l.take k).map MR.ay).flatMap (En.bB P z))).found.length T1→b∈dI sb fd fc s.found.length T∨w.heap.size≤b):=yu
    have HPA:Hid (a.pred∈T.map HT.nm):=VI
    have I9:wr.heap.size<w1.heap.size:=lt_of_heap Bw
    clear FF Ce gV Gf VI Xc N2 YL Jy kV pQ yu mj Bw
    obtain⟨wA,Py⟩:∃x,x=wr:=⟨wr,rfl⟩
    go_upto_region 4 with fail
    rw[←qa]
    clear qa jE
    rw[←Py]
    rw[←Py]at HS HS0 HBX lh I9
    clear d0 d1 d2 d3 hg Py
    go_loopw [19] (fun jv w2=>∃j:Nat,j≤body.length∧jv=.int .i64 j∧iI w1 w2 sb mb (.slice (some ⟨g,0,none⟩) l.length rc) vA vm T1 (En.holds s (((l.take k).map MR.ay).flatMap (En.bB P z))) (En.holds (En.holds s (((l.take k).map MR.ay).flatMap (En.bB P z))) (((List.range body.length).take j).flatMap fun turn=>En.jn P z turn a 0 (body.map Prod.fst) []))) (fun jv _=>body.length-(intOf jv).toNat)
    case atStart=>exact⟨0,Nat.zero_le _,rfl,iI.refl QS.out⟩
    case round=>
     obtain⟨j,hj,rfl,Sv⟩:=hrel
     have G8:Hid (iI w1 wr sb mb (.slice (some ⟨g,0,none⟩) l.length rc) vA vm T1 (En.holds s (((l.take k).map MR.ay).flatMap (En.bB P z))) (En.holds (En.holds s (((l.take k).map MR.ay).flatMap (En.bB P z))) (((List.range body.length).take j).flatMap fun turn=>En.jn P z turn a 0 (body.map Prod.fst) []))):=Sv
     clear Sv
     have Ho:wr.heap[wA.heap.size]?=some (.cells #[.int .i64 a.at_,.string a.pred,.slice ad a.ak.length ac,.slice bd body.length bc] 222 (0,0)):=G8.out.kept.heap HBX.out (fun hc=>by have:=rC HS0.out hc;omega)
     by_cases Hw:j<body.length
     · obtain⟨Sm,RZ,T2,yH,NR,Xj⟩:=G8.out.on
       have D0:(((List.range body.length).take (j+1)).flatMap fun turn=>En.jn P z turn a 0 (body.map Prod.fst) [])=(((List.range body.length).take j).flatMap fun turn=>En.jn P z turn a 0 (body.map Prod.fst) [])++En.jn P z j a 0 (body.map Prod.fst) []:=by
        rw[FL Hw,List.flatMap_append,List.flatMap_singleton]
       have W4:=ng (fun turn=>En.jn P z turn a 0 (body.map Prod.fst) []) (List.range body.length) (j+1)
       rw[D0,List.length_append]at W4
       have NW:=En.l6 (((List.range body.length).take j).flatMap fun turn=>En.jn P z turn a 0 (body.map Prod.fst) []) (En.holds s (((l.take k).map MR.ay).flatMap (En.bB P z)))
       have s5:=X8.out
       have hL2:=acD.out
       have We:=HF.out
       have QO:=HC.out
       have FG:=(zH (sb:=sb) (mb:=mb) (rv:=(.slice (some ⟨g,0,none⟩) l.length rc)) (a:=a) (ad:=ad) (ac:=ac) (bd:=bd) (bc:=bc) (body:=body) (P:=P) (z:=z) (turn:=j) Lm.out Cb (by omega) body.length 0 (by omega)) wr Sm RZ T2 _ [] 0 _ _ yH (HRA.out.search QS.out G8.out) GQ (by omega) (by rw[kk NR,kk Xb.out];exact HPA.out) (by omega) (by rw[En.qi _ _ (by omega),En.qi _ _ (by omega)];exact HPZ.out) (by rw[List.drop_zero];omega) (fun f=>by have h1:=En.ie (((List.range body.length).take j).flatMap fun turn=>En.jn P z turn a 0 (body.map Prod.fst) []) (En.holds s (((l.take k).map MR.ay).flatMap (En.bB P z))) f;have h3:=En.ie (((l.take k).map MR.ay).flatMap (En.bB P z)) s f;have h4:=QO f;rw[List.drop_zero];omega)
       rw[List.drop_zero]at FG
       have Al:Hid (Calls Tryz.prog 232 #[.pointer (some ⟨sb,0,none⟩),.agg #[.int .i64 a.at_,.string a.pred,.slice ad a.ak.length ac,.slice bd body.length bc],.int .i64 0,.int .i64 j,.int .i64 ba,.agg #[.int .i64 0,.string ⟨#[]⟩,.string ⟨#[]⟩,.string ⟨#[]⟩,.string ⟨#[]⟩,.string ⟨#[]⟩,.string ⟨#[]⟩,.string ⟨#[]⟩,.string ⟨#[]⟩,.string ⟨#[]⟩,.string ⟨#[]⟩,.string ⟨#[]⟩,.string ⟨#[]⟩]] wr fun e w'=>e=.returned (.tuple #[])∧iI w1 w' sb mb (.slice (some ⟨g,0,none⟩) l.length rc) vA vm T1 (En.holds s (((l.take k).map MR.ay).flatMap (En.bB P z))) (En.holds (En.holds s (((l.take k).map MR.ay).flatMap (En.bB P z))) (((List.range body.length).take (j+1)).flatMap fun turn=>En.jn P z turn a 0 (body.map Prod.fst) []))):=by
        refine FG.mono ?_
        rintro e w' ⟨rfl,jN⟩
        refine⟨rfl, ?_⟩
        rw[D0,En.ki]
        exact iI.trans QS.out yH NR Xj G8.out.kept G8.out.cells NW.1 jN
       have r0:wr.cell? ⟨wA.heap.size,0,none⟩=some (.int .i64 a.at_):=by rw[cell_of_row _ _ _ _ _ _ Ho];rfl
       have r1:wr.cell? ⟨wA.heap.size,1,none⟩=some (.string a.pred):=by rw[cell_of_row _ _ _ _ _ _ Ho];rfl
       have r2:wr.cell? ⟨wA.heap.size,2,none⟩=some (.slice ad a.ak.length ac):=by rw[cell_of_row _ _ _ _ _ _ Ho];rfl
       have r3:wr.cell? ⟨wA.heap.size,3,none⟩=some (.slice bd body.length bc):=by rw[cell_of_row _ _ _ _ _ _ Ho];rfl
       have u1:wA.heap.size<wr.heap.size:=lt_of_heap Ho
       clear FG yH NR Xj D0 W4 NW s5 hL2 We QO Ho
       go_wp2_with (go_at_call 232;refine Al.out.mono ?_;rintro e w6 ⟨rfl,um⟩;have To:Hid (iI w1 w6 sb mb (.slice (some ⟨g,0,none⟩) l.length rc) vA vm T1 (En.holds s (((l.take k).map MR.ay).flatMap (En.bB P z))) (En.holds (En.holds s (((l.take k).map MR.ay).flatMap (En.bB P z))) (((List.range body.length).take (j+1)).flatMap fun turn=>En.jn P z turn a 0 (body.map Prod.fst) []))):=um;clear um)
       go_roundw
       case rel=>exact⟨j+1,by omega,by go_num,To.out⟩
       case measure=>simp[intOf];omega
     · have hjc:j=body.length:=by omega
       have uv:Hid (iI w wr sb mb (.slice (some ⟨g,0,none⟩) l.length rc) fd fc T s (En.holds s (((l.take (k+1)).map MR.ay).flatMap (En.bB P z)))):=by
        have h1:=G8.out
        have e1:(List.range body.length).take j=List.range body.length:=List.take_of_length_le (by simp;omega)
        rw[e1,←HJT.out]at h1
        rw[eL.out,En.ki]
        exact iI.trans HH.out QS.out Xb.out VZ.out (HS.out.kept.below lh.out) (HS.out.post lh.out).cells X8.out.1 h1
       clear hjc Ho
       go_wp2_with fail
       go_roundw
       case rel=>exact⟨k+1,by omega,by go_num,uv.out⟩
       case measure=>simp[intOf];omega
  · have Sb:k=l.length:=by omega
    have nS:Hid (iI w wr sb mb (.slice rd l.length rc) fd fc T s (En.holds s ((l.map MR.ay).flatMap (En.bB P z)))):=by
     have:=HS.out
     rw[Sb,List.take_length]at this
     exact this
    clear Sb
    go_wp2_with fail
    go_end0
    exact⟨rfl,nS.out⟩
end
/- The rules of axiomkeep's text are fit for the search. -/
section
open Go.RowKit
theorem ky{w:World}{rd:Option Addr}{rc:Nat}{l:List MR}{kl:List Ax.aA}(h:aX w rd rc l)(he:(l.map MR.ay).map Ax.lj=Ax.gR kl):fA w rd rc l∧(∀r,r∈l→r.head.1.pred∈Ax.gP)∧l.length≤8:=by
 have hG:=Ax.sA kl
 have fy:∀r,r∈l→Ax.lj r.ay∈Ax.gR kl:=fun r hr=>by
  rw[←he]
  exact List.mem_map.2 ⟨_,List.mem_map.2 ⟨r,hr,rfl⟩,rfl⟩
 have uR:∀r,r∈l→R5 r.head.1:=fun r hr=>by
  have h1:=(hG.fit _ (fy r hr)).1.1
  have h2:=hG.atoms _ (fy r hr) _ (.inl rfl)
  exact⟨h2.2.2,h1.2⟩
 have rG:∀r,r∈l→∀x,x∈r.body→R5 x.1:=fun r hr x hx=>by
  have Ck:Ax.Cm x.1∈(Ax.lj r.ay).2:=List.mem_map.2 ⟨x.1,List.mem_map.2 ⟨x,hx,rfl⟩,rfl⟩
  have h1:=(hG.fit _ (fy r hr)).1.2 _ Ck
  have h2:=hG.atoms _ (fy r hr) _ (.inr Ck)
  exact⟨h2.2.2,h1.2⟩
 have htw:∀r,r∈l→r.body.length≤2:=fun r hr=>by
  have:=(hG.fit _ (fy r hr)).2
  simpa [Ax.lj,MR.ay]using this
 refine⟨⟨h,uR,rG,htw⟩,fun r hr=>(hG.atoms _ (fy r hr) _ (.inl rfl)).1, ?_⟩
 have h1:=congrArg List.length he
 simp only[List.length_map]at h1
 have:=hG.Cf
 omega
theorem Fu{l:List MR}{P:List En.b7}{z:En.b7}(h2:∀r,r∈l→r.body.length≤2):(l.map MR.ay).flatMap (En.bB P z)=En.mw ((l.map MR.ay).map En.cS) P z:=by
 refine En.qR P z _ ?_
 intro r hr
 obtain⟨m,hm,rfl⟩:=List.mem_map.1 hr
 simpa [MR.ay]using h2 m hm
end
/- The search's beginning: what is given, and the rules without a body. No program here. -/
namespace En
section
variable {F : Type} [DecidableEq F]
def cz:dH F:=⟨[],fun _=>0⟩
def cL(s:dH F)(l:List F):dH F:=l.foldl (fun s f=>hold s f 0) s
theorem qk(s:dH F)(f:F)(l:List F):cL s (f::l)=cL (hold s f 0) l:=rfl
theorem BU(s:dH F)(a b:List F):cL s (a++b)=cL (cL s a) b:=by simp[cL]
theorem N7{s:dH F}{f g:F}{n:Nat}:g∈(hold s f n).found↔g=f∨g∈s.found:=by
 obtain⟨t,h1,h2,h3⟩:=xY s f n
 rw[h1,List.mem_append]
 constructor
 · rintro(h | h)
   · exact .inr h
   · exact .inl (h2 g h)
 · rintro(rfl | h)
   · exact List.mem_append.1 h3
   · exact .inl h
theorem qL:∀(l:List F) (s:dH F),(∀g,g∈(cL s l).found↔g∈s.found∨g∈l)∧(s.found.Nodup→(cL s l).found.Nodup)∧∀g,(cL s l).count g=s.count g
 | [],s=>⟨fun g=>by simp[cL],fun h=>h,fun g=>rfl⟩
 | f::l,s=>by
  obtain⟨h1,h2,h3⟩:=qL l (hold s f 0)
  rw[qk]
  refine⟨fun g=> ?_,fun h=>h2 (xm h f 0),fun g=> ?_⟩
  · rw[h1,N7,List.mem_cons]
    constructor
    · rintro((h | h) | h)
      · exact .inr (.inl h)
      · exact .inl h
      · exact .inr (.inr h)
    · rintro(h | h | h)
      · exact .inl (.inr h)
      · exact .inl (.inl h)
      · exact .inr h
  · rw[h3,iV]
    simp
def Rz(R:List (eD F)):List F:=R.flatMap fun r=>if r.k=0 then (r.inst []).toList else []
theorem zO(h:F):∀R:List (eD F),(∀r,r∈R→r.k≤2)→total R [] h=iF (Rz R) h
 | [],_=>rfl
 | r::R,hR=>by
  have ih:=zO h R (fun q hq=>hR q (by simp[hq]))
  unfold total Rz at*
  simp only[List.map_cons,List.sum_cons,List.flatMap_cons]
  rw[ih]
  have e:jX r (iK r.k []) h=iF (if r.k=0 then (r.inst []).toList else []) h:=by
   have hk:=hR r (by simp)
   have:r.k=0∨r.k=1∨r.k=2:=by omega
   rcases this with e | e | e
   · rw[e]
     simp only[iK,if_true,B4,List.filterMap_cons,List.filterMap_nil]
     cases r.inst []<;>rfl
   · rw[e]
     simp[iK,B4,iF]
   · rw[e]
     simp[iK,B4,iF]
  rw[e]
  unfold iF
  rw[List.count_append]
theorem JV(R:List (eD F))(hR:∀r,r∈R→r.k≤2)(gl:List F):Inv R (· ∈gl) (holds (cL cz gl) (Rz R)) 0:=by
 obtain⟨a1,a2,a3⟩:=qL gl (cz (F:=F))
 obtain⟨t,b1,b2,b3,b4,b5⟩:=gE (Rz R) (cL cz gl)
 have mO:∀f,f∈(cL cz gl).found↔f∈gl:=fun f=>by
  rw[a1]
  simp[cz]
 refine⟨b4 (a2 (by simp[cz])), ?_, ?_, ?_, ?_⟩
 · intro f hf
   rw[b1]
   exact List.mem_append_left _ ((mO f).2 hf)
 · intro h
   rw[List.take_zero,zO h R hR,b5,a3]
   show 0+_=_
   rw[Nat.zero_add]
   rfl
 · intro r hr fs LF h hi
   rw[List.take_zero]at LF
   have hm:=(xV (hR r hr)).1 LF
   have EK:r.k=0:=by
    cases hk:r.k with
    | zero=>rfl
    | succ m=>
     rw[hk]at hm
     cases fs with
     | nil=>simp at hm
     | cons x _=>exact absurd (hm.2 x (by simp)) (by simp)
   have Cj:fs=[]:=by
    rw[EK]at hm
    exact List.eq_nil_of_length_eq_zero hm.1
   subst Cj
   rw[b1]
   refine b3 h (List.mem_flatMap.2 ⟨r,hr, ?_⟩)
   rw[if_pos EK,hi]
   simp
 · intro X hX hgX f hf
   rw[b1]at hf
   rcases List.mem_append.1 hf with hf | hf
   · exact hgX f ((mO f).1 hf)
   · obtain⟨r,hr,u9⟩:=List.mem_flatMap.1 (b2 f hf)
     by_cases hk:r.k=0
     · rw[if_pos hk]at u9
       have hi:r.inst []=some f:=by
        cases h:r.inst []with
        | none=>rw[h]at u9;simp at u9
        | some q=>rw[h]at u9;simp at u9;rw[u9]
       exact hX r hr [] (by rw[hk];rfl) (by simp) f hi
     · rw[if_neg hk]at u9
       simp at u9
end
end En
/- takeBodiless says what the rules without a body say. -/
namespace En
theorem Lf(r:Ax.bD):eG r=if (cS r).k=0 then ((cS r).inst []).toList else []:=by
 obtain⟨h,b⟩:=r
 cases b with
 | nil=>rfl
 | cons x b=>rfl
theorem tV:∀rs:List Ax.bD,rs.flatMap eG=Rz (rs.map cS)
 | []=>rfl
 | r::rs=>by
  have ih:=tV rs
  unfold Rz at ih ⊢
  rw[List.flatMap_cons,List.map_cons,List.flatMap_cons,ih,Lf]
end En
/- NoneHolds: empty tables. -/
section
open Go.RowKit Go.Maps Go.WideMaps Go.WideElems
def Dv(p:Pd.Pr)(g:Nat):HT:=⟨p.1,p.2,g,none,0,none,0,[],[]⟩
theorem wj(p:Pd.Pr)(g:Nat):(Dv p g).bY=[g]:=rfl
def gX(t:HT):Pd.Pr:=(t.nm,t.pl)
theorem Nf{w:World}{p:Pd.Pr}{g:Nat}(h:w.heap[g]?=some (.cells #[.string p.1,.int .i64 p.2,.slice none 0 0,.slice none 0 0] 117 (0,0))):(Dv p g).ok w:=⟨⟨h,⟨(by intro r hr;cases hr),World.ownsRow_nil _ _ _ _⟩,List.Pairwise.nil,by decide⟩,World.ownsRow_nil _ _ _ _⟩
structure kx(w wr:World)(mb k:Nat)(Q:List Pd.Pr)(T:List HT):Prop where
 map:∃D,wr.ownsMap Tryz.prog 9 cQ mb k D∧E5 D (T.map HT.pk)
 bR:∀t,t∈T→t.ok wr∧∃p g,t=Dv p g∧mb<g
 apart:T.Pairwise iM
 nf:T.map gX=(Q.take k).reverse
 aQ:Below w.heap.size w wr
 VJ:mb=w.heap.size
theorem Dn{w wr w3:World}{mb k:Nat}{Q:List Pd.Pr}{T:List HT}{o1:Obj}(h:kx w wr mb k Q T)(hk:k<Q.length){D:DataW Unit}(hD:E5 D (T.map HT.pk))(hm:IsMap D)
 (hw:w3.ownsMap Tryz.prog 9 cQ mb (k+1) (D.put (bh (Q[k]).1) (.lit (.int .i64 (wr.heap.size+1:Nat)))))(hg:((wr.alloc o1).alloc (.cells (match Q[k]with | p=>#[.string p.1,.int .i64 p.2,.slice none 0 0,.slice none 0 0]) 117)).grownBy w3 (some mb)):
 kx w w3 mb (k+1) Q (Dv Q[k] (wr.heap.size+1)::T):=by
 have fK:Kb [mb] ((wr.alloc o1).alloc (.cells (match Q[k]with | p=>#[.string p.1,.int .i64 p.2,.slice none 0 0,.slice none 0 0]) 117)) w3:=Kb.dV hg
 have cw:Below wr.heap.size wr ((wr.alloc o1).alloc (.cells (match Q[k]with | p=>#[.string p.1,.int .i64 p.2,.slice none 0 0,.slice none 0 0]) 117)):=((Below.refl _ _).alloc (Nat.le_refl _) _).alloc (by simp) _
 have hs:=h.aQ.size
 have aG:∀t,t∈T→∀b,b∈t.bY→b<wr.heap.size∧mb<b:=by
  intro t ht b hb
  obtain⟨dj,p,g,rfl,Vx⟩:=h.bR t ht
  refine⟨dj.lt hb, ?_⟩
  rw[wj,List.mem_singleton]at hb
  rw[hb];exact Vx
 have O6:=h.VJ
 refine⟨⟨_,hw,B3 hD hm _ _⟩, ?_, ?_, ?_, ?_,O6⟩
 · intro t ht
   rcases List.mem_cons.1 ht with rfl | ht
   · refine⟨Nf ?_,_,_,rfl,by omega⟩
     have:=fK.heap (pM wr o1 _) (by simp;omega)
     exact this
   · obtain⟨dj,p,g,e,Vx⟩:=h.bR t ht
     refine⟨(dj.below cw).kept fK ?_,p,g,e,Vx⟩
     intro b hb hc
     simp only[List.mem_singleton]at hc
     have:=(aG t ht b hb).2
     omega
 · refine List.pairwise_cons.2 ⟨?_,h.apart⟩
   intro t ht x hx Ck
   rw[wj,List.mem_singleton]at hx
   have:=(aG t ht x Ck).1
   omega
 · have e:Q.take (k+1)=Q.take k++[Q[k]]:=by rw[List.take_add_one,List.getElem?_eq_getElem hk];rfl
   rw[e,List.reverse_append,List.map_cons,h.nf]
   rfl
 · exact fK.aU (h.aQ.trans (cw.mono hs)) (by simp;omega) (by simp;omega)
theorem zb(w:World)(B:Nat)(qd:Option Addr)(qc:Nat)(Q:List Pd.Pr)(hq:w.ownsRow B 112 2 (.slice qd Q.length qc) Q.length (aF Q))(hl:Q.length≤1000)(hs:∀p,p∈Q→p.1.size≤1000000):
 Calls Tryz.prog 186 #[.slice qd Q.length qc] w fun e w'=>∃T,e=.returned (.map (some w.heap.size))∧kx w w' w.heap.size Q.length Q T:=by
 have VE:=@run_makeMap Tryz.prog
 have HS:Hid (∀p,p∈Q→p.1.size≤1000000):=hs
 clear hs
 go_enter Tryz.func186,Tryz.ntmps186
 go_wp2_with fail
 go_loopw [9] (fun i wr=>∃(k:Nat) (T:List HT),k≤Q.length∧i=.int .i64 k∧kx w wr w.heap.size k Q T) (fun i _=>Q.length-(intOf i).toNat)
 case atStart=>exact⟨0,[],Nat.zero_le _,rfl,⟨⟨_,World.ownsMap_made _ _ _ _,Be⟩,by simp,List.Pairwise.nil,by simp,(Below.refl _ _).alloc (Nat.le_refl _) _,rfl⟩⟩
 case round=>
  obtain⟨k,T,hk,rfl,hn⟩:=hrel
  obtain⟨D,au,hD⟩:=hn.map
  have HN:Hid (kx w wr w.heap.size k Q T):=hn
  have HD:Hid (E5 D (T.map HT.pk)):=hD
  have hDm:=au.isMap
  have O6:=au.lt
  have aV:=hn.aQ
  have cR:=aV.size
  have HB:Hid (Below w.heap.size w wr):=aV
  clear hD hn
  by_cases aG:k<Q.length
  · have bF:=ah hq aV
    obtain⟨g,rfl,hg,hc,br⟩:=aD bF (by omega)
    have gB:=br _ _ (aY Q k aG).1
    have gH:=br _ _ (aY Q k aG).2
    have sI:(Q[k]).1.size≤1000000:=HS.out _ (List.getElem_mem aG)
    have yk:Hid (∀w3 o1,w3.ownsMap Tryz.prog 9 cQ w.heap.size (k+1) (D.put (bh (Q[k]).1) (.lit (.int .i64 (wr.heap.size+1:Nat))))→((wr.alloc o1).alloc (.cells (match Q[k]with | p=>#[.string p.1,.int .i64 p.2,.slice none 0 0,.slice none 0 0]) 117)).grownBy w3 (some w.heap.size)→kx w w3 w.heap.size (k+1) Q (Dv Q[k] (wr.heap.size+1)::T)):=fun w3 o1 a b=>Dn HN.out aG HD.out hDm a b
    generalize Q[k]=x at gB gH sI yk
    have my:keyOf Tryz.prog 9 (.string x.1)=some (bh x.1):=keyOf_string_mk Tryz.underlying9 (by unfold maxLen;omega)
    have HK:Hid (keyOf Tryz.prog 9 (.string x.1)=some (bh x.1)):=my
    clear my br bF aV hq
    go_wp2_with (at_mapUpdate;go_must (refine wpList_mapUpdate_own _ rfl _ _ _ 103 rfl 9 97 Tryz.gJ Tryz.underlying103 _ w.heap.size k D rfl ((au.alloc _).alloc _) (by unfold maxLen;omega) _ _ (bh x.1) rfl rfl HK.out (.lit (.int .i64 (wr.heap.size+1:Nat))) [] (by rfl) ?_;intro w3 fF gG))
    go_roundw
    case rel=>exact⟨k+1,_,by omega,by go_num,yk.out _ _ fF gG⟩
    case measure=>simp[intOf];omega
  · have qH:k=Q.length:=by omega
    have HE:Hid (kx w wr w.heap.size Q.length Q T):=by rw[←qH];exact HN.out
    clear aV qH
    go_wp2_with fail
    go_ret
    exact⟨T,rfl,HE.out⟩
end
end Go.Proofs.YtdmicblafmhflaaGreatDoor
