/- Package follow: join for every atom; meet. -/
import Derived.Test.YtdmicblafmhflaaGreatDoorC06
import Derived.Shelf.SlSortCmp.WholeK
import Derived.Lib.Bytealg
import Derived.Laws.IdiomStrings
import Derived.Laws.Closers25b
import Derived.Deep.CutBlock
set_option linter.unusedSimpArgs false
set_option linter.unusedVariables false
set_option maxHeartbeats 4000000
set_option maxRecDepth 100000
namespace Go.Proofs.YtdmicblafmhflaaGreatDoor
open Go.Proofs.Tryz Go.RowKit
variable{l:List MR}{rc:Nat}{rd:Option Addr}{w:World}
section
open Go.RowKit Go.Maps Go.WideMaps Go.WideElems
open Go.Sort (grow)
theorem Bg{sb mb rv a ad ac bd bc body P z turn e}(t:P.length=e)(j:e<=999990)(q:turn<=10):∀(m i:Nat),i+m=body.length->KF sb mb rv a ad ac bd bc body P z turn e i
 | 0,i,h=>by
  have:i=body.length:=by omega
  subst this;exact Mg
 | m+1,i,h=>Oz (by omega) t j q (Bg t j q m (i+1) (by omega))
structure gW(w:World)(rd:Option Addr)(rc:Nat)(l:List MR):Prop where
 K5:bK w rd rc l
 head:∀r,r∈l->YQ r.head.1
 atoms:∀r,r∈l->∀x,x∈r.body->YQ x.1
 two:∀r,r∈l->r.body.length<=2
theorem gW.below{w'}(h:gW w rd rc l)(e:Below w.heap.size w w'):gW w' rd rc l:=⟨h.K5.below e,h.head,h.atoms,h.two⟩
theorem gW.search{w' sb mb rv fd fc T s y}(h:gW w rd rc l)(D:qp w sb mb rv fd fc T s)(hs:kj w w' sb mb rv fd fc T s y):gW w' rd rc l:=by
 have u:∀b i U,b∈eF sb fd fc s.found.length T->w.heap[b]?=some (.cells i U (0,0))->U=322\/U=325\/U=117\/U=119\/U=3:=by
  intro b i U j e;obtain⟨E,H,e',B⟩:=lW D j;rw[e]at e';simp only[AT,aa1]at e';rw[e'.2.1];exact B
 have t:∀b i,b∈eF sb fd fc s.found.length T->w.heap[b]?=some (.cells i 310 (0,0))->False:=by grind
 refine⟨⟨hs.kept.row h.K5.1 ?_,λr q=>⟨MA.J8 (h.K5.2.1 r q).1 hs.kept t,hs.kept.row (h.K5.2.1 r q).2.1 ?_,λx A=>MA.J8 ((h.K5.2.1 r q).2.2 x A) hs.kept t⟩,h.K5.2.2⟩,h.head,h.atoms,h.two⟩
 ·intro b j hm;obtain⟨i,e⟩:=aP h.K5.1 j;have:=u b i _ hm e;rcases this with e | e | e | e | e<;>cases e
 ·intro b j hm;obtain⟨i,e⟩:=aP (h.K5.2.1 r q).2.1 j;have:=u b i _ hm e;rcases this with e | e | e | e | e<;>cases e
theorem gW.at(h:gW w rd rc l){k}(j:k<l.length):
 ∃g a ad ac bd bc body,rd=some ⟨g,0,none⟩/\g<w.heap.size/\l.length<=rc/\w.cell? ⟨g,k*4,none⟩=some (.int .i64 (Ax.Atom.at_ a))/\w.cell? ⟨g,k*4+1,none⟩=some (.string a.pred)/\w.cell? ⟨g,k*4+2,none⟩=some (.slice ad a.af.length ac)/\
  w.cell? ⟨g,k*4+3,none⟩=some (.slice bd body.length bc)/\xB w a ad ac bd bc body/\(l[k]).aw=⟨a,List.map Prod.fst body⟩:=by
 obtain⟨g,rfl,u,x,e⟩:=aA h.K5.1;have hm:=IN j;have i:=h.K5.2.1 _ hm;have B:=h.head _ hm;have A:=h.atoms _ hm;have y:=h.two _ hm;obtain⟨c0,c1,c2,D⟩:=qY l k j;generalize l[k]=r at*;rcases r with⟨⟨a,E⟩,bv,body⟩;obtain⟨ad,c,t⟩:=ah i.1;obtain⟨bd,d,q⟩:=ah i.2.1;simp only at t q;subst t q;exact⟨g,a,ad,c,bd,d,body,rfl,u,x,e _ _ c0,e _ _ c1,e _ _ c2,e _ _ D,⟨i,B,A,y⟩,rfl⟩
end
/- Package follow: takeBodiless. -/
namespace En
def gI(r:Ax.aI):List ba:=if r.body=[]then [iG (val []) r.head]else []
end En
section
open Go.RowKit Go.Maps Go.WideMaps Go.WideElems
open Go.Sort (grow)
theorem D5(w sb mb rd rc l fd fc T){s}(h:qp w sb mb (.slice rd l.length rc) fd fc T s)(N:gW w rd rc l)(hp:∀r,r∈l->r.head.1.pred∈T.map HT.nm)(nX:l.length<=1000)
 (hF:s.found.length+l.length<=999990)(hC:∀f,s.count f+l.length<=1000000000000):
 Calls prog 188 #[.pointer (some ⟨sb,0,none⟩)] w λe w'=>e=.returned (.tuple #[])/\kj w w' sb mb (.slice rd l.length rc) fd fc T s (En.holds s ((l.map MR.aw).flatMap En.gI)):=by
 have s0:=mA h.aY;have VE:sb<w.heap.size:=lt_of_heap h.aY;have hle:=aH N.K5.1;have Z:=aj h;have HL:=aj N;have HP:=aj hp;have HF:=aj hF;have HC:=aj hC;have eB:Hid (∀k,(((l.take k).map MR.aw).flatMap En.gI).length<=k):=by
  intro k;have:∀q:List MR,((q.map MR.aw).flatMap En.gI).length<=q.length:=by
   intro q
   induction q with
   | nil=>simp
   | cons r q ih=>
    simp only[abn,aaW,If,abL];have:(En.gI r.aw).length<=1:=by unfold En.gI;split<;>simp
    omega
  have:=this (l.take k);rw[abv]at this;omega
 clear h N hp hF hC
 go_enter func188,ntmps188
 go_wp2_with fail
 go_loopw [9] (λiv wr=>∃k:Nat,k<=l.length/\iv=.int .i64 k/\kj w wr sb mb (.slice rd l.length rc) fd fc T s (En.holds s (((l.take k).map MR.aw).flatMap En.gI))) (λiv _=>l.length-(intOf iv).toNat)
 ·exact⟨0,IS _,rfl,kj.refl Z.out⟩
 ·
  obtain⟨k,hk,rfl,y⟩:=hrel;have j:=aj y;clear y;by_cases V:k<l.length
  ·have I:=HL.out.search Z.out j.out;obtain⟨g,a,ad,ac,bd,bc,body,rfl,hg,kW,d0,d1,d2,d3,E,D⟩:=I.at V;have LD:((l.take (k+1)).map MR.aw).flatMap En.gI=((l.take k).map MR.aw).flatMap En.gI++En.gI ⟨a,List.map Prod.fst body⟩:=by
    rw[acI V,aa6,abQ,aes,List.flatMap_singleton,D]
   have gT:=aj LD;clear LD;have X:=HP.out _ (IN V);have H:a.pred∈T.map HT.nm:=by
    have:(l[k]).head.1=a:=by
     have:=abu Ax.aI.head D;exact this
    rw[<-this];exact X
   have uP:=eB.out k;have Zb:=HF.out;have Y:=HC.out;by_cases i:body.length=0
   ·have u:En.gI ⟨a,List.map Prod.fst body⟩=[En.iG (En.val []) a]:=by
     have:body=[]:=abR i;subst this;rfl
    obtain⟨Jn,JC,T1,M,J,AF⟩:=j.out.on;have qH:=En.mP (((l.take k).map MR.aw).flatMap En.gI) s;obtain⟨A,t,B,O,S3⟩:=nJ (T:=T1) (p:=a.pred) (by rw[kE J];exact H);subst O;have rk:Hid (∀W:World,Below wr.heap.size wr W->Calls prog 231 #[.pointer (some ⟨sb,0,none⟩),.agg #[.int .i64 a.at_,.string a.pred,.slice ad a.af.length ac,.slice bd body.length bc],.agg #[.int .i64 0,.string ⟨#[]⟩,.string ⟨#[]⟩,.string ⟨#[]⟩,.string ⟨#[]⟩,.string ⟨#[]⟩,.string ⟨#[]⟩,.string ⟨#[]⟩,.string ⟨#[]⟩,.string ⟨#[]⟩,.string ⟨#[]⟩,.string ⟨#[]⟩,.string ⟨#[]⟩]] W λe w'=>e=.returned (.tuple #[])/\kj w w' sb mb (.slice (some ⟨g,0,none⟩) l.length rc) fd fc T s (En.holds s (((l.take (k+1)).map MR.aw).flatMap En.gI))):=by
     intro W x;have:=tB W sb mb _ Jn JC A B t _ (M.below x) (by omega) (λf=>by have h1:=En.iz (((l.take k).map MR.aw).flatMap En.gI) s f;have h2:=Y f;omega) a ad ac (E.below x).mr.1 E.head S3 [] 0 _ _ KK bd body.length bc rfl;refine this.mono ?_;rintro e w' ⟨rfl,y⟩;refine⟨rfl, ?_⟩;rw[gT.out,u,En.kt];exact kj.trans Z.out (M.below x) J AF (j.out.kept.below x) (j.out.post x).cells qH.1 y
    have U:((body.length:Int)==0)=true:=by simp[i]
    clear i u M AF J qH S3 E I D X H uP Zb Y
    go_wp2_with (go_at_call 231;refine(rk.out _ (by exact aM)).mono ?_;rintro e w6 ⟨rfl,vB⟩;have Yz:=aj vB;clear vB)
    go_roundw
    ·exact⟨k+1,by omega,by go_num,Yz.out⟩
    ·simp[intOf];omega
   ·have u:En.gI ⟨a,List.map Prod.fst body⟩=[]:=by
     unfold En.gI;rw[aaD];intro e;have:=abu List.length e;simp at this;exact i (by rw[this];rfl)
    have UN:Hid (kj w (wr.alloc (.cells #[.int .i64 a.at_,.string a.pred,.slice ad a.af.length ac,.slice bd body.length bc] 222)) sb mb (.slice (some ⟨g,0,none⟩) l.length rc) fd fc T s (En.holds s (((l.take (k+1)).map MR.aw).flatMap En.gI))):=by
     rw[gT.out,u,aby];exact j.out.post aM
    have U:((body.length:Int)==0)=false:=by simp only[ab1];omega
    have alm:¬(body.length=0):=i;clear i u E I D X H uP Zb Y
    go_wp2_with fail
    go_roundw
    ·exact⟨k+1,by omega,by go_num,UN.out⟩
    ·simp[intOf];omega
  ·have U5:k=l.length:=by omega
   have qo:Hid (kj w wr sb mb (.slice rd l.length rc) fd fc T s (En.holds s ((l.map MR.aw).flatMap En.gI))):=by
    have:=j.out;rw[U5,abS]at this;exact this
   clear U5
   go_wp2_with fail
   go_end0;exact⟨rfl,qo.out⟩
end
/- Package follow: meet. -/
section
open Go.RowKit Go.Maps Go.WideMaps Go.WideElems
open Go.Sort (grow)
theorem J4{m j}(h:j<m):(List.range m).take (j+1)=(List.range m).take j++[j]:=by
 rw[acI (by simpa using h)];simp
theorem PU(w sb mb rd rc l fd fc T s)(h:qp w sb mb (.slice rd l.length rc) fd fc T s)(X:gW w rd rc l)(hp:∀r,r∈l->r.head.1.pred∈T.map HT.nm)(nX:l.length<=1000)
 (P z t)(Ez:P.length=t)(hnw:t<s.found.length)(XG:s.found.take (t+1)=P++[z])
 (hF:s.found.length+((l.map MR.aw).flatMap (En.cM P z)).length<=999990)(hC:∀f,s.count f+((l.map MR.aw).flatMap (En.cM P z)).length<=1000000000000):
 Calls prog 189 #[.pointer (some ⟨sb,0,none⟩),.int .i64 t] w λe w'=>e=.returned (.tuple #[])/\kj w w' sb mb (.slice rd l.length rc) fd fc T s (En.holds s ((l.map MR.aw).flatMap (En.cM P z))):=by
 have s0:=mA h.aY;have VE:sb<w.heap.size:=lt_of_heap h.aY;have hle:=aH X.K5.1;have HH:=aj h;have HL:=aj X;have HP:=aj hp;have HF:=aj hF;have HC:=aj hC;have HPZ:=aj XG;have LC:=aj Ez;have qt:t<=999990:=by omega
 clear h X hp hF hC XG Ez
 go_enter func189,ntmps189
 go_wp2_with fail
 go_loopw [12] (λiv wr=>∃k:Nat,k<=l.length/\iv=.int .i64 k/\kj w wr sb mb (.slice rd l.length rc) fd fc T s (En.holds s (((l.take k).map MR.aw).flatMap (En.cM P z)))) (λiv _=>l.length-(intOf iv).toNat)
 ·exact⟨0,IS _,rfl,kj.refl HH.out⟩
 ·
  obtain⟨k,hk,rfl,I⟩:=hrel;have y:=aj I;clear I;by_cases aL:k<l.length
  ·have mU:=HL.out.search HH.out y.out;obtain⟨g,a,ad,ac,bd,bc,body,rfl,hg,kW,d0,d1,d2,d3,Lo,dh⟩:=mU.at aL;have LD:((l.take (k+1)).map MR.aw).flatMap (En.cM P z)=((l.take k).map MR.aw).flatMap (En.cM P z)++En.cM P z ⟨a,List.map Prod.fst body⟩:=by
    rw[acI aL,aa6,abQ,aes,List.flatMap_singleton,dh]
   have gT:=aj LD;have WL:=HP.out _ (IN aL);have mo:a.pred∈T.map HT.nm:=by
    have:(l[k]).head.1=a:=abu Ax.aI.head dh;rw[<-this];exact WL
   have A:((l.take (k+1)).map MR.aw).flatMap (En.cM P z)=((l.map MR.aw).take (k+1)).flatMap (En.cM P z):=by rw[List.map_take]
   have N:=ng (En.cM P z) (l.map MR.aw) (k+1);rw[<-A,LD,If]at N;have i:En.cM P z ⟨a,List.map Prod.fst body⟩=(List.range body.length).flatMap λturn=>En.jn P z turn a 0 (body.map Prod.fst) []:=by
    unfold En.cM;simp
   rw[i]at N;have HJT:=aj i;have ag3:=aj N;have h2:=Lo.two;obtain⟨Jn,JC,T1,W,mF,AF⟩:=y.out.on;have qH:=En.mP (((l.take k).map MR.aw).flatMap (En.cM P z)) s;have LP:=aj qH;obtain⟨w1,M⟩:∃w1,w1=wr.alloc (.cells #[.int .i64 a.at_,.string a.pred,.slice ad a.af.length ac,.slice bd body.length bc] 222):=⟨_,rfl⟩;have J:Below wr.heap.size wr w1:=by rw[M];exact aM
   have Wl:w1.heap[wr.heap.size]?=some (.cells #[.int .i64 a.at_,.string a.pred,.slice ad a.af.length ac,.slice bd body.length bc] 222 (0,0)):=by rw[M];exact By wr _
   have O:Hid (qp w1 sb mb (.slice (some ⟨g,0,none⟩) l.length rc) Jn JC T1 (En.holds s (((l.take k).map MR.aw).flatMap (En.cM P z)))):=W.below J;have H:=aj W;have Av:Hid (xB w1 a ad ac bd bc body):=Lo.below J;have ZG:=aj Wl;have V:=aj J;have B:=aj mF;have G7:=aj AF;have HPA:=aj mo;have E6:wr.heap.size<w1.heap.size:=lt_of_heap Wl;clear Lo mU dh WL mo A N i LD W qH AF mF Wl;obtain⟨wA,NP⟩:∃x,x=wr:=⟨wr,rfl⟩
   go_upto_region 4 with fail
   rw[<-M];clear M J;rw[<-NP];rw[<-NP]at y H ZG V E6;clear d0 d1 d2 d3 hg NP
   go_loopw [19] (λU w2=>∃j:Nat,j<=body.length/\U=.int .i64 j/\kj w1 w2 sb mb (.slice (some ⟨g,0,none⟩) l.length rc) Jn JC T1 (En.holds s (((l.take k).map MR.aw).flatMap (En.cM P z))) (En.holds (En.holds s (((l.take k).map MR.aw).flatMap (En.cM P z))) (((List.range body.length).take j).flatMap λturn=>En.jn P z turn a 0 (body.map Prod.fst) []))) (λU _=>body.length-(intOf U).toNat)
   ·exact⟨0,IS _,rfl,kj.refl O.out⟩
   ·
    obtain⟨j,hj,rfl,VB⟩:=hrel;have u:=aj VB;clear VB;have q:wr.heap[wA.heap.size]?=some (.cells #[.int .i64 a.at_,.string a.pred,.slice ad a.af.length ac,.slice bd body.length bc] 222 (0,0)):=u.out.kept.heap ZG.out (λhc=>by have:=sq H.out hc;omega);by_cases Y:j<body.length
    ·obtain⟨fd2,fc2,T2,EN,Oi,E⟩:=u.out.on;have WB:(((List.range body.length).take (j+1)).flatMap λturn=>En.jn P z turn a 0 (body.map Prod.fst) [])=(((List.range body.length).take j).flatMap λturn=>En.jn P z turn a 0 (body.map Prod.fst) [])++En.jn P z j a 0 (body.map Prod.fst) []:=by
      rw[J4 Y,abQ,List.flatMap_singleton]
     have D:=ng (λturn=>En.jn P z turn a 0 (body.map Prod.fst) []) (List.range body.length) (j+1);rw[WB,If]at D;have Pc:=En.mP (((List.range body.length).take j).flatMap λturn=>En.jn P z turn a 0 (body.map Prod.fst) []) (En.holds s (((l.take k).map MR.aw).flatMap (En.cM P z)));have GO:=LP.out;have hL2:=ag3.out;have Zb:=HF.out;have I4:=HC.out;have JU:=(Bg (sb:=sb) (mb:=mb) (rv:=(.slice (some ⟨g,0,none⟩) l.length rc)) (a:=a) (ad:=ad) (ac:=ac) (bd:=bd) (bc:=bc) (body:=body) (P:=P) (z:=z) (turn:=j) LC.out qt (by omega) body.length 0 (by omega)) wr fd2 fc2 T2 _ [] 0 _ _ EN (Av.out.search O.out u.out) KK (by omega) (by rw[kE Oi,kE B.out];exact HPA.out) (by omega) (by rw[En.rL _ _ (by omega),En.rL _ _ (by omega)];exact HPZ.out) (by rw[aeN];omega) (λf=>by have h1:=En.iz (((List.range body.length).take j).flatMap λturn=>En.jn P z turn a 0 (body.map Prod.fst) []) (En.holds s (((l.take k).map MR.aw).flatMap (En.cM P z))) f;have h3:=En.iz (((l.take k).map MR.aw).flatMap (En.cM P z)) s f;have h4:=I4 f;rw[aeN];omega);rw[aeN]at JU;have CH:Hid (Calls prog 232 #[.pointer (some ⟨sb,0,none⟩),.agg #[.int .i64 a.at_,.string a.pred,.slice ad a.af.length ac,.slice bd body.length bc],.int .i64 0,.int .i64 j,.int .i64 t,.agg #[.int .i64 0,.string ⟨#[]⟩,.string ⟨#[]⟩,.string ⟨#[]⟩,.string ⟨#[]⟩,.string ⟨#[]⟩,.string ⟨#[]⟩,.string ⟨#[]⟩,.string ⟨#[]⟩,.string ⟨#[]⟩,.string ⟨#[]⟩,.string ⟨#[]⟩,.string ⟨#[]⟩]] wr λe w'=>e=.returned (.tuple #[])/\kj w1 w' sb mb (.slice (some ⟨g,0,none⟩) l.length rc) Jn JC T1 (En.holds s (((l.take k).map MR.aw).flatMap (En.cM P z))) (En.holds (En.holds s (((l.take k).map MR.aw).flatMap (En.cM P z))) (((List.range body.length).take (j+1)).flatMap λturn=>En.jn P z turn a 0 (body.map Prod.fst) []))):=by
      refine JU.mono ?_;rintro e w' ⟨rfl,I⟩;refine⟨rfl, ?_⟩;rw[WB,En.kt];exact kj.trans O.out EN Oi E u.out.kept u.out.cells Pc.1 I
     have r0:=mA q;have r1:=ow q;have r2:=rq q;have r3:=E4 q;have u1:wA.heap.size<wr.heap.size:=lt_of_heap q;clear JU EN Oi E WB D Pc GO hL2 Zb I4 q
     go_wp2_with (go_at_call 232;refine CH.out.mono ?_;rintro e w6 ⟨rfl,vB⟩;have Yz:=aj vB;clear vB)
     go_roundw
     ·exact⟨j+1,by omega,by go_num,Yz.out⟩
     ·simp[intOf];omega
    ·have Z:j=body.length:=by omega
     have uS:Hid (kj w wr sb mb (.slice (some ⟨g,0,none⟩) l.length rc) fd fc T s (En.holds s (((l.take (k+1)).map MR.aw).flatMap (En.cM P z)))):=by
      have h1:=u.out;have e1:(List.range body.length).take j=List.range body.length:=aaP (by simp;omega);rw[e1,<-HJT.out]at h1;rw[gT.out,En.kt];exact kj.trans HH.out O.out B.out G7.out (y.out.kept.below V.out) (y.out.post V.out).cells LP.out.1 h1
     clear Z q
     go_wp2_with fail
     go_roundw
     ·exact⟨k+1,by omega,by go_num,uS.out⟩
     ·simp[intOf];omega
  ·have U5:k=l.length:=by omega
   have qo:Hid (kj w wr sb mb (.slice rd l.length rc) fd fc T s (En.holds s ((l.map MR.aw).flatMap (En.cM P z)))):=by
    have:=y.out;rw[U5,abS]at this;exact this
   clear U5
   go_wp2_with fail
   go_end0;exact⟨rfl,qo.out⟩
end
/- The rules of axiomkeep's text are fit for the search. -/
theorem Jt{P z}(i:∀r,r∈l->r.body.length<=2):(l.map MR.aw).flatMap (En.cM P z)=En.mG ((l.map MR.aw).map En.dy) P z:=by
 refine En.sH P z _ ?_;intro r e;obtain⟨m,hm,rfl⟩:=aax.1 e;simpa [MR.aw]using i m hm
/- The search's beginning: what is given, and the rules without a body. No program here. -/
namespace En
section
variable {F:Type} [DecidableEq F]
def cL:dH F:=⟨[],λ_=>0⟩
def db(s:dH F)(l:List F):dH F:=l.foldl (λs f=>hold s f 0) s
theorem rF(s:dH F)(f l):db s (f::l)=db (hold s f 0) l:=rfl
theorem CT(s:dH F)(a b):db s (a++b)=db (db s a) b:=by simp[db]
theorem QT{s:dH F}{f g n}:g∈(hold s f n).found↔g=f\/g∈s.found:=by
 obtain⟨t,e,j,i⟩:=zb s f n;rw[e,ZD];constructor
 ·grind
 ·grind
theorem rI:∀(l:List F) (s:dH F),(∀g,g∈(db s l).found↔g∈s.found\/g∈l)/\(s.found.Nodup->(db s l).found.Nodup)/\∀g,(db s l).count g=s.count g
 | [],s=>⟨λg=>by simp[db],λh=>h,λg=>rfl⟩
 | f::l,s=>by
  obtain⟨j,i,e⟩:=rI l (hold s f 0);rw[rF];refine⟨λg=>?_,λh=>i (yU h f 0),λg=>?_⟩
  ·rw[j,QT,BY];constructor
   ·rintro((h | h) | h)
    ·exact .inr (.inl h)
    ·exact .inl h
    ·exact .inr (.inr h)
   ·rintro(h | h | h)
    ·exact .inl (.inr h)
    ·exact .inl (.inl h)
    ·exact .inr h
  ·rw[e,jk];simp
def Vy(R:List (eC F)):List F:=R.flatMap λr=>if r.k=0 then (r.inst []).toList else []
theorem CF(h):∀R:List (eC F),(∀r,r∈R->r.k<=2)->total R [] h=dW (Vy R) h
 | [],_=>rfl
 | r::R,i=>by
  have ih:=CF h R (λq j=>i q (by simp[j]));unfold total Vy at*;simp only[abn,aee,aaW];rw[ih];have e:kx r (iQ r.k []) h=dW (if r.k=0 then (r.inst []).toList else []) h:=by
   have t:=i r (by simp);have:r.k=0\/r.k=1\/r.k=2:=by omega
   rcases this with e | e | e
   ·rw[e];simp only[iQ,if_true,CX,List.filterMap_cons,List.filterMap_nil];cases r.inst []<;>rfl
   ·rw[e];simp[iQ,CX,dW]
   ·rw[e];simp[iQ,CX,dW]
  rw[e];unfold dW;rw[List.count_append]
theorem Ci(R:List (eC F))(y:∀r,r∈R->r.k<=2)(gl:List F):Inv R (·∈gl) (holds (db cL gl) (Vy R)) 0:=by
 obtain⟨N,M,J⟩:=rI gl (cL (F:=F));obtain⟨t,b1,b2,I,H,E⟩:=ia (Vy R) (db cL gl);have B:∀f,f∈(db cL gl).found↔f∈gl:=λf=>by
  rw[N];simp[cL]
 refine⟨H (M (by simp[cL])), ?_, ?_, ?_, ?_⟩
 ·grind
 ·intro h;rw[List.take_zero,CF h R y,E,J];show 0+_=_;rw[acm];rfl
 ·intro r j fs A h u;rw[List.take_zero]at A;have hm:=(oI (y r j)).1 A;have U:r.k=0:=by
   cases i:r.k with
   | zero=>rfl
   | succ m=>
    rw[i]at hm;cases fs with
    | nil=>simp at hm
    | cons x _=>exact absurd (hm.2 x (by simp)) (by simp)
  have O:fs=[]:=by grind
  subst O;rw[b1];refine I h (aa9.2 ⟨r,j, ?_⟩);rw[aa3 U,u];simp
 ·intro X D w f e;rw[b1]at e;rcases ZD.1 e with e | e
  ·exact w f ((B f).1 e)
  ·obtain⟨r,j,q⟩:=aa9.1 (b2 f e);by_cases i:r.k=0
   ·rw[aa3 i]at q;have u:r.inst []=some f:=by grind
    exact D r j [] (by rw[i];rfl) (by simp) f u
   ·rw[aaD i]at q;simp at q
end
end En
/- takeBodiless says what the rules without a body say. -/
namespace En
theorem Nl(r):gI r=if (dy r).k=0 then ((dy r).inst []).toList else []:=by
 obtain⟨h,b⟩:=r;cases b with
 | nil=>rfl
 | cons x b=>rfl
theorem pX:∀rs:List Ax.aI,rs.flatMap gI=Vy (rs.map dy)
 | []=>rfl
 | r::rs=>by
  have ih:=pX rs;unfold Vy at ih ⊢;rw[aaW,abn,aaW,ih,Nl]
end En
/- NoneHolds: empty tables. -/
section
open Go.RowKit Go.Maps Go.WideMaps Go.WideElems
def FE(p:Pd.Pr)(g:Nat):HT:=⟨p.1,p.2,g,none,0,none,0,[],[]⟩
theorem zD(p g):(FE p g).cD=[g]:=rfl
def mK(t:HT):Pd.Pr:=(t.nm,t.pl)
theorem On{p g}(h:w.heap[g]?=some (.cells #[.string p.1,.int .i64 p.2,.slice none 0 0,.slice none 0 0] 117 (0,0))):(FE p g).ok w:=⟨⟨h,⟨(by intro r e;cases e),aaM _ _ _ _⟩,List.Pairwise.nil,by decide⟩,aaM _ _ _ _⟩
structure mq(w wr:World)(mb k:Nat)(Q:List Pd.Pr)(T:List HT):Prop where
 map:∃D,wr.ownsMap prog 9 cU mb k D/\OG D (T.map HT.pk)
 cK:∀t,t∈T->t.ok wr/\∃p g,t=FE p g/\mb<g
 apart:T.Pairwise re
 mx:T.map mK=(Q.take k).reverse
 be:Below w.heap.size w wr
 V9:mb=w.heap.size
theorem EY{wr q mb k Q T u}(h:mq w wr mb k Q T)(M:k<Q.length){D}(U:OG D (T.map HT.pk))(hm:IsMap D)
 (J:q.ownsMap prog 9 cU mb (k+1) (D.put (bj (Q[k]).1) (.lit (.int .i64 (wr.heap.size+1:Nat)))))(N:((wr.alloc u).alloc (.cells (match Q[k]with | p=>#[.string p.1,.int .i64 p.2,.slice none 0 0,.slice none 0 0]) 117)).grownBy q (some mb)):
 mq w q mb (k+1) Q (FE Q[k] (wr.heap.size+1)::T):=by
 have y:Kb [mb] ((wr.alloc u).alloc (.cells (match Q[k]with | p=>#[.string p.1,.int .i64 p.2,.slice none 0 0,.slice none 0 0]) 117)) q:=Kb.eS N;have E:Below wr.heap.size wr ((wr.alloc u).alloc (.cells (match Q[k]with | p=>#[.string p.1,.int .i64 p.2,.slice none 0 0,.slice none 0 0]) 117)):=aM.alloc (by simp) _;have hs:=h.be.size;have H:∀t,t∈T->∀b,b∈t.cD->b<wr.heap.size/\mb<b:=by
  intro t i b j;obtain⟨A,p,g,rfl,B⟩:=h.cK t i;refine⟨A.lt j, ?_⟩;rw[zD,aae]at j;rw[j];exact B
 have W:=h.V9;refine⟨⟨_,J,DM U hm⟩, ?_, ?_, ?_, ?_,W⟩
 ·intro t i;rcases BY.1 i with rfl | i
  ·refine⟨On ?_,_,_,rfl,by omega⟩;have:=y.heap (nH wr u _) (by simp;omega);exact this
  ·obtain⟨A,p,g,e,B⟩:=h.cK t i;refine⟨(A.below E).kept y ?_,p,g,e,B⟩;intro b j O;simp only[aae]at O;have:=(H t i b j).2;omega
 ·refine acJ.2 ⟨?_,h.apart⟩;intro t i x I V;rw[zD,aae]at I;have:=(H t i x V).1;omega
 ·have e:Q.take (k+1)=Q.take k++[Q[k]]:=by rw[aaZ,AS M];rfl
  rw[e,List.reverse_append,abn,h.mx];rfl
 ·exact y.aQ (h.be.trans (E.mono hs)) (by simp;omega) (by simp;omega)
theorem AA(w B H I Q)(O:w.ownsRow B 112 2 (.slice H Q.length I) Q.length (aW Q))(hl:Q.length<=1000)(hs:∀p,p∈Q->p.1.size<=1000000):
 Calls prog 186 #[.slice H Q.length I] w λe w'=>∃T,e=.returned (.map (some w.heap.size))/\mq w w' w.heap.size Q.length Q T:=by
 have YI:=@run_makeMap prog;have HS:=aj hs;clear hs
 go_enter func186,ntmps186
 go_wp2_with fail
 go_loopw [9] (λi wr=>∃(k:Nat) (T:List HT),k<=Q.length/\i=.int .i64 k/\mq w wr w.heap.size k Q T) (λi _=>Q.length-(intOf i).toNat)
 ·exact⟨0,[],IS _,rfl,⟨⟨_,World.ownsMap_made _ _ _ _,DT⟩,by simp,List.Pairwise.nil,by simp,aM,rfl⟩⟩
 ·
  obtain⟨k,T,hk,rfl,t⟩:=hrel;obtain⟨D,E,U⟩:=t.map;have X:=aj t;have HD:=aj U;have y:=E.isMap;have R9:=E.lt;have q:=t.be;have cp:=q.size;have HB:=aj q;clear U t;by_cases u:k<Q.length
  ·have V:=ae O q;obtain⟨g,rfl,hg,hc,A⟩:=aA V;have Z:=A _ _ (bN Q k u).1;have Y:=A _ _ (bN Q k u).2;have As:(Q[k]).1.size<=1000000:=HS.out _ (IN u);have N:Hid (∀j J,j.ownsMap prog 9 cU w.heap.size (k+1) (D.put (bj (Q[k]).1) (.lit (.int .i64 (wr.heap.size+1:Nat))))->((wr.alloc J).alloc (.cells (match Q[k]with | p=>#[.string p.1,.int .i64 p.2,.slice none 0 0,.slice none 0 0]) 117)).grownBy j (some w.heap.size)->mq w j w.heap.size (k+1) Q (FE Q[k] (wr.heap.size+1)::T)):=λj J a b=>EY X.out u HD.out y a b;generalize Q[k]=x at Z Y As N;have M:keyOf prog 9 (.string x.1)=some (bj x.1):=keyOf_string_mk abK eI;have HK:=aj M;clear M A V q O
   go_wp2_with (at_mapUpdate;go_must (refine aeA _ rfl _ _ _ 103 rfl 9 97 Tryz.fU adV _ w.heap.size k D rfl ((E.alloc _).alloc _) eI _ _ (bj x.1) rfl rfl HK.out (.lit (.int .i64 (wr.heap.size+1:Nat))) [] (by rfl) ?_;intro j cm dk))
   go_roundw
   ·exact⟨k+1,_,by omega,by go_num,N.out _ _ cm dk⟩
   ·simp[intOf];omega
  ·have W:k=Q.length:=by omega
   have HE:Hid (mq w wr w.heap.size Q.length Q T):=by rw[<-W];exact X.out
   clear q W
   go_wp2_with fail
   go_ret;exact⟨T,rfl,HE.out⟩
end
/- slices.SortFunc at predicates. -/
section
open Go.Shelf Go.RowKit
open Go.Sort (grow PermIn SortedIn SWO flatK get_flatK size_flatK HoldsK)
def SD:Ren:=⟨λ| 6=>113 | 15=>191 | 14=>190 | 28=>241 | 29=>242 | 20=>233 | 21=>234 | 22=>235 | 23=>236 | 24=>237 | 25=>238 | 26=>239 | 27=>240 | 46=>267 | 47=>268 | 48=>269 | 49=>270 | 50=>271 | 57=>288 | n=>n,λ| 22=>144 | 24=>112 | 25=>226 | 3=>3 | 39=>246 | 0=>0 | 53=>228 | 55=>285 | 4=>4 | 46=>373 | 45=>372 | 50=>129 | 5=>5 | 9=>9 | 66=>396 | 70=>400 | 76=>422 | 77=>288 | n=>n,λn=>n⟩
theorem Qs:SlLaysF0.n6 prog SD where
 mixed:=by kernel_rfl
 f6:=⟨(Tryz.f113).name,by kernel_rfl,func113.trans (abu some (by kernel_rfl))⟩
 f14:=⟨(Tryz.f190).name,by kernel_rfl,func190.trans (abu some (by kernel_rfl))⟩
 f15:=func191.trans (abu some (by kernel_rfl))
 f20:=⟨(Tryz.f233).name,by kernel_rfl,func233.trans (abu some (by kernel_rfl))⟩
 f21:=⟨(Tryz.f234).name,by kernel_rfl,func234.trans (abu some (by kernel_rfl))⟩
 f22:=⟨(Tryz.f235).name,by kernel_rfl,func235.trans (abu some (by kernel_rfl))⟩
 f23:=⟨(Tryz.f236).name,by kernel_rfl,func236.trans (abu some (by kernel_rfl))⟩
 f24:=⟨(Tryz.f237).name,by kernel_rfl,func237.trans (abu some (by kernel_rfl))⟩
 f25:=⟨(Tryz.f238).name,by kernel_rfl,func238.trans (abu some (by kernel_rfl))⟩
 f26:=⟨(Tryz.f239).name,by kernel_rfl,func239.trans (abu some (by kernel_rfl))⟩
 f27:=⟨(Tryz.f240).name,by kernel_rfl,func240.trans (abu some (by kernel_rfl))⟩
 f28:=func241.trans (abu some (by kernel_rfl))
 f29:=func242.trans (abu some (by kernel_rfl))
 f46:=⟨(Tryz.f267).name,by kernel_rfl,func267.trans (abu some (by kernel_rfl))⟩
 f47:=func268.trans (abu some (by kernel_rfl))
 f48:=func269.trans (abu some (by kernel_rfl))
 f49:=⟨(Tryz.f270).name,by kernel_rfl,func270.trans (abu some (by kernel_rfl))⟩
 f50:=⟨(Tryz.f271).name,by kernel_rfl,func271.trans (abu some (by kernel_rfl))⟩
 f57:=⟨(Tryz.f288).name,by kernel_rfl,func288.trans (abu some (by kernel_rfl))⟩
 t0:=Tryz.underlying0
 a0:=Tryz.isAgg0
 z0:=Tryz.sizeOf0
 v0:=Tryz.zeroValue0
 t3:=ade
 a3:=Tryz.isAgg3
 z3:=Tryz.sizeOf3
 v3:=Tryz.zeroValue3
 t4:=Tryz.underlying4
 a4:=Tryz.isAgg4
 z4:=Tryz.sizeOf4
 v4:=Tryz.zeroValue4
 t5:=adY
 a5:=Tryz.isAgg5
 z5:=Tryz.sizeOf5
 v5:=Tryz.zeroValue5
 t9:=abK
 a9:=Tryz.isAgg9
 z9:=Tryz.sizeOf9
 v9:=Tryz.zeroValue9
 t22:=Tryz.underlying144
 a22:=Tryz.isAgg144
 z22:=Tryz.sizeOf144
 v22:=Tryz.zeroValue144
 t25:=Tryz.underlying226
 a25:=Tryz.isAgg226
 z25:=Tryz.sizeOf226
 v25:=Tryz.zeroValue226
 t39:=Tryz.underlying246
 a39:=Tryz.isAgg246
 z39:=Tryz.sizeOf246
 v39:=Tryz.zeroValue246
 t45:=Tryz.underlying372
 a45:=Tryz.isAgg372
 z45:=Tryz.sizeOf372
 v45:=Tryz.zeroValue372
 t46:=Tryz.underlying373
 a46:=Tryz.isAgg373
 z46:=Tryz.sizeOf373
 v46:=Tryz.zeroValue373
 t50:=Tryz.underlying129
 a50:=Tryz.isAgg129
 z50:=Tryz.sizeOf129
 v50:=Tryz.zeroValue129
 t53:=Tryz.underlying228
 a53:=Tryz.isAgg228
 z53:=Tryz.sizeOf228
 v53:=Tryz.zeroValue228
 t55:=Tryz.underlying285
 a55:=Tryz.isAgg285
 z55:=Tryz.sizeOf285
 v55:=Tryz.zeroValue285
 t66:=Tryz.underlying396
 a66:=Tryz.isAgg396
 z66:=Tryz.sizeOf396
 v66:=Tryz.zeroValue396
 t70:=Tryz.underlying400
 a70:=Tryz.isAgg400
 z70:=Tryz.sizeOf400
 v70:=Tryz.zeroValue400
 t76:=Tryz.underlying422
 a76:=Tryz.isAgg422
 z76:=Tryz.sizeOf422
 v76:=Tryz.zeroValue422
 t77:=Tryz.underlying288
 a77:=Tryz.isAgg288
 z77:=Tryz.sizeOf288
 v77:=Tryz.zeroValue288
theorem oe:∀(a b:List UInt8),Lib.compareBytes a b=if a<b then-1 else if b<a then 1 else 0
 | [],[]=>by simp[Lib.compareBytes]
 | [],_::_=>by simp[Lib.compareBytes]
 | _::_,[]=>by simp[Lib.compareBytes]
 | a::u,b::v=>by
  unfold Lib.compareBytes;rw[oe u v];by_cases i:a<b
  ·simp[i,List.cons_lt_cons_iff]
  ·by_cases q:b<a
   ·have j:¬a=b:=λe=>by subst e;exact i q
    simp[i,q,j,List.cons_lt_cons_iff]
   ·have j:a=b:=UInt8.le_antisymm (UInt8.not_lt.1 q) (UInt8.not_lt.1 i);subst j;simp[List.cons_lt_cons_iff]
theorem tA(a b):Lib.compareBytes a.data.toList b.data.toList=Tb.iO a b:=by
 rw[oe,<-aeI,<-aeI];unfold Tb.iO;simp only[Tb.nz]
theorem Aq(a b w):Calls prog 192 #[.string a,.string b] w λe w'=>e=.returned (.int .i64 (Tb.iO a b))/\w'=w:=by
 go_enter func192,ntmps192
 go_wp2
 rw[run_callFunc_extern func243 (by kernel_rfl) (by kernel_rfl) (by kernel_rfl) (e:=Extern.BytealgCompare.compare) (by kernel_rfl),Lib.run_compareString,tA];simp only[Result.andThen];rw[Oper.upon_value]
 go_wp2
 go_ret;exact⟨rfl,rfl⟩
theorem xE(a b w):Calls prog 115 #[.string a,.string b] w λe w'=>e=.returned (.int .i64 (Tb.iO a b))/\w'=w:=by
 have i:=Aq a b;generalize Tb.iO a b=r at i ⊢
 go_enter func115,ntmps115
 go_wp2_with (go_at_call 192;refine(i _).mono ?_;rintro e w' ⟨rfl,rfl⟩)
 go_ret;exact⟨rfl,rfl⟩
def lC(p:Pd.Pr):List Value:=[.string p.1,.int .i64 p.2]
def JI(a b:Pd.Pr):Int:=Tb.iO a.1 b.1
theorem T7(a b):ltOf JI a b=Tb.slt a.1 b.1:=by
 unfold ltOf JI;rw[abH,decide_eq_true_iff];exact Tb.kV
theorem ac9:SWO (ltOf JI) where
 irrefl x:=by rw[T7];exact Tb.nh _
 trans x y z h1 h2:=by rw[T7]at*;exact Tb.qi h1 h2
 ntrans x y z h1 h2:=by
  rw[T7]at*;cases h:Tb.slt x.1 z.1 with
  | false=>rfl
  | true=>
   cases e:Tb.slt y.1 x.1 with
   | true=>rw[Tb.qi e h]at h2;cases h2
   | false=>rw[Tb.wC h1 e]at h;rw[h]at h2;cases h2
theorem MN(x y){W}:Calls prog 114 #[.agg #[.string x.1,.int .i64 x.2],.agg #[.string y.1,.int .i64 y.2]] W λe w'=>e=.returned (.int .i64 (JI x y))/\∃q i,w'=grow (W.drewN q) i:=by
 have j:=λW'=>xE x.1 y.1 W';unfold JI;generalize Tb.iO x.1 y.1=r at j ⊢
 go_enter func114,ntmps114
 go_wp2_with (go_at_call 115;refine(j _).mono ?_;rintro e w' ⟨rfl,rfl⟩)
 go_ret;exact⟨rfl,0,_,by rw[Go.Sort.alloc_eq_grow,Go.Sort.alloc_eq_grow,Go.Sort.grow_grow];rfl⟩
theorem Nh(aY off size w):CmpLays prog 114 #[] lC 2 JI aY off size w:=λ_ _ _ _ x y=>MN x y
theorem NQ(d):(flatK lC 2 d).toList=aW d.toList:=by
 apply aeL
 ·simp[ml]
 ·intro t x q;have hs:t<d.size*2:=by simpa using x
  have e:=get_flatK lC 2 d t hs;rw[getElem!_pos _ t (by simpa using hs)]at e;rw[Array.getElem_toList,e];obtain⟨k,w⟩:∃k,t=k*2\/t=k*2+1:=⟨t/2,by omega⟩;have u:k<d.toList.length:=by simp;omega
  obtain⟨j,i⟩:=bN d.toList k u;have hd:d[k]! =d.toList[k]:=by rw[getElem!_pos d k (by simpa using u)];simp
  rcases w with rfl | rfl
  ·rw[show k*2/2=k by omega,show k*2%2=0 by omega,hd];rw[AS q]at j;simp only[AT]at j;rw[j];rfl
  ·rw[show(k*2+1)/2=k by omega,show(k*2+1)%2=1 by omega,hd];rw[AS q]at i;simp only[AT]at i;rw[i];rfl
theorem Af(F c)(h:F.size<=c.size):(Go.Sort.putCells id 0 F c).toList.take F.size=F.toList/\(Go.Sort.putCells id 0 F c).size=c.size:=by
 have hs:(Go.Sort.putCells id 0 F c).size=c.size:=by simp[Go.Sort.putCells]
 refine⟨?_,hs⟩;apply aeL
 ·simp[hs];omega
 ·intro t j i;have e:t<F.size:=by simpa using i
  rw[List.getElem_take,Array.getElem_toList];simp only[Go.Sort.putCells,Array.getElem_mapIdx];rw[aa3 ⟨IS _,by omega⟩,Nat.sub_zero,getElem!_pos F t e];simp
theorem AV{B g q n D i os}(N:w.ownsRow B 112 2 (.slice (some ⟨g,0,none⟩) D.length q) D.length (aW D))(hs:i.size=D.length):
 (sortWorldK lC 2 w g 0 n i os).ownsRow B 112 2 (.slice (some ⟨g,0,none⟩) D.length q) D.length (aW i.toList)/\Kb [g] w (sortWorldK lC 2 w g 0 n i os):=by
 rcases N.2 with⟨e,_⟩ | ⟨O,cap,j,e,J,u,A,E,t,_⟩
 ·simp at e
 ·simp only[abi,AT,aco,aex,true_and]at e;obtain⟨rfl,rfl⟩:=e;have x:(flatK lC 2 i).size=D.length*2:=by rw[size_flatK,hs]
  have M:=lt_of_heap u;have y:(sortWorldK lC 2 w g 0 n i os).heap=w.heap.modify g (Go.Sort.onCells (Go.Sort.putCells id 0 (flatK lC 2 i)))++os:=rfl;obtain⟨I,H⟩:=Af (flatK lC 2 i) j (by rw[x,t];exact Nat.mul_le_mul_right _ A);refine⟨⟨by simp[ml,hs],.inr ⟨g,q,Go.Sort.putCells id 0 (flatK lC 2 i) j,rfl,J, ?_,A,E,by rw[H,t], ?_⟩⟩,⟨rfl,rfl,rfl, ?_, ?_⟩⟩
  ·rw[y,Array.getElem?_append_left (by simpa using M),Array.getElem?_modify,aa3 rfl,u];rfl
  ·rw[<-x,I,NQ]
  ·rw[y];simp
  ·grind
theorem Ap(B g q D)(E:w.ownsRow B 112 2 (.slice (some ⟨g,0,none⟩) D.length q) D.length (aW D))(hD:D.length<=2000000):
 Calls prog 113 #[.slice (some ⟨g,0,none⟩) D.length q,.func (.func 114) #[] #[]] w λe w'=>e=.returned (.tuple #[])/\∃y:List Pd.Pr,y.Perm D/\y.Pairwise (λa b=>Tb.slt b.1 a.1=false)/\w'.ownsRow B 112 2 (.slice (some ⟨g,0,none⟩) y.length q) y.length (aW y)/\Kb [g] w w':=by
 have eg:∀args w,(callFunc 114 args).run prog w=.ok (.enter 114 args) w:=enters_of func114 (by kernel_rfl) rfl;obtain⟨W,M⟩:=aP E (b:=g) rfl;have V:=acw E (g:=g) rfl;have U:HoldsK lC 2 w g 0 D.toArray:=by
  intro j t;refine⟨?_,by simp[World.frozen?,M]⟩;have e:(aW D)[j]?=some ((flatK lC 2 D.toArray)[j]!):=by
   rw[show aW D=(flatK lC 2 D.toArray).toList from(NQ D.toArray).symm,Array.getElem?_toList,getElem!_pos _ j t,acR t]
  have:=V j _ e;rcases j with _ | j
  ·simpa [Addr.add]using this
  ·simpa [Addr.add]using this
 have H:=AnyQ.slices_SortFunc Qs 2 Tryz.isAgg112 Tryz.sizeOf112 lC (λ_=>rfl) (λx v I=>by simp[lC]at I;rcases I with rfl | rfl<;>rfl) JI ac9 114 #[] g 0 q D.toArray w eg (Nh g 0 D.toArray.size w) U (lt_of_heap M) (by simp;omega);change Calls prog 113 #[.slice (some ⟨g,0,none⟩) D.length q,.func (.func 114) #[] #[]] w _ at H;refine H.mono ?_;rintro e w' ⟨rfl,u,n,os,J,X,rfl⟩;have hs:u.size=D.length:=J.1;obtain⟨Z,N⟩:=AV (n:=n) (os:=os) E hs;have A:u.toList.Perm D:=by
  have:=J.2.2;rw[Array.extract_eq_self_of_le (by rw[hs];simp),Array.extract_eq_self_of_le (by simp)]at this;simpa using this
 refine⟨rfl,u.toList,A, ?_, ?_,N⟩
 ·rw[adF];intro i j O t Y;have:=X i j (IS _) Y (by simpa [hs]using t);rw[getElem!_pos u j (by simpa using t),getElem!_pos u i (by simpa using O),T7]at this;simpa using this
 ·grind
end
variable{s:En.dH En.ba}{T:List HT}{l:List MR}{Q:List Pd.Pr}{n sb mb fc:Nat}{fd:Option Addr}{rv:Value}{w w' w1 W w2:World}
theorem Uv(w):Calls prog 242 #[.int .u64 0] w λe w'=>e=.returned (.int .i64 0)/\w'=w:=by
 go_enter func242,ntmps242
 go_wp2_with fail
 go_ret;exact⟨by kernel_rfl,rfl⟩
theorem aaw(w):Calls prog 191 #[.int .u64 0] w λe w'=>e=.returned (.int .i64 0)/\w'=w:=by
 have h:=Uv
 go_enter func191,ntmps191
 go_wp2_with (go_at_call 242;refine(h _).mono ?_;rintro e w1 ⟨rfl,rfl⟩)
 go_ret;exact⟨rfl,rfl⟩
theorem E3(w f):Calls prog 233 #[.slice none 0 0,.int .i64 0,.int .i64 0,f] w λe w'=>e=.returned (.tuple #[])/\w'=w:=by
 go_enter func233,ntmps233
 go_wp2_with fail
 go_loopw [8] (λi wr=>i=.int .i64 1/\wr=w) (λ_ _=>0)
 ·exact⟨rfl,rfl⟩
 ·
  obtain⟨rfl,rfl⟩:=hrel
  go_wp2_with fail
  go_end0;exact⟨rfl,rfl⟩
theorem St(w f):Calls prog 190 #[.slice none 0 0,.int .i64 0,.int .i64 0,.int .i64 0,f] w λe w'=>e=.returned (.tuple #[])/\w'=w:=by
 have h:=E3
 go_enter func190,ntmps190
 go_wp2_with fail
 go_loopw [1,2] (λa b wr=>a=.int .i64 0/\b=.int .i64 0/\wr=w) (λ_ _ _=>0)
 ·exact⟨rfl,rfl,rfl⟩
 ·
  obtain⟨rfl,rfl,rfl⟩:=hrel
  go_wp2_with (go_at_call 233;refine(h _ _).mono ?_;rintro e w1 ⟨rfl,rfl⟩)
  exact aaT (results_none rfl _ _ _) rfl ⟨rfl,rfl⟩
theorem QU(w f):Calls prog 113 #[.slice none 0 0,f] w λe w'=>e=.returned (.tuple #[])/\w'=w:=by
 have h:=St;have i:=aaw
 go_enter func113,ntmps113
 go_wp2_with (first | (go_at_call 191;refine(i _).mono ?_;rintro e w1 ⟨rfl,rfl⟩) | (go_at_call 190;refine(h _ _).mono ?_;rintro e w1 ⟨rfl,rfl⟩))
 go_end0;exact⟨rfl,rfl⟩
theorem Nt(w pl rd rc):
 Calls prog 59 #[.agg #[.string pl,.slice rd 0 rc]] w λe w'=>e=.returned (.slice none 0 0)/\Below w.heap.size w w':=by
 have t:Below w.heap.size w (w.alloc (.cells #[.string pl,.slice rd 0 rc] 101)):=aM;have y:=QU;have u:Hid (∀W,Calls prog 116 #[.slice none 0 0] W λe w'=>e=.returned (.slice none 0 0)/\Hid (Below W.heap.size W w')):=by
  intro W;refine(uJ W.heap.size W none 0 [] (aaM _ _ _ _) (by decide)).mono ?_;rintro e w' ⟨rfl,_,q⟩;exact⟨rfl,q.aQ (aaj _ _) (OF _) (by simp[Value.ownBlock])⟩
 go_enter func59,ntmps59
 go_wp2_with fail
 go_loopw [3,11] (λv i wr=>v=.slice none 0 0/\i=.int .i64 0/\Hid (Below w.heap.size w wr)) (λ_ _ _=>0)
 ·exact⟨rfl,rfl,t⟩
 ·
  obtain⟨rfl,rfl,j⟩:=hrel;clear t
  go_wp2_with (first | (go_at_call 113;refine(y _ _).mono ?_;rintro e w2 ⟨rfl,rfl⟩) | (go_at_call 116;refine(u.out _).mono ?_;rintro e A ⟨rfl,x⟩))
  go_ret;exact⟨rfl,j.out.trans (x.out.mono j.out.size)⟩
/- Preds. -/
theorem BH(w:World)(pl:ByteArray)(rd)(rc:Nat)(l)(h:bK w rd rc l)(h1:Pd.One (bo (l.map MR.aw)))(nX:l.length<=1000:=by omega):
 Calls prog 59 #[.agg #[.string pl,.slice rd l.length rc]] w λe w'=>∃qd u Q,e=.returned (.slice qd (List.length Q) u)/\w'.ownsRow w.heap.size 112 2 (.slice qd Q.length u) Q.length (aW Q)/\Below w.heap.size w w'/\Hid (Pd.qE Q/\∀p,p∈Q↔p∈bo (l.map MR.aw)):=by
 by_cases cB:l=[]
 ·subst cB;refine(Nt w pl rd rc).mono ?_;rintro e w' ⟨rfl,hb⟩;exact⟨none,0,[],rfl,aaM _ _ _ _,hb,List.Pairwise.nil,λp=>by simp[bo]⟩
 obtain⟨i0,fC,cE,ch,cz⟩:=abF Tryz.QQ;have HI:=aj fC;have H0:=aj cE;have H1:=aj ch;have H2:=aj cz;clear fC cE ch cz;have N:=aj h1;have cq:Below w.heap.size w (w.alloc (.cells #[.string pl,.slice rd l.length rc] 101)):=aM;have hlp:0<l.length:=List.length_pos_iff.2 cB;clear h1 cB;have Ez:Hid (∀k,k<=l.length->(bo ((l.take k).map MR.aw)).length<=1001*k):=by
  intro k hk;have:=LM (l:=l.take k) (λr hr=>h.2.2 r (ab4 hr));rw[abv,aeQ hk]at this;exact this
 go_enter func59,ntmps59
 go_wp2_with fail
 go_loopw [3,11] (λv i wr=>∃k:Nat,k<=l.length/\i=.int .i64 k/\E8 w wr v (bo ((l.take k).map MR.aw))) (λ_ i _=>l.length-(intOf i).toNat)
 ·exact⟨0,IS _,rfl,aaM _ _ _ _,cq⟩
 ·
  obtain⟨k,hk,rfl,t,O⟩:=hrel;obtain⟨qd,u,Ws⟩:=ah t;subst Ws;obtain⟨w0,rfl⟩:∃x,x=wr:=⟨_,rfl⟩;have cp:=O.size;have I:=Ez.out k hk;by_cases aL:k<l.length
  ·obtain⟨g,a,ad,c,bd,d,body,rfl,hg,kW,d0,d1,d2,d3,yL,eB,dh⟩:=(h.below O).at aL;have Y:Hid (bo ((l.take (k+1)).map MR.aw)=bo ((l.take k).map MR.aw)++(a::body.map Prod.fst).map lK):=by
    rw[JO aL,dh];rfl
   generalize bo ((l.take k).map MR.aw)=P at t I Y;clear dh
   go_wp2_with (go_at_call 112;refine(jN (MR.below yL aM) eB).mono ?_;rintro e w1 ⟨EH,c',rfl,lz,fY,aV⟩)
   have W:Below w0.heap.size w0 w1:=aM.trans (aV.mono (by simp));have bx:=ae t W;have iS:=W.size;have oP:=O.trans (W.mono cp);clear aV yL t W d0 d1 d2 d3 O;generalize hL:(a,Value.slice ad a.af.length c)::body=L at lz fY;have P5:L.length=body.length+1:=by rw[<-hL];rfl
   have Ny:L.map Prod.fst=a::body.map Prod.fst:=by rw[<-hL];rfl
   have hLa:L.length<=body.length+1:=by omega
   have hLb:body.length+1<=L.length:=by omega
   rw[<-Ny]at Y;clear hL Ny P5
   go_loopw [3,18] (λv i w2=>∃q:Nat,q<=L.length/\i=.int .i64 q/\E8 w w2 v (P++((L.map Prod.fst).take q).map lK)/\Lib.OthersKept 112 none w1 w2) (λ_ i _=>L.length-(intOf i).toNat)
   ·exact⟨0,IS _,rfl,by simpa using⟨bx,oP⟩,aeF _ _ _⟩
   ·
    obtain⟨q,hq,rfl,E,J⟩:=hrel;obtain⟨xd,xc,XK⟩:=ah E.1;subst XK;have Z:=aj E;have HO:=aj J;have hPq:(P++((L.map Prod.fst).take q).map lK).length<=1003003:=by simp;omega
    by_cases H:q<L.length
    ·have bC:=cI lz J;obtain⟨g2,rfl,jI,vE,X⟩:=aA bC;have gY:=X _ _ (bR L q H).1;have gZ:=X _ _ (bR L q H).2.1;have iL:=X _ _ (bR L q H).2.2;have zY:MA.ok wr L[q]:=rN fY J (by decide) _ (IN H);obtain⟨yd,yc,pW⟩:=ah zY;rw[pW]at iL;have kG:Hid (P++((L.map Prod.fst).take (q+1)).map lK=(P++((L.map Prod.fst).take q).map lK)++[lK (L[q]).1]):=by
      have e0:(L.map Prod.fst).take (q+1)=(L.map Prod.fst).take q++[(L[q]).1]:=by
       rw[aaZ,AS (by simpa using H),adj];rfl
      rw[e0,aa6,aa8];rfl
     have t:=E.1;have hsw:=E.2.size;generalize (L[q]).1=x at gY gZ iL kG;generalize P++((L.map Prod.fst).take q).map lK=P1 at t Z kG hPq;clear pW X bC zY E J lz fY bx oP
     go_wp2_with (at_builtin;go_must (refine abp _ rfl (.tmp 22) (.tmp 29) 144 rfl w.heap.size 112 i0 _ 2 24 Tryz.underlying144 HI.out H0.out H1.out H2.out rfl (by decide) _ _ _ rfl ((t.alloc _).alloc _) ⟨wr.heap.size+1,0,none⟩ 1 1 [.string x.pred,.int .i64 x.af.length] rfl rfl (en) (by simp[Value.oneCell']) eI (by omega) (by simp;omega) ?_;intro v2 w2 B bT _;obtain⟨agb,Kw⟩:=SO (p:=lK x) Z.out B bT HO.out;clear B bT))
     go_roundw
     ·exact⟨q+1,by omega,by go_num,by rw[kG.out];exact agb,Kw⟩
     ·simp[intOf];omega
    ·have HE:Hid (E8 w wr (.slice xd (P++((L.map Prod.fst).take q).map lK).length xc) (bo ((l.take (k+1)).map MR.aw))):=by
      have e:(L.map Prod.fst).take q=L.map Prod.fst:=aaP (by simp;omega);rw[Y.out];have:=Z.out;rw[e]at this ⊢;exact this
     clear E J Z Y
     go_wp2_with fail
     go_roundw
     ·exact⟨k+1,by omega,by go_num,HE.out⟩
     ·simp[intOf];omega
  ·have Kc:k=l.length:=by omega
   subst Kc;rw[abS]at t I ⊢;have M6:0<(bo (l.map MR.aw)).length:=by
    cases l with
    | nil=>simp at hlp
    | cons r l=>simp[bo,Ax.aI.atoms]
   have uu:Hid (∀j:List Pd.Pr,j.Perm (bo (l.map MR.aw))->j.Pairwise (λa b=>Tb.slt b.1 a.1=false)->Pd.qE (Pd.mY j)/\∀p,p∈Pd.mY j↔p∈bo (l.map MR.aw)):=by
    intro j A hs;refine⟨Pd.Th j hs ?_,λp=>by rw[Pd.CO,A.mem_iff]⟩;intro x hx y hy e;exact N.out x (A.mem_iff.1 hx) y (A.mem_iff.1 hy) e
   have hDl:(bo (l.map MR.aw)).length<=1001000:=by omega
   generalize M:bo (l.map MR.aw)=D at t uu M6 hDl ⊢;have ZL:=aj M;clear M;obtain⟨g,rfl,hg,kW,_⟩:=aA t M6;have hgB:=(t.lt g rfl).1;clear h N Ez;have Bz:Hid (Calls prog 113 #[.slice (some ⟨g,0,none⟩) D.length u,.func (.func 114) #[] #[]] w0 λe w'=>e=.returned (.tuple #[])/\∃j:List Pd.Pr,Hid (j.length=D.length)/\Hid (Pd.qE (Pd.mY j)/\∀p,p∈Pd.mY j↔p∈D)/\w'.ownsRow w.heap.size 112 2 (.slice (some ⟨g,0,none⟩) D.length u) D.length (aW j)/\Kb [g] w0 w'/\Calls prog 116 #[.slice (some ⟨g,0,none⟩) D.length u] w' λe U=>e=.returned (.slice (some ⟨g,0,none⟩) (Pd.mY j).length u)/\U.ownsRow w.heap.size 112 2 (.slice (some ⟨g,0,none⟩) (Pd.mY j).length u) (Pd.mY j).length (aW (Pd.mY j))/\Kb [g] w' U):=by
    refine(Ap w.heap.size g u D t (by omega)).mono ?_;rintro e w2 ⟨rfl,j,A,Sb,B,V⟩;have hc:=uJ w.heap.size w2 _ u j B (by rw[A.length_eq];omega);rw[A.length_eq]at hc B;exact⟨rfl,j,A.length_eq,uu.out j A Sb,B,V,hc⟩
   clear uu t
   go_wp2_with (first | (go_at_call 113;refine Bz.out.mono ?_;rintro e w2 ⟨rfl,j,qB,MM,B,V,MZ⟩) | (go_at_call 116;refine MZ.mono ?_;rintro e U ⟨rfl,cm,Nd⟩))
   have EN:=V.size;have et:Below w.heap.size w U:=Nd.aQ (V.aQ O cp (by simp;omega)) (by omega) (by simp;omega);go_ret;exact⟨_,_,Pd.mY j,rfl,cm,et,by rw[ZL.out];exact MM⟩
/- Package follow: Model: what it begins with, and how it goes on. -/
namespace En
theorem N0{F:Type}(k:Nat)(P)(z:F):(oy k P z).length<=2*P.length+1:=by
 unfold oy;split
 ·simp
 ·simp
 ·simp;omega
theorem CE{F}(P z):∀R:List (eC F),(mG R P z).length<=R.length*(2*P.length+1)
 | []=>by simp[mG]
 | r::R=>by
  have ih:=CE P z R;have i:=N0 r.k P z;have e:=List.length_filterMap_le r.inst (oy r.k P z);unfold mG at ih ⊢;rw[aaW,If,abL,Nat.add_mul];omega
theorem Kg{F}:∀R:List (eC F),(Vy R).length<=R.length
 | []=>OF _
 | r::R=>by
  have ih:=Kg R;unfold Vy at ih ⊢;rw[aaW,If,abL];have:(if r.k=0 then (r.inst []).toList else []).length<=1:=by
   split
   ·cases r.inst []<;>simp
   ·simp
  omega
section
variable {F:Type} [DecidableEq F]
theorem B8(s:dH F)(f n):(hold s f n).found.length<=s.found.length+1:=by
 unfold hold;simp only;split<;>simp
theorem ru:∀(l:List F) (s:dH F),(holds s l).found.length<=s.found.length+l.length/\∀f,(holds s l).count f<=s.count f+l.length
 | [],s=>⟨OF _,λ_=>OF _⟩
 | x::l,s=>by
  obtain⟨q,i⟩:=ru l (hold s x 1);have j:=B8 s x 1;rw[kY,abL];refine⟨by omega,λf=>?_⟩;have e:=i f;rw[jk]at e;split at e<;>omega
theorem mW:∀(l:List F) (s:dH F),(db s l).found.length<=s.found.length+l.length
 | [],s=>OF _
 | x::l,s=>by
  have i:=mW l (hold s x 0);have e:=B8 s x 0;rw[rF,abL];omega
theorem Gi:∀(l:List F) (s:dH F),s.found.length<=(db s l).found.length
 | [],s=>OF _
 | x::l,s=>by
  have i:=Gi l (hold s x 0);have e:s.found.length<=(hold s x 0).found.length:=by
   unfold hold;simp only;split<;>simp
  rw[rF];omega
theorem ID(s:dH F)(l f):db s (l++[f])=hold (db s l) f 0:=by simp[db]
theorem lQ(l)(s:dH F)(f):(db s l).count f=s.count f:=(rI l s).2.2 f
theorem BX{R fuel}{s:dH F}(e:n<s.found.length)(i:s.found.length<=200):search R 200 (fuel+1) n s=search R 200 fuel (n+1) (meet R s n):=by
 rw[search,aa3 e,aaD (by omega)]
theorem uI{R fuel}{s:dH F}(i:n<s.found.length)(e:200<s.found.length):search R 200 (fuel+1) n s=none:=by
 rw[search,aa3 i,aa3 e]
theorem xL{R fuel}{s:dH F}(e:¬n<s.found.length):search R 200 (fuel+1) n s=some s:=by
 rw[search,aaD e]
theorem S4{R}{s:dH F}(h:n<s.found.length):meet R s n=holds s (mG R (s.found.take n) s.found[n]):=by
 unfold meet;rw[AS h]
end
end En
section
open Go.RowKit Go.Maps Go.WideMaps Go.WideElems
def rowsOf(G:List GT)(p:ByteArray):List (List ByteArray):=match G.find? λt=>decide (t.nm=p)with
 | some t=>t.L
 | none=>[]
theorem zM{G}(j:(G.map GT.nm).Nodup){t}(i:t∈G):rowsOf G t.nm=t.L:=by
 induction G with
 | nil=>cases i
 | cons a G ih=>
  rw[abn,adH]at j;unfold rowsOf;rw[aeq];rcases BY.1 i with rfl | i
  ·simp
  ·have q:¬a.nm=t.nm:=λe=>j.1 (by rw[e];exact aax.2 ⟨t,i,rfl⟩);simp only[q,decide_false];exact ih j.2 i
def da(Q:List Pd.Pr)(G:List GT):List En.ba:=Q.flatMap λp=>(rowsOf G p.1).map λr=>(p.1,r)
theorem LO{k}(h:k<Q.length)(G):da (Q.take (k+1)) G=da (Q.take k) G++(rowsOf G (Q[k]).1).map λr=>((Q[k]).1,r):=by
 have e:Q.take (k+1)=Q.take k++[Q[k]]:=by rw[aaZ,AS h];rfl
 unfold da;rw[e,abQ];simp
theorem AH(Q k G):(da (Q.take k) G).length<=(da Q G).length:=by
 have e:Q=Q.take k++Q.drop k:=(ab7 k Q).symm
 conv=>rhs;rw[e]
 unfold da;rw[abQ,If];omega
theorem II(h:∀r,r∈l->r.body.length<=2):(bo (l.map MR.aw)).length<=3*l.length:=by
 induction l with
 | nil=>simp[bo]
 | cons r l ih=>
  have i:=ih (λx j=>h x (by simp[j]));have q:=h r (by simp);unfold bo at i ⊢;simp only[abn,aaW,aa6,If,aaL]at i ⊢;have e:(Ax.aI.atoms r.aw).length=r.body.length+1:=by simp[Ax.aI.atoms,MR.aw]
  rw[e,abL];omega
theorem gH(h:Pd.qE Q):(Q.map Prod.fst).Nodup:=by
 refine List.Pairwise.map _ ?_ h;intro a b i e;rw[e,Tb.nh]at i;cases i
theorem My(h:Pd.qE Q):Q.Nodup:=by
 refine List.Pairwise.imp ?_ h;intro a b i e;rw[e,Tb.nh]at i;cases i
theorem N9{G}(i:∀t,t∈G->t.L.length<=1000):(da Q G).length<=1000*Q.length:=by
 have e:∀p,(rowsOf G p).length<=1000:=by
  intro p;unfold rowsOf;split
  ·grind
  ·simp
 induction Q with
 | nil=>simp[da]
 | cons p Q ih=>
  unfold da at ih ⊢;rw[aaW,If,aaL,abL];have:=e p.1;omega
theorem Td{i:List HT}(h:T.map HT.key=i.map HT.key):T.map mK=i.map mK:=by
 have e:∀l:List HT,l.map mK=(l.map HT.key).map λk=>(k.1,k.2.2):=λl=>by rw[aey];rfl
 rw[e,e,h]
def dx(mb:Nat)(T:List HT):List Nat:=mb::T.flatMap HT.cD
theorem LK{B}(hm:B<=mb)(h:∀b,b∈eF sb fd fc n T->B<=b):∀b,b∈dx mb T->B<=b:=by
 intro b e;unfold dx at e;rcases BY.1 e with rfl | e
 ·exact hm
 ·refine h b ?_;unfold eF;simp only[BY,ZD];exact .inr (.inr e)
structure yw(w wr:World)(sb mb:Nat)(rv:Value)(K:List (ByteArray×Nat×Nat))(s:En.dH En.ba):Prop where
 at_:∃fd fc T,qp wr sb mb rv fd fc T s/\T.map HT.key=K/\∀b,b∈eF sb fd fc s.found.length T->w.heap.size<=b
 be:Below w.heap.size w wr
theorem yw.on{wr K j}(i:Below w.heap.size w wr)(A:T.map HT.key=K)(t:∀b,b∈eF sb fd fc s.found.length T->w.heap.size<=b)(q:kj wr w' sb mb rv fd fc T s j):yw w w' sb mb rv K j:=by
 obtain⟨y,u,H,E,D,B⟩:=q.on;refine⟨⟨y,u,H,E,D.trans A,λb x=>?_⟩,q.kept.aQ i i.size t⟩;rcases B b x with e | e
 ·exact t b e
 ·exact aaK i.size e
structure wR(w:World)(mb:Nat)(T:List HT)(s:En.dH En.ba):Prop where
 map:iM w mb (T.map HT.pk)
 cK:∀t,t∈T->t.ok w
 names:(T.map HT.nm).Nodup
 rows:∀t,t∈T->∀r,r∈t.L↔(t.nm,r)∈s.found
 qq:∀t,t∈T->t.C=t.L.map λr=>s.count (t.nm,r)
 zero:∀f,¬f∈s.found->s.count f=0
 short:∀t,t∈T->t.nm.size<=1000000
 my:∀t,t∈T->t.L.length<=s.found.length
theorem qp.toH(h:qp w sb mb rv fd fc T s):wR w mb T s:=⟨h.map,h.cK,h.names,h.rows,h.qq,h.zero,h.short,λ_ e=>BC h e⟩
theorem wR.below(h:wR w mb T s)(e:Below w.heap.size w w'):wR w' mb T s:=⟨h.map.below e,λt i=>(h.cK t i).below e,h.names,h.rows,h.qq,h.zero,h.short,h.my⟩
theorem wR.kept{S}(h:wR w mb T s)(i:Kb S w w')(j:∀b,b∈dx mb T->¬b∈S):wR w' mb T s:=by
 refine⟨h.map.kept i (j mb (by simp[dx])),λt e=>(h.cK t e).kept i λb q=>j b ?_,h.names,h.rows,h.qq,h.zero,h.short,h.my⟩;unfold dx;simp only[BY,aa9];exact .inr ⟨t,e,q⟩
theorem wR.lt(h:wR w mb T s){b}(i:b∈dx mb T):b<w.heap.size:=by
 unfold dx at i;rcases BY.1 i with rfl | i
 ·obtain⟨es,q,e⟩:=h.map.block;exact lt_of_heap e
 ·obtain⟨t,j,i⟩:=aa9.1 i;exact(h.cK t j).lt i
theorem Fe(i:W.heap=(w1.alloc (.cells #[.slice none 0 0,.map none,.slice none 0 0] 322)).heap)(h:Below W.heap.size W w2):
 w2.heap[w1.heap.size]?=some (.cells #[.slice none 0 0,.map none,.slice none 0 0] 322 (0,0))/\w2.cell? ⟨w1.heap.size,0,none⟩=some (.slice none 0 0)/\w2.cell? ⟨w1.heap.size,1,none⟩=some (.map none)/\w2.cell? ⟨w1.heap.size,2,none⟩=some (.slice none 0 0)/\
  w2.frozen? ⟨w1.heap.size,0,none⟩=false/\w2.frozen? ⟨w1.heap.size,1,none⟩=false/\w2.frozen? ⟨w1.heap.size,2,none⟩=false/\w1.heap.size<w2.heap.size:=by
 have e:w2.heap[w1.heap.size]?=some (.cells #[.slice none 0 0,.map none,.slice none 0 0] 322 (0,0)):=by
  rw[h.block _ (by rw[i];simp),i];exact By _ _
 refine⟨e, ?_, ?_, ?_, ?_, ?_, ?_,lt_of_heap e⟩
 ·rw[aaB _ _ 0 _ _ _ e];rfl
 ·rw[aaB _ _ 1 _ _ _ e];rfl
 ·rw[aaB _ _ 2 _ _ _ e];rfl
 ·simp[World.frozen?,e]
 ·simp[World.frozen?,e]
 ·simp[World.frozen?,e]
theorem uB(q:mq W w2 mb Q.length Q T)(M:(Q.map Prod.fst).Nodup)(hs:∀p,p∈Q->p.1.size<=1000000)(J:Q.length<=1000)(x:Kb [sb] w2 w)(U:sb<mb\/w2.heap.size<=sb)(hblk:w.heap[sb]?=some (.cells #[rv,.map (some mb),.slice none 0 0] 322 (0,0))):
 qp w sb mb rv none 0 T En.cL/\∀b,b∈eF sb none 0 0 T->b=sb\/mb<b:=by
 obtain⟨D,y,I⟩:=q.map;have V:=y.lt;have A:T.map HT.nm=(Q.map Prod.fst).reverse:=by
  have:=abu (List.map Prod.fst) q.mx;rw[aey,abS,List.map_reverse]at this;exact this
 have u:∀t,t∈T->t.L=[]/\t.C=[]/\t.cD=[t.g]/\mb<t.g:=by
  intro t i;obtain⟨_,p,g,rfl,E⟩:=q.cK t i;exact⟨rfl,rfl,rfl,E⟩
 refine⟨⟨hblk,(iM.of y ?_ I).kept x ?_,aaM _ _ _ _,λt i=>(q.cK t i).1.kept x ?_,q.apart, ?_, ?_, ?_,λ_ _=>rfl, ?_, ?_⟩, ?_⟩
 ·omega
 ·simp;omega
 ·intro b j;have O:=(q.cK t i).1.lt j;rw[(u t i).2.2.1,aae]at j;have N:=(u t i).2.2.2;simp;omega
 ·grind
 ·intro t i r;rw[(u t i).1];simp[En.cL]
 ·grind
 ·intro f H;simp[En.cL]at H
 ·intro t i;have:t.nm∈T.map HT.nm:=aax.2 ⟨t,i,rfl⟩;rw[A,List.mem_reverse]at this;obtain⟨p,B,e⟩:=aax.1 this;rw[<-e];exact hs p B
 ·intro b j;unfold eF at j;rcases BY.1 j with rfl | j
  ·exact .inl rfl
  ·simp only[Value.ownBlock,Option.toList_none,acp,aa9]at j;obtain⟨t,i,j⟩:=j;rw[(u t i).2.2.1,aae]at j;rw[j];exact .inr (u t i).2.2.2
end
/- Package follow: Model, walked. -/
section
open Go.RowKit Go.Maps Go.WideMaps Go.WideElems
open Go.Sort (grow)
theorem Tryz.DE(w):(zeroValue 122).run prog w=.ok (.pointer none) w:=by kernel_rfl
def mstart(rs:List Ax.aI)(gl:List En.ba):En.dH En.ba:=En.holds (En.db En.cL gl) (rs.flatMap En.gI)
def bB(rs:List Ax.aI)(gl:List En.ba):Option (En.dH En.ba):=En.search (rs.map En.dy) 200 202 0 (mstart rs gl)
structure Yo(w1:World)(rv:Value)(Q:List Pd.Pr)(v:Value)(wx:World):Prop where
 out:∃sb mb T,v=.pointer (some ⟨sb,0,none⟩)/\qp wx sb mb rv none 0 T En.cL/\T.map mK=Q.reverse/\w1.heap.size<=mb/\(∀b,b∈eF sb none 0 0 T->w1.heap.size<=b)/\Below w1.heap.size w1 wx
theorem YJ(i:mq W w2 W.heap.size Q.length Q T)(x:W.heap.size=w1.heap.size)(w:Below w1.heap.size w1 W)(u:(Q.map Prod.fst).Nodup)(hs:∀p,p∈Q->p.1.size<=1000000)(t:Q.length<=1000):
 Yo w1 rv Q (.pointer (some ⟨w2.heap.size,0,none⟩)) (w2.alloc (.cells #[rv,.map (some w1.heap.size),.slice none 0 0] 322)):=by
 rw[x]at i;have j:=i.be;obtain⟨A,y⟩:=uB (rv:=rv) (sb:=w2.heap.size) i u hs t ((Kb.refl _ _).alloc _) (.inr (OF _)) (By _ _);refine⟨_,_,T,rfl,A,by rw[i.mx,abS],OF _,λb q=>?_, ?_⟩
 ·rcases y b q with e | e
  ·rw[e];have:=j.size;omega
  ·omega
 ·exact(w.trans (j.mono (by omega))).alloc (by have:=j.size;omega) _
theorem Qq(e:mq W w2 W.heap.size Q.length Q T)(w:Below w1.heap.size w1 W)(q:w2.heap[w1.heap.size]?=some (.cells #[.slice none 0 0,.map none,.slice none 0 0] 322 (0,0)))(u:(Q.map Prod.fst).Nodup)(hs:∀p,p∈Q->p.1.size<=1000000)(x:W.heap.size=w1.heap.size+1:=by simp)(t:Q.length<=1000:=by omega):
 Yo w1 rv Q (.pointer (some ⟨w1.heap.size,0,none⟩)) (((w2.setCell ⟨w1.heap.size,0,none⟩ rv).setCell ⟨w1.heap.size,1,none⟩ (.map (some (w1.heap.size+1)))).setCell ⟨w1.heap.size,2,none⟩ (.slice none 0 0)):=by
 rw[x]at e;have j:=e.be;have i:Kb [w1.heap.size] w2 (((w2.setCell ⟨w1.heap.size,0,none⟩ rv).setCell ⟨w1.heap.size,1,none⟩ (.map (some (w1.heap.size+1)))).setCell ⟨w1.heap.size,2,none⟩ (.slice none 0 0)):=((Kb.setCell w2 ⟨w1.heap.size,0,none⟩ rv).trans (Kb.setCell _ ⟨w1.heap.size,1,none⟩ _)).trans (Kb.setCell _ ⟨w1.heap.size,2,none⟩ _);have hblk:(((w2.setCell ⟨w1.heap.size,0,none⟩ rv).setCell ⟨w1.heap.size,1,none⟩ (.map (some (w1.heap.size+1)))).setCell ⟨w1.heap.size,2,none⟩ (.slice none 0 0)).heap[w1.heap.size]?=some (.cells #[rv,.map (some (w1.heap.size+1)),.slice none 0 0] 322 (0,0)):=by
  rw[aC _ (aC _ (aC w2 q 0 rv) 1 _) 2];rfl
 obtain⟨y,B⟩:=uB (rv:=rv) (sb:=w1.heap.size) e u hs t i (.inl (by omega)) hblk;refine⟨_,_,T,rfl,y,by rw[e.mx,abS],by omega,λb A=>?_, ?_⟩
 ·grind
 ·exact i.aQ (w.trans (j.mono (by omega))) (by have:=j.size;omega) (by simp)
structure Yv(w1:World)(rs:List Ax.aI)(Q:List Pd.Pr)(G:List GT)(e:Ending)(w':World):Prop where
 be:Below w1.heap.size w1 w'
 ans:(∃hm T s,e=.returned (.tuple #[.map (some hm),.bool true])/\bB rs (da Q G)=some s/\wR w' hm T s/\T.map mK=Q.reverse/\(∀b,b∈dx hm T->w1.heap.size<=b))\/
  (e=.returned (.tuple #[.map none,.bool false])/\bB rs (da Q G)=none)
structure OL(w1 wr:World)(sb mb:Nat)(rv:Value)(K:List (ByteArray×Nat×Nat))(R:List (En.eC En.ba))(n:Nat)(s:En.dH En.ba)(Vb:Option (En.dH En.ba)):Prop where
 rel:yw w1 wr sb mb rv K s
 res:En.search R 200 (202-n) n s=Vb
 le:n<=200
 found:s.found.length<=30000
 count:∀f,s.count f<=8+n*4000
theorem An(w:l.length<=8){gl}(j:gl.length<=24000):(mstart (l.map MR.aw) gl).found.length<=30000/\∀f,(mstart (l.map MR.aw) gl).count f<=8:=by
 have e:=En.ru ((l.map MR.aw).flatMap En.gI) (En.db En.cL gl);have u:((l.map MR.aw).flatMap En.gI).length<=8:=by
  rw[En.pX];have:=En.Kg ((l.map MR.aw).map En.dy);rw[aaL,aaL]at this;omega
 have t:=En.mW gl (En.cL (F:=En.ba));have q:(En.cL (F:=En.ba)).found.length=0:=rfl;unfold mstart;refine⟨by have:=e.1;omega,λf=>?_⟩;have i:=e.2 f;rw[En.lQ]at i;have:(En.cL (F:=En.ba)).count f=0:=rfl;omega
theorem Pz(w:l.length<=8)(u:∀r,r∈l->r.body.length<=2)(j:n<s.found.length)(x:s.found.length<=200)(y:∀f,s.count f<=8+n*4000):
 ((l.map MR.aw).flatMap (En.cM (s.found.take n) s.found[n])).length<=3208/\En.holds s ((l.map MR.aw).flatMap (En.cM (s.found.take n) s.found[n]))=En.meet ((l.map MR.aw).map En.dy) s n/\
   (En.meet ((l.map MR.aw).map En.dy) s n).found.length<=30000/\∀f,(En.meet ((l.map MR.aw).map En.dy) s n).count f<=8+(n+1)*4000:=by
 have e:=Jt (P:=s.found.take n) (z:=s.found[n]) u;have hlen:((l.map MR.aw).flatMap (En.cM (s.found.take n) s.found[n])).length<=3208:=by
  rw[e];have i:=En.CE (s.found.take n) s.found[n] ((l.map MR.aw).map En.dy);simp only[aaL,abv]at i;have t:min n s.found.length=n:=aeQ (by omega);rw[t]at i;have A:l.length*(2*n+1)<=8*401:=Nat.mul_le_mul w (by omega);omega
 have hm:En.holds s ((l.map MR.aw).flatMap (En.cM (s.found.take n) s.found[n]))=En.meet ((l.map MR.aw).map En.dy) s n:=by rw[En.S4 j,e]
 have q:=En.ru ((l.map MR.aw).flatMap (En.cM (s.found.take n) s.found[n])) s;refine⟨hlen,hm, ?_,λf=>?_⟩
 ·rw[<-hm];have:=q.1;omega
 ·grind
end
variable{k:IntKind}{n i g:Nat}{T:TypeId}{w:World}
section
open Go.RowKit Go.Maps Go.WideMaps Go.WideElems
open Go.Sort (grow)
theorem Cg(w:World)(pl:ByteArray)(rd)(rc:Nat)(l)(hl:gW w rd rc l)(Js:l.length<=8)(y:Pd.One (bo (l.map MR.aw)))(cp:∀p,p∈bo (l.map MR.aw)->p.1.size<=1000000)
 (gm:Nat)(G)(hG:qS w gm G)(wY:∀p,p∈bo (l.map MR.aw)->p.1∈G.map GT.nm)(hGt:∀t,t∈G->t.L.length<=1000):
 Calls prog 111 #[.agg #[.string pl,.slice rd l.length rc],.map (some gm)] w λe w'=>∃Q,Hid (Pd.qE Q/\∀p,p∈Q↔p∈bo (l.map MR.aw))/\Yv w (l.map MR.aw) Q G e w':=by
 obtain⟨w0,cZ⟩:∃w0,w0=w.alloc (.cells #[.string pl,.slice rd l.length rc] 101):=⟨_,rfl⟩;have cq:Below w.heap.size w w0:=by rw[cZ];exact aM
 have pK:w0.heap[w.heap.size]?=some (.cells #[.string pl,.slice rd l.length rc] 101 (0,0)):=by rw[cZ];exact By w _
 have x0:=mA pK;have x1:=ow pK;have Ew:Hid (Calls prog 59 #[.agg #[.string pl,.slice rd l.length rc]] w0 λe w1=>∃N O Q,e=.returned (.slice N (List.length Q) O)/\w1.cell? ⟨w.heap.size,1,none⟩=some (.slice rd l.length rc)/\w.heap.size<w1.heap.size/\Hid (w1.ownsRow 0 112 2 (.slice N Q.length O) Q.length (aW Q)/\Below w.heap.size w w1/\Pd.qE Q/\∀p,p∈Q↔p∈bo (l.map MR.aw))):=by
  refine(BH w0 pl rd rc l (hl.K5.below cq) y).mono ?_;rintro e w1 ⟨N,O,Q,rfl,q1,q2,q3⟩;have Y:=lt_of_heap pK;exact⟨N,O,Q,rfl,by rw[q2.cell Y];exact x1,aa7 Y q2.size,aD q1 (IS _),cq.trans (q2.mono cq.size),q3.out.1,q3.out.2⟩
 have B7:=aj cp;have Xl:=aj wY;have HGT:=aj hGt;have HL:=aj hl;have HG:=aj hG;have hle:=aH hl.K5.1;have H3:Hid ((bo (l.map MR.aw)).length<=24):=by have:=II hl.two;exact(by omega:(bo (l.map MR.aw)).length<=24)
 clear y cp wY hGt hl hG pK
 go_enter func111,ntmps111
 go_upto_region 1 with fail
 rw[<-cZ];clear cZ
 go_upto_region 2 with(go_at_call 59;refine Ew.out.mono ?_;rintro e w1 ⟨N,O,Q,rfl,y1,IU,q⟩)
 have hQl:Q.length<=24:=aaK (Ck _ (My q.out.2.2.1) (λp I=>(q.out.2.2.2 p).1 I)) H3.out;have hnh:Hid (∀W:World,Below w1.heap.size w1 W->Calls prog 186 #[.slice N Q.length O] W λe w2=>∃T,e=.returned (.map (some W.heap.size))/\Hid (mq W w2 W.heap.size Q.length Q T)/\w2.cell? ⟨w.heap.size,1,none⟩=some (.slice rd l.length rc)/\w.heap.size<w2.heap.size/\Below W.heap.size W w2):=by
  intro W D;refine(AA W 0 N O Q (ae q.out.1 D) (by omega) (λp I=>B7.out p ((q.out.2.2.2 p).1 I))).mono ?_;rintro e w2 ⟨T,rfl,hT⟩;have D4:=hT.be;refine⟨T,rfl,hT, ?_,aa7 IU (aaK D.size D4.size),D4⟩;rw[D4.cell (aa7 IU D.size),D.cell IU];exact y1
 go_cut [7]from 15 (λv wx=>Hid (Yo w1 (.slice rd l.length rc) Q v wx))
 ·
  go_region_with (go_at_call 186;refine(hnh.out _ (by first | exact(aaj _ _).drew | exact((aaj _ _).drew).alloc (OF _) _)).mono ?_;rintro e w2 ⟨T,rfl,HT,y2,X,cX⟩;try (have hzz:=Fe (w1:=w1) (by exact rfl) cX;obtain⟨hz,z0,z1,z2,f0,f1,f2,hzl⟩:=hzz))
  all_goals
   (go_wp2_with fail
    go_meet
    first
    | exact YJ HT.out rfl ((aaj _ _).drew) (gH q.out.2.2.1) (λp I=>B7.out p ((q.out.2.2.2 p).1 I)) (by omega)
    | exact Qq HT.out (aM.drew) hz (gH q.out.2.2.1) (λp I=>B7.out p ((q.out.2.2.2 p).1 I))
    | exact Qq HT.out (((aaj _ _).drew).alloc (OF _) _) hz (gH q.out.2.2.1) (λp I=>B7.out p ((q.out.2.2.2 p).1 I)))
 ·
  obtain⟨sb,mb,E,rfl,F3,aai,R9,abM,aV⟩:=hcut.out.out;have jP:=aj q.out.2.1;have PS:=aj aai;have HM0:Hid (yw w1 wc sb mb (.slice rd l.length rc) (E.map HT.key) En.cL):=⟨⟨none,0,E,F3,rfl,abM⟩,aV⟩;have HQR:=aj q.out.1;have jy:Hid ((da Q G).length<=24000):=by have:=N9 (Q:=Q) HGT.out;exact(by omega:(da Q G).length<=24000)
  have Rq:=aH q.out.1;clear hcut F3 aai abM aV hnh x0 x1 y1
  go_wp2_with fail
  go_loopw [22] (λi wr=>∃k:Nat,k<=Q.length/\i=.int .i64 k/\yw w1 wr sb mb (.slice rd l.length rc) (E.map HT.key) (En.db En.cL (da (Q.take k) G))) (λi _=>Q.length-(intOf i).toNat)
  ·exact⟨0,IS _,rfl,HM0.out⟩
  ·
   obtain⟨k,hk,rfl,hm⟩:=hrel;have V:=aj hm;clear hm HM0;obtain⟨u,rfl⟩:∃x,x=wr:=⟨_,rfl⟩;by_cases Y:k<Q.length
   ·have iF:Hid (u.ownsRow 0 112 2 (.slice N Q.length O) Q.length (aW Q)):=ae HQR.out V.out.be;obtain⟨g,rfl,hg,hc,bA⟩:=aA iF.out;have c0:=bA _ _ (bN Q k Y).1;have c1:=bA _ _ (bN Q k Y).2;have lF:Hid (Below w.heap.size w u):=jP.out.trans (V.out.be.mono jP.out.size);obtain⟨t,Xo,YV⟩:∃t,t∈G/\t.nm=(Q[k]).1:=by
     obtain⟨t,ht,e⟩:=aax.1 (Xl.out Q[k] ((q.out.2.2.2 _).1 (IN Y)));exact⟨t,ht,e⟩
    have Zq:Hid (da (Q.take (k+1)) G=da (Q.take k) G++t.L.map λr=>(t.nm,r)):=by
     have e:=LO Y G;rw[<-YV,zM HG.out.names Xo]at e;exact e
    have HTM:Hid (t.nm∈E.map HT.nm):=by
     have e:E.map HT.nm=(E.map mK).map Prod.fst:=by rw[aey];rfl
     rw[e,PS.out,YV];exact aax.2 ⟨Q[k],by simp,rfl⟩
    have HTL:Hid (t.L.length<=1000):=HGT.out t Xo;have Sx:Hid ((En.db (En.cL (F:=En.ba)) (da (Q.take k) G)).found.length<=24000):=by
     have y:=En.mW (da (Q.take k) G) (En.cL (F:=En.ba));have h2:=AH Q k G;have h3:=jy.out;have h4:(En.cL (F:=En.ba)).found.length=0:=rfl;have h5:(En.db (En.cL (F:=En.ba)) (da (Q.take k) G)).found.length<=24000:=by omega
     exact h5
    have H3L:Hid (uW t.L):=(cW.rows (HG.out.cK t Xo)).three;rw[<-YV]at c0;have ot:∀W:World,Below u.heap.size u W->(Instr.lookup 102 (.map (some gm)) (.string t.nm) false).run prog W=.ok (.pointer (some ⟨t.g,0,none⟩)) W:=λW D=>((HG.out.below lF.out).below D).map.look (kK HG.out.names Xo) (HG.out.short t Xo) aec (Tryz.DE W);have rE:=ot (u.alloc (.cells #[.string t.nm,.int .i64 (Q[k]).2] 112)) aM;have VS:Hid (∀W,Below u.heap.size u W->Calls prog 133 #[.pointer (some ⟨t.g,0,none⟩)] W λe w2=>∃rd' rc',e=.returned (.slice rd' t.L.length rc')/\w2.ownsRow W.heap.size 119 3 (.slice rd' t.L.length rc') t.L.length (aT t.L)/\Below W.heap.size W w2):=λW D=>ED W t.g t.nm t.pl t.rd t.rc t.L [] (((HG.out.below lF.out).below D).cK t Xo) (by have:=HTL.out;omega);generalize (Q[k]).2=pp at c1 rE;clear bA ot YV Xo
    go_wp2_with (go_at_call 133;refine(VS.out _ (by exact aM)).mono ?_;rintro e w2 ⟨rd',rc',rfl,Fk,cX⟩)
    have YB:Below u.heap.size u w2:=aM.trans (cX.mono (by simp));have HP2:Hid (w2.heap[u.heap.size]?=some (.cells #[.string t.nm,.int .i64 pp] 112 (0,0))):=by
     rw[cX.block _ (by simp)];exact By _ _
    obtain⟨fd,fc,T,H,M,Hx⟩:=V.out.at_;have R0:Hid (qp w2 sb mb (.slice rd l.length rc) fd fc T (En.db En.cL (da (Q.take k) G))):=H.below YB;have HNF:Hid (∀b,b∈eF sb fd fc (En.db (En.cL (F:=En.ba)) (da (Q.take k) G)).found.length T->b<u.heap.size):=λb hb=>by
     obtain⟨cur,U,e,_⟩:=lW H hb;exact lt_of_heap e
    have HK:=aj M;have HF:=aj Hx;have aaa:Hid (Below w1.heap.size w1 w2):=V.out.be.trans (YB.mono V.out.be.size);have U0:Hid (w2.ownsRow (u.heap.size+1) 119 3 (.slice rd' t.L.length rc') t.L.length (aT t.L)):=by
     have:=Fk;rw[abb]at this;exact this
    have arx:=aH Fk;have Zl:Hid (∀f,(En.db (En.cL (F:=En.ba)) (da (Q.take k) G)).count f=0):=λf=>by rw[En.lQ];rfl
    have HGS:Hid (En.db (En.db En.cL (da (Q.take k) G)) (t.L.map λr=>(t.nm,r))=En.db En.cL (da (Q.take (k+1)) G)):=by
     have h9:En.db (En.db En.cL (da (Q.take k) G)) (t.L.map λr=>(t.nm,r))=En.db En.cL (da (Q.take (k+1)) G):=by rw[Zq.out,En.CT]
     exact h9
    generalize En.db (En.cL (F:=En.ba)) (da (Q.take k) G)=s at R0 HNF HF Sx Zl HGS;clear H M Hx Fk cX YB c0 c1 rE VS V iF
    go_loopw [34] (λi wr=>∃j:Nat,j<=t.L.length/\i=.int .i64 j/\kj w2 wr sb mb (.slice rd l.length rc) fd fc T s (En.db s ((t.L.take j).map λr=>(t.nm,r)))) (λi _=>t.L.length-(intOf i).toNat)
    ·exact⟨0,IS _,rfl,kj.refl R0.out⟩
    ·
     obtain⟨j,hj,rfl,kM⟩:=hrel;have rM:=aj kM;clear kM;by_cases Et:j<t.L.length
     ·have hrw:wr.ownsRow (u.heap.size+1) 119 3 (.slice rd' t.L.length rc') t.L.length (aT t.L):=by
       refine rM.out.kept.row U0.out ?_;intro b hb hm;have y:=HNF.out b hm;have h2:=(U0.out.lt b hb).1;omega
      obtain⟨g3,rfl,Cx,tF,tC⟩:=aA hrw;obtain⟨a,b,c,X4⟩:=xR (H3L.out _ (IN Et));obtain⟨r0,r1,r2⟩:=nE H3L.out Et X4;have r0:=tC _ _ r0;have r1:=tC _ _ r1;have r2:=tC _ _ r2;have Nw:wr.heap[u.heap.size]?=some (.cells #[.string t.nm,.int .i64 pp] 112 (0,0)):=by
       refine rM.out.kept.heap HP2.out ?_;intro hm;have:=HNF.out _ hm;omega
      have p0:=mA Nw;have Bs:=lt_of_heap Nw;have uS:Hid (En.db s ((t.L.take (j+1)).map λr=>(t.nm,r))=En.hold (En.db s ((t.L.take j).map λr=>(t.nm,r))) (t.nm,[a,b,c]) 0):=by
       have e0:t.L.take (j+1)=t.L.take j++[t.L[j]]:=by rw[aaZ,AS Et];rfl
       rw[e0,aa6,X4];exact En.ID _ _ _
      have uC:Hid (∀W:World,Below wr.heap.size wr W->Calls prog 187 #[.pointer (some ⟨sb,0,none⟩),.agg #[.string t.nm,.string a,.string b,.string c],.int .i64 0] W λe w'=>e=.returned (.tuple #[])/\Hid (kj w2 w' sb mb (.slice rd l.length rc) fd fc T s (En.db s ((t.L.take (j+1)).map λr=>(t.nm,r))))):=by
       intro W D;obtain⟨Jn,JC,T1,iS,mF,AF⟩:=rM.out.on;obtain⟨A,t',B,hT1,S3⟩:=nJ (T:=T1) (p:=t.nm) (by rw[kE (mF.trans HK.out)];exact HTM.out);subst hT1;have qH:=En.Gi ((t.L.take j).map λr=>(t.nm,r)) s;have Pc:=En.mW ((t.L.take j).map λr=>(t.nm,r)) s;have arn:((t.L.take j).map λr=>(t.nm,r)).length<=1000:=by
        have:=HTL.out;simp;omega
       have MJ:=Sx.out;have CH:=Cf W sb mb _ Jn JC A B t' _ (iS.below D) a b c 0 (by omega) (λf=>by rw[En.lQ,Zl.out f];decide);rw[<-S3]at CH;refine CH.mono ?_;rintro e w' ⟨rfl,jR⟩;refine⟨rfl, ?_⟩;rw[uS.out];exact kj.trans R0.out (iS.below D) mF AF (rM.out.kept.below D) (rM.out.post D).cells qH jR
      clear hrw tC Nw X4
      go_wp2_with (go_at_call 187;refine(uC.out _ (by exact aM)).mono ?_;rintro e w6 ⟨rfl,Yz⟩)
      go_roundw
      ·exact⟨j+1,by omega,by go_num,Yz.out⟩
      ·simp[intOf];omega
     ·have hje:j=t.L.length:=by omega
      have kG:Hid (yw w1 wr sb mb (.slice rd l.length rc) (E.map HT.key) (En.db En.cL (da (Q.take (k+1)) G))):=by
       have y:=rM.out;rw[hje,abS,HGS.out]at y;exact yw.on aaa.out HK.out HF.out y
      clear hje
      go_wp2_with fail
      go_roundw
      ·exact⟨k+1,by omega,by go_num,kG.out⟩
      ·simp[intOf];omega
   ·have Kc:k=Q.length:=by omega
    have J:Hid (yw w1 u sb mb (.slice rd l.length rc) (E.map HT.key) (En.db En.cL (da Q G))):=by
     have:=V.out;rw[Kc,abS]at this;exact this
    clear V Kc;have Hl:Hid (∀W:World,Below w1.heap.size w1 W->gW W rd rc l):=λW D=>(HL.out.below jP.out).below D;have HTN:Hid (∀T:List HT,T.map HT.key=E.map HT.key->∀r,r∈l->r.head.1.pred∈T.map HT.nm):=by
     intro T hT r hr;have e:E.map HT.nm=(E.map mK).map Prod.fst:=by rw[aey];rfl
     rw[kE hT,e,PS.out];have hm:lK r.head.1∈bo (l.map MR.aw):=by
      unfold bo;refine aax.2 ⟨r.head.1,aa9.2 ⟨r.aw,aax.2 ⟨r,hr,rfl⟩, ?_⟩,rfl⟩;simp[Ax.aI.atoms,MR.aw]
     have hq:=(q.out.2.2.2 _).2 hm;exact aax.2 ⟨lK r.head.1,by simpa using hq,rfl⟩
    have RO:=An Js jy.out;have eB:Hid (Calls prog 188 #[.pointer (some ⟨sb,0,none⟩)] u λe w3=>e=.returned (.tuple #[])/\Hid (yw w1 w3 sb mb (.slice rd l.length rc) (E.map HT.key) (mstart (l.map MR.aw) (da Q G)))):=by
     obtain⟨fd,fc,T,H,M,Hx⟩:=J.out.at_;have y:=En.mW (da Q G) (En.cL (F:=En.ba));have h4:(En.cL (F:=En.ba)).found.length=0:=rfl;have h5:=jy.out;refine(D5 u sb mb rd rc l fd fc T H (Hl.out _ J.out.be) (HTN.out T M) (by omega) (by omega) (λf=>by rw[En.lQ];have:(En.cL (F:=En.ba)).count f=0:=rfl;omega)).mono ?_;rintro e w3 ⟨rfl,jR⟩;exact⟨rfl,yw.on J.out.be M Hx jR⟩
    have uu:Hid (bB (l.map MR.aw) (da Q G)=En.search ((l.map MR.aw).map En.dy) 200 (202-0) 0 (mstart (l.map MR.aw) (da Q G))):=(rfl:bB (l.map MR.aw) (da Q G)=_);generalize ZE:bB (l.map MR.aw) (da Q G)=Vb at uu;have HMS:=aj ZE;clear ZE;clear J
    go_wp2_with (go_at_call 188;refine eB.out.mono ?_;rintro e w3 ⟨rfl,HM3⟩)
    have HL0:Hid (OL w1 w3 sb mb (.slice rd l.length rc) (E.map HT.key) ((l.map MR.aw).map En.dy) 0 (mstart (l.map MR.aw) (da Q G)) Vb):=⟨HM3.out,uu.out.symm,by omega,RO.1,λf=>by have:=RO.2 f;omega⟩;clear RO HM3 eB uu
    go_loopw [12] (λi wr=>∃(n:Nat) (s:En.dH En.ba),i=.int .i64 n/\OL w1 wr sb mb (.slice rd l.length rc) (E.map HT.key) ((l.map MR.aw).map En.dy) n s Vb) (λi _=>202-(intOf i).toNat)
    ·exact⟨0,_,rfl,HL0.out⟩
    ·
     obtain⟨n,s,rfl,RV⟩:=hrel;have Z:=aj RV;obtain⟨fd,fc,T,H,M,Hx⟩:=RV.rel.at_;have als:=RV.le;have hf3:=RV.found;have HSA:=aj H;have Zr:=aj M;have Zc:=aj Hx;have s2:=rq H.aY;have s1:=ow H.aY;have VE:=lt_of_heap H.aY;have xx:Hid (Below w.heap.size w wr):=jP.out.trans (RV.rel.be.mono jP.out.size);clear RV H M Hx HL0;by_cases X:n<s.found.length
     ·by_cases adk:200<s.found.length
      ·have uc:Hid (Vb=none):=by
        have y:=Z.out.res;rw[show 202-n=(201-n)+1 by omega,En.uI X adk]at y;exact y.symm
       go_wp2_with fail
       go_ret2
       exact⟨Q,⟨q.out.2.2.1,q.out.2.2.2⟩,⟨xx.out,.inr ⟨rfl,by rw[HMS.out,uc.out]⟩⟩⟩
      ·obtain⟨m1,m2,m3,m4⟩:=Pz Js HL.out.two X (by omega) Z.out.count;have S0:Hid (En.search ((l.map MR.aw).map En.dy) 200 (202-(n+1)) (n+1) (En.meet ((l.map MR.aw).map En.dy) s n)=Vb):=by
        have y:=Z.out.res;rw[show 202-n=(202-(n+1))+1 by omega,En.BX X (by omega)]at y;exact y
       have Ho:Hid (Calls prog 189 #[.pointer (some ⟨sb,0,none⟩),.int .i64 n] wr λe w5=>e=.returned (.tuple #[])/\Hid (OL w1 w5 sb mb (.slice rd l.length rc) (E.map HT.key) ((l.map MR.aw).map En.dy) (n+1) (En.meet ((l.map MR.aw).map En.dy) s n) Vb)):=by
        have XI:s.found.take (n+1)=s.found.take n++[s.found[n]]:=by rw[aaZ,AS X];rfl
        refine(PU wr sb mb rd rc l fd fc T s HSA.out (Hl.out _ Z.out.rel.be) (HTN.out T Zr.out) (by omega) (s.found.take n) s.found[n] n (by simp;omega) X XI (by omega) (λf=>by have:=Z.out.count f;omega)).mono ?_;rintro e w5 ⟨rfl,jR⟩;rw[m2]at jR;exact⟨rfl,yw.on Z.out.rel.be Zr.out Zc.out jR,S0.out,by omega,m3,m4⟩
       clear m1 m2 m3 m4
       go_wp2_with (go_at_call 189;refine Ho.out.mono ?_;rintro e w5 ⟨rfl,HM5⟩)
       go_roundw
       ·exact⟨n+1,_,by go_num,HM5.out⟩
       ·simp[intOf];omega
     ·have uc:Hid (Vb=some s):=by
       have y:=Z.out.res;rw[show 202-n=(201-n)+1 by omega,En.xL X]at y;exact y.symm
      go_wp2_with fail
      go_ret2
      exact⟨Q,⟨q.out.2.2.1,q.out.2.2.2⟩,⟨xx.out,.inl ⟨mb,T,s,rfl,by rw[HMS.out,uc.out],HSA.out.toH,by rw[Td Zr.out];exact PS.out,λb hb=>aaK jP.out.size (LK R9 Zc.out b hb)⟩⟩⟩
end
/- Package record: Content. -/
theorem Hs{B v l}(h:w.ownsRow B 5 1 v n (Rc.dP l))(i:l≠[]):(convert 63 9 v).run prog w=.ok (.string ⟨l.toArray⟩) w:=by
 have e:l.length=n:=by have:=h.1;rw[Rc.dX]at this;omega
 have x:0<l.length:=List.length_pos_iff.2 i;obtain⟨vd,vc,rfl⟩:=ah h;obtain⟨g,rfl,y,A,u⟩:=aA h;subst e;refine run_convert_bytes_back w 63 9 5 ⟨g,0,none⟩ vc l aci adY abK ?_;intro j q;have t:(⟨g,0,none⟩:Addr).add j=⟨g,j,none⟩:=by unfold Addr.add;split<;>simp_all
 rw[t];refine u j _ ?_;rw[Rc.dP,ab3,AS q];rfl
theorem Rc.Lr(l):Rc.dK l≠[]:=by
 unfold Rc.dK Rc.ew;split<;>simp
theorem Gt(w cd cc ay gd gc gone)(D:bJ w cd cc ay)(A:bJ w gd gc gone)(u:mj ay)(E:mj gone):
 Calls prog 69 #[.slice cd ay.length cc,.slice gd gone.length gc] w λe w'=>e=.returned (.string ⟨(Rc.jK ay gone).toArray⟩)/\Below w.heap.size w w':=by
 have H:=nZ w.heap.size w (.slice none 0 0) 0 [] cd cc ay D u (aaM _ _ _ _) (OF _) (by omega);have y:Hid (∀w1 i n1,Nv w.heap.size w w1 i n1 ([]++Rc.dP (Rc.dK ay))->Calls prog 129 #[i,.slice gd gone.length gc] w1 λe w2=>∃j,e=.returned j/\(convert 63 9 j).run prog w2=.ok (.string ⟨(Rc.jK ay gone).toArray⟩) w2/\Hid (Below w.heap.size w w2)):=by
  intro w1 i n1 q;have I:n1<=10000000000:=by
   have M:=q.len;have J:=u.facts ay.length;have U:=Rc.lN ay.length (by have:=u.my;omega);rw[abS]at J;rw[acp,Rc.dX,Rc.dK,If]at M;omega
  refine(nZ w.heap.size w1 i n1 _ gd gc gone (A.below q.be) E q.own q.be.size I).mono ?_;rintro e w2 ⟨j,n2,rfl,t⟩;refine⟨j,rfl, ?_,q.be.trans t.be⟩;refine Hs (B:=w.heap.size) (n:=n2) ?_ ?_
  ·have:=t.own;rw[acp,<-Rc.qn]at this;exact this
  ·have:=Rc.Lr ay;unfold Rc.jK;simp[this]
 clear D A u E;generalize Rc.jK ay gone=cb at y;have F:Hid (Calls prog 129 #[.slice none 0 0,.slice cd ay.length cc] w λe w1=>∃i,e=.returned i/\Calls prog 129 #[i,.slice gd gone.length gc] w1 λe w2=>∃j,e=.returned j/\(convert 63 9 j).run prog w2=.ok (.string ⟨cb.toArray⟩) w2/\Hid (Below w.heap.size w w2)):=by
  refine H.mono ?_;rintro e w1 ⟨i,n1,rfl,x⟩;exact⟨i,rfl,y.out w1 i n1 x⟩
 clear H y
 go_enter func69,ntmps69
 go_wp2_with (go_at_call 129;first | (refine F.out.mono ?_;rintro e w1 ⟨i,rfl,O⟩;clear F) | (refine O.mono ?_;rintro e w2 ⟨j,rfl,V,N⟩))
 go_ret;exact⟨rfl,N.out⟩
/- Package digest: words turned; a round. -/
namespace Dg
def qx(s:Nat->Int):Array Value:=#[.int .u32 (s 0),.int .u32 (s 1),.int .u32 (s 2),.int .u32 (s 3),.int .u32 (s 4),.int .u32 (s 5),.int .u32 (s 6),.int .u32 (s 7)]
end Dg
/- Package digest: a word of four bytes; rows of words. -/
theorem Kb.drewN{S w'}(h:Kb S w w')(n:Nat):Kb S w (w'.drewN n):=⟨h.os,h.tape,h.output,h.size,h.block⟩
theorem wpList_store_row{P q rest o a}{Q:Exit->Act->World->Prop}(E:o.guard=none)(u x y)(H:o.op=.store u x y)
 (g)(F:a.eval x=.pointer (some ⟨g,0,none⟩))(cs)(hy:a.eval y=.agg cs){t}(j)(I:w.heap[g]?=some (.cells j t (0,0)))(hs:cs.size=j.size)(D:(P.info? u).map (·.size)=some cs.size)(N:∀v∈cs.toList,v.oneCell'=true)
 (h:wpList P q Q rest (a.put o.dst undef) (w.setRow g cs)):wpList P q Q (o::rest) a w:=by
 refine wpList_plain E λK M=>?_;have B:=run_storeCells_at P g 0 t cs.toList 0 j w I (by simp;omega) N;have e:(j.toList.take 0++cs.toList++j.toList.drop (0+cs.toList.length)).toArray=cs:=by grind
 simp only[acV]at B;rw[e]at B;cases A:P.info? u with
 | none=>simp[A]at D
 | some i=>
  have O:i.size=cs.size:=by simpa [A]using D
  have J:(Value.agg cs).cells=cs:=rfl;unfold Oper.wp execOp;simp[H,F,hy,Instr.storeAt,Instr.sureAddr,storeVar,J,sizeOf,typeInfo,A,O,B];exact M _ _ h
namespace Dg
theorem xq(n k)(f:Nat->Int):∀v∈(((List.range n).map λi=>Value.int k (f i)).toArray).toList,v.oneCell'=true:=by
 intro v e;simp only[adJ,aax]at e;obtain⟨i,_,rfl⟩:=e;rfl
def eu(n:Nat)(k:IntKind)(f:Nat->Int):Array Value:=((List.range n).map λi=>Value.int k (f i)).toArray
def tI(f:Nat->Int)(i:Nat)(v:Int):Nat->Int:=λj=>if j=i then v else f j
theorem dQ(n k)(f:Nat->Int):(eu n k f).size=n:=by simp[eu]
theorem FO{f:Nat->Int}(h:i<n):(eu n k f)[i]?=some (.int k (f i)):=by simp[eu,h]
theorem Pw{f:Nat->Int}(h:i<n)(v):(eu n k f).setIfInBounds i (.int k v)=eu n k (tI f i v):=by grind [eu,tI]
theorem oU{f:Nat->Int}(e:w.heap[g]?=some (.cells (eu n k f) T (0,0)))(h:i<n):w.cell? ⟨g,i,none⟩=some (.int k (f i)):=by
 rw[aaB _ _ _ _ _ _ e,FO h]
theorem Bd{f:Nat->Int}(e:w.heap[g]?=some (.cells (eu n k f) T (0,0)))(h:i<n)(v):(w.setCell ⟨g,i,none⟩ (.int k v)).heap[g]?=some (.cells (eu n k (tI f i v)) T (0,0)):=by
 rw[aC w e,Pw h]
theorem nN{cs}(e:w.heap[g]?=some (.cells cs T (0,0)))(i):w.frozen? ⟨g,i,none⟩=false:=by simp[World.frozen?,e]
end Dg
/- Package digest: behind. -/
namespace Dg
def EA(w:World)(K:Nat->Int):Prop:=∀i,i<64->w.cell? ⟨0,i,none⟩=some (.int .u32 (K i))
theorem EA.below{w'}{K:Nat->Int}(h:EA w K)(j:Below w.heap.size w w'):EA w' K:=λi e=>by
 rw[j.cell (abT (h i e))];exact h i e
end Dg
theorem BI{f:Nat->Int}(j:prog.underlying T=some (.array n 228))(W)(e:i<n):(Instr.index T (.agg (Dg.eu n .u32 f)) (.int .i64 i)).run prog W=.ok (.int .u32 (f i)) W:=by
 have w:=acQ j W;have u:=Tryz.sizeOf228 W;have t:=Tryz.isAgg228 W;have q:=Dg.FO (k:=.u32) (f:=f) e;simp[Instr.index,asIntOf,w,u,part,t,e,q]
theorem XZ(w){j i e q}:Below w.heap.size w ((((w.alloc j).alloc i).alloc e).alloc q)/\((((w.alloc j).alloc i).alloc e).alloc q).heap.size=w.heap.size+4/\
 ((((w.alloc j).alloc i).alloc e).alloc q).heap[w.heap.size]?=some j/\((((w.alloc j).alloc i).alloc e).alloc q).heap[w.heap.size+1]?=some i/\((((w.alloc j).alloc i).alloc e).alloc q).heap[w.heap.size+1+1]?=some e/\((((w.alloc j).alloc i).alloc e).alloc q).heap[w.heap.size+1+1+1]?=some q:=by
 refine⟨((aM.alloc (by simp) _).alloc (by simp only[abb];omega) _).alloc (by simp only[abb];omega) _,by simp, ?_, ?_, ?_, ?_⟩
 ·rw[aay _ _ _ (by simp only[abb];omega),aay _ _ _ (by simp only[abb];omega),aay _ _ _ (by simp)];exact By w _
 ·rw[aay _ _ _ (by simp only[abb];omega),aay _ _ _ (by simp only[abb];omega)];exact nH w _ _
 ·rw[aay _ _ _ (by simp)];have:=nH (w.alloc j) i e;simpa using this
 ·have:=nH ((w.alloc j).alloc i) e q;simpa using this
/- Package digest: schedule. -/
namespace Dg
theorem WC:eu 64 .u32 (λ_=>0)=#[.int .u32 0,.int .u32 0,.int .u32 0,.int .u32 0,.int .u32 0,.int .u32 0,.int .u32 0,.int .u32 0,.int .u32 0,.int .u32 0,.int .u32 0,.int .u32 0,.int .u32 0,.int .u32 0,.int .u32 0,.int .u32 0,.int .u32 0,.int .u32 0,.int .u32 0,.int .u32 0,.int .u32 0,.int .u32 0,.int .u32 0,.int .u32 0,.int .u32 0,.int .u32 0,.int .u32 0,.int .u32 0,.int .u32 0,.int .u32 0,.int .u32 0,.int .u32 0,.int .u32 0,.int .u32 0,.int .u32 0,.int .u32 0,.int .u32 0,.int .u32 0,.int .u32 0,.int .u32 0,.int .u32 0,.int .u32 0,.int .u32 0,.int .u32 0,.int .u32 0,.int .u32 0,.int .u32 0,.int .u32 0,.int .u32 0,.int .u32 0,.int .u32 0,.int .u32 0,.int .u32 0,.int .u32 0,.int .u32 0,.int .u32 0,.int .u32 0,.int .u32 0,.int .u32 0,.int .u32 0,.int .u32 0,.int .u32 0,.int .u32 0,.int .u32 0]:=rfl
end Dg
/- Package digest: pad. -/
theorem JX(s)(hs:s.size<=maxLen):nQ (Lib.bytesWorld w 5 s) w.heap.size 5 (.slice (some ⟨w.heap.size,0,none⟩) s.size (grownCap w s.size 0 5)) s.size (byteCells s)/\Below w.heap.size w (Lib.bytesWorld w 5 s):=by
 have i:=grownCap_ge w s.size 0 5;have e:grownCap w s.size 0 5<=maxLen:=grownCap_le_maxLen w s.size 0 5 hs;have u:(Lib.bytesCells w 5 s).size=grownCap w s.size 0 5:=by
  simp[Lib.bytesCells];omega
 refine⟨⟨by simp[byteCells],w.heap.size,_,_,_,rfl,OF _,Lib.bytesWorld_at_new w 5 s,.inr (OF _),i,e,u, ?_⟩,⟨rfl,rfl,rfl,by rw[Lib.bytesWorld_size];omega,λk j=>Lib.bytesWorld_at_old w 5 s k j⟩⟩;unfold Lib.bytesCells byteCells;rw[aeo];have t:(s.data.map λb=>Value.int .u8 (b.toNat:Int)).toList=s.data.toList.map λb=>Value.int .u8 (b.toNat:Int):=by simp
 rw[t];have q:(s.data.toList.map λb=>Value.int .u8 (b.toNat:Int)).length=s.size:=by simp
 rw[<-q];exact List.take_left
namespace Dg
def zc(n:Nat):Nat:=(119-n%64)%64
theorem TZ(n):(n+1+zc n)%64=56/\∀j,j<zc n->(n+1+j)%64≠56:=by grind [zc]
end Dg
theorem Q6{f:Nat->Int}(i:w.heap[g]?=some (.cells (Dg.eu n k f) T (0,0))):∀j u,(Dg.eu n k f).toList[j]?=some u->w.cell? ((⟨g,0,none⟩:Addr).add j)=some u:=by
 intro j u e;have q:(⟨g,0,none⟩:Addr).add j=⟨g,j,none⟩:=by unfold Addr.add;split<;>simp_all
 rw[q,aaB _ _ _ _ _ _ i];simpa using e
theorem Bf{w1 w2 v t m xs q o}(h:nQ w1 w.heap.size 5 v n xs)(i:Below w.heap.size w w1)(y:nQ w2 w.heap.size 5 t m q)(u:(w1.alloc o).grownBy w2 v.ownBlock):Below w.heap.size w w2:=by
 refine(i.alloc i.size o).grown u (by have:=i.size;simp;omega) ?_;intro k j;obtain⟨g,cap,e,x,_⟩:=h.lt;rw[e]at j;simp only[Value.ownBlock,AT]at j;omega
/- Package digest: Of. -/
namespace Dg
def iv(i:Nat):Int:=match i with | 0=>1779033703 | 1=>3144134277 | 2=>1013904242 | 3=>2773480762 | 4=>1359893119 | 5=>2600822924 | 6=>528734635 | _=>1541459225
theorem Hv:eu 32 .u8 (λ_=>0)=#[.int .u8 0,.int .u8 0,.int .u8 0,.int .u8 0,.int .u8 0,.int .u8 0,.int .u8 0,.int .u8 0,.int .u8 0,.int .u8 0,.int .u8 0,.int .u8 0,.int .u8 0,.int .u8 0,.int .u8 0,.int .u8 0,.int .u8 0,.int .u8 0,.int .u8 0,.int .u8 0,.int .u8 0,.int .u8 0,.int .u8 0,.int .u8 0,.int .u8 0,.int .u8 0,.int .u8 0,.int .u8 0,.int .u8 0,.int .u8 0,.int .u8 0,.int .u8 0]:=rfl
end Dg
theorem LF(w):Calls prog 117 #[] w λe w'=>e=.returned (.agg (Dg.qx Dg.iv))/\Below w.heap.size w w':=by
 go_enter func117,ntmps117
 go_wp2_with fail
 refine aaT (v:=.agg (Dg.qx Dg.iv)) ?_ rfl ⟨rfl,aM⟩;exact results_cell_row rfl _ _ _ _ _ _ _ rfl (By w _) Tryz.underlying230 rfl (by kernel_rfl)
theorem Mt(W)(g k:Nat)(h:k<8):(Instr.sliceAt 105 (.pointer (some ⟨g,0,none⟩)) (some (.int .i64 (4*(k:Int)))) none none).run prog W=.ok (.slice (some ⟨g,4*k,none⟩) (32-4*k) (32-4*k)) W:=by
 have q:(0:Int)<=4*(k:Int):=by omega
 have u:(4*(k:Int)).toNat=4*k:=by omega
 have j:4*(k:Int)<=32:=by omega
 have i:¬32=4*k:=by omega
 have t:(⟨g,0,none⟩:Addr).add (4*k)=⟨g,4*k,none⟩:=by unfold Addr.add;split<;>simp_all
 have e:=acQ Tryz.underlying105 W;have w:=Tryz.sizeOf5 W;unfold Instr.sliceAt;simp[e,Instr.sureAddr,Instr.sliceBounds,Instr.sliceBound,asIntOf,q,u,j,i,w,t]
/- Package record: Append. -/
theorem G6(B w v n xs content hd)(D:w.ownsRow B 5 1 v n xs)(hB:B<=w.heap.size)(hn:n<=50000000000)(hc:content.size<=1000000000)(hl:hd.length=32):
 Calls prog 71 #[v,.string content,.agg (Rc.dP hd).toArray] w λe w'=>∃v' n',e=.returned v'/\Nv B w w' v' n' (xs++Rc.dP (Rc.bU content++hd))/\Kb v.ownBlock.toList w w'/\aZ w v v':=by
 obtain⟨i0,fC,cE,ch,cz⟩:=abF Tryz.mE;have HI:=aj fC;have H0:=aj cE;have H1:=aj ch;have H2:=aj cz;clear fC cE ch cz;obtain⟨vd,vc,XL⟩:=ah D;subst XL;obtain⟨w0,t⟩:∃w0,w0=w.alloc (.cells (Rc.dP hd).toArray 105):=⟨_,rfl⟩;have F:Below B w w0:=by rw[t];exact(aaj _ _).alloc hB _
 have Vc:Lib.OthersKept 5 none w w0:=by rw[t];exact(aeF _ _ _).alloc _
 have J:Below w.heap.size w w0:=by rw[t];exact aM
 have M:w0.heap[w.heap.size]?=some (.cells (Rc.dP hd).toArray 105 (0,0)):=by rw[t];exact By w _
 have Z:w0.ownsRow B 5 1 (.slice vd n vc) n xs:=by rw[t];exact D.alloc _
 have nP:xs.length=n:=by have:=D.1;omega
 have I:(Rc.dP hd).length=32:=by rw[Rc.dX,hl]
 have y:B<=w0.heap.size:=aaK hB F.size;have Y6:Hid (∀W:World,Below w0.heap.size w0 W->Calls prog 77 #[.slice vd n vc,.string content] W λe w1=>∃i n1,e=.returned i/\n1<=60000000000/\w1.ownsRow B 5 1 i n1 (xs++Rc.dP (Rc.bU content))/\B<=w1.heap.size/\w.heap.size<w1.heap.size/\Hid (∀j u,(Rc.dP hd)[j]?=some u->w1.cell? ((⟨w.heap.size,0,none⟩:Addr).add j)=some u)/\Hid (Below B w w1/\Lib.OthersKept 5 none w w1/\Kb (Value.slice vd n vc).ownBlock.toList w w1/\aZ w (.slice vd n vc) i)):=by
  intro W q;have x:B<=W.heap.size:=aaK y q.size;refine(qZ B W (.slice vd n vc) n xs content (ae Z q) x (by omega) (by omega)).mono ?_;rintro e w1 ⟨i,n1,rfl,Y,X,V,q4,q5⟩;have O:w1.heap[w.heap.size]?=some (.cells (Rc.dP hd).toArray 105 (0,0)):=V w.heap.size _ (by rw[q.block _ (lt_of_heap M)];exact M) (by simp) (λc fz e=>by simp at e);have FX:n1<=60000000000:=by
   have h1:=Y.1;have h2:=Rc.lN content.size (by omega);rw[If,Rc.dX,Rc.bU,If]at h1;simp at h1;omega
  refine⟨i,n1,rfl,FX,Y,aaK x X.size,lt_of_heap O, ?_,⟨(F.trans (q.mono y)).trans X,eT (eT Vc (eH q)) V,(Kb.bD (J.trans (q.mono J.size)) _).trans q4,q5.mono (aaK J.size q.size)⟩⟩;exact abC O
 clear D Z F Vc M
 go_enter func71,ntmps71
 go_wp2_with fail
 rw[<-t];clear t
 go_region_held3 (λ_=>True) (trivial) (first | (go_at_call 77;refine(Y6.out _ (by exact(aaj _ _).drew)).mono ?_;rintro e w1 ⟨i,n1,rfl,FX,H,Vj,IU,N,E⟩) | (refine aed _ rfl (.tmp 9) (.tmp 10) 63 rfl B 5 i0 _ 1 1 aci HI.out H0.out H1.out H2.out rfl (by decide) i n1 (xs++Rc.dP (Rc.bU content)) (by simp[Act.eval,Act.put]) (by exact H) ⟨w.heap.size,0,none⟩ 32 32 (Rc.dP hd) (by simp[Act.eval,Act.put]) (by rw[I]) (by exact N.out) (Rc.wP hd) (by decide) eI (by omega) (by exact Vj) w1.heap.size rfl ?_;intro g2 U w2 aO A N7 zK))
 all_goals
  (have cX:Below B w w2:=E.out.1.grown A Vj (λk hk=>(H.lt k hk).1)
   have Kw:Lib.OthersKept 5 none w w2:=E.out.2.1.grown A (au H);have ZN:Hid (Kb (Value.slice vd n vc).ownBlock.toList w w2/\aZ w (.slice vd n vc) (.slice (some ⟨g2,0,none⟩) (n1+32) U)):=KR E.out.2.2.1 E.out.2.2.2 A (λb hb=>by
    simp only[Value.ownBlock,AT]at hb;subst hb;rcases N7 with h | h
    ·exact .inl h
    ·exact .inr (by omega))
   have rM:Hid (Nv B w w2 (.slice (some ⟨g2,0,none⟩) (n1+32) U) (n1+32) (xs++Rc.dP (Rc.bU content++hd))):=⟨by rw[Rc.qn,<-aa8];exact aO,cX,Kw⟩;clear A aO cX Kw
   go_wp2_with fail
   go_ret;exact⟨_,_,rfl,rM.out,ZN.out⟩)
