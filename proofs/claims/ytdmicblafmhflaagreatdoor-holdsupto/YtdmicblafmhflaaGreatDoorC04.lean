/- Hold, walked. -/
import Derived.Test.YtdmicblafmhflaaGreatDoorC03
import Derived.Lib.SliceRun
import Derived.Maps.OwnOps
import Derived.Maps.OwnSet
import Derived.Maps.Views
import Derived.StringKeys
set_option linter.unusedSimpArgs false
set_option linter.unusedVariables false
set_option maxHeartbeats 4000000
set_option maxRecDepth 100000
namespace Go.Proofs.YtdmicblafmhflaaGreatDoor
open Go.Proofs.Tryz Go.RowKit
open Go.Sort (grow)
variable{nm:ByteArray}{L:List (List ByteArray)}{C:List Nat}{g pl rc cc k:Nat}{rd cd:Option Addr}{T:TypeId}{w:World}
structure fL(w:World)(g:Nat)(nm:ByteArray)(pl:Nat)(rd:Option Addr)(rc:Nat)(cd:Option Addr)(cc:Nat)(L:List (List ByteArray))(C:List Nat):Prop where
 qw:cW w g 117 nm pl rd rc L [.slice cd L.length cc]
 kx:w.ownsRow 0 3 1 (.slice cd L.length cc) L.length (cj C)
theorem Du(l):(cj l).length=l.length:=by simp[cj]
theorem DW(l):∀u∈cj l,u.oneCell'=true:=by
 intro u e;obtain⟨x,_,rfl⟩:=aax.1 e;rfl
theorem fL.len(h:fL w g nm pl rd rc cd cc L C):C.length=L.length:=by
 have:=h.kx.1;rw[Du]at this;omega
theorem fL.below{w'}(h:fL w g nm pl rd rc cd cc L C)(e:Below w.heap.size w w'):fL w' g nm pl rd rc cd cc L C:=⟨h.qw.below e,ae h.kx e⟩
def lr(g:Nat)(rd:Option Addr)(rc:Nat)(cd:Option Addr)(cc n:Nat):List Nat:=g::((Value.ownBlock (.slice rd n rc)).toList++(Value.ownBlock (.slice cd n cc)).toList)
theorem fL.kept{w' S}(h:fL w g nm pl rd rc cd cc L C)(j:Kb S w w')(i:∀b,b∈lr g rd rc cd cc L.length->¬b∈S):fL w' g nm pl rd rc cd cc L C:=
 ⟨h.qw.kept j (i g (by simp[lr])) (λb e=>i b (by simp[lr,e])),j.row h.kx (λb e=>i b (by simp[lr,e]))⟩
theorem aP{B e n v xs}(h:w.ownsRow B e k v n xs){b}(j:v.ownBlock=some b):∃i,w.heap[b]?=some (.cells i e (0,0)):=by
 rcases h.2 with⟨rfl,_⟩ | ⟨g,cap,i,rfl,_,q,_⟩
 ·cases j
 ·simp only[Value.ownBlock,AT]at j;subst j;exact⟨i,q⟩
theorem KP{W w1}(h:fL w g nm pl rd rc cd cc L C)(y:Below w.heap.size w W)(x:Kb (g::(Value.ownBlock (.slice rd L.length rc)).toList) W w1):
 w1.ownsRow 0 3 1 (.slice cd L.length cc) L.length (cj C)/\Kb (lr g rd rc cd cc L.length) w w1:=by
 have u:=h.below y;refine⟨x.aR u.kx ?_,(Kb.bD y _).trans (x.mono ?_)⟩
 ·intro b A fz j q;rcases BY.1 j with rfl | j
  ·rw[u.qw.aY]at q;simp at q
  ·rw[abh]at j;obtain⟨B,e⟩:=aP u.qw.rows.own j;rw[e]at q;simp at q
 ·intro i t _;rcases BY.1 t with rfl | t
  ·simp[lr]
  ·simp only[lr,BY,ZD];exact .inr (.inl t)
theorem UF{w w1 W q:World}{rd':Option Addr}{rc':Nat}{x:List (List ByteArray)}{M:List Nat}{S:List Nat}
 (N:cW w1 g 117 nm pl rd' rc' x [.slice cd L.length cc])(O:w1.ownsRow 0 3 1 (.slice cd L.length cc) L.length (cj C))(B:Below w1.heap.size w1 W)
 {u cap:Nat}(H:q.ownsRow 0 3 1 (.slice (some ⟨u,0,none⟩) (L.length+1) cap) (L.length+1) (cj M))(E:Kb (Value.ownBlock (.slice cd L.length cc)).toList W q)(J:x.length=L.length+1):
 fL (q.setCell ⟨g,3,none⟩ (.slice (some ⟨u,0,none⟩) (L.length+1) cap)) g nm pl rd' rc' (some ⟨u,0,none⟩) cap x M/\Kb (g::(Value.ownBlock (.slice cd L.length cc)).toList) w1 (q.setCell ⟨g,3,none⟩ (.slice (some ⟨u,0,none⟩) (L.length+1) cap)):=by
 have D:=N.below B;have I:=ae O B;have A:¬g∈(Value.ownBlock (.slice cd L.length cc)).toList:=by
  intro hm;rw[abh]at hm;obtain⟨V,e⟩:=aP I hm;rw[D.aY]at e;simp at e
 have i:cW q g 117 nm pl rd' rc' x [.slice cd L.length cc]:=by
  refine D.kept E A ?_;intro b t hm;rw[abh]at hm;obtain⟨c1,U⟩:=aP I hm;obtain⟨c2,j⟩:=aP D.rows.own t;rw[U]at j;simp at j
 have y:=Kb.setCell q ⟨g,3,none⟩ (.slice (some ⟨u,0,none⟩) (L.length+1) cap);refine⟨⟨⟨?_,⟨i.rows.three,y.row i.rows.own ?_⟩,i.ord,i.type⟩, ?_⟩, ?_⟩
 ·rw[aC q i.aY,J];rfl
 ·intro b t hm;simp only[aae]at hm;subst hm;obtain⟨c2,j⟩:=aP i.rows.own t;rw[i.aY]at j;simp at j
 ·rw[J];refine y.row H ?_;intro b t hm;simp only[aae]at hm;subst hm;obtain⟨c2,j⟩:=aP H t;rw[i.aY]at j;simp at j
 ·refine Kb.trans' ((Kb.bD B _).trans (E.mono ?_)) y ?_
  ·grind
  ·grind
theorem Ky{gc}(h:fL w g nm pl rd rc (some ⟨gc,0,none⟩) cc L C){p}(y:p<L.length)(x:Nat):
 fL (w.setCell ⟨gc,p,none⟩ (.int .i64 x)) g nm pl rd rc (some ⟨gc,0,none⟩) cc L (C.set p x)/\Kb [gc] w (w.setCell ⟨gc,p,none⟩ (.int .i64 x)):=by
 have j:=Kb.setCell w ⟨gc,p,none⟩ (.int .i64 (x:Int));have t:gc≠g:=by
  rintro rfl;obtain⟨c2,i⟩:=aP h.kx (b:=gc) rfl;rw[h.qw.aY]at i;simp at i
 refine⟨⟨h.qw.kept j (by simpa using λe=>t e.symm) ?_, ?_⟩,j⟩
 ·intro b q hm;simp only[aae]at hm;rw[hm]at q;obtain⟨c1,u⟩:=aP h.kx (b:=gc) rfl;obtain⟨c2,i⟩:=aP h.qw.rows.own q;rw[u]at i;simp at i
 ·have:=World.ownsRow.stored h.kx p (.int .i64 (x:Int));have e:cj (C.set p x)=(cj C).set p (.int .i64 (x:Int)):=by
   unfold cj;rw[List.map_set]
  rw[e];exact this.1
theorem QL(w)(g:Nat)(nm)(pl:Nat)(rd)(rc:Nat)(cd)(cc:Nat)(L C a b c)(n:Nat)(h:fL w g nm pl rd rc cd cc L C)(hL:L.length<=999999)(hn:n<=1000)(hC:∀x,x∈C->x<=1000000000000):
 Calls prog 230 #[.pointer (some ⟨g,0,none⟩),.agg #[.string a,.string b,.string c],.int .i64 n] w λe w'=>∃rd' rc' cd' cc',
  e=.returned (.bool (!Tb.eZ L [a,b,c]))/\fL w' g nm pl rd' rc' cd' cc' (Tb.put L [a,b,c]) (Tb.qP L C [a,b,c] n)/\
   Kb (lr g rd rc cd cc L.length) w w'/\aZ w (.slice rd L.length rc) (.slice rd' (Tb.put L [a,b,c]).length rc')/\aZ w (.slice cd L.length cc) (.slice cd' (Tb.put L [a,b,c]).length cc'):=by
 obtain⟨w0,H⟩:∃w0,w0=w.alloc (.cells #[.string a,.string b,.string c] 119):=⟨_,rfl⟩;have cq:Below w.heap.size w w0:=by rw[H];exact aM
 have lJ:w0.heap[w.heap.size]?=some (.cells #[.string a,.string b,.string c] 119 (0,0)):=by rw[H];exact By w _
 have t0:=mA lJ;have t1:=ow lJ;have t2:=rq lJ;have h0:=h.below cq;have t:∀W,W.heap=w0.heap->Calls prog 196 #[.pointer (some ⟨g,0,none⟩),.agg #[.string a,.string b,.string c]] W λe w1=>∃rd' rc',
  e=.returned (.tuple #[.int .i64 (Tb.pos L [a,b,c]:Nat),.bool (!Tb.eZ L [a,b,c])])/\(cW w1 g 117 nm pl rd' rc' (Tb.put L [a,b,c]) [.slice cd L.length cc]/\
   Kb (g::(Value.ownBlock (.slice rd L.length rc)).toList) W w1/\aZ W (.slice rd L.length rc) (.slice rd' (Tb.put L [a,b,c]).length rc'))/\w1.cell? ⟨g,3,none⟩=some (.slice cd L.length cc)/\w1.frozen? ⟨g,3,none⟩=false:=by
  intro W Z;have hT:cW W g 117 nm pl rd rc L [.slice cd L.length cc]:=by
   obtain⟨x1,⟨x2,x3⟩,x4,x5⟩:=h0.qw;refine⟨by rw[Z];exact x1,⟨x2,⟨x3.1, ?_⟩⟩,x4,x5⟩;rw[Z];exact x3.2
  refine(KA W g nm pl rd rc L a b c hT hL).mono ?_;rintro e w1 ⟨rd',rc',rfl,j,M,J⟩;exact⟨rd',rc',rfl,⟨j,M,J⟩,by rw[aaB _ _ 3 _ _ _ j.aY];simp,by simp[World.frozen?,j.aY]⟩
 have ahL:=h.qw.ord;have jy:=lt_of_heap h0.qw.aY;have hCl:=h.len;have MX:=Tb.JG ahL [a,b,c];have q:Hid ((Tb.fA L C [a,b,c]).length=(Tb.put L [a,b,c]).length):=Tb.Ir hCl [a,b,c];cases I:Tb.eZ L [a,b,c]with
 | true=>
  rw[I]at t;have FQ:Tb.put L [a,b,c]=L:=by unfold Tb.put;rw[I];rfl
  have U:Tb.fA L C [a,b,c]=C:=by unfold Tb.fA;rw[I];rfl
  have V:Hid (Tb.qP L C [a,b,c] n=C.set (Tb.pos L [a,b,c]) (C.getD (Tb.pos L [a,b,c]) 0+n)):=by
   have:Tb.qP L C [a,b,c] n=(Tb.fA L C [a,b,c]).set (Tb.pos L [a,b,c]) ((Tb.fA L C [a,b,c]).getD (Tb.pos L [a,b,c]) 0+n):=rfl;rw[U]at this;exact this
  rw[FQ]at t MX ⊢;rw[V.out];generalize Tb.pos L [a,b,c]=ps at t MX ⊢;obtain⟨x,Y⟩:∃x,C[ps]?=some x:=⟨_,AS (by omega)⟩;have hxb:x<=1000000000000:=hC x (adW Y);have B:C.getD ps 0=x:=by rw[ada,Y];rfl
  rw[B];clear lJ I FQ U V q h0 B
  go_enter func230,ntmps230
  go_wp2_with fail
  rw[<-H];have Zz:=aj H;clear H
  go_region_with (go_at_call 196;refine(t _ (by rfl)).mono ?_;rintro e w1 ⟨rd',rc',rfl,hI,k3,kf⟩)
  all_goals
   (obtain⟨j,M,J⟩:=hI
    obtain⟨E,X⟩:=KP h cq.drew M;have hH:fL w1 g nm pl rd' rc' cd cc L C:=⟨j,E⟩;obtain⟨gc,rfl,wQ,Ev,bA⟩:=aA E;have dM:=bA ps _ (show(cj C)[ps]?=some (.int .i64 x) by simp[cj,Y]);have KE:=World.ownsRow.frozenAt E ps;obtain⟨z1,N⟩:=Ky hH MX (x+n);have Ke:((x+n:Nat):Int)=(x:Int)+n:=by omega
    rw[Ke]at z1 N;have tq:=J.mono (w:=w) cq.size;have kJ:=X.trans' N (λi A _=>by simp only[aae]at A;subst A;simp[lr,Value.ownBlock]);have YL:g<w1.heap.size:=lt_of_heap j.aY;clear bA t E X j M J hH N t0 t1 t2 Zz Ke h
    go_wp2_with fail
    go_ret;exact⟨rd',rc',some ⟨gc,0,none⟩,cc,rfl,z1,kJ,tq,aZ.refl _ _⟩)
 | false=>
  rw[I]at t;have U:Tb.fA L C [a,b,c]=C.take (Tb.pos L [a,b,c])++[0]++C.drop (Tb.pos L [a,b,c]):=by unfold Tb.fA;rw[I];rfl
  have Bs:(Tb.put L [a,b,c]).length=L.length+1:=by rw[Tb.sL,I];rfl
  have WA:=Tb.tY L [a,b,c];have B:(Tb.fA L C [a,b,c]).getD (Tb.pos L [a,b,c]) 0=0:=by
   rw[U,aa8,ada,abr (by rw[abv];omega),abv,aeQ (by omega),aew];rfl
  have V:Hid (Tb.qP L C [a,b,c] n=(Tb.fA L C [a,b,c]).set (Tb.pos L [a,b,c]) n):=by
   have:Tb.qP L C [a,b,c] n=(Tb.fA L C [a,b,c]).set (Tb.pos L [a,b,c]) ((Tb.fA L C [a,b,c]).getD (Tb.pos L [a,b,c]) 0+n):=rfl;rw[B,acm]at this;exact this
  rw[V.out];have Ga:∀(w1 W:World) (rd':Option Addr) (rc':Nat),cW w1 g 117 nm pl rd' rc' (Tb.put L [a,b,c]) [.slice cd L.length cc]->w1.ownsRow 0 3 1 (.slice cd L.length cc) L.length (cj C)->W.heap=(w1.alloc (.cells #[.int .i64 0] 3)).heap->
   Calls prog 264 #[.slice cd L.length cc,.int .i64 (Tb.pos L [a,b,c]:Nat),.slice (some ⟨w1.heap.size,0,none⟩) 1 1] W λe D=>∃y cap,e=.returned (.slice (some ⟨y,0,none⟩) (L.length+1) cap)/\
    (D.ownsRow 0 3 1 (.slice (some ⟨y,0,none⟩) (L.length+1) cap) (L.length+1) (cj (Tb.fA L C [a,b,c]))/\Kb (Value.ownBlock (.slice cd L.length cc)).toList W D/\aZ W (.slice cd L.length cc) (.slice (some ⟨y,0,none⟩) (L.length+1) cap))/\D.cell? ⟨g,3,none⟩=some (.slice cd L.length cc)/\D.frozen? ⟨g,3,none⟩=false/\g<D.heap.size:=by
   intro w1 W rd' rc' hT Y2 Z;have FH:W.ownsRow 0 3 1 (.slice cd L.length cc) L.length (cj C):=by
    have:=Y2.alloc (.cells #[.int .i64 0] 3);refine⟨this.1, ?_⟩;rw[Z];exact this.2
   have jI:W.heap[g]?=some (.cells (Value.string nm::.int .i64 pl::.slice rd' (Tb.put L [a,b,c]).length rc'::[.slice cd L.length cc]).toArray 117 (0,0)):=by
    rw[Z,aay _ _ _ (lt_of_heap hT.aY)];exact hT.aY
   refine(xm (.inr rfl) W 0 cd cc L.length (Tb.pos L [a,b,c]) w1.heap.size (cj C) [.int .i64 0] FH (IS _) WA (DW C) rfl (by rw[Z];exact By w1 _) ?_ (by intro u hu;simp at hu;subst hu;rfl)).mono ?_
   ·intro vE;have:=(World.ownsRow.lt Y2 w1.heap.size vE.symm).2;omega
   ·rintro e D ⟨y,cap,rfl,h2,h3,h4⟩;have hng:¬g∈(Value.ownBlock (.slice cd L.length cc)).toList:=by
     intro hm;rw[abh]at hm;obtain⟨nK,e⟩:=aP FH hm;rw[jI]at e;simp at e
    have Cx:=h3.heap jI hng;have ec:cj C=cj C:=rfl;refine⟨y,cap,rfl,⟨?_,h3,h4⟩,by rw[aaB _ _ 3 _ _ _ Cx];simp,by simp[World.frozen?,Cx],lt_of_heap Cx⟩;rw[U];have e2:cj (C.take (Tb.pos L [a,b,c])++[0]++C.drop (Tb.pos L [a,b,c]))=(cj C).take (Tb.pos L [a,b,c])++[.int .i64 0]++(cj C).drop (Tb.pos L [a,b,c]):=by
     simp[cj]
    rw[e2];rw[Nat.mul_one]at h2;exact h2
  generalize Tb.fA L C [a,b,c]=C' at B V Ga q ⊢;generalize Tb.pos L [a,b,c]=ps at t MX B Ga ⊢;generalize Tb.put L [a,b,c]=L' at t MX Ga Bs q ⊢;have Y:C'[ps]?=some 0:=by
   have:ps<C'.length:=by rw[q.out];omega
   rw[ada,AS this]at B;rw[AS this];simpa using B
  have aql:ps<L.length+1:=by omega
  clear lJ I U V q h0 B WA;have LC:=aj Bs;clear Bs
  go_enter func230,ntmps230
  go_wp2_with fail
  rw[<-H];have Zz:=aj H;clear H
  go_region_with (go_at_call 196;refine(t _ (by rfl)).mono ?_;rintro e w1 ⟨rd',rc',rfl,hI,k3,kf⟩)
  all_goals
   (obtain⟨j,M,J⟩:=hI
    obtain⟨E,X⟩:=KP h cq.drew M;have UK:=λW=>Ga w1 W rd' rc' j E;have YL:g<w1.heap.size:=lt_of_heap j.aY;clear t t0 t1 t2 Zz Ga
    go_upto_region 4 with(go_at_call 264;refine(UK _ (by rfl)).mono ?_;rintro e D ⟨y,cap,rfl,hJ,k4,kf4,apt⟩)
    obtain⟨j1,j2,j3⟩:=hJ;obtain⟨O,y2⟩:=UF (w:=w) (S:=[]) j E aM j1 j2 LC.out;have tq:=J.mono (w:=w) cq.size;have iS:w.heap.size<=w1.heap.size:=X.size;have Hi:aZ w (.slice cd L.length cc) (.slice (some ⟨y,0,none⟩) L'.length cap):=by
     intro x WV;rcases j3 x WV with e | e
     ·exact .inl e
     ·exact .inr (by simp only[abb]at e;omega)
    have Mo:=X.trans' y2 (λi A _=>by
     rcases BY.1 A with rfl | A
     ·simp[lr]
     ·simp only[lr,BY,ZD];exact .inr (.inr A))
    clear j1 j2 j3 j M J E X UK k3 kf k4 kf4 y2 h cq;generalize D.setCell ⟨g,3,none⟩ (.slice (some ⟨y,0,none⟩) (L.length+1) cap)=w4 at O Mo ⊢;have d0:w4.cell? ⟨g,3,none⟩=some (.slice (some ⟨y,0,none⟩) (L.length+1) cap):=by
     rw[aaB _ _ 3 _ _ _ O.qw.aY,LC.out];simp
    have aop:g<w4.heap.size:=lt_of_heap O.qw.aY;have TI:=O.kx;rw[LC.out]at TI;obtain⟨gc,egc,wQ,Ev,bA⟩:=aA TI;simp only[AT,aco,aex]at egc;subst egc;have dM:=bA ps _ (show(cj C')[ps]?=some (.int .i64 0) by simp[cj,Y]);have KE:=World.ownsRow.frozenAt TI ps;obtain⟨z1,N⟩:=Ky O MX n;have kJ:=Mo.trans' N (λi A aL=>by
     simp only[aae]at A;subst A;rcases Hi i rfl with e | e
     ·simp only[lr,BY,ZD,abh];exact .inr (.inr e)
     ·omega)
    clear bA TI O N Mo Y
    go_wp2_with fail
    go_ret;exact⟨rd',rc',some ⟨y,0,none⟩,cap,rfl,z1,kJ,tq,Hi⟩)
/- Has, Count, Len. -/
namespace Tb
def sU(L:List Rw)(C:List Nat)(r:Rw):Nat:=if eZ L r=true then C.getD (pos L r) 0 else 0
end Tb
open Go.Sort (grow)
theorem Kt(w g){rest}(a b c)(h:cW w g T nm pl rd rc L rest)(x:L.length<=999999):
 Calls prog 42 #[.pointer (some ⟨g,0,none⟩),.agg #[.string a,.string b,.string c]] w λe w'=>e=.returned (.bool (Tb.eZ L [a,b,c]))/\Below w.heap.size w w':=by
 have i:Hid (∀W,Below w.heap.size w W->Calls prog 75 #[.pointer (some ⟨g,0,none⟩),.agg #[.string a,.string b,.string c]] W λe w'=>e=.returned (.tuple #[.int .i64 (Tb.pos L [a,b,c]:Nat),.bool (Tb.eZ L [a,b,c])])/\Below w.heap.size w w'):=by
  intro W j;have q:=h.below j;refine(ta W g rd rc L a b c q.rows q.ord q.jG.1).mono ?_;rintro e w' ⟨rfl,t⟩;exact⟨rfl,j.trans (t.mono j.size)⟩
 generalize Tb.pos L [a,b,c]=ps at i;generalize Tb.eZ L [a,b,c]=y at i ⊢;clear h
 go_enter func42,ntmps42
 go_wp2_with (go_at_call 75;refine(i.out _ (by exact aM)).mono ?_;rintro e w1 ⟨rfl,u⟩)
 go_ret;exact⟨rfl,u⟩
theorem UG(w g){rest}(h:cW w g T nm pl rd rc L rest):
 Calls prog 136 #[.pointer (some ⟨g,0,none⟩)] w λe w'=>e=.returned (.int .i64 L.length)/\w'=w:=by
 have c2:=h.jG.1;have i:=lt_of_heap h.aY;clear h
 go_enter func136,ntmps136
 go_wp2_with fail
 go_ret;exact⟨rfl,rfl⟩
theorem LS(w g a b c)(h:fL w g nm pl rd rc cd cc L C)(hL:L.length<=999999):
 Calls prog 43 #[.pointer (some ⟨g,0,none⟩),.agg #[.string a,.string b,.string c]] w λe w'=>e=.returned (.int .i64 (Tb.sU L C [a,b,c]:Nat))/\Below w.heap.size w w':=by
 obtain⟨w0,u⟩:∃w0,w0=w.alloc (.cells #[.string a,.string b,.string c] 119):=⟨_,rfl⟩;have I:Below w.heap.size w w0:=by rw[u];exact aM
 have q:w0.heap[w.heap.size]?=some (.cells #[.string a,.string b,.string c] 119 (0,0)):=by rw[u];exact By w _
 have W:=mA q;have V:=ow q;have U:=rq q;have t:=h.below I;have k0:=adL W;have Z:=adL V;have Y:=adL U;have y:∀d os,Calls prog 75 #[.pointer (some ⟨g,0,none⟩),.agg #[.string a,.string b,.string c]] (grow (redrawn w0 d) os) λe A=>e=.returned (.tuple #[.int .i64 (Tb.pos L [a,b,c]:Nat),.bool (Tb.eZ L [a,b,c])])/\∃p:Regrown,A=grow (redrawn w0 p.d) p.os:=λd os=>Calls.regrown_of (by
  have D:=t.below (below_regrown w0 d os);exact ta _ g rd rc L a b c D.qw.rows D.qw.ord D.qw.jG.1)
 have J:Hid (Tb.eZ L [a,b,c]=true->Tb.pos L [a,b,c]<L.length):=λcT=>(abt.1 ((Tb.gG h.qw.ord _).2 (Tb.bt.1 cT))).1;have j:Hid (Tb.sU L C [a,b,c]=if Tb.eZ L [a,b,c]=true then C.getD (Tb.pos L [a,b,c]) 0 else 0):=rfl;generalize Tb.sU L C [a,b,c]=R at j ⊢;generalize Tb.pos L [a,b,c]=ps at y J j;generalize Tb.eZ L [a,b,c]=fb at y J j;have hCl:=h.len;have jy:=lt_of_heap t.qw.aY;have H0:=aj t;clear h t q
 go_enter func43,ntmps43
 go_wp2_with fail
 rw[<-u];clear u W V U;refine wp_region_quiet_below (by kernel_rfl) (by kernel_rfl) ?_
 repeat (quiet_step (first | exact y _ _))
 refine wpQuiet_nil ?_;intro _ Yj;obtain⟨⟨H,M⟩,JT⟩:=Yj;subst JT;have O:=below_regrown w0 H M;have E:Below w.heap.size w (grow (redrawn w0 H) M):=I.trans (O.mono I.size);have i:=H0.out.below O;generalize grow (redrawn w0 H) M=wq at O E i ⊢;clear k0 Z Y y;cases fb with
 | true=>
  have As:=J.out rfl;have c3:=E4 i.qw.aY;have hgq:=lt_of_heap i.qw.aY;obtain⟨gc,rfl,wQ,Ev,X⟩:=aA i.kx;obtain⟨x,B⟩:∃x,C[ps]?=some x:=⟨_,AS (by omega)⟩;have dM:=X ps _ (show(cj C)[ps]?=some (.int .i64 x) by simp[cj,B]);have LG:Hid (C.getD ps 0=x):=by rw[ada,B];rfl
  have N:Hid (R=x):=by rw[j.out,aa3 rfl];exact LG.out
  clear X i B
  go_wp2_with fail
  go_ret;exact⟨by rw[N.out];rfl,E⟩
 | false=>
  have N:=aj j.out;clear i
  go_wp2_with fail
  go_ret;exact⟨by rw[N.out];rfl,E⟩
/- slices.Clone at rows; Rows. -/
open Go.Sort (grow)
theorem Ah(w rd rc L)(h:lp w rd rc L)(hL:L.length<=999999):
 Calls prog 200 #[.slice rd L.length rc] w λe w'=>∃rd' rc',e=.returned (.slice rd' L.length rc')/\w'.ownsRow w.heap.size 119 3 (.slice rd' L.length rc') L.length (aT L)/\Below w.heap.size w w':=by
 obtain⟨I,A,E,D,B⟩:=abF Tryz.De;have Y:=aj A;have H0:=aj E;have H1:=aj D;have Z:=aj B;clear A E D B;have hlen:=sM h.three;have H:=np L;have IG:∀(w:World) (a:Option Addr) (n c:Nat),(binOp .eql 113 (.slice a n c) (.slice none 0 0)).run prog w=.ok (.bool a.isNone) w:=λw a n c=>Lib.run_eql_slice_nil w 113 119 a n c 0 0 Tryz.underlying113;rcases h.own.2 with⟨i,O⟩ | ⟨g,cap,U,i,_,y,hc,hm,_⟩
 ·simp only[abi]at i;obtain⟨rfl,e3,rfl⟩:=i;have t:L=[]:=abR O;subst t;clear h hlen H
  go_enter func200,ntmps200
  go_wp2_with fail
  go_ret;exact⟨none,0,rfl,aaM _ _ _ _,aaj _ _⟩
 ·simp only[abi]at i;obtain⟨rfl,_,rfl⟩:=i;have W:=acw h.own (g:=g) rfl;have jy:=lt_of_heap y;have N:Hid (∀(j:Nat) u,(aT L)[j]?=some u->(w.alloc (.cells #[] 119)).cell? ((⟨g,0,none⟩:Addr).add j)=some u):=λj u M=>acw (h.own.alloc _) (g:=g) rfl j u M;have X:(w.alloc (.cells #[] 119)).ownsRow w.heap.size 119 3 (.slice (some ⟨w.heap.size,0,none⟩) 0 0) 0 []:=World.ownsRow_made w #[] 0 (OF _) eI rfl;clear h y W
  go_enter func200,ntmps200
  go_wp2_with (at_builtin;refine abp _ rfl (.tmp 5) (.tmp 6) 113 rfl w.heap.size 119 I _ 3 48 Tryz.underlying113 Y.out H0.out H1.out Z.out rfl (by decide) _ _ _ rfl X ⟨g,0,none⟩ L.length rc (aT L) rfl hlen N.out H eI (by omega) (by simp) ?_;intro v2 w2 x V _)
  go_ret;rw[acm,acp]at x;obtain⟨rd',rc',rfl⟩:=ah x;refine⟨rd',rc',rfl,x, ?_⟩;exact aM.grown V (by simp) (λq J=>by have Aa:some w.heap.size=some q:=J;simp only[AT]at Aa;omega)
theorem ED(w g nm pl rd rc L rest)(h:cW w g T nm pl rd rc L rest)(q:L.length<=999999):
 Calls prog 133 #[.pointer (some ⟨g,0,none⟩)] w λe w'=>∃rd' rc',e=.returned (.slice rd' L.length rc')/\w'.ownsRow w.heap.size 119 3 (.slice rd' L.length rc') L.length (aT L)/\Below w.heap.size w w':=by
 have c2:=h.jG.1;have u:=lt_of_heap h.aY;have t:Hid (Calls prog 200 #[.slice rd L.length rc] w λe w'=>∃rd' rc',e=.returned (.slice rd' L.length rc')/\w'.ownsRow w.heap.size 119 3 (.slice rd' L.length rc') L.length (aT L)/\Below w.heap.size w w'):=Ah w rd rc L h.rows q;clear h
 go_enter func133,ntmps133
 go_wp2_with (go_at_call 200;refine t.out.mono ?_;rintro e w1 ⟨rd',rc',rfl,i,j⟩)
 go_ret;exact⟨rd',rc',rfl,i,j⟩
/- What follows, worked out fact by fact: the search as a plain function, over facts and rules of any kind. No program here. -/
namespace En
structure eC(F:Type) where
 k:Nat
 inst:List F->Option F
section
variable {F:Type} [DecidableEq F]
def iQ(k:Nat)(L:List F):List (List F):=match k with
 | 0=>[[]]
 | 1=>L.map λx=>[x]
 | _=>L.flatMap λx=>L.map λy=>[x,y]
def oy(k:Nat)(P:List F)(z:F):List (List F):=match k with
 | 0=>[]
 | 1=>[[z]]
 | _=>((P++[z]).map λx=>[z,x])++P.map λy=>[y,z]
def kx(r:eC F)(ts:List (List F))(h:F):Nat:=(ts.filterMap r.inst).count h
def dW(l:List F)(h:F):Nat:=l.count h
theorem rH(f):dW ([]:List F) f=0:=rfl
theorem lU(x:F)(l)(f:F):dW (x::l) f=dW l f+if x=f then 1 else 0:=by grind [dW]
theorem CX(r:eC F)(e h):kx r e h=dW (e.filterMap r.inst) h:=rfl
theorem nB(r:eC F)(a b h):kx r (a++b) h=kx r a h+kx r b h:=by simp[kx]
theorem T9(r:eC F)(h):kx r [] h=0:=rfl
theorem qU(r:eC F)(h z P):∀Q:List F,kx r (Q.flatMap λx=>(P++[z]).map λy=>[x,y]) h=kx r (Q.flatMap λx=>P.map λy=>[x,y]) h+kx r (Q.map λy=>[y,z]) h
 | []=>rfl
 | q::Q=>by
  have ih:=qU r h z P Q;simp only[aaW,abn,aa6,adp,nB]at ih ⊢;have e:kx r ([q,z]::Q.map λy=>[y,z]) h=kx r [[q,z]] h+kx r (Q.map λy=>[y,z]) h:=by
   rw[<-nB];rfl
  rw[e];omega
theorem EO(r:eC F)(i:r.k<=2)(P z h):kx r (iQ r.k (P++[z])) h=kx r (iQ r.k P) h+kx r (oy r.k P z) h:=by
 have:r.k=0\/r.k=1\/r.k=2:=by omega
 rcases this with e | e | e<;>rw[e]
 ·simp[iQ,oy,T9]
 ·simp only[iQ,oy,aa6,abn,adp,nB]
 ·simp only[iQ,oy,abQ,aaW,adI,aby,nB];rw[qU];omega
structure dH(F:Type) where
 found:List F
 count:F->Nat
def hold(s:dH F)(f:F)(n:Nat):dH F:=⟨if f∈s.found then s.found else s.found++[f],λg=>if g=f then s.count g+n else s.count g⟩
def holds(s:dH F)(l:List F):dH F:=l.foldl (λs f=>hold s f 1) s
def mG(R:List (eC F))(P:List F)(z:F):List F:=R.flatMap λr=>(oy r.k P z).filterMap r.inst
def meet(R:List (eC F))(s:dH F)(n:Nat):dH F:=match s.found[n]? with
 | none=>s
 | some z=>holds s (mG R (s.found.take n) z)
def search(R:List (eC F))(M:Nat):Nat->Nat->dH F->Option (dH F)
 | 0,_,_=>none
 | fuel+1,n,s=>if n<s.found.length then (if M<s.found.length then none else search R M fuel (n+1) (meet R s n))else some s
theorem holds_nil(s:dH F):holds s []=s:=rfl
theorem kY(s:dH F)(f l):holds s (f::l)=holds (hold s f 1) l:=rfl
theorem kt(s:dH F)(a b):holds s (a++b)=holds (holds s a) b:=by simp[holds]
theorem zb(s:dH F)(f n):∃t,(hold s f n).found=s.found++t/\(∀g,g∈t->g=f)/\f∈s.found++t:=by
 unfold hold;by_cases h:f∈s.found
 ·exact⟨[],by simp[h],by simp,by simpa using h⟩
 ·exact⟨[f],by simp[h],by simp,by simp⟩
theorem yU{s:dH F}(h:s.found.Nodup)(f n):(hold s f n).found.Nodup:=by grind [hold]
theorem jk(s:dH F)(f n g):(hold s f n).count g=s.count g+if g=f then n else 0:=by grind [hold]
theorem ia:∀(l:List F) (s:dH F),∃t,(holds s l).found=s.found++t/\(∀g,g∈t->g∈l)/\(∀g,g∈l->g∈s.found++t)/\(s.found.Nodup->(holds s l).found.Nodup)/\∀g,(holds s l).count g=s.count g+l.count g
 | [],s=>⟨[],by simp[holds_nil],by simp,by simp,λh=>h,λg=>by simp[holds_nil]⟩
 | f::l,s=>by
  obtain⟨q,j,w,b0⟩:=zb s f 1;obtain⟨t,e,a,b,c,d⟩:=ia l (hold s f 1);refine⟨q++t, ?_, ?_, ?_, ?_, ?_⟩
  ·rw[kY,e,j,aa8]
  ·intro g i;rcases ZD.1 i with i | i
   ·rw[w g i];simp
   ·exact adr _ (a g i)
  ·intro g i;rw[<-aa8];rcases BY.1 i with rfl | i
   ·exact acH _ b0
   ·have:=b g i
    rwa [j]at this
  ·intro h;rw[kY];exact c (yU h f 1)
  ·intro g;rw[kY,d,jk,List.count_cons];by_cases h:f=g
   ·subst h;simp;omega
   ·have u:¬g=f:=λe=>h e.symm;simp[h,u]
def uw(R:List (eC F))(X:F->Prop):Prop:=∀r,r∈R->∀fs,fs.length=r.k->(∀f,f∈fs->X f)->∀h,r.inst fs=some h->X h
theorem oI{F:Type}(q:k<=2){L:List F}{fs:List F}:fs∈iQ k L↔fs.length=k/\∀f,f∈fs->f∈L:=by
 have:k=0\/k=1\/k=2:=by omega
 rcases this with e | e | e<;>subst e
 ·constructor
  ·intro h;simp[iQ]at h;subst h;simp
  ·rintro⟨h,_⟩;simp[iQ];exact abR h
 ·constructor
  ·intro h;simp[iQ]at h;obtain⟨x,j,rfl⟩:=h;simpa using j
  ·rintro⟨h,i⟩
   match fs,h with
   | [x],_=>simp[iQ];exact i x (by simp)
 ·constructor
  ·intro h;simp[iQ]at h;obtain⟨x,j,y,hy,rfl⟩:=h;simp[j,hy]
  ·rintro⟨h,i⟩
   match fs,h with
   | [x,y],_=>simp[iQ];exact⟨i x (by simp),i y (by simp)⟩
theorem P0{F:Type}(j:k<=2){P}{z:F}{fs}(h:fs∈oy k P z):fs.length=k/\∀f,f∈fs->f∈P++[z]:=by
 have:k=0\/k=1\/k=2:=by omega
 rcases this with e | e | e<;>subst e
 ·simp[oy]at h
 ·simp[oy]at h;subst h;simp
 ·simp only[oy,ZD,aax]at h;rcases h with⟨x,i,rfl⟩ | ⟨y,hy,rfl⟩
  ·grind
  ·grind
def total(R:List (eC F))(L:List F)(h:F):Nat:=(R.map λr=>kx r (iQ r.k L) h).sum
structure Inv(R:List (eC F))(G:F->Prop)(s:dH F)(n:Nat):Prop where
 nodup:s.found.Nodup
 given:∀f,G f->f∈s.found
 counts:∀h,s.count h=total R (s.found.take n) h
 done:∀r,r∈R->∀fs,fs∈iQ r.k (s.found.take n)->∀h,r.inst fs=some h->h∈s.found
 least:∀X,uw R X->(∀f,G f->X f)->∀f,f∈s.found->X f
theorem vm(P z h):∀R:List (eC F),(∀r,r∈R->r.k<=2)->total R (P++[z]) h=total R P h+(mG R P z).count h
 | [],_=>rfl
 | r::R,i=>by
  have ih:=vm P z h R (λx j=>i x (by simp[j]));unfold total mG at*;simp only[abn,aee,aaW,List.count_append];rw[EO r (i r (by simp)),ih];have e:(List.filterMap r.inst (oy r.k P z)).count h=kx r (oy r.k P z) h:=rfl;rw[e];omega
theorem Gr{R}(B:∀r,r∈R->r.k<=2){G:F->Prop}{s:dH F}{n}(h:Inv R G s n)(H:n<s.found.length):Inv R G (meet R s n) (n+1):=by
 have u:s.found[n]?=some s.found[n]:=AS H;unfold meet;rw[u];simp only;obtain⟨t,e,a,b,c,d⟩:=ia (mG R (s.found.take n) s.found[n]) s;have M:(holds s (mG R (s.found.take n) s.found[n])).found.take (n+1)=s.found.take n++[s.found[n]]:=by
  rw[e,adi (by omega),acI H]
 have E:∀f,f∈s.found.take n++[s.found[n]]->f∈s.found:=by grind
 refine⟨c h.nodup, ?_, ?_, ?_, ?_⟩
 ·intro f i;rw[e];exact acH _ (h.given f i)
 ·intro g;rw[M,d,h.counts,vm _ _ _ R B]
 ·intro r q fs J g y;rw[M]at J;have N:=B r q;rw[e];have V:=EO r N (s.found.take n) s.found[n] g;have W:0<kx r (iQ r.k (s.found.take n++[s.found[n]])) g:=by
   unfold kx;rw[List.count_pos_iff,acz];exact⟨fs,J,y⟩
  by_cases u:0<kx r (iQ r.k (s.found.take n)) g
  ·unfold kx at u;rw[List.count_pos_iff,acz]at u;obtain⟨j,x,w⟩:=u;exact acH _ (h.done r q j x g w)
  ·have D:0<kx r (oy r.k (s.found.take n) s.found[n]) g:=by omega
   unfold kx at D;rw[List.count_pos_iff,acz]at D;obtain⟨j,x,w⟩:=D;exact b g (aa9.2 ⟨r,q,acz.2 ⟨j,x,w⟩⟩)
 ·intro X A I f i;rw[e]at i;rcases ZD.1 i with i | i
  ·exact h.least X A I f i
  ·obtain⟨r,q,hm⟩:=aa9.1 (a f i);obtain⟨fs,x,w⟩:=acz.1 hm;obtain⟨U,O⟩:=P0 (B r q) x;exact A r q fs U (λg y=>h.least X A I g (E g (O g y))) f w
theorem yD{R}(u:∀r,r∈R->r.k<=2){M}{G:F->Prop}:∀(fuel n:Nat) (s i:dH F),Inv R G s n->n<=s.found.length->search R M fuel n s=some i->Inv R G i i.found.length
 | 0,_,_,_,_,_,h=>by simp[search]at h
 | fuel+1,n,s,i,q,y,h=>by
  unfold search at h;by_cases j:n<s.found.length
  ·rw[aa3 j]at h;by_cases w:M<s.found.length
   ·rw[aa3 w]at h;cases h
   ·rw[aaD w]at h;refine yD u fuel (n+1) _ i (Gr u q j) ?_ h;have x:s.found[n]?=some s.found[n]:=AS j;unfold meet;rw[x];simp only;obtain⟨t,e,_⟩:=ia (mG R (s.found.take n) s.found[n]) s;rw[e,If];omega
  ·rw[aaD j]at h;simp only[AT]at h;subst h;have:n=s.found.length:=by omega
   rw[<-this];exact q
theorem vr{R}(x:∀r,r∈R->r.k<=2){M}{G:F->Prop}(U:List F)(E:U.length<=M)(u:uw R (·∈U))(w:∀f,G f->f∈U):∀(fuel n:Nat) (s:dH F),Inv R G s n->n<=s.found.length->M<fuel+n->∃y,search R M fuel n s=some y
 | 0,n,s,i,B,j=>by
  have D:s.found.length<=U.length:=acM i.nodup (λf j=>i.least (·∈U) u w f j);omega
 | fuel+1,n,s,i,B,j=>by
  have D:s.found.length<=U.length:=acM i.nodup (λf j=>i.least (·∈U) u w f j);unfold search;by_cases q:n<s.found.length
  ·rw[aa3 q,aaD (by omega)];refine vr x U E u w fuel (n+1) _ (Gr x i q) ?_ (by omega);have A:s.found[n]?=some s.found[n]:=AS q;unfold meet;rw[A];simp only;obtain⟨t,e,_⟩:=ia (mG R (s.found.take n) s.found[n]) s;rw[e,If];omega
  ·rw[aaD q];exact⟨s,rfl⟩
end
end En
variable{n:Nat}{w:World}
namespace En
def ee:ByteArray:=⟨#[]⟩
abbrev Bind:=List (ByteArray×ByteArray)
def val(b:Bind)(x:ByteArray):ByteArray:=match b with
 | []=>ee
 | p::r=>if p.1=x then p.2 else val r x
def dS(s:ByteArray->ByteArray)(t:Ax.Term):ByteArray:=if t.kind=0 then t.text else s t.text
def bP:List Ax.Term->List ByteArray->Bind->Option Bind
 | [],_,b=>some b
 | _::_,[],_=>none
 | t::ts,n::ns,b=>if dS (val b) t=n then bP ts ns b else if dS (val b) t=ee then bP ts ns (b++[(t.text,n)])else none
def Full(b:Bind):Prop:=∀p,p∈b->p.2≠ee
theorem yy(b:Bind)(e:Full b)(x n y):val (b++[(x,n)]) y=if val b y=ee then (if x=y then n else ee)else val b y:=by
 induction b with
 | nil=>simp[val]
 | cons p r ih=>
  have j:=e p (by simp);rw[aeK,val,val];by_cases h:p.1=y
  ·rw[aa3 h,aa3 h,aaD j]
  ·rw[aaD h,aaD h];exact ih (λq i=>e q (by simp[i]))
theorem BV{b:Bind}(j:Full b)(x){n}(i:n≠ee):Full (b++[(x,n)]):=by
 intro p e;rcases ZD.1 e with e | e
 ·exact j p e
 ·simp at e;subst e;exact i
def Dy(ts:List Ax.Term):Prop:=∀t,t∈ts->t.kind=0->t.text≠ee
theorem nD:∀(w:List Ax.Term) (ns:List ByteArray) (b b':Bind),Dy w->Full b->(∀n,n∈ns.take w.length->n≠ee)->bP w ns b=some b'->
 Full b'/\(∀y,val b y≠ee->val b' y=val b y)/\(∀(j:Nat) t,w[j]?=some t->ns[j]?=some (dS (val b') t))/\(∀y,val b' y≠ee->val b y≠ee\/∃t,t∈w/\t.kind≠0/\t.text=y)
 | [],ns,b,b',_,A,_,h=>by
  simp only[bP,AT]at h;subst h;exact⟨A,λ_ _=>rfl,λj t Y=>by simp at Y,λy hy=>.inl hy⟩
 | t::w,[],b,b',_,_,_,h=>by simp[bP]at h
 | t::w,n::ns,b,b',V,A,U,h=>by
  have H:Dy w:=λu i=>V u (by simp[i]);have J:n≠ee:=U n (by simp);have W:∀m,m∈ns.take w.length->m≠ee:=λm hm=>U m (by simp[hm]);rw[bP]at h;by_cases D:dS (val b) t=n
  ·rw[aa3 D]at h;obtain⟨O,I,N,M⟩:=nD w ns b b' H A W h;refine⟨O,I, ?_, ?_⟩
   ·intro j u i;cases j with
    | zero=>
     simp at i;subst i;simp only[abw,AT];rw[<-D];unfold dS at D ⊢;by_cases q:t.kind=0
     ·rw[aa3 q,aa3 q]
     ·rw[aaD q]at D;rw[aaD q,aaD q,I _ (by rw[D];exact J)]
    | succ j=>simpa using N j u (by simpa using i)
   ·intro y hy;rcases M y hy with x | ⟨u,i,x⟩
    ·exact .inl x
    ·exact .inr ⟨u,by simp[i],x⟩
  ·rw[aaD D]at h;by_cases x:dS (val b) t=ee
   ·rw[aa3 x]at h;have q:t.kind≠0:=by
     intro q;unfold dS at x;rw[aa3 q]at x;exact V t (by simp) q x
    have X:val b t.text=ee:=by
     unfold dS at x
     rwa [aaD q]at x
    obtain⟨O,I,N,M⟩:=nD w ns _ b' H (BV A t.text J) W h;have Z:val b' t.text=n:=by
     have e:val (b++[(t.text,n)]) t.text=n:=by rw[yy b A,aa3 X,aa3 rfl]
     rw[I _ (by rw[e];exact J),e]
    refine⟨O, ?_, ?_, ?_⟩
    ·intro y hy;have e:val (b++[(t.text,n)]) y=val b y:=by rw[yy b A,aaD hy]
     rw[I _ (by rw[e];exact hy),e]
    ·intro j u i;cases j with
     | zero=>
      simp at i;subst i;simp only[abw,AT];unfold dS;rw[aaD q,Z]
     | succ j=>simpa using N j u (by simpa using i)
    ·intro y hy;rcases M y hy with B | ⟨u,i,B⟩
     ·rw[yy b A]at B;by_cases F:val b y=ee
      ·rw[aa3 F]at B;by_cases E:t.text=y
       ·exact .inr ⟨t,by simp,q,E⟩
       ·rw[aaD E]at B;exact absurd rfl B
      ·exact .inl F
     ·exact .inr ⟨u,by simp[i],B⟩
   ·rw[aaD x]at h;cases h
abbrev ba:=ByteArray×List ByteArray
def bO(a:Ax.Atom)(f:ba)(b:Bind):Option Bind:=if a.pred=f.1 then bP a.af f.2 b else none
def pad(l:List ByteArray):List ByteArray:=l++List.replicate (3-l.length) ee
def iG(s:ByteArray->ByteArray)(a:Ax.Atom):ba:=(a.pred,pad (a.af.map (dS s)))
def ly:List Ax.Atom->List ba->Bind->Option Bind
 | [],[],b=>some b
 | a::az,f::fs,b=>match bO a f b with | some b'=>ly az fs b' | none=>none
 | _,_,_=>none
def Fp(r:Ax.aI)(fs:List ba):Option ba:=(ly r.body fs []).map λb=>iG (val b) r.head
def dy(r:Ax.aI):eC ba:=⟨r.body.length,Fp r⟩
def ac0(a:Ax.Atom)(f:ba):Prop:=a.pred=f.1->∃l:List ByteArray,l.length=a.af.length/\(∀n,n∈l->n≠ee)/\f.2=pad l
theorem Kr{l j}(h:j<l.length:=by omega):(pad l)[j]?=l[j]?:=by grind [pad]
theorem lq(l):(pad l).take l.length=l:=by simp[pad]
theorem Ep{a}{f:ba}{b b'}(J:Dy a.af)(H:ac0 a f)(I:Full b)(h:bO a f b=some b'):
 Full b'/\(∀y,val b y≠ee->val b' y=val b y)/\iG (val b') a=f/\(∀t,t∈a.af->t.kind≠0->val b' t.text≠ee):=by
 unfold bO at h;by_cases q:a.pred=f.1
 ·rw[aa3 q]at h;obtain⟨l,D,w,A⟩:=H q;rw[A]at h;obtain⟨N,M,x,O⟩:=nD a.af (pad l) b b' J I (by rw[<-D,lq];exact w) h;have hbound:∀t,t∈a.af->t.kind≠0->val b' t.text≠ee:=by
   intro t B E;obtain⟨j,i,e⟩:=acf B;have u:=x j t (by rw[AS i,e]);rw[Kr]at u;have hm:=w _ (adW u);unfold dS at hm
   rwa [aaD E]at hm
  refine⟨N,M, ?_,hbound⟩;have e:a.af.map (dS (val b'))=l:=by
   apply List.ext_getElem?;intro j;rw[ab3];cases i:a.af[j]? with
   | none=>
    rw[List.getElem?_eq_none_iff]at i;rw[Option.map_none,List.getElem?_eq_none (by omega)]
   | some t=>
    have F:=(abt.1 i).1;have:=x j t i;rw[Kr]at this;rw[this];rfl
  unfold iG;rw[e,q,<-A]
 ·rw[aaD q]at h;cases h
end En
/- What a rule makes of facts: just its instances. No program here. -/
namespace En
def aau(b:Bind)(a:Ax.Atom):Prop:=∀t,t∈a.af->t.kind≠0->val b t.text≠ee
def Safe(r:Ax.aI):Prop:=∀t,t∈r.head.af->t.kind≠0->∃a,a∈r.body/\∃u,u∈a.af/\u.kind≠0/\u.text=t.text
end En
/- The join of a rule's body with the facts found, as a plain function; it makes just the tuples of E0. No program here. -/
namespace En
def sP(P:List ba)(z:ba)(turn i:Nat):List ba:=if i=turn then [z]else if i<turn then P else P++[z]
def jn(P:List ba)(z:ba)(turn:Nat)(h:Ax.Atom):Nat->List Ax.Atom->Bind->List ba
 | _,[],b=>[iG (val b) h]
 | i,a::l,b=>(sP P z turn i).flatMap λf=>match bO a f b with
  | some b'=>jn P z turn h (i+1) l b'
  | none=>[]
def cM(P:List ba)(z:ba)(r:Ax.aI):List ba:=(List.range r.body.length).flatMap λturn=>jn P z turn r.head 0 r.body []
theorem Ec{α β:Type}(f:α->Option β):∀l:List α,l.filterMap f=l.flatMap λx=>(f x).toList
 | []=>rfl
 | a::l=>by
  rw[List.filterMap_cons,aaW,Ec f l];cases f a<;>rfl
theorem Nn(P)(z:ba)(r)(i:r.body.length<=2):cM P z r=(oy (dy r).k P z).filterMap (dy r).inst:=by
 obtain⟨hd,body⟩:=r
 match body,i with
 | [],_=>rfl
 | [a],_=>
  simp only[cM,ab6,dy,oy,Ec];show(List.range 1).flatMap _=_;have e:List.range 1=[0]:=rfl;rw[e];simp only[aaW,adI,aby,jn,sP,if_true,Fp,ly];cases bO a z []<;>rfl
 | [a,c],_=>
  simp only[cM,dy,oy,Ec];show(List.range 2).flatMap _=((P++[z]).map (λx=>[z,x])++P.map λy=>[y,z]).flatMap _;have e:List.range 2=[0,1]:=rfl;rw[e,abQ];simp only[aaW,adI,aby,List.flatMap_map];congr 1
  ·simp only[jn,sP,if_true,aaW,adI,aby,Fp,ly];cases bO a z []with
   | none=>simp
   | some b=>
    simp only[jn,sP];have j:¬(0+1=0):=by omega
    have i:¬(0+1<0):=by omega
    simp only[aaD j,aaD i];refine abu (λg=>List.flatMap g (P++[z])) (funext λx=>?_);cases bO c x b<;>simp[jn,ly]
  ·simp only[jn,sP];have j:¬(0=1):=by omega
   have i:0<1:=by omega
   simp only[aaD j,aa3 i,Fp,ly];refine abu (λg=>List.flatMap g P) (funext λx=>?_);cases bO a x []with
   | none=>simp
   | some b=>
    simp only[jn,sP,acm,if_true,aaW,adI,aby];cases bO c z b<;>simp[jn,ly]
theorem sH(P)(z:ba):∀(rs:List Ax.aI),(∀r,r∈rs->r.body.length<=2)->rs.flatMap (cM P z)=mG (rs.map dy) P z
 | [],_=>rfl
 | r::rs,h=>by
  rw[aaW,Nn P z r (h r (by simp)),sH P z rs (λq e=>h q (by simp[e]))];rfl
end En
/- Package follow: bindings as they lie; name, set. -/
open Go.Sort (grow)
def cY(n:Nat)(X Y:Nat->ByteArray):Array Value:=#[.int .i64 n,.string (X 0),.string (Y 0),.string (X 1),.string (Y 1),.string (X 2),.string (Y 2),.string (X 3),.string (Y 3),.string (X 4),.string (Y 4),.string (X 5),.string (Y 5)]
structure D1(b:En.Bind)(n:Nat)(X Y:Nat->ByteArray):Prop where
 len:b.length=n
 six:n<=6
 at_:∀i (h:i<b.length),b[i]=(X i,Y i)
theorem CY{X Y:Nat->ByteArray}{i}(h:i<6:=by omega):(cY n X Y)[1+i*2]?=some (.string (X i))/\(cY n X Y)[2+i*2]?=some (.string (Y i)):=by
 have:i=0\/i=1\/i=2\/i=3\/i=4\/i=5:=by omega
 rcases this with rfl | rfl | rfl | rfl | rfl | rfl<;>exact⟨rfl,rfl⟩
def tI(X:Nat->ByteArray)(n:Nat)(x:ByteArray):Nat->ByteArray:=λi=>if i=n then x else X i
theorem Qe(X Y:Nat->ByteArray)(x y)(h:n<6):(((cY n X Y).setIfInBounds (1+n*2) (.string x)).setIfInBounds (2+n*2) (.string y)).setIfInBounds 0 (.int .i64 ((n:Int)+1))=cY (n+1) (tI X n x) (tI Y n y):=by
 have:n=0\/n=1\/n=2\/n=3\/n=4\/n=5:=by omega
 rcases this with rfl | rfl | rfl | rfl | rfl | rfl<;>rfl
theorem D1.snoc{b:En.Bind}{X Y:Nat->ByteArray}(h:D1 b n X Y)(t:n<6)(x y:ByteArray):D1 (b++[(x,y)]) (n+1) (tI X n x) (tI Y n y) where
 len:=by rw[If,h.len];rfl
 six:=by omega
 at_:=by
  intro i j;rw[If,ab6]at j;by_cases e:i<b.length
  ·rw[List.getElem_append_left e,h.at_ i e];have:i≠n:=by have:=h.len;omega
   simp[tI,this]
  ·have q:i=n:=by have:=h.len;omega
   subst q;rw[List.getElem_append_right (by omega)];simp[tI]
theorem KK:D1 [] 0 (λ_=>⟨#[]⟩) (λ_=>⟨#[]⟩):=⟨rfl,by omega,λi h=>by simp at h⟩
theorem Iq{b n}{X Y:Nat->ByteArray}(h:D1 b n X Y){x}:∀k,k<=n->(∀i,i<k->X i≠x)->En.val b x=En.val (b.drop k) x
 | 0,_,_=>by rw[aeN]
 | k+1,q,e=>by
  have j:=h.len;rw[Iq h k (by omega) (λi t=>e i (by omega)),aan (by omega),h.at_ k (by omega),En.val,aaD (e k (by omega))]
theorem GP(w)(g n:Nat)(X Y:Nat->ByteArray)(b:En.Bind)(u:D1 b n X Y)(t:Ax.Term)(B:t.kind=0\/t.kind=1)(O:w.heap[g]?=some (.cells (cY n X Y) 369 (0,0))):
 Calls prog 286 #[.pointer (some ⟨g,0,none⟩),.agg #[.int .i64 t.kind,.string t.text]] w λe w'=>e=.returned (.string (En.dS (En.val b) t))/\Below w.heap.size w w':=by
 obtain⟨kd,q⟩:=t;have hn6:=u.six;have jy:=lt_of_heap O;have c0:=mA O;have vX:¬(6:Int)<(n:Int):=by omega
 rcases B with B | B<;>simp only at B<;>subst B
 ·have A:En.dS (En.val b) ⟨0,q⟩=q:=by simp[En.dS]
  rw[A];clear u A
  go_enter func286,ntmps286
  go_wp2_with fail
  go_ret;exact⟨rfl,aM⟩
 ·have A:En.dS (En.val b) ⟨1,q⟩=En.val b q:=by simp[En.dS]
  rw[A];generalize I:En.val b q=R;obtain⟨w0,F⟩:∃w0,w0=w.alloc (.cells #[.int .i64 1,.string q] 310):=⟨_,rfl⟩;have E:Below w.heap.size w w0:=by rw[F];exact aM
  have Z:w0.heap[w.heap.size]?=some (.cells #[.int .i64 1,.string q] 310 (0,0)):=by rw[F];exact By w _
  have N:w0.heap[g]?=some (.cells (cY n X Y) 369 (0,0)):=by rw[E.block g jy];exact O
  have F3:w0.heap.size=w.heap.size+1:=by rw[F];simp
  have t0:=mA Z;have H:=mA N;have U:(w0.cell? ⟨g,1,none⟩).isSome=true:=by rw[aaB _ _ 1 _ _ _ N];rfl
  have V:g<w0.heap.size:=by omega
  have k0:=adL H;clear c0 A
  go_enter func286,ntmps286
  go_wp2_with fail
  rw[<-F];clear F;refine wp_region_quiet_below (by kernel_rfl) (by kernel_rfl) ?_
  repeat (quiet_step (fail))
  refine wpQuiet_nil ?_;intro _ Yj;obtain⟨⟨dq,ND⟩,JT⟩:=Yj;subst JT;have G8:=below_regrown w0 dq ND;generalize grow (redrawn w0 dq) ND=wq at G8 ⊢;clear k0 H U t0
  go_wp2_with fail
  go_loopw [21] (λi wr=>∃k:Nat,k<=n/\i=.int .i64 k/\Below w0.heap.size w0 wr/\∀j,j<k->X j≠q) (λi _=>n-(intOf i).toNat)
  ·exact⟨0,IS _,rfl,G8,λj hj=>by omega⟩
  ·
   obtain⟨k,KH,rfl,y,fP⟩:=hrel;have J:=aj fP;clear fP;have iS:=y.size;by_cases aL:k<n
   ·have M:wr.heap[g]?=some (.cells (cY n X Y) 369 (0,0)):=by rw[y.block g V];exact N
    have D:wr.heap[w.heap.size]?=some (.cells #[.int .i64 1,.string q] 310 (0,0)):=by rw[y.block _ (by omega)];exact Z
    have d0:wr.cell? ⟨g,1+k*2,none⟩=some (.string (X k)):=by rw[aaB _ _ _ _ _ _ M];exact(CY).1
    have d1:wr.cell? ⟨g,1+k*2+1,none⟩=some (.string (Y k)):=by rw[aaB _ _ _ _ _ _ M,show 1+k*2+1=2+k*2 by omega];exact(CY).2
    have e1:=ow D;have Qb:w.heap.size<wr.heap.size:=by omega
    have Xb:g<wr.heap.size:=by omega
    clear M D;by_cases x:X k=q
    ·have D4:((X k).toList==q.toList)=true:=by rw[fF];simp[x]
     have W:Hid (R=Y k):=by
      rw[<-I,Iq u k (by omega) J.out,aan (by have:=u.len;omega),u.at_ k (by have:=u.len;omega),En.val,aa3 x];rfl
     clear I x
     go_wp2_with fail
     go_ret;refine⟨by rw[W.out];rfl,E.trans (Below.mono ?_ E.size)⟩;exact y.alloc iS _
    ·have D4:((X k).toList==q.toList)=false:=by rw[fF];simp[x]
     have HX:=aj x;clear x
     go_wp2_with fail
     go_roundw
     ·
      refine⟨k+1,by omega,by go_num, ?_,λj hj=>?_⟩
      ·exact y.alloc iS _
      ·by_cases e:j=k
       ·subst e;exact HX.out
       ·exact J.out j (by omega)
     ·simp[intOf];omega
   ·have W:Hid (R=⟨#[]⟩):=by
     rw[<-I,Iq u k (by omega) J.out,abG (by have:=u.len;omega)];rfl
    clear I
    go_wp2_with fail
    go_ret;exact⟨by rw[W.out];rfl,E.trans (y.mono E.size)⟩
theorem Um{g e T}(h:w.heap[g]?=some (.cells e T (0,0)))(i j k x y z):
 (((w.setCell ⟨g,i,none⟩ x).setCell ⟨g,j,none⟩ y).setCell ⟨g,k,none⟩ z).heap[g]?=some (.cells (((e.setIfInBounds i x).setIfInBounds j y).setIfInBounds k z) T (0,0))/\Kb [g] w (((w.setCell ⟨g,i,none⟩ x).setCell ⟨g,j,none⟩ y).setCell ⟨g,k,none⟩ z):=by
 have u:=aC w h i x;have t:=aC _ u j y;have q:=aC _ t k z;exact⟨q,((Kb.setCell w ⟨g,i,none⟩ x).trans (Kb.setCell _ ⟨g,j,none⟩ y)).trans (Kb.setCell _ ⟨g,k,none⟩ z)⟩
theorem Kb.aaC{S w'}(h:Kb S w.drew w'):Kb S w w':=⟨h.os,h.tape,h.output,h.size,h.block⟩
theorem TU(w g n)(X Y:Nat->ByteArray)(x y)(j:n<6)(i:w.heap[g]?=some (.cells (cY n X Y) 369 (0,0))):
 Calls prog 287 #[.pointer (some ⟨g,0,none⟩),.string x,.string y] w λe w'=>e=.returned (.tuple #[])/\w'.heap[g]?=some (.cells (cY (n+1) (tI X n x) (tI Y n y)) 369 (0,0))/\Kb [g] w w':=by
 have q:=lt_of_heap i;have c0:=mA i;have u:w.cell? ⟨g,1+n*2,none⟩=some (.string (X n)):=by rw[aaB _ _ _ _ _ _ i];exact(CY j).1
 have t:w.cell? ⟨g,1+n*2+1,none⟩=some (.string (Y n)):=by rw[aaB _ _ _ _ _ _ i,show 1+n*2+1=2+n*2 by omega];exact(CY j).2
 have fz:∀o,w.frozen? ⟨g,o,none⟩=false:=λo=>by simp[World.frozen?,i]
 have A:n<=6:=by omega
 have key:=Um i (1+n*2) (2+n*2) 0 (.string x) (.string y) (.int .i64 ((n:Int)+1));rw[Qe X Y x y j,show 2+n*2=1+n*2+1 by omega]at key
 go_enter func287,ntmps287
 go_wp2_with fail
 go_region
 all_goals (go_wp2_with fail)
 go_end0;exact⟨rfl,key.1,key.2.drew⟩
/- Package follow: match. -/
open Go.Sort (grow)
theorem Gc{t e n ns b}:En.bP (t::e) (n::ns) b=if En.dS (En.val b) t=n then En.bP e ns b else if En.dS (En.val b) t=En.ee then En.bP e ns (b++[(t.text,n)])else none:=rfl
theorem KI:En.ee.toList=[]:=by rw[aeI];rfl
def Yq(a b c:ByteArray):Nat->ByteArray:=λi=>if i=0 then a else if i=1 then b else c
theorem acX{a b c i}(h:i<3):[a,b,c].drop i=Yq a b c i::[a,b,c].drop (i+1):=by
 have:i=0\/i=1\/i=2:=by omega
 rcases this with rfl | rfl | rfl<;>rfl
def Is(w:World)(r n:Nat)(X Y:Nat->ByteArray):World:=(((((((((((((w.setCell ⟨r,0,none⟩ (.int .i64 n)).setCell ⟨r,1,none⟩ (.string (X 0))).setCell ⟨r,2,none⟩ (.string (Y 0))).setCell ⟨r,3,none⟩ (.string (X 1))).setCell ⟨r,4,none⟩ (.string (Y 1))).setCell ⟨r,5,none⟩ (.string (X 2))).setCell ⟨r,6,none⟩ (.string (Y 2))).setCell ⟨r,7,none⟩ (.string (X 3))).setCell ⟨r,8,none⟩ (.string (Y 3))).setCell ⟨r,9,none⟩ (.string (X 4))).setCell ⟨r,10,none⟩ (.string (Y 4))).setCell ⟨r,11,none⟩ (.string (X 5))).setCell ⟨r,12,none⟩ (.string (Y 5)))
theorem tP{r m}{A B X Y:Nat->ByteArray}{T}(h:w.heap[r]?=some (.cells (cY m A B) T (0,0))):(Is w r n X Y).heap[r]?=some (.cells (cY n X Y) T (0,0))/\Kb [r] w (Is w r n X Y):=by
 have H:=aC _ h 0 (.int .i64 n);have F:=aC _ H 1 (.string (X 0));have E:=aC _ F 2 (.string (Y 0));have D:=aC _ E 3 (.string (X 1));have y:=aC _ D 4 (.string (Y 1));have x:=aC _ y 5 (.string (X 2));have u:=aC _ x 6 (.string (Y 2));have t:=aC _ u 7 (.string (X 3));have q:=aC _ t 8 (.string (Y 3));have j:=aC _ q 9 (.string (X 4));have I:=aC _ j 10 (.string (Y 4));have i:=aC _ I 11 (.string (X 5));have e:=aC _ i 12 (.string (Y 5));refine⟨by simpa [Is,cY]using e, ?_⟩;exact((((((((((((Kb.setCell w ⟨r,0,none⟩ (.int .i64 (n:Int))).trans (Kb.setCell _ ⟨r,1,none⟩ (.string (X 0)))).trans (Kb.setCell _ ⟨r,2,none⟩ (.string (Y 0)))).trans (Kb.setCell _ ⟨r,3,none⟩ (.string (X 1)))).trans (Kb.setCell _ ⟨r,4,none⟩ (.string (Y 1)))).trans (Kb.setCell _ ⟨r,5,none⟩ (.string (X 2)))).trans (Kb.setCell _ ⟨r,6,none⟩ (.string (Y 2)))).trans (Kb.setCell _ ⟨r,7,none⟩ (.string (X 3)))).trans (Kb.setCell _ ⟨r,8,none⟩ (.string (Y 3)))).trans (Kb.setCell _ ⟨r,9,none⟩ (.string (X 4)))).trans (Kb.setCell _ ⟨r,10,none⟩ (.string (Y 4)))).trans (Kb.setCell _ ⟨r,11,none⟩ (.string (X 5)))).trans (Kb.setCell _ ⟨r,12,none⟩ (.string (Y 5)))
def Ph(w:World)(R:Option En.Bind)(m:Nat)(e:Ending)(w':World):Prop:=Below w.heap.size w w'/\
 ((R=none/\e=.returned (.tuple #[.agg (cY 0 (λ_=>⟨#[]⟩) (λ_=>⟨#[]⟩)),.bool false]))\/(∃b1 n1 X1 Y1,R=some b1/\D1 b1 n1 X1 Y1/\n1<=m/\e=.returned (.tuple #[.agg (cY n1 X1 Y1),.bool true])))
theorem Q3(w)(b0:En.Bind)(i:Nat)(t q:Nat->ByteArray)(a:Ax.Atom)(ad:Option Addr)(ac:Nat){m:Nat}(pr x y z)(e:¬a.pred=pr):
 Calls prog 266 #[.agg (cY i t q),.agg #[.int .i64 a.at_,.string a.pred,.slice ad a.af.length ac],.agg #[.string pr,.string x,.string y,.string z]] w (Ph w none m):=by
 have u:(a.pred.toList==pr.toList)=false:=by rw[fF];simp[e]
 have j:(a.pred.toList != pr.toList)=true:=by simp[bne,u]
 clear e;unfold cY
 go_enter func266,ntmps266
 go_wp2_with fail
 exact aaT (v:=.tuple #[.agg #[.int .i64 0,.string ⟨#[]⟩,.string ⟨#[]⟩,.string ⟨#[]⟩,.string ⟨#[]⟩,.string ⟨#[]⟩,.string ⟨#[]⟩,.string ⟨#[]⟩,.string ⟨#[]⟩,.string ⟨#[]⟩,.string ⟨#[]⟩,.string ⟨#[]⟩,.string ⟨#[]⟩],.bool false]) (by simp[results,Tryz.results266,go_sem]) rfl ⟨((aM.alloc (by simp) _).alloc (by simp;omega) _).alloc (by simp;omega) _,.inl ⟨rfl,rfl⟩⟩
structure MW(w w0:World)(n:Nat)(X Y:Nat->ByteArray)(pr x y z:ByteArray):Prop where
 below:Below w.heap.size w w0
 size:w0.heap.size=w.heap.size+4
 bnd:w0.heap[w.heap.size]?=some (.cells (cY n X Y) 369 (0,0))
 fct:w0.heap[w.heap.size+2]?=some (.cells #[.string pr,.string x,.string y,.string z] 325 (0,0))
 res:w0.heap[w.heap.size+3]?=some (.cells (cY 0 (λ_=>⟨#[]⟩) (λ_=>⟨#[]⟩)) 369 (0,0))
theorem S8(w:World)(n:Nat)(X Y:Nat->ByteArray){o:Obj}(pr x y z:ByteArray):MW w ((((w.alloc (.cells (cY n X Y) 369)).alloc o).alloc (.cells #[.string pr,.string x,.string y,.string z] 325)).alloc (.cells (cY 0 (λ_=>⟨#[]⟩) (λ_=>⟨#[]⟩)) 369)) n X Y pr x y z where
 below:=((aM.alloc (by simp) _).alloc (by simp;omega) _).alloc (by simp;omega) _
 size:=by simp
 bnd:=by
  rw[aay _ _ _ (by simp;omega),aay _ _ _ (by simp;omega),aay _ _ _ (by simp)];exact By w _
 fct:=by
  rw[aay _ _ _ (by simp)];have:=By ((w.alloc (.cells (cY n X Y) 369)).alloc o) (.cells #[.string pr,.string x,.string y,.string z] 325);simpa using this
 res:=by
  have:=By (((w.alloc (.cells (cY n X Y) 369)).alloc o).alloc (.cells #[.string pr,.string x,.string y,.string z] 325)) (.cells (cY 0 (λ_=>⟨#[]⟩) (λ_=>⟨#[]⟩)) 369);simpa using this
theorem Mr(w)(b0:En.Bind)(F:Nat)(M J:Nat->ByteArray)(cq:D1 b0 F M J)(a:Ax.Atom)(ad:Option Addr)(ac:Nat)(pr x y z)(hp:a.pred=pr)
 (ha:MA.ok w (a,.slice ad a.af.length ac))(hk:∀t,t∈a.af->t.kind=0\/t.kind=1)(h3:a.af.length<=3)(hn:F+a.af.length<=6):
 Calls prog 266 #[.agg (cY F M J),.agg #[.int .i64 a.at_,.string a.pred,.slice ad a.af.length ac],.agg #[.string pr,.string x,.string y,.string z]] w (Ph w (En.bP a.af [x,y,z] b0) (F+a.af.length)):=by
 have D4:(a.pred.toList==pr.toList)=true:=by rw[fF];simp[hp]
 have abE:(a.pred.toList != pr.toList)=false:=by simp[bne,D4]
 obtain⟨w0,cZ,hmw⟩:∃w0,w0=((((w.alloc (.cells (cY F M J) 369)).alloc (.cells #[.int .i64 a.at_,.string a.pred,.slice ad a.af.length ac] 219)).alloc (.cells #[.string pr,.string x,.string y,.string z] 325)).alloc (.cells (cY 0 (λ_=>⟨#[]⟩) (λ_=>⟨#[]⟩)) 369))/\MW w w0 F M J pr x y z:=⟨_,rfl,S8 w F M J pr x y z⟩;generalize hR:En.bP a.af [x,y,z] b0=R;have HK:=aj hk;unfold MA.ok at ha;simp only at ha;have hle:=aH ha;clear hp hk
 go_enter func266,ntmps266
 have D3:∀n X Y,cY n X Y=#[.int .i64 n,.string (X 0),.string (Y 0),.string (X 1),.string (Y 1),.string (X 2),.string (Y 2),.string (X 3),.string (Y 3),.string (X 4),.string (Y 4),.string (X 5),.string (Y 5)]:=λ_ _ _=>rfl;rw[D3 F M J]
 go_wp2_with fail
 rw[<-D3 F M J];change Code.wp prog _ _ _ ((((w.alloc (.cells (cY F M J) 369)).alloc (.cells #[.int .i64 a.at_,.string a.pred,.slice ad a.af.length ac] 219)).alloc (.cells #[.string pr,.string x,.string y,.string z] 325)).alloc (.cells (cY 0 (λ_=>⟨#[]⟩) (λ_=>⟨#[]⟩)) 369));rw[<-cZ];clear cZ D3 D4 abE;obtain⟨mb,ms,Yf,GF,EL⟩:=hmw
 go_loopw [19] (λiv wr=>∃(k n:Nat) (b:En.Bind) (X Y:Nat->ByteArray),k<=a.af.length/\n<=F+k/\iv=.int .i64 k/\D1 b n X Y/\wr.heap[w.heap.size]?=some (.cells (cY n X Y) 369 (0,0))/\Kb [w.heap.size] w0 wr/\En.bP (a.af.drop k) ([x,y,z].drop k) b=R) (λiv _=>a.af.length-(intOf iv).toNat)
 ·exact⟨0,F,b0,M,J,IS _,OF _,rfl,cq,Yf,Kb.refl _ _,by simpa using hR⟩
 ·
  obtain⟨k,n,b,X,Y,Hj,hnk,rfl,hb,u,U,hr⟩:=hrel;have D:=aj hr;clear hr hR;have cp:=U.size;have bC:wr.ownsRow 0 310 2 (.slice ad a.af.length ac) a.af.length (cw a.af):=U.row (ae ha mb) (λq hq hm=>by
   simp only[aae]at hm;have:=(World.ownsRow.lt ha q hq).2;omega)
  have Wr:wr.heap[w.heap.size+1+1]?=some (.cells #[.string pr,.string x,.string y,.string z] 325 (0,0)):=U.heap GF (by simp only[aae];omega);have j:wr.heap[w.heap.size+1+1+1]?=some (.cells (cY 0 (λ_=>⟨#[]⟩) (λ_=>⟨#[]⟩)) 369 (0,0)):=U.heap EL (by simp only[aae];omega);have ju:Below w.heap.size w wr:=U.aQ mb (by omega) (λi hi=>by simp at hi;omega);by_cases aL:k<a.af.length
  ·obtain⟨tg,rfl,lJ,Sz,qu⟩:=aA bC;obtain⟨y0,y1⟩:=fJ a.af k aL;have d0:=qu _ _ y0;have d1:=qu _ _ y1;have WQ:=HK.out _ (IN aL);rw[aan aL,acX (by omega),Gc]at D;generalize a.af[k]=t at d0 d1 WQ D;obtain⟨tk,H⟩:=t;simp only at d0 d1;have f0:wr.cell? ⟨w.heap.size+1+1,1+k,none⟩=some (.string (Yq x y z k)):=by
    rw[aaB _ _ _ _ _ _ Wr];have:k=0\/k=1\/k=2:=by omega
    rcases this with rfl | rfl | rfl<;>rfl
   have O:∀W,Below wr.heap.size wr W->Calls prog 286 #[.pointer (some ⟨w.heap.size,0,none⟩),.agg #[.int .i64 tk,.string H]] W λe w'=>e=.returned (.string (En.dS (En.val b) ⟨tk,H⟩))/\Below W.heap.size W w':=λW hW=>GP W w.heap.size n X Y b hb ⟨tk,H⟩ WQ (by rw[hW.block _ (by omega)];exact u);generalize hv:En.dS (En.val b) ⟨tk,H⟩=v at O D;generalize Ib:Yq x y z k=N at f0 D;have Qb:w.heap.size<wr.heap.size:=by omega
   have Oj:w.heap.size+1+1<wr.heap.size:=by omega
   clear qu bC GF EL Yf Wr y0 y1 WQ hv Ib;by_cases E:v=N
   ·have G8:(v.toList==N.toList)=true:=by rw[fF];simp[E]
    rw[aa3 E]at D;clear E
    go_wp2_with (go_at_call 286;refine(O _ (by exact aM)).mono ?_;rintro e w1 ⟨rfl,I⟩;have B:Below wr.heap.size wr w1:=aM.trans (I.mono (by simp));have f1:w1.cell? ⟨w.heap.size+1+1,1+k,none⟩=some (.string N):=(B.cell Oj).trans f0;have iS:=B.size;have W9:w.heap.size+1+1<w1.heap.size:=(by omega);clear I O)
    go_roundw
    ·
     refine⟨k+1,n,b,X,Y,by omega,by omega,by go_num,hb, ?_,U.below B,D.out⟩;rw[B.block _ Qb];exact u
    ·simp[intOf];omega
   ·have G8:(v.toList==N.toList)=false:=by rw[fF];simp[E]
    rw[aaD E]at D;clear E;by_cases Z:v=En.ee
    ·have iu:v.toList.isEmpty=true:=by rw[Z,KI];rfl
     rw[aa3 Z]at D;have HEM:=aj Z;clear Z;have UT:∀W:World,Below (wr.alloc (.cells #[.int .i64 tk,.string H] 310)).heap.size (wr.alloc (.cells #[.int .i64 tk,.string H] 310)) W->W.cell? ⟨wr.heap.size,1,none⟩=some (.string H):=λW hW=>by
      have e:W.heap[wr.heap.size]?=some (.cells #[.int .i64 tk,.string H] 310 (0,0)):=by rw[hW.block _ (by simp)];exact By wr _
      rw[aaB _ _ 1 _ _ _ e];rfl
     go_upto_region 10 with(go_at_call 286;refine(O _ (by exact aM)).mono ?_;rintro e w1 ⟨rfl,I⟩;have B:Below wr.heap.size wr w1:=aM.trans (I.mono (by simp));have f1:w1.cell? ⟨w.heap.size+1+1,1+k,none⟩=some (.string N):=(B.cell Oj).trans f0;have iS:=B.size;have W9:w.heap.size+1+1<w1.heap.size:=(by omega);have jP:=aj I;clear I O)
     have u1:w1.cell? ⟨wr.heap.size,1,none⟩=some (.string H):=UT w1 jP.out;have ahb:w1.heap[w.heap.size]?=some (.cells (cY n X Y) 369 (0,0)):=by rw[B.block _ Qb];exact u
     have sC:=λW (hW:W.heap=w1.heap)=>TU W w.heap.size n X Y H N (by omega) (by rw[hW];exact ahb);have aqD:wr.heap.size<w1.heap.size:=by have:=jP.out.size;simp at this;omega
     clear jP UT
     go_region_with (go_at_call 287;refine(sC _ (by rfl)).mono ?_;rintro e w2 ⟨rfl,ais,Yn⟩)
     all_goals
      (go_wp2_with fail
       go_roundw
       ·
        refine⟨k+1,n+1,_,_,_,by omega,by omega,by go_num,hb.snoc (by omega) H N,ais,(U.below B).trans (Kb.aaC Yn),D.out⟩
       ·simp[intOf];omega)
    ·have iu:v.toList.isEmpty=false:=by rw[acZ];intro hc;rw[List.isEmpty_iff]at hc;exact Z (Tb.toList_inj (by rw[hc,KI]))
     rw[aaD Z]at D;clear Z
     go_upto_region 7 with(go_at_call 286;refine(O _ (by exact aM)).mono ?_;rintro e w1 ⟨rfl,I⟩;have B:Below wr.heap.size wr w1:=aM.trans (I.mono (by simp));have f1:w1.cell? ⟨w.heap.size+1+1,1+k,none⟩=some (.string N):=(B.cell Oj).trans f0;have iS:=B.size;have W9:w.heap.size+1+1<w1.heap.size:=(by omega);clear I O)
     have A:w1.heap[w.heap.size+1+1+1]?=some (.cells (cY 0 (λ_=>⟨#[]⟩) (λ_=>⟨#[]⟩)) 369 (0,0)):=by rw[B.block _ (by omega)];exact j
     have uu:=aj A;have r0:=mA A;have r1:=ow A;have r2:=rq A;have r3:=E4 A;have r4:=Zo A;have r5:=Zn A;have r6:=Y5 A;have r7:=Zj A;have r8:=YM A;have r9:=ZK A;have r10:=Lj A;have r11:=Ls A;have r12:=Mz A;have rf:∀o,w1.frozen? ⟨w.heap.size+1+1+1,o,none⟩=false:=λo=>by simp[World.frozen?,A]
     have ai0:w.heap.size+1+1+1<w1.heap.size:=by omega
     have air:Below w.heap.size w w1:=ju.trans (B.mono (by omega));clear A j
     go_wp2_with fail
     change bodyPost prog _ _ _ _ (Is w1 (w.heap.size+1+1+1) 0 (λ_=>⟨#[]⟩) (λ_=>⟨#[]⟩));obtain⟨V,Se⟩:=tP (n:=0) (X:=λ_=>⟨#[]⟩) (Y:=λ_=>⟨#[]⟩) uu.out;generalize Is w1 (w.heap.size+1+1+1) 0 (λ_=>⟨#[]⟩) (λ_=>⟨#[]⟩)=wz at V Se ⊢;have Xi:Below w.heap.size w wz:=Se.aQ air (by omega) (λi hi=>by simp at hi;omega);have zc:=aq V;have hwz:=lt_of_heap V;refine aaT (v:=.tuple #[.agg (cY 0 (λ_=>⟨#[]⟩) (λ_=>⟨#[]⟩)),.bool false]) ?_ rfl ⟨Xi,.inl ⟨D.out.symm,rfl⟩⟩;unfold cY at zc ⊢;simp[results,Tryz.results266,go_sem,zc]
  ·have e1:a.af.drop k=[]:=abG (by omega);have HF:Hid (R=some b):=by rw[<-D.out,e1];rfl
   have q0:=mA u;have q1:=ow u;have q2:=rq u;have q3:=E4 u;have q4:=Zo u;have q5:=Zn u;have q6:=Y5 u;have q7:=Zj u;have q8:=YM u;have q9:=ZK u;have q10:=Lj u;have q11:=Ls u;have q12:=Mz u;have Qb:w.heap.size<wr.heap.size:=by omega
   have ai0:w.heap.size+1+1+1<wr.heap.size:=by omega
   have r0:=mA j;have r1:=ow j;have r2:=rq j;have r3:=E4 j;have r4:=Zo j;have r5:=Zn j;have r6:=Y5 j;have r7:=Zj j;have r8:=YM j;have r9:=ZK j;have r10:=Lj j;have r11:=Ls j;have r12:=Mz j;have rf:∀o,wr.frozen? ⟨w.heap.size+1+1+1,o,none⟩=false:=λo=>by simp[World.frozen?,j]
   have uu:=aj j;clear D e1 Wr bC u Yf GF EL j
   go_wp2_with fail
   change bodyPost prog _ _ _ _ (Is wr (w.heap.size+1+1+1) n X Y);obtain⟨V,Se⟩:=tP (n:=n) (X:=X) (Y:=Y) uu.out;generalize Is wr (w.heap.size+1+1+1) n X Y=wz at V Se ⊢;have Xi:Below w.heap.size w wz:=Se.aQ ju (by omega) (λi hi=>by simp at hi;omega);have z:=aq V;have hwz:=lt_of_heap V;refine aaT (v:=.tuple #[.agg (cY n X Y),.bool true]) ?_ rfl ⟨Xi,.inr ⟨b,n,X,Y,HF.out,hb,by omega,rfl⟩⟩;unfold cY at z ⊢;simp[results,Tryz.results266,go_sem,z]
theorem MB(w)(b0:En.Bind)(e:Nat)(q j:Nat->ByteArray)(E:D1 b0 e q j)(a:Ax.Atom)(ad:Option Addr)(ac:Nat)(pr x y z)
 (B:MA.ok w (a,.slice ad a.af.length ac))(A:∀t,t∈a.af->t.kind=0\/t.kind=1)(D:a.af.length<=3)(u:e+a.af.length<=6):
 Calls prog 266 #[.agg (cY e q j),.agg #[.int .i64 a.at_,.string a.pred,.slice ad a.af.length ac],.agg #[.string pr,.string x,.string y,.string z]] w (Ph w (En.bO a (pr,[x,y,z]) b0) (e+a.af.length)):=by
 unfold En.bO;by_cases i:a.pred=pr
 ·rw[aa3 i];exact Mr w b0 e q j E a ad ac pr x y z i B A D u
 ·rw[aaD i];exact Q3 w b0 e q j a ad ac pr x y z i
variable{r:Ax.aI}{pr:ByteArray}{ps:List ByteArray}{k i n b:Nat}{w w':World}
def im(f:Nat->ByteArray)(k:Nat):Nat->ByteArray:=λi=>if i<k then f i else⟨#[]⟩
def lG(pr:ByteArray)(F:Nat->ByteArray):Array Value:=#[.string pr,.string (F 0),.string (F 1),.string (F 2)]
theorem PO{f:Nat->ByteArray}(i:k<3){v}(e:f k=v):(lG pr (im f k)).setIfInBounds (1+k) (.string v)=lG pr (im f (k+1)):=by grind [lG,im]
theorem QI{F:Nat->ByteArray}(e:k<3):(lG pr F)[1+k]?=some (.string (F k)):=by grind [lG]
def PA(ts:List Ax.Term)(s:ByteArray->ByteArray):Nat->ByteArray:=λi=>((ts[i]?).map (En.dS s)).getD ⟨#[]⟩
theorem QY{e}{s:ByteArray->ByteArray}(h:e.length<=3):lG pr (im (PA e s) e.length)=#[.string pr,.string ((En.pad (e.map (En.dS s)))[0]?.getD ⟨#[]⟩),.string ((En.pad (e.map (En.dS s)))[1]?.getD ⟨#[]⟩),.string ((En.pad (e.map (En.dS s)))[2]?.getD ⟨#[]⟩)]:=by
 match e,h with
 | [],_=>rfl
 | [_],_=>rfl
 | [_,_],_=>rfl
 | [_,_,_],_=>rfl
theorem LA{l}(h:l.length<=3):∃a b c,En.pad l=[a,b,c]:=by
 match l,h with
 | [],_=>exact⟨_,_,_,rfl⟩
 | [_],_=>exact⟨_,_,_,rfl⟩
 | [_,_],_=>exact⟨_,_,_,rfl⟩
 | [_,_,_],_=>exact⟨_,_,_,rfl⟩
def RE(w:World)(r:Nat)(pr:ByteArray)(F:Nat->ByteArray):World:=(((w.setCell ⟨r,0,none⟩ (.string pr)).setCell ⟨r,1,none⟩ (.string (F 0))).setCell ⟨r,2,none⟩ (.string (F 1))).setCell ⟨r,3,none⟩ (.string (F 2))
theorem Na{r q}{G F:Nat->ByteArray}{T}(h:w.heap[r]?=some (.cells (lG q G) T (0,0))):(RE w r pr F).heap[r]?=some (.cells (lG pr F) T (0,0))/\Kb [r] w (RE w r pr F):=by
 have t:=aC _ h 0 (.string pr);have j:=aC _ t 1 (.string (F 0));have i:=aC _ j 2 (.string (F 1));have e:=aC _ i 3 (.string (F 2));refine⟨by simpa [RE,lG]using e, ?_⟩;exact(((Kb.setCell w ⟨r,0,none⟩ (.string pr)).trans (Kb.setCell _ ⟨r,1,none⟩ (.string (F 0)))).trans (Kb.setCell _ ⟨r,2,none⟩ (.string (F 1)))).trans (Kb.setCell _ ⟨r,3,none⟩ (.string (F 2)))
theorem TQ(w j e i):Below w.heap.size w (((w.alloc j).alloc e).alloc i)/\(((w.alloc j).alloc e).alloc i).heap.size=w.heap.size+3/\(((w.alloc j).alloc e).alloc i).heap[w.heap.size+1]?=some e/\(((w.alloc j).alloc e).alloc i).heap[w.heap.size+1+1]?=some i:=by
 refine⟨(aM.alloc (by simp) _).alloc (by simp;omega) _,by simp, ?_, ?_⟩
 ·rw[aay _ _ _ (by simp)];have:=By (w.alloc j) e;simpa using this
 ·have:=By ((w.alloc j).alloc e) i;simpa using this
theorem Rz(w:World)(g n:Nat)(X Y:Nat->ByteArray)(b:En.Bind)(hb:D1 b n X Y)(B:w.heap[g]?=some (.cells (cY n X Y) 369 (0,0)))(a:Ax.Atom)(ad)(ac:Nat)
 (y:MA.ok w (a,.slice ad a.af.length ac))(hk:∀t,t∈a.af->t.kind=0\/t.kind=1)(h3:a.af.length<=3):
 Calls prog 265 #[.pointer (some ⟨g,0,none⟩),.agg #[.int .i64 a.at_,.string a.pred,.slice ad a.af.length ac]] w λe w'=>Below w.heap.size w w'/\e=.returned (.agg (lG a.pred (im (PA a.af (En.val b)) a.af.length))):=by
 have jy:=lt_of_heap B;unfold MA.ok at y;simp only at y;have hle:=aH y;have HK:=aj hk;clear hk;generalize hf:PA a.af (En.val b)=f;have HF:=aj hf;clear hf
 go_enter func265,ntmps265
 go_wp2_with fail
 change Code.wp prog _ _ _ (((w.alloc (.cells #[.int .i64 a.at_,.string a.pred,.slice ad a.af.length ac] 219)).alloc (.cells (lG ⟨#[]⟩ (im f 0)) 325)).alloc (.cells (lG a.pred (im f 0)) 325));obtain⟨mb,ms,H,E⟩:=TQ w (.cells #[.int .i64 a.at_,.string a.pred,.slice ad a.af.length ac] 219) (.cells (lG ⟨#[]⟩ (im f 0)) 325) (.cells (lG a.pred (im f 0)) 325);generalize (((w.alloc (.cells #[.int .i64 a.at_,.string a.pred,.slice ad a.af.length ac] 219)).alloc (.cells (lG ⟨#[]⟩ (im f 0)) 325)).alloc (.cells (lG a.pred (im f 0)) 325))=w0 at mb ms H E ⊢;have N:w0.heap[g]?=some (.cells (cY n X Y) 369 (0,0)):=by rw[mb.block _ jy];exact B
 go_loopw [14] (λiv wr=>∃k:Nat,k<=a.af.length/\iv=.int .i64 k/\wr.heap[w.heap.size+1+1]?=some (.cells (lG a.pred (im f k)) 325 (0,0))/\Kb [w.heap.size+1+1] w0 wr) (λiv _=>a.af.length-(intOf iv).toNat)
 ·exact⟨0,IS _,rfl,E,Kb.refl _ _⟩
 ·
  obtain⟨k,Hj,rfl,x,u⟩:=hrel;have cp:=u.size;have Z:wr.ownsRow 0 310 2 (.slice ad a.af.length ac) a.af.length (cw a.af):=u.row (ae y mb) (λq hq hm=>by
   simp only[aae]at hm;have:=(World.ownsRow.lt y q hq).2;omega)
  have j:wr.heap[w.heap.size+1]?=some (.cells (lG ⟨#[]⟩ (im f 0)) 325 (0,0)):=u.heap H (by simp only[aae];omega);have I:wr.heap[g]?=some (.cells (cY n X Y) 369 (0,0)):=u.heap N (by simp only[aae];omega);have ju:Below w.heap.size w wr:=u.aQ mb (by omega) (λi U=>by simp at U;omega);have Oj:w.heap.size+1+1<wr.heap.size:=by omega
  by_cases aL:k<a.af.length
  ·obtain⟨tg,rfl,lJ,Sz,M⟩:=aA Z;obtain⟨y0,y1⟩:=fJ a.af k aL;have d0:=M _ _ y0;have d1:=M _ _ y1;have WQ:=HK.out _ (IN aL);have He:f k=En.dS (En.val b) a.af[k]:=by rw[<-HF.out];simp[PA,AS aL]
   generalize a.af[k]=t at d0 d1 WQ He;obtain⟨tk,J⟩:=t;simp only at d0 d1;have A:∀W,Below wr.heap.size wr W->Calls prog 286 #[.pointer (some ⟨g,0,none⟩),.agg #[.int .i64 tk,.string J]] W λe w'=>e=.returned (.string (En.dS (En.val b) ⟨tk,J⟩))/\Below W.heap.size W w':=λW hW=>GP W g n X Y b hb ⟨tk,J⟩ WQ (by rw[hW.block _ (by omega)];exact I);rw[<-He]at A;generalize hv:f k=v at A;have HV:=aj hv;clear M Z E H y0 y1 WQ He I B N hv j
   go_wp2_with (go_at_call 286;refine(A _ (by exact aM)).mono ?_;rintro e w1 ⟨rfl,aV⟩;have V:Below wr.heap.size wr w1:=aM.trans (aV.mono (by simp));have D:w1.heap[w.heap.size+1+1]?=some (.cells (lG a.pred (im f k)) 325 (0,0)):=(by rw[V.block _ Oj];exact x);have iS:=V.size;have W9:w.heap.size+1+1<w1.heap.size:=(by omega);have fx:(w1.cell? ⟨w.heap.size+1+1,1+k,none⟩)=some (.string (im f k k)):=(by rw[aaB _ _ _ _ _ _ D];exact QI (by omega));have fz:w1.frozen? ⟨w.heap.size+1+1,1+k,none⟩=false:=(by simp[World.frozen?,D]);have ahs:=aj D;clear aV A D)
   have sC:=aC w1 ahs.out (1+k) (.string v);rw[PO (by omega) HV.out]at sC;go_roundw
   ·exact⟨k+1,by omega,by go_num,sC,(u.below V).trans (Kb.setCell w1 ⟨w.heap.size+1+1,1+k,none⟩ (.string v))⟩
   ·simp[intOf];omega
  ·have agy:k=a.af.length:=by omega
   subst agy;have q0:=mA x;have q1:=ow x;have q2:=rq x;have q3:=E4 x;have r0:=mA j;have r1:=ow j;have r2:=rq j;have r3:=E4 j;have rf:∀o,wr.frozen? ⟨w.heap.size+1,o,none⟩=false:=λo=>by simp[World.frozen?,j]
   have uu:=aj j;have aah:w.heap.size+1<wr.heap.size:=by omega
   clear x Z E H j I B N
   go_wp2_with fail
   change bodyPost prog _ _ _ _ (RE wr (w.heap.size+1) a.pred (im f a.af.length));obtain⟨O,Se⟩:=Na (pr:=a.pred) (F:=im f a.af.length) uu.out;generalize RE wr (w.heap.size+1) a.pred (im f a.af.length)=wz at O Se ⊢;have Xi:Below w.heap.size w wz:=Se.aQ ju (by omega) (λi U=>by simp at U;omega);have zc:=aq O;have hwz:=lt_of_heap O;refine aaT (v:=.agg (lG a.pred (im f a.af.length))) ?_ rfl ⟨Xi,rfl⟩;unfold lG at zc ⊢;simp[results,Tryz.results265,go_sem,zc]
/- tooMany. -/
theorem qY(l k)(h:k<l.length):
 (cR l)[k*4]?=some (.int .i64 (l[k]).head.1.at_)/\(cR l)[k*4+1]?=some (.string (l[k]).head.1.pred)/\(cR l)[k*4+2]?=some (l[k]).head.2/\(cR l)[k*4+3]?=some (l[k]).bv:=by
 induction l generalizing k with
 | nil=>simp at h
 | cons a l ih=>
  cases k with
  | zero=>simp[cR]
  | succ k=>
   have:=ih k (by simpa using h);have e:∀j,(cR (a::l))[(k+1)*4+j]?=(cR l)[k*4+j]?:=by
    intro j;have:cR (a::l)=[.int .i64 a.head.1.at_,.string a.head.1.pred,a.head.2,a.bv]++cR l:=by simp[cR]
    rw[this,abr (by simp;omega)];congr 1;simp;omega
   have i:=e 0;simp only[acV]at i;rw[i,e 1,e 2,e 3];simpa using this
def bK(w:World)(rd:Option Addr)(rc:Nat)(l:List MR):Prop:=
 w.ownsRow 0 222 4 (.slice rd l.length rc) l.length (cR l)/\Je w l/\∀r,r∈l->r.body.length<=1000
theorem bK.below{rd rc l}(h:bK w rd rc l)(e:Below w.heap.size w w'):bK w' rd rc l:=⟨ae h.1 e,qk h.2.1 e,h.2.2⟩
theorem bK.at{rd rc l}(h:bK w rd rc l)(j:k<l.length):
 ∃g a ad c bd d body,rd=some ⟨g,0,none⟩/\g<w.heap.size/\l.length<=rc/\w.cell? ⟨g,k*4,none⟩=some (.int .i64 (Ax.Atom.at_ a))/\w.cell? ⟨g,k*4+1,none⟩=some (.string a.pred)/\w.cell? ⟨g,k*4+2,none⟩=some (.slice ad a.af.length c)/\
  w.cell? ⟨g,k*4+3,none⟩=some (.slice bd body.length d)/\MR.ok w ⟨(a,.slice ad a.af.length c),.slice bd body.length d,body⟩/\body.length<=1000/\(l[k]).aw=⟨a,List.map Prod.fst body⟩:=by
 obtain⟨g,rfl,u,x,e⟩:=aA h.1;have hm:=IN j;have i:=h.2.1 _ hm;have y:=h.2.2 _ hm;obtain⟨c0,c1,c2,A⟩:=qY l k j;generalize l[k]=r at*;rcases r with⟨⟨a,B⟩,bv,body⟩;obtain⟨ad,c,t⟩:=ah i.1;obtain⟨bd,d,q⟩:=ah i.2.1;simp only at t q;subst t q;exact⟨g,a,ad,c,bd,d,body,rfl,u,x,e _ _ c0,e _ _ c1,e _ _ c2,e _ _ A,i,y,rfl⟩
theorem TN(h:8<=i):Ax.fD i ps r=true:=by simp[Ax.fD,h]
theorem LJ(h:2<r.body.length):Ax.fD i ps r=true:=by simp[Ax.fD,h]
theorem JN(h:6<ps.length):Ax.fD i ps r=true:=by simp[Ax.fD,h]
theorem M4(h:Ax.iH r.atoms=true):Ax.fD i ps r=true:=by simp[Ax.fD,h]
theorem LX(t:¬8<=i)(q:¬2<r.body.length)(j:¬6<ps.length)(e:Ax.iH r.atoms=false):Ax.fD i ps r=false:=by simp[Ax.fD,t,q,j,e]
def WY(w wr:World)(v:Value)(ps:List ByteArray)(k:Nat)(L:List Ax.aI)(R:Option Nat):Prop:=
 wr.ownsRow w.heap.size 9 1 v ps.length (strCells ps)/\Below w.heap.size w wr/\ps.length<=6/\Ax.bL k ps (L.drop k)=R
theorem uH(w rd rc l)(h:bK w rd rc l):
 Calls prog 106 #[.slice rd l.length rc] w λe w'=>Below w.heap.size w w'/\((∃at_:Nat,Ax.bL 0 [] (l.map MR.aw)=some at_/\e=.returned (.tuple #[.int .i64 at_,.bool true]))\/(Ax.bL 0 [] (l.map MR.aw)=none/\e=.returned (.tuple #[.int .i64 0,.bool false]))):=by
 have hle:=aH h.1;generalize hR:Ax.bL 0 [] (l.map MR.aw)=R
 go_enter func106,ntmps106
 go_wp2_with fail
 go_loopw [4,9] (λv i wr=>∃(k:Nat) (ps:List ByteArray),k<=l.length/\i=.int .i64 k/\WY w wr v ps k (l.map MR.aw) R) (λ_ i _=>l.length-(intOf i).toNat)
 ·exact⟨0,[],IS _,rfl,aaM _ _ _ _,aaj _ _,IS _,hR⟩
 ·
  obtain⟨k,ps,hk,rfl,X,J,Bs,hr⟩:=hrel;have H:=aj hr;clear hr hR;obtain⟨Z,pc,Ws⟩:=ah X;subst Ws;have cp:=J.size;by_cases aL:k<l.length
  ·obtain⟨g,a,ad,c,bd,d,body,rfl,hg,kW,d0,d1,d2,d3,M,N,dh⟩:=(h.below J).at aL;have dE:(l.map MR.aw).drop k=⟨a,List.map Prod.fst body⟩::(l.map MR.aw).drop (k+1):=by
    rw[aan (by simpa using aL)];simp[dh]
   rw[dE]at H;clear dE dh;obtain⟨qs,t⟩:∃qs,Ax.bH ps (a::List.map Prod.fst body)=qs:=⟨_,rfl⟩;have U:=aj t;clear t;have A:Ax.fD k qs ⟨a,List.map Prod.fst body⟩=true->R=some a.at_:=by
    intro hm;have:=H.out;simp only[Ax.bL,Ax.aI.atoms,U.out,hm,if_true]at this;exact this.symm
   have W:Ax.fD k qs ⟨a,List.map Prod.fst body⟩=false->Ax.bL (k+1) qs ((l.map MR.aw).drop (k+1))=R:=by
    intro hm;have:=H.out;simp only[Ax.bL,Ax.aI.atoms,U.out,hm,aet,if_false]at this;exact this
   by_cases h8:8<=k
   ·have O:Hid (R=some a.at_):=A (TN h8);clear A W H
    go_wp2_with (first | (go_at_call 180;refine(iD w.heap.size Z pc ps (MR.below M aM) N (by simp;omega) (X.alloc _)).mono ?_;rintro e w2 ⟨qd,qc,y,rfl,t,aO,q,u,zW⟩;have I:y=qs:=t.out.trans U.out;subst I;have hblk:=u _ _ (By wr _) (by simp) (by intro c fz j;simp at j);have B:=q.size;have F:=aq hblk 0;have j:=aq hblk 1;have E:=aq hblk 2;have e3:=aq hblk 3;simp only[aaV,abw,abY]at F j E e3;simp only[abb]at B))
    go_ret2
    exact⟨(J.alloc cp _).trans q,.inl ⟨a.at_,O.out,rfl⟩⟩
   ·by_cases h2:2<body.length
    ·have O:Hid (R=some a.at_):=A (LJ (by simpa using h2));clear A W H
     go_wp2_with (first | (go_at_call 180;refine(iD w.heap.size Z pc ps (MR.below M aM) N (by simp;omega) (X.alloc _)).mono ?_;rintro e w2 ⟨qd,qc,y,rfl,t,aO,q,u,zW⟩;have I:y=qs:=t.out.trans U.out;subst I;have hblk:=u _ _ (By wr _) (by simp) (by intro c fz j;simp at j);have B:=q.size;have F:=aq hblk 0;have j:=aq hblk 1;have E:=aq hblk 2;have e3:=aq hblk 3;simp only[aaV,abw,abY]at F j E e3;simp only[abb]at B))
     go_ret2
     exact⟨(J.alloc cp _).trans q,.inl ⟨a.at_,O.out,rfl⟩⟩
    ·by_cases h6:6<qs.length
     ·have O:Hid (R=some a.at_):=A (JN h6);clear A W H
      go_wp2_with (first | (go_at_call 180;refine(iD w.heap.size Z pc ps (MR.below M aM) N (by simp;omega) (X.alloc _)).mono ?_;rintro e w2 ⟨qd,qc,y,rfl,t,aO,q,u,zW⟩;have I:y=qs:=t.out.trans U.out;subst I;have hblk:=u _ _ (By wr _) (by simp) (by intro c fz j;simp at j);have B:=q.size;have F:=aq hblk 0;have j:=aq hblk 1;have E:=aq hblk 2;have e3:=aq hblk 3;simp only[aaV,abw,abY]at F j E e3;simp only[abb]at B))
      go_ret2
      exact⟨(J.alloc cp _).trans q,.inl ⟨a.at_,O.out,rfl⟩⟩
     ·cases D:Ax.iH (a::List.map Prod.fst body)
      case true=>
       have O:Hid (R=some a.at_):=A (M4 D);clear A W H
       go_wp2_with (first | (go_at_call 180;refine(iD w.heap.size Z pc ps (MR.below M aM) N (by simp;omega) (X.alloc _)).mono ?_;rintro e w2 ⟨qd,qc,y,rfl,t,aO,q,u,zW⟩;have I:y=qs:=t.out.trans U.out;subst I;have hblk:=u _ _ (By wr _) (by simp) (by intro c fz j;simp at j);have B:=q.size;have F:=aq hblk 0;have j:=aq hblk 1;have E:=aq hblk 2;have e3:=aq hblk 3;simp only[aaV,abw,abY]at F j E e3;simp only[abb]at B;have Iy:=MR.others (MR.below M aM) u (by decide) (by decide)) | (go_at_call 112;refine(jN Iy N).mono ?_;rintro e w3 ⟨Za,c3,rfl,lz,fY,x⟩;have abl:=eH (e:=9) x;have oN:=(x.block _ (lt_of_heap hblk)).trans hblk) | (go_at_call 181;refine(mT w3 0 Za c3 ((a,.slice ad a.af.length c)::body) (by exact lz) fY).mono ?_;rintro e w4 ⟨rfl,V⟩;have hw:Ax.iH (((a,Value.slice ad a.af.length c)::body).map Prod.fst)=true:=D;rw[hw];have Y:=(V.block _ (lt_of_heap oN)).trans oN;have g0:=aq Y 0;simp only[aaV,abw]at g0;have Wz:=lt_of_heap Y))
       go_ret2
       exact⟨(((J.alloc cp _).trans q).trans (x.mono (by omega))).trans (V.mono (by have:=x.size;omega)),.inl ⟨a.at_,O.out,rfl⟩⟩
      case false=>
       have HN:Hid (Ax.bL (k+1) qs ((l.map MR.aw).drop (k+1))=R):=W (LX h8 (by simpa using h2) h6 D);clear A W H
       go_wp2_with (first | (go_at_call 180;refine(iD w.heap.size Z pc ps (MR.below M aM) N (by simp;omega) (X.alloc _)).mono ?_;rintro e w2 ⟨qd,qc,y,rfl,t,aO,q,u,zW⟩;have I:y=qs:=t.out.trans U.out;subst I;have hblk:=u _ _ (By wr _) (by simp) (by intro c fz j;simp at j);have B:=q.size;have F:=aq hblk 0;have j:=aq hblk 1;have E:=aq hblk 2;have e3:=aq hblk 3;simp only[aaV,abw,abY]at F j E e3;simp only[abb]at B;have Iy:=MR.others (MR.below M aM) u (by decide) (by decide)) | (go_at_call 112;refine(jN Iy N).mono ?_;rintro e w3 ⟨Za,c3,rfl,lz,fY,x⟩;have abl:=eH (e:=9) x;have oN:=(x.block _ (lt_of_heap hblk)).trans hblk) | (go_at_call 181;refine(mT w3 0 Za c3 ((a,.slice ad a.af.length c)::body) (by exact lz) fY).mono ?_;rintro e w4 ⟨rfl,V⟩;have hw:Ax.iH (((a,Value.slice ad a.af.length c)::body).map Prod.fst)=false:=D;rw[hw];have Y:=(V.block _ (lt_of_heap oN)).trans oN;have g0:=aq Y 0;simp only[aaV,abw]at g0;have Wz:=lt_of_heap Y))
       go_roundw
       ·
        exact⟨k+1,y,by omega,by go_num,ae (ae aO x) V,(((J.alloc cp _).trans q).trans (x.mono (by omega))).trans (V.mono (by have:=x.size;omega)),by omega,HN.out⟩
       ·simp[intOf];omega
  ·have HE:Hid (R=none):=by
    have:=H.out;rw[abD (by simp;omega)]at this;exact this.symm
   go_wp2_with fail
   go_ret2
   exact⟨J,.inr ⟨HE.out,rfl⟩⟩
/- openHead. -/
theorem sj(w rd rc l)(h:bK w rd rc l):
 Calls prog 108 #[.slice rd l.length rc] w λe w'=>Below w.heap.size w w'/\((∃at_:Nat,Ax.bE (l.map MR.aw)=some at_/\e=.returned (.tuple #[.int .i64 at_,.bool true]))\/(Ax.bE (l.map MR.aw)=none/\e=.returned (.tuple #[.int .i64 0,.bool false]))):=by
 have hle:=aH h.1;generalize hR:Ax.bE (l.map MR.aw)=R
 go_enter func108,ntmps108
 go_wp2_with fail
 go_loopw [10] (λi wr=>∃(k:Nat),k<=l.length/\i=.int .i64 k/\Below w.heap.size w wr/\Ax.bE ((l.map MR.aw).drop k)=R) (λi _=>l.length-(intOf i).toNat)
 ·exact⟨0,IS _,rfl,aaj _ _,hR⟩
 ·
  obtain⟨k,hk,rfl,I,hr⟩:=hrel;have J:=aj hr;clear hr hR;obtain⟨w0,rfl⟩:∃x,x=wr:=⟨_,rfl⟩;have cp:=I.size;by_cases aL:k<l.length
  ·obtain⟨g,a,ad,c,bd,d,body,rfl,hg,kW,d0,d1,d2,d3,Z,eB,dh⟩:=(h.below I).at aL;have dE:(l.map MR.aw).drop k=⟨a,List.map Prod.fst body⟩::(l.map MR.aw).drop (k+1):=by
    rw[aan (by simpa using aL)];simp[dh]
   rw[dE]at J;clear dE dh;have mm:Ax.lE ⟨a,List.map Prod.fst body⟩=true->R=some a.at_:=by
    intro hm;have:=J.out;simp only[Ax.bE,hm,if_true]at this;exact this.symm
   have F:Ax.lE ⟨a,List.map Prod.fst body⟩=false->Ax.bE ((l.map MR.aw).drop (k+1))=R:=by
    intro hm;have:=J.out;simp only[Ax.bE,hm,aet,if_false]at this;exact this
   have HY:=aj mm;have HN:=aj F;clear mm F J;have YH:=aH Z.1;simp only at YH
   go_wp2_with fail
   go_loopw [18] (λi w2=>∃(q:Nat),q<=a.af.length/\i=.int .i64 q/\Below (w0.heap.size+1) (w0.alloc (.cells #[.int .i64 a.at_,.string a.pred,.slice ad a.af.length c,.slice bd body.length d] 222)) w2/\∀j (y:j<a.af.length),j<q->Ax.ek (List.map Prod.fst body) a.af[j]=false) (λi _=>a.af.length-(intOf i).toNat)
   ·exact⟨0,IS _,rfl,aaj _ _,λj _ y=>by omega⟩
   ·
    obtain⟨q,hq,rfl,B,F⟩:=hrel;have Y:=aj F;clear F;have lf:=B.size;simp only[abb]at lf;have agY:w0.heap.size<wr.heap.size:=by omega
    have hblk:=(B.block _ (by omega)).trans (By w0 _);have e0:=aq hblk 0;have e1:=aq hblk 1;have e2:=aq hblk 2;have e3:=aq hblk 3;simp only[aaV,abw,abY]at e0 e1 e2 e3;have X:=MR.below (MR.below Z aM) (B.mono (by simp));by_cases O:q<a.af.length
    ·obtain⟨tg,H,lJ,Sz,M⟩:=aA X.1 (by show 0<a.af.length;omega);simp only at H M;subst H;have t0:=M _ _ (fJ a.af q O).1;have t1:=M _ _ (fJ a.af q O).2;clear M;generalize N:a.af[q]=t at t0 t1;have HT:=aj N;clear N;by_cases u:t.kind=1
     ·cases E:Ax.qh (List.map Prod.fst body) t
      case false=>
       have mB:Hid (R=some a.at_):=HY.out (by
        simp only[Ax.lE,ady];exact⟨t,by rw[<-HT.out];exact IN O,by simp[Ax.ek,u,E]⟩)
       have kJ:(t.kind==1)=true:=by simp[u]
       clear u
       go_wp2_with (first | (go_at_call 183;refine(uQ (MR.below X aM) t).mono ?_;rintro e w3 ⟨rfl,A⟩;have D:=(A.block _ (by simp;omega)).trans ((aay _ _ _ (lt_of_heap hblk)).trans hblk);have V:=aq D 0;simp only[aaV,abw]at V;have Xz:=lt_of_heap D;simp only[abb]at A))
       go_ret2
       refine⟨?_,.inl ⟨a.at_,mB.out,rfl⟩⟩;exact((I.alloc cp _).trans (B.mono (by omega))).trans (((aaj _ _).alloc (by omega) _).trans (A.mono (by omega)))
      case true=>
       have W:Hid (Ax.ek (List.map Prod.fst body) t=false):=by simp[Hid,Ax.ek,E]
       have kJ:(t.kind==1)=true:=by simp[u]
       clear u
       go_wp2_with (first | (go_at_call 183;refine(uQ (MR.below X aM) t).mono ?_;rintro e w3 ⟨rfl,A⟩;have D:=(A.block _ (by simp;omega)).trans ((aay _ _ _ (lt_of_heap hblk)).trans hblk);have V:=aq D 0;simp only[aaV,abw]at V;have Xz:=lt_of_heap D;simp only[abb]at A))
       go_roundw
       ·
        refine⟨q+1,by omega,by go_num,B.trans (((aaj _ _).alloc (by omega) _).trans (A.mono (by omega))),λj y U=>?_⟩;by_cases e:j=q
        ·subst e;rw[HT.out];exact W.out
        ·exact Y.out j y (by omega)
       ·simp[intOf];omega
     ·have W:Hid (Ax.ek (List.map Prod.fst body) t=false):=by simp[Hid,Ax.ek,u]
      have kJ:(t.kind==1)=false:=by simp[u]
      clear u
      go_wp2_with fail
      go_roundw
      ·
       refine⟨q+1,by omega,by go_num,B.alloc (by omega) _,λj y U=>?_⟩;by_cases e:j=q
       ·subst e;rw[HT.out];exact W.out
       ·exact Y.out j y (by omega)
      ·simp[intOf];omega
    ·have VQ:Ax.lE ⟨a,List.map Prod.fst body⟩=false:=by
      rw[acZ];intro ho;simp only[Ax.lE,ady]at ho;obtain⟨t,N,XC⟩:=ho;obtain⟨j,y,e⟩:=acf N;have:=Y.out j y (by omega);rw[e,XC]at this;cases this
     have NH:Hid (Ax.bE ((l.map MR.aw).drop (k+1))=R):=HN.out VQ;clear VQ
     go_wp2_with fail
     go_roundw
     ·exact⟨k+1,by omega,by go_num,(I.alloc cp _).trans (B.mono (by omega)),NH.out⟩
     ·simp[intOf];omega
  ·have HE:Hid (R=none):=by
    have:=J.out;rw[abD (by simp;omega)]at this;exact this.symm
   go_wp2_with fail
   go_ret2
   exact⟨I,.inr ⟨HE.out,rfl⟩⟩
/- twoArities. -/
section
open Go.RowKit Go.Maps Go.WideMaps Go.WideElems
theorem Tryz.fU:Keyed prog 9:=string_keyed abK
theorem Tryz.CJ(w):(zeroValue 3).run prog w=.ok (.int .i64 0) w:=by kernel_rfl
def bj(p:ByteArray):Lit:=.string p.data.toList
theorem kL{p q}(h:bj p=bj q):p=q:=by
 simp only[bj,Lit.string.injEq]at h;rcases p with⟨⟨p⟩⟩;rcases q with⟨⟨q⟩⟩;simp at h;rw[h]
def Bm(D:DataW Unit)(m:List (ByteArray×Nat)):Prop:=
 ∀p:ByteArray,Maps.has D (bj p)=(Ax.look m p).isSome/\∀n,Ax.look m p=some n->D.atKey (bj p) (.lit (.int .i64 0))=.lit (.int .i64 n)
theorem La:Bm (.map []) []:=λp=>⟨rfl,λn h=>by simp[Ax.look]at h⟩
theorem eR(m p q n):Ax.look ((p,n)::m) q=if p=q then some n else Ax.look m q:=by
 by_cases h:p=q<;>simp[Ax.look,aeq,h]
theorem Cj{D m}(h:Bm D m)(i:IsMap D)(p:ByteArray)(n:Nat):Bm (D.put (bj p) (.lit (.int .i64 n))) ((p,n)::m):=by
 intro q;rw[eR];by_cases e:p=q
 ·subst e;rw[aa3 rfl,has_put_same i (k:=bj p) aeU,atKey_put_same i (k:=bj p) aeU];grind
 ·have j:bj q≠bj p:=λt=>e (kL t).symm;rw[aaD e,has_put_other j,atKey_put_other j];exact h q
theorem GM{D m}(h:Bm D m)(i:IsMap D){p}(j:Ax.look m p=some n):Bm (D.put (bj p) (.lit (.int .i64 n))) m:=by
 intro q;have:=Cj h i p n q;rw[eR]at this;by_cases e:p=q
 ·grind
 ·rw[aaD e]at this;exact this
theorem oW{e size v xs B}(h:w.ownsRow b e size v n xs)(q:w.grownBy w' (some B)){es x}(t:w.heap[B]?=some (.map es x)):w'.ownsRow b e size v n xs:=by
 refine h.kept q ?_;rcases h.2 with⟨rfl,_⟩ | ⟨g,cap,u,rfl,_,i,_⟩
 ·exact .inl rfl
 ·refine .inr λj=>?_;simp only[Value.ownBlock,AT]at j;rw[j,t]at i;simp at i
theorem JJ{l B}(h:um w l)(i:w.grownBy w' (some B)){es q}(j:w.heap[B]?=some (.map es q)):um w' l:=λx e=>oW (h x e) i j
theorem Am{R:Value->Option (DataW Unit×List MemPlace)}{D}(h:w.ownsMap prog 9 R b n D):∃es e,w.heap[b]?=some (.map es e):=by
 obtain⟨es,e,i,_⟩:=h;exact⟨es,e,i⟩
theorem AN{R:Value->Option (DataW Unit×List MemPlace)}{D}(h:w.ownsMap prog 9 R b n D)(e:Below w.heap.size w w'):w'.ownsMap prog 9 R b n D:=h.kept (row:=none) (bz e none) (by simp)
def Vi(w wr:World)(m:List (ByteArray×Nat))(n:Nat)(L:List Ax.Atom)(R:Option Nat):Prop:=
 (∃D:DataW Unit,wr.ownsMap prog 9 (plainElem prog 3) w.heap.size n D/\Bm D m)/\Below w.heap.size w wr/\Ax.dt m L=R
theorem pa(w rd rc l)(h:bK w rd rc l)(nX:l.length<=1000)(Ew:∀a,a∈(l.map MR.aw).flatMap Ax.aI.atoms->a.pred.size<=600):
 Calls prog 107 #[.slice rd l.length rc] w λe w'=>Below w.heap.size w w'/\((∃at_:Nat,Ax.dt [] ((l.map MR.aw).flatMap Ax.aI.atoms)=some at_/\e=.returned (.tuple #[.int .i64 at_,.bool true]))\/(Ax.dt [] ((l.map MR.aw).flatMap Ax.aI.atoms)=none/\e=.returned (.tuple #[.int .i64 0,.bool false]))):=by
 generalize hR:Ax.dt [] ((l.map MR.aw).flatMap Ax.aI.atoms)=R;have Fu:=aj Ew;clear Ew;have YI:=@run_makeMap prog
 go_enter func107,ntmps107
 go_wp2_with fail
 go_loopw [14] (λi wr=>∃(k n:Nat) (m:List (ByteArray×Nat)),k<=l.length/\n<=1001*k/\i=.int .i64 k/\Vi w wr m n (((l.map MR.aw).drop k).flatMap Ax.aI.atoms) R) (λi _=>l.length-(intOf i).toNat)
 ·exact⟨0,0,[],IS _,IS _,rfl,⟨_,World.ownsMap_made _ _ _ _,La⟩,aM,hR⟩
 ·
  obtain⟨k,n,m,hk,hnk,rfl,⟨D,aE,Q1⟩,aF,hr⟩:=hrel;have HR:=aj hr;clear hr hR;obtain⟨w0,rfl⟩:∃x,x=wr:=⟨_,rfl⟩;have cp:=aF.size;have R9:=aE.lt;by_cases aL:k<l.length
  ·obtain⟨g,a,ad,c,bd,d,body,rfl,hg,kW,d0,d1,d2,d3,yL,eB,dh⟩:=(h.below aF).at aL;have M:(l.map MR.aw).drop k=⟨a,List.map Prod.fst body⟩::(l.map MR.aw).drop (k+1):=by
    rw[aan (by simpa using aL)];simp[dh]
   have VF:∀x,x∈a::List.map Prod.fst body->x.pred.size<=600:=by
    intro x hx;refine Fu.out x ?_;rw[<-ab7 k (l.map MR.aw),M];simp only[abQ,aaW,ZD];exact .inr (.inl hx)
   have HM:=aj VF;rw[M,aaW]at HR;clear M dh VF
   go_wp2_with (go_at_call 112;refine(jN (MR.below yL aM) eB).mono ?_;rintro e w1 ⟨EH,c',rfl,lz,fY,aV⟩)
   have cq:Below w0.heap.size w0 w1:=aM.trans (aV.mono (by simp));have bx:=AN aE cq;have iS:=cq.size;have oP:=aF.trans (cq.mono cp);clear aV yL aE cq d0 d1 d2 d3 aF;obtain⟨es1,ck1,VA⟩:=Am bx;generalize hL:(a,Value.slice ad a.af.length c)::body=L at lz fY;have P5:L.length=body.length+1:=by rw[<-hL];rfl
   have Ny:L.map Prod.fst=a::body.map Prod.fst:=by rw[<-hL];rfl
   have hLa:L.length<=body.length+1:=by omega
   have hLb:body.length+1<=L.length:=by omega
   have MM:Hid (Ax.dt m (L.map Prod.fst++((l.map MR.aw).drop (k+1)).flatMap Ax.aI.atoms)=R):=by rw[Ny];exact HR.out
   have NF:Hid (∀x,x∈L.map Prod.fst->x.pred.size<=600):=by rw[Ny];exact HM.out
   clear hL Ny P5 HR HM
   go_loopw [21] (λi w2=>∃(q t:Nat) (y:List (ByteArray×Nat)),q<=L.length/\t<=n+q/\i=.int .i64 q/\Vi w w2 y t ((L.map Prod.fst).drop q++((l.map MR.aw).drop (k+1)).flatMap Ax.aI.atoms) R/\w1.grownBy w2 (some w.heap.size)) (λi _=>L.length-(intOf i).toNat)
   ·exact⟨0,n,m,IS _,by omega,rfl,⟨⟨D,bx,Q1⟩,oP,MM.out⟩,gF⟩
   ·
    obtain⟨q,t,y,hq,hnq,rfl,⟨⟨B,E,Z⟩,KJ,AU⟩,U⟩:=hrel;have A:=aj AU;have N:=aj Z;have W:=E.isMap;clear AU MM Z;have EN:=U.size;have aq3:=E.lt;by_cases I:q<L.length
    ·have bC:=oW lz U VA;obtain⟨g2,rfl,jI,vE,bA⟩:=aA bC;have gY:=bA _ _ (bR L q I).1;have gZ:=bA _ _ (bR L q I).2.1;have iL:=bA _ _ (bR L q I).2.2;have zY:MA.ok wr L[q]:=JJ fY U VA _ (IN I);have nP:=aH zY;obtain⟨xd,xc,pW⟩:=ah zY;rw[pW]at iL;have M:(L.map Prod.fst).drop q=(L[q]).1::(L.map Prod.fst).drop (q+1):=by
      rw[aan (by simpa using I)];simp
     rw[M,aeK]at A;have As:(L[q]).1.pred.size<=600:=NF.out _ (aax.2 ⟨_,IN I,rfl⟩);generalize (L[q]).1=x at gY gZ iL A As nP;clear pW bA bC M zY lz fY;have mI:keyOf prog 9 (.string x.pred)=some (bj x.pred):=keyOf_string_mk abK eI;have O:=aj mI;clear mI;cases u:Ax.look y x.pred with
     | none=>
      have afP:Maps.has B (bj x.pred)=false:=by rw[(N.out x.pred).1,u];rfl
      have HN:Hid (Ax.dt ((x.pred,x.af.length)::y) ((L.map Prod.fst).drop (q+1)++((l.map MR.aw).drop (k+1)).flatMap Ax.aI.atoms)=R):=by
       have:=A.out;simp only[Ax.dt,u]at this;exact this
      clear u A
      go_wp2_with (first | (at_lookup;go_must (refine wpList_lookup_own_ok_int _ rfl _ _ 307 rfl 9 3 .i64 Tryz.fU Tryz.underlying307 ade (Tryz.CJ _) w.heap.size t B rfl (E.alloc _) _ (bj x.pred) rfl O.out ?_;intro cc F H;clear F H)) | (at_mapUpdate;go_must (refine aeA _ rfl _ _ _ 307 rfl 9 3 Tryz.fU Tryz.underlying307 _ w.heap.size t B rfl (E.alloc _) eI _ _ (bj x.pred) rfl rfl O.out (.lit (.int .i64 x.af.length)) [] (plainElem_int ade (WalkArith.wf_i64 (by omega))) ?_;intro w3 cm J)))
      go_roundw
      ·
       refine⟨q+1,t+1,(x.pred,x.af.length)::y,by omega,by omega,by go_num,⟨⟨_,cm,Cj N.out W _ _⟩, ?_,HN.out⟩, ?_⟩
       ·exact(KJ.alloc (by omega) _).grown J (by simp;omega) (λj hj=>by cases hj;exact OF _)
       ·exact aG (grownBy_alloc U) J
      ·simp[intOf];omega
     | some V=>
      have afP:Maps.has B (bj x.pred)=true:=by rw[(N.out x.pred).1,u];rfl
      have Y:Hid (B.atKey (bj x.pred) (.lit (.int .i64 0))=.lit (.int .i64 V)):=(N.out x.pred).2 V u;by_cases X:V=x.af.length
      ·have HN:Hid (Ax.dt y ((L.map Prod.fst).drop (q+1)++((l.map MR.aw).drop (k+1)).flatMap Ax.aI.atoms)=R):=by
        have:=A.out;simp only[Ax.dt,u,X,if_true]at this;exact this
       have HLK:Hid (Ax.look y x.pred=some x.af.length):=by rw[u,X];rfl
       subst X;clear u A
       go_wp2_with (first | (at_lookup;go_must (refine wpList_lookup_own_ok_int _ rfl _ _ 307 rfl 9 3 .i64 Tryz.fU Tryz.underlying307 ade (Tryz.CJ _) w.heap.size t B rfl (E.alloc _) _ (bj x.pred) rfl O.out ?_;intro cc F H;obtain rfl:cc=x.af.length:=by (rw[Y.out]at F;simpa using F.symm))) | (at_mapUpdate;go_must (refine aeA _ rfl _ _ _ 307 rfl 9 3 Tryz.fU Tryz.underlying307 _ w.heap.size t B rfl (E.alloc _) eI _ _ (bj x.pred) rfl rfl O.out (.lit (.int .i64 x.af.length)) [] (plainElem_int ade (WalkArith.wf_i64 (by omega))) ?_;intro w3 cm J)))
       go_roundw
       ·
        refine⟨q+1,t+1,y,by omega,by omega,by go_num,⟨⟨_,cm,GM N.out W HLK.out⟩, ?_,HN.out⟩, ?_⟩
        ·exact(KJ.alloc (by omega) _).grown J (by simp;omega) (λj hj=>by cases hj;exact OF _)
        ·exact aG (grownBy_alloc U) J
       ·simp[intOf];omega
      ·have HY:Hid (R=some x.at_):=by
        have:=A.out;simp only[Ax.dt,u,X,if_false]at this;exact this.symm
       have qt:((V:Int) != (x.af.length:Int))=true:=by simp;omega
       clear u A X
       go_wp2_with (first | (at_lookup;go_must (refine wpList_lookup_own_ok_int _ rfl _ _ 307 rfl 9 3 .i64 Tryz.fU Tryz.underlying307 ade (Tryz.CJ _) w.heap.size t B rfl (E.alloc _) _ (bj x.pred) rfl O.out ?_;intro cc F H;obtain rfl:cc=V:=by (rw[Y.out]at F;simpa using F.symm))) | (at_mapUpdate;go_must (refine aeA _ rfl _ _ _ 307 rfl 9 3 Tryz.fU Tryz.underlying307 _ w.heap.size t B rfl (E.alloc _) eI _ _ (bj x.pred) rfl rfl O.out (.lit (.int .i64 x.af.length)) [] (plainElem_int ade (WalkArith.wf_i64 (by omega))) ?_;intro w3 cm J)))
       go_ret2
       exact⟨KJ.alloc (by omega) _,.inl ⟨x.at_,HY.out,rfl⟩⟩
    ·have HN:Hid (Ax.dt y (((l.map MR.aw).drop (k+1)).flatMap Ax.aI.atoms)=R):=by
      have:=A.out;rw[abD (by simp;omega),acp]at this;exact this
     clear A
     go_wp2_with fail
     go_roundw
     ·exact⟨k+1,t,y,by omega,by omega,by go_num,⟨B,E,N.out⟩,KJ,HN.out⟩
     ·simp[intOf];omega
  ·have HE:Hid (R=none):=by
    have:=HR.out;rw[abD (by simp;omega)]at this;exact this.symm
   go_wp2_with fail
   go_ret2
   exact⟨aF,.inr ⟨HE.out,rfl⟩⟩
end
