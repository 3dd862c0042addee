/- New of any text, walked. -/
import Derived.Test.YtdmicblafmhflaaGreatDoorC16
set_option linter.unusedSimpArgs false
set_option linter.unusedVariables false
set_option maxHeartbeats 8000000
set_option maxRecDepth 100000
namespace Go.Proofs.YtdmicblafmhflaaGreatDoor
open Go.Proofs.Tryz Go.RowKit Go.Maps
variable{f:FI}{l:List FI}{G:List GT}{Q:List Pd.Pr}{k gm:Nat}{R:Rd.eP}{w wr:World}
theorem xC(h:GQ G Q (λ_=>[]))(i):da i G=[]:=by
 unfold da;rw[List.flatMap_eq_nil_iff];intro p _;unfold rowsOf;split
 ·rename_i t e;rw[(h.sub t (List.mem_of_find?_eq_some e)).2];rfl
 ·rfl
theorem Rk(h:GQ G Q (λ_=>[])):eA G=0:=by
 unfold eA;refine List.sum_eq_zero_iff_forall_eq_nat.2 ?_;intro x e;obtain⟨t,i,rfl⟩:=aax.1 e;rw[(h.sub t i).2];rfl
def S9(w:World)(s:ByteArray)(e:Ending)(w':World):Prop:=Below w.heap.size w w'/\
 (((Ax.read s).2.1≠0/\e=.returned (.tuple #[.pointer none,.int .i64 (Ax.read s).2.1,.int .i64 (Ax.read s).2.2]))\/
  ((Ax.read s).2.1=0/\Ax.gU (Ax.bX s)/\(Ax.read s).1.size<=600/\((e=.returned (.tuple #[.pointer none,.int .i64 7,.int .i64 0])/\bB (Ax.bX s) []=none)\/
   ∃eg Q s' rv gm hm l G T hd,e=.returned (.tuple #[.pointer (some ⟨eg,0,none⟩),.int .i64 0,.int .i64 0])/\w.heap.size<=eg/\jl w' eg (Ax.bX s) (Ax.read s).1 Q (λ_=>[]) s' rv gm hm l G T hd (.slice none 0 0)/\bB (Ax.bX s) []=some s')))
theorem Sp(s)(K:Nat->Int)(w)(hs:s.size<=maxLen)(hK:Dg.EA w K):Calls prog 34 #[.string s] w λe w'=>S9 w s e w':=by
 have Sk:=NU s w hs;by_cases O:(Ax.read s).2.1=0
 ·have XT:Hid (Calls prog 56 #[.string s] w λe w'=>∃rd rc l,e=.returned (.tuple #[.agg #[.string (Ax.read s).1,.slice rd (List.length l) rc],.int .i64 0,.int .i64 0])/\Hid (l.map MR.aw=Ax.bX s/\bK w' rd rc l/\Below w.heap.size w w'/\Ax.gU (Ax.bX s)/\(Ax.read s).1.size<=600)):=by
   refine Sk.mono ?_;rintro e w' ⟨u,⟨E,_⟩ | ⟨_,H,i,rd,rc,l,rfl,N,h4⟩⟩
   ·exact absurd O E
   ·exact⟨rd,rc,l,rfl,h4,N,u,H,i⟩
  have vA:Hid (∀e w',Below w.heap.size w w'->Ax.gU (Ax.bX s)->(Ax.read s).1.size<=600->((e=.returned (.tuple #[.pointer none,.int .i64 7,.int .i64 0])/\bB (Ax.bX s) []=none)\/
   ∃eg Q j rv gm hm l G T hd,e=.returned (.tuple #[.pointer (some ⟨eg,0,none⟩),.int .i64 0,.int .i64 0])/\w.heap.size<=eg/\jl w' eg (Ax.bX s) (Ax.read s).1 Q (λ_=>[]) j rv gm hm l G T hd (.slice none 0 0)/\bB (Ax.bX s) []=some j)->S9 w s e w'):=λe w' u H i N=>⟨u,.inr ⟨O,H,i,N⟩⟩
  generalize (Ax.read s).1=pl at*;generalize Ax.bX s=rs at*;clear Sk O
  go_enter func34,ntmps34
  go_upto_region 4 with(go_at_call 56;refine XT.out.mono ?_;rintro e w0 ⟨rd,rc,l,rfl,HRU⟩)
  obtain⟨w1,dA⟩:∃w1,w1=w0.alloc (.cells #[.string pl,.slice rd l.length rc] 101):=⟨_,rfl⟩;rw[<-dA];obtain⟨he,cT,cq,dR,XI⟩:=HRU.out;have dU:Below w0.heap.size w0 w1:=by rw[dA];exact aM
  have aV:Below w.heap.size w w1:=cq.trans (dU.mono cq.size);have eQ:w1.heap[w0.heap.size]?=some (.cells #[.string pl,.slice rd l.length rc] 101 (0,0)):=by rw[dA];exact By w0 _
  have O9:bK w1 rd rc l:=cT.below dU;have J:Ax.gU (l.map MR.aw):=by rw[he];exact dR
  have mU:=Ca O9 J;have Js:l.length<=8:=by have:=J.my;simpa using this
  have Oa:∀p,p∈bo (l.map MR.aw)->p.1.size<=600:=λp F=>by
   obtain⟨a,ha,e⟩:=aax.1 F;obtain⟨r,hr,ha⟩:=aa9.1 ha;have H:=J.atoms r hr a ha;unfold lK at e;rw[<-e];exact H.1.2.1
  have x0:=mA eQ;have x1:=ow eQ;have jy:=lt_of_heap eQ;have hN1:NJ w1 w0.heap.size pl (.slice rd l.length rc) (bo (l.map MR.aw)) none none none w1:=⟨aaj _ _,jy,x0,x1,(λx h=>by cases h),(λ_ _ _ h=>by cases h),(λ_ _ h=>by cases h)⟩;have Vr:∀Q:List Pd.Pr,Pd.qE Q->(∀p,p∈Q↔p∈bo (l.map MR.aw))->Q.length<=1000:=by
   intro Q H i;obtain⟨all,ha,u⟩:=J.lj;have N:(Q.map Prod.fst).length<=all.length:=acM (gH H) (λx X=>by
    obtain⟨p,F,rfl⟩:=aax.1 X;exact u p ((i p).1 F))
   rw[aaL]at N;omega
  have Fu:Hid (∀b W,NJ w1 w0.heap.size pl (.slice rd l.length rc) (bo (l.map MR.aw)) b none none W->Calls prog 59 #[.agg #[.string pl,.slice rd l.length rc]] W λe w'=>∃B D Q,e=.returned (.slice B (List.length Q) D)/\NJ w1 w0.heap.size pl (.slice rd l.length rc) (bo (l.map MR.aw)) b (some (B,Q,D)) none w'):=by
   intro b W A;refine(BH W _ rd rc l (O9.below A.be) J.one).mono ?_;rintro e w' ⟨B,D,Q,rfl,q1,q2,q3⟩;have i:=A.below q2;refine⟨B,D,Q,rfl,i.be,i.gl,i.c0,i.c1,i.aY, ?_,λ_ _ h=>by cases h⟩;intro qd' Q' qc' h;simp only[AT,abZ]at h;obtain⟨rfl,rfl,rfl⟩:=h;exact⟨aD q1 (IS _),q3.out⟩
  have HNG:Hid (∀b B Q D W,NJ w1 w0.heap.size pl (.slice rd l.length rc) (bo (l.map MR.aw)) b (some (B,Q,D)) none W->Calls prog 58 #[.slice B (List.length Q) D] W λe w'=>∃gm G,e=.returned (.map (some gm))/\NJ w1 w0.heap.size pl (.slice rd l.length rc) (bo (l.map MR.aw)) b (some (B,Q,D)) (some (gm,G)) w'):=by
   intro b B Q D W A;obtain⟨r1,r2,r3⟩:=A.row B Q D rfl;have zW:=Vr Q r2 r3;have Z:∀p,p∈Q->p.1.size<=1000000:=λp F=>aaK (Oa p ((r3 p).1 F)) (by decide);refine(Al W 0 B D Q r1 (by omega) Z).mono ?_;rintro e w' ⟨T,rfl,hT⟩;have i:=A.below hT.be;refine⟨_,T,rfl,i.be,i.gl,i.c0,i.c1,i.aY,i.row, ?_⟩;intro gm' G' h;simp only[AT,abZ]at h;obtain⟨rfl,rfl⟩:=h;obtain⟨g1,U,_⟩:=Rv hT r2 zW Z;exact⟨g1,Q,r2,r3,U⟩
  have HOF:Hid (∀b q m W,NJ w1 w0.heap.size pl (.slice rd l.length rc) (bo (l.map MR.aw)) b q m W->Calls prog 60 #[.string pl] W λe w'=>∃hd:List UInt8,hd.length=32/\e=.returned (.agg (Rc.dP hd).toArray)/\NJ w1 w0.heap.size pl (.slice rd l.length rc) (bo (l.map MR.aw)) b q m w'):=by
   intro b q m W A;refine(VD K pl W (hK.below (aV.trans (A.be.mono aV.size))) (by omega)).mono ?_;rintro e w' ⟨⟨hd,uo,rfl⟩,u⟩;exact⟨hd,uo,rfl,A.below u⟩
  obtain⟨Y,Xf⟩:∃Y:Prop,Y=(bB (l.map MR.aw) []=none):=⟨_,rfl⟩;obtain⟨V,XW⟩:∃V:Nat->List HT->En.dH En.ba->Prop,V=λ_ T j=>bB (l.map MR.aw) []=some j/\∃Q,Pd.qE Q/\(∀p,p∈Q↔p∈bo (l.map MR.aw))/\T.map mK=Q.reverse:=⟨_,rfl⟩;have HMK:Hid (∀(hd:List UInt8),hd.length=32->∀b q gm G W,NJ w1 w0.heap.size pl (.slice rd l.length rc) (bo (l.map MR.aw)) b q (some (gm,G)) W->Calls prog 57 #[.agg #[.string pl,.slice rd l.length rc],.map (some gm),.agg (Rc.dP hd).toArray] W λe w'=>∃cs ok,e=.returned (.tuple #[.agg cs,.bool ok])/\I1 cs b w'/\NK w1 w0.heap.size pl (.slice rd l.length rc) (bo (l.map MR.aw)) b q gm G hd Y V cs ok w'):=by
   intro hd I b q gm G W A;obtain⟨g1,Q0,s1,s2,U⟩:=A.Ai gm G rfl;have M3:=Rk U;refine(Fv W pl rd rc l (mU.below A.be) Js J.one (λp F=>aaK (Oa p F) (by decide)) gm G g1 ?_ ?_ (by omega) hd I).mono ?_
   ·intro p F;obtain⟨t,ht,e,_⟩:=U.has p ((s2 p).2 F);rw[<-e];exact aaN ht
   ·intro t ht;rw[(U.sub t ht).2];simp
   ·rintro e w' ⟨u,⟨rfl,fP⟩ | ⟨_,hm,T,j,Q,rfl,m1,m2,m3,m4,m5,m6⟩⟩
    ·have i:=A.below u;refine⟨uy,false,rfl,FB i tr Ef,i,tr,.inl ⟨rfl,rfl, ?_⟩⟩;obtain⟨Q,_,_,E⟩:=fP (by omega);rw[xC U]at E;rw[Xf];exact E
    ·have i:=A.below u;rw[xC U]at m3;refine⟨_,true,rfl,FB i (eD I) (oM),i,eD I,.inr ⟨rfl,hm,T,j,rfl,m4, ?_, ?_⟩⟩
     ·rw[XW];exact⟨m3,Q,m1,m2,m5⟩
     ·intro x X y hy;obtain⟨_,C,k2,_⟩:=A.aY x X;have k3:=lt_of_heap k2;have:=m6 y hy;omega
  have Ob:=aj O9;have jP:=aj aV;have HE:=aj he;have Cy:Hid (Ax.gU rs/\pl.size<=600):=⟨dR,XI⟩;have HYZ:Hid ((Y->bB rs []=none)/\∀hm T j,V hm T j->bB rs []=some j/\∃Q,Pd.qE Q/\(∀p,p∈Q↔p∈bo (l.map MR.aw))/\T.map mK=Q.reverse):=by
   rw[<-he];refine⟨λh=>by rw[Xf]at h;exact h,λhm T j h=>by rw[XW]at h;exact h⟩
  have PS:Hid (bo (l.map MR.aw)=bo rs):=by
   show _=_;rw[he]
  generalize bo (l.map MR.aw)=mx at*;clear mU O9 aV dU cq cT he HRU dA eQ hK XT Js Xf XW dR XI J Oa Vr
  go_cut [8,9]from 20 (λv8 v9 wx=>∃hd:List UInt8,hd.length=32/\Hid (NL w1 pl (.slice rd l.length rc) mx hd Y V v8 v9 wx))
  ·
   go_region_held3 (λw'=>w'.cell? ⟨w0.heap.size,0,none⟩=some (.string pl)/\w'.cell? ⟨w0.heap.size,1,none⟩=some (.slice rd l.length rc)) (first | (exact NJ.cells (by assumption)) | (exact NJ.cells (NJ.drew (by assumption))) | (exact NJ.cells (NJ.alloc (by assumption) rfl)) | (exact NJ.cells (NJ.alloc (NJ.drew (by assumption)) rfl)) | (exact NJ.cells (NK.ni (by assumption))) | (exact NJ.cells (NK.ni (NK.alloc (by assumption) rfl))) | (exact NJ.cells (NJ.stored (NK.ni (by assumption)) (NK.sz (by assumption)))) | (exact NJ.cells (NJ.stored (NK.ni (NK.alloc (by assumption) rfl)) (NK.sz (by assumption))))) (first | (go_at_call 59;refine(Fu.out _ _ (by first | assumption | exact NJ.drew (by assumption) | exact NJ.alloc (by assumption) rfl | exact NJ.alloc (NJ.drew (by assumption)) rfl)).mono ?_;rintro e wn ⟨B,D,Q,rfl,hN⟩) | (go_at_call 58;refine(HNG.out _ _ _ _ _ (by first | assumption | exact NJ.drew (by assumption) | exact NJ.alloc (by assumption) rfl | exact NJ.alloc (NJ.drew (by assumption)) rfl)).mono ?_;rintro e wn ⟨gm,G,rfl,hN⟩) | (go_at_call 60;refine(HOF.out _ _ _ _ (by first | assumption | exact NJ.drew (by assumption) | exact NJ.alloc (by assumption) rfl | exact NJ.alloc (NJ.drew (by assumption)) rfl)).mono ?_;rintro e wn ⟨hd,I,rfl,hN⟩) | (go_at_call 57;refine(HMK.out _ (by assumption) _ _ _ _ _ (by first | assumption | exact NJ.drew (by assumption) | exact NJ.alloc (by assumption) rfl | exact NJ.alloc (NJ.drew (by assumption)) rfl)).mono ?_;rintro e wn ⟨cs,ok,rfl,gT,hE⟩;unfold I1 at gT;dsimp only at gT;(try simp only[World.size_drew]at gT);have cp:=NK.sz hE))
   all_goals
    (go_wp2_with fail
     go_meet
     first
     | exact⟨_,by assumption,NK.cut (by assumption)⟩
     | exact⟨_,by assumption,NK.cut (NK.alloc (by assumption) rfl)⟩)
  ·
   obtain⟨hd,I,hcut⟩:=hcut;obtain⟨x,cs,ok,gm,G,hv8,hv9,cp,X,eO,hG,hQ,pK⟩:=hcut.out;subst hv8;subst hv9;have tH:Below w.heap.size w wc:=jP.out.trans (pK.mono jP.out.size);have Sd:=aj tH;cases ok with
   | false=>
    have HY:Hid Y:=by
     rcases eO with⟨_,_,E⟩ | ⟨E,_⟩
     ·exact E
     ·cases E
    clear hcut eO hG hQ pK X cp tH
    go_wp2_with fail
    go_ret3
    exact vA.out _ _ Sd.out Cy.out.1 Cy.out.2 (.inl ⟨rfl,HYZ.out.1 HY.out⟩)
   | true=>
    obtain⟨hm,T,j,bA,hH,hZ⟩:∃hm T j,cs=cO pl (.slice rd l.length rc) gm hm hd/\wR wc hm T j/\V hm T j:=by
     rcases eO with⟨E,_⟩ | ⟨_,hm,T,j,H,i,N,_⟩
     ·cases E
     ·exact⟨hm,T,j,H,i,N⟩
    subst bA;have HQ':Hid (qS wc gm G/\(∃Q,Pd.qE Q/\(∀p,p∈Q↔p∈mx)/\GQ G Q (λ_=>[]))/\wR wc hm T j/\V hm T j/\Below w1.heap.size w1 wc):=⟨hG,hQ,hH,hZ,pK⟩;clear hcut eO hG hQ hH hZ pK tH
    go_wp2_with (refine aeE rfl _ _ rfl x rfl _ _ _ _ X Tryz.underlying107 rfl (by rw[eD I];kernel_rfl) ?_)
    rw[TS (eD I) rfl];have e9:((cO pl (.slice rd l.length rc) gm hm hd).toList++[Value.slice none 0 0]).toArray=dw pl (.slice rd l.length rc) gm hm hd (.slice none 0 0):=Fs
    go_ret3
    obtain⟨q1,⟨Q,q2,q3,q4⟩,q5,q6,q7⟩:=HQ'.out;obtain⟨z1,Q2,z2,z3,z4⟩:=HYZ.out.2 _ _ _ q6;obtain rfl:Q=Q2:=Pd.wX q2 z2 (λp=>(q3 p).trans (z3 p).symm);have u:=Sd.out;have M:Below wc.heap.size wc (wc.alloc (.cells (dw pl (.slice rd l.length rc) gm hm hd (.slice none 0 0)) 109)):=aM;refine vA.out _ _ (u.alloc u.size _) Cy.out.1 Cy.out.2 (.inr ⟨wc.heap.size,Q,j,.slice rd l.length rc,gm,hm,l,G,T,hd,rfl,u.size, ?_,z1⟩);refine⟨By _ _,⟨rd,rc,rfl,(Ob.out.below q7).below M⟩,HE.out,q1.below M,q4,q5.below M,z4,q2,λp=>by rw[<-PS.out];exact q3 p,by rw[xC q4];exact z1,I⟩
 ·have HRX:Hid (Calls prog 56 #[.string s] w λe w'=>∃pl rd n rc,e=.returned (.tuple #[.agg #[.string pl,.slice rd n rc],.int .i64 (Ax.read s).2.1,.int .i64 (Ax.read s).2.2])/\Hid (Below w.heap.size w w')):=by
   refine Sk.mono ?_;rintro e w' ⟨u,⟨_,pl,rd,n,rc,rfl⟩ | ⟨E,_⟩⟩
   ·exact⟨pl,rd,n,rc,rfl,u⟩
   ·exact absurd E O
  have vA:Hid (∀w',Below w.heap.size w w'->S9 w s (.returned (.tuple #[.pointer none,.int .i64 (Ax.read s).2.1,.int .i64 (Ax.read s).2.2])) w'):=λw' u=>⟨u,.inl ⟨O,rfl⟩⟩;have cB:((Ax.read s).2.1 != 0)=true:=by simpa using O
  generalize (Ax.read s).2.2=at_ at*;generalize (Ax.read s).2.1=er at*;clear Sk O
  go_enter func34,ntmps34
  go_wp2_with (go_at_call 56;refine HRX.out.mono ?_;rintro e w1 ⟨pl,rd,n,rc,rfl,H1⟩)
  go_ret3
  exact vA.out _ (H1.out.alloc H1.out.size _)
/- Engine.changed of any facts. -/
def sw(R:Rd.eP)(f:FI):Rd.eP:=Rd.tI R f.pred (Tb.put (R f.pred) (Tb.fT f.args))
def iC(R:Rd.eP)(f:FI):Rd.eP:=Rd.tI R f.pred (Tb.leave (R f.pred) (Tb.fT f.args))
def dI(R:Rd.eP)(l:List FI):Rd.eP:=l.foldl sw R
def fO(R:Rd.eP)(l:List FI):Rd.eP:=l.foldl iC R
theorem zk(h:k<l.length):dI R (l.take (k+1))=sw (dI R (l.take k)) l[k]:=by
 unfold dI;rw[aaZ,AS h,List.foldl_append];rfl
theorem za(h:k<l.length):fO R (l.take (k+1))=iC (fO R (l.take k)) l[k]:=by
 unfold fO;rw[aaZ,AS h,List.foldl_append];rfl
theorem Rl{L r}:(Tb.leave L r).length<=L.length:=by
 unfold Tb.leave;split
 ·unfold Tb.del;rw[If,abv,acP];omega
 ·exact OF _
theorem GQ.perm{N}(h:GQ G Q R)(w:(N.map jW).Perm (G.map jW)):GQ N Q R:=by
 refine⟨λt q=>?_,λp y=>?_⟩
 ·have j:jW t∈G.map jW:=w.mem_iff.1 (aaN q);obtain⟨u,i,e⟩:=aax.1 j;have x:=h.sub u i;unfold jW at e;simp only[abZ]at e;rw[<-e.1,<-e.2.1,<-e.2.2];exact x
 ·obtain⟨u,i,B,A⟩:=h.has p y;have j:jW u∈N.map jW:=w.mem_iff.2 (aaN i);obtain⟨t,q,e⟩:=aax.1 j;unfold jW at e;simp only[abZ]at e;grind
theorem FD{n}(h:∀p,(R p).length<=n):∀p,(sw R f p).length<=n+1:=by
 intro p;unfold sw Rd.tI;split
 ·have:=Rd.sL (R f.pred) (Tb.fT f.args);have:=h f.pred;omega
 ·have:=h p;omega
theorem zx{n}(h:∀p,(R p).length<=n):∀p,(iC R f p).length<=n:=by
 intro p;unfold iC Rd.tI;split
 ·exact aaK (Rl) (h f.pred)
 ·exact h p
def mh(Q:List Pd.Pr)(l:List FI):Bool:=l.all λf=>nf Q f.pred f.args
theorem EE(e:k<l.length):mh Q (l.take (k+1))=(mh Q (l.take k)&&nf Q (l[k]).pred (l[k]).args):=by
 unfold mh;rw[aaZ,AS e,List.all_append];simp
theorem CG{b}(h:mh Q (l.take (k+1))=(b&&false)):mh Q l=false:=by grind [mh]
structure wO(w wr:World)(gm:Nat)(Q:List Pd.Pr)(R:Rd.eP):Prop where
 qw:∃N,qS wr gm N/\GQ N Q R/\∀b,b∈iT gm N->w.heap.size<=b
 be:Below w.heap.size w wr
theorem wO.below{w'}(h:wO w wr gm Q R)(e:Below wr.heap.size wr w'):wO w w' gm Q R:=by
 obtain⟨N,q,j,i⟩:=h.qw;exact⟨⟨N,q.below e,j,i⟩,h.be.trans (e.mono h.be.size)⟩
theorem wO.set{w':World}{A B}{t t':GT}(q:Below w.heap.size w wr)(I:qS wr gm (A++t::B))(O:GQ (A++t::B) Q R)(j:∀b,b∈iT gm (A++t::B)->w.heap.size<=b)
 (E:Kb t.cD wr w')(J:t'.ok w')(D:t'.nm=t.nm)(N:t'.g=t.g)(M:t'.pl=t.pl)(F:∀b,b∈t'.cD->b∈t.cD\/wr.heap.size<=b):wO w w' gm Q (Rd.tI R t.nm t'.L):=by
 have y:∀x,x∈t.cD->w.heap.size<=x:=λx e=>j x (by unfold iT;simp[e]);refine⟨⟨A++t'::B,I.update E J D N F,O.update I.names D M, ?_⟩,E.aQ q q.size y⟩;intro x e;unfold iT at e;rw[BY,aa9]at e;rcases e with rfl | ⟨u,i,e⟩
 ·exact j x (by simp[iT])
 ·rcases ZD.1 i with i | i
  ·exact j x (by unfold iT;rw[BY,aa9];exact .inr ⟨u,by simp[i],e⟩)
  ·rcases BY.1 i with rfl | i
   ·rcases F x e with H | H
    ·exact y x H
    ·have:=q.size;omega
   ·exact j x (by unfold iT;rw[BY,aa9];exact .inr ⟨u,by simp[i],e⟩)
theorem wO.at_(h:wO w wr gm Q R)(J:nf Q f.pred f.args=true)(X:(R f.pred).length<=999999)(As:f.pred.size<=100000000):
 ∃F,(∀W,Below wr.heap.size wr W->(Instr.lookup 102 (.map (some gm)) (.string f.pred) false).run prog W=.ok (.pointer (some ⟨F,0,none⟩)) W)/\(∀W (_:Unit),Below wr.heap.size wr W->Calls prog 127 #[.pointer (some ⟨F,0,none⟩),.agg (Tb.de f.args)] W λe w'=>e=.returned (.tuple #[])/\wO w w' gm Q (sw R f))/\(∀W (_:Unit),Below wr.heap.size wr W->Calls prog 128 #[.pointer (some ⟨F,0,none⟩),.agg (Tb.de f.args)] W λe w'=>e=.returned (.tuple #[])/\wO w w' gm Q (iC R f)):=by
 obtain⟨N,q,D,V⟩:=h.qw;unfold nf at J;rw[ady]at J;obtain⟨x,Z,e⟩:=J;rw[acK,abW]at e;obtain⟨t,U,u,_⟩:=D.has x Z;rw[e.1]at u;have E:t.L=R f.pred:=by rw[(D.sub t U).2,u]
 obtain⟨A,B,M⟩:=List.append_of_mem U;subst M;refine⟨t.g, ?_, ?_, ?_⟩
 ·intro W j;exact(q.below j).map.look (by rw[<-u];exact kK q.names (by simp)) (by rw[<-u];exact q.short t (by simp)) aec (Tryz.zeroValue122 W)
 ·intro W _ j;refine(OD W t.g t.nm t.pl t.rd t.rc t.L ((q.below j).cK t (by simp)) (by rw[E];exact X)).mono ?_;rintro e w' ⟨rd',rc',rfl,I,H,Y⟩;refine⟨rfl, ?_⟩;have y:=wO.set (t':=⟨t.nm,t.pl,t.g,rd',rc',Tb.put t.L (Tb.fT f.args)⟩) (h.be.trans (j.mono h.be.size)) (q.below j) D V H I rfl rfl rfl ?_
  ·rw[u,E]at y;exact y
  ·intro b i;unfold GT.cD at i;rcases BY.1 i with rfl | i
   ·exact .inl (by simp[GT.cD])
   ·rw[abh]at i;rcases Y b i with O | O
    ·exact .inl (by unfold GT.cD;rw[BY,abh];exact .inr O)
    ·exact .inr O
 ·intro W _ j;refine(Mx W t.g t.nm t.pl t.rd t.rc t.L ((q.below j).cK t (by simp)) (by rw[E];exact X)).mono ?_;rintro e w' ⟨rfl,I,H⟩;refine⟨rfl, ?_⟩;have y:=wO.set (t':=⟨t.nm,t.pl,t.g,t.rd,t.rc,Tb.leave t.L (Tb.fT f.args)⟩) (h.be.trans (j.mono h.be.size)) (q.below j) D V H I rfl rfl rfl ?_
  ·rw[u,E]at y;exact y
  ·intro b i;refine .inl ?_;unfold GT.cD at i ⊢;rcases BY.1 i with rfl | i
   ·simp
   ·rw[abh]at i;rw[BY,abh];exact .inr ((DL).trans i)
/- Engine.changed of any facts, walked. -/
def rD(w:World)(Q:List Pd.Pr)(R:Rd.eP)(ay gone:List FI)(e:Ending)(w':World):Prop:=if (mh Q ay&&mh Q gone)=false then e=.returned (.tuple #[.map none,.bool false])/\Below w.heap.size w w' else ∃gm',e=.returned (.tuple #[.map (some gm'),.bool true])/\wO w w' gm' Q (fO (dI R ay) gone)
theorem EG(w eg rs pl Q R s rv gm hm l G T hd lv)(h:jl w eg rs pl Q R s rv gm hm l G T hd lv)(hq:∀p,p∈Q->p.2<=3)(hGl:G.length<=1000)(IP:∀p,(R p).length<=100)(hU:gJ w)
 (cd cc ay gd gc gone)(G9:bJ w cd cc ay)(ML:bJ w gd gc gone)(AG:ay.length<=1000)(jy:gone.length<=1000)(R7:∀f,f∈ay->f.pred.size<=100000000/\∀a,a∈f.args->a.size<=maxLen)(EM:∀f,f∈gone->f.pred.size<=100000000/\∀a,a∈f.args->a.size<=maxLen):
 Calls prog 68 #[.pointer (some ⟨eg,0,none⟩),.slice cd ay.length cc,.slice gd gone.length gc] w λe w'=>rD w Q R ay gone e w':=by
 obtain⟨_,_,vE,tF,_,_⟩:=jF h.aY h.uo;have hGR:∀t,t∈G->t.L.length<=100:=λt ht=>by rw[(h.gq.sub t ht).2];exact IP _
 have HCG:Hid (Calls prog 126 #[.map (some gm)] w λe w'=>e=.returned (.map (some w.heap.size))/\Hid (wO w w' w.heap.size Q R)):=by
  refine(A0 w gm G h.Ai (λt ht=>by have:=hGR t ht;omega) (by omega)).mono ?_;rintro e w' ⟨N,rfl,hN⟩;obtain⟨g1,g2⟩:=hN.toG h.Ai.short h.Ai.names (by omega);refine⟨rfl,⟨⟨N,g1,GQ.perm h.gq g2, ?_⟩,hN.be⟩⟩;intro b M;unfold iT at M;rw[BY,aa9]at M;rcases M with rfl | ⟨t,ht,M⟩
  ·exact OF _
  ·have:=(hN.cK t ht).2 b M;omega
 have Hl:Hid (∀wr (f:FI),Below w.heap.size w wr->f.ok wr->f.pred.size<=100000000->(∀a,a∈f.args->a.size<=maxLen)->∃y x u,∀W,Below wr.heap.size wr W->Calls prog 41 #[.pointer (some ⟨eg,0,none⟩),.agg #[.string f.pred,f.av]] W λe w'=>e=.returned (.tuple #[.agg #[.string y,.string x,.string u],.bool (nf Q f.pred f.args)])/\Below W.heap.size W w'/\(nf Q f.pred f.args=true->Tb.de f.args=#[.string y,.string x,.string u])):=by
  intro wr f M hf h1 h2;have Y:∀W,Below wr.heap.size wr W->_:=λW D=>(h.below (M.trans (D.mono M.size))).row hq f.pred f.args f.av (ae hf D) h1 h2 (Utf8Tabs_below hU (M.trans (D.mono M.size)));cases hB:nf Q f.pred f.args with
  | true=>
   refine⟨Tb.mZ f.args 0,Tb.mZ f.args 1,Tb.mZ f.args 2,λW D=>?_⟩;have j:=Y W D;rw[hB,aa3 rfl]at j;exact j.mono λe w' h=>⟨h.1,h.2,λ_=>rfl⟩
  | false=>
   refine⟨Tb.mZ [] 0,Tb.mZ [] 1,Tb.mZ [] 2,λW D=>?_⟩;have j:=Y W D;rw[hB,aaD (by simp)]at j;exact j.mono λe w' h=>⟨h.1,h.2,λh=>by cases h⟩
 have ZI:Hid (∀w',(mh Q ay&&mh Q gone)=false->Below w.heap.size w w'->rD w Q R ay gone (.returned (.tuple #[.map none,.bool false])) w'):=λw' h1 h2=>by
  unfold rD;rw[aa3 h1];exact⟨rfl,h2⟩
 have HPY:Hid (∀w',mh Q ay=true->mh Q gone=true->wO w w' w.heap.size Q (fO (dI R ay) gone)->rD w Q R ay gone (.returned (.tuple #[.map (some w.heap.size),.bool true])) w'):=λw' h1 h2 h3=>by
  unfold rD;rw[aaD (by rw[h1,h2];decide)];exact⟨_,rfl,h3⟩
 have HCF:=aj G9;have HGF:=aj ML;have HSC:=aj R7;have HSG:=aj EM;have HRL:=aj IP;have aa0:=aH G9.row;have adO:=aH ML.row;have AE:=abT vE;clear h hq IP hU G9 ML R7 EM tF hGR
 go_enter func68,ntmps68
 go_wp2_with (go_at_call 126;refine HCG.out.mono ?_;rintro e w0 ⟨rfl,Zz⟩)
 go_loopw [25] (λi wr=>∃k:Nat,k<=ay.length/\i=.int .i64 k/\Hid (wO w wr w.heap.size Q (dI R (ay.take k))/\(∀p,((dI R (ay.take k)) p).length<=100+k)/\mh Q (ay.take k)=true)) (λi _=>ay.length-(intOf i).toNat)
 ·exact⟨0,IS _,rfl,Zz.out,HRL.out,rfl⟩
 ·
  obtain⟨k,hk,rfl,q⟩:=hrel;clear Zz;by_cases E:k<ay.length
  ·skip;have Y:=(HCF.out.below q.out.1.be).row;obtain⟨g,rfl,hg,Ev,bA⟩:=aA Y;have c0:=bA _ _ (cP ay k E).1;have c1:=bA _ _ (cP ay k E).2;have Z:=(HCF.out.below q.out.1.be).each _ (IN E);obtain⟨ad,ac,QN⟩:=ah Z;have rW:=IN E;have X:=HSC.out _ rW;obtain⟨y,x,u,hR⟩:∃y x u,∀W,Below wr.heap.size wr W->Calls prog 41 #[.pointer (some ⟨eg,0,none⟩),.agg #[.string (ay[k]).pred,(ay[k]).av]] W λe w'=>e=.returned (.tuple #[.agg #[.string y,.string x,.string u],.bool (nf Q (ay[k]).pred (ay[k]).args)])/\Below W.heap.size W w'/\(nf Q (ay[k]).pred (ay[k]).args=true->Tb.de (ay[k]).args=#[.string y,.string x,.string u]):=Hl.out wr _ q.out.1.be Z X.1 X.2;have Ey:=aj hR;have tL:Hid (mh Q (ay.take (k+1))=(mh Q (ay.take k)&&nf Q (ay[k]).pred (ay[k]).args)):=EE E;have J:Hid (dI R (ay.take (k+1))=sw (dI R (ay.take k)) ay[k]):=zk E;have Nx:Hid (nf Q (ay[k]).pred (ay[k]).args=true->∃F,(∀W,Below wr.heap.size wr W->(Instr.lookup 102 (.map (some w.heap.size)) (.string (ay[k]).pred) false).run prog W=.ok (.pointer (some ⟨F,0,none⟩)) W)/\∀W,Below wr.heap.size wr W->Calls prog 127 #[.pointer (some ⟨F,0,none⟩),.agg (Tb.de (ay[k]).args)] W λe w'=>e=.returned (.tuple #[])/\wO w w' w.heap.size Q (sw (dI R (ay.take k)) ay[k])):=by
    intro hq;obtain⟨F,t1,t2,t3⟩:=q.out.1.at_ hq (aaK (q.out.2.1 _) (by omega)) X.1;exact⟨F,t1,λW D=>t2 W () D⟩
   have HBD:Hid (∀p,((sw (dI R (ay.take k)) ay[k]) p).length<=100+(k+1)):=FD q.out.2.1;have V8:=aj q.out.2.2;have lF:=aj q.out.1.be;rw[QN]at c1 Ey;generalize hB:nf Q (ay[k]).pred (ay[k]).args=B at*;generalize hR3:Tb.de (ay[k]).args=V3 at*;generalize (ay[k]).args.length=nl at*;generalize (ay[k]).pred=p at*;clear hR Z QN bA Y q rW X hB hR3;cases B with
   | true=>
    obtain⟨F,hl,ZU⟩:=Nx.out rfl;have ZM:=aj hl;have Jo:Hid (∀W,Below wr.heap.size wr W->V3=#[.string y,.string x,.string u]->Calls prog 127 #[.pointer (some ⟨F,0,none⟩),.agg #[.string y,.string x,.string u]] W λe w'=>e=.returned (.tuple #[])/\Hid (wO w w' w.heap.size Q (sw (dI R (ay.take k)) ay[k]))):=λW D e9=>by
     have j:=ZU W D;rw[e9]at j;exact j.mono λ_ _ h=>⟨h.1,h.2⟩
    clear hl ZU Nx
    go_wp2_with (first | (go_at_call 41;refine(Ey.out _ (by exact aM)).mono ?_;rintro e O ⟨rfl,I,H⟩;have HV5:Hid (V3=#[.string y,.string x,.string u]):=H rfl;obtain⟨V,A,L4⟩:=qg I;have t5:O.cell? ⟨wr.heap.size,0,none⟩=some (.string p):=(by rw[aaB _ _ 0 _ _ _ V];rfl);have l5:=ZM.out (O.alloc (.cells #[.string y,.string x,.string u] 119)) (A.alloc A.size _);have X7:wr.heap.size<O.heap.size:=(by omega);have U:=aj A;clear I V A L4 H) | (go_at_call 127;refine(Jo.out _ (by exact U.out.alloc U.out.size _) HV5.out).mono ?_;rintro e w7 ⟨rfl,HW7⟩))
    go_roundw
    ·exact⟨k+1,E,by go_num,by rw[J.out];exact HW7.out,by rw[J.out];exact HBD.out,by rw[tL.out,V8.out];rfl⟩
    ·simp[intOf];omega
   | false=>
    have uq:Hid ((mh Q ay&&mh Q gone)=false):=by
     have j:mh Q ay=false:=CG tL.out;show(_&&_)=false;rw[j];rfl
    clear Nx
    go_wp2_with (go_at_call 41;refine(Ey.out _ (by exact aM)).mono ?_;rintro e O ⟨rfl,I,_⟩;obtain⟨V,A,L4⟩:=qg I;have U:=aj A;clear I V A L4)
    go_ret2
    have tH:=lF.out.trans (U.out.mono lF.out.size);exact ZI.out _ uq.out (tH.alloc tH.size _)
  ·have Eu:Hid (wO w wr w.heap.size Q (dI R ay)/\(∀p,((dI R ay) p).length<=100+ay.length)/\mh Q ay=true):=by
    have j:=q.out;rw[aaP (by omega)]at j;refine⟨j.1,λp=>aaK (j.2.1 p) (by omega),j.2.2⟩
   clear q
   go_wp2_with fail
   go_loopw [46] (λi wr=>∃k:Nat,k<=gone.length/\i=.int .i64 k/\Hid (wO w wr w.heap.size Q (fO (dI R ay) (gone.take k))/\(∀p,((fO (dI R ay) (gone.take k)) p).length<=100+ay.length)/\mh Q (gone.take k)=true)) (λi _=>gone.length-(intOf i).toNat)
   ·exact⟨0,IS _,rfl,Eu.out.1,Eu.out.2.1,rfl⟩
   ·
    have HOC:=aj Eu.out.2.2;obtain⟨k,hk,rfl,q⟩:=hrel;clear Eu;by_cases E:k<gone.length
    ·skip;have Y:=(HGF.out.below q.out.1.be).row;obtain⟨g,rfl,hg,Ev,bA⟩:=aA Y;have c0:=bA _ _ (cP gone k E).1;have c1:=bA _ _ (cP gone k E).2;have Z:=(HGF.out.below q.out.1.be).each _ (IN E);obtain⟨ad,ac,QN⟩:=ah Z;have rW:=IN E;have X:=HSG.out _ rW;obtain⟨y,x,u,hR⟩:∃y x u,∀W,Below wr.heap.size wr W->Calls prog 41 #[.pointer (some ⟨eg,0,none⟩),.agg #[.string (gone[k]).pred,(gone[k]).av]] W λe w'=>e=.returned (.tuple #[.agg #[.string y,.string x,.string u],.bool (nf Q (gone[k]).pred (gone[k]).args)])/\Below W.heap.size W w'/\(nf Q (gone[k]).pred (gone[k]).args=true->Tb.de (gone[k]).args=#[.string y,.string x,.string u]):=Hl.out wr _ q.out.1.be Z X.1 X.2;have Ey:=aj hR;have tL:Hid (mh Q (gone.take (k+1))=(mh Q (gone.take k)&&nf Q (gone[k]).pred (gone[k]).args)):=EE E;have J:Hid (fO (dI R ay) (gone.take (k+1))=iC (fO (dI R ay) (gone.take k)) gone[k]):=za E;have Nx:Hid (nf Q (gone[k]).pred (gone[k]).args=true->∃F,(∀W,Below wr.heap.size wr W->(Instr.lookup 102 (.map (some w.heap.size)) (.string (gone[k]).pred) false).run prog W=.ok (.pointer (some ⟨F,0,none⟩)) W)/\∀W,Below wr.heap.size wr W->Calls prog 128 #[.pointer (some ⟨F,0,none⟩),.agg (Tb.de (gone[k]).args)] W λe w'=>e=.returned (.tuple #[])/\wO w w' w.heap.size Q (iC (fO (dI R ay) (gone.take k)) gone[k])):=by
      intro hq;obtain⟨F,t1,t2,t3⟩:=q.out.1.at_ hq (aaK (q.out.2.1 _) (by omega)) X.1;exact⟨F,t1,λW D=>t3 W () D⟩
     have HBD:Hid (∀p,((iC (fO (dI R ay) (gone.take k)) gone[k]) p).length<=100+ay.length):=zx q.out.2.1;have V8:=aj q.out.2.2;have lF:=aj q.out.1.be;rw[QN]at c1 Ey;generalize hB:nf Q (gone[k]).pred (gone[k]).args=B at*;generalize hR3:Tb.de (gone[k]).args=V3 at*;generalize (gone[k]).args.length=nl at*;generalize (gone[k]).pred=p at*;clear hR Z QN bA Y q rW X hB hR3;cases B with
     | true=>
      obtain⟨F,hl,ZU⟩:=Nx.out rfl;have ZM:=aj hl;have Jo:Hid (∀W,Below wr.heap.size wr W->V3=#[.string y,.string x,.string u]->Calls prog 128 #[.pointer (some ⟨F,0,none⟩),.agg #[.string y,.string x,.string u]] W λe w'=>e=.returned (.tuple #[])/\Hid (wO w w' w.heap.size Q (iC (fO (dI R ay) (gone.take k)) gone[k]))):=λW D e9=>by
       have j:=ZU W D;rw[e9]at j;exact j.mono λ_ _ h=>⟨h.1,h.2⟩
      clear hl ZU Nx
      go_wp2_with (first | (go_at_call 41;refine(Ey.out _ (by exact aM)).mono ?_;rintro e O ⟨rfl,I,H⟩;have HV5:Hid (V3=#[.string y,.string x,.string u]):=H rfl;obtain⟨V,A,L4⟩:=qg I;have t5:O.cell? ⟨wr.heap.size,0,none⟩=some (.string p):=(by rw[aaB _ _ 0 _ _ _ V];rfl);have l5:=ZM.out (O.alloc (.cells #[.string y,.string x,.string u] 119)) (A.alloc A.size _);have X7:wr.heap.size<O.heap.size:=(by omega);have U:=aj A;clear I V A L4 H) | (go_at_call 128;refine(Jo.out _ (by exact U.out.alloc U.out.size _) HV5.out).mono ?_;rintro e w7 ⟨rfl,HW7⟩))
      go_roundw
      ·exact⟨k+1,E,by go_num,by rw[J.out];exact HW7.out,by rw[J.out];exact HBD.out,by rw[tL.out,V8.out];rfl⟩
      ·simp[intOf];omega
     | false=>
      have uq:Hid ((mh Q ay&&mh Q gone)=false):=by
       have j:mh Q gone=false:=CG tL.out;show(_&&_)=false;rw[j];simp
      clear Nx
      go_wp2_with (go_at_call 41;refine(Ey.out _ (by exact aM)).mono ?_;rintro e O ⟨rfl,I,_⟩;obtain⟨V,A,L4⟩:=qg I;have U:=aj A;clear I V A L4)
      go_ret2
      have tH:=lF.out.trans (U.out.mono lF.out.size);exact ZI.out _ uq.out (tH.alloc tH.size _)
    ·have HWE:Hid (wO w wr w.heap.size Q (fO (dI R ay) gone)/\mh Q gone=true):=by
      have j:=q.out;rw[aaP (by omega)]at j;exact⟨j.1,j.2.2⟩
     clear q
     go_wp2_with fail
     go_ret2
     exact HPY.out _ HOC.out HWE.out.2 HWE.out.1
variable{p:ByteArray}{s:En.dH En.ba}{a:List ByteArray}{M:List En.ba}{N:List GT}
structure AK(w1:World)(pl:ByteArray)(rv:Value)(gm:Nat)(hd:List UInt8)(Y:Prop)(Z:Nat->List HT->En.dH En.ba->Prop)(cs:Array Value)(ok:Bool)(b:Option Nat)(W:World):Prop where
 ai:AI w1 b W
 sz:cs.size=36
 res:Sj pl rv gm hd Y Z cs ok b W
structure AJ(w1:World)(pl:ByteArray)(rv:Value)(gm:Nat)(hd:List UInt8)(Y:Prop)(Z:Nat->List HT->En.dH En.ba->Prop)(v8 v10:Value)(wx:World):Prop where
 out:∃x cs ok,v8=.bool ok/\v10=.pointer (some ⟨x,0,none⟩)/\w1.heap.size<=x/\cs.size=36/\wx.heap[x]?=some (.cells cs 107 (0,0))/\Sj pl rv gm hd Y Z cs ok none wx/\Below w1.heap.size w1 wx
section
variable {w1 W:World} {pl:ByteArray} {rv:Value} {gm:Nat} {hd:List UInt8} {Y:Prop} {Z:Nat->List HT->En.dH En.ba->Prop} {cs:Array Value} {ok:Bool}
theorem AK.alloc{C}(h:AK w1 pl rv gm hd Y Z cs ok none W)(q:C.size=36):AK w1 pl rv gm hd Y Z cs ok (some W.heap.size) (W.alloc (.cells C 107)):=by
 refine⟨h.ai.alloc q,h.sz, ?_⟩;rcases h.res with i | ⟨i,hm,T,s,u,j,e3,_⟩
 ·exact .inl i
 ·refine .inr ⟨i,hm,T,s,u,j.below aM,e3, ?_⟩;intro x t y hy e;simp only[AT]at t;have:=j.lt hy;omega
theorem AK.cut{x}(h:AK w1 pl rv gm hd Y Z cs ok (some x) W):AJ w1 pl rv gm hd Y Z (.bool ok) (.pointer (some ⟨x,0,none⟩)) (W.setCells x 0 cs.toList):=by
 obtain⟨q,C,j,i⟩:=h.ai.aY x rfl;obtain⟨B,t⟩:=dF x cs.toList 0 C W j (by simp[h.sz,i]);refine⟨x,cs,ok,rfl,rfl,q,h.sz,nC j i h.sz, ?_,h.ai.stored h.sz⟩;rcases h.res with e | ⟨e,hm,T,s,A,y,e3,w⟩
 ·exact .inl e
 ·exact .inr ⟨e,hm,T,s,A,y.kept t (λb u=>by simpa using w x rfl b u),e3,λ_ h=>by cases h⟩
end
def JV(w:World)(eg:Nat)(rs:List Ax.aI)(pl:ByteArray)(Q:List Pd.Pr)(R':Rd.eP)(rv lv:Value)(l:List MR)(ln:Nat)(w':World):Prop:=Kb (eg::lv.ownBlock.toList) w w'/\∃s' gm' hm' N T' ox Xj ln' lx',jl w' eg rs pl Q R' s' rv gm' hm' l N T' ox Xj/\eA N<=40/\w'.ownsRow 0 5 1 Xj ln' lx'/\ln'<=ln+100100/\aZ w lv Xj
def gA(w:World)(eg:Nat)(rs:List Ax.aI)(pl:ByteArray)(Q:List Pd.Pr)(R:Rd.eP)(rv lv:Value)(l:List MR)(ln:Nat)(ay gone:List FI)(e:Ending)(w':World):Prop:=
 if 64<ay.length+gone.length then e=.returned (.int .i64 3)/\Below w.heap.size w w'
 else if (mh Q ay&&mh Q gone)=false then e=.returned (.int .i64 6)/\Below w.heap.size w w'
 else (e=.returned (.int .i64 7)/\Below w.heap.size w w'/\∃N,GQ N Q (fO (dI R ay) gone)/\(N.map GT.nm).Nodup/\(∀t,t∈N->Tb.Ord t.L)/\(eA N<=40->bB rs (da Q N)=none))\/(e=.returned (.int .i64 0)/\JV w eg rs pl Q (fO (dI R ay) gone) rv lv l ln w')
theorem Il(K:Nat->Int)(w:World)(eg:Nat)(rs)(pl:ByteArray)(Q)(R:Rd.eP)(s:En.dH En.ba)(rv:Value)(gm hm:Nat)(l G T hd)(lv:Value)(h:jl w eg rs pl Q R s rv gm hm l G T hd lv)(dR:Ax.gU rs)(hq:∀p,p∈Q->p.2<=3)(hGl:G.length<=1000)(IP:∀p,(R p).length<=100)(hK:Dg.EA w K)(hU:gJ w)(ln:Nat)(lx)(Pj:w.ownsRow 0 5 1 lv ln lx)(Sn:ln<=40000000000)
 (cd)(cc:Nat)(ay gd)(gc:Nat)(gone)(G9:bJ w cd cc ay)(ML:bJ w gd gc gone)(AG:ay.length<=1048576)(jy:gone.length<=1048576)(R7:∀f,f∈ay->f.pred.size<=100000000/\∀a,a∈f.args->a.size<=maxLen)(EM:∀f,f∈gone->f.pred.size<=100000000/\∀a,a∈f.args->a.size<=maxLen)
 (hFS:mh Q ay=true->mh Q gone=true->ay.length+gone.length<=64->mj ay/\mj gone/\(Rc.jK ay gone).length<=100000):
 Calls prog 38 #[.pointer (some ⟨eg,0,none⟩),.slice cd ay.length cc,.slice gd gone.length gc] w λe w'=>gA w eg rs pl Q R rv lv l ln ay gone e w':=by
 have aa0:=aH G9.row;have adO:=aH ML.row;by_cases MD:64<ay.length+gone.length
 ·have hd0:decide ((64:Int)<(ay.length:Int)+gone.length)=true:=aap (by omega);have vA:Hid (gA w eg rs pl Q R rv lv l ln ay gone (.returned (.int .i64 3)) w):=by
   unfold gA;show(if _ then _ else _);rw[aa3 MD];exact⟨rfl,aaj _ _⟩
  clear h dR hq IP hK hU Pj G9 ML R7 EM hFS
  go_enter func38,ntmps38
  go_wp2_with fail
  go_ret;exact vA.out
 have hd0:decide ((64:Int)<(ay.length:Int)+gone.length)=false:=aab (by omega);have Qb:IntKind.i64.wrap ((ay.length:Int)+gone.length)=(ay.length:Int)+gone.length:=by rw[aaR];omega
 have Tm:=EG w eg rs pl Q R s rv gm hm l G T hd lv h hq hGl IP hU cd cc ay gd gc gone G9 ML (by omega) (by omega) R7 EM;by_cases mn:(mh Q ay&&mh Q gone)=false
 ·have Nx:Hid (Calls prog 68 #[.pointer (some ⟨eg,0,none⟩),.slice cd ay.length cc,.slice gd gone.length gc] w λe w'=>e=.returned (.tuple #[.map none,.bool false])/\Hid (Below w.heap.size w w')):=by
   refine Tm.mono ?_;intro e w' H;unfold rD at H;rw[aa3 mn]at H;exact H
  have vA:Hid (∀w',Below w.heap.size w w'->gA w eg rs pl Q R rv lv l ln ay gone (.returned (.int .i64 6)) w'):=by
   intro w' D;unfold gA;rw[aaD MD,aa3 mn];exact⟨rfl,D⟩
  clear h dR hq IP hK hU Pj G9 ML R7 EM hFS Tm
  go_enter func38,ntmps38
  go_wp2_with (go_at_call 68;refine Nx.out.mono ?_;rintro e w0 ⟨rfl,oh⟩)
  go_ret;exact vA.out _ oh.out
 obtain⟨hoc,YW⟩:mh Q ay=true/\mh Q gone=true:=by
  cases h1:mh Q ay<;>cases O:mh Q gone<;>simp_all
 obtain⟨Hi,hfg,Aw⟩:=hFS hoc YW (by omega);obtain⟨rd,rc,e1,cT⟩:=h.rules;subst e1;have eb:=h.aY;have rO:=h.uo;obtain⟨k0,k1,k2,k3,k4,k5⟩:=jF eb rO;have AE:=lt_of_heap eb;obtain⟨R2,J⟩:∃R2,R2=fO (dI R ay) gone:=⟨_,rfl⟩;have Nx:Hid (Calls prog 68 #[.pointer (some ⟨eg,0,none⟩),.slice cd ay.length cc,.slice gd gone.length gc] w λe w'=>∃gm',e=.returned (.tuple #[.map (some gm'),.bool true])/\Hid (wO w w' gm' Q R2)):=by
  refine Tm.mono ?_;intro e w' H;unfold rD at H;rw[aaD mn,<-J]at H;exact H
 have HPB:Hid (∀w',Below w.heap.size w w'->(∃N,GQ N Q R2/\(N.map GT.nm).Nodup/\(∀t,t∈N->Tb.Ord t.L)/\(eA N<=40->bB rs (da Q N)=none))->gA w eg rs pl Q R (.slice rd l.length rc) lv l ln ay gone (.returned (.int .i64 7)) w'):=by
  intro w' D hN;unfold gA;rw[aaD MD,aaD mn,<-J];exact .inl ⟨rfl,D,hN⟩
 have HPG:Hid (∀w',JV w eg rs pl Q R2 (.slice rd l.length rc) lv l ln w'->gA w eg rs pl Q R (.slice rd l.length rc) lv l ln ay gone (.returned (.int .i64 0)) w'):=by
  intro w' H;unfold gA;rw[aaD MD,aaD mn,<-J];exact .inr ⟨rfl,H⟩
 have ac1:∀p,(R2 p).length<=1000:=by
  have g1:∀k,k<=ay.length->∀p,((dI R (ay.take k)) p).length<=100+k:=by
   intro k
   induction k with
   | zero=>exact λ_=>IP
   | succ k ih=>
    intro hk;rw[zk (by omega)];exact FD (ih (by omega))
  have g2:=g1 ay.length (OF _);rw[abS]at g2;have g3:∀k,k<=gone.length->∀p,((fO (dI R ay) (gone.take k)) p).length<=100+ay.length:=by
   intro k
   induction k with
   | zero=>exact λ_=>g2
   | succ k ih=>
    intro hk;rw[za (by omega)];exact zx (ih (by omega))
  have g4:=g3 gone.length (OF _);rw[abS,<-J]at g4;exact λp=>aaK (g4 p) (by omega)
 obtain⟨U,Pp⟩:∃U:ByteArray,U=⟨(Rc.jK ay gone).toArray⟩:=⟨_,rfl⟩;have apS:U.size<=100000:=by
  rw[Pp];show(Rc.jK ay gone).toArray.size<=_;rw[abz];exact Aw
 have HCT:Hid (∀W,Below w.heap.size w W->Calls prog 69 #[.slice cd ay.length cc,.slice gd gone.length gc] W λe w'=>e=.returned (.string U)/\Below W.heap.size W w'):=by
  intro W u;rw[Pp];exact Gt W cd cc ay gd gc gone (G9.below u) (ML.below u) Hi hfg
 have HHE:Hid (∀w1 b W,Below w.heap.size w w1->AI w1 b W->Calls prog 70 #[.agg (Rc.dP hd).toArray,.string U] W λe w'=>∃q:List UInt8,q.length=32/\e=.returned (.agg (Rc.dP q).toArray)/\AI w1 b w'):=by
  intro w1 b W dA u;refine(Ll K W hd U (hK.below (dA.trans (u.be.mono dA.size))) rO (by omega)).mono ?_;rintro e w' ⟨⟨q,uo,rfl⟩,D⟩;exact⟨q,uo,rfl,u.below D⟩
 have HMK:Hid (∀(q:List UInt8),q.length=32->∀w1 gm' N b W,qS w1 gm' N->GQ N Q R2->Below w.heap.size w w1->AI w1 b W->Calls prog 57 #[.agg #[.string pl,.slice rd l.length rc],.map (some gm'),.agg (Rc.dP q).toArray] W λe w'=>∃cs ok,e=.returned (.tuple #[.agg cs,.bool ok])/\I1 cs b w'/\AK w1 pl (.slice rd l.length rc) gm' q (eA N<=40->bB rs (da Q N)=none) (λhm' A E=>eA N<=40/\bB rs (da Q N)=some E/\A.map mK=Q.reverse/\∀y,y∈dx hm' A->w1.heap.size<=y) cs ok b w'):=by
  intro q F w1 gm' N b W g1 g2 hC u;have jZ:Below w.heap.size w W:=hC.trans (u.be.mono hC.size);have g1':=g1.below u.be;have vJ:Ax.gU (l.map MR.aw):=by rw[h.map];exact dR
  have mU:=Ca (cT.below jZ) vJ;have Js:l.length<=8:=by have:=vJ.my;simpa using this
  have Oa:∀p,p∈bo (l.map MR.aw)->p.1.size<=1000000:=λp H=>by
   obtain⟨a,ha,e⟩:=aax.1 H;obtain⟨r,hr,ha⟩:=aa9.1 ha;have h1:=vJ.atoms r hr a ha;unfold lK at e;rw[<-e];exact aaK h1.1.2.1 (by decide)
  have hQe:∀Q',Pd.qE Q'->(∀p,p∈Q'↔p∈bo (l.map MR.aw))->Q'=Q:=λQ' h1 O=>Pd.wX h1 h.Mp (λp=>by rw[O p,h.map];exact(h.qs p).symm);have hNl:N.length<=6:=by
   obtain⟨all,ha,D⟩:=dR.lj;have h3:(N.map GT.nm).length<=all.length:=acM g1.names (λx hx=>by
    obtain⟨t,ht,rfl⟩:=aax.1 hx;exact D _ ((h.qs _).1 (g2.sub t ht).1))
   rw[aaL]at h3;omega
  have M3:∀M:List GT,(∀t,t∈M->t.L.length<=1000)->eA M<=1000*M.length:=by
   intro M
   induction M with
   | nil=>simp[eA]
   | cons a M ih=>
    intro hM;have h1:=ih (λt ht=>hM t (by simp[ht]));have O:=hM a (by simp);unfold eA at h1 ⊢;simp only[abn,aee,abL];omega
  have hNL:∀t,t∈N->t.L.length<=1000:=λt ht=>by rw[(g2.sub t ht).2];exact ac1 _
  refine(Fv W pl rd rc l mU Js vJ.one Oa gm' N g1' ?_ hNL (by have:=M3 N hNL;omega) q F).mono ?_
  ·intro p H;obtain⟨t,ht,e,_⟩:=g2.has p ((h.qs p).2 (by rw[<-h.map];exact H));rw[<-e];exact aaN ht
  ·rintro e w' ⟨D,⟨rfl,fP⟩ | ⟨AY,hm',A,E,Q',rfl,m1,m2,m3,m4,m5,m6⟩⟩
   ·have O:=u.below D;refine⟨uy,false,rfl,Gx O tr Ef,O,tr,.inl ⟨rfl,rfl, ?_⟩⟩;intro AY;obtain⟨Q',q1,q2,V⟩:=fP AY;rw[hQe Q' q1 q2,h.map]at V;exact V
   ·have O:=u.below D;rw[hQe Q' m1 m2]at m3 m5;rw[h.map]at m3;refine⟨_,true,rfl,Gx O (eD F) (oM),O,eD F,.inr ⟨rfl,hm',A,E,rfl,m4,⟨AY,m3,m5,λy hy=>aaK u.be.size (m6 y hy)⟩, ?_⟩⟩;intro x hx y hy;obtain⟨_,C,k2,_⟩:=u.aY x hx;have k3:=lt_of_heap k2;have:=m6 y hy;omega
 have HEB:=aj eb;have Ob:=aj cT;have HPE:Hid (l.map MR.aw=rs/\Pd.qE Q/\∀p,p∈Q↔p∈bo rs):=⟨h.map,h.Mp,h.qs⟩;have HLG:=aj Pj;obtain⟨lvd,lvc,Mb⟩:=ah Pj;clear h dR hq IP eb cT Pj hK hU G9 ML R7 EM hFS Tm Hi hfg Aw Pp k4 k5 k2 k3 J ac1 hoc YW mn
 go_enter func38,ntmps38
 go_upto_region 7 with(first | (go_at_call 68;refine Nx.out.mono ?_;rintro e w0 ⟨gm',rfl,Zl⟩) | (go_at_call 69;refine(HCT.out _ (by exact Zl.out.be)).mono ?_;rintro e w1 ⟨rfl,aV⟩))
 have Zt:Hid (wO w w1 gm' Q R2):=Zl.out.below aV;have jP:=aj Zt.out.be;have hA1:AI w1 none w1:=⟨aaj _ _,λx h=>by cases h⟩;obtain⟨N,g1,g2,g3⟩:=Zt.out.qw;obtain⟨YY,Xf⟩:∃YY:Prop,YY=(eA N<=40->bB rs (da Q N)=none):=⟨_,rfl⟩;obtain⟨ZZ,XW⟩:∃ZZ:Nat->List HT->En.dH En.ba->Prop,ZZ=λhm' A E=>eA N<=40/\bB rs (da Q N)=some E/\A.map mK=Q.reverse/\∀y,y∈dx hm' A->w1.heap.size<=y:=⟨_,rfl⟩;have XO:Hid (∀(q:List UInt8),q.length=32->∀b W,AI w1 b W->Calls prog 57 #[.agg #[.string pl,.slice rd l.length rc],.map (some gm'),.agg (Rc.dP q).toArray] W λe w'=>∃cs ok,e=.returned (.tuple #[.agg cs,.bool ok])/\I1 cs b w'/\AK w1 pl (.slice rd l.length rc) gm' q YY ZZ cs ok b w'):=by
  intro q F b W u;rw[Xf,XW];exact HMK.out q F w1 gm' N b W g1 g2 Zt.out.be u
 have Xl:Hid (qS w1 gm' N/\GQ N Q R2):=⟨g1,g2⟩;have HYZ:Hid ((YY->eA N<=40->bB rs (da Q N)=none)/\∀hm' A E,ZZ hm' A E->eA N<=40/\bB rs (da Q N)=some E/\A.map mK=Q.reverse/\∀y,y∈dx hm' A->w1.heap.size<=y):=⟨λh=>by rw[Xf]at h;exact h,λhm' A E h=>by rw[XW]at h;exact h⟩;have Dx:Hid (∀W,Below w1.heap.size w1 W->W.cell? ⟨eg,0,none⟩=some (.string pl)/\W.cell? ⟨eg,1,none⟩=some (.slice rd l.length rc)/\W.rangeAt eg 4 (Rc.dP hd)):=by
  intro W u;have D:=jP.out.trans (u.mono jP.out.size);have V:W.heap[eg]?=some (.cells (dw pl (.slice rd l.length rc) gm hm hd lv) 109 (0,0)):=by rw[D.block _ AE];exact HEB.out
  obtain⟨q0,q1,q2,q3,q4,q5⟩:=jF V rO;exact⟨q0,q1,q4⟩
 have hu5:=Tryz.underlying105;have apq:(prog.info? 105).map (·.size)=some (Rc.dP hd).length:=by
  rw[Rc.dX,rO];kernel_rfl
 clear Nx HCT aV Zl HMK Xf XW g1 g2 g3
 go_cut [8,10]from 29 (λv8 v10 wx=>∃q:List UInt8,q.length=32/\Hid (AJ w1 pl (.slice rd l.length rc) gm' q YY ZZ v8 v10 wx))
 ·
  go_region_held3 (λW=>W.cell? ⟨eg,0,none⟩=some (.string pl)/\W.cell? ⟨eg,1,none⟩=some (.slice rd l.length rc)/\W.rangeAt eg 4 (Rc.dP hd)) (first | (exact Dx.out _ (AI.be (by assumption))) | (exact Dx.out _ (AI.be (AI.drew (by assumption)))) | (exact Dx.out _ (AI.be (AI.alloc (by assumption) rfl))) | (exact Dx.out _ (AI.be (AI.alloc (AI.drew (by assumption)) rfl))) | (exact Dx.out _ (AI.be (AK.ai (by assumption)))) | (exact Dx.out _ (AI.be (AK.ai (AK.alloc (by assumption) rfl)))) | (exact Dx.out _ (AI.stored (AK.ai (by assumption)) (AK.sz (by assumption)))) | (exact Dx.out _ (AI.stored (AK.ai (AK.alloc (by assumption) rfl)) (AK.sz (by assumption))))) (first | (go_at_call 70;refine(HHE.out _ _ _ jP.out (by first | assumption | exact AI.drew (by assumption) | exact AI.alloc (by assumption) rfl | exact AI.alloc (AI.drew (by assumption)) rfl)).mono ?_;rintro e wn ⟨q,F,rfl,hN⟩) | (go_at_call 57;refine(XO.out _ (by assumption) _ _ (by first | assumption | exact AI.drew (by assumption) | exact AI.alloc (by assumption) rfl | exact AI.alloc (AI.drew (by assumption)) rfl)).mono ?_;rintro e wn ⟨cs,ok,rfl,X,hE⟩;unfold I1 at X;dsimp only at X;(try simp only[World.size_drew]at X);have cp:=AK.sz hE))
  all_goals
   (go_wp2_with fail
    go_meet
    first
    | exact⟨_,by assumption,AK.cut (by assumption)⟩
    | exact⟨_,by assumption,AK.cut (AK.alloc (by assumption) rfl)⟩)
 ·
  obtain⟨q,F,hcut⟩:=hcut;obtain⟨x,cs,ok,hv8,afV,zQ,cp,hx,eO,pK⟩:=hcut.out;subst hv8;subst afV;have ju:Below w.heap.size w wc:=jP.out.trans (pK.mono jP.out.size);cases ok with
  | false=>
   have HY:Hid YY:=by
    rcases eO with⟨_,_,V⟩ | ⟨V,_⟩
    ·exact V
    ·cases V
   have lF:=aj ju;clear hcut eO pK hx cp ju zQ HHE XO Dx
   go_wp2_with fail
   go_ret;exact HPB.out _ lF.out ⟨N,Xl.out.2,Xl.out.1.names,λt ht=>cW.ord (Xl.out.1.cK t ht),HYZ.out.1 HY.out⟩
  | true=>
  obtain⟨hm',A,E,bA,hH',hZ⟩:∃hm' A E,cs=cO pl (.slice rd l.length rc) gm' hm' q/\wR wc hm' A E/\ZZ hm' A E:=by
   rcases eO with⟨V,_⟩ | ⟨_,hm',A,E,h1,O,h3,_⟩
   ·cases V
   ·exact⟨hm',A,E,h1,O,h3⟩
  subst bA;have Lp:wc.heap[eg]?=some (.cells (dw pl (.slice rd l.length rc) gm hm hd lv) 109 (0,0)):=by rw[ju.block _ AE];exact HEB.out
  obtain⟨X,Jh⟩:=LN (pl':=pl) (rv':=.slice rd l.length rc) (gm':=gm') (hm':=hm') Lp rO F;have HTH:Hid (wc.there eg 0 (cO pl (.slice rd l.length rc) gm' hm' q).size):=by
   intro j hj;rw[aaB _ _ _ _ _ _ Lp];refine⟨?_,by simp[World.frozen?,Lp]⟩;rw[acm,acR (by rw[sG rO];omega)];rfl
  have rM:Hid ((cO pl (.slice rd l.length rc) gm' hm' q).all (·.oneCell')=true):=Array.all_eq_true_iff_forall_mem.2 (λv hv=>oM v (by simpa using hv));have MI:Hid ((prog.info? 107).map (·.size)=some (cO pl (.slice rd l.length rc) gm' hm' q).size):=by
   rw[cp];exact(by kernel_rfl:(prog.info? 107).map (·.size)=some 36)
  obtain⟨I,xO⟩:∃I,I=wc.setCells eg 0 (cO pl (.slice rd l.length rc) gm' hm' q).toList:=⟨_,rfl⟩;rw[<-xO]at X Jh;have Y3:x≠eg:=by have:=jP.out.size;omega
  have hx3:I.heap[x]?=some (.cells (cO pl (.slice rd l.length rc) gm' hm' q) 107 (0,0)):=Jh.heap hx (by simpa using Y3);have hsr:∀W:World,W.heap[x]?=some (.cells (cO pl (.slice rd l.length rc) gm' hm' q) 107 (0,0))->W.rangeAt x 4 (Rc.dP q):=by
   intro W hWx j v hv;rw[aaB _ _ _ _ _ _ hWx];unfold cO;rw[aaV,abr (by simp)];simpa using hv
  have VI:=hsr I hx3;obtain⟨_,_,_,_,_,q36⟩:=jF X F;have acq:Hid (I.ownsRow 0 5 1 lv ln lx):=Jh.aR (ae HLG.out ju) (λb cur fz D e=>by
   simp at D;subst D;rw[Lp]at e;simp at e)
  have ZH:Hid (∀W,Below I.heap.size I W->Calls prog 71 #[lv,.string U,.agg (Rc.dP q).toArray] W λe B=>∃vd vn vc,e=.returned (.slice vd vn vc)/\B.cell? ⟨eg,36,none⟩=some lv/\B.frozen? ⟨eg,36,none⟩=false/\B.rangeAt x 4 (Rc.dP q)/\Hid (JV w eg rs pl Q R2 (.slice rd l.length rc) lv l ln (B.setCell ⟨eg,36,none⟩ (.slice vd vn vc)))):=by
   intro W u;refine(G6 0 W lv ln lx U q (ae acq.out u) (IS _) (by omega) (by omega) F).mono ?_;rintro e B ⟨v',n',rfl,kM,hkw,hfw⟩;obtain⟨vd,vc,rfl⟩:=ah kM.own;have h34:wK I B:=(wK.bD u).trans (wK.MG kM.PN kM.be);have P4:B.heap[eg]?=some (.cells (dw pl (.slice rd l.length rc) gm' hm' q lv) 109 (0,0)):=kM.PN eg _ (by rw[u.block _ (lt_of_heap X)];exact X) (by simp) (λc fz e=>by simp at e);have hx4:B.heap[x]?=some (.cells (cO pl (.slice rd l.length rc) gm' hm' q) 107 (0,0)):=h34.heap hx3 (ry (by decide) (by decide));have aaf:=Yd P4 F (.slice vd n' vc);have Wx:Kb [eg] B (B.setCell ⟨eg,36,none⟩ (.slice vd n' vc)):=Kb.setCell B ⟨eg,36,none⟩ _;have h35:wK I (B.setCell ⟨eg,36,none⟩ (.slice vd n' vc)):=h34.trans (wK.UJ Wx P4);have hc5:wK wc (B.setCell ⟨eg,36,none⟩ (.slice vd n' vc)):=(wK.UJ Jh Lp).trans h35;have ad4:=Wx.aR kM.own (λb cur fz D e=>by
    simp at D;subst D;rw[P4]at e;simp at e)
   have agR:n'<=ln+100100:=by
    have h7:=kM.len;have h8:=acq.out.1;have XU:=Rc.lN U.size (by omega);rw[If,Rc.dX,If]at h7;unfold Rc.bU at h7;rw[If]at h7;have h11:U.data.toList.length=U.size:=by simp
    omega
   have hWw:w.heap.size<=W.heap.size:=by have:=u.size;have:=Jh.size;have:=ju.size;omega
   obtain⟨z1,z2,z3,z4⟩:=HYZ.out.2 _ _ _ hZ;refine⟨vd,n',vc,rfl,(jF P4 F).2.2.2.2.2,by simp[World.frozen?,P4],hsr B hx4, ?_,E,gm',hm',N,A,q,.slice vd n' vc,n',_,⟨aaf,⟨rd,rc,rfl,(Ob.out.below ju).ekb hc5⟩,HPE.out.1,(Xl.out.1.below pK).ekb hc5,Xl.out.2,hH'.ekb hc5,z3,HPE.out.2.1,HPE.out.2.2,z2,F⟩,z1,ad4,agR,hfw.mono hWw⟩;have m1:Kb (eg::lv.ownBlock.toList) w wc:=Kb.bD ju _;have m2:Kb (eg::lv.ownBlock.toList) wc I:=Jh.mono (λi hi _=>by simp at hi;simp[hi]);have m3:Kb (eg::lv.ownBlock.toList) I W:=Kb.bD u _;have m4:Kb (eg::lv.ownBlock.toList) W B:=hkw.mono (λi hi _=>by simp at hi;simp[hi]);have m5:Kb (eg::lv.ownBlock.toList) B (B.setCell ⟨eg,36,none⟩ (.slice vd n' vc)):=Wx.mono (λi hi _=>by simp at hi;simp[hi]);exact(((m1.trans m2).trans m3).trans m4).trans m5
  have HX1:=aj zQ;have abd:(prog.info? 105).map (·.size)=some (Rc.dP q).length:=by
   rw[Rc.dX,F];kernel_rfl
  have anH:=lt_of_heap hx3;have aqp:eg<I.heap.size:=lt_of_heap X;subst Mb;clear hcut eO hH' hZ pK ju X Jh Lp hx3 HHE XO Dx zQ hsr
  go_wp2_with (first | (refine aeE rfl _ _ rfl x rfl _ _ _ _ hx Tryz.underlying107 rfl (by rw[cp];kernel_rfl) ?_) | (refine wpList_store_mid rfl 107 (.tmp 51) (.tmp 49) rfl eg 0 (cO pl (.slice rd l.length rc) gm' hm' q) rfl rfl HTH.out MI.out rM.out ?_))
  rw[<-xO];clear xO hx;refine wp_region_noPanic ?_;refine wp_region_held_drew (S:=λW=>W.rangeAt x 4 (Rc.dP q)) (by kernel_rfl) VI (λVh=>?_);refine tk 0 _ ?_;simp only[Act.put,IT,aaE,aaH];refine tk 1 _ ?_;simp only[Act.put,IT,aaE,aaH];refine tk 2 _ ?_;simp only[Act.put,IT,aaE,aaH];refine tk 3 _ ?_;simp only[Act.put,IT,aaE,aaH];refine tk 5 _ ?_;simp only[Act.put,IT,aaE,aaH];refine tk 6 _ ?_;simp only[Act.put,IT,aaE,aaH];refine tk 7 _ ?_ (hy:=yieldsIf_load_mid (by rfl) _ _ rfl x 4 rfl (Rc.dP q) _ (λ_ h=>h) hu5 rfl abd);simp only[Act.put,IT,aaE,aaH];refine wpAnyH_ready (rs:=[4]) (by kernel_rfl) (by simp) ?_;refine AllReadyH.cons rfl (λKq Vo=>?_) AllReadyH.nil;go_simp;refine Vo.out _ _ VI (λPM=>?_);clear Vo Kq;refine wpAnyH_ready (rs:=[8]) (by kernel_rfl) (by simp) ?_;refine AllReadyH.cons rfl (λKq Vo=>?_) AllReadyH.nil;go_simp;refine(ZH.out _ (by exact(aaj _ _).drew)).mono ?_;rintro e B ⟨vd,vn,vc,rfl,c36,f36,hr4,HF⟩;refine Vo.out _ _ hr4 (λYs=>?_);clear Vo Kq Vh PM;refine tk 9 _ ?_;simp only[Act.put,IT,aaE,aaH];refine tk 10 _ ?_;simp only[Act.put,IT,aaE,aaH];refine wpAnyH_ready (rs:=[11]) (by kernel_rfl) (by simp) ?_;refine AllReadyH.cons rfl (λKq Vo=>?_) AllReadyH.nil;go_simp;refine Vo.out _ _ (FK hr4 Y3) (λagL=>?_);clear Vo Kq;refine wpAnyH_done (by kernel_rfl) ?_ _;refine NoPanic.normal ?_
  go_wp2_with fail
  go_ret;exact HPG.out _ HF.out
/- Both engines: the same rules, the same facts. No program here. -/
namespace Ax
theorem Mc{s}(h:(read s).2.1=0):∃rs j,s.size<=600/\bI (split s) (split s).length 0 []=(some rs,j)/\bL 0 [] rs=none/\dt [] (rs.flatMap aI.atoms)=none/\bE rs=none:=by
 by_cases hs:600<s.size
 ·rw[xU hs]at h;simp at h
 ·rcases e:bI (split s) (split s).length 0 []with⟨_ | rs,j⟩
  ·unfold read at h;rw[aaD hs,e]at h;simp at h
  ·rcases i:bL 0 [] rs with _ | p
   ·rcases q:dt [] (rs.flatMap aI.atoms)with _ | p
    ·rcases t:bE rs with _ | p
     ·grind
     ·rw[DH hs e i q t]at h;simp at h
    ·rw[Dl hs e i q]at h;simp at h
   ·rw[Eg hs e i]at h;simp at h
theorem Gl:∀{l:List aI},bE l=none->∀r,r∈l->lE r=false
 | [],_,r,e=>by cases e
 | a::l,h,r,e=>by
  unfold bE at h;split at h
  ·cases h
  ·rename_i i;rcases BY.1 e with rfl | e
   ·simpa using i
   ·exact Gl h r e
theorem Db{s}(h:(read s).2.1=0):Rf.Ac (bX s)/\s.size<=600:=by
 obtain⟨rs,j,B,A,I,H,F⟩:=Mc h;have e:bX s=rs:=by
  unfold bX;rw[A];rfl
 have u:=yH B A I H;rw[e];refine⟨⟨u, ?_, ?_⟩,B⟩
 ·intro r q t i M;have y:=Gl F r q;unfold lE at y;have x:=List.any_eq_false.1 y t i;have J:=((u.atoms r q r.head (by simp[aI.atoms])).1.2.2 t i).1;have E:t.kind=1:=by omega
  simp only[ek,E,decide_true,aev,Bool.not_eq_true',Bool.not_eq_false]at x;obtain⟨a,w,D⟩:=ady.1 x;exact⟨a,w,t,(uK).1 D,by omega,rfl⟩
 ·intro r q a w t i _;exact((u.atoms r q a w).1.2.2 t i).2.2
theorem FA:∀(l:List Atom) (st:List (ByteArray×Nat)×Int) (x:ByteArray×Nat),x∈(l.foldl bS st).1->x∈st.1\/x∈l.map lK
 | [],st,x,h=>.inl h
 | a::l,st,x,h=>by
  rw[aeD]at h;rcases FA l _ x h with h | h
  ·have e:x∈st.1\/x=lK a:=by
    unfold bS at h;split at h
    ·simpa [lK]using h
    ·split at h<;>exact .inl h
   rcases e with e | e
   ·exact .inl e
   ·exact .inr (by simp[e])
  ·exact .inr (by simp only[abn,BY];exact .inr h)
theorem zL{rs}(u:Pd.One (bo rs))(x:ByteArray×Nat):x∈(gX (rs.flatMap aI.atoms)).1↔x∈bo rs:=by
 have hs:∀y,y∈(gX (rs.flatMap aI.atoms)).1->y∈bo rs:=λy hy=>by
  rcases FA _ _ y hy with h | h
  ·cases h
  ·exact h
 refine⟨hs x,λi=>?_⟩;obtain⟨a,q,e⟩:=aax.1 i;have j:=kq (rs.flatMap aI.atoms) [] a.pred (.inr ⟨a,q,rfl⟩);rw[<-sO]at j;obtain⟨y,hy,w⟩:=aax.1 j;have t:=u y (hs y hy) x i (by rw[w,<-e];rfl);rw[<-t];exact hy
end Ax
theorem wu:∀{o:List (ByteArray×Nat)} {p:ByteArray} {n:Nat},Pd.One o->(p,n)∈o->yi o p=(n:Nat)
 | [],_,_,_,h=>by cases h
 | x::o,p,n,i,h=>by
  unfold yi;split
  ·rename_i e;have:=i x (by simp) (p,n) h e;rw[this]
  ·rename_i e;rcases BY.1 h with h | h
   ·rw[<-h]at e;exact absurd rfl e
   ·exact wu (λa q b j=>i a (by simp[q]) b (by simp[j])) h
theorem yb:∀{o:List (ByteArray×Nat)} {p:ByteArray},(∀n,¬(p,n)∈o)->yi o p=-1
 | [],_,_=>rfl
 | x::o,p,h=>by
  unfold yi;rw[aaD (λe=>h x.2 (by rw[<-e];simp)),yb (λn i=>h n (by simp[i]))]
theorem SR{o Q}(t:Pd.One o)(h:∀x,x∈o↔x∈Q)(p:ByteArray)(a):vW o p a=nf Q p a:=by
 unfold vW nf;rw[abH];simp only[acK,abW,ady,vY];constructor
 ·rintro⟨e,q⟩;by_cases j:∃n,(p,n)∈o
  ·obtain⟨n,i⟩:=j;rw[wu t i]at e;grind
  ·rw[yb (λn i=>j ⟨n,i⟩)]at e;omega
 ·rintro⟨x,u,rfl,e,q⟩;rw[wu t (n:=x.2) ((h _).2 u)];exact⟨by rw[e],q⟩
structure Tw(rs:List Ax.aI)(Q:List Pd.Pr)(R:Rd.eP)(Gd:List En.ba):Prop where
 ok:Rf.Ac rs
 Mp:Pd.qE Q
 qs:∀p,p∈Q↔p∈bo rs
 nod:Gd.Nodup
 CD:∀f,f∈Gd->nf Q f.1 f.2=true
 ord:∀p,Tb.Ord (R p)
 rows:∀p r,r∈R p↔∃a,(p,a)∈Gd/\Tb.fT a=r
theorem Tw.start{rs Q}(ok:Rf.Ac rs)(Mp:Pd.qE Q)(qs:∀p,p∈Q↔p∈bo rs):Tw rs Q (λ_=>[]) []:=⟨ok,Mp,qs,List.nodup_nil,λf h=>(by cases h),λ_=>List.Pairwise.nil,by simp⟩
section
variable {rs:List Ax.aI} {Q:List Pd.Pr} {R:Rd.eP} {Gd:List En.ba}
theorem wm(e:nf Q p a=true):(p,a.length)∈Q/\∀x,x∈a->Ax.cF x=true:=by
 unfold nf at e;obtain⟨x,q,j⟩:=ady.1 e;rw[acK,abW]at j;obtain⟨rfl,i⟩:=j;unfold vY at i;rw[acK,abW]at i;grind
theorem Tw.LI(h:Tw rs Q R Gd)(j:nf Q p a=true):Rf.iR rs (p,a):=by
 obtain⟨t,q⟩:=wm j;refine⟨(h.qs _).1 t,λy hy=>?_⟩;have i:=q y hy;refine⟨λe=>?_,aaK (Ax.iB i) (by decide)⟩;rw[e,show En.ee=(⟨#[]⟩:ByteArray)from rfl,Ax.yr]at i;cases i
theorem Tw.pf(h:Tw rs Q R Gd){f}(e:Rf.iR rs f):Rf.pf f=(f.1,Tb.fT f.2):=by
 unfold Rf.pf;rw[En.py (pB h.ok e).2]
theorem Tw.inj(h:Tw rs Q R Gd){b}(j:Rf.iR rs (p,a))(i:Rf.iR rs (p,b))(e:Tb.fT a=Tb.fT b):a=b:=by
 have:=Rf.Eh h.ok.ok.one j.1 i.1 (by rw[h.pf j,h.pf i,e]);exact abu Prod.snd this
theorem Tw.given(h:Tw rs Q R Gd)(j:nf Q p a=true):Tb.eZ (R p) (Tb.fT a)=Tb.eZ Gd (p,a):=by
 rw[abH,Tb.bt,Tb.bt,h.rows];constructor
 ·rintro⟨b,i,e⟩;rw[<-h.inj (h.LI (h.CD _ i)) (h.LI j) e];exact i
 ·exact λhm=>⟨a,hm,rfl⟩
theorem Cm:∀(l:List FI) (R:Rd.eP),(∀p,Tb.Ord (R p))->(∀p,Tb.Ord (dI R l p))/\∀p r,r∈dI R l p↔r∈R p\/∃f,f∈l/\f.pred=p/\Tb.fT f.args=r
 | [],R,h=>⟨h,by simp[dI]⟩
 | f::l,R,h=>by
  have x:∀p,Tb.Ord (sw R f p):=λp=>by
   unfold sw Rd.tI;split
   ·exact Tb.K0 (h _) _
   ·exact h p
  obtain⟨u,t⟩:=Cm l (sw R f) x;refine⟨u,λp r=>?_⟩;have w:r∈sw R f p↔r∈R p\/(f.pred=p/\Tb.fT f.args=r):=by
   unfold sw Rd.tI;split
   ·rename_i e;rw[Tb.CN,<-e];exact⟨λh=>h.elim (λh=>.inr ⟨rfl,h.symm⟩) .inl,λh=>h.elim .inr (λh=>.inl h.2.symm)⟩
   ·rename_i e;exact⟨.inl,λh=>h.elim id (λh=>absurd h.1.symm e)⟩
  have q:=t p r;rw[w]at q;refine q.trans ?_;constructor
  ·rintro((i | i) | ⟨g,j,i⟩)
   ·exact .inl i
   ·exact .inr ⟨f,by simp,i⟩
   ·exact .inr ⟨g,by simp[j],i⟩
  ·rintro(i | ⟨g,j,i⟩)
   ·exact .inl (.inl i)
   ·rcases BY.1 j with rfl | j
    ·exact .inl (.inr i)
    ·exact .inr ⟨g,j,i⟩
theorem Bx:∀(l:List FI) (R:Rd.eP),(∀p,Tb.Ord (R p))->(∀p,Tb.Ord (fO R l p))/\∀p r,r∈fO R l p↔r∈R p/\¬∃f,f∈l/\f.pred=p/\Tb.fT f.args=r
 | [],R,h=>⟨h,by simp[fO]⟩
 | f::l,R,h=>by
  have B:∀p,Tb.Ord (iC R f p):=λp=>by
   unfold iC Rd.tI;split
   ·exact Tb.Bo (h _) _
   ·exact h p
  obtain⟨y,x⟩:=Bx l (iC R f) B;refine⟨y,λp r=>?_⟩;have A:r∈iC R f p↔r∈R p/\¬(f.pred=p/\Tb.fT f.args=r):=by
   unfold iC Rd.tI;split
   ·rename_i e;rw[Tb.LV (h _),<-e];exact⟨λh=>⟨h.1,λk=>h.2 k.2.symm⟩,λh=>⟨h.1,λk=>h.2 ⟨rfl,k.symm⟩⟩⟩
   ·rename_i e;exact⟨λh=>⟨h,λk=>e k.1.symm⟩,λh=>h.1⟩
  have w:=x p r;rw[A]at w;refine w.trans ?_;constructor
  ·rintro⟨⟨u,q⟩,t⟩;refine⟨u, ?_⟩;rintro⟨g,i,j⟩;rcases BY.1 i with rfl | i
   ·exact q j
   ·exact t ⟨g,i,j⟩
  ·rintro⟨u,q⟩;exact⟨⟨u,λt=>q ⟨f,by simp,t⟩⟩,fun⟨g,i,j⟩=>q ⟨g,by simp[i],j⟩⟩
theorem S6{l}(h:mh Q l=true)(hm:(p,a)∈l.map FI.f):nf Q p a=true:=by
 obtain⟨f,i,e⟩:=aax.1 hm;have:=aeM.1 h f i;unfold FI.f at e;simp only[abZ]at e;rw[<-e.1,<-e.2];exact this
theorem Tw.next(h:Tw rs Q R Gd){ay gone}(A:mh Q ay=true)(y:mh Q gone=true):Tw rs Q (fO (dI R ay) gone) (Rf.jV (gone.map FI.f) [] (Gd++ay.map FI.f)):=by
 obtain⟨c1,c2⟩:=Cm ay R h.ord;obtain⟨E,D⟩:=Bx gone (dI R ay) c1;obtain⟨n1,n2⟩:=Rf.qe (gone.map FI.f) (Gd++ay.map FI.f) [] List.nodup_nil;have x:∀p a,(p,a)∈Gd++ay.map FI.f->nf Q p a=true:=λp a hm=>by
  rcases ZD.1 hm with hm | hm
  ·exact h.CD _ hm
  ·exact S6 A hm
 refine⟨h.ok,h.Mp,h.qs,n1, ?_,E, ?_⟩
 ·grind
 ·intro p r;rw[D,c2];constructor
  ·rintro⟨i,w⟩;have j:∃a,(p,a)∈Gd++ay.map FI.f/\Tb.fT a=r:=by
    rcases i with i | ⟨f,t,rfl,e⟩
    ·obtain⟨a,u,e⟩:=(h.rows p r).1 i;grind
    ·exact⟨f.args,List.mem_append_right _ (aax.2 ⟨f,t,rfl⟩),e⟩
   obtain⟨a,u,e⟩:=j;refine⟨a,(n2 _).2 (.inr ⟨u,λhm=>?_⟩),e⟩;obtain⟨f,t,q⟩:=aax.1 hm;unfold FI.f at q;simp only[abZ]at q;grind
  ·rintro⟨a,u,e⟩;rcases(n2 _).1 u with i | ⟨i,w⟩
   ·cases i
   refine⟨?_, ?_⟩
   ·rcases ZD.1 i with j | j
    ·exact .inl ((h.rows p r).2 ⟨a,j,e⟩)
    ·obtain⟨f,t,q⟩:=aax.1 j;unfold FI.f at q;simp only[abZ]at q;grind
   ·rintro⟨f,t,rfl,q⟩;have j:nf Q f.pred f.args=true:=aeM.1 y f t;have B:=h.inj (h.LI j) (h.LI (x _ _ i)) (q.trans e.symm);exact w (aax.2 ⟨f,t,by unfold FI.f;rw[B]⟩)
theorem Tw.mem(h:Tw rs Q R Gd)(x:En.ba):x∈Rd.GB Q R↔x∈Gd.map Rf.pf:=by
 unfold Rd.GB;rw[aa9,aax];constructor
 ·rintro⟨q,y,t⟩;obtain⟨r,u,rfl⟩:=aax.1 t;obtain⟨a,j,e⟩:=(h.rows _ _).1 u;exact⟨_,j,by rw[h.pf (h.LI (h.CD _ j)),e]⟩
 ·rintro⟨f,i,rfl⟩;have w:=(wm (h.CD f i)).1;refine⟨_,w,aax.2 ⟨Tb.fT f.2,(h.rows _ _).2 ⟨f.2,i,rfl⟩, ?_⟩⟩;rw[h.pf (h.LI (h.CD f i))]
theorem Tw.afZ(h:Tw rs Q R Gd):(Rd.GB Q R).Nodup:=by
 unfold Rd.GB List.Nodup;rw[List.pairwise_flatMap];refine⟨λp _=>List.Pairwise.map _ (λa b i e=>i (abu Prod.snd e)) (h.ord p.1).nodup, ?_⟩;refine List.Pairwise.imp ?_ (List.Pairwise.of_map (R:=λa b:Pd.Pr=>a.1≠b.1) Prod.fst (λa b i=>i) (gH h.Mp));intro a b i x j y hy e;obtain⟨_,_,rfl⟩:=aax.1 j;obtain⟨_,_,rfl⟩:=aax.1 hy;exact i (Prod.mk.inj e).1
theorem Tw.len(h:Tw rs Q R Gd)(j:GQ N Q R)(e:(N.map GT.nm).Nodup):eA N=Gd.length:=by
 rw[Rd.Md j e (gH h.Mp)];have t:(Rd.GB Q R).length=Rd.SI Q R:=by
  unfold Rd.GB Rd.SI;rw[List.length_flatMap];simp
 have q:=(Rf.B2 h.afZ (Rf.sE h.ok.ok.one h.nod (λf i=>h.LI (h.CD f i))) h.mem).length_eq;rw[<-t,q,aaL]
theorem Tw.both(h:Tw rs Q R Gd)(j:GQ N Q R)(e:(N.map GT.nm).Nodup):
 match Rf.tN rs 300 Gd true []with
 | some L=>L.length<=200/\L.Nodup/\(∀f,f∈L->Rf.iR rs f)/\(∀r,r∈rs->∀f,f∈Rf.fI r.head L r.body []->f∈L)/\∃s,bB rs (da Q N)=some s/\(L.map Rf.pf).Perm s.found
 | none=>bB rs (da Q N)=none:=Rf.pI h.ok h.nod (λf i=>h.LI (h.CD f i)) (λx=>by rw[Rd.Ld j e];exact h.mem x)
structure RQ(rs:List Ax.aI)(s:En.dH En.ba)(M:List En.ba):Prop where
 CD:∀f,f∈M->Rf.iR rs f
 ord:Tb.Ord (M.map Rf.enc)
 perm:(M.map Rf.pf).Perm s.found
 nod:M.Nodup
 my:M.length<=200
theorem Tw.fS(h:Tw rs Q R Gd)(x:GQ N Q R)(u:(N.map GT.nm).Nodup)(hs:bB rs (da Q N)=some s)(y:Rf.tN rs 300 Gd true []=some M):RQ rs s (Rf.cS M):=by
 have q:=h.both x u;rw[y]at q;obtain⟨D,j,B,_,E,i,A⟩:=q;rw[hs]at i;cases i;obtain⟨t,e⟩:=Rf.D6 j;exact⟨λf w=>B f (e.mem_iff.1 w),t,(e.map _).trans A,e.nodup_iff.2 j,by rw[e.length_eq];exact D⟩
theorem RQ.mem(q:RQ rs s M)(h:Tw rs Q R Gd)(i:Rf.iR rs (p,a)):(p,Tb.fT a)∈s.found↔(p,a)∈M:=by
 rw[<-q.perm.mem_iff,aax];constructor
 ·rintro⟨f,j,e⟩;have:=Rf.Eh h.ok.ok.one (q.CD f j).1 i.1 (by rw[e,h.pf i]);rw[<-this];exact j
 ·exact λhm=>⟨_,hm,h.pf i⟩
theorem RQ.held(i:RQ rs s M)(h:Tw rs Q R Gd)(e:nf Q p a=true):Tb.eZ s.found (p,Tb.fT a)=Tb.eZ M (p,a):=by
 rw[abH,Tb.bt,Tb.bt];exact i.mem h (h.LI e)
theorem RQ.count(i:RQ rs s M)(h:Tw rs Q R Gd){gl}(hs:bB rs gl=some s)(j:∀f,¬f∈s.found->s.count f=0)(q:nf Q p a=true):s.count (p,Tb.fT a)=Rf.GD rs M (p,a):=by
 have e:=h.LI q;unfold Rf.GD;split
 ·have:=Rf.Hz h.ok hs i.perm i.CD e;rw[h.pf e]at this;rw[<-this];rfl
 ·rename_i t;exact j _ (λhm=>t (Tb.bt.2 ((i.mem h e).1 hm)))
theorem EI:∀{a b:List ByteArray} (c:List ByteArray),a.length=b.length->Tb.cr (a++c) (b++c)=Tb.cr a b
 | [],[],c,_=>by simp[Tb.mH]
 | x::a,y::b,c,h=>by
  have:=EI (a:=a) (b:=b) c (by simpa using h);simp only[aeK,Tb.cr,this]
theorem RQ.list(j:RQ rs s M)(h:Tw rs Q R Gd){n}(D:(p,n)∈Q){L}(N:Tb.Ord L)(B:∀r,r∈L↔(p,r)∈s.found):L.map (λr=>(p,r.take n))=M.filter λf=>decide (f.1=p):=by
 have I:=h.ok.ok.one;have A:∀r,r∈L->∃a,(p,a)∈M/\a.length=n/\n<=3/\r=Tb.fT a:=λr hm=>by
  have E:=(B r).1 hm;rw[<-j.perm.mem_iff,aax]at E;obtain⟨f,i,e⟩:=E;rw[h.pf (j.CD f i)]at e;simp only[abZ]at e;have y:=(j.CD f i).1;have t:=I _ y _ ((h.qs _).1 D) e.1;simp only[abZ]at t;exact⟨f.2,by rw[<-e.1];exact i,t.2,by rw[<-t.2];exact(pB h.ok (j.CD f i)).2,e.2.symm⟩
 have e:(L.map (λr=>(p,r.take n))).map Rf.enc=(M.filter λf=>decide (f.1=p)).map Rf.enc:=by
  refine Gs.Sh ?_ (ad8 (List.Sublist.map _ List.filter_sublist) j.ord) (λx=>?_)
  ·rw[aey];refine List.Pairwise.map _ ?_ (List.Pairwise.imp_of_mem (S:=λa b=>Tb.cr (a.take n) (b.take n)<0) ?_ N)
   ·intro a b q;show Tb.cr (p::a.take n) (p::b.take n)<0;unfold Tb.cr;rw[aaD (by simp[Tb.gE.2])];exact q
   ·intro a b w J q;obtain⟨U,_,u,O,rfl⟩:=A a w;obtain⟨b',_,b2,_,rfl⟩:=A b J;rw[<-En.py (by omega),<-En.py (by omega)]at q ⊢;have H:=En.lq U;have F:=En.lq b';rw[u]at H;rw[b2]at F;rw[H,F];unfold En.pad at q;rw[u,b2,EI _ (by omega)]at q;exact q
  ·simp only[aey,aax,List.mem_filter,abW];constructor
   ·rintro⟨r,hm,rfl⟩;obtain⟨a,w,u,O,rfl⟩:=A r hm;refine⟨(p,a),⟨w,rfl⟩, ?_⟩;show _=Rf.enc (p,(Tb.fT a).take n);rw[<-En.py (by omega),<-u,En.lq]
   ·rintro⟨f,⟨i,rfl⟩,rfl⟩;have y:=(j.CD f i).1;have t:=I _ y _ ((h.qs _).1 D) rfl;simp only[abZ,true_and]at t;refine⟨Tb.fT f.2,(B _).2 ((j.mem h (j.CD f i)).2 i), ?_⟩;show Rf.enc (f.1,(Tb.fT f.2).take n)=_;rw[<-En.py (pB h.ok (j.CD f i)).2,<-t,En.lq]
 exact(List.map_inj_right (λa b=>Rf.D0)).1 e
end
variable{e:Array Value}{s:ByteArray}{S:List Nat}{B N m:Nat}{fz:Nat×Nat}{t:TypeId}{w w':World}
theorem Mu(w ad ac j)(ha:bJ w ad ac j)(bd bc lb)(hb:bJ w bd bc lb)(he:j.map FI.f=lb.map FI.f):
 Calls prog 97 #[.slice ad j.length ac,.slice bd lb.length bc] w λe w'=>e=.returned (.bool true)/\Below w.heap.size w w':=by
 have hlen:lb.length=j.length:=by have:=abu List.length he;simpa using this.symm
 have hle:=aH ha.row;have HA:=aj ha;have HB:=aj hb;have HE:Hid (∀k (B:k<j.length) (J:k<lb.length),(lb[k]).pred=(j[k]).pred/\(lb[k]).args=(j[k]).args):=by
  intro k B J;have e:=abu (λx=>x[k]?) he;simp only[ab3,AS B,AS J,Option.map_some,AT]at e;unfold FI.f at e;simp only[abZ]at e;exact⟨e.1.symm,e.2.symm⟩
 have HL:=aj hlen;rw[hlen];obtain⟨n,M⟩:∃n,n=j.length:=⟨_,rfl⟩;have V:Hid (j.length=n/\lb.length=n):=⟨M.symm,by rw[hlen,M]⟩;rw[<-M]at hle ⊢;clear ha hb he hlen M
 go_enter func97,ntmps97
 go_wp2_with fail
 go_loopw [5] (λiv wr=>∃i:Nat,i<=n/\iv=.int .i64 i/\Hid (Below w.heap.size w wr)) (λiv _=>n-(intOf iv).toNat)
 ·exact⟨0,IS _,rfl,aaj _ _⟩
 ·
  obtain⟨i,hi,rfl,H⟩:=hrel;by_cases B:i<n
  ·have gD:decide ((i:Int)<n)=true:=aap (by omega);have u:i<j.length:=by rw[V.out.1];exact B
   have t:i<lb.length:=by rw[V.out.2];exact B
   obtain⟨q1,q2⟩:=HE.out i u t;obtain⟨ga,rfl,D,F,a0,U⟩:=(HA.out.below H.out).at_ u;obtain⟨gb,rfl,uh,R5,b0,b1⟩:=(HB.out.below H.out).at_ t;have y:Hid (∀W,Below w.heap.size w W->W.cell? ⟨ga,i*2+1,none⟩=some (j[i]).av/\W.cell? ⟨gb,i*2+1,none⟩=some (lb[i]).av/\ga<W.heap.size/\gb<W.heap.size/\dr W (j[i]).av (j[i]).args/\dr W (lb[i]).av (j[i]).args):=by
    intro W O;obtain⟨ga',e,x1,_,_,x2⟩:=(HA.out.below O).at_ u;cases e;obtain⟨gb',e,y1,_,_,y2⟩:=(HB.out.below O).at_ t;cases e;refine⟨x2,y2,x1,y1,xh ((HA.out.below O).each _ (IN u)), ?_⟩;rw[<-q2];exact xh ((HB.out.below O).each _ (IN t))
   obtain⟨xd,xc,hx⟩:=(y.out w (aaj _ _)).2.2.2.2.1.shape;obtain⟨yd,yc,hy⟩:=(y.out w (aaj _ _)).2.2.2.2.2.shape;rw[q1]at b0;rw[hx]at U y;rw[hy]at b1 y;have apm:n<=ac:=by rw[<-V.out.1];exact F
   have arc:n<=bc:=by rw[<-V.out.2];exact R5
   have hm0:=(y.out w (aaj _ _)).2.2.2.2.1.le;generalize (j[i]).args=A at*;obtain⟨m,hm⟩:∃m,m=A.length:=⟨_,rfl⟩;have HM:=aj hm.symm;rw[<-hm]at U b1 y hm0;generalize (j[i]).pred=p at*;have WL:(p.toList != p.toList)=false:=by simp
   have YI:(((m:Nat):Int) != ((m:Nat):Int))=false:=by simp
   have i1:(0:Int)<=(i:Int):=by omega
   have i2:(i:Int)<n:=by omega
   clear hx hy q1 q2 hm F R5
   go_upto_region 6 with fail
   go_cut [43]from 18 to 70 (λcv wx=>cv=.bool false/\Hid (Below w.heap.size w wx))
   ·
    go_quiet (fail)
    go_wp2_with fail
    go_meet;exact⟨rfl,below_drewN H.out _⟩
   ·
    obtain⟨rfl,mM⟩:=hcut;clear a0 U b0 b1 D uh
    go_wp2_with fail
    go_loopw [6] (λkv wq=>∃k:Nat,k<=m/\kv=.int .i64 k/\Hid (Below w.heap.size w wq)) (λkv _=>m-(intOf kv).toNat)
    ·exact⟨0,IS _,rfl,mM.out⟩
    ·
     clear mM H;obtain⟨k,hk,rfl,H⟩:=hrel;obtain⟨U,b1,D,uh,Z,Y⟩:=y.out wr H.out;by_cases J:k<m
     ·have ib:decide ((k:Int)<m)=true:=aap (by omega);have I:k<A.length:=by rw[HM.out];exact J
      obtain⟨ua,oa,rfl,hua,hoa,x1⟩:=Z.at I;obtain⟨ub,ob,rfl,hub,Cd,y1⟩:=Y.at I;generalize A[k]=X at*;have hxx:(X.toList != X.toList)=false:=by simp
      have k1:(0:Int)<=(k:Int):=by omega
      have k2:(k:Int)<m:=by omega
      clear Z Y
      go_upto_region 11 with fail
      go_quiet (fail)
      have qI:Hid (∀q,Below w.heap.size w (wr.drewN q)):=λq=>below_drewN H.out q
      go_wp2_with fail
      go_roundw
      ·exact⟨k+1,J,by go_num,qI.out _⟩
      ·(simp[intOf];omega)
     ·have ib:decide ((k:Int)<m)=false:=aab (by omega);clear Z Y
      go_wp2_with fail
      go_roundw
      ·exact⟨i+1,B,by go_num,H.out⟩
      ·(simp[intOf];omega)
  ·have gD:decide ((i:Int)<n)=false:=aab (by omega)
   go_wp2_with fail
   go_ret;exact⟨rfl,H.out⟩
/- axiomlaw: both engines as they lie, and what leaves them so. -/
def Vq:List TypeId:=[77,37,46,9,40,131,269,109,5,48]
def Ch(w:World)(S:List Nat):Prop:=∀b,b∈S->b<w.heap.size->∃cur t fz,w.heap[b]?=some (.cells cur t fz)/\t∈Vq
theorem Ch.no(h:Ch w S){b}(j:w.heap[b]?=some (.cells e t fz))(i:¬t∈Vq):¬b∈S:=by grind [Ch,Vq]
theorem Ch.row(h:Ch w S)(q:Kb S w w'){e sz v n xs}(j:w.ownsRow B e sz v n xs)(i:¬e∈Vq):w'.ownsRow B e sz v n xs:=q.aR j (λ_ _ _ t e=>h.no e i t)
theorem Ch.one{g}(h:w.heap[g]?=some (.cells e t fz))(i:t∈Vq):Ch w [g]:=by grind [Vq,Ch]
theorem Ch.cons{g}(h:w.heap[g]?=some (.cells e t fz))(i:t∈Vq)(hs:Ch w S):Ch w (g::S):=by grind [Vq,Ch]
theorem Ch.nil(w):Ch w []:=λb e=>by cases e
theorem jl.kb{eg rs pl Q R s rv gm hm l G T hd lv}(h:jl w eg rs pl Q R s rv gm hm l G T hd lv)(u:Kb S w w')(x:Ch w S)(y:¬eg∈S):jl w' eg rs pl Q R s rv gm hm l G T hd lv:=by
 obtain⟨rd,rc,e,A⟩:=h.rules;refine⟨u.heap h.aY y,⟨rd,rc,e,A.kept u (λb q U i e=>?_)⟩,h.map,h.Ai.kept u (λb i hm=>?_),h.gq,h.jE.kept u (λb i hm=>?_),h.mx,h.Mp,h.qs,h.YP,h.uo⟩
 ·refine⟨?_, ?_, ?_⟩<;>(rintro rfl;exact x.no e (by decide) i)
 ·obtain⟨q,t,fz,e,j⟩:=x b hm (h.Ai.lt i);exact h.Ai.sX e (by rintro rfl;revert j;decide) (by rintro rfl;revert j;decide) b i (by simp)
 ·obtain⟨q,t,fz,e,j⟩:=x b hm (h.jE.lt i);exact h.jE.sX e (by rintro rfl;revert j;decide) (by rintro rfl;revert j;decide) (by rintro rfl;revert j;decide) b i (by simp)
theorem dz.kbS{rd rc l}(h:dz w rd rc l)(j:Kb S w w')(t:Ch w S)(hs:∀r,r∈l->∀x,(x=r.head\/x∈r.body)->∀q,(Value.slice (QA.td x) (QA.a x).af.length (QA.tc x)).ownBlock=some q->¬q∈S):dz w' rd rc l:=by
 have y:∀r,r∈l->∀x:QA,(x=r.head\/x∈r.body)->x.ok w->x.ok w':=λr e x i u=>⟨j.row u.1 (hs r e x i),t.row j u.2 (by decide)⟩;refine⟨t.row j h.1 (by decide),λr e=>?_⟩;obtain⟨⟨F,D,B⟩,A⟩:=h.2 r e;exact⟨⟨y r e _ (.inl rfl) F,t.row j D (by decide),λx i=>y r e x (.inr i) (B x i)⟩,A⟩
theorem qD.kb{rg rl o pl G out bs hd rv pv gv mv cv}(h:qD w rg rl o pl G out bs hd rv pv gv mv cv)(i:Kb S w w')(u:Ch w S)(t:¬rg∈S)(hs:∀q,tO rl G out q->¬q∈S)(j:∀q,gv.ownBlock=some q\/mv.ownBlock=some q->¬q∈S):qD w' rg rl o pl G out bs hd rv pv gv mv cv:=by
 obtain⟨rd,rc,V,O⟩:=h.rules;obtain⟨D,F,U,M⟩:=h.lj;obtain⟨gd,gc,e3,A⟩:=h.given;obtain⟨H,I,B,y⟩:=h.model;exact⟨i.heap h.aY t,⟨rd,rc,V,O.kbS i u (λr t x J q e=>hs q (.inl ⟨r,t,x,J,e⟩))⟩,⟨D,F,U,u.row i M (by decide)⟩,⟨gd,gc,e3,i.row A.row (λq e=>j q (.inl (by rw[e3];exact e))),λf j=>i.row (A.each f j) (λq e=>hs q (.inr ⟨f,.inl j,e⟩))⟩,⟨H,I,B,i.row y.row (λq e=>j q (.inr (by rw[B];exact e))),λf j=>i.row (y.each f j) (λq e=>hs q (.inr ⟨f,.inr j,e⟩))⟩,u.row i h.kx (by decide)⟩
structure EP where
 eg:Nat
 rs:List Ax.aI
 pl:ByteArray
 Q:List Pd.Pr
 R:Rd.eP
 s:En.dH En.ba
 rv:Value
 gm:Nat
 hm:Nat
 l:List MR
 G:List GT
 T:List HT
 hd:List UInt8
 lv:Value
 ln:Nat
 rg:Nat
 rl:List QR
 o:List (ByteArray×Nat)
 Gf:List FI
 out:List FI
 bs:ByteArray
 rh:ByteArray
 qv:Value
 pv:Value
 gv:Value
 mv:Value
 cv:Value
structure kX(w:World)(B N:Nat)(x:EP):Prop where
 p:jl w x.eg x.rs x.pl x.Q x.R x.s x.rv x.gm x.hm x.l x.G x.T x.hd x.lv
 log:∃lx,w.ownsRow B 5 1 x.lv x.ln lx
 r:qD w x.rg x.rl x.o x.pl x.Gf x.out x.bs x.rh x.qv x.pv x.gv x.mv x.cv
 rr:x.rl.map QR.aw=x.rs
 os:x.o.Perm (Ax.gX (x.rs.flatMap Ax.aI.atoms)).1
 tw:Tw x.rs x.Q x.R (x.Gf.map FI.f)
 fS:RQ x.rs x.s (x.out.map FI.f)
 my:x.Gf.length<=40
 ln:x.ln<=100100*N
 bs:x.bs.size<=300000*N
 rh:x.rh.size<=32
 ge:B<=x.eg/\B<=x.rg
def L5(x:EP)(q:Nat):Prop:=tO x.rl x.Gf x.out q\/x.gv.ownBlock=some q\/x.mv.ownBlock=some q
theorem kX.kb{x}(h:kX w B N x)(i:Kb S w w')(j:Ch w S)(A:¬x.eg∈S)(u:¬x.rg∈S)(y:∀q,x.lv.ownBlock=some q->¬q∈S)(hs:∀q,L5 x q->¬q∈S):kX w' B N x:=by
 obtain⟨t,D⟩:=h.log;exact⟨h.p.kb i j A,⟨t,i.row D y⟩,h.r.kb i j u (λq e=>hs q (.inl e)) (λq e=>hs q (.inr e)),h.rr,h.os,h.tw,h.fS,h.my,h.ln,h.bs,h.rh,h.ge⟩
theorem kX.mono{i x}(h:kX w B N x)(e:N<=i):kX w B i x:=⟨h.p,h.log,h.r,h.rr,h.os,h.tw,h.fS,h.my,aaK h.ln (Nat.mul_le_mul_left _ e),aaK h.bs (Nat.mul_le_mul_left _ e),h.rh,h.ge⟩
theorem kX.below{x}(h:kX w B N x)(e:Below w.heap.size w w'):kX w' B N x:=h.kb (Kb.bD e []) (Ch.nil w) (by simp) (by simp) (by simp) (by simp)
theorem kX.Dv{x}(h:kX w B N x)(q:Nat)(e:L5 x q):(∃i fz,w.heap[q]?=some (.cells i 9 fz))\/∃i fz,w.heap[q]?=some (.cells i 48 fz):=by
 obtain⟨rd,rc,_,D⟩:=h.r.rules;obtain⟨gd,gc,e3,u⟩:=h.r.given;obtain⟨J,M,F,t⟩:=h.r.model;rcases e with(⟨r,A,y,hy,e⟩ | ⟨f,j,e⟩) | e | e
 ·obtain⟨⟨I,_,H⟩,_⟩:=D.2 r A;rcases hy with rfl | hy
  ·exact .inl (au I.1 q e)
  ·exact .inl (au (H y hy).1 q e)
 ·rcases j with j | j
  ·exact .inl (au (u.each f j) q e)
  ·exact .inl (au (t.each f j) q e)
 ·exact .inr (au u.row q (by rw[<-e3];exact e))
 ·exact .inr (au t.row q (by rw[<-F];exact e))
structure WI(w0 w:World)(wb:Nat)(ev qv k2 k3 k4 fv av bV bW:Value)(n:Nat)(FP AP:List fh)(E:List EP)(N:Nat)(el ql:List Value):Prop where
 be:Below w0.heap.size w0 w
 bk:Bk w w0.heap.size wb ev qv k2 k3 k4 fv av bV bW n FP AP
 es:w.ownsRow w0.heap.size 40 1 ev el.length el
 qs:w.ownsRow w0.heap.size 131 1 qv ql.length ql
 Ds:∀x,x∈E->kX w w0.heap.size N x
 apart:E.Pairwise λa b=>a.eg≠b.eg/\a.rg≠b.rg/\∀q,a.lv.ownBlock=some q->b.lv.ownBlock≠some q
 off:∀x,x∈E->∀q,tO x.rl x.Gf x.out q->bV.ownBlock≠some q/\bW.ownBlock≠some q
 len:E.length<=N/\FP.length<=4*N/\AP.length<=800*N/\n<=201*N
def qV(E:List EP):List Value:=E.map λx=>.pointer (some ⟨x.eg,0,none⟩)
def qO(E:List EP):List Value:=E.map λx=>.pointer (some ⟨x.rg,0,none⟩)
section
variable {w0 w w':World} {wb:Nat} {ev qv k2 k3 k4 fv av bV bW:Value} {n:Nat} {FP AP:List fh} {E:List EP} {N:Nat} {el ql:List Value}
theorem WI.below(h:WI w0 w wb ev qv k2 k3 k4 fv av bV bW n FP AP E N el ql)(e:Below w.heap.size w w'):WI w0 w' wb ev qv k2 k3 k4 fv av bV bW n FP AP E N el ql:=⟨h.be.trans (e.mono h.be.size),h.bk.below e,ae h.es e,ae h.qs e,λx i=>(h.Ds x i).below e,h.apart,h.off,h.len⟩
theorem WI.mono{e}(h:WI w0 w wb ev qv k2 k3 k4 fv av bV bW n FP AP E N el ql)(j:N<=e):WI w0 w wb ev qv k2 k3 k4 fv av bV bW n FP AP E e el ql:=⟨h.be,h.bk,h.es,h.qs,λx i=>(h.Ds x i).mono j,h.apart,h.off,by have:=h.len;omega⟩
theorem kX.grow{x v T M C}(h:kX w B N x)(O:w.heap[wb]?=some (.cells C 77 (0,0)))(D:w.ownsRow B T 1 v m M)(V:T=40\/T=131)(U:Kb (wb::v.ownBlock.toList) w w'):kX w' B N x:=by
 have W:∀b i t fz,b∈wb::v.ownBlock.toList->w.heap[b]?=some (.cells i t fz)->t=77\/t=T:=λb i t fz j e=>by
  rcases BY.1 j with rfl | j
  ·grind
  ·obtain⟨J,I,u⟩:=au D b (by simpa using j);rw[e]at u;simp only[AT,aa1]at u;exact .inr u.2.1
 have H:∀{b:Nat} {i:Array Value} {t:TypeId} {fz:Nat×Nat},w.heap[b]?=some (.cells i t fz)->t≠77->t≠40->t≠131->¬b∈wb::v.ownBlock.toList:=λe A h2 Z j=>by
  rcases W _ _ _ _ j e with F | F
  ·exact A F
  ·grind
 obtain⟨X,A⟩:=h.log;refine h.kb U (λb j Y=>?_) (H h.p.aY (by decide) (by decide) (by decide)) (H h.r.aY (by decide) (by decide) (by decide)) (λq y=>?_) (λq y=>?_)
 ·rcases BY.1 j with rfl | j
  ·exact⟨_,_,_,O,by decide⟩
  ·obtain⟨J,I,u⟩:=au D b (by simpa using j);refine⟨J,T,I,u, ?_⟩;rcases V with rfl | rfl<;>decide
 ·obtain⟨i,fz,e⟩:=au A q y;grind
 ·rcases h.Dv q y with⟨i,fz,e⟩ | ⟨i,fz,e⟩
  ·grind
  ·grind
theorem WI.aeh{u o v' x}(h:WI w0 w wb ev qv k2 k3 k4 fv av bV bW n FP AP E N el ql)(H:(w.alloc o).grownBy u ev.ownBlock)(I:u.ownsRow w0.heap.size 40 1 v' m (el++[x]))(hm:m=el.length+1):
 u.heap[wb]?=some (.cells #[ev,qv,k2,k3,k4,fv,av,bV,bW,.int .i64 n] 77 (0,0))/\WI w0 (u.setCell ⟨wb,0,none⟩ v') wb v' qv k2 k3 k4 fv av bV bW n FP AP E N (el++[x]) ql:=by
 have A:=je H h.es h.bk.rows.aY;have e:=jz (wb:=wb) (v':=v') (j:=0) H;have q:∀{T:TypeId},T≠77->T≠40->_:=λ{T} M J=>dG (T:=T) h.bk.rows.aY h.es M J;refine⟨A,e.aQ h.be h.be.size (λi D=>?_),⟨⟨?_,e.aR h.bk.rows.fl (q (by decide) (by decide)),e.aR h.bk.rows.al (q (by decide) (by decide)),e.aR h.bk.rows.fm (q (by decide) (by decide)),e.aR h.bk.rows.am (q (by decide) (by decide)),h.bk.rows.two,h.bk.rows.ge⟩,λp B=>(h.bk.fs p B).kb e (λb F _ t fz=>q (by decide) (by decide) b t fz F),λp B=>(h.bk.ns p B).kb e (λb F _ t fz=>q (by decide) (by decide) b t fz F),h.bk.off⟩, ?_,e.aR h.qs (q (by decide) (by decide)),λy hy=>(h.Ds y hy).grow h.bk.rows.aY h.es (.inl rfl) e,h.apart,h.off,h.len⟩
 ·rcases BY.1 D with rfl | D
  ·exact h.bk.rows.ge
  ·exact(h.es.lt i (by simpa using D)).1
 ·rw[aC _ A];rfl
 ·rw[If,ab6,<-hm];exact nM A I
theorem WI.abo{u o v' x}(h:WI w0 w wb ev qv k2 k3 k4 fv av bV bW n FP AP E N el ql)(H:(w.alloc o).grownBy u qv.ownBlock)(I:u.ownsRow w0.heap.size 131 1 v' m (ql++[x]))(hm:m=ql.length+1):
 u.heap[wb]?=some (.cells #[ev,qv,k2,k3,k4,fv,av,bV,bW,.int .i64 n] 77 (0,0))/\WI w0 (u.setCell ⟨wb,1,none⟩ v') wb ev v' k2 k3 k4 fv av bV bW n FP AP E N el (ql++[x]):=by
 have A:=je H h.qs h.bk.rows.aY;have e:=jz (wb:=wb) (v':=v') (j:=1) H;have q:∀{T:TypeId},T≠77->T≠131->_:=λ{T} M J=>dG (T:=T) h.bk.rows.aY h.qs M J;refine⟨A,e.aQ h.be h.be.size (λi D=>?_),⟨⟨?_,e.aR h.bk.rows.fl (q (by decide) (by decide)),e.aR h.bk.rows.al (q (by decide) (by decide)),e.aR h.bk.rows.fm (q (by decide) (by decide)),e.aR h.bk.rows.am (q (by decide) (by decide)),h.bk.rows.two,h.bk.rows.ge⟩,λp B=>(h.bk.fs p B).kb e (λb F _ t fz=>q (by decide) (by decide) b t fz F),λp B=>(h.bk.ns p B).kb e (λb F _ t fz=>q (by decide) (by decide) b t fz F),h.bk.off⟩,e.aR h.es (q (by decide) (by decide)), ?_,λy hy=>(h.Ds y hy).grow h.bk.rows.aY h.qs (.inr rfl) e,h.apart,h.off,h.len⟩
 ·rcases BY.1 D with rfl | D
  ·exact h.bk.rows.ge
  ·exact(h.qs.lt i (by simpa using D)).1
 ·rw[aC _ A];rfl
 ·rw[If,ab6,<-hm];exact nM A I
end
/- axiomlaw: World.joins, opens; checks. -/
theorem mN{k}:Calls prog 49 #[.int .i64 k] w λe w'=>e=.returned (.int .i64 k)/\w'=w:=by
 go_enter func49,ntmps49
 go_wp2
 go_ret;exact⟨rfl,rfl⟩
theorem EJ(s)(hs:s.size<=maxLen):Calls prog 50 #[.string s] w λe w'=>e=.returned (.bool true)/\Below w.heap.size w w':=by
 obtain⟨R,j⟩:∃R,Ax.read s=R:=⟨_,rfl⟩;have u:=aj j;have i:=λw=>MO s w hs;rw[j]at i;clear j;have q:=λw=>Ij s w hs R u;rcases R with⟨P,E,A⟩;simp only at i q;clear u;have y:(P.toList==P.toList)=true:=by simp
 go_enter func50,ntmps50
 go_wp2_with (first | (go_at_call 88;refine(i _).mono ?_;rintro e w1 ⟨rfl,t⟩) | (go_at_call 89;refine(q _).mono ?_;rintro e w2 ⟨rfl,x⟩) | (go_at_call 49;refine(mN).mono ?_;rintro e B ⟨rfl,rfl⟩))
 go_ret;exact⟨by simp,t.trans (x.mono t.size)⟩
theorem Tryz.Yp:(prog.info? 40).map (λi=>(i.zero,i.size,i.bytes))=some (some (.pointer none),1,8):=by kernel_rfl
theorem Tryz.XV:(prog.info? 131).map (λi=>(i.zero,i.size,i.bytes))=some (some (.pointer none),1,8):=by kernel_rfl
theorem Ii{wb}:Calls prog 48 #[.pointer (some ⟨wb,0,none⟩),.pointer none,.pointer none] w λe w'=>e=.returned (.bool true)/\w'=w:=by
 go_enter func48,ntmps48
 go_wp2_with fail
 go_ret;exact⟨rfl,rfl⟩
theorem Jr(w0 w:World)(wb:Nat)(ev qv k2 k3 k4 fv av bV bW:Value)(n:Nat)(FP AP E)(N:Nat)(h:WI w0 w wb ev qv k2 k3 k4 fv av bV bW n FP AP E N (qV E) (qO E))(x:EP)(hx:kX w w0.heap.size N x)(qQ:∀y,y∈E->y.eg≠x.eg/\y.rg≠x.rg/\∀q,y.lv.ownBlock=some q->x.lv.ownBlock≠some q)(EF:∀q,tO x.rl x.Gf x.out q->bV.ownBlock≠some q/\bW.ownBlock≠some q)(hN:N<=1000000):
 Calls prog 48 #[.pointer (some ⟨wb,0,none⟩),.pointer (some ⟨x.eg,0,none⟩),.pointer (some ⟨x.rg,0,none⟩)] w λe w'=>e=.returned (.bool true)/\∃Qc RG,WI w0 w' wb Qc RG k2 k3 k4 fv av bV bW n FP AP (E++[x]) (N+1) (qV (E++[x])) (qO (E++[x])):=by
 have j:Hid (WI w0 w wb ev qv k2 k3 k4 fv av bV bW n FP AP (E++[x]) (N+1) (qV E) (qO E)):=by
  have t:=h.mono (aej N);refine⟨t.be,t.bk,t.es,t.qs,λy hy=>?_,acO.2 ⟨t.apart,List.pairwise_singleton _ _,λa ha b hb=>?_⟩,λy hy=>?_, ?_⟩
  ·rcases ZD.1 hy with hy | hy
   ·exact t.Ds y hy
   ·simp only[aae]at hy;subst hy;exact hx.mono (aej N)
  ·simp only[aae]at hb;subst hb;exact qQ a ha
  ·rcases ZD.1 hy with hy | hy
   ·exact t.off y hy
   ·simp only[aae]at hy;subst hy;exact EF
  ·have:=h.len;rw[If,ab6];omega
 have HE:Hid (qV E++[.pointer (some ⟨x.eg,0,none⟩)]=qV (E++[x])/\qO E++[.pointer (some ⟨x.rg,0,none⟩)]=qO (E++[x])):=⟨(aa6 (l₁:=E) (l₂:=[x])).symm,(aa6 (l₁:=E) (l₂:=[x])).symm⟩;have hEl:E.length<=1000000:=aaK h.len.1 hN;clear h hx qQ EF;obtain⟨M,W⟩:∃M,M=E.length:=⟨_,rfl⟩;rw[<-W]at hEl;have F:(qV E).length=M:=by unfold qV;rw[aaL,W]
 have D:(qO E).length=M:=by unfold qO;rw[aaL,W]
 obtain⟨X,Y,U7⟩:=ah j.out.es;obtain⟨I,J,UO⟩:=ah j.out.qs;rw[F]at U7;rw[D]at UO;subst U7 UO;generalize qV E=el at*;generalize qO E=ql at*;clear W;generalize x.eg=xe at*;generalize x.rg=xr at*;have cp:w0.heap.size<=w.heap.size:=j.out.be.size;obtain⟨U,V,cE,ch,Z⟩:=abF Tryz.Yp;have O:Hid (∀o,(w.alloc o).ownsRow w0.heap.size 40 1 (.slice X M Y) M el):=λo=>by
  have H:=j.out.es.alloc o;rw[F]at H;exact H
 have v0:w.cell? ⟨wb,0,none⟩=some (.slice X M Y):=by rw[aq j.out.bk.rows.aY];rfl
 have vf:=aJ j.out.bk.rows.aY 0;have vl:=lt_of_heap j.out.bk.rows.aY
 go_enter func48,ntmps48
 go_upto_region 5 with(at_builtin;go_must (refine abp _ rfl (.tmp 18) (.tmp 20) 70 rfl w0.heap.size 40 U _ 1 8 Tryz.underlying70 V cE ch Z rfl (by decide) (.slice X M Y) M el rfl (O.out _) ⟨w.heap.size,0,none⟩ 1 1 [.pointer (some ⟨xe,0,none⟩)] rfl rfl (abC (By _ _)) (by simp[Value.oneCell']) eI (by omega) (by simp;omega) ?_;intro v2 w2 aO bT _;obtain⟨Y9,YT,rfl⟩:=ah aO;obtain⟨i,B⟩:=j.out.aeh bT aO (by omega);have u:=aj B;have y0:w2.cell? ⟨wb,0,none⟩=some (.slice X M Y):=(by rw[aq i];rfl);have y1:=aJ i 0;have y2:=lt_of_heap i;clear bT aO i B))
 obtain⟨A,xu⟩:∃A,A=w2.setCell ⟨wb,0,none⟩ (.slice Y9 (M+1) YT):=⟨_,rfl⟩;rw[<-xu]at u;rw[<-xu];clear xu O j v0 vf vl y0 y1 y2 V cE ch Z U;have hs3:w0.heap.size<=A.heap.size:=u.out.be.size;obtain⟨U,V,cE,ch,Z⟩:=abF Tryz.XV;have O:Hid (∀o,(A.alloc o).ownsRow w0.heap.size 131 1 (.slice I M J) M ql):=λo=>by
  have H:=u.out.qs.alloc o;rw[D]at H;exact H
 have v0:A.cell? ⟨wb,1,none⟩=some (.slice I M J):=by rw[aq u.out.bk.rows.aY];rfl
 have vf:=aJ u.out.bk.rows.aY 1;have vl:=lt_of_heap u.out.bk.rows.aY
 go_wp2_with (at_builtin;go_must (refine abp _ rfl (.tmp 28) (.tmp 30) 71 rfl w0.heap.size 131 U _ 1 8 Tryz.underlying71 V cE ch Z rfl (by decide) (.slice I M J) M ql rfl (O.out _) ⟨A.heap.size,0,none⟩ 1 1 [.pointer (some ⟨xr,0,none⟩)] rfl rfl (abC (By _ _)) (by simp[Value.oneCell']) eI (by omega) (by simp;omega) ?_;intro v4 w4 dL dv _;obtain⟨gd4,gc4,rfl⟩:=ah dL;obtain⟨i,B⟩:=u.out.abo dv dL (by omega);have H4:=aj B;have y0:w4.cell? ⟨wb,1,none⟩=some (.slice I M J):=(by rw[aq i];rfl);have y1:=aJ i 1;have y2:=lt_of_heap i;clear dv dL i B))
 go_ret;refine⟨rfl,.slice Y9 (M+1) YT,.slice gd4 (M+1) gc4, ?_⟩;rw[<-HE.out.1,<-HE.out.2];exact H4.out
/- axiomlaw: World.opens, walked. -/
theorem S9.shape{e}(h:S9 w s e w'):∃(j:Option Addr) (q ac:Int),e=.returned (.tuple #[.pointer j,.int .i64 q,.int .i64 ac])/\Hid (S9 w s e w'):=by
 rcases h.2 with⟨_,i⟩ | ⟨_,_,_,⟨i,_⟩ | ⟨eg,_,_,_,_,_,_,_,_,_,i,_⟩⟩<;>exact⟨_,_,_,i,h⟩
theorem pj.shape{e}(h:pj w s e w'):∃(q:Option Addr) (t ac:Int),e=.returned (.tuple #[.pointer q,.int .i64 t,.int .i64 ac])/\Hid (pj w s e w'):=by
 rcases h.2 with⟨_,j⟩ | ⟨_,i⟩
 ·exact⟨_,_,_,j,h⟩
 ·split at i
  ·exact⟨_,_,_,i,h⟩
  ·obtain⟨rg,_,_,_,_,_,_,_,_,_,j,_⟩:=i;exact⟨_,_,_,j,h⟩
def NwB(w:World)(B:Nat)(e1 e2:Ending)(w2:World):Prop:=(∃ec ac:Int,e1=.returned (.tuple #[.pointer none,.int .i64 ec,.int .i64 ac])/\e2=.returned (.tuple #[.pointer none,.int .i64 ec,.int .i64 ac]))\/
 ∃x:EP,e1=.returned (.tuple #[.pointer (some ⟨x.eg,0,none⟩),.int .i64 0,.int .i64 0])/\e2=.returned (.tuple #[.pointer (some ⟨x.rg,0,none⟩),.int .i64 0,.int .i64 0])/\kX w2 B 0 x/\w.heap.size<=x.eg/\w.heap.size<=x.rg/\x.lv.ownBlock=none/\∀q,tO x.rl x.Gf x.out q->w.heap.size<=q
theorem O4{w1 w2 J I}(hB:B<=w.heap.size)(H:S9 w s J w1)(A:pj w1 s I w2):NwB w B J I w2:=by
 have cp:=H.1.size;rcases H.2 with⟨t,i⟩ | ⟨t,dR,Bs,i⟩
 ·rcases A.2 with⟨_,e⟩ | ⟨D,_⟩
  ·exact .inl ⟨_,_,i,e⟩
  ·exact absurd D t
 ·rcases A.2 with⟨D,_⟩ | ⟨_,e⟩
  ·exact absurd t D
  ·obtain⟨U,_⟩:=Ax.Db t;have hb:=Rf.pI U (G:=[]) List.nodup_nil (λf Y=>by cases Y) (gl:=[]) (λx=>by simp);rcases i with⟨i,hm⟩ | ⟨eg,Q,W,rv,gm,hm,l,G,T,hd,i,F,j,ZE⟩
   ·split at e
    ·exact .inl ⟨_,_,i,e⟩
    ·grind
   ·split at e
    ·grind
    ·rename_i M hM;obtain⟨rg,rl,o,out,rh,qv,pv,gv,mv,cv,e,I9,Z,u,y,AM,uo,gT⟩:=e;have V:Tw (Ax.bX s) Q (λ_=>[]) []:=Tw.start U j.Mp j.qs;have O:=V.fS j.gq j.Ai.names j.YP hM;refine .inr ⟨⟨eg,Ax.bX s,(Ax.read s).1,Q,λ_=>[],W,rv,gm,hm,l,G,T,hd,.slice none 0 0,0,rg,rl,o,[],out,⟨#[]⟩,rh,qv,pv,gv,mv,cv⟩,i,e,⟨j.below A.1,⟨[],aaM _ _ _ _⟩,Z,u,y,V,by rw[<-AM]at O;exact O,IS _,IS _,IS _,by rw[uo];exact OF _,aaK hB F,by simp only;omega⟩,F,by simp only;omega,rfl,λq X=>aaK cp (gT q X)⟩
theorem Bq(K:Nat->Int)(w0 w)(hK:Dg.EA w0 K)(wb:Nat)(ev qv k2 k3 k4 fv av bV bW)(n:Nat)(FP AP:List fh)(E:List EP)(N:Nat)(h:WI w0 w wb ev qv k2 k3 k4 fv av bV bW n FP AP E N (qV E) (qO E))(s)(hs:s.size<=maxLen)(hN:N<=1000000:=by omega):
 Calls prog 31 #[.pointer (some ⟨wb,0,none⟩),.string s] w λe w'=>e=.returned (.bool true)/\∃B A W,WI w0 w' wb B A k2 k3 k4 fv av bV bW n FP AP W (N+1) (qV W) (qO W):=by
 have V:Hid (Calls prog 34 #[.string s] w λe w'=>∃(F:Option Addr) (H ac:Int),e=.returned (.tuple #[.pointer F,.int .i64 H,.int .i64 ac])/\Hid (S9 w s e w')):=(Sp s K w hs (hK.below h.be)).mono λe w' i=>i.shape;have U:Hid (∀w1 e1,S9 w s e1 w1->Calls prog 47 #[.string s] w1 λe w'=>∃(F:Option Addr) (H ac:Int),e=.returned (.tuple #[.pointer F,.int .i64 H,.int .i64 ac])/\Hid (pj w1 s e w')):=λw1 e1 i=>by
  refine(Q7 s w1 hs (λh0=>⟨(Ax.Db h0).1, ?_⟩)).mono λe w' h2=>h2.shape;rcases i.2 with⟨hr,_⟩ | ⟨_,_,M,_⟩
  ·exact absurd h0 hr
  ·exact M
 have j:=aj h;clear h hK
 go_enter func31,ntmps31
 go_upto_region 3 with(first | (go_at_call 34;refine V.out.mono ?_;rintro e w1 ⟨F,H,ac,rfl,H1⟩) | (go_at_call 47;refine(U.out _ _ H1.out).mono ?_;rintro e w2 ⟨pq,fc,bc,rfl,I⟩))
 have J:Below w.heap.size w w2:=H1.out.1.trans (I.out.1.mono H1.out.1.size);have qt:=O4 j.out.be.size H1.out I.out;have D:Hid (WI w0 w2 wb ev qv k2 k3 k4 fv av bV bW n FP AP E N (qV E) (qO E)):=j.out.below J;rcases qt with⟨ec',ac',u,t⟩ | ⟨x,u,t,Z,q4,q5,Y,X⟩
 ·simp only[Ending.returned.injEq,Value.tuple.injEq,Array.mk.injEq,aeP,Value.pointer.injEq,Value.int.injEq,true_and,aex]at u t;obtain⟨rfl,rfl,rfl⟩:=u;obtain⟨rfl,rfl,rfl⟩:=t;clear H1 I V U J j
  go_wp2_with (first | (go_at_call 48;refine(Ii).mono ?_;rintro e w3 ⟨rfl,rfl⟩) | (go_at_call 49;refine(mN).mono ?_;rintro e w4 ⟨rfl,rfl⟩))
  go_ret;exact⟨by simp,ev,qv,E,D.out.mono (aej N)⟩
 ·simp only[Ending.returned.injEq,Value.tuple.injEq,Array.mk.injEq,aeP,Value.pointer.injEq,Value.int.injEq,true_and,aex]at u t;obtain⟨rfl,rfl,rfl⟩:=u;obtain⟨rfl,rfl,rfl⟩:=t;have HJ:Hid (Calls prog 48 #[.pointer (some ⟨wb,0,none⟩),.pointer (some ⟨x.eg,0,none⟩),.pointer (some ⟨x.rg,0,none⟩)] w2 λe w'=>e=.returned (.bool true)/\Hid (∃B A,WI w0 w' wb B A k2 k3 k4 fv av bV bW n FP AP (E++[x]) (N+1) (qV (E++[x])) (qO (E++[x])))):=by
   refine Jr w0 w2 wb ev qv k2 k3 k4 fv av bV bW n FP AP E N D.out x (Z.mono (IS N)) (λy hy=>?_) (λq hq=>?_) hN
   ·have i:=j.out.Ds y hy;have h2:=lt_of_heap i.p.aY;have h3:=lt_of_heap i.r.aY;exact⟨by omega,by omega,λq _=>by rw[Y];simp⟩
   ·have i:=X q hq;refine⟨λe=>?_,λe=>?_⟩
    ·obtain⟨c9,f9,O⟩:=au j.out.bk.rows.fm _ e;have:=lt_of_heap O;omega
    ·obtain⟨c9,f9,O⟩:=au j.out.bk.rows.am _ e;have:=lt_of_heap O;omega
  clear H1 I V U J j Z q4 q5 Y X D;generalize Y3:x.eg=xe at*;generalize hxr:x.rg=xr at*
  go_wp2_with (first | (go_at_call 48;refine HJ.out.mono ?_;rintro e w3 ⟨rfl,D⟩) | (go_at_call 49;refine(mN).mono ?_;rintro e w4 ⟨rfl,rfl⟩))
  go_ret;obtain⟨B,A,M⟩:=D.out;exact⟨by simp,B,A,E++[x],M⟩
/- axiomlaw: back: one round's reading. -/
structure BkR(w0 w:World)(nb fb n:Nat)(F:List FI)(gg gc i g o lc:Nat)(ad:Option Addr)(ac ab:Nat)(p:ByteArray)(A:List ByteArray):Prop where
 lel:n<=lc
 leg:n<=gc
 leA:A.length<=1048576
 bs:Lw.bs (F.take (i+1))=Lw.bs (F.take i)++[ab]
 lt:ab<w.heap.size
 src:∀W,Kb (Lw.bs F) w W->g<W.heap.size/\W.cell? ⟨g,o+i*2,none⟩=some (.string p)/\W.cell? ⟨g,o+i*2+1,none⟩=some (.slice ad A.length ac)/\dr W (.slice ad A.length ac) A
 SY:∀W,Kb (Lw.bs (F.take (i+1))) w W->Kb (Lw.bs F) w W/\nb<W.heap.size/\fb<W.heap.size/\gg<W.heap.size/\W.cell? ⟨nb,0,none⟩=some (.slice (some ⟨fb,0,none⟩) (n+8) (n+8))/\W.cell? ⟨nb,1,none⟩=some (.slice (some ⟨gg,0,none⟩) n gc)/\W.cell? ⟨fb,i*2,none⟩=some (.string p)/\W.cell? ⟨fb,i*2+1,none⟩=some (.slice (some ⟨ab,0,none⟩) A.length (A.length+8))/\W.cell? ⟨gg,i,none⟩=some (.slice (some ⟨ab,0,none⟩) (A.length+8) (A.length+8))
 row:∀W,Kb (Lw.bs (F.take i)) w W->W.heap[ab]?=some (.cells (Lw.sA A 0).toArray 9 (0,0))
theorem mS.round{w0 M fb F gd gc}(h:mS w0 w M fb F gd gc 8){O U l}(D:∀W,Kb (Lw.bs F) w W->eV W O U l)(y:F.map FI.f=l.map FI.f)(ha:∀f,f∈l->f.args.length<=1048576){i}(q:i<l.length):
 ∃g o B ad ac J p A,O=some ⟨g,o,none⟩/\gd=some ⟨B,0,none⟩/\BkR w0 w M fb l.length F B gc i g o U ad ac J p A:=by
 have hn:F.length=l.length:=by simpa using abu List.length y
 have u:i<F.length:=by omega
 have zX:FI.f F[i]=FI.f l[i]:=by
  have t:(F.map FI.f)[i]?=(l.map FI.f)[i]?:=by rw[y]
  simpa [q,u]using t
 have x:(F[i]).pred=(l[i]).pred/\(F[i]).args=(l[i]).args:=by simpa [FI.f]using zX
 have cE:=D w (Kb.refl _ _);obtain⟨g,o,rfl,_,U8,_,_⟩:=cE.at_ q;obtain⟨ad,ac,nw⟩:=(cE.each _ (IN q)).shape;obtain⟨_,_,bC,_,H⟩:=h.kept (i:=i) (Kb.refl _ _);obtain⟨J,t,e2,e3⟩:=H i u (OF _);obtain⟨B,rfl,_,wQ,_⟩:=aA h.row;refine⟨g,o,B,ad,ac,J,(l[i]).pred,(l[i]).args,rfl,rfl,U8,by omega,ha _ (IN q),Lw.Ti u t,lt_of_heap e3, ?_, ?_, ?_⟩
 ·intro W j;obtain⟨g',o',e,h1,_,h2,Z⟩:=(D W j).at_ q;cases e;have Y:=(D W j).each _ (IN q);rw[nw]at Z Y;exact⟨h1,h2,Z,Y⟩
 ·intro W j;obtain⟨V,k2,k3,_,_⟩:=h.kept j;have k4:Kb (Lw.bs F) w W:=j.mono (λb X _=>by
   unfold Lw.bs at X ⊢;obtain⟨f,y,e⟩:=acz.1 X;exact acz.2 ⟨f,ab4 y,e⟩)
  rw[hn]at V;obtain⟨n0,n1,_,_,n4⟩:=bG V;obtain⟨g',e,nW,_,bA⟩:=aA k3;cases e;have c0:=cP F i u;have hlen:=aX F;refine⟨k4,n4,lt_of_heap k2,nW,n0,n1, ?_, ?_, ?_⟩
  ·rw[aq k2,aaV,acx (by omega),c0.1,x.1]
  ·rw[aq k2,aaV,acx (by omega),c0.2,t,x.2]
  ·refine bA i _ ?_;rw[ab3,AS u];simp only[Option.map_some,FI.whole,t,x.2]
 ·intro W j;obtain⟨_,_,_,_,k5⟩:=h.kept j;obtain⟨ab',XD,_,I⟩:=k5 i u (OF _);rw[t]at XD;cases XD;rw[I,x.2];rfl
