/- axiomlaw: World.facts, its All, walked. -/
import Derived.Test.YtdmicblafmhflaaGreatDoorC18
import Derived.ChangeSame
import Derived.ChangeSlices
import Derived.Deep.Strs
import Derived.Deep.Slices
import Derived.Deep.Matrix
set_option linter.unusedSimpArgs false
set_option linter.unusedVariables false
set_option maxHeartbeats 4000000
set_option maxRecDepth 100000
namespace Go.Proofs.YtdmicblafmhflaaGreatDoor
open Go.Proofs.Tryz Go.RowKit Go.Maps
variable{cs:List Value}{n:Nat}
theorem Qj{W B N x}(h:kX W B N x)(p)(hp:p.size<=1048576):∃(D:List En.ba) (V:Int),D.length<=200/\(∀f,f∈D->f.2.length<=3)/\(∀W',Below W.heap.size W W'->Calls prog 17 #[.pointer (some ⟨x.eg,0,none⟩),.string p] W' λe w'=>∃w y F,e=.returned (.tuple #[.slice w (List.length F) y,.int .i64 V])/\Hid (Below W'.heap.size W' w'/\bJ w' w y F/\F.map FI.f=D/\(∀q,(Value.slice w F.length y).ownBlock=some q->W'.heap.size<=q)/\(∀f,f∈F->∀q,f.av.ownBlock=some q->W'.heap.size<=q)/\F.Pairwise (λa b=>∀q,a.av.ownBlock=some q->b.av.ownBlock≠some q)))/\
 ∀W',Below W.heap.size W W'->Calls prog 96 #[.pointer (some ⟨x.rg,0,none⟩),.string p] W' λe w'=>∃w y l,e=.returned (.tuple #[.slice w (List.length l) y,.int .i64 V])/\Hid (Below W'.heap.size W' w'/\bJ w' w y l/\l.map FI.f=D):=by
 obtain⟨X,q2,q3⟩:=h.ql;have i:x.s.found.length<=200:=by
  have E:=h.fS.perm.length_eq;rw[aaL]at E;rw[<-E];exact h.fS.my
 have ho:x.out.length<=200:=by
  have:=h.fS.my;rw[aaL]at this;exact this
 have M:∀W:World,bJ W none 0 []:=λW=>⟨aaM _ _ _ _,λf i=>by cases i⟩;have U:∀W',Below W.heap.size W W'->_:=λW' j=>(h.below j).p.all X i p (by omega);have O:∀W',Below W.heap.size W W'->_:=λW' j=>IA W' x.rg x.rl x.o x.pl x.Gf x.out x.bs x.rh x.qv x.pv x.gv x.mv x.cv (h.below j).r ho (λf i=>by have:=(pB h.tw.ok (h.fS.CD _ (aaN i))).2;unfold FI.f at this;simp only at this;omega) p;by_cases I:yi x.o p<0
 ·have fP:=(h.yi p).1 I;refine⟨[],6,by simp,(λf i=>by cases i),λW' j=>(U W' j).mono ?_,λW' j=>(O W' j).mono ?_⟩
  ·rintro e w' ⟨hb,⟨rfl,_⟩ | ⟨u,lb,F,A,rfl,_⟩⟩
   ·exact⟨none,0,[],rfl,hb,M _,rfl,(λq J=>by cases J),(λf i=>by cases i),List.Pairwise.nil⟩
   ·exact absurd (h.p.mem A) (fP _)
  ·rintro e w' ⟨hb,t⟩;rw[aa3 I]at t;exact⟨none,0,[],t,hb,M _,rfl⟩
 ·have Y:¬∀n,¬(p,n)∈x.Q:=λt=>I ((h.yi p).2 t);refine⟨(x.out.map FI.f).filter λf=>decide (f.1=p),0,aaK (List.length_filter_le _ _) h.fS.my,λf i=>(pB h.tw.ok (h.fS.CD _ (List.mem_filter.1 i).1)).2,λW' j=>(U W' j).mono ?_,λW' j=>(O W' j).mono ?_⟩
  ·rintro e w' ⟨hb,⟨_,t⟩ | ⟨u,lb,F,A,rfl,rfl,k1,k2,k3,k4,Z⟩⟩
   ·exact absurd t Y
   ·refine⟨some ⟨lb,0,none⟩,F.length,F,rfl,hb,k1, ?_,(λq J=>by cases J;exact k3),k4,Z⟩;rw[k2];exact h.fS.list h.tw (h.p.mem A) (h.p.jE.cK u A).qw.ord (h.p.jE.rows u A)
  ·rintro e w' ⟨hb,t⟩;rw[aaD I]at t;obtain⟨w,y,l,E,h2,h3⟩:=t;exact⟨w,y,l,E,hb,h2.KM,h3⟩
theorem WI.kept{w0 w D w4:World}{wb:Nat}{ev qv k2 k3 k4 V av M J wG nO iP ep:Value}{FP AP X Y E}{N:Nat}(h:WI w0 w wb ev qv k2 k3 k4 V av M J n FP AP E N (qV E) (qO E))(hb:Below w.heap.size w D){F}{lv:Value}(uP:Bk w4 w0.heap.size wb ev qv k2 k3 k4 wG nO iP ep (n+F.length+1) (FP++Y) (AP++X))(hY:Y.length=4)(hX:X.length=4*F.length)(hF:F.length<=200)(hk:Kb (wb::(V.ownBlock.toList++av.ownBlock.toList++M.ownBlock.toList++J.ownBlock.toList++lv.ownBlock.toList++Lw.bs F)) D w4)
 (Mb:∀q,lv.ownBlock=some q->w.heap.size<=q/\∃j fz,D.heap[q]?=some (.cells j 48 fz))(hbs:∀q,q∈Lw.bs F->w.heap.size<=q/\∃j fz,D.heap[q]?=some (.cells j 9 fz))(hfm:aZ D M iP)(ham:aZ D J ep):WI w0 w4 wb ev qv k2 k3 k4 wG nO iP ep (n+F.length+1) (FP++Y) (AP++X) E (N+1) (qV E) (qO E)/\KO D w4:=by
 have u:=h.below hb;have s0:=h.be.size;have s3:=hb.size;have cT:∀b,b∈wb::(V.ownBlock.toList++av.ownBlock.toList++M.ownBlock.toList++J.ownBlock.toList++lv.ownBlock.toList++Lw.bs F)->b=wb\/V.ownBlock=some b\/av.ownBlock=some b\/M.ownBlock=some b\/J.ownBlock=some b\/lv.ownBlock=some b\/b∈Lw.bs F:=λb hb=>by
  simpa only[BY,ZD,abh,or_assoc]using hb
 have wF:∀b,b∈wb::(V.ownBlock.toList++av.ownBlock.toList++M.ownBlock.toList++J.ownBlock.toList++lv.ownBlock.toList++Lw.bs F)->w0.heap.size<=b/\∃j t fz,D.heap[b]?=some (.cells j t fz)/\(t=77\/t=37\/t=46\/(t=9/\(M.ownBlock=some b\/J.ownBlock=some b\/w.heap.size<=b))\/(t=48/\w.heap.size<=b)):=λb hb=>by
  rcases cT b hb with rfl | hb | hb | hb | hb | hb | hb
  ·exact⟨u.bk.rows.ge,_,_,_,u.bk.rows.aY,.inl rfl⟩
  ·obtain⟨c,f,e⟩:=au u.bk.rows.fl b hb;exact⟨(u.bk.rows.fl.lt b hb).1,c,_,f,e,.inr (.inl rfl)⟩
  ·obtain⟨c,f,e⟩:=au u.bk.rows.al b hb;exact⟨(u.bk.rows.al.lt b hb).1,c,_,f,e,.inr (.inr (.inl rfl))⟩
  ·obtain⟨c,f,e⟩:=au u.bk.rows.fm b hb;exact⟨(u.bk.rows.fm.lt b hb).1,c,_,f,e,.inr (.inr (.inr (.inl ⟨rfl,.inl hb⟩)))⟩
  ·obtain⟨c,f,e⟩:=au u.bk.rows.am b hb;exact⟨(u.bk.rows.am.lt b hb).1,c,_,f,e,.inr (.inr (.inr (.inl ⟨rfl,.inr (.inl hb)⟩)))⟩
  ·grind
  ·grind
 have Z:∀{b:Nat} {j:Array Value} {t:TypeId} {fz:Nat×Nat},D.heap[b]?=some (.cells j t fz)->¬t∈[77,37,46,9,48]->¬b∈wb::(V.ownBlock.toList++av.ownBlock.toList++M.ownBlock.toList++J.ownBlock.toList++lv.ownBlock.toList++Lw.bs F):=λe hn hm=>by
  obtain⟨_,c9,t9,f9,y,A⟩:=wF _ hm;rw[e]at y;simp only[AT,aa1]at y;rw[y.2.1]at hn;rcases A with rfl | rfl | rfl | ⟨rfl,_⟩ | ⟨rfl,_⟩<;>exact hn (by simp)
 refine⟨?_,λb j t fz e A=>hk.heap e (Z e (by rcases A with rfl | rfl | rfl<;>decide))⟩;refine⟨hk.aQ u.be u.be.size (λi hi=>(wF i hi).1),uP,hk.aR u.es (λb j fz hb e=>Z e (by decide) hb),hk.aR u.qs (λb j fz hb e=>Z e (by decide) hb),λx U=>?_,h.apart,λx U q I=>?_, ?_⟩
 ·have A:=u.Ds x U;refine(A.mono (aej N)).kb hk (λb hb _=>?_) (Z A.p.aY (by decide)) (Z A.r.aY (by decide)) (λq I=>?_) (λq I hm=>?_)
  ·obtain⟨_,c9,t9,f9,y,Rx⟩:=wF b hb;refine⟨c9,t9,f9,y, ?_⟩;rcases Rx with rfl | rfl | rfl | ⟨rfl,_⟩ | ⟨rfl,_⟩<;>decide
  ·obtain⟨_,_,c9,f9,y⟩:=A.Sf.2 q I;exact Z y (by decide)
  ·have aL:q<w.heap.size:=by
    rcases(h.Ds x U).Dv q I with⟨_,_,e⟩ | ⟨_,_,e⟩<;>exact lt_of_heap e
   have gT:∀{j fz},D.heap[q]?=some (.cells j 9 fz)->tO x.rl x.Gf x.out q:=λ{j fz} e=>by
    rcases I with B | B
    ·exact B
    ·obtain⟨gd,gc,e3,g3⟩:=A.r.given;obtain⟨md,mc,e4,g4⟩:=A.r.model;rcases B with B | B
     ·obtain⟨c8,f8,e8⟩:=au g3.row q (by rw[<-e3];exact B);rw[e]at e8;simp at e8
     ·obtain⟨c8,f8,e8⟩:=au g4.row q (by rw[<-e4];exact B);rw[e]at e8;simp at e8
   obtain⟨_,c9,t9,f9,y,Rx⟩:=wF q hm;rcases Rx with rfl | rfl | rfl | ⟨rfl,O⟩ | ⟨rfl,O⟩
   ·rcases A.Dv q I with⟨_,_,e⟩ | ⟨_,_,e⟩<;>(rw[e]at y;simp at y)
   ·rcases A.Dv q I with⟨_,_,e⟩ | ⟨_,_,e⟩<;>(rw[e]at y;simp at y)
   ·rcases A.Dv q I with⟨_,_,e⟩ | ⟨_,_,e⟩<;>(rw[e]at y;simp at y)
   ·obtain⟨o1,o2⟩:=h.off x U q (gT y);rcases O with O | O | O
    ·exact o1 O
    ·exact o2 O
    ·omega
   ·omega
 ·have aL:q<D.heap.size:=by
   rcases(u.Ds x U).Dv q (.inl I)with⟨_,_,e⟩ | ⟨_,_,e⟩<;>exact lt_of_heap e
  obtain⟨o1,o2⟩:=h.off x U q I;refine⟨λe=>?_,λe=>?_⟩
  ·rcases hfm q e with B | B
   ·exact o1 B
   ·omega
  ·rcases ham q e with B | B
   ·exact o2 B
   ·omega
 ·have:=h.len;rw[If,If,hY,hX];omega
theorem L6(w0 w:World)(hT:KX w0)(wb:Nat)(ev qv k2 k3 k4 fv av bV bW:Value)(n:Nat)(FP AP E)(N:Nat)(h:WI w0 w wb ev qv k2 k3 k4 fv av bV bW n FP AP E N (qV E) (qO E))(hN:N<=100000)(k:Nat)(hk:k<E.length)(d:tJ)(hd:RY w0 d)(h5:d.kd=5):
 Calls prog 54 #[.pointer (some ⟨wb,0,none⟩),.pointer (some ⟨(E[k]).eg,0,none⟩),.pointer (some ⟨(E[k]).rg,0,none⟩),.agg d.cells] w λe w'=>e=.returned (.bool true)/\nL w0 wb ev qv k2 k3 k4 (N+1) w'/\KO w w':=by
 obtain⟨w1,U⟩:∃w1,w1=w.alloc (.cells d.cells 80):=⟨_,rfl⟩;have Z:Below w.heap.size w w1:=by rw[U];exact aM
 have HC:Hid (∀W,Below w1.heap.size w1 W->W.cell? ⟨w.heap.size,4,none⟩=some (.string d.S)/\w.heap.size<W.heap.size):=λW hW=>by
  rw[U]at hW;obtain⟨_,_,V,_,_,_,_,O⟩:=ZF hW;exact⟨V,O⟩
 have c0:w1.cell? ⟨w.heap.size,0,none⟩=some (.int .i64 5):=by
  have:=(ZF (w:=w) (d:=d) (aaj _ _)).1;rw[<-U,h5]at this;exact this
 obtain⟨V,O⟩:=HC.out w1 (aaj _ _);have hx:=(h.Ds _ (IN hk)).below Z;obtain⟨D,ec,hDl,hDa,hAA,hRA⟩:=Qj hx d.S hd.ss;have YG:Hid (Calls prog 17 #[.pointer (some ⟨(E[k]).eg,0,none⟩),.string d.S] w1 λe w'=>∃t x F,e=.returned (.tuple #[.slice t (List.length F) x,.int .i64 ec])/\Hid (Below w1.heap.size w1 w'/\bJ w' t x F/\F.map FI.f=D/\(∀q,(Value.slice t F.length x).ownBlock=some q->w1.heap.size<=q)/\(∀f,f∈F->∀q,f.av.ownBlock=some q->w1.heap.size<=q)/\F.Pairwise (λa b=>∀q,a.av.ownBlock=some q->b.av.ownBlock≠some q))):=hAA w1 (aaj _ _);have Av:=aj hRA;have A:=aj h;have ZL:Hid (D.length<=200/\∀f,f∈D->f.2.length<=3):=⟨hDl,hDa⟩;have HT:=aj hT;have vwb:=lt_of_heap h.bk.rows.aY;clear h h5 hd hx hAA hRA hDl hDa hT;unfold tJ.cells;unfold tJ.cells at U;generalize (E[k]).eg=eg at*;generalize (E[k]).rg=rg at*
 go_enter func54,ntmps54
 go_upto_region 1 with fail
 rw[<-U];clear U;obtain⟨ob,Cd⟩:∃ob,ob=w.heap.size:=⟨_,rfl⟩;rw[<-Cd]at HC c0 V O;rw[<-Cd];clear Cd
 go_upto_region 17 with(go_at_call 17;refine YG.out.mono ?_;rintro e w2 ⟨t,x,F,rfl,B⟩)
 clear c0 V O YG;obtain⟨V,O⟩:=HC.out w2 B.out.1;have MM:Hid (Calls prog 96 #[.pointer (some ⟨rg,0,none⟩),.string d.S] w2 λe w'=>∃t x l,e=.returned (.tuple #[.slice t (List.length l) x,.int .i64 ec])/\Hid (Below w2.heap.size w2 w'/\bJ w' t x l/\l.map FI.f=D)):=Av.out w2 B.out.1
 go_upto_region 18 with(go_at_call 96;refine MM.out.mono ?_;rintro e J ⟨md,mc,l,rfl,M⟩)
 clear V O MM Av HC;have Fc:Hid (Calls prog 97 #[.slice t F.length x,.slice md l.length mc] J λe w'=>e=.returned (.bool true)/\Hid (Below J.heap.size J w')):=Mu J t x F (B.out.2.1.below M.out.1) md mc l M.out.2.1 (by rw[B.out.2.2.1,M.out.2.2]);have hlF:F.length<=200:=by
  have h1:=abu List.length B.out.2.2.1;rw[aaL]at h1;rw[h1];exact ZL.out.1
 have HKP:Hid (∀I,Below J.heap.size J I->Calls prog 98 #[.pointer (some ⟨wb,5,none⟩),.slice t F.length x] I λe w'=>e=.returned (.tuple #[])/\Hid (nL w0 wb ev qv k2 k3 k4 (N+1) w'/\KO w w')):=λI jL=>by
  obtain⟨a1,a2,a3,a4,a5,a6⟩:=B.out;have lH:=B.out.1;have Ng:Below w2.heap.size w2 I:=M.out.1.trans (jL.mono M.out.1.size);have ajY:Below w1.heap.size w1 I:=lH.trans (Ng.mono lH.size);have ju:Below w.heap.size w I:=Z.trans (ajY.mono Z.size);have h4:=A.out.below ju;have s0:=A.out.be.size;have s1:=Z.size;have tq:=a2.below Ng;have aL:∀{u:Value} {T:TypeId} {j:Nat} {ys:List Value},w.ownsRow w0.heap.size T 1 u j ys->∀q,w1.heap.size<=q->u.ownBlock≠some q:=λhu q i e=>by
   obtain⟨c9,f9,e9⟩:=au hu q e;have:=lt_of_heap e9;omega
  have UH:∀f,f∈F->f.args.length<=3:=λf y=>by
   have h8:FI.f f∈F.map FI.f:=aaN y;rw[a3]at h8;exact ZL.out.2 _ h8
  refine(Ln w0 I h4.be HT.out wb ev qv k2 k3 k4 fv av bV bW n FP AP h4.bk t x F (gM tq.row (λq i=>by have:=a4 q i;omega)) (λf y=>⟨gM (tq.each f y) (λq i=>by have:=a5 f y q i;omega),by have:=UH f y;omega,λq i=>⟨aL A.out.bk.rows.fm q (a5 f y q i),aL A.out.bk.rows.am q (a5 f y q i),λp hp e=>?_⟩⟩) a6 (λq i p hp e=>?_) (by omega) (by have:=A.out.len;omega) (by have:=A.out.len;omega) (by have:=A.out.len;omega)).mono ?_
  ·have h1:=(A.out.bk.ns p hp).2.2.2 q e;have h2:=a5 f y q i;omega
  ·have h1:=(A.out.bk.fs p hp).2.2.2 q e;have h2:=a4 q i;omega
  ·rintro e w' ⟨rfl,wG,nO,iP,ep,X,Y,q1,q2,q3,q4,_,_,q7,q8⟩;have YA:=A.out.kept ju q1 q2 q3 hlF q4 (λq i=>⟨by have:=a4 q i;omega,au tq.row q i⟩) (λq i=>?_) q7 q8
   ·exact⟨rfl,⟨wG,nO,iP,ep,_,_,_,E,YA.1⟩,(KO.bD ju).trans YA.2⟩
   unfold Lw.bs at i;obtain⟨f,y,e⟩:=acz.1 i;exact⟨by have:=a5 f y q e;omega,au (tq.each f y) q e⟩
 have ant:wb<J.heap.size:=by
  have h1:=B.out.1.size;have h2:=M.out.1.size;have h3:=Z.size;omega
 clear B M A ZL HT Z
 go_upto_region 19 with(go_at_call 97;refine Fc.out.mono ?_;rintro e I ⟨rfl,H4⟩)
 clear Fc
 go_upto_region 20 with(go_at_call 98;refine(HKP.out _ H4.out).mono ?_;rintro e w5 ⟨rfl,H5⟩)
 clear HKP H4
 go_wp2_with (go_at_call 49;refine(mN).mono ?_;rintro e wz ⟨rfl,hz⟩;subst hz)
 go_ret;exact⟨by simp,H5.out⟩
/- axiomlaw: World.step, walked. -/
theorem Lm(c:Int)(n:Nat)(w)(q:-9223372036854775808<=c)(j:c<=9223372036854775807)(i:0<n)(t:n<=1000000):Calls prog 53 #[.int .i64 c,.int .i64 n] w λe w'=>∃k:Nat,k<n/\e=.returned (.int .i64 k)/\w'=w:=by
 by_cases h:c<0
 ·have hb:decide (c<0)=true:=by simpa using h
  have e:=F9 (c:=c) (n:=n) (d:=-(c+1)) (by rw[aa3 h]) i
  go_enter func53,ntmps53
  go_wp2
  go_ret;exact⟨Ax.Bp c n,Ax.FC c n i,by rw[<-e];rfl,rfl⟩
 ·have hb:decide (c<0)=false:=by simpa using h
  have e:=F9 (c:=c) (n:=n) (d:=c) (by rw[aaD h]) i
  go_enter func53,ntmps53
  go_wp2
  go_ret;exact⟨Ax.Bp c n,Ax.FC c n i,by rw[<-e];rfl,rfl⟩
def iZ(w0:World)(wb:Nat)(k2 k3 k4:Value)(N:Nat)(w':World):Prop:=∃ev qv,nL w0 wb ev qv k2 k3 k4 N w'
theorem IZ(K:Nat->Int)(w0 w:World)(O:Dg.EA w0 K)(I:gJ w0)(M:KX w0)(wb:Nat)(u qv t q j x av A y:Value)(n:Nat)(B D E)(N:Nat)(h:WI w0 w wb u qv t q j x av A y n B D E N (qV E) (qO E))(J:N<=100000)(k:Nat)(F:k<E.length)(d:tJ)(hd:RY w0 d)(i:d.kd=3\/d.kd=4\/d.kd=5):
 Calls prog 54 #[.pointer (some ⟨wb,0,none⟩),.pointer (some ⟨(E[k]).eg,0,none⟩),.pointer (some ⟨(E[k]).rg,0,none⟩),.agg d.cells] w λe w'=>e=.returned (.bool true)/\nL w0 wb u qv t q j (N+1) w'/\KO w w':=by
 rcases i with i | i | i
 ·exact EZ K w0 w O I wb u qv t q j x av A y n B D E N h J k F d hd i
 ·exact Ms w0 w I wb u qv t q j x av A y n B D E N h k F d hd i
 ·exact L6 w0 w M wb u qv t q j x av A y n B D E N h J k F d hd i
theorem QD(K:Nat->Int)(w0 w:World)(hK:Dg.EA w0 K)(hU:gJ w0)(hT:KX w0){wb:Nat}{y qv u t q x av B A:Value}(n:Nat)(F I E)(N:Nat)(h:WI w0 w wb y qv u t q x av B A n F I E N (qV E) (qO E))(hN:N<=100000)(d:tJ)(hd:RY w0 d)(h5:d.kd<=5):
 Calls prog 32 #[.pointer (some ⟨wb,0,none⟩),.agg d.cells] w λe w'=>e=.returned (.bool true)/\iZ w0 wb u t q (N+1) w':=by
 obtain⟨w1,X⟩:∃w1,w1=w.alloc (.cells d.cells 80):=⟨_,rfl⟩;have aV:Below w.heap.size w w1:=by rw[X];exact aM
 have D:Hid (∀W,Below w1.heap.size w1 W->W.heap[w.heap.size]?=some (.cells d.cells 80 (0,0))):=λW O=>by
  have h1:=By w (.cells d.cells 80);rw[<-X]at h1;rw[O.block _ (lt_of_heap h1)];exact h1
 have c0:w1.cell? ⟨w.heap.size,0,none⟩=some (.int .i64 d.kd):=by rw[aq (D.out _ (aaj _ _))];rfl
 have c4:w1.cell? ⟨w.heap.size,4,none⟩=some (.string d.S):=by rw[aq (D.out _ (aaj _ _))];rfl
 have wT:=lt_of_heap (D.out _ (aaj _ _));have H1:Hid (WI w0 w1 wb y qv u t q x av B A n F I E N (qV E) (qO E)):=h.below aV;have U:=aj hd;obtain⟨ed,ec,Z⟩:=ah h.es;have Km:(qV E).length=E.length:=by unfold qV;rw[aaL]
 have zW:(qO E).length=E.length:=by unfold qO;rw[aaL]
 rw[Km]at Z;have v0:w1.cell? ⟨wb,0,none⟩=some (.slice ed E.length ec):=by rw[aq H1.out.bk.rows.aY,<-Z];rfl
 have vl:=lt_of_heap H1.out.bk.rows.aY;have hEN:=h.len.1;clear h hd aV;obtain⟨i,Cd⟩:∃i,i=w.heap.size:=⟨_,rfl⟩;unfold tJ.cells;unfold tJ.cells at X
 go_enter func32,ntmps32
 go_upto_region 1 with fail
 rw[<-X,<-Cd];rw[<-Cd]at D c0 c4 wT;clear X Cd;by_cases k1:d.kd=1
 ·rw[k1]at c0
  go_wp2_with (go_at_call 50;refine(EJ d.S (by have:=U.out.ss;unfold maxLen;omega)).mono ?_;rintro e w2 ⟨rfl,cX⟩)
  go_ret;exact⟨rfl,y,qv,x,av,B,A,n,F,I,E,(H1.out.below cX).mono (aej N)⟩
 ·have e1:(d.kd==1)=false:=by simpa using k1
  by_cases V:d.kd=2
  ·rw[V]at c0;have HO:Hid (Calls prog 31 #[.pointer (some ⟨wb,0,none⟩),.string d.S] w1 λe w'=>e=.returned (.bool true)/\∃Qc RG E',WI w0 w' wb Qc RG u t q x av B A n F I E' (N+1) (qV E') (qO E')):=Bq K w0 w1 hK wb y qv u t q x av B A n F I E N H1.out d.S (by have:=U.out.ss;unfold maxLen;omega)
   go_wp2_with (go_at_call 31;refine HO.out.mono ?_;rintro e w2 ⟨rfl,H2⟩)
   go_ret;obtain⟨Qc,RG,E',h9⟩:=H2;exact⟨rfl,Qc,RG,x,av,B,A,n,F,I,E',h9⟩
  ·have e2:(d.kd==2)=false:=by simpa using V
   have e7:(d.kd==7)=false:=by
    have:d.kd≠7:=by omega
    simpa using this
   have e10:(d.kd==10)=false:=by
    have:d.kd≠10:=by omega
    simpa using this
   have HZ:Hid (iZ w0 wb u t q (N+1) w1):=⟨y,qv,x,av,B,A,n,F,I,E,H1.out.mono (aej N)⟩;by_cases hE:E.length=0
   ·have eE:((E.length:Int)==0)=true:=by rw[hE];rfl
    go_wp2_with fail
    go_ret;exact⟨rfl,HZ.out⟩
   ·have eE:((E.length:Int)==0)=false:=by
     have:¬(E.length:Int)=0:=by omega
     simpa using this
    by_cases k0:d.kd<1
    ·have e0:decide (d.kd<1)=true:=aap k0
     go_wp2_with fail
     go_ret;exact⟨rfl,HZ.out⟩
    ·have e0:decide (d.kd<1)=false:=aab k0;have e12:decide ((12:Int)<d.kd)=false:=aab (by omega);have e5:decide (d.kd<=5)=true:=aap h5;have c3:w1.cell? ⟨i,3,none⟩=some (.int .i64 d.wh):=by rw[aq (D.out _ (aaj _ _))];rfl
     have HPK:Hid (∀W,Calls prog 53 #[.int .i64 d.wh,.int .i64 E.length] W λe w'=>∃k:Nat,k<E.length/\e=.returned (.int .i64 k)/\w'=W):=λW=>Lm d.wh E.length W U.out.wr.1 U.out.wr.2 (by omega) (by omega)
     go_upto_region 11 with fail
     go_region_held3 (λW=>W.cell? ⟨i,3,none⟩=some (.int .i64 d.wh)/\W.cell? ⟨wb,0,none⟩=some (.slice ed E.length ec)) (go_keep) ((go_at_call 53;refine(HPK.out _).mono ?_;rintro e w3 ⟨k,hk,rfl,h3⟩;subst h3))
     obtain⟨qd,qc,Y⟩:=ah H1.out.qs;rw[zW]at Y;have v1:w1.cell? ⟨wb,1,none⟩=some (.slice qd E.length qc):=by rw[aq H1.out.bk.rows.aY,<-Y];rfl
     have j:=H1.out.es;have pR:=H1.out.qs;rw[Km,Z]at j;rw[zW,Y]at pR;obtain⟨xg,rfl,x1,x2,x3⟩:=aA j;obtain⟨yg,rfl,y1,y2,y3⟩:=aA pR;have xk:=x3 k (.pointer (some ⟨(E[k]).eg,0,none⟩)) (by unfold qV;rw[ab3,AS hk];rfl);have yk:=y3 k (.pointer (some ⟨(E[k]).rg,0,none⟩)) (by unfold qO;rw[ab3,AS hk];rfl);have dM:∀{W:World},W.heap[i]?=some (.cells d.cells 80 (0,0))->W.cell? ⟨i,0,none⟩=some (.int .i64 d.kd)/\W.cell? ⟨i,1,none⟩=some (.int .i64 d.a)/\W.cell? ⟨i,2,none⟩=some (.int .i64 d.b)/\W.cell? ⟨i,3,none⟩=some (.int .i64 d.wh)/\W.cell? ⟨i,4,none⟩=some (.string d.S)/\W.cell? ⟨i,5,none⟩=some (.string d.T)/\W.cell? ⟨i,6,none⟩=some (.string d.fp)/\W.cell? ⟨i,7,none⟩=some (.slice d.fd d.fa.length d.fc)/\W.cell? ⟨i,8,none⟩=some (.slice d.cd d.ay.length d.cc)/\W.cell? ⟨i,9,none⟩=some (.slice d.gd d.gone.length d.gc):=λ{W} e=>by
      refine⟨?_, ?_, ?_, ?_, ?_, ?_, ?_, ?_, ?_, ?_⟩<;>(rw[aq e];rfl)
     have HFC:Hid (∀W,Below w1.heap.size w1 W->Calls prog 54 #[.pointer (some ⟨wb,0,none⟩),.pointer (some ⟨(E[k]).eg,0,none⟩),.pointer (some ⟨(E[k]).rg,0,none⟩),.agg #[.int .i64 d.kd,.int .i64 d.a,.int .i64 d.b,.int .i64 d.wh,.string d.S,.string d.T,.string d.fp,.slice d.fd d.fa.length d.fc,.slice d.cd d.ay.length d.cc,.slice d.gd d.gone.length d.gc]] W λe w'=>e=.returned (.bool true)/\Hid (nL w0 wb y qv u t q (N+1) w')/\w'.cell? ⟨wb,0,none⟩=some (.slice (some ⟨xg,0,none⟩) E.length ec)/\w'.cell? ⟨xg,k,none⟩=some (.pointer (some ⟨(E[k]).eg,0,none⟩))/\w'.cell? ⟨wb,1,none⟩=some (.slice (some ⟨yg,0,none⟩) E.length qc)/\w'.cell? ⟨yg,k,none⟩=some (.pointer (some ⟨(E[k]).rg,0,none⟩))/\w'.cell? ⟨i,0,none⟩=some (.int .i64 d.kd)/\w'.cell? ⟨i,1,none⟩=some (.int .i64 d.a)/\w'.cell? ⟨i,2,none⟩=some (.int .i64 d.b)/\w'.cell? ⟨i,3,none⟩=some (.int .i64 d.wh)/\w'.cell? ⟨i,4,none⟩=some (.string d.S)/\w'.cell? ⟨i,5,none⟩=some (.string d.T)/\w'.cell? ⟨i,6,none⟩=some (.string d.fp)/\w'.cell? ⟨i,7,none⟩=some (.slice d.fd d.fa.length d.fc)/\w'.cell? ⟨i,8,none⟩=some (.slice d.cd d.ay.length d.cc)/\w'.cell? ⟨i,9,none⟩=some (.slice d.gd d.gone.length d.gc)):=λW O=>by
      refine(IZ K w0 W hK hU hT wb y qv u t q x av B A n F I E N (H1.out.below O) hN k hk d U.out (by omega)).mono ?_;rintro e w' ⟨rfl,Hi,Vt⟩;have ho:=Vt _ _ _ _ (D.out W O) (.inl rfl);obtain⟨xc,M⟩:=wg j;obtain⟨yc,J⟩:=wg pR;have SX:=Vt _ _ _ _ ((O.block _ (lt_of_heap M)).trans M) (.inr (.inl rfl));have XY:=Vt _ _ _ _ ((O.block _ (lt_of_heap J)).trans J) (.inr (.inr rfl));obtain⟨_,_,_,_,_,_,_,_,XA⟩:=id Hi;refine⟨rfl,Hi, ?_, ?_, ?_, ?_,dM ho⟩
      ·rw[aq XA.bk.rows.aY,Z];rfl
      ·rw[aq SX,<-aq M];exact xk
      ·rw[aq XA.bk.rows.aY,Y];rfl
      ·rw[aq XY,<-aq J];exact yk
     obtain⟨-,b1,b2,-,-,b5,b6,b7,b8,b9⟩:=dM (D.out _ (aaj _ _));generalize (E[k]).eg=egk at*;generalize (E[k]).rg=rgk at*;have uP:(k:Int)<E.length:=by omega
     clear x3 y3 dM HPK D H1 U j pR Z Y
     go_upto_region 13 with fail
     go_region_held3 (λW=>W.cell? ⟨wb,0,none⟩=some (.slice (some ⟨xg,0,none⟩) E.length ec)/\W.cell? ⟨xg,k,none⟩=some (.pointer (some ⟨egk,0,none⟩))/\W.cell? ⟨wb,1,none⟩=some (.slice (some ⟨yg,0,none⟩) E.length qc)/\W.cell? ⟨yg,k,none⟩=some (.pointer (some ⟨rgk,0,none⟩))/\W.cell? ⟨i,0,none⟩=some (.int .i64 d.kd)/\W.cell? ⟨i,1,none⟩=some (.int .i64 d.a)/\W.cell? ⟨i,2,none⟩=some (.int .i64 d.b)/\W.cell? ⟨i,3,none⟩=some (.int .i64 d.wh)/\W.cell? ⟨i,4,none⟩=some (.string d.S)/\W.cell? ⟨i,5,none⟩=some (.string d.T)/\W.cell? ⟨i,6,none⟩=some (.string d.fp)/\W.cell? ⟨i,7,none⟩=some (.slice d.fd d.fa.length d.fc)/\W.cell? ⟨i,8,none⟩=some (.slice d.cd d.ay.length d.cc)/\W.cell? ⟨i,9,none⟩=some (.slice d.gd d.gone.length d.gc)) (go_keep) ((go_at_call 54;refine(HFC.out _ (by exact(aaj _ _).drew.drew)).mono ?_;rintro e w5 ⟨rfl,H5,r0,r1,r2,r3,r4,r5,r6,r7,r8,r9,s1,s2,s3,s4⟩))
     go_wp2_with fail
     go_ret;exact⟨rfl,y,qv,H5.out⟩
/- Holds' arguments, read: the steps of a script. -/
section
open Go.ChangeShapes Go.WideShapes Go.RowKit Go.Deep
theorem Tryz.Oh:prog.cellsOf 3=1:=by kernel_rfl
theorem Tryz.zj:prog.cellsOf 9=1:=by kernel_rfl
theorem Tryz.Ly:prog.cellsOf 46=1:=by kernel_rfl
theorem Tryz.uk:prog.cellsOf 48=2:=by kernel_rfl
theorem Tryz.IB:prog.cellsOf 37=1:=by kernel_rfl
theorem Tryz.J7:prog.cellsOf 80=10:=by kernel_rfl
structure abf{H:Type}(b:DataW H->Nat):Prop where
 str:∀l,l.length<=b (.lit (.string l))
 one:∀d,1<=b d
 slice:∀es sp,(es.map b).sum<=b (.slice es sp)
 agg:∀l,(l.map b).sum+1<=b (.agg l)
theorem Su{l:List Nat}{x:Nat}(h:x∈l):x<=l.sum:=by
 induction l with
 | nil=>cases h
 | cons y r ih=>
  rw[aee];rcases BY.1 h with rfl | h
  ·omega
  ·have:=ih h;omega
theorem SQ{l:List Nat}{c:Nat}(h:∀x,x∈l->c<=x):l.length*c<=l.sum:=by
 induction l with
 | nil=>simp
 | cons y r ih=>
  rw[aee,abL,Nat.succ_mul];have j:=ih (λx e=>h x (adr _ e));have i:=h y (List.mem_cons_self ..);omega
theorem El{H}{enc:TypeId×Value->H}{P W base}{spare:Nat->Bool}{held t D B A y w u q j i fuel x}(X:P.underlying t=some (.struct #[D,B,A,y,w,u,q,j,i]))(h:DataW.trod enc P W base spare held fuel t cs=some x):
 ∃V U O N M J I F E n,x.1=.agg [V.1,U.1,O.1,N.1,M.1,J.1,I.1,F.1,E.1]/\cs.length=P.cellsOf t/\DataW.trod enc P W base spare held n D.type ((cs.drop D.offset).take (P.cellsOf D.type))=some V/\DataW.trod enc P W base spare held n B.type ((cs.drop B.offset).take (P.cellsOf B.type))=some U/\DataW.trod enc P W base spare held n A.type ((cs.drop A.offset).take (P.cellsOf A.type))=some O/\DataW.trod enc P W base spare held n y.type ((cs.drop y.offset).take (P.cellsOf y.type))=some N/\DataW.trod enc P W base spare held n w.type ((cs.drop w.offset).take (P.cellsOf w.type))=some M/\DataW.trod enc P W base spare held n u.type ((cs.drop u.offset).take (P.cellsOf u.type))=some J/\DataW.trod enc P W base spare held n q.type ((cs.drop q.offset).take (P.cellsOf q.type))=some I/\DataW.trod enc P W base spare held n j.type ((cs.drop j.offset).take (P.cellsOf j.type))=some F/\DataW.trod enc P W base spare held n i.type ((cs.drop i.offset).take (P.cellsOf i.type))=some E:=by
 obtain⟨xs,n,_,rfl,Y,hlen,e⟩:=DataW.trod_struct X h
 match xs,hlen with
 | [V,U,O,N,M,J,I,F,E],_=>exact⟨V,U,O,N,M,J,I,F,E,n,by simp,Y,by simpa using e 0 D rfl,by simpa using e 1 B rfl,by simpa using e 2 A rfl,by simpa using e 3 y rfl,by simpa using e 4 w rfl,by simpa using e 5 u rfl,by simpa using e 6 q rfl,by simpa using e 7 j rfl,by simpa using e 8 i rfl⟩
section
variable {H:Type} {enc:TypeId × Value->H} {W:World} {held:Bool} {b:DataW H->Nat}
theorem Pe(hb:abf b){α:Type}(d:α){t e sz fuel x}(ht:prog.underlying t=some (.slice e))(I:prog.cellsOf e=sz)(h:DataW.trod enc prog W 0 (λ_=>true) held fuel t cs=some x)
 (c)(Q:List Value->α->Prop)(V:∀n q y,DataW.trod enc prog W 0 (λ_=>true) held n e q=some y->b y.1<=b x.1->c<=b y.1/\∃a,Q q a)(M6:0<sz:=by decide):
 ∃ad cap,∃l:List α,cs=[.slice ad l.length cap]/\l.length*c<=b x.1/\l.length<=b x.1/\l.length<=cap/\cap<=maxLen/\
  ∀k (B:k<l.length),∃g o,ad=some ⟨g,o,none⟩/\g<W.heap.size/\∃q,q.length=sz/\(∀j,j<sz->W.cell? ⟨g,o+k*sz+j,none⟩=q[j]?)/\Q q l[k]:=by
 rcases open_slice ht h with⟨rfl,_⟩ | ⟨a,len,cap,m,n,D,Pl,rfl,_,hl,hm,Y,hx,F⟩
 ·exact⟨none,0,[],rfl,by simp,IS _,OF _,IS _,λk B=>absurd B (Nat.not_lt_zero _)⟩
 ·simp only[if_true]at Y;subst Y;rw[I]at F;have arv:Inhabited α:=⟨d⟩;have hs:=hb.slice ((List.range len).map D) ((List.range (m-len)).map λj=>D (len+j));have ex:b x.1=b (.slice ((List.range len).map D) ((List.range (m-len)).map λj=>D (len+j))):=by rw[hx]
  rw[<-ex]at hs;have X:∀i,i<len->b (D i)<=b x.1:=λi u=>aaK (Su (aaN (aaN (List.mem_range.2 u)))) hs;obtain⟨f,U⟩:=choose_lt (α:=α) (n:=len) (p:=λi y=>∃q,W.cells? 0 (a.add (i*sz)) sz=some q/\Q q y) (λi u=>by
   obtain⟨q,w,A⟩:=F i (by omega);obtain⟨y,hy⟩:=(V _ _ _ A (X i u)).2;exact⟨y,q,w,hy⟩)
  have M:∀i,i<len->c<=b (D i):=λi u=>by
   obtain⟨q,w,A⟩:=F i (by omega);exact(V _ _ _ A (X i u)).1
  have hlen:((List.range len).map f).length=len:=by simp
  have O:∀E,(∀i,i<len->E<=b (D i))->len*E<=b x.1:=λE h9=>by
   have:=SQ (l:=((List.range len).map D).map b) (c:=E) (λy hy=>by
    obtain⟨z,hz,rfl⟩:=aax.1 hy;obtain⟨i,u,rfl⟩:=aax.1 hz;exact h9 i (List.mem_range.1 u))
   simp only[aaL,List.length_range]at this;omega
  have w:=O 1 (λi _=>hb.one _);refine⟨some a,m,(List.range len).map f,by rw[hlen],by rw[hlen];exact O c M,by rw[hlen];omega,by rw[hlen];exact hl,hm, ?_⟩;intro k B;have nj:k<len:=by simpa using B
  obtain⟨g,o,Z⟩:=a;obtain⟨Yy,hg⟩:Z=none/\g<W.heap.size:=by
   obtain⟨q,w,_⟩:=U 0 (by omega);obtain⟨_,hlen,M⟩:=World.cells?_some w;have:=M 0 M6;rw[AS (by omega)]at this;exact⟨by simpa [Addr.add]using World.cell?_spot this,by simpa [Addr.add]using abg W _ this⟩
  subst Yy;obtain⟨q,w,A⟩:=U k nj;obtain⟨_,N,J⟩:=World.cells?_some w;refine⟨g,o,rfl,hg,q,N,λj hj=>?_,by simpa using A⟩;rw[<-J j hj,Addr.add_lit,Addr.add_lit]
theorem wV(hb:abf b){y}(h:DataW.trod enc prog W 0 (λ_=>true) held n 9 cs=some y):∃s:ByteArray,cs=[.string s]/\s.size<=b y.1:=by
 obtain⟨s,e,rfl,_⟩:=DataW.trod_string abK h;refine⟨s,e, ?_⟩;have:=hb.str s.data.toList;simpa using this
theorem adB(hb:abf b){y}(h:DataW.trod enc prog W 0 (λ_=>true) held n 46 cs=some y):∃d c,∃l:List ByteArray,cs=[.slice d l.length c]/\dr W (.slice d l.length c) l/\l.length<=b y.1/\∀a,a∈l->a.size<=b y.1:=by
 obtain⟨ad,cap,l,e,_,x,E,w,u⟩:=Pe hb (⟨#[]⟩:ByteArray) ab2 Tryz.zj h 1 (λcs a=>cs=[.string a]/\a.size<=b y.1) (λ_ _ _ hy i=>by
  obtain⟨s,e,hs⟩:=wV hb hy;exact⟨hb.one _,s,e,aaK hs i⟩)
 refine⟨ad,cap,l,e,⟨by unfold maxLen at w;omega,ad,cap,rfl,λk j=>?_⟩,x,λa t=>?_⟩
 ·grind
 ·obtain⟨k,j,rfl⟩:=acf t;obtain⟨g,o,F,B,I,_,D,A,q⟩:=u k j;exact q
def Tj(B:Nat)(f:FI):Prop:=f.pred.size<=B/\f.args.length<=B/\∀a,a∈f.args->a.size<=B
theorem Tj.mono{B C f}(h:Tj B f)(e:B<=C):Tj C f:=by grind [Tj]
theorem eL(hb:abf b){y}(h:DataW.trod enc prog W 0 (λ_=>true) held n 48 cs=some y):3<=b y.1/\∃(f:FI) (d:Option Addr) (c:Nat),cs=[.string f.pred,f.av]/\f.av=.slice d f.args.length c/\dr W f.av f.args/\Tj (b y.1) f:=by
 obtain⟨i,e,m,rfl,t,q,j⟩:=trod_struct2 Tryz.underlying48 h;rw[Tryz.uk]at t;have hs:=hb.agg [i.1,e.1];have J:=hb.one i.1;have I:=hb.one e.1;simp only[abn,adp,aee,List.sum_nil]at hs
 match cs,t with
 | [c0,c1],_=>
  rw[Tryz.zj]at q;rw[Tryz.Ly]at j;obtain⟨s,E,M⟩:=wV hb q;obtain⟨d,c,l,D,B,F,u⟩:=adB hb j;have x:c0=.string s:=by simpa using E
  have w:c1=.slice d l.length c:=by simpa using D
  subst x w;refine⟨by simp only;omega,⟨s,l,.slice d l.length c⟩,d,c,rfl,rfl,B, ?_, ?_,λa A=>?_⟩
  ·simp only;omega
  ·simp only;omega
  ·have:=u a A;simp only;omega
theorem dK(hb:abf b){y}(h:DataW.trod enc prog W 0 (λ_=>true) held n 37 cs=some y):∃d c,∃l:List FI,cs=[.slice d l.length c]/\eV W d c l/\l.length<=b y.1/\∀f,f∈l->Tj (b y.1) f:=by
 obtain⟨ad,cap,l,e,_,J,I,F,A⟩:=Pe hb (⟨⟨#[]⟩,[],.int .i64 0⟩:FI) abX Tryz.uk h 1 (λcs f=>cs=[.string f.pred,f.av]/\dr W f.av f.args/\Tj (b y.1) f) (λ_ _ _ hy w=>by
  obtain⟨_,f,d,c,e,_,hs,j⟩:=eL hb hy;exact⟨hb.one _,f,e,hs,j.mono w⟩)
 refine⟨ad,cap,l,e,⟨by unfold maxLen at F;omega,λ{k} i=>?_,λf j=>?_⟩,J,λf j=>?_⟩
 ·obtain⟨g,o,B,x,E,_,q,u,t⟩:=A k i;subst u;exact⟨g,o,B,x,I,q 0 (by decide),q 1 (by decide)⟩
 ·obtain⟨k,i,rfl⟩:=acf j;obtain⟨g,o,B,x,E,_,q,u,t,D⟩:=A k i;exact t
 ·obtain⟨k,i,rfl⟩:=acf j;obtain⟨g,o,B,x,E,_,q,u,t,D⟩:=A k i;exact D
theorem Uq{y}(h:DataW.trod enc prog W 0 (λ_=>true) held n 3 cs=some y):∃z:Int,cs=[.int .i64 z]/\-9223372036854775808<=z/\z<=9223372036854775807:=by
 obtain⟨z,e,_,i⟩:=DataW.trod_int ade h;simp[Lit.wf,IntKind.min,IntKind.max,IntKind.signed,IntKind.bits]at i;grind
theorem opB(hb:abf b){y}(h:DataW.trod enc prog W 0 (λ_=>true) held n 80 cs=some y):12<=b y.1/\∃d:tJ,cs=d.cells.toList/\(b y.1<=1048576->RY W d):=by
 obtain⟨y0,y1,y2,y3,y4,Z,y6,Y,X,m,i,hl,I,F,E,D,A,w,u,t,q⟩:=El Tryz.underlying80 h;rw[Tryz.J7]at hl;rw[i]
 match cs,hl with
  | [c0,c1,c2,c3,c4,c5,c6,c7,c8,c9],_=>
   clear h;have hs:=hb.agg [y0.1,y1.1,y2.1,y3.1,y4.1,Z.1,y6.1,Y.1,X.1];have o0:=hb.one y0.1;have o1:=hb.one y1.1;have o2:=hb.one y2.1;have o3:=hb.one y3.1;have o4:=hb.one y4.1;have o5:=hb.one Z.1;have o7:=hb.one Y.1;have o8:=hb.one X.1;simp only[abn,adp,aee,List.sum_nil]at hs;rw[Tryz.Oh]at I F E D;rw[Tryz.zj]at A w;rw[Tryz.uk]at u;rw[Tryz.IB]at t q;obtain⟨V,e0,_⟩:=Uq I;obtain⟨U,e1,_⟩:=Uq F;obtain⟨O,e2,_⟩:=Uq E;obtain⟨N,e3,r3⟩:=Uq D;obtain⟨s4,e4,b4⟩:=wV hb A;obtain⟨s5,e5,b5⟩:=wV hb w;obtain⟨b6,f,fd,fc,e6,av,hS,M⟩:=eL hb u;obtain⟨cd,cc,ay,e7,hC,l7,q7⟩:=dK hb t;obtain⟨gd,gc,gone,e8,hG,l8,q8⟩:=dK hb q;clear I F E D A w u t q;have k0:c0=.int .i64 V:=by simpa using e0
   have k1:c1=.int .i64 U:=by simpa using e1
   have k2:c2=.int .i64 O:=by simpa using e2
   have k3:c3=.int .i64 N:=by simpa using e3
   have k4:c4=.string s4:=by simpa using e4
   have k5:c5=.string s5:=by simpa using e5
   have J:c6=.string f.pred/\c7=f.av:=by simpa using e6
   have k8:c8=.slice cd ay.length cc:=by simpa using e7
   have k9:c9=.slice gd gone.length gc:=by simpa using e8
   obtain⟨J,k7⟩:=J;rw[av]at k7 hS;subst k0 k1 k2 k3 k4 k5 J k7 k8 k9;refine⟨by omega,⟨V,U,O,N,s4,s5,f.pred,f.args,fd,fc,ay,cd,cc,gone,gd,gc⟩,rfl,λh9=>?_⟩;have j:∀{l:List FI} {B:Nat},B<=1048576->(∀f,f∈l->Tj B f)->∀f,f∈l->Tj 1048576 f:=λhB h1 f e=>(h1 f e).mono hB;have C:=j (by omega) q7;have G:=j (by omega) q8;exact⟨⟨hC,by simp only;omega,λf e=>(C f e).2.1,λf e x i=>by have:=(C f e).2.2 x i;omega⟩,⟨hG,by simp only;omega,λf e=>(G f e).2.1,λf e x i=>by have:=(G f e).2.2 x i;omega⟩,hS,by have:=M.2.1;simp only;omega,λa ha=>by have:=M.2.2 a ha;omega,by simp only;omega,by have:=M.1;simp only;omega,r3,λf e=>⟨(C f e).1,(C f e).2.2⟩,λf e=>⟨(G f e).1,(G f e).2.2⟩⟩
structure ScA(w:World)(d:Option Addr)(c:Nat)(l:List tJ):Prop where
 my:l.length<=87381
 cap:l.length<=c
 ok:∀x,x∈l->RY w x
 at_:∀{k:Nat} (hk:k<l.length),∃g o,d=some ⟨g,o,none⟩/\g<w.heap.size/\∀j,j<10->w.cell? ⟨g,o+k*10+j,none⟩=(l[k]).cells.toList[j]?
theorem TW(hb:abf b){y}(h:DataW.trod enc prog W 0 (λ_=>true) held n 22 cs=some y)(w:b y.1<=1048576):∃d c,∃l:List tJ,cs=[.slice d l.length c]/\ScA W d c l:=by
 obtain⟨ad,cap,l,e,I,_,B,F,A⟩:=Pe hb (⟨0,0,0,0,⟨#[]⟩,⟨#[]⟩,⟨#[]⟩,[],none,0,[],none,0,[],none,0⟩:tJ) Tryz.underlying22 Tryz.J7 h 12 (λcs d=>cs=d.cells.toList/\RY W d) (λ_ _ _ hy j=>by
  obtain⟨q,d,e,i⟩:=opB hb hy;exact⟨q,d,e,i (aaK j w)⟩)
 refine⟨ad,cap,l,e,by omega,B,λx u=>?_,λ{k} t=>?_⟩
 ·obtain⟨k,t,rfl⟩:=acf u;obtain⟨g,o,J,D,M,_,E,q,i⟩:=A k t;exact i
 ·grind
end
end
variable{k:Nat}{w:World}
section
variable {w:World} {B wb:Nat} {e0 e1 e2 e3 e4:Value} {fd ad fmd amd:Option Addr} {fc ac ZV Zg x0 x1 x2 x3 n:Nat} {FP AP:List fh}
theorem Bk.ac4(h:Bk w B wb e0 e1 e2 e3 e4 (.slice fd x0 fc) (.slice ad x1 ac) (.slice fmd x2 ZV) (.slice amd x3 Zg) n FP AP){i}(t:i<FP.length):∃j e,fd=some ⟨j,0,none⟩/\fmd=some ⟨e,0,none⟩/\FP.length<=fc/\FP.length<=ZV/\j<w.heap.size/\e<w.heap.size/\w.cell? ⟨j,i,none⟩=some (.slice (FP[i]).d (FP[i]).n (FP[i]).c)/\w.cell? ⟨e,i,none⟩=some (.string (FP[i]).m):=by
 obtain⟨_,_,e1⟩:=ah h.rows.fl;obtain⟨_,_,e2⟩:=ah h.rows.fm;have D:=h.rows.fl;have A:=h.rows.fm;simp only[abi]at e1 e2;obtain⟨_,rfl,_⟩:=e1;obtain⟨_,rfl,_⟩:=e2;obtain⟨j,rfl,F,u,E⟩:=aA D (by simp;omega);obtain⟨e,rfl,y,q,x⟩:=aA A (by simp;omega);simp only[aaL]at u q;refine⟨j,e,rfl,rfl,u,q,F,y,E i _ ?_,x i _ ?_⟩
 ·rw[ab3,AS t];rfl
 ·rw[ab3,AS t];rfl
theorem Bk.acL(h:Bk w B wb e0 e1 e2 e3 e4 (.slice fd x0 fc) (.slice ad x1 ac) (.slice fmd x2 ZV) (.slice amd x3 Zg) n FP AP){i}(t:i<AP.length):∃j e,ad=some ⟨j,0,none⟩/\amd=some ⟨e,0,none⟩/\AP.length<=ac/\AP.length<=Zg/\j<w.heap.size/\e<w.heap.size/\w.cell? ⟨j,i,none⟩=some (.slice (AP[i]).d (AP[i]).n (AP[i]).c)/\w.cell? ⟨e,i,none⟩=some (.string (AP[i]).m):=by
 obtain⟨_,_,e1⟩:=ah h.rows.al;obtain⟨_,_,e2⟩:=ah h.rows.am;have D:=h.rows.al;have A:=h.rows.am;simp only[abi]at e1 e2;obtain⟨_,rfl,_⟩:=e1;obtain⟨_,rfl,_⟩:=e2;obtain⟨j,rfl,F,u,E⟩:=aA D (by simp;omega);obtain⟨e,rfl,y,q,x⟩:=aA A (by simp;omega);simp only[aaL]at u q;refine⟨j,e,rfl,rfl,u,q,F,y,E i _ ?_,x i _ ?_⟩
 ·rw[ab3,AS t];rfl
 ·rw[ab3,AS t];rfl
end
theorem NC.at{p:fh}(h:NC w p)(j:k<p.n):∃g,p.d=some ⟨g,0,none⟩/\g<w.heap.size/\w.cell? ⟨g,k*2,none⟩=some (.string p.m)/\w.cell? ⟨g,k*2+1,none⟩=some (.slice none 0 0):=by
 obtain⟨g,u,e,i,t,q⟩:=h.2.2.1 k j;exact⟨g,e,lt_of_heap i,by rw[aq i];exact t,by rw[aq i];exact q⟩
theorem NB.at{p:fh}(h:NB w p)(j:k<p.n):∃g,p.d=some ⟨g,0,none⟩/\g<w.heap.size/\w.cell? ⟨g,k,none⟩=some (.string p.m):=by
 obtain⟨g,t,e,i,q⟩:=h.2.2.1 k j;exact⟨g,e,lt_of_heap i,by rw[aq i];exact q⟩
theorem Ri(w){B wb:Nat}{e0 e1 e2 e3 e4 fv av bV bW}(n:Nat)(FP AP:List fh)(h:Bk w B wb e0 e1 e2 e3 e4 fv av bV bW n FP AP)(hF:FP.length<=1000000000)(hA:AP.length<=1000000000):
 Calls prog 33 #[.pointer (some ⟨wb,5,none⟩)] w λe w'=>e=.returned (.bool true)/\Below w.heap.size w w':=by
 obtain⟨fd,fc,e5⟩:=ah h.rows.fl;obtain⟨ad,ac,e6⟩:=ah h.rows.al;obtain⟨fmd,ZV,e7⟩:=ah h.rows.fm;obtain⟨amd,Zg,e8⟩:=ah h.rows.am;simp only[aaL]at e5 e6 e7 e8;subst e5 e6 e7 e8;have A:Hid (∀W,Below w.heap.size w W->Bk W B wb e0 e1 e2 e3 e4 (.slice fd FP.length fc) (.slice ad AP.length ac) (.slice fmd FP.length ZV) (.slice amd AP.length Zg) n FP AP):=λW hW=>h.below hW;clear h
 go_enter func33,ntmps33
 go_wp2_with fail
 go_loopw [3] (λi wr=>∃k:Nat,k<=FP.length/\i=.int .i64 k/\Hid (Below w.heap.size w wr)) (λi _=>FP.length-(intOf i).toNat)
 ·exact⟨0,IS _,rfl,aaj _ _⟩
 ·
  rename World=>wo;obtain⟨i,hi,rfl,u⟩:=hrel;obtain⟨I,M,H,F,-,-,E⟩:=(A.out _ u.out).rows.cells;by_cases y:i<FP.length
  ·have V:decide ((i:Int)<FP.length)=true:=aap (by omega);clear M H F
   go_wp2_with fail
   clear I E
   go_loopw [4] (λj wr=>∃k:Nat,k<=(FP[i]).n/\j=.int .i64 k/\Hid (Below w.heap.size w wr)) (λj _=>(FP[i]).n-(intOf j).toNat)
   ·exact⟨0,IS _,rfl,u.out⟩
   ·
    obtain⟨k,Z,rfl,q⟩:=hrel;clear u;obtain⟨I,-,H,-,-,-,E⟩:=(A.out _ q.out).rows.cells;obtain⟨O,N,rfl,rfl,g1,g2,g3,g4,g5,g6⟩:=(A.out _ q.out).ac4 y;have t:Hid (NC wr FP[i]):=(A.out _ q.out).fs _ (IN y);have Mw:=t.out.1;have D:=t.out.2.1;generalize FP[i]=p at*;obtain⟨d1,n1,c1,x⟩:=p;simp only at Z g5 g6 Mw D;have hbi:(i:Int)<FP.length:=by omega
    by_cases U:k<n1
    ·have X:decide ((k:Int)<n1)=true:=aap (by omega);obtain⟨J,e,l1,l2,l3⟩:=t.out.at (k:=k) U;simp only at e l2;subst e;have uP:(k:Int)<n1:=by omega
     have iu:(x.toList==x.toList)=true:=beq_self_eq_true _;have Y:IntKind.i64.wrap ((k:Int)+1)=(k:Int)+1:=by rw[aaR];omega
     clear t
     go_upto_region 7 with fail
     go_region_held3 (λW=>W.cell? ⟨wb,5,none⟩=some (.slice (some ⟨O,0,none⟩) FP.length fc)/\W.cell? ⟨O,i,none⟩=some (.slice (some ⟨J,0,none⟩) n1 c1)/\W.cell? ⟨J,k*2,none⟩=some (.string x)/\W.cell? ⟨J,k*2+1,none⟩=some (.slice none 0 0)/\W.cell? ⟨wb,7,none⟩=some (.slice (some ⟨N,0,none⟩) FP.length ZV)/\W.cell? ⟨N,i,none⟩=some (.string x)) (go_keep) (fail)
     go_wp2_with fail
     go_roundw
     ·exact⟨k+1,U,by go_num,q.out.drew⟩
     ·(simp[intOf];omega)
    ·have X:decide ((k:Int)<n1)=false:=aab (by omega);have XA:IntKind.i64.wrap ((i:Int)+1)=(i:Int)+1:=by rw[aaR];omega
     clear t
     go_wp2_with fail
     go_roundw
     ·exact⟨i+1,y,by go_num,q.out⟩
     ·(simp[intOf];omega)
  ·have V:decide ((i:Int)<FP.length)=false:=aab (by omega);clear M H F
   go_wp2_with fail
   clear I E
   go_loopw [5] (λi wr=>∃k:Nat,k<=AP.length/\i=.int .i64 k/\Hid (Below w.heap.size w wr)) (λi _=>AP.length-(intOf i).toNat)
   ·exact⟨0,IS _,rfl,u.out⟩
   ·
    clear u V y;obtain⟨i,hi,rfl,u⟩:=hrel;obtain⟨I,M,H,F,-,-,E⟩:=(A.out _ u.out).rows.cells;by_cases y:i<AP.length
    ·have V:decide ((i:Int)<AP.length)=true:=aap (by omega);clear I H F
     go_wp2_with fail
     clear M E
     go_loopw [6] (λj wr=>∃k:Nat,k<=(AP[i]).n/\j=.int .i64 k/\Hid (Below w.heap.size w wr)) (λj _=>(AP[i]).n-(intOf j).toNat)
     ·exact⟨0,IS _,rfl,u.out⟩
     ·
      obtain⟨k,Z,rfl,q⟩:=hrel;clear u;obtain⟨-,M,-,F,-,-,E⟩:=(A.out _ q.out).rows.cells;obtain⟨O,N,rfl,rfl,g1,g2,g3,g4,g5,g6⟩:=(A.out _ q.out).acL y;have t:Hid (NB wr AP[i]):=(A.out _ q.out).ns _ (IN y);have Mw:=t.out.1;have D:=t.out.2.1;generalize AP[i]=p at*;obtain⟨d1,n1,c1,x⟩:=p;simp only at Z g5 g6 Mw D;have hbi:(i:Int)<AP.length:=by omega
      by_cases U:k<n1
      ·have X:decide ((k:Int)<n1)=true:=aap (by omega);obtain⟨J,e,l1,l2⟩:=t.out.at (k:=k) U;simp only at e l2;subst e;have uP:(k:Int)<n1:=by omega
       have iu:(x.toList==x.toList)=true:=beq_self_eq_true _;have Y:IntKind.i64.wrap ((k:Int)+1)=(k:Int)+1:=by rw[aaR];omega
       clear t
       go_upto_region 15 with fail
       go_region_held3 (λW=>W.cell? ⟨wb,6,none⟩=some (.slice (some ⟨O,0,none⟩) AP.length ac)/\W.cell? ⟨O,i,none⟩=some (.slice (some ⟨J,0,none⟩) n1 c1)/\W.cell? ⟨J,k,none⟩=some (.string x)/\W.cell? ⟨wb,8,none⟩=some (.slice (some ⟨N,0,none⟩) AP.length Zg)/\W.cell? ⟨N,i,none⟩=some (.string x)) (go_keep) (fail)
       go_wp2_with fail
       go_roundw
       ·exact⟨k+1,U,by go_num,q.out.drew⟩
       ·(simp[intOf];omega)
      ·have X:decide ((k:Int)<n1)=false:=aab (by omega);have XA:IntKind.i64.wrap ((i:Int)+1)=(i:Int)+1:=by rw[aaR];omega
       clear t
       go_wp2_with fail
       go_roundw
       ·exact⟨i+1,y,by go_num,q.out⟩
       ·(simp[intOf];omega)
    ·have V:decide ((i:Int)<AP.length)=false:=aab (by omega);clear I H F
     go_wp2_with fail
     go_ret;exact⟨rfl,u.out⟩
/- axiomlaw: plays and Holds, walked. -/
def wZ:Array Value:=#[.slice none 0 0,.slice none 0 0,.string ⟨#[]⟩,.int .i64 0,.int .i64 0,.slice none 0 0,.slice none 0 0,.slice none 0 0,.slice none 0 0,.int .i64 0]
theorem WI.zero(w0):WI w0 (w0.alloc (.cells wZ 77)) w0.heap.size (.slice none 0 0) (.slice none 0 0) (.string ⟨#[]⟩) (.int .i64 0) (.int .i64 0) (.slice none 0 0) (.slice none 0 0) (.slice none 0 0) (.slice none 0 0) 0 [] [] [] 0 (qV []) (qO []):=by
 have t:=By w0 (.cells wZ 77);have nil:∀{T:TypeId},(w0.alloc (.cells wZ 77)).ownsRow w0.heap.size T 1 (.slice none 0 0) 0 []:=λ{T}=>aaM _ _ _ _;exact⟨aM,⟨⟨t,nil,nil,nil,nil,(λq j=>by cases j),OF _⟩,(λp e=>by cases e),(λp e=>by cases e),(λp e=>by cases e)⟩,nil,nil,(λx i=>by cases i),List.Pairwise.nil,(λx i=>by cases i),⟨OF _,OF _,OF _,OF _⟩⟩
theorem ScA.cells{w0 d c l}(h:ScA w0 d c l)(t:Below w0.heap.size w0 w)(u:k<l.length):∃g o,d=some ⟨g,o,none⟩/\g<w.heap.size/\w.cell? ⟨g,o+k*10,none⟩=some (.int .i64 (l[k]).kd)/\w.cell? ⟨g,o+k*10+1,none⟩=some (.int .i64 (l[k]).a)/\w.cell? ⟨g,o+k*10+2,none⟩=some (.int .i64 (l[k]).b)/\w.cell? ⟨g,o+k*10+3,none⟩=some (.int .i64 (l[k]).wh)/\w.cell? ⟨g,o+k*10+4,none⟩=some (.string (l[k]).S)/\w.cell? ⟨g,o+k*10+5,none⟩=some (.string (l[k]).T)/\w.cell? ⟨g,o+k*10+6,none⟩=some (.string (l[k]).fp)/\w.cell? ⟨g,o+k*10+7,none⟩=some (.slice (l[k]).fd (l[k]).fa.length (l[k]).fc)/\w.cell? ⟨g,o+k*10+8,none⟩=some (.slice (l[k]).cd (l[k]).ay.length (l[k]).cc)/\w.cell? ⟨g,o+k*10+9,none⟩=some (.slice (l[k]).gd (l[k]).gone.length (l[k]).gc):=by
 obtain⟨g,o,e,q,y⟩:=h.at_ u;have i:∀j,j<10->w.cell? ⟨g,o+k*10+j,none⟩=(l[k]).cells.toList[j]?:=λj x=>by rw[<-y j x,t.cell q]
 exact⟨g,o,e,aa7 q t.size,i 0 (by decide),i 1 (by decide),i 2 (by decide),i 3 (by decide),i 4 (by decide),i 5 (by decide),i 6 (by decide),i 7 (by decide),i 8 (by decide),i 9 (by decide)⟩
theorem iZ.mono{w0 wb j i e N q}(h:iZ w0 wb j i e N w)(u:N<=q):iZ w0 wb j i e q w:=by
 obtain⟨y,qv,x,av,D,A,n,FP,AP,E,t⟩:=h;exact⟨y,qv,x,av,D,A,n,FP,AP,E,t.mono u⟩
theorem Nq(K:Nat->Int)(w0:World)(x:Dg.EA w0 K)(V:gJ w0)(W:KX w0)(text:ByteArray)(ht:text.size<=1048576)(M)(O:Nat)(l)(h:ScA w0 M O l):
 Calls prog 12 #[.string text,.slice M l.length O,.int .i64 5] w0 λe w'=>e=.returned (.bool true)/\Below w0.heap.size w0 w':=by
 have Z:Hid (Calls prog 31 #[.pointer (some ⟨w0.heap.size,0,none⟩),.string text] (w0.alloc (.cells wZ 77)) λe w'=>e=.returned (.bool true)/\Hid (iZ w0 w0.heap.size (.string ⟨#[]⟩) (.int .i64 0) (.int .i64 0) 1 w')):=by
  refine(Bq K w0 _ x _ _ _ _ _ _ _ _ _ _ _ _ _ _ _ (WI.zero w0) text eI).mono ?_;rintro e w' ⟨rfl,t,qv,E,j⟩;exact⟨rfl,t,qv,_,_,_,_,_,_,_,E,j⟩
 have HS:Hid (∀w N d,iZ w0 w0.heap.size (.string ⟨#[]⟩) (.int .i64 0) (.int .i64 0) N w->N<=100000->RY w0 d->d.kd<=5->Calls prog 32 #[.pointer (some ⟨w0.heap.size,0,none⟩),.agg d.cells] w λe w'=>e=.returned (.bool true)/\Hid (iZ w0 w0.heap.size (.string ⟨#[]⟩) (.int .i64 0) (.int .i64 0) (N+1) w')):=λw N d q X hd y=>by
  obtain⟨t,qv,A,av,F,D,n,FP,AP,E,j⟩:=q;exact QD K w0 w x V W n FP AP E N j X d hd y
 have I:Hid (∀w N,iZ w0 w0.heap.size (.string ⟨#[]⟩) (.int .i64 0) (.int .i64 0) N w->N<=100001->Calls prog 33 #[.pointer (some ⟨w0.heap.size,5,none⟩)] w λe w'=>e=.returned (.bool true)/\Hid (iZ w0 w0.heap.size (.string ⟨#[]⟩) (.int .i64 0) (.int .i64 0) N w')):=λw N q X=>by
  obtain⟨t,qv,A,av,F,D,n,FP,AP,E,j⟩:=q;have hl:=j.len;refine(Ri w n FP AP j.bk (by omega) (by omega)).mono ?_;rintro e w' ⟨rfl,hb⟩;exact⟨rfl,t,qv,A,av,F,D,n,FP,AP,E,j.below hb⟩
 have J:Hid (∀w N,iZ w0 w0.heap.size (.string ⟨#[]⟩) (.int .i64 0) (.int .i64 0) N w->Below w0.heap.size w0 w/\w0.heap.size<w.heap.size):=λw N q=>by
  obtain⟨t,qv,A,av,F,D,n,FP,AP,E,j⟩:=q;exact⟨j.be,lt_of_heap j.bk.rows.aY⟩
 have HC:=aj h;have hlen:=h.my;clear h x V W
 go_enter func12,ntmps12
 go_upto_region 2 with fail
 go_upto_region 3 with(go_at_call 31;refine Z.out.mono ?_;rintro e w1 ⟨rfl,H1⟩)
 clear Z
 go_wp2_with fail
 go_loopw [9] (λiv wr=>∃i:Nat,i<=l.length/\iv=.int .i64 i/\Hid (iZ w0 w0.heap.size (.string ⟨#[]⟩) (.int .i64 0) (.int .i64 0) (i+1) wr)) (λiv _=>l.length-(intOf iv).toNat)
 ·exact⟨0,IS _,rfl,H1⟩
 ·
  obtain⟨i,hi,rfl,H⟩:=hrel;clear H1;by_cases u:i<l.length
  ·have gD:decide ((i:Int)<l.length)=true:=aap (by omega);obtain⟨Y,hwb⟩:=J.out _ _ H.out;obtain⟨g,o,rfl,hg,c0,c1,c2,c3,c4,c5,c6,c7,c8,c9⟩:=HC.out.cells Y u;have hbi:(i:Int)<l.length:=by omega
   have HD:Hid (RY w0 l[i]):=HC.out.ok _ (IN u);have XA:IntKind.i64.wrap ((i:Int)+1)=(i:Int)+1:=by rw[aaR];omega
   clear Y;generalize l[i]=d at*;by_cases y:d.kd<=5
   ·have e5:decide ((5:Int)<d.kd)=false:=aab (by omega);have U:Hid (Calls prog 32 #[.pointer (some ⟨w0.heap.size,0,none⟩),.agg #[.int .i64 d.kd,.int .i64 d.a,.int .i64 d.b,.int .i64 d.wh,.string d.S,.string d.T,.string d.fp,.slice d.fd d.fa.length d.fc,.slice d.cd d.ay.length d.cc,.slice d.gd d.gone.length d.gc]] wr λe w'=>e=.returned (.bool true)/\Hid (iZ w0 w0.heap.size (.string ⟨#[]⟩) (.int .i64 0) (.int .i64 0) (i+1+1) w')):=HS.out wr (i+1) d H.out (by omega) HD.out y
    go_upto_region 10 with(go_at_call 32;refine U.out.mono ?_;rintro e w2 ⟨rfl,H2⟩)
    obtain⟨-,aph⟩:=J.out _ _ H2.out;clear c0 c1 c2 c3 c4 c5 c6 c7 c8 c9 hg U
    go_wp2_with (go_at_call 33;refine(I.out _ _ H2.out (by omega)).mono ?_;rintro e w3 ⟨rfl,H3⟩)
    go_roundw
    ·exact⟨i+1,u,by go_num,H3⟩
    ·(simp[intOf];omega)
   ·have e5:decide ((5:Int)<d.kd)=true:=aap (by omega)
    go_wp2_with fail
    go_roundw
    ·exact⟨i+1,u,by go_num,H.out.mono (by omega)⟩
    ·(simp[intOf];omega)
  ·have gD:decide ((i:Int)<l.length)=false:=aab (by omega)
   go_wp2_with fail
   go_ret;exact⟨rfl,(J.out _ _ H.out).1⟩
theorem Jc(K:Nat->Int)(w0:World)(u:Dg.EA w0 K)(q:gJ w0)(t:KX w0)(text:ByteArray)(x:text.size<=1048576)(i)(j:Nat)(l)(h:ScA w0 i j l):
 Calls prog 3 #[.string text,.slice i l.length j] w0 λe w'=>e=.returned (.bool true)/\Below w0.heap.size w0 w':=by
 have y:Hid (Calls prog 12 #[.string text,.slice i l.length j,.int .i64 5] w0 λe w'=>e=.returned (.bool true)/\Below w0.heap.size w0 w'):=Nq K w0 u q t text x i j l h;clear h u q t
 go_enter func3,ntmps3
 go_wp2_with (go_at_call 12;refine y.out.mono ?_;rintro e w1 ⟨rfl,H1⟩)
 go_ret;exact⟨rfl,H1⟩
