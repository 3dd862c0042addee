/- axiomref: read, but for its last answer. -/
import Derived.Test.YtdmicblafmhflaaGreatDoorC12
set_option linter.unusedSimpArgs false
set_option linter.unusedVariables false
set_option maxHeartbeats 8000000
set_option maxRecDepth 100000
namespace Go.Proofs.YtdmicblafmhflaaGreatDoor
open Go.Proofs.Tryz Go.RowKit
variable{P:ByteArray}{rc g n cap:Nat}{rd:Option Addr}{w wr:World}
abbrev ZP:Obj:=.cells #[.slice none 0 0,.slice none 0 0,.string ⟨#[]⟩] 177
theorem lP(s)(hs:s.size<=600)(rs j)(E:Hid (Ax.bI (Ax.split s) (Ax.split s).length 0 []=(some rs,j))):
 Calls prog 146 #[.string s] w λe w'=>∃i q out,e=.returned (.tuple #[.slice i (List.length out) q,.int .i64 (-1)])/\dz w' i q out/\Hid (List.map QR.aw out=rs/\∀r,r∈out->QR.rK w.heap.size r)/\out.length<=1000/\Below w.heap.size w w':=by
 refine(yI s w hs).mono ?_;rintro e w' ⟨D,x⟩;rw[E.out]at x;rcases x with⟨i,q,out,u,rfl,y,A,B⟩ | ⟨t,u,_⟩
 ·simp only[AT]at u;exact⟨i,q,out,rfl,y,⟨u.symm,B⟩,A,D⟩
 ·simp at u
theorem GW(s)(hs:s.size<=600)(j)(A:Hid (Ax.bI (Ax.split s) (Ax.split s).length 0 []=(none,j)))(t)(x:Hid ((Ax.split s)[j]?=some t)):
 Calls prog 146 #[.string s] w λe w'=>e=.returned (.tuple #[.slice none 0 0,.int .i64 t.at_])/\Below w.heap.size w w':=by
 refine(yI s w hs).mono ?_;rintro e w' ⟨y,i⟩;rw[A.out]at i;rcases i with⟨B,D,out,u,_⟩ | ⟨t',u,q,rfl⟩
 ·simp at u
 ·simp only[x.out,AT]at q;subst q;exact⟨rfl,y⟩
theorem Ni(l)(h:dz w rd rc l)(q:l.length<=1000)(p)(j:Hid (Ax.bL 0 [] (l.map QR.aw)=some p)):
 Calls prog 147 #[.slice rd l.length rc] w λe w'=>e=.returned (.int .i64 p)/\Below w.heap.size w w':=by
 refine(BT w rd rc l h q).mono ?_;rintro e w' ⟨t,⟨u,i,rfl⟩ | ⟨i,_⟩⟩
 ·rw[j.out]at i;simp only[AT]at i;subst i;exact⟨rfl,t⟩
 ·rw[j.out]at i;simp at i
theorem ye(l)(h:dz w rd rc l)(j:l.length<=1000)(t:Hid (Ax.bL 0 [] (l.map QR.aw)=none)):
 Calls prog 147 #[.slice rd l.length rc] w λe w'=>e=.returned (.int .i64 (-1))/\Below w.heap.size w w':=by
 refine(BT w rd rc l h j).mono ?_;rintro e w' ⟨q,⟨u,i,_⟩ | ⟨_,rfl⟩⟩
 ·rw[t.out]at i;simp at i
 ·exact⟨rfl,q⟩
theorem Mm(l)(h:dz w rd rc l)(p)(j:Hid (Ax.bE (l.map QR.aw)=some p)):
 Calls prog 149 #[.slice rd l.length rc] w λe w'=>e=.returned (.int .i64 p)/\Below w.heap.size w w':=by
 refine(Ct w rd rc l h).mono ?_;rintro e w' ⟨q,⟨t,i,rfl⟩ | ⟨i,_⟩⟩
 ·rw[j.out]at i;simp only[AT]at i;subst i;exact⟨rfl,q⟩
 ·rw[j.out]at i;simp at i
theorem OZ(l)(h:dz w rd rc l)(q:Hid (Ax.bE (l.map QR.aw)=none)):
 Calls prog 149 #[.slice rd l.length rc] w λe w'=>e=.returned (.int .i64 (-1))/\Below w.heap.size w w':=by
 refine(Ct w rd rc l h).mono ?_;rintro e w' ⟨j,⟨t,i,_⟩ | ⟨_,rfl⟩⟩
 ·rw[q.out]at i;simp at i
 ·exact⟨rfl,j⟩
theorem JA(l)(h:dz w rd rc l)(q:l.length<=1000)(p)(u:Hid (Ax.dt [] ((l.map QR.aw).flatMap Ax.aI.atoms)=some p)):
 Calls prog 148 #[.slice rd l.length rc] w λe w'=>∃i j o,e=.returned (.tuple #[.slice i (List.length o) j,.int .i64 p])/\kz w w' i j o:=by
 refine(rT w rd rc l h q).mono ?_;rintro e w' ⟨i,j,o,rfl,_,t⟩;rw[Ax.yX,u.out];exact⟨i,j,o,rfl,t⟩
theorem BO(l)(h:dz w rd rc l)(q:l.length<=1000)(x:Hid (Ax.dt [] ((l.map QR.aw).flatMap Ax.aI.atoms)=none)):
 Calls prog 148 #[.slice rd l.length rc] w λe w'=>∃i j o,e=.returned (.tuple #[.slice i (List.length o) j,.int .i64 (-1)])/\Hid (o=(Ax.gX ((l.map QR.aw).flatMap Ax.aI.atoms)).1)/\kz w w' i j o:=by
 refine(rT w rd rc l h q).mono ?_;rintro e w' ⟨i,j,o,rfl,u,t⟩;rw[Ax.yX,x.out];exact⟨i,j,o,rfl,u,t⟩
theorem oR{w1}(e:Below (w.alloc ZP).heap.size (w.alloc ZP) w1):w1.heap[w.heap.size]?=some (.cells #[.slice none 0 0,.slice none 0 0,.string ⟨#[]⟩] 177 (0,0))/\Below w.heap.size w w1/\w.heap.size<w1.heap.size:=
 ⟨(e.block _ (by simp)).trans (By _ _),aM.trans (e.mono (by simp)),by have:=e.size;simp at this;omega⟩
theorem kS{e:World}{B a b c t}(h:e.heap[B]?=some (.cells #[a,b,c] t (0,0))):
 e.cell? ⟨B,0,none⟩=some a/\e.cell? ⟨B,1,none⟩=some b/\e.cell? ⟨B,2,none⟩=some c/\e.frozen? ⟨B,0,none⟩=false/\e.frozen? ⟨B,1,none⟩=false/\e.frozen? ⟨B,2,none⟩=false:=by
 refine⟨?_, ?_, ?_,aJ h 0,aJ h 1,aJ h 2⟩<;>rw[aq h]<;>rfl
theorem fG{w2 k a b c T}(i:w2.heap[k]?=some (.cells #[a,b,c] T (0,0)))(x y z:Value)(u:Below w.heap.size w w2)(e:w.heap.size<=k):
 (((w2.setCell ⟨k,0,none⟩ x).setCell ⟨k,1,none⟩ y).setCell ⟨k,2,none⟩ z).heap[k]?=some (.cells #[x,y,z] T (0,0))/\Below w.heap.size w (((w2.setCell ⟨k,0,none⟩ x).setCell ⟨k,1,none⟩ y).setCell ⟨k,2,none⟩ z):=by
 have t:=heap_setCell_same (off:=0) i x;have q:=heap_setCell_same (off:=1) t y;have j:=heap_setCell_same (off:=2) q z;exact⟨by rw[j];rfl,((u.setCell e _).setCell e _).setCell e _⟩
def mi(w:World)(R:ByteArray×Int×Nat)(e:Ending)(w':World):Prop:=Below w.heap.size w w'/\∃od on oc pd pn pc,e=.returned (.tuple #[.agg #[.slice od on oc,.slice pd pn pc,.string R.1],.int .i64 R.2.1,.int .i64 R.2.2])
theorem abI(s w)(h:600<s.size)(hm:s.size<=maxLen):Calls prog 85 #[.string s] w λe w'=>mi w (ByteArray.empty,1,0) e w':=by
 have i:(600:Int)<(s.size:Int):=by omega
 go_enter func85,ntmps85
 go_wp2_with fail
 exact aaT (v:=.tuple #[.agg #[.slice none 0 0,.slice none 0 0,.string ⟨#[]⟩],.int .i64 1,.int .i64 0]) (by simp[results,Tryz.results85,go_sem]) rfl ⟨aM,_,_,_,_,_,_,rfl⟩
theorem aam(s w)(x:s.size<=600)(j)(D:Hid (Ax.bI (Ax.split s) (Ax.split s).length 0 []=(none,j))){t}(u:Hid ((Ax.split s)[j]?=some t)):Calls prog 85 #[.string s] w λe w'=>mi w (ByteArray.empty,2,t.at_) e w':=by
 have E:¬(600:Int)<(s.size:Int):=by omega
 go_enter func85,ntmps85
 go_wp2_with (first | (go_at_call 146;refine(GW s x j D t u).mono ?_;rintro e w1 ⟨rfl,A⟩;obtain⟨i,B,O⟩:=oR A;obtain⟨I,H,F,N,M,J⟩:=kS i))
 obtain⟨q,y⟩:=fG i (.slice none 0 0) (.slice none 0 0) (.string ⟨#[]⟩) B (OF _);exact aaT (v:=.tuple #[.agg #[.slice none 0 0,.slice none 0 0,.string ⟨#[]⟩],.int .i64 2,.int .i64 t.at_]) (by simp[results,Tryz.results85,go_sem,aq q]) rfl ⟨y,_,_,_,_,_,_,rfl⟩
theorem Z7(s w)(y:s.size<=600)(rs j)(E:Hid (Ax.bI (Ax.split s) (Ax.split s).length 0 []=(some rs,j)))(p)(F:Hid (Ax.bL 0 [] rs=some p)):Calls prog 85 #[.string s] w λe w'=>mi w (ByteArray.empty,3,p) e w':=by
 have H:¬(600:Int)<(s.size:Int):=by omega
 go_enter func85,ntmps85
 go_wp2_with (first | (go_at_call 146;refine(lP s y rs j E).mono ?_;rintro e w1 ⟨I,J,out,rfl,x,t,jE,q⟩) | (go_at_call 147;refine(Ni out x jE p (by rw[t.out.1];exact F)).mono ?_;rintro e w2 ⟨rfl,A⟩;obtain⟨i,D,X⟩:=oR (q.trans (A.mono q.size));obtain⟨O,N,M,W,V,U⟩:=kS i))
 obtain⟨u,B⟩:=fG i (.slice none 0 0) (.slice none 0 0) (.string ⟨#[]⟩) D (OF _);exact aaT (v:=.tuple #[.agg #[.slice none 0 0,.slice none 0 0,.string ⟨#[]⟩],.int .i64 3,.int .i64 p]) (by simp[results,Tryz.results85,go_sem,aq u]) rfl ⟨B,_,_,_,_,_,_,rfl⟩
theorem aav(s w)(D:s.size<=600)(rs j)(I:Hid (Ax.bI (Ax.split s) (Ax.split s).length 0 []=(some rs,j)))(M:Hid (Ax.bL 0 [] rs=none))(p)(J:Hid (Ax.dt [] (rs.flatMap Ax.aI.atoms)=some p)):Calls prog 85 #[.string s] w λe w'=>mi w (ByteArray.empty,4,p) e w':=by
 have O:¬(600:Int)<(s.size:Int):=by omega
 go_enter func85,ntmps85
 go_wp2_with (first | (go_at_call 146;refine(lP s D rs j I).mono ?_;rintro e w1 ⟨W,X,out,rfl,u,q,jE,y⟩) | (go_at_call 147;refine(ye out u jE (by rw[q.out.1];exact M)).mono ?_;rintro e w2 ⟨rfl,x⟩;have t:=y.trans (x.mono y.size);have F:=u.below x) | (go_at_call 148;refine(JA out F jE p (by rw[q.out.1];exact J)).mono ?_;rintro e N ⟨U,V,o,rfl,A⟩;obtain⟨i,H,Wn⟩:=oR (t.trans (A.be.mono t.size));obtain⟨k0,Z,Y,f0,f1,f2⟩:=kS i))
 obtain⟨B,E⟩:=fG i (.slice none 0 0) (.slice none 0 0) (.string ⟨#[]⟩) H (OF _);exact aaT (v:=.tuple #[.agg #[.slice none 0 0,.slice none 0 0,.string ⟨#[]⟩],.int .i64 4,.int .i64 p]) (by simp[results,Tryz.results85,go_sem,aq B]) rfl ⟨E,_,_,_,_,_,_,rfl⟩
theorem acv(s w)(H:s.size<=600)(rs j)(N:Hid (Ax.bI (Ax.split s) (Ax.split s).length 0 []=(some rs,j)))(V:Hid (Ax.bL 0 [] rs=none))(U:Hid (Ax.dt [] (rs.flatMap Ax.aI.atoms)=none))(p)(O:Hid (Ax.bE rs=some p)):Calls prog 85 #[.string s] w λe w'=>mi w (ByteArray.empty,5,p) e w':=by
 have Y:¬(600:Int)<(s.size:Int):=by omega
 go_enter func85,ntmps85
 go_wp2_with (first | (go_at_call 146;refine(lP s H rs j N).mono ?_;rintro e w1 ⟨od,oc,out,rfl,x,i,jE,A⟩) | (go_at_call 147;refine(ye out x jE (by rw[i.out.1];exact V)).mono ?_;rintro e w2 ⟨rfl,y⟩;have u:=A.trans (y.mono A.size);have B:=x.below y) | (go_at_call 148;refine(BO out B jE (by rw[i.out.1];exact U)).mono ?_;rintro e X ⟨Z,pc,o,rfl,_,t⟩;have D:=u.trans (t.be.mono u.size);have J:=B.below t.be) | (go_at_call 149;refine(Mm out J p (by rw[i.out.1];exact O)).mono ?_;rintro e W ⟨rfl,E⟩;obtain⟨q,M,Wn⟩:=oR (D.trans (E.mono D.size));obtain⟨k0,k1,k2,f0,f1,f2⟩:=kS q))
 obtain⟨F,I⟩:=fG q (.slice none 0 0) (.slice none 0 0) (.string ⟨#[]⟩) M (OF _);exact aaT (v:=.tuple #[.agg #[.slice none 0 0,.slice none 0 0,.string ⟨#[]⟩],.int .i64 5,.int .i64 p]) (by simp[results,Tryz.results85,go_sem,aq F]) rfl ⟨I,_,_,_,_,_,_,rfl⟩
/- axiomref: rows of predicates that are written into. -/
theorem ir{b e size xs}(h:w.ownsRow b e size (.slice (some ⟨g,0,none⟩) n cap) n xs)(j v):
 (w.setCell ⟨g,j,none⟩ v).ownsRow b e size (.slice (some ⟨g,0,none⟩) n cap) n (xs.set j v):=by
 refine⟨by rw[aeS];exact h.1, ?_⟩;rcases h.2 with⟨D,_⟩ | ⟨E,F,i,q,u,t,B,A,y,x⟩
 ·simp at D
 ·simp only[abi,AT,aco]at q;obtain⟨⟨rfl,_⟩,_,rfl⟩:=q;refine .inr ⟨g,cap,i.setIfInBounds j v,rfl,u,heap_setCell_same t v,B,A,by simpa using y, ?_⟩;rw[ac2,List.take_set,x]
theorem uF(o k x)(h:k<o.length):((cA o).set (k*2) (.string x.1)).set (k*2+1) (.int .i64 x.2)=cA (o.set k x):=by
 induction o generalizing k with
 | nil=>simp at h
 | cons a o ih=>
  have e:cA (a::o)=.string a.1::.int .i64 a.2::cA o:=by simp[cA]
  cases k with
  | zero=>simp[cA]
  | succ k=>
   have:=ih k (by simpa using h);rw[aaH,e,show(k+1)*2=k*2+1+1 by omega,aaH,aaH,aaH,aaH,this];simp[cA]
def AO(o0:List (ByteArray×Nat))(w wr:World)(g n cap:Nat):Prop:=∃o:List (ByteArray×Nat),(o.length=n/\o.Perm o0)/\wr.ownsRow w.heap.size 264 2 (.slice (some ⟨g,0,none⟩) n cap) n (cA o)
theorem AO.at{x k}(h:AO x w wr g n cap)(t:k<n):∃s m,wr.cell? ⟨g,k*2,none⟩=some (.string s)/\wr.cell? ⟨g,k*2+1,none⟩=some (.int .i64 (Nat.cast m))/\wr.frozen? ⟨g,k*2,none⟩=false/\wr.frozen? ⟨g,k*2+1,none⟩=false/\g<wr.heap.size/\n<=cap/\w.heap.size<=g:=by
 obtain⟨o,⟨rfl,_⟩,h⟩:=h;obtain⟨B,e,F,A,u⟩:=aA h;simp only[AT,aco]at e;obtain⟨rfl,_⟩:=e;have i:∀j,wr.frozen? ⟨g,j,none⟩=false:=by
  rcases h.2 with⟨D,_⟩ | ⟨B,H,E,q,e,y,_⟩
  ·simp at D
  ·simp only[abi,AT,aco]at q;obtain⟨⟨rfl,_⟩,_,rfl⟩:=q;exact λj=>aJ y j
 exact⟨_,_,u _ _ (dY o k t).1,u _ _ (dY o k t).2,i _,i _,F,A,(h.lt g rfl).1⟩
theorem AO.swap{A}(h:AO A w wr g n cap)(k:Nat)(j sb:ByteArray)(i e:Nat)(q:k+1<n)(c0:wr.cell? ⟨g,k*2,none⟩=some (.string j))(c1:wr.cell? ⟨g,k*2+1,none⟩=some (.int .i64 (i:Nat)))(M:wr.cell? ⟨g,(k+1)*2,none⟩=some (.string sb))(J:wr.cell? ⟨g,(k+1)*2+1,none⟩=some (.int .i64 (e:Nat))):
 AO A w ((((wr.setCell ⟨g,(k+1)*2,none⟩ (.string j)).setCell ⟨g,(k+1)*2+1,none⟩ (.int .i64 (i:Nat))).setCell ⟨g,k*2,none⟩ (.string sb)).setCell ⟨g,k*2+1,none⟩ (.int .i64 (e:Nat))) g n cap:=by
 obtain⟨o,⟨rfl,E⟩,h⟩:=h;obtain⟨O,B,U,N,t⟩:=aA h;simp only[AT,aco]at B;obtain⟨rfl,_⟩:=B;have u:k<o.length:=by omega
 have y:=t _ _ (dY o k u).1;have D:=t _ _ (dY o k u).2;have x:=t _ _ (dY o (k+1) q).1;have e3:=t _ _ (dY o (k+1) q).2;rw[c0]at y;rw[c1]at D;rw[M]at x;rw[J]at e3;simp only[AT,Value.string.injEq,Value.int.injEq,true_and]at y D x e3;have I:o[k]=(j,i):=Prod.ext y.symm (show(o[k]).2=i by omega);have H:o[k+1]=(sb,e):=Prod.ext x.symm (show(o[k+1]).2=e by omega);refine⟨(o.set (k+1) (j,i)).set k (sb,e),⟨by simp, ?_⟩, ?_⟩
 ·refine List.Perm.trans ?_ E;rw[<-I,<-H];exact List.set_set_perm q u
 ·rw[<-uF _ k (sb,e) (by simpa using u),<-uF o (k+1) (j,i) q];have F:=ir (ir (ir (ir h ((k+1)*2) (.string j)) ((k+1)*2+1) (.int .i64 (i:Nat))) (k*2) (.string sb)) (k*2+1) (.int .i64 (e:Nat));exact F
theorem AO.alloc{e}(h:AO e w wr g n cap)(o:Obj):AO e w (wr.alloc o) g n cap:=by
 obtain⟨l,i,h⟩:=h;exact⟨l,i,h.alloc o⟩
/- axiomref: read's last answer; Check. -/
def DA(l:List Ax.Tok):List UInt8:=l.flatMap λt=>t.text.data.toList
def Hu(o0:List (ByteArray×Nat))(w2 wr:World)(pd:Option Addr)(n pc:Nat):Prop:=Below w2.heap.size w2 wr/\∃o:List (ByteArray×Nat),(o.length=n/\o.Perm o0)/\wr.ownsRow w2.heap.size 264 2 (.slice pd n pc) n (cA o)
theorem dz.type{w' l row e'}(h:dz w rd rc l)(j:w.grownBy w' row)(i:∀k,row=some k->∃e fz,w.heap[k]?=some (.cells e e' fz))(y:9≠e')(x:4≠e')(u:277≠e')(t:280≠e'):dz w' rd rc l:=
 ⟨aB h.1 j i t,λr q=>⟨QR.type (h.2 r q).1 j i y x u,(h.2 r q).2⟩⟩
def OA(w:World)(rs:List Ax.aI)(P:ByteArray)(e:Ending)(w':World):Prop:=Below w.heap.size w w'/\∃od oc out pd pc o,e=.returned (.tuple #[.agg #[.slice od (List.length out) oc,.slice pd (List.length o) pc,.string P],.int .i64 0,.int .i64 0])/\dz w' od oc out/\out.map QR.aw=rs/\(∀r,r∈out->QR.rK w.heap.size r)/\w'.ownsRow w.heap.size 264 2 (.slice pd o.length pc) o.length (cA o)/\o.Perm (Ax.gX (rs.flatMap Ax.aI.atoms)).1
theorem Yw{w2 j t q u out rs o}(y:wr.heap[w.heap.size]?=some (.cells #[.slice none 0 0,.slice none 0 0,.string ⟨#[]⟩] 177 (0,0)))(Y:Below w.heap.size w wr)(W:w.heap.size<w2.heap.size)(H:dz w2 j q out)(F:out.map QR.aw=rs)(M:∀r,r∈out->QR.rK w.heap.size r)(J:o=(Ax.gX (rs.flatMap Ax.aI.atoms)).1)(X:Hu o w2 wr t n u):
 OA w rs P (.returned (.tuple #[.agg #[.slice j out.length q,.slice t n u,.string P],.int .i64 0,.int .i64 0])) (((wr.setCell ⟨w.heap.size,0,none⟩ (.slice j out.length q)).setCell ⟨w.heap.size,1,none⟩ (.slice t n u)).setCell ⟨w.heap.size,2,none⟩ (.string P)):=by
 obtain⟨N,x,⟨rfl,I⟩,V⟩:=X;obtain⟨_,U⟩:=fG y (.slice j out.length q) (.slice t x.length u) (.string P) Y (OF _);have E:∀k,some w.heap.size=some k->∃i fz,wr.heap[k]?=some (.cells i 177 fz):=λk e=>by cases e;exact⟨_,_,y⟩
 have A:=heap_setCell_same (off:=0) y (.slice j out.length q);have D:∀k,some w.heap.size=some k->∃i fz,(wr.setCell ⟨w.heap.size,0,none⟩ (.slice j out.length q)).heap[k]?=some (.cells i 177 fz):=λk e=>by cases e;exact⟨_,_,A⟩
 have O:=heap_setCell_same (off:=1) A (.slice t x.length u);have B:∀k,some w.heap.size=some k->∃i fz,((wr.setCell ⟨w.heap.size,0,none⟩ (.slice j out.length q)).setCell ⟨w.heap.size,1,none⟩ (.slice t x.length u)).heap[k]?=some (.cells i 177 fz):=λk e=>by cases e;exact⟨_,_,O⟩
 refine⟨U,j,q,out,t,u,x,rfl, ?_,F,M, ?_, ?_⟩
 ·exact(((H.below N).type (grownBy_setCell _ _) E (by decide) (by decide) (by decide) (by decide)).type (grownBy_setCell _ _) D (by decide) (by decide) (by decide) (by decide)).type (grownBy_setCell _ _) B (by decide) (by decide) (by decide) (by decide)
 ·exact aD (aB (aB (aB V (grownBy_setCell _ _) E) (grownBy_setCell _ _) D) (grownBy_setCell _ _) B) (Nat.le_of_lt W)
 ·rw[<-J];exact I
theorem aaO(s w)(cp:s.size<=600)(rs j)(HR:Hid (Ax.bI (Ax.split s) (Ax.split s).length 0 []=(some rs,j)))(H3:Hid (Ax.bL 0 [] rs=none))(H4:Hid (Ax.dt [] (rs.flatMap Ax.aI.atoms)=none))(H5:Hid (Ax.bE rs=none)){T}(HT:Hid (Ax.split s=T))(H:Hid (∀t,t∈T->t.text.size<=600))(HP:Hid (P=⟨(DA T).toArray⟩)):Calls prog 85 #[.string s] w λe w'=>OA w rs P e w':=by
 have rY:¬(600:Int)<(s.size:Int):=by omega
 have Qo:∀w,Calls prog 150 #[.string s] w λe w'=>∃W X,e=.returned (.slice W T.length X)/\JW w' W X T/\Below w.heap.size w w':=λw=>by
  rw[<-HT.out];exact vi s w cp
 have ZY:=aj Qo;clear Qo
 go_enter func85,ntmps85
 go_wp2_with (first | (go_at_call 146;refine(lP s cp rs j HR).mono ?_;rintro e w1 ⟨od,oc,out,rfl,Z,u,jE,aV⟩) | (go_at_call 147;refine(ye out Z jE (by rw[u.out.1];exact H3)).mono ?_;rintro e w2 ⟨rfl,cX⟩;have lH:=aV.trans (cX.mono aV.size);have M:=Z.below cX) | (go_at_call 148;refine(BO out M jE (by rw[u.out.1];exact H4)).mono ?_;rintro e w3 ⟨V,E,o,rfl,F,D⟩;have YR:=M.below D.be) | (go_at_call 149;refine(OZ out YR (by rw[u.out.1];exact H5)).mono ?_;rintro e w4 ⟨rfl,J⟩) | (go_at_call 150;refine(ZY.out _).mono ?_;rintro e O ⟨W,X,rfl,hT,fR⟩))
 have EN:=D.be.size;have Xu:=J.size;have N1:Below w2.heap.size w2 w4:=D.be.trans (J.mono EN);have CL:Below w2.heap.size w2 O:=N1.trans (fR.mono (by omega));have Bz:Hu o w2 O V o.length E:=⟨CL,o,⟨rfl,List.Perm.refl _⟩,ae (ae D.own J) fR⟩;have q:Hid (dz w2 od oc out/\out.map QR.aw=rs/\(∀r,r∈out->QR.rK w.heap.size r)/\o=(Ax.gX (rs.flatMap Ax.aI.atoms)).1):=⟨M,u.out.1,(λr hr=>⟨(u.out.2 r hr).1.mono (by simp),λx hx=>((u.out.2 r hr).2 x hx).mono (by simp)⟩),by rw[<-u.out.1];exact F.out⟩;have hole:=aH D.own;have HW:=aj lH;clear D J fR N1 CL Z M YR aV cX lH H3 H4 H5 HR u F;have hTl:=hT.2.1;generalize o.length=n at*
 go_loopw [9,10] (λpv iv wr=>∃(i:Nat) (p:ByteArray),i<=T.length/\pv=.string p/\iv=.int .i64 i/\wr=O/\p.data.toList=DA (T.take i)/\p.size<=600*i) (λ_ iv _=>T.length-(intOf iv).toNat)
 ·exact⟨0,⟨#[]⟩,IS _,rfl,rfl,rfl,rfl,IS _⟩
 ·
  obtain⟨i,p,hi,rfl,rfl,rfl,hp,As⟩:=hrel;have B:=aj hp;clear hp;by_cases aL:i<T.length
  ·have ht:T[i]?=some T[i]:=AS aL;obtain⟨g,rfl,hg,hc,_,c1,_,_,_⟩:=hT.cells ht;have hts:=H.out _ (IN aL);have HN:Hid ((p++(T[i]).text).data.toList=DA (T.take (i+1))):=by
    show(p++(T[i]).text).data.toList=_;rw[acI aL];simp only[DA,abQ,aaW,adI,aby,adv,aeo];rw[B.out];rfl
   have HNS:Hid ((p++(T[i]).text).size<=600*(i+1)):=by
    show(p++(T[i]).text).size<=_;rw[acn];omega
   clear ht;generalize (T[i]).text=tx at*
   go_wp2_with fail
   go_roundw
   ·exact⟨i+1,p++tx,by omega,rfl,by go_num,trivial,HN.out,HNS.out⟩
   ·simp[intOf];omega
  ·have hpP:p=P:=by
    have:=B.out;rw[aaP (by omega)]at this;rw[HP.out,<-this]
   subst hpP;clear B HP hT HT H ZY
   go_wp2_with fail
   go_loopw [11] (λiv wr=>∃(i:Nat),1<=i/\iv=.int .i64 i/\Hu o w2 wr V n E) (λiv _=>n-(intOf iv).toNat)
   ·exact⟨1,OF _,rfl,Bz⟩
   ·
    clear Bz;obtain⟨i,hi1,rfl,N⟩:=hrel;by_cases cT:i<n
    ·obtain⟨A,o6,Vv,PG⟩:=N;obtain⟨g,rfl,_⟩:=aA PG;have y:AO o w2 wr g n E:=⟨o6,Vv,PG⟩;clear Vv PG
     go_wp2_with fail
     go_loopw [12] (λY wr=>∃(k:Nat),k<=i/\Y=.int .i64 k/\Below w2.heap.size w2 wr/\AO o w2 wr g n E) (λY _=>(intOf Y).toNat)
     ·exact⟨i,OF _,rfl,A,y⟩
     ·
      clear y A;obtain⟨k,hk,rfl,A,y⟩:=hrel;cases k with
      | zero=>
       have hz:decide ((0:Int)<((0:Nat):Int))=false:=by simp
       go_wp2_with fail
       go_region
       all_goals (go_wp2_with fail)
       all_goals (go_roundw;(case rel=>exact⟨i+1,by omega,by go_num,A.drew,y⟩);(case measure=>simp[intOf];omega))
      | succ m=>
       obtain⟨sa,na,c0,c1,f0,f1,hg,Mw,I⟩:=y.at (k:=m) (by omega);obtain⟨sb,nb,d0,d1,f2,f3,_,_,_⟩:=y.at (k:=m+1) (by omega);have M6:decide ((0:Int)<((m+1:Nat):Int))=true:=by simp
       go_upto_region 25 with fail
       go_cut [85]from 70 to 104 (λc wx=>∃b,c=.bool b/\wx=wr.drew)
       ·
        go_region
        all_goals (go_wp2_with fail)
        all_goals go_meet
        all_goals exact⟨_,rfl,rfl⟩
       ·
        obtain⟨b,rfl,rfl⟩:=hcut;cases b
        case false=>
         go_wp2_with fail
         go_roundw
         ·exact⟨i+1,by omega,by go_num,A.drew,y⟩
         ·simp[intOf];omega
        case true=>
         go_wp2_with fail
         go_roundw
         ·
          have Wt:=A.size;exact⟨m,by omega,rfl,(((((A.setCell I _).setCell I _).setCell I _).setCell I _).alloc (by simp[World.setCell];omega) _).drew,(y.swap m sa sb na nb (by omega) c0 c1 d0 d1).alloc _⟩
         ·simp[intOf]
    ·obtain⟨U,Ko,Wn⟩:=oR (HW.out.trans (N.1.mono HW.out.size));obtain⟨k0,k1,k2,f0,f1,f2⟩:=kS U;have HSO:=aj N;clear N
     go_wp2_with fail
     obtain⟨hu,_⟩:=fG U (.slice od out.length oc) (.slice V n E) (.string p) Ko (OF _);exact aaT (by simp[results,Tryz.results85,go_sem,aq hu]) rfl (Yw U Ko (by have:=HW.out.size;simp at this;omega) q.out.1 q.out.2.1 q.out.2.2.1 q.out.2.2.2 HSO.out)
theorem Mh{w' rs e}(h:OA w rs P e w'):mi w (P,0,0) e w':=by
 obtain⟨i,t,u,out,j,q,o,rfl,_⟩:=h;exact⟨i,_,_,_,_,_,_,rfl⟩
theorem Nc(s w)(hm:s.size<=maxLen):Calls prog 85 #[.string s] w λe w'=>mi w (Ax.read s) e w':=by
 by_cases u:600<s.size
 ·rw[Ax.xU u];exact abI s w u hm
 ·have hs:s.size<=600:=by omega
  rcases i:Ax.bI (Ax.split s) (Ax.split s).length 0 []with⟨_ | rs,j⟩
  ·have B:=Ax.qb (Ax.gi s) _ _ _ (by have:=Ax.gi s;obtain⟨m,t,e,_⟩:=this;rw[e];simp) i;have y:(Ax.split s)[j]?=some (Ax.split s)[j]:=AS B;rw[Ax.JL u i y];exact aam s w hs j i y
  ·rcases q:Ax.bL 0 [] rs with _ | p
   ·rcases x:Ax.dt [] (rs.flatMap Ax.aI.atoms)with _ | p
    ·rcases A:Ax.bE rs with _ | p
     ·rw[Ax.Io u i q x A];exact(aaO s w hs rs j i q x A rfl (λt y=>by have:=Ax.lh s t y;omega) rfl).mono λ_ _ h=>Mh h
     ·rw[Ax.DH u i q x A];exact acv s w hs rs j i q x p A
    ·rw[Ax.Dl u i q x];exact aav s w hs rs j i q p x
   ·rw[Ax.Eg u i q];exact Z7 s w hs rs j i p q
theorem Ij(s w)(hm:s.size<=maxLen)(R)(q:Hid (Ax.read s=R)):Calls prog 89 #[.string s] w λe w'=>e=.returned (.tuple #[.string R.1,.int .i64 R.2.1,.int .i64 R.2.2])/\Below w.heap.size w w':=by
 have j:∀w,Calls prog 85 #[.string s] w λe w'=>mi w R e w':=λw=>by rw[<-q.out];exact Nc s w hm
 rcases R with⟨P,E,A⟩
 go_enter func89,ntmps89
 go_wp2_with (go_at_call 85;refine(j _).mono ?_;rintro e w1 ⟨i,y,on,B,u,t,x,rfl⟩)
 go_ret3
 exact⟨rfl,i.alloc i.size _⟩
theorem Rf.KS(hd){l q}(h:∀f,f∈l->f∈q):∀(j:List Ax.Atom) (b:En.Bind) (f:En.ba),f∈Rf.fI hd l j b->f∈Rf.fI hd q j b
 | [],b,f,e=>e
 | a::j,b,f,e=>by
  unfold Rf.fI at e ⊢;rw[aa9]at e ⊢;obtain⟨x,t,i⟩:=e;refine⟨x,h x t, ?_⟩;cases hm:En.bO a x b with
  | none=>rw[hm]at i;cases i
  | some b'=>
   rw[hm]at i;exact Rf.KS hd h j b' f i
theorem Mj(n):(madeCells (#[Value.int .i64 0]) n).toList=bM (List.replicate n 0):=by
 unfold madeCells;refine aeL (by simp[bM]) ?_;intro k j i;have e:∀k,(#[Value.int .i64 0]:Array Value)[k%1]?.getD default=Value.int .i64 0:=λk=>by rw[Nat.mod_one];rfl
 simp[bM,Nat.mod_one]
theorem B5(n)(h:n<=1000000:=by omega):∃M:Array Value,M.toList=bM (List.replicate n 0)/\∀W:World,(Instr.makeSlice 31 (.int .i64 (n:Int)) (.int .i64 (n:Int))).run prog W=.ok (.slice (some ⟨W.heap.size,0,none⟩) n n) (W.alloc (.cells M 3)):=by
 obtain⟨i,j,u,t,q⟩:=abF Tryz.E5;refine⟨madeCells #[Value.int .i64 0] n,Mj n,λW=>?_⟩;have h:=run_make (P:=prog) W 31 3 i (.int .i64 0) Tryz.underlying31 j u .i64 .i64 (n:Int) (n:Int) (by omega) (by omega) (by rw[q];omega) (by omega);rw[t]at h;have e:(Value.int .i64 0).cells=#[Value.int .i64 0]:=rfl;rw[e]at h;simpa using h
theorem Rf.PV{rs}(h:Rf.Ac rs){G M}(x:G.Nodup)(B:∀f,f∈G->Rf.iR rs f)(A:Rf.tN rs 300 G true []=some M):(Rf.cS M).Nodup/\(Rf.cS M).length<=200/\(∀f,f∈Rf.cS M->Rf.iR rs f)/\(∀r,r∈rs->∀f,f∈Rf.fI r.head (Rf.cS M) r.body []->f∈Rf.cS M)/\M.length<=200/\M.Nodup/\∀f,f∈M->Rf.iR rs f:=by
 have q:=Rf.pI h x B (gl:=G.map Rf.pf) (λ_=>Iff.rfl);rw[A]at q;obtain⟨u,j,t,D,_⟩:=q;obtain⟨_,e⟩:=Rf.D6 j;refine⟨e.nodup_iff.2 j,by rw[e.length_eq];exact u,λf i=>t f (e.mem_iff.1 i), ?_,u,j,t⟩;intro r w f i;exact e.mem_iff.2 (D r w f (Rf.KS _ (λg y=>e.mem_iff.1 y) _ _ _ i))
theorem GC(w:World)(rd)(rc:Nat)(rl)(hr:dz w rd rc rl)(dR:Rf.Ac (rl.map QR.aw))(pv)(I J:Nat)(pl:ByteArray)(gd)(gc:Nat)(G)(Z:Nat)(hB0:Z<=w.heap.size)(hG:bl w Z gd gc G)(wY:(G.map FI.f).Nodup)(PZ:∀f,f∈G->Rf.iR (rl.map QR.aw) f.f)(hd:ByteArray):
 Calls prog 86 #[.agg #[.slice rd rl.length rc,.slice pv I J,.string pl],.slice gd G.length gc,.string hd] w λe w'=>oQ w Z (rl.map QR.aw) (.slice rd rl.length rc) (.slice pv I J) pl gd gc G hd e w':=by
 have ajM:=aH hG.row;by_cases AY:40<G.length
 ·have gD:decide ((40:Int)<(G.length:Int))=true:=aap (by omega);have H40:=aj AY;clear hG wY PZ hr dR
  go_enter func86,ntmps86
  go_wp2_with fail
  go_ret;refine⟨aM, ?_⟩;rw[aa3 H40.out];rfl
 have gD:decide ((40:Int)<(G.length:Int))=false:=aab (by omega);have Cy:=aj dR;have HR:=aj hr;have HFO:Hid (∀W,Below w.heap.size w W->Calls prog 151 #[.agg #[.slice rd rl.length rc,.slice pv I J,.string pl],.slice gd G.length gc] W λe w'=>Qz W Z (Rf.tN (rl.map QR.aw) 300 (G.map FI.f) true []) e w'):=λW y=>ER W rd rc rl (hr.below y) dR pv I J pl gd gc G Z (aaK hB0 y.size) (hG.below y) (by omega) wY PZ;have vA:Hid (∀e w',Below w.heap.size w w'->(match Rf.tN (rl.map QR.aw) 300 (G.map FI.f) true []with
  | none=>e=.returned (.pointer none)
  | some M=>∃rg md mc out cv,e=.returned (.pointer (some ⟨rg,0,none⟩))/\w.heap.size<=rg/\w'.heap[rg]?=some (.cells (dN (.slice rd rl.length rc) (.slice pv I J) pl (.slice gd G.length gc) (.slice md (List.length out) mc) cv ByteArray.empty hd) 269 (0,0))/\bl w' Z md mc out/\out.map FI.f=Rf.cS M/\w'.ownsRow w.heap.size 3 1 cv out.length (bM (Rf.cl (Rf.cS M) ((rl.map QR.aw).flatMap λr=>Rf.fI r.head (Rf.cS M) r.body []))))->oQ w Z (rl.map QR.aw) (.slice rd rl.length rc) (.slice pv I J) pl gd gc G hd e w'):=by
  intro e w' A h;refine⟨A, ?_⟩;rw[aaD AY];exact h
 have VX:Hid (∀M,Rf.tN (rl.map QR.aw) 300 (G.map FI.f) true []=some M->(Rf.cS M).Nodup/\(Rf.cS M).length<=200/\(∀f,f∈Rf.cS M->Rf.iR (rl.map QR.aw) f)/\(∀r,r∈rl.map QR.aw->∀f,f∈Rf.fI r.head (Rf.cS M) r.body []->f∈Rf.cS M)/\M.length<=200/\M.Nodup/\∀f,f∈M->Rf.iR (rl.map QR.aw) f):=λM hM=>Rf.PV dR wY (λf hf=>by obtain⟨x,hx,rfl⟩:=aax.1 hf;exact PZ x hx) hM;have af0:rl.length<=8:=by have:=dR.ok.my;simpa using this
 clear hG wY PZ hr dR AY
 go_enter func86,ntmps86
 go_upto_region 3 with fail
 obtain⟨w1,dA⟩:∃w1,w1=w.alloc (.cells #[.slice rd rl.length rc,.slice pv I J,.string pl] 177):=⟨_,rfl⟩;rw[<-dA];have HX:Hid (∀W,Below w1.heap.size w1 W->Below w.heap.size w W/\w.heap.size<W.heap.size/\W.cell? ⟨w.heap.size,0,none⟩=some (.slice rd rl.length rc)/\W.cell? ⟨w.heap.size,1,none⟩=some (.slice pv I J)/\W.cell? ⟨w.heap.size,2,none⟩=some (.string pl)):=by
  intro W h;rw[dA]at h;exact sJ h
 obtain⟨iK,IU,x0,x1,x2⟩:=HX.out w1 (aaj _ _);have Hc:Hid (w1.heap.size=w.heap.size+1):=by
  show w1.heap.size=_;rw[dA];simp
 clear dA;have YU:=HFO.out w1 iK;clear HFO iK;rcases hF:Rf.tN (rl.map QR.aw) 300 (G.map FI.f) true []with _ | M
 ·rw[hF]at YU vA;have HFX:Hid (Calls prog 151 #[.agg #[.slice rd rl.length rc,.slice pv I J,.string pl],.slice gd G.length gc] w1 λe w'=>e=.returned (.tuple #[.slice none 0 0,.bool false])/\Hid (Below w1.heap.size w1 w')):=YU.mono (λe w' h=>⟨h.2,h.1⟩);clear YU hF VX
  go_wp2_with (go_at_call 151;refine HFX.out.mono ?_;rintro e w2 ⟨rfl,mM⟩)
  go_ret;exact vA.out _ _ (HX.out _ mM.out).1 rfl
 ·rw[hF]at YU vA;have HM:=VX.out M hF;have Xq:=aj HM;have HFX:Hid (Calls prog 151 #[.agg #[.slice rd rl.length rc,.slice pv I J,.string pl],.slice gd G.length gc] w1 λe w'=>∃fd fc L,e=.returned (.tuple #[.slice fd (List.length L) fc,.bool true])/\(w'.cell? ⟨w.heap.size,0,none⟩=some (.slice rd rl.length rc)/\w'.cell? ⟨w.heap.size,1,none⟩=some (.slice pv I J)/\w'.cell? ⟨w.heap.size,2,none⟩=some (.string pl))/\w.heap.size<w'.heap.size/\Hid (Below w1.heap.size w1 w'/\bl w' Z fd fc L/\L.map FI.f=M)):=by
   refine YU.mono ?_;rintro e w' ⟨A,fd,fc,L,rfl,h1,h2⟩;obtain⟨_,Y,X⟩:=HX.out w' A;exact⟨fd,fc,L,rfl,X,Y,A,h1,h2⟩
  clear YU hF VX HM
  go_upto_region 6 with(go_at_call 151;refine HFX.out.mono ?_;rintro e w2 ⟨fd,fc,L,rfl,⟨z0,z1,z2⟩,zK,H2⟩)
  clear x0 x1 x2;have HOR:Hid (∀W,Below w2.heap.size w2 W->Calls prog 152 #[.slice fd L.length fc] W λe w'=>∃D E out,e=.returned (.slice D (List.length out) E)/\(w'.cell? ⟨w.heap.size,0,none⟩=some (.slice rd rl.length rc)/\w'.cell? ⟨w.heap.size,1,none⟩=some (.slice pv I J)/\w'.cell? ⟨w.heap.size,2,none⟩=some (.string pl))/\Hid (Below w1.heap.size w1 w'/\bl w' Z D E out/\out.map FI.f=Rf.cS M)):=by
   intro W y;obtain⟨g1,g2,g3⟩:=H2.out;obtain⟨m1,m2,m3,m4,m5,m6,m7⟩:=Xq.out;have hf:=g2.below y;have jZ:Below w1.heap.size w1 W:=g1.trans (y.mono g1.size);refine(Fq W fd fc L hf.KM (by have:=abu List.length g3;simp at this;omega) (by rw[g3];exact m6) ?_).mono ?_
   ·intro f hf9 g hg9 e;have k1:=m7 f.f (by rw[<-g3];exact aaN hf9);have k2:=m7 g.f (by rw[<-g3];exact aaN hg9);exact abu Prod.snd (Cy.out.ok.one _ k1.1 _ k2.1 e)
   ·rintro e w' ⟨D,E,out,rfl,ho⟩;have iW:Below w1.heap.size w1 w':=jZ.trans (ho.be.mono jZ.size);obtain⟨_,_,X⟩:=HX.out w' iW;refine⟨D,E,out,rfl,X,iW,⟨aD ho.row ?_,λf hf9=>?_⟩, ?_⟩
    ·have:=Hc.out;have:=jZ.size;omega
    ·exact ae (hf.each f (ab4 (ho.sub f hf9))) ho.be
    ·rw[ho.dat,aaP (by simp),g3];rfl
  go_cut [9]from 27 (λv9 wx=>∃eg D E out,v9=.pointer (some ⟨eg,0,none⟩)/\Hid (w1.heap.size<=eg/\wx.heap[eg]?=some (.cells (dN (.slice rd rl.length rc) (.slice pv I J) pl (.slice gd G.length gc) (.slice D (List.length out) E) (.slice none 0 0) ByteArray.empty hd) 269 (0,0))/\Below w1.heap.size w1 wx/\bl wx Z D E out/\out.map FI.f=Rf.cS M))
  ·
   go_region_held3 (λW=>W.cell? ⟨w.heap.size,0,none⟩=some (.slice rd rl.length rc)/\W.cell? ⟨w.heap.size,1,none⟩=some (.slice pv I J)/\W.cell? ⟨w.heap.size,2,none⟩=some (.string pl)) (go_keep) ((go_at_call 152;refine(HOR.out _ (by exact(aaj _ _).drew)).mono ?_;rintro e w3 ⟨D,E,out,rfl,⟨y0,Y,X⟩,H3⟩))
   all_goals
    (go_wp2_with fail
     go_meet;have hs3:=H3.out.1.size;have tH:Below w3.heap.size w3 (w3.alloc (.cells (dN (.slice rd rl.length rc) (.slice pv I J) pl (.slice gd G.length gc) (.slice D (List.length out) E) (.slice none 0 0) ByteArray.empty hd) 269)):=aM;exact⟨w3.heap.size,D,E,out,rfl,hs3,By w3 _,H3.out.1.trans (tH.mono hs3),H3.out.2.1.below tH,H3.out.2.2⟩)
  ·
   obtain⟨eg,D,E,out,rfl,H⟩:=hcut;clear z0 z1 z2 H2 HOR zK HFX IU;obtain⟨y0,Y,X,y3,y4⟩:=H.out;have jE:out.length<=200:=by
    have F:=abu List.length y4;rw[aaL]at F;rw[F];exact Xq.out.2.1
   have AE:=lt_of_heap Y;have c4:wc.cell? ⟨eg,4,none⟩=some (.slice D out.length E):=by rw[aq Y];rfl
   have c5:wc.cell? ⟨eg,5,none⟩=some (.slice none 0 0):=by rw[aq Y];rfl
   have f5:wc.frozen? ⟨eg,5,none⟩=false:=aJ Y 5;obtain⟨MA,hMA,rW⟩:=B5 out.length;have HMA:=aj hMA;clear y0 Y X y3 y4 hMA
   go_upto_region 8 with fail
   obtain⟨wq,hwq⟩:∃wq,wq=wc.setCell ⟨eg,5,none⟩ (.slice (some ⟨wc.heap.size,0,none⟩) out.length out.length):=⟨_,rfl⟩;rw[<-hwq];have pR:wq.heap.size=wc.heap.size:=by rw[hwq];simp[World.setCell]
   obtain⟨t,RU⟩:∃t,t=wq.alloc (.cells MA 3):=⟨_,rfl⟩;rw[<-RU];obtain⟨y0,Y,X,y3,y4⟩:=H.out;have ha:Below wq.heap.size wq t:=by rw[RU];exact aM
   have YD:wq.heap[eg]?=some (.cells (dN (.slice rd rl.length rc) (.slice pv I J) pl (.slice gd G.length gc) (.slice D out.length E) (.slice (some ⟨wc.heap.size,0,none⟩) out.length out.length) ByteArray.empty hd) 269 (0,0)):=by
    rw[hwq,heap_setCell_same Y];rfl
   have hblk:t.heap[eg]?=some (.cells (dN (.slice rd rl.length rc) (.slice pv I J) pl (.slice gd G.length gc) (.slice D out.length E) (.slice (some ⟨wc.heap.size,0,none⟩) out.length out.length) ByteArray.empty hd) 269 (0,0)):=(ha.block _ (lt_of_heap YD)).trans YD;have kJ:Kb [eg] wc wq:=by rw[hwq];exact Kb.setCell _ ⟨eg,5,none⟩ _
   have U3:∀b,b∈[eg]->∀u U fz,wc.heap[b]?=some (.cells u U fz)->U=269:=by
    intro b A u U fz e;simp at A;subst A;rw[Y]at e;simp at e;exact e.2.1.symm
   have RL:Hid (bl t Z D E out):=(y3.kb kJ (λb A _ u U fz e=>by rw[U3 b A u U fz e];decide)).below ha;have HR4:Hid (t.ownsRow wc.heap.size 3 1 (.slice (some ⟨wc.heap.size,0,none⟩) out.length out.length) out.length (bM (List.replicate out.length 0))):=by
    refine⟨by simp[bM],.inr ⟨wc.heap.size,out.length,MA,rfl,OF _, ?_,OF _,by unfold maxLen;omega, ?_, ?_⟩⟩
    ·rw[RU,<-pR];exact By _ _
    ·rw[<-abP,HMA.out];simp[bM]
    ·rw[HMA.out,aaP (by simp[bM])]
   have zU:Hid (Below w1.heap.size w1 t):=(kJ.aQ X X.size (by simpa using y0)).trans (ha.mono (by rw[pR];exact X.size));have Xu:t.heap.size=wc.heap.size+1:=by rw[RU,<-pR];simp
   have HS4:=aj Xu;have HC4:Hid (∀W,Below t.heap.size t W->eg<W.heap.size/\W.cell? ⟨eg,4,none⟩=some (.slice D out.length E)/\W.heap[eg]?=t.heap[eg]?):=by
    intro W y;have hl4:=lt_of_heap hblk;exact⟨aa7 hl4 y.size,by rw[y.cell hl4,aq hblk];rfl,y.block _ hl4⟩
   have Gp:=aj hblk;have HD:=aj y4;have X3:=aj X.size;have agQ:Hid (w.heap.size<=eg):=by
    have F:=Hc.out;show _<=_;omega
   clear y0 Y X y3 y4 ha kJ U3 rW c4 c5 f5 AE Xu hblk YD pR hwq H;have H0:Hid (cu (t.alloc (.cells Tryz.zeroCells273 273)) t.heap.size t.heap.size none 0 [] (λ_=>.slice none 0 0)):=CB t;have jP:Hid (Below t.heap.size t (t.alloc (.cells Tryz.zeroCells273 273))):=aM;clear RU
   go_wp2_with fail
   generalize t.alloc (.cells Tryz.zeroCells273 273)=w5 at*
   go_loopw [11] (λiv wr=>∃(i:Nat) (fd:Option Addr) (fc:Nat) (V:Nat->Value),i<=out.length/\iv=.int .i64 i/\Hid (cu wr t.heap.size t.heap.size fd fc (out.take i) V/\Below t.heap.size t wr)) (λiv _=>out.length-(intOf iv).toNat)
   ·exact⟨0,none,0,_,IS _,rfl,H0.out,jP.out⟩
   ·
    obtain⟨i,fd,fc,V,hi,rfl,H⟩:=hrel;clear H0 jP;obtain⟨Km,c4,_⟩:=HC4.out wr H.out.2;by_cases h1:i<out.length
    ·have gD:decide ((i:Int)<out.length)=true:=aap (by omega);have zX:=(RL.out.below H.out.2).KM;obtain⟨g,rfl,hg,wQ,c0,c1⟩:=zX.at_ h1;obtain⟨yd,yc,hy⟩:=ah (zX.each _ (IN h1));have i1:(0:Int)<=(i:Int):=by omega
     have i2:(i:Int)<out.length:=by omega
     have HAD:Hid (Calls prog 153 #[.pointer (some ⟨t.heap.size,0,none⟩),.agg #[.string (out[i]).pred,(out[i]).av]] wr λe w'=>e=.returned (.tuple #[])/\Hid (∃iU ji mz,cu w' t.heap.size t.heap.size iU ji (out.take (i+1)) mz/\Below t.heap.size t w')):=by
      have Nz:Rf.iR (rl.map QR.aw) (out[i]).f:=Xq.out.2.2.1 _ (by rw[<-HD.out];exact aaN (IN h1));refine(nR wr fd fc (out.take i) V H.out.1 (by simp;omega) out[i] (zX.each _ (IN h1)) (yK Cy.out Nz)).mono ?_;rintro e w' ⟨rfl,ha⟩;obtain⟨iU,ji,mz,k1,_⟩:=ha.at_;refine⟨rfl,iU,ji,mz, ?_,ha.be H.out.1 H.out.2⟩;rw[aaZ,AS h1];exact k1
     rw[hy]at c1 HAD;generalize (out[i]).pred=gp at*;generalize (out[i]).args.length=gn at*;clear hy H zX
     go_wp2_with (go_at_call 153;refine HAD.out.mono ?_;rintro e w5 ⟨rfl,H5⟩)
     go_roundw
     ·
      obtain⟨iU,ji,mz,k1,k2⟩:=H5.out;exact⟨i+1,iU,ji,mz,h1,by go_num,k1,k2⟩
     ·(simp[intOf];omega)
    ·have gD:decide ((i:Int)<out.length)=false:=aab (by omega);have H9:Hid (cu wr t.heap.size t.heap.size fd fc out V/\Below t.heap.size t wr):=by
      have F:=H.out;rw[aaP (by omega)]at F;exact F
     clear H;obtain⟨O,rfl⟩:∃x,x=wr:=⟨wr,rfl⟩;obtain⟨j,Rp⟩:∃j,j=wc.heap.size:=⟨_,rfl⟩;rw[<-Rp]at HR4 Gp HS4 X3;clear Rp;obtain⟨cv,CQ⟩:∃cv,cv=Value.slice (some ⟨j,0,none⟩) out.length out.length:=⟨_,rfl⟩;obtain⟨rs,mU⟩:∃rs,rs=rl.map QR.aw:=⟨_,rfl⟩;have HCT:Hid (∃u,O.heap[j]?=some (.cells u 3 (0,0))):=aP (ae HR4.out H9.out.2) rfl;have HKW:Hid (∀W,Kb [j] O W->(W.cell? ⟨w.heap.size,0,none⟩=some (.slice rd rl.length rc)/\w.heap.size<W.heap.size)/\(W.cell? ⟨eg,4,none⟩=some (.slice D out.length E)/\W.cell? ⟨eg,5,none⟩=some (.slice (some ⟨j,0,none⟩) out.length out.length)/\eg<W.heap.size/\W.heap[eg]?=t.heap[eg]?)/\dz W rd rc rl/\bl W Z D E out/\cu W t.heap.size t.heap.size fd fc out V/\Below w.heap.size w W):=by
      intro W y;obtain⟨u,Pp⟩:=HCT.out;have agk:Below w1.heap.size w1 O:=zU.out.trans (H9.out.2.mono zU.out.size);obtain⟨ju,aL,x0,_,_⟩:=HX.out O agk;obtain⟨Km,c4,he⟩:=HC4.out O H9.out.2;have hTT:∀b,b∈[j]->∀u U fz,O.heap[b]?=some (.cells u U fz)->U=3:=by
       intro b A u U fz e;simp at A;subst A;rw[Pp]at e;simp at e;exact e.2.1.symm
      have vu:w1.heap.size<=j:=X3.out;have cB:w.heap.size≠j:=by have:=Hc.out;omega
      have he6:O.heap[eg]?=some (.cells _ 269 (0,0)):=he.trans Gp.out;have Tl:eg≠j:=fM he6 Pp;have Zx:∀{q i:Nat},q<O.heap.size->q≠j->W.cell? ⟨q,i,none⟩=O.cell? ⟨q,i,none⟩:=λ{q i} h1 h2=>by simp only[World.cell?,y.block q h1 (by simpa using h2)]
      refine⟨⟨by rw[Zx aL cB];exact x0,aa7 aL y.size⟩,⟨by rw[Zx Km Tl];exact c4,by rw[Zx Km Tl,aq he6];rfl,aa7 Km y.size,by rw[y.block eg Km (by simpa using Tl)];exact he⟩, ?_, ?_, ?_, ?_⟩
      ·exact(HR.out.below ju).kb y (λb A u U fz e=>by rw[hTT b A u U fz e];decide)
      ·exact(RL.out.below H9.out.2).kb y (λb A _ u U fz e=>by rw[hTT b A u U fz e];decide)
      ·exact H9.out.1.kb1 y (by have:=HS4.out;omega) Pp
      ·exact y.aQ ju ju.size (by have:=Hc.out;simp;omega)
     have N:Hid (out.map FI.f=Rf.cS M/\(Rf.cS M).Nodup/\(∀f,f∈Rf.cS M->Rf.iR rs f)/\∀r,r∈rs->∀f,f∈Rf.fI r.head (Rf.cS M) r.body []->f∈Rf.cS M):=⟨HD.out,Xq.out.1,by rw[mU];exact Xq.out.2.2.1,by rw[mU];exact Xq.out.2.2.2.1⟩;have lF:=aj H9.out.2;have HR6:Hid (O.ownsRow j 3 1 (.slice (some ⟨j,0,none⟩) out.length out.length) out.length (bM (Rf.cl (Rf.cS M) (Rf.om rs (Rf.cS M) 0)))):=by
      have e:Rf.cl (Rf.cS M) (Rf.om rs (Rf.cS M) 0)=List.replicate out.length 0:=by
       have e1:Rf.om rs (Rf.cS M) 0=[]:=by simp[Rf.om]
       rw[e1];unfold Rf.cl;rw[<-HD.out];refine aeL (by simp) ?_;intro k h1 h2;simp[En.rH]
      show World.ownsRow _ _ _ _ _ _ _;rw[e];exact ae HR4.out H9.out.2
     have Hr:=aj mU;clear H9 HC4 RL HX zU HD Xq HCT mU CQ HR
     go_wp2_with fail
     go_loopw [12] (λiv wq=>∃(i:Nat),i<=rl.length/\iv=.int .i64 i/\Hid (Kb [j] O wq/\wq.ownsRow j 3 1 (.slice (some ⟨j,0,none⟩) out.length out.length) out.length (bM (Rf.cl (Rf.cS M) (Rf.om rs (Rf.cS M) i))))) (λiv _=>rl.length-(intOf iv).toNat)
     ·exact⟨0,IS _,rfl,Kb.refl _ _,HR6.out⟩
     ·
      clear HR6;obtain⟨i,hi,rfl,H⟩:=hrel;obtain⟨⟨x0,aL⟩,⟨c4,c5,Km,ZA⟩,GJ,MJ,pW,ju⟩:=HKW.out wr H.out.1;by_cases h3:i<rl.length
      ·have Up:decide ((i:Int)<rl.length)=true:=aap (by omega);obtain⟨g,r,rfl,hg,wQ,d0,d1,d2,d3,d4,hqk,Xc,dh⟩:=GJ.at h3;have J9:r∈rl:=dh.out▸IN h3;have hri:rs[i]'(by rw[Hr.out];simpa using h3)=r.aw:=by
        simp only[Hr.out,adj,dh.out]
       have Zw:Hid (∀W,Below wr.heap.size wr W->Calls prog 154 #[.agg #[.string r.head.a.pred,.slice r.head.td r.head.a.af.length r.head.tc,.slice r.head.vd r.head.a.af.length r.head.vc,.int .i64 r.head.a.at_,.slice r.bd r.body.length r.bc],.int .i64 0,.slice D out.length E,.slice none 0 0,.slice none 0 0,.int .i64 1073741824] W λe w'=>∃hd hc h,e=.returned (.slice hd (List.length h) hc)/\h.length<=40000/\(w'.cell? ⟨w.heap.size,0,none⟩=some (.slice (some ⟨g,0,none⟩) rl.length rc)/\w'.cell? ⟨g,i*5,none⟩=some (.string r.head.a.pred)/\w'.cell? ⟨g,i*5+1,none⟩=some (.slice r.head.td r.head.a.af.length r.head.tc)/\w'.cell? ⟨g,i*5+2,none⟩=some (.slice r.head.vd r.head.a.af.length r.head.vc)/\w'.cell? ⟨g,i*5+3,none⟩=some (.int .i64 r.head.a.at_)/\w'.cell? ⟨g,i*5+4,none⟩=some (.slice r.bd r.body.length r.bc)/\w'.cell? ⟨eg,4,none⟩=some (.slice D out.length E))/\Hid (bl w' wr.heap.size hd hc h/\h.map FI.f=Rf.fI r.aw.head (Rf.cS M) r.aw.body []/\Below wr.heap.size wr w')):=by
        intro W y;have hfW:=MJ.below y;have Nz:∀f,f∈out->Rf.iR (rl.map QR.aw) f.f:=λf hf=>by
         rw[<-Hr.out];exact N.out.2.2.1 _ (by rw[<-N.out.1];exact aaN hf)
        refine(Cc W r (QR.below hqk y) D E out hfW.KM.r (Kk Cy.out J9 Nz jE)).mono ?_;rintro e w' ⟨hd,hc,h,rfl,q1,q2,q3⟩;rw[N.out.1]at q2;have D4:=y.trans (q3.mono y.size);refine⟨hd,hc,h,rfl, ?_,⟨by rw[D4.cell aL];exact x0,by rw[D4.cell hg];exact d0,by rw[D4.cell hg];exact d1,by rw[D4.cell hg];exact d2,by rw[D4.cell hg];exact d3,by rw[D4.cell hg];exact d4,by rw[D4.cell Km];exact c4⟩,q1.base y.size,q2,D4⟩;have h8:=Rf.pO Cy.out (aaN J9) (l:=Rf.cS M) (by rw[<-Hr.out];exact N.out.2.2.1) (by rw[<-N.out.1];simpa using jE);rw[<-q2,aaL]at h8;exact h8
       have kG:Hid (Rf.om rs (Rf.cS M) (i+1)=Rf.om rs (Rf.cS M) i++Rf.fI r.aw.head (Rf.cS M) r.aw.body []):=by
        show _=_;rw[Rf.Cu (by rw[Hr.out];simpa using h3),hri]
       have Ob:Hid (∀f,f∈Rf.fI r.aw.head (Rf.cS M) r.aw.body []->f∈Rf.cS M):=λf hf=>N.out.2.2.2 r.aw (by rw[Hr.out];exact aaN J9) f hf;have abk:(Rf.om rs (Rf.cS M) i).length<=320000:=by
        have h8:=Rf.Fb (rs:=rs) (by rw[Hr.out];exact Cy.out) (M:=Rf.cS M) N.out.2.2.1 (by rw[<-N.out.1];simpa using jE) i (by rw[Hr.out];simpa using hi);omega
       have afY:=aj abk;generalize Rf.fI r.aw.head (Rf.cS M) r.aw.body []=HS at*;generalize hDD:Rf.om rs (Rf.cS M) i=DD at*;have ZL:=aj hDD;clear hqk Xc dh J9 hri GJ MJ pW ju hDD abk;obtain⟨⟨ra,rtd,rtc,rvd,rvc⟩,rbd,rbc,gR⟩:=r;simp only at*;have i1:(0:Int)<=(i:Int):=by omega
       have i2:(i:Int)<rl.length:=by omega
       go_upto_region 16 with fail
       go_cut [13]from 70 to 79 (λv13 wx=>∃hd hc h,v13=.slice hd (List.length h) hc/\h.length<=40000/\Hid (bl wx wr.heap.size hd hc h/\h.map FI.f=HS/\Below wr.heap.size wr wx))
       ·
        go_region_held3 (λW=>W.cell? ⟨w.heap.size,0,none⟩=some (.slice (some ⟨g,0,none⟩) rl.length rc)/\W.cell? ⟨g,i*5,none⟩=some (.string ra.pred)/\W.cell? ⟨g,i*5+1,none⟩=some (.slice rtd ra.af.length rtc)/\W.cell? ⟨g,i*5+2,none⟩=some (.slice rvd ra.af.length rvc)/\W.cell? ⟨g,i*5+3,none⟩=some (.int .i64 ra.at_)/\W.cell? ⟨g,i*5+4,none⟩=some (.slice rbd gR.length rbc)/\W.cell? ⟨eg,4,none⟩=some (.slice D out.length E)) (go_keep) ((go_at_call 154;refine(Zw.out _ (by exact(aaj _ _).drew)).mono ?_;rintro e w7 ⟨hd,hc,h,rfl,hhl,⟨k0,k1,k2,k3,k4,k5,k6⟩,H7⟩))
        all_goals (go_wp2_with fail;go_meet;exact⟨hd,hc,h,rfl,hhl,H7.out⟩)
       ·
        obtain⟨hd,hc,h,rfl,hhl,H7⟩:=hcut;have HKX:Hid (∀W,Kb [j] wc W->Kb [j] O W):=λW y=>(H.out.1.below H7.out.2.2).trans y;have Hl:Hid (wc.ownsRow j 3 1 (.slice (some ⟨j,0,none⟩) out.length out.length) out.length (bM (Rf.cl (Rf.cS M) (DD++HS.take 0)))):=by
         have F:=ae H.out.2 H7.out.2.2;rw[List.take_zero,aby];exact F
        have HFH:Hid ((∃B,bl wc B hd hc h/\j<B)/\h.map FI.f=HS):=⟨⟨_,H7.out.1,(H.out.2.lt j rfl).2⟩,H7.out.2.1⟩;clear x0 aL c4 c5 Km ZA d0 d1 d2 d3 d4 hg Zw H H7
        go_wp2_with fail
        go_loopw [14] (λkv wq=>∃(k:Nat),k<=h.length/\kv=.int .i64 k/\Hid (Kb [j] wc wq/\wq.ownsRow j 3 1 (.slice (some ⟨j,0,none⟩) out.length out.length) out.length (bM (Rf.cl (Rf.cS M) (DD++HS.take k))))) (λkv _=>h.length-(intOf kv).toNat)
        ·exact⟨0,IS _,rfl,Kb.refl _ _,Hl.out⟩
        ·
         clear Hl;obtain⟨k,hk,rfl,H⟩:=hrel;by_cases h4:k<h.length
         ·have Yc:decide ((k:Int)<h.length)=true:=aap (by omega);obtain⟨⟨B9,hfB,hB9⟩,hHS⟩:=HFH.out;have zX:=(hfB.kb H.out.1 (λb A vu _ _ _ _=>by simp at A;omega)).KM;obtain⟨jI,rfl,jy,abA,c0,c1⟩:=zX.at_ h4;have rW:=IN h4;obtain⟨yd,yc,hy⟩:=ah (zX.each _ rW);have hkS:k<HS.length:=by rw[<-hHS];simpa using h4
          have hHk:HS[k]=(h[k]).f:=by simp only[<-hHS,adj]
          have cT:(h[k]).f∈Rf.cS M:=Ob.out _ (by rw[<-hHk];exact IN hkS);have pR:=qj cT;obtain⟨q,hq⟩:∃q,q=rz (Rf.cS M) (h[k]).f:=⟨_,rfl⟩;rw[<-hq]at pR;have SS:(Rf.cS M).length=out.length:=by rw[<-N.out.1];simp
          have zW:q<out.length:=by rw[<-SS];exact(abt.1 pR).1
          obtain⟨c,hc9⟩:∃c,c=En.dW (DD++HS.take k) (h[k]).f:=⟨_,rfl⟩;have AG:c<=400000:=by
           have F:=Rf.Np (DD++HS.take k) (h[k]).f;have h8:=afY.out;rw[<-hc9,If,abv]at F;omega
          obtain⟨_,⟨_,c5,Km,_⟩,_,_,pW,_⟩:=HKW.out wr (HKX.out wr H.out.1);have Ev:wr.cell? ⟨j,q,none⟩=some (.int .i64 (c:Nat)):=by
           obtain⟨g9,e9,_,_,aiT⟩:=aA H.out.2;simp only[AT,aco,aex]at e9;subst e9;refine aiT q _ ?_;unfold bM;rw[ab3,Rf.DS pR,hc9];rfl
          have G9:wr.frozen? ⟨j,q,none⟩=false:=by
           obtain⟨u,e9⟩:=aP H.out.2 (b:=j) rfl;exact aJ e9 q
          have WK:=(H.out.2.lt j rfl).2;have Vl:Hid (Calls prog 155 #[.pointer (some ⟨t.heap.size,0,none⟩),.agg #[.string (h[k]).pred,(h[k]).av]] wr λe w'=>e=.returned (.int .i64 (q:Nat))/\w'.cell? ⟨eg,5,none⟩=some (.slice (some ⟨j,0,none⟩) out.length out.length)/\eg<w'.heap.size/\w'.cell? ⟨j,q,none⟩=some (.int .i64 (c:Nat))/\w'.frozen? ⟨j,q,none⟩=false/\j<w'.heap.size/\Hid (Below wr.heap.size wr w')):=by
           have Nz:Rf.iR (rl.map QR.aw) (h[k]).f:=by rw[<-Hr.out];exact N.out.2.2.1 _ cT
           refine(uD wr fd fc out V pW (by rw[N.out.1];exact N.out.2.1) (zX.each _ rW) (yK Cy.out Nz)).mono ?_;rintro e w' ⟨rfl,A⟩;refine⟨?_,by rw[A.cell Km];exact c5,aa7 Km A.size,by rw[A.cell WK];exact Ev, ?_,aa7 WK A.size,A⟩
           ·rw[N.out.1];show Ending.returned (.int .i64 (fS (Rf.cS M) (h[k]).f))=_;unfold fS;rw[aa3 (Tb.bt.2 cT),hq]
           ·rw[<-G9];simp only[World.frozen?,A.block j WK]
          have jX:Hid (∀W,Below wr.heap.size wr W->Kb [j] wc (W.setCell ⟨j,q,none⟩ (.int .i64 ((c:Nat)+1)))/\(W.setCell ⟨j,q,none⟩ (.int .i64 ((c:Nat)+1))).ownsRow j 3 1 (.slice (some ⟨j,0,none⟩) out.length out.length) out.length (bM (Rf.cl (Rf.cS M) (DD++HS.take (k+1))))):=by
           intro W y;refine⟨(H.out.1.below y).trans (Kb.setCell W ⟨j,q,none⟩ _), ?_⟩;have F:=ir (ae H.out.2 y) q (.int .i64 ((c:Nat)+1));have e9:bM (Rf.cl (Rf.cS M) (DD++HS.take (k+1)))=(bM (Rf.cl (Rf.cS M) (DD++HS.take k))).set q (.int .i64 ((c:Nat)+1)):=by
            rw[aaZ,AS hkS,<-aa8,hHk,Option.toList_some,Rf.TY N.out.2.1 cT,<-hq,<-hc9];unfold bM;rw[List.map_set];rfl
           rw[e9];exact F
          have j1:(0:Int)<=(k:Int):=by omega
          have j2:(k:Int)<h.length:=by omega
          have j3:(0:Int)<=(q:Int):=by omega
          have j4:(q:Int)<out.length:=by omega
          rw[hy]at c1 Vl;generalize (h[k]).pred=hp at*;generalize (h[k]).args.length=hn at*;clear H pW zX hy rW pR hq cT hHk hkS hHS hc9 hfB Ev G9
          go_wp2_with (go_at_call 155;refine Vl.out.mono ?_;rintro e w7 ⟨rfl,k1,k2,k3,k4,k5,H7⟩)
          go_roundw
          ·exact⟨k+1,h4,by go_num,(jX.out w7 H7.out).1,(jX.out w7 H7.out).2⟩
          ·(simp[intOf];omega)
         ·have Yc:decide ((k:Int)<h.length)=false:=aab (by omega);have NH:Hid (Kb [j] O wr/\wr.ownsRow j 3 1 (.slice (some ⟨j,0,none⟩) out.length out.length) out.length (bM (Rf.cl (Rf.cS M) (Rf.om rs (Rf.cS M) (i+1))))):=by
           refine⟨HKX.out wr H.out.1, ?_⟩;rw[kG.out];have F:=H.out.2;rw[aaP (by rw[<-HFH.out.2];simp;omega)]at F;exact F
          clear H
          go_wp2_with fail
          go_roundw
          ·exact⟨i+1,h3,by go_num,NH.out.1,NH.out.2⟩
          ·(simp[intOf];omega)
      ·have Up:decide ((i:Int)<rl.length)=false:=aab (by omega);have HIR:Hid (i=rl.length):=(show i=rl.length by omega);clear GJ MJ pW;have aiK:=aj ju
       go_wp2_with fail
       go_ret;refine vA.out _ _ aiK.out ⟨eg,D,E,out,.slice (some ⟨j,0,none⟩) out.length out.length,rfl, ?_, ?_, ?_,N.out.1, ?_⟩
       ·exact agQ.out
       ·rw[ZA,Gp.out]
       ·exact(HKW.out wr H.out.1).2.2.2.1
       ·have F:=H.out.2;have e9:Rf.om rs (Rf.cS M) i=(rl.map QR.aw).flatMap λr=>Rf.fI r.head (Rf.cS M) r.body []:=by
         rw[HIR.out,<-Hr.out,<-Rf.RK,Hr.out,aaL]
        rw[e9]at F;exact aD F (by have:=X3.out;have:=Hc.out;omega)
/- axiomref: isName: it is the program's. -/
namespace Ax
def Qv(s:ByteArray):Bool:=decide ((cH s s.size 0 0).1=s.size)&&(decide (1<=(cH s s.size 0 0).2)&&(decide ((cH s s.size 0 0).2<=6)&&!decide (65<=byte s 0/\byte s 0<=90)))
theorem yr:cF ⟨#[]⟩=false:=by decide+kernel
theorem WS{k}(j:0<=k)(i:k<=8)(h:kc k=110):k=2:=by
 have e:k=0\/k=1\/k=2\/k=3\/k=4\/k=5\/k=6\/k=7\/k=8:=by omega
 rcases e with rfl | rfl | rfl | rfl | rfl | rfl | rfl | rfl | rfl<;>first | rfl | (exact absurd h (by decide))
theorem MS(s):cF s=Qv s:=by
 by_cases E:s.size=0
 ·have e:s=⟨#[]⟩:=by
   apply pL;have:s.data.toList.length=0:=by simpa using E
   rw[abR this]
  have u:cH s s.size 0 0=(0,0):=pY;unfold Qv;rw[u,e,yr];simp
 ·have A:0<s.size:=by omega
  have J:s.extract 0 s.size=s:=by
   apply pL;rw[eG,aeN,Nat.sub_zero];exact aaP (by simp)
  have hd:(Lib.decodeGo s).1=(Utf8.decode s 0).1:=by
   unfold Lib.decodeGo;rw[aaD E]
  have i:=Of s 0 A;rw[J]at i;obtain⟨y,x,_⟩:=mu s (Utf8.decode s 0).1;have I:=uz s (Utf8.decode s 0).1 A;have w:=oX s s.size 0 0 (IS _);unfold cF Qv;rw[hd];generalize aK s (Utf8.decode s 0).1=F at*;obtain⟨k,n⟩:=F;unfold eJ conv at i;simp only at i y x I ⊢;rw[aaD (by omega)]at i;generalize U:cH s s.size 0 0=X at*;obtain⟨a,m⟩:=X;simp only at i w ⊢;rw[abH];simp only[acK,aeV,abW,Bool.not_eq_true',decide_eq_false_iff_not];have H:∀q,q<=s.size->(s.extract 0 q).size=q:=by
   intro q O;rw[aca];omega
  by_cases D:6<m
  ·rw[aa3 D]at i;have j:=abu kO.kind i;simp only at j;refine⟨λh=>?_,λh=>by omega⟩;rw[h.1]at j;exact absurd j (by decide)
  rw[aaD D]at i;by_cases t:0<m/\65<=byte s 0/\byte s 0<=90
  ·rw[aa3 t]at i;have j:=abu kO.kind i;simp only at j;refine⟨λh=>?_,λh=>absurd t.2 h.2.2.2⟩;rw[h.1]at j;exact absurd j (by decide)
  rw[aaD t]at i;by_cases hm:0<m
  ·rw[aa3 hm]at i;have j:=abu kO.kind i;have u:=abu kO.text i;simp only at j u;have M:=WS y x j.symm;have e3:=abu ByteArray.size u;rw[H a w,acm,H n I]at e3;refine⟨λh=>⟨by omega,by omega,by omega,λB=>t ⟨hm,B⟩⟩,λh=>⟨M,by omega⟩⟩
  ·rw[aaD hm]at i;refine⟨λh=>?_,λh=>by omega⟩;have j:=abu kO.kind i;rw[h.1]at j;have N:kc 2=110:=rfl;simp only[N]at j;split at j
   ·rename_i B;simp only at j;omega
   ·grind
end Ax
theorem FW(w){s}(hs:s.size<=1152921504606846976):Calls prog 215 #[.string s] w λe w'=>e=.returned (.bool (Ax.cF s))/\w'=w:=by
 have t:Hid (∀W,Calls prog 257 #[.string s,.int .i64 0] W λe w'=>e=.returned (.tuple #[.int .i64 (((Ax.cH s s.size 0 0).1:Int)),.int .i64 (Ax.cH s s.size 0 0).2])/\w'=W):=by
  intro W;have E:=eh s 0 W hs (IS _);simpa using E
 have x:Hid (Ax.cF s=(decide ((Ax.cH s s.size 0 0).1=s.size)&&(decide (1<=(Ax.cH s s.size 0 0).2)&&(decide ((Ax.cH s s.size 0 0).2<=6)&&!decide (65<=Ax.byte s 0/\Ax.byte s 0<=90))))):=Ax.MS s;have i:=Ax.oX s s.size 0 0 (IS _);have q:=Ax.Ee s s.size 0 0;rw[x.out];clear x;generalize Ax.cH s s.size 0 0=X at*;obtain⟨a,m⟩:=X;simp only at t i q ⊢;have N:=Ax.fQ s 0;by_cases j:a=s.size
 ·have u:((a:Int)==(s.size:Int))=true:=by rw[j];simp
  rw[aap j,aev];by_cases D:1<=m
  ·have I:decide ((1:Int)<=(m:Int))=true:=aap (by omega);rw[aap D,aev];by_cases B:m<=6
   ·have e3:decide ((m:Int)<=6)=true:=aap (by omega);rw[aap B,aev];have J:0<s.size:=by omega
    have M:=Ax.ej s 0 J;by_cases A:65<=Ax.byte s 0
    ·have H:decide ((65:Int)<=(Ax.byte s 0:Int))=true:=aap (by omega);by_cases y:Ax.byte s 0<=90
     ·have F:decide ((Ax.byte s 0:Int)<=90)=true:=aap (by omega);rw[aap ⟨A,y⟩];generalize Ax.byte s 0=c at*;subst j;clear i q u
      go_enter func215,ntmps215
      go_wp2_with (go_at_call 257;refine(t.out _).mono ?_;rintro e w' ⟨rfl,rfl⟩)
      go_ret;exact⟨by first | rfl | simp,rfl⟩
     ·have F:decide ((Ax.byte s 0:Int)<=90)=false:=aab (by omega);rw[aab (λh=>y h.2)];generalize Ax.byte s 0=c at*;subst j;clear i q u
      go_enter func215,ntmps215
      go_wp2_with (go_at_call 257;refine(t.out _).mono ?_;rintro e w' ⟨rfl,rfl⟩)
      go_ret;exact⟨by first | rfl | simp,rfl⟩
    ·have H:decide ((65:Int)<=(Ax.byte s 0:Int))=false:=aab (by omega);rw[aab (λh=>A h.1)];generalize Ax.byte s 0=c at*;subst j;clear i q u
     go_enter func215,ntmps215
     go_wp2_with (go_at_call 257;refine(t.out _).mono ?_;rintro e w' ⟨rfl,rfl⟩)
     go_ret;exact⟨by first | rfl | simp,rfl⟩
   ·have e3:decide ((m:Int)<=6)=false:=aab (by omega);rw[aab B,Bool.false_and];subst j;clear i q u
    go_enter func215,ntmps215
    go_wp2_with (go_at_call 257;refine(t.out _).mono ?_;rintro e w' ⟨rfl,rfl⟩)
    go_ret;exact⟨by first | rfl | simp,rfl⟩
  ·have I:decide ((1:Int)<=(m:Int))=false:=aab (by omega);rw[aab D,Bool.false_and];subst j;clear i q u
   go_enter func215,ntmps215
   go_wp2_with (go_at_call 257;refine(t.out _).mono ?_;rintro e w' ⟨rfl,rfl⟩)
   go_ret;exact⟨by first | rfl | simp,rfl⟩
 ·have u:((a:Int)==(s.size:Int))=false:=ab1.2 (by omega);rw[aab j,Bool.false_and];clear i q
  go_enter func215,ntmps215
  go_wp2_with (go_at_call 257;refine(t.out _).mono ?_;rintro e w' ⟨rfl,rfl⟩)
  go_ret;exact⟨by first | rfl | simp,rfl⟩
def vW(o:List (ByteArray×Nat))(p:ByteArray)(a:List ByteArray):Bool:=decide (yi o p=(a.length:Nat))&&a.all Ax.cF
theorem Oc{w W t s a b c d e}(h:Below ((w.alloc (.cells #[a,b,c] t)).alloc (.cells #[d,e] s)).heap.size ((w.alloc (.cells #[a,b,c] t)).alloc (.cells #[d,e] s)) W):Below w.heap.size w W/\w.heap.size+1<W.heap.size/\(W.cell? ⟨w.heap.size,0,none⟩=some a/\W.cell? ⟨w.heap.size,1,none⟩=some b/\W.cell? ⟨w.heap.size,2,none⟩=some c)/\W.cell? ⟨w.heap.size+1,0,none⟩=some d/\W.cell? ⟨w.heap.size+1,1,none⟩=some e:=by
 have i:Below (w.alloc (.cells #[a,b,c] t)).heap.size (w.alloc (.cells #[a,b,c] t)) ((w.alloc (.cells #[a,b,c] t)).alloc (.cells #[d,e] s)):=aM;obtain⟨u,x,q⟩:=sJ (i.trans (h.mono i.size));have j:W.heap[w.heap.size+1]?=some (.cells #[d,e] s (0,0)):=by
  rw[h.block _ (by simp)];have:=By (w.alloc (.cells #[a,b,c] t)) (.cells #[d,e] s);simpa using this
 refine⟨u,lt_of_heap j,q, ?_, ?_⟩<;>rw[aq j]<;>rfl
theorem ab8(w rd t rc j q o)(ho:w.ownsRow 0 264 2 (.slice j o.length q) o.length (cA o))(pl p a){av}(E:dr w av a)(hs:∀x,x∈a->x.size<=1152921504606846976):
 Calls prog 164 #[.agg #[.slice rd t rc,.slice j o.length q,.string pl],.agg #[.string p,av]] w λe w'=>e=.returned (.bool (vW o p a))/\Below w.heap.size w w':=by
 obtain⟨ad,ac,rfl⟩:=E.shape;have HA:=aj E;have hla:=E.le;have B7:=aj hs;obtain⟨w2,M⟩:∃w2,w2=(w.alloc (.cells #[.slice rd t rc,.slice j o.length q,.string pl] 177)).alloc (.cells #[.string p,.slice ad a.length ac] 48):=⟨_,rfl⟩;have A:Hid (∀W,Below w2.heap.size w2 W->Below w.heap.size w W/\w.heap.size+1<W.heap.size/\(W.cell? ⟨w.heap.size,0,none⟩=some (.slice rd t rc)/\W.cell? ⟨w.heap.size,1,none⟩=some (.slice j o.length q)/\W.cell? ⟨w.heap.size,2,none⟩=some (.string pl))/\W.cell? ⟨w.heap.size+1,0,none⟩=some (.string p)/\W.cell? ⟨w.heap.size+1,1,none⟩=some (.slice ad a.length ac)):=by
  intro W h;rw[M]at h;exact Oc h
 obtain⟨U,qB,⟨x0,x1,x2⟩,y0,Z⟩:=A.out w2 (aaj _ _);have J:Hid (Calls prog 170 #[.agg #[.slice rd t rc,.slice j o.length q,.string pl],.string p] w2 λe w'=>e=.returned (.int .i64 (yi o p))/\Hid (Below w2.heap.size w2 w')/\w.heap.size+1<w'.heap.size/\w'.cell? ⟨w.heap.size+1,1,none⟩=some (.slice ad a.length ac)):=by
  refine(uL w2 rd t rc j q o (ae ho U) pl p).mono ?_;rintro e w' ⟨rfl,rfl⟩;have hb:Below w2.heap.size w2 (w2.alloc (.cells #[.slice rd t rc,.slice j o.length q,.string pl] 177)):=aM;obtain⟨_,q1,_,_,q2⟩:=A.out _ hb;exact⟨rfl,hb,q1,q2⟩
 have HE:Hid (vW o p a=(decide (yi o p=(a.length:Nat))&&a.all Ax.cF)):=rfl;have X:=aj M;clear E ho hs M;by_cases u:yi o p=(a.length:Nat)
 ·have y:vW o p a=a.all Ax.cF:=by unfold vW;rw[aap u,aev]
  rw[y];rw[u]at J;have gD:decide ((a.length:Int)<0)=false:=aab (by omega);generalize O:a.all Ax.cF=R;clear HE U u y
  go_enter func164,ntmps164
  go_upto_region 1 with fail
  rw[<-X.out]
  go_wp2_with (go_at_call 170;refine J.out.mono ?_;rintro e w3 ⟨rfl,B,N,V⟩)
  go_loopw [6] (λiv wr=>∃k:Nat,k<=a.length/\iv=.int .i64 k/\Hid ((a.drop k).all Ax.cF=R)/\Hid (Below w2.heap.size w2 wr)) (λiv _=>a.length-(intOf iv).toNat)
  ·exact⟨0,IS _,rfl,O,B⟩
  ·
   obtain⟨k,hk,rfl,H,HB⟩:=hrel;clear O x0 x1 x2 y0 Z qB N V;obtain⟨I,qB,_,_,Z⟩:=A.out wr HB.out;by_cases F:k<a.length
   ·have ib:decide ((k:Int)<a.length)=true:=aap (by omega);obtain⟨g,go,rfl,hg,hc,c1⟩:=(HA.out.below I).at F;have i1:(0:Int)<=(k:Int):=by omega
    have i2:(k:Int)<a.length:=by omega
    have RX:Hid (∀W,Calls prog 215 #[.string a[k]] W λe w'=>e=.returned (.bool (Ax.cF a[k]))/\w'=W):=λW=>FW W (B7.out _ (IN F));have HS:Hid ((Ax.cF a[k]=false->R=false)/\(Ax.cF a[k]=true->(a.drop (k+1)).all Ax.cF=R)):=by
     have i:=H.out;rw[aan F,List.all_cons]at i;refine⟨λe=>?_,λe=>?_⟩
     ·rw[e,Bool.false_and]at i;exact i.symm
     ·rw[e,aev]at i;exact i
    have D:=aj I;clear H I;generalize Ax.cF a[k]=T at*;generalize a[k]=x at*;cases T with
    | true=>
     have Y:=HS.out.2 rfl
     go_wp2_with (go_at_call 215;refine(RX.out _).mono ?_;rintro e w' ⟨rfl,rfl⟩)
     go_roundw
     ·exact⟨k+1,F,by go_num,Y,HB⟩
     ·(simp[intOf];omega)
    | false=>
     have Y:=HS.out.1 rfl
     go_wp2_with (go_at_call 215;refine(RX.out _).mono ?_;rintro e w' ⟨rfl,rfl⟩)
     go_ret;exact⟨by rw[Y];rfl,D.out⟩
   ·have ib:decide ((k:Int)<a.length)=false:=aab (by omega);have Z1:Hid (R=true):=by
     have i:=H.out;rw[abG (by omega)]at i;exact i.symm
    clear H
    go_wp2_with fail
    go_ret;exact⟨by rw[Z1.out];rfl,I⟩
 ·have y:vW o p a=false:=by unfold vW;rw[aab u,Bool.false_and]
  rw[y];have D:Hid (∀W,Below w2.heap.size w2 W->Below w.heap.size w W):=λW hW=>(A.out W hW).1;generalize O:yi o p=R at*;have cB:(R==(a.length:Int))=false:=ab1.2 u;clear HE U A y;by_cases h0:R<0
  ·have gD:decide (R<0)=true:=aap h0
   go_enter func164,ntmps164
   go_upto_region 1 with fail
   rw[<-X.out]
   go_wp2_with (go_at_call 170;refine J.out.mono ?_;rintro e w3 ⟨rfl,B,N,V⟩)
   go_ret;exact⟨rfl,D.out _ B.out⟩
  ·have gD:decide (R<0)=false:=aab h0
   go_enter func164,ntmps164
   go_upto_region 1 with fail
   rw[<-X.out]
   go_wp2_with (go_at_call 170;refine J.out.mono ?_;rintro e w3 ⟨rfl,B,N,V⟩)
   go_ret;exact⟨rfl,D.out _ B.out⟩
/- axiomref: an engine as it lies; Ask. -/
structure qD(w:World)(rg:Nat)(rl:List QR)(o:List (ByteArray×Nat))(pl:ByteArray)(G out:List FI)(bs hd:ByteArray)(rv pv gv mv cv:Value):Prop where
 aY:w.heap[rg]?=some (.cells (dN rv pv pl gv mv cv bs hd) 269 (0,0))
 rules:∃rd rc,rv=.slice rd rl.length rc/\dz w rd rc rl
 lj:∃pd pc,pv=.slice pd o.length pc/\w.ownsRow 0 264 2 (.slice pd o.length pc) o.length (cA o)
 given:∃gd gc,gv=.slice gd G.length gc/\bl w 0 gd gc G
 model:∃md mc,mv=.slice md out.length mc/\bl w 0 md mc out
 kx:w.ownsRow 0 3 1 cv out.length (bM (Rf.cl (out.map FI.f) ((rl.map QR.aw).flatMap λr=>Rf.fI r.head (out.map FI.f) r.body [])))
theorem qD.below{w w' rg rl o pl G out bs hd rv pv gv mv cv}(h:qD w rg rl o pl G out bs hd rv pv gv mv cv)(e:Below w.heap.size w w'):qD w' rg rl o pl G out bs hd rv pv gv mv cv:=by
 obtain⟨rd,rc,E,A⟩:=h.rules;obtain⟨i,j,D,y⟩:=h.lj;obtain⟨gd,gc,e3,x⟩:=h.given;obtain⟨q,t,B,u⟩:=h.model;exact⟨(e.block _ (lt_of_heap h.aY)).trans h.aY,⟨rd,rc,E,A.below e⟩,⟨i,j,D,ae y e⟩,⟨gd,gc,e3,x.below e⟩,⟨q,t,B,u.below e⟩,ae h.kx e⟩
theorem iA{w:World}{rg rv pv gv mv cv pl bs hd}(h:w.heap[rg]?=some (.cells (dN rv pv pl gv mv cv bs hd) 269 (0,0))):w.cell? ⟨rg,0,none⟩=some rv/\w.cell? ⟨rg,1,none⟩=some pv/\w.cell? ⟨rg,2,none⟩=some (.string pl)/\w.cell? ⟨rg,3,none⟩=some gv/\w.cell? ⟨rg,4,none⟩=some mv/\w.cell? ⟨rg,5,none⟩=some cv/\w.cell? ⟨rg,6,none⟩=some (.string bs)/\w.cell? ⟨rg,7,none⟩=some (.string hd)/\(∀j,w.frozen? ⟨rg,j,none⟩=false)/\rg<w.heap.size:=by
 refine⟨?_, ?_, ?_, ?_, ?_, ?_, ?_, ?_,λj=>aJ h j,lt_of_heap h⟩<;>rw[aq h]<;>rfl
def Rf.GD(rs:List Ax.aI)(M:List En.ba)(f:En.ba):Nat:=if Tb.eZ M f=true then En.dW (rs.flatMap λr=>Rf.fI r.head M r.body []) f else 0
theorem Qx(w rg rl o pl G out bs hd rv pv gv mv cv)(h:qD w rg rl o pl G out bs hd rv pv gv mv cv)(Hd:(out.map FI.f).Nodup)(p a av)(ha:dr w av a)(hs:∀x,x∈a->x.size<=1152921504606846976):
 Calls prog 95 #[.pointer (some ⟨rg,0,none⟩),.agg #[.string p,av]] w λe w'=>e=.returned (.tuple (if vW o p a=true then #[.agg #[.bool (Tb.eZ (G.map FI.f) (p,a)),.bool (Tb.eZ (out.map FI.f) (p,a)),.int .i64 (Rf.GD (rl.map QR.aw) (out.map FI.f) (p,a):Nat)],.int .i64 0]else #[.agg #[.bool false,.bool false,.int .i64 0],.int .i64 6]))/\Below w.heap.size w w':=by
 obtain⟨rd,rc,e1,h1⟩:=h.rules;obtain⟨pd,pc,e2,h2⟩:=h.lj;obtain⟨gd,gc,e3,h3⟩:=h.given;obtain⟨md,mc,e4,h4⟩:=h.model;obtain⟨ad,ac,e5⟩:=ha.shape;obtain⟨cd,cc,e6⟩:=ah h.kx;subst e1 e2 e3 e4 e5 e6;obtain⟨w1,dA⟩:∃w1,w1=(w.alloc (.cells #[.string p,.slice ad a.length ac] 48)).alloc (.cells #[.bool false,.bool false,.int .i64 0] 52):=⟨_,rfl⟩;have H:Below w.heap.size w w1:=by rw[dA];exact aM.alloc (by simp) _
 have iS:w1.heap.size=w.heap.size+2:=by rw[dA];simp
 have O:Hid (∀W,Below w1.heap.size w1 W->(W.cell? ⟨rg,0,none⟩=some (.slice rd rl.length rc)/\W.cell? ⟨rg,1,none⟩=some (.slice pd o.length pc)/\W.cell? ⟨rg,2,none⟩=some (.string pl)/\W.cell? ⟨rg,3,none⟩=some (.slice gd G.length gc)/\W.cell? ⟨rg,4,none⟩=some (.slice md out.length mc)/\W.cell? ⟨rg,5,none⟩=some (.slice cd out.length cc)/\rg<W.heap.size)/\(W.cell? ⟨w.heap.size,0,none⟩=some (.string p)/\W.cell? ⟨w.heap.size,1,none⟩=some (.slice ad a.length ac))/\W.heap[w.heap.size+1]?=some (.cells #[.bool false,.bool false,.int .i64 0] 52 (0,0))/\w.heap.size+1<W.heap.size/\Below w.heap.size w W):=by
  intro W i;have y:=H.trans (i.mono H.size);obtain⟨c0,c1,c2,N,M,D,_,_,_,hl⟩:=iA ((h.below y).aY);have Jm:w1.heap[w.heap.size]?=some (.cells #[.string p,.slice ad a.length ac] 48 (0,0)):=by
   rw[dA,aay _ _ _ (by simp)];exact By w _
  have B4:w1.heap[w.heap.size+1]?=some (.cells #[.bool false,.bool false,.int .i64 0] 52 (0,0)):=by
   rw[dA];have:=By (w.alloc (.cells #[.string p,.slice ad a.length ac] 48)) (.cells #[.bool false,.bool false,.int .i64 0] 52);rw[show(w.alloc (.cells #[.string p,.slice ad a.length ac] 48)).heap.size=w.heap.size+1 by simp]at this;exact this
  have oo:=(i.block _ (lt_of_heap Jm)).trans Jm;obtain⟨J,I,_⟩:=bG oo;exact⟨⟨c0,c1,c2,N,M,D,hl⟩,⟨J,I⟩,(i.block _ (lt_of_heap B4)).trans B4,by have:=i.size;omega,y⟩
 have RX:Hid (∀W,Below w1.heap.size w1 W->Calls prog 164 #[.agg #[.slice rd rl.length rc,.slice pd o.length pc,.string pl],.agg #[.string p,.slice ad a.length ac]] W λe w'=>e=.returned (.bool (vW o p a))/\Below w1.heap.size w1 w'):=by
  intro W i;have y:=H.trans (i.mono H.size);refine(ab8 W rd rl.length rc pd pc o (ae h2 y) pl p a (ha.below y) hs).mono ?_;rintro e w' ⟨rfl,hb⟩;exact⟨rfl,i.trans (hb.mono i.size)⟩
 have HFM:Hid (∀W,Below w1.heap.size w1 W->Calls prog 165 #[.slice md out.length mc,.agg #[.string p,.slice ad a.length ac]] W λe w'=>e=.returned (.int .i64 (fS (out.map FI.f) (p,a)))/\Below W.heap.size W w'):=by
  intro W i;have y:=H.trans (i.mono H.size);refine(CP W md mc out (h4.below y).KM.r.z p a _ (ha.below y)).mono ?_;rintro e w' ⟨rfl,hb⟩;exact⟨rfl,hb⟩
 have HFG:Hid (∀W,Below w1.heap.size w1 W->Calls prog 165 #[.slice gd G.length gc,.agg #[.string p,.slice ad a.length ac]] W λe w'=>e=.returned (.int .i64 (fS (G.map FI.f) (p,a)))/\Below W.heap.size W w'):=by
  intro W i;have y:=H.trans (i.mono H.size);refine(CP W gd gc G (h3.below y).KM.r.z p a _ (ha.below y)).mono ?_;rintro e w' ⟨rfl,hb⟩;exact⟨rfl,hb⟩
 have HCN:Hid (∀W,Below w1.heap.size w1 W->∀q:Nat,(out.map FI.f)[q]?=some (p,a)->q<out.length/\∃g,cd=some ⟨g,0,none⟩/\g<W.heap.size/\W.cell? ⟨g,q,none⟩=some (.int .i64 (En.dW ((rl.map QR.aw).flatMap λr=>Rf.fI r.head (out.map FI.f) r.body []) (p,a):Nat))/\∃A,W.heap[g]?=some (.cells A 3 (0,0))):=by
  intro W i q hq;have y:=H.trans (i.mono H.size);have zW:q<out.length:=by simpa using(abt.1 hq).1
  obtain⟨g,e,hg,_,bA⟩:=aA (ae h.kx y);refine⟨zW,g,e,hg,bA q _ ?_, ?_⟩
  ·unfold bM;rw[ab3,Rf.DS hq];rfl
  ·have h9:=ae h.kx y;rw[e]at h9;exact aP h9 rfl
 have hHM:∀(L:List En.ba) (f:En.ba),(Tb.eZ L f=true/\∃q:Nat,fS L f=q/\L[q]?=some f)\/(Tb.eZ L f=false/\fS L f=-1):=by
  intro L f;by_cases hm:f∈L
  ·refine .inl ⟨Tb.bt.2 hm,rz L f, ?_,qj hm⟩;unfold fS;rw[aa3 (Tb.bt.2 hm)]
  ·refine .inr ⟨?_,xV hm⟩;cases hb:Tb.eZ L f with
   | false=>rfl
   | true=>exact absurd (Tb.bt.1 hb) hm
 obtain⟨⟨c0,c1,c2,N,M,D,Y⟩,⟨J,I⟩,E,xl,_⟩:=O.out w1 (aaj _ _);have HGV:Hid (Tb.eZ (G.map FI.f) (p,a)=decide (0<=fS (G.map FI.f) (p,a))):=by
  show _=_;rcases hHM (G.map FI.f) (p,a)with⟨F,q,U,_⟩ | ⟨F,U⟩
  ·rw[F,U];simp
  ·rw[F,U];rfl
 have RJ:Hid ((Tb.eZ (out.map FI.f) (p,a)=true/\∃q:Nat,fS (out.map FI.f) (p,a)=q/\q<out.length/\∀W,Below w1.heap.size w1 W->∃g,cd=some ⟨g,0,none⟩/\g<W.heap.size/\W.cell? ⟨g,q,none⟩=some (.int .i64 (Rf.GD (rl.map QR.aw) (out.map FI.f) (p,a):Nat))/\∃A,W.heap[g]?=some (.cells A 3 (0,0)))\/(Tb.eZ (out.map FI.f) (p,a)=false/\fS (out.map FI.f) (p,a)=-1/\Rf.GD (rl.map QR.aw) (out.map FI.f) (p,a)=0)):=by
  rcases hHM (out.map FI.f) (p,a)with⟨F,q,U,q3⟩ | ⟨F,U⟩
  ·refine .inl ⟨F,q,U,(HCN.out w1 (aaj _ _) q q3).1,λW i=>?_⟩;obtain⟨_,g,r1,r2,r3,r4⟩:=HCN.out W i q q3;refine⟨g,r1,r2, ?_,r4⟩;unfold Rf.GD;rw[aa3 F];exact r3
  ·refine .inr ⟨F,U, ?_⟩;unfold Rf.GD;rw[F];rfl
 have Ev:out.length<=cc:=by
  rcases h.kx.2 with⟨e1,e2⟩ | ⟨g,cap,A,e1,_,_,e2,_⟩
  ·omega
  ·simp only[abi]at e1;omega
 clear HCN hHM;generalize vW o p a=B at*;generalize fS (G.map FI.f) (p,a)=zg at*;generalize fS (out.map FI.f) (p,a)=zm at*;generalize Tb.eZ (G.map FI.f) (p,a)=bg at*;generalize Tb.eZ (out.map FI.f) (p,a)=bm at*;generalize Rf.GD (rl.map QR.aw) (out.map FI.f) (p,a)=cn at*;clear h h1 h2 h3 h4 ha Hd hs H iS
 go_enter func95,ntmps95
 go_upto_region 1 with fail
 rw[<-dA];clear dA
 go_cut [6]from 10 to 45 (λv6 wx=>v6=.bool B/\Hid (Below w1.heap.size w1 wx))
 ·
  go_region_held3 (λW=>W.cell? ⟨rg,0,none⟩=some (.slice rd rl.length rc)/\W.cell? ⟨rg,1,none⟩=some (.slice pd o.length pc)/\W.cell? ⟨rg,2,none⟩=some (.string pl)/\W.cell? ⟨w.heap.size,0,none⟩=some (.string p)/\W.cell? ⟨w.heap.size,1,none⟩=some (.slice ad a.length ac)) (go_keep) ((go_at_call 164;refine(RX.out _ (by exact(aaj _ _).drew)).mono ?_;rintro e w2 ⟨rfl,cX⟩;obtain⟨⟨k0,k1,k2,_⟩,⟨k3,k4⟩,_⟩:=O.out w2 cX))
  all_goals (go_wp2_with fail;go_meet;exact⟨rfl,cX⟩)
 ·
  obtain⟨rfl,mM⟩:=hcut;clear c0 c1 c2 N M D Y J I E xl;obtain⟨⟨c0,c1,c2,N,M,D,Y⟩,⟨J,I⟩,E,xl,ju⟩:=O.out wc mM.out;have t:=QW (w:=w) E (aaj wc.heap.size wc);have kc0:=t.c0;have kc1:=t.c1;have kc2:=t.c2;have kf0:=t.fz 0;have kf1:=t.fz 1;have kf2:=t.fz 2;cases B with
  | false=>
   clear RX HFM HFG O;have lF:=aj ju
   go_wp2_with fail
   refine aaT (v:=.tuple #[.agg #[.bool false,.bool false,.int .i64 0],.int .i64 6]) ?_ rfl ⟨by simp,((lF.out.setCell (p:=⟨w.heap.size+1,0,none⟩) (by simp) _).setCell (p:=⟨w.heap.size+1,1,none⟩) (by simp) _).setCell (p:=⟨w.heap.size+1,2,none⟩) (by simp) _⟩;refine aeO (aU rfl rfl (jt t.aY) Tryz.underlying52 rfl (by kernel_rfl)) ?_;rfl
  | true=>
   clear kc0 kc1 kc2 kf0 kf1 kf2 t
   go_upto_region 5 with fail
   obtain⟨j,xO⟩:∃j,j=wc.alloc (.cells #[.bool false,.bool false,.int .i64 0] 52):=⟨_,rfl⟩;rw[<-xO];have dp:Below wc.heap.size wc j:=by rw[xO];exact aM
   have zV:j.heap[wc.heap.size]?=some (.cells #[.bool false,.bool false,.int .i64 0] 52 (0,0)):=by rw[xO];exact By _ _
   have X:Hid (Below w1.heap.size w1 j):=mM.out.trans (dp.mono mM.out.size);have Z:Hid (∀W,Below j.heap.size j W->W.heap[wc.heap.size]?=some (.cells #[.bool false,.bool false,.int .i64 0] 52 (0,0))/\Below w1.heap.size w1 W):=λW i=>⟨(i.block _ (lt_of_heap zV)).trans zV,X.out.trans (i.mono X.out.size)⟩;have QM:=aj xl;clear xO dp zV c0 c1 c2 N M D Y J I E xl ju mM RX;obtain⟨⟨c0,c1,c2,N,M,D,Y⟩,⟨J,I⟩,E,xl,_⟩:=O.out j X.out;have HF3:Hid (∀W,Below j.heap.size j W->Calls prog 165 #[.slice md out.length mc,.agg #[.string p,.slice ad a.length ac]] W λe w'=>e=.returned (.int .i64 (zm))/\Below j.heap.size j w'):=λW i=>(HFM.out W (X.out.trans (i.mono X.out.size))).mono (λe w' h=>⟨h.1,i.trans (h.2.mono i.size)⟩);have HG3:Hid (∀W,Below j.heap.size j W->Calls prog 165 #[.slice gd G.length gc,.agg #[.string p,.slice ad a.length ac]] W λe w'=>e=.returned (.int .i64 (zg))/\Below j.heap.size j w'):=λW i=>(HFG.out W (X.out.trans (i.mono X.out.size))).mono (λe w' h=>⟨h.1,i.trans (h.2.mono i.size)⟩);obtain⟨u,IW⟩:∃u,u=wc.heap.size:=⟨_,rfl⟩;rw[<-IW]at Z QM ⊢;clear IW
   go_cut [8]from 19 to 45 (λv8 wx=>v8=.int .i64 (zm)/\Hid (Below j.heap.size j wx))
   ·
    go_region_held3 (λW=>W.cell? ⟨rg,4,none⟩=some (.slice md out.length mc)/\W.cell? ⟨w.heap.size,0,none⟩=some (.string p)/\W.cell? ⟨w.heap.size,1,none⟩=some (.slice ad a.length ac)) (go_keep) ((go_at_call 165;refine(HF3.out _ (by exact(aaj _ _).drew)).mono ?_;rintro e w4 ⟨rfl,jL⟩;obtain⟨⟨_,_,_,_,k0,_,_⟩,⟨k3,k4⟩,_⟩:=O.out w4 (Z.out w4 jL).2))
    all_goals (go_wp2_with fail;go_meet;exact⟨rfl,jL⟩)
   ·
    obtain⟨rfl,zU⟩:=hcut;clear c0 c1 c2 N M D Y J I E xl;obtain⟨⟨c0,c1,c2,N,M,D,Y⟩,⟨J,I⟩,E,xl,_⟩:=O.out wc (Z.out wc zU.out).2;obtain⟨w4,rfl⟩:∃x,x=wc:=⟨wc,rfl⟩
    go_upto_region 6 with fail
    go_cut [9]from 25 to 45 (λv9 wx=>v9=.int .i64 (zg)/\Hid (Below j.heap.size j wx))
    ·
     go_region_held3 (λW=>W.cell? ⟨rg,3,none⟩=some (.slice gd G.length gc)/\W.cell? ⟨w.heap.size,0,none⟩=some (.string p)/\W.cell? ⟨w.heap.size,1,none⟩=some (.slice ad a.length ac)) (go_keep) ((go_at_call 165;refine(HG3.out _ (by exact zU.out.drew)).mono ?_;rintro e w5 ⟨rfl,fR⟩;obtain⟨⟨_,_,_,k0,_,_,_⟩,⟨k3,k4⟩,_⟩:=O.out w5 (Z.out w5 fR).2))
     all_goals (go_wp2_with fail;go_meet;exact⟨rfl,fR⟩)
    ·
     obtain⟨rfl,qA⟩:=hcut;clear c0 c1 c2 N M D Y J I E xl;obtain⟨⟨c0,c1,c2,N,M,D,Y⟩,⟨J,I⟩,E,xl,ju⟩:=O.out wc (Z.out wc qA.out).2;have V:=(Z.out wc qA.out).1;have t:=QW (w:=w) E (aaj wc.heap.size wc);have kc0:=t.c0;have kc1:=t.c1;have kc2:=t.c2;have kf0:=t.fz 0;have kf1:=t.fz 1;have kf2:=t.fz 2;have t0:wc.cell? ⟨u,0,none⟩=some (.bool false):=by rw[aq V];rfl
     have t1:wc.cell? ⟨u,1,none⟩=some (.bool false):=by rw[aq V];rfl
     have t2:wc.cell? ⟨u,2,none⟩=some (.int .i64 0):=by rw[aq V];rfl
     have tf0:=aJ V 0;have tf1:=aJ V 1;have tf2:=aJ V 2;have tl:=lt_of_heap V;have tne:u≠w.heap.size+1:=by have:=QM.out;omega
     have Ui:w.heap.size+1≠u:=by have:=QM.out;omega
     have lF:=aj ju;have XN:Hid (w.heap.size<=u):=by
      have:=QM.out;show _<=_;omega
     have HMX:Hid ((bm=true/\∃q:Nat,zm=q/\q<out.length/\∃g,cd=some ⟨g,0,none⟩/\g<wc.heap.size/\wc.cell? ⟨g,q,none⟩=some (.int .i64 (cn:Nat))/\∃A,wc.heap[g]?=some (.cells A 3 (0,0)))\/(bm=false/\zm=-1/\cn=0)):=by
      rcases RJ.out with⟨F,q,U,q3,q4⟩ | q
      ·exact .inl ⟨F,q,U,q3,q4 wc (Z.out wc qA.out).2⟩
      ·exact .inr q
     have HKT:=aj t;have U9:=aj V;clear HFM HFG O Z HF3 HG3 qA zU X ju t V E xl QM RJ;have hgv:=HGV.out;rcases HMX.out with⟨rfl,q,rfl,zW,g,rfl,jy,wQ,rY⟩ | ⟨rfl,rfl,rfl⟩
     ·have Ws:decide ((0:Int)<=(q:Int))=true:=aap (by omega);have j1:(0:Int)<=(q:Int):=by omega
      have j2:(q:Int)<out.length:=by omega
      obtain⟨ap6,rY⟩:=rY;have gne:g≠u:=fM rY U9.out;have apo:u≠g:=Ne.symm gne;have gre:rg≠u:=by
       intro e;rw[e,aq U9.out]at D;simp at D
      have aqQ:u≠rg:=Ne.symm gre;clear rY;subst hgv
      go_wp2_with fail
      refine aaT (v:=.tuple #[.agg #[.bool (decide (0<=zg)),.bool true,.int .i64 (cn:Nat)],.int .i64 0]) ?_ rfl ⟨rfl,(((((lF.out.setCell (p:=⟨u,0,none⟩) XN.out _).setCell (p:=⟨u,1,none⟩) XN.out _).setCell (p:=⟨u,2,none⟩) XN.out _).setCell (p:=⟨w.heap.size+1,0,none⟩) (by simp) _).setCell (p:=⟨w.heap.size+1,1,none⟩) (by simp) _).setCell (p:=⟨w.heap.size+1,2,none⟩) (by simp) _⟩;refine aeO (aU rfl rfl (jt (((abO _ _ _ _ Ui).trans ((abO _ _ _ _ Ui).trans (abO _ _ _ _ Ui))).trans HKT.out.aY)) Tryz.underlying52 rfl (by kernel_rfl)) ?_;rfl
     ·subst hgv;have Ws:decide ((0:Int)<=(-1:Int))=false:=by decide
      go_wp2_with fail
      refine aaT (v:=.tuple #[.agg #[.bool (decide (0<=zg)),.bool false,.int .i64 0],.int .i64 0]) ?_ rfl ⟨rfl,(((lF.out.setCell (p:=⟨u,0,none⟩) XN.out _).setCell (p:=⟨w.heap.size+1,0,none⟩) (by simp) _).setCell (p:=⟨w.heap.size+1,1,none⟩) (by simp) _).setCell (p:=⟨w.heap.size+1,2,none⟩) (by simp) _⟩;refine aeO (aU rfl rfl (jt ((abO _ _ _ _ Ui).trans HKT.out.aY)) Tryz.underlying52 rfl (by kernel_rfl)) ?_;rfl
/- axiomref: All. -/
theorem Bh{w e t:World}{x i bd}{y j bc xn:Nat}{l}{u:ByteArray}{X:FI}{o:Obj}(h:bl e w.heap.size x y l/\e.ownsRow w.heap.size 9 1 (.slice bd xn bc) xn (strCells X.args)/\Below w.heap.size w e)(H:X.pred=u/\X.args.length=xn)(A:(e.alloc o).grownBy t (Value.slice x l.length y).ownBlock)(F:t.ownsRow w.heap.size 48 2 (.slice i (l.length+1) j) (l.length+1) (ax l++[.string u,.slice bd xn bc])):bl t w.heap.size i j (l++[⟨u,X.args,.slice bd xn bc⟩])/\Below w.heap.size w t:=by
 have D:Below e.heap.size e (e.alloc o):=aM;have hs:=h.2.2.size;refine⟨bl.app (h.1.below D) ?_ A F,(h.2.2.alloc hs o).grown A (by simp;omega) (λq E=>(h.1.row.lt q E).1)⟩;intro f B;simp only[BY,acC,aeH]at B;subst B;show World.ownsRow _ _ _ _ _ X.args.length _;rw[H.2];exact ae h.2.1 D
theorem IA(w rg rl o pl G out bs hd rv pv gv mv cv)(h:qD w rg rl o pl G out bs hd rv pv gv mv cv)(jE:out.length<=200)(I:∀f,f∈out->f.args.length<=1000)(p):
 Calls prog 96 #[.pointer (some ⟨rg,0,none⟩),.string p] w λe w'=>Below w.heap.size w w'/\if yi o p<0 then e=.returned (.tuple #[.slice none 0 0,.int .i64 6])else ∃j q l,e=.returned (.tuple #[.slice j (List.length l) q,.int .i64 0])/\bl w' w.heap.size j q l/\l.map FI.f=(out.map FI.f).filter λf=>decide (f.1=p):=by
 obtain⟨rd,rc,e1,t⟩:=h.rules;obtain⟨pd,pc,e2,h2⟩:=h.lj;obtain⟨md,mc,e4,h4⟩:=h.model;subst e1 e2 e4;obtain⟨c0,c1,c2,_,c4,_,_,_,_,M⟩:=iA h.aY;obtain⟨B,fC,cE,ch,cz⟩:=abF Tryz.kI;have O:Hid (prog.info? 48=some B/\B.zero=some (.agg #[.string ByteArray.empty,.slice none 0 0])/\B.size=2/\B.bytes=40):=⟨fC,cE,ch,cz⟩;clear fC cE ch cz;have LC:Hid (Calls prog 170 #[.agg #[.slice rd rl.length rc,.slice pd o.length pc,.string pl],.string p] w λe w'=>e=.returned (.int .i64 (yi o p))/\Hid (Below w.heap.size w w')):=(uL w rd rl.length rc pd pc o h2 pl p).mono (λe w' h=>⟨h.1,by rw[h.2];exact aM⟩);have HC:Hid (∀W,Below w.heap.size w W->W.cell? ⟨rg,4,none⟩=some (.slice md out.length mc)/\rg<W.heap.size/\bJ W md mc out):=λW Z=>⟨by rw[Z.cell M];exact c4,aa7 M Z.size,(h4.below Z).KM⟩;have Sa:=aj I;generalize yi o p=z at*;clear h t h2 h4 I;by_cases D:z<0
 ·simp only[aa3 D]
  go_enter func96,ntmps96
  have Y:decide (z<0)=true:=aap D
  go_wp2_with (go_at_call 170;refine LC.out.mono ?_;rintro e w1 ⟨rfl,N⟩)
  go_ret2
  exact⟨N.out,rfl⟩
 ·simp only[aaD D]
  go_enter func96,ntmps96
  have Y:decide (z<0)=false:=aab D;clear D
  go_wp2_with (go_at_call 170;refine LC.out.mono ?_;rintro e w1 ⟨rfl,N⟩)
  go_loopw [7,8] (λlv iv wr=>∃(i:Nat) (j:Option Addr) (q:Nat) (l:List FI),i<=out.length/\iv=.int .i64 i/\lv=.slice j l.length q/\l.length<=i/\Hid (bl wr w.heap.size j q l/\l.map FI.f=((out.map FI.f).take i).filter (λf=>decide (f.1=p))/\Below w.heap.size w wr)) (λ_ iv _=>out.length-(intOf iv).toNat)
  ·exact⟨0,none,0,[],IS _,rfl,rfl,OF _,bl.nil _ _,by simp,N.out⟩
  ·
   clear N c4 M c0 c1 c2;obtain⟨i,j,q,l,hi,rfl,rfl,nX,H⟩:=hrel;obtain⟨c4,M,u⟩:=HC.out wr H.out.2.2;by_cases t:i<out.length
   ·have gD:decide ((i:Int)<out.length)=true:=aap (by omega);have hm:=IN t;obtain⟨g,rfl,hg,wQ,d0,d1⟩:=u.at_ t;obtain⟨yd,yc,hy⟩:=ah (u.each _ hm);have b1:(0:Int)<=(i:Int):=by omega
    have b2:(i:Int)<out.length:=by omega
    have cp:=H.out.2.2.size;have U:Hid (((out.map FI.f).take (i+1)).filter (λf=>decide (f.1=p))=((out.map FI.f).take i).filter (λf=>decide (f.1=p))++[(out[i]).f].filter (λf=>decide (f.1=p))):=by
     show _=_;rw[aaZ,AS (by simpa using t),List.filter_append];simp
    by_cases F:(out[i]).pred=p
    ·have V:((out[i]).pred.toList==p.toList)=true:=by rw[F];simp
     have tG:Hid (Calls prog 168 #[.agg #[.string (out[i]).pred,(out[i]).av]] wr λe w'=>∃bd bc,e=.returned (.agg #[.string (out[i]).pred,.slice bd (out[i]).args.length bc])/\w.heap.size<=w'.heap.size/\Hid (bl w' w.heap.size j q l/\w'.ownsRow w.heap.size 9 1 (.slice bd (out[i]).args.length bc) (out[i]).args.length (strCells (out[i]).args)/\Below w.heap.size w w')):=by
      refine(JQ wr (u.each _ hm) (by have:=Sa.out _ hm;omega)).mono ?_;rintro e w' ⟨bd,bc,rfl,q1,q2⟩;have hb:=H.out.2.2.trans (q2.mono cp);exact⟨bd,bc,rfl,hb.size,H.out.1.below q2,aD q1 cp,hb⟩
     have HE:Hid ((out[i]).f.1=p):=F;have HL:=aj H.out.2.1;rw[hy]at d1 tG;generalize hX:out[i]=X at*;generalize We:X.pred=x at*;generalize E:X.args.length=xn at*;have HX:Hid (X.pred=x/\X.args.length=xn):=⟨We,E⟩;clear hy H u hm F hX We E
     go_wp2_with (first | (go_at_call 168;refine tG.out.mono ?_;rintro e w5 ⟨bd,bc,rfl,hs5,H5⟩) | (at_builtin;refine abp _ rfl (.tmp 36) (.tmp 45) 37 rfl w.heap.size 48 B _ 2 40 abX O.out.1 O.out.2.1 O.out.2.2.1 O.out.2.2.2 rfl (by decide) (.slice j l.length q) l.length (ax l) rfl (H5.out.1.row.alloc _) ⟨w5.heap.size,0,none⟩ 1 1 [.string x,.slice bd xn bc] rfl rfl (abC (By _ _)) (by simp[Value.oneCell']) eI (by omega) (by simp;omega) ?_;intro v6 w6 qG nF _;obtain⟨y,A,rfl⟩:=ah qG;have H6:Hid (bl w6 w.heap.size y A (l++[⟨x,X.args,.slice bd xn bc⟩])/\Below w.heap.size w w6):=Bh H5.out HX.out nF qG))
     go_roundw
     ·
      have hlen:(l++[(⟨x,X.args,.slice bd xn bc⟩:FI)]).length=l.length+1:=by simp
      refine⟨i+1,y,A,l++[⟨x,X.args,.slice bd xn bc⟩],t,by go_num,by rw[hlen],by omega,H6.out.1, ?_,H6.out.2⟩;rw[U.out,aa6,HL.out];congr 1;have J:=HE.out;have h8:=HX.out.1;simp only[FI.f]at J;simp[FI.f,J,<-h8]
     ·(simp[intOf];omega)
    ·have V:((out[i]).pred.toList==p.toList)=false:=by
      rw[jB];exact aab F
     have HN:Hid (bl wr w.heap.size j q l/\l.map FI.f=((out.map FI.f).take (i+1)).filter (λf=>decide (f.1=p))/\Below w.heap.size w wr):=by
      refine⟨H.out.1, ?_,H.out.2.2⟩;rw[U.out,<-H.out.2.1];simp[FI.f,F]
     clear H u hy hm U;generalize (out[i]).pred=x at*
     go_wp2_with fail
     go_roundw
     ·exact⟨i+1,j,q,l,t,by go_num,rfl,by omega,HN.out.1,HN.out.2.1,HN.out.2.2⟩
     ·(simp[intOf];omega)
   ·have gD:decide ((i:Int)<out.length)=false:=aab (by omega);have H9:Hid (bl wr w.heap.size j q l/\l.map FI.f=(out.map FI.f).filter (λf=>decide (f.1=p))/\Below w.heap.size w wr):=by
     have J:=H.out;rw[aaP (by simp;omega)]at J;exact J
    clear H u
    go_wp2_with fail
    go_ret2
    exact⟨H9.out.2.2,j,q,l,rfl,H9.out.1,H9.out.2.1⟩
/- axiomref: the parts of a digest, as far as that they come to an end. -/
def Vp(x:Int)(n:Nat):Int:=(bits .or .i64 (x/2^n) (wrap64 (x*2^(32-n)))).tmod 4294967296
theorem xQ(w x n)(i:n<=32):Calls prog 159 #[.int .i64 x,.int .i64 (n:Nat)] w λe w'=>e=.returned (.int .i64 (Vp x n))/\∃q,w'=w.drewN q:=by
 have u:(0:Int)<=(n:Int):=by omega
 have t:(0:Int)<=32-(n:Int):=by omega
 have j:IntKind.i64.wrap (32-(n:Int))=32-(n:Int):=by rw[aaR];omega
 go_enter func159,ntmps159
 go_wp2_with fail
 go_quiet (fail)
 go_wp2_with fail
 go_ret;exact⟨rfl,nq,rfl⟩
/- axiomref: constants: a row of 64 numbers. -/
def du(l:List Int):List Value:=l.map λz=>.int .i64 z
theorem IV(l k)(h:k<l.length):(du l)[k]?=some (.int .i64 l[k]):=by simp[du,h]
theorem Bc(w):Calls prog 157 #[] w λe w'=>∃g xs,e=.returned (.slice (some ⟨g,0,none⟩) 64 64)/\xs.length=64/\w'.ownsRow w.heap.size 3 1 (.slice (some ⟨g,0,none⟩) 64 64) 64 (du xs)/\Below w.heap.size w w':=by
 go_enter func157,ntmps157
 go_wp2_with fail
 go_ret;refine⟨w.heap.size,[1116352408,1899447441,3049323471,3921009573,961987163,1508970993,2453635748,2870763221,3624381080,310598401,607225278,1426881987,1925078388,2162078206,2614888103,3248222580,3835390401,4022224774,264347078,604807628,770255983,1249150122,1555081692,1996064986,2554220882,2821834349,2952996808,3210313671,3336571891,3584528711,113926993,338241895,666307205,773529912,1294757372,1396182291,1695183700,1986661051,2177026350,2456956037,2730485921,2820302411,3259730800,3345764771,3516065817,3600352804,4094571909,275423344,430227734,506948616,659060556,883997877,958139571,1322822218,1537002063,1747873779,1955562222,2024104815,2227730452,2361852424,2428436474,2756734187,3204031479,3329325298],rfl,rfl, ?_,aM⟩;exact Eo (w:=w) (b:=w.heap.size) (e:=3) rfl (by decide) (OF _)
