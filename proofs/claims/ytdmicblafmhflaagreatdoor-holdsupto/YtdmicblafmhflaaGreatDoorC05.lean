/- Package follow: the state of a search as it lies. -/
import Derived.Test.YtdmicblafmhflaaGreatDoorC04
set_option linter.unusedSimpArgs false
set_option linter.unusedVariables false
set_option maxHeartbeats 4000000
set_option maxRecDepth 100000
namespace Go.Proofs.YtdmicblafmhflaaGreatDoor
open Go.Proofs.Tryz Go.RowKit
variable{s:En.dH En.ba}{m:List (ByteArray×Nat)}{rs:List Ax.aI}{l:List MR}{S:List Nat}{mb p b sb fc rc n:Nat}{o:Obj}{fd rd:Option Addr}{rv:Value}{w w' w1 w2:World}
section
open Go.RowKit Go.Maps Go.WideMaps Go.WideElems
open Go.Sort (grow)
def cU(v:Value):Option (DataW Unit×List MemPlace):=match v with
 | .pointer none=>some (.lit (.int .i64 (-1)),[])
 | .pointer (some ⟨g,0,none⟩)=>some (.lit (.int .i64 g),[])
 | _=>none
theorem lX{v}{g:Nat}{ps}(h:cU v=some (.lit (.int .i64 g),ps)):v=.pointer (some ⟨g,0,none⟩):=by
 unfold cU at h;split at h
 ·simp at h
 ·grind
 ·cases h
structure iM(w:World)(mb:Nat)(m:List (ByteArray×Nat)):Prop where
 has:∃n D,w.ownsMap prog 9 cU mb n D/\n<=1000000/\∀p:ByteArray,Maps.has D (bj p)=(Ax.look m p).isSome/\∀g,Ax.look m p=some g->D.atKey (bj p) (.lit (.int .i64 (-1)))=.lit (.int .i64 g)
theorem iM.kept(h:iM w mb m)(j:Kb S w w')(t:¬mb∈S):iM w' mb m:=by
 obtain⟨n,D,⟨es,x,q,e⟩,i,u⟩:=h.has;exact⟨n,D,⟨es,x,j.heap q t,e⟩,i,u⟩
theorem iM.below(h:iM w mb m)(e:Below w.heap.size w w'):iM w' mb m:=h.kept (Kb.bD e []) (by simp)
theorem iM.block(h:iM w mb m):∃es e,w.heap[mb]?=some (.map es e):=by
 obtain⟨n,D,⟨es,e,i,j⟩,q,t⟩:=h.has;exact⟨es,e,i⟩
theorem iM.look(h:iM w mb m){p g}(x:Ax.look m p=some g)(B:p.size<=1000000){t e}(u:prog.underlying t=some (.map 9 e))(q:(zeroValue e).run prog w=.ok (.pointer none) w):
 (Instr.lookup t (.map (some mb)) (.string p) false).run prog w=.ok (.pointer (some ⟨g,0,none⟩)) w:=by
 obtain⟨n,D,A,E,y⟩:=h.has;obtain⟨v,ps,j,i⟩:=A.lookup Tryz.fU u q (zd:=.lit (.int .i64 (-1))) (zp:=[]) rfl (key:=.string p) (kl:=bj p) (keyOf_string_mk abK eI);rw[(y p).2 g x]at i;rw[j,lX i]
structure HT where
 nm:ByteArray
 pl:Nat
 g:Nat
 rd:Option Addr
 rc:Nat
 cd:Option Addr
 cc:Nat
 L:List (List ByteArray)
 C:List Nat
def HT.ok(w:World)(t:HT):Prop:=fL w t.g t.nm t.pl t.rd t.rc t.cd t.cc t.L t.C
def HT.cD(t:HT):List Nat:=lr t.g t.rd t.rc t.cd t.cc t.L.length
def HT.pk(t:HT):ByteArray×Nat:=(t.nm,t.g)
def HT.key(t:HT):ByteArray×Nat×Nat:=(t.nm,t.g,t.pl)
theorem HT.ok.types{t:HT}(h:t.ok w)(i:b∈t.cD):∃j T,w.heap[b]?=some (.cells j T (0,0))/\(T=117\/T=119\/T=3):=by
 unfold HT.cD lr at i;rcases BY.1 i with rfl | i
 ·exact⟨_,_,h.qw.aY,.inl rfl⟩
 ·rcases ZD.1 i with i | i
  ·rw[abh]at i;obtain⟨j,e⟩:=aP h.qw.rows.own i;grind
  ·rw[abh]at i;obtain⟨j,e⟩:=aP h.kx i;grind
def rS(f:En.ba):List Value:=.string f.1::f.2.map .string
def cG(l:List En.ba):List Value:=l.flatMap rS
def Yr(l:List En.ba):Prop:=∀f,f∈l->f.2.length=3
structure qp(w:World)(sb mb:Nat)(rv:Value)(fd:Option Addr)(fc:Nat)(T:List HT)(s:En.dH En.ba):Prop where
 aY:w.heap[sb]?=some (.cells #[rv,.map (some mb),.slice fd s.found.length fc] 322 (0,0))
 map:iM w mb (T.map HT.pk)
 fS:w.ownsRow 0 325 4 (.slice fd s.found.length fc) s.found.length (cG s.found)
 cK:∀t,t∈T->t.ok w
 apart:T.Pairwise λa b=>∀x,x∈a.cD->¬x∈b.cD
 names:(T.map HT.nm).Nodup
 rows:∀t,t∈T->∀r,r∈t.L↔(t.nm,r)∈s.found
 qq:∀t,t∈T->t.C=t.L.map λr=>s.count (t.nm,r)
 zero:∀f,¬f∈s.found->s.count f=0
 three:Yr s.found
 short:∀t,t∈T->t.nm.size<=1000000
def eF(sb:Nat)(fd:Option Addr)(fc n:Nat)(T:List HT):List Nat:=sb::((Value.ownBlock (.slice fd n fc)).toList++T.flatMap HT.cD)
theorem qp.below{T}(h:qp w sb mb rv fd fc T s)(e:Below w.heap.size w w'):qp w' sb mb rv fd fc T s:=
 ⟨by rw[e.block sb (lt_of_heap h.aY)];exact h.aY,h.map.below e,ae h.fS e,λt i=>(h.cK t i).below e,h.apart,h.names,h.rows,h.qq,h.zero,h.three,h.short⟩
theorem sy:∀{T:List HT} (_:(T.map HT.nm).Nodup) {t:HT},t∈T->Ax.look (T.map HT.pk) t.nm=some t.g
 | [],_,t,h=>by cases h
 | a::T,i,t,h=>by
  rw[abn,adH]at i;show Ax.look ((a.nm,a.g)::T.map HT.pk) t.nm=_;rw[eR];rcases BY.1 h with rfl | h
  ·rw[aa3 rfl]
  ·have:¬a.nm=t.nm:=λe=>i.1 (by rw[e];exact aax.2 ⟨t,h,rfl⟩);rw[aaD this];exact sy i.2 h
theorem lW{T}(h:qp w sb mb rv fd fc T s)(i:b∈eF sb fd fc s.found.length T):∃j U,w.heap[b]?=some (.cells j U (0,0))/\(U=322\/U=325\/U=117\/U=119\/U=3):=by
 unfold eF at i;rcases BY.1 i with rfl | i
 ·exact⟨_,_,h.aY,.inl rfl⟩
 ·rcases ZD.1 i with i | i
  ·rw[abh]at i;obtain⟨j,e⟩:=aP h.fS i;grind
  ·obtain⟨t,q,i⟩:=aa9.1 i;obtain⟨j,U,e,u⟩:=(h.cK t q).types i;grind
theorem HT.ok.kept{t:HT}(h:t.ok w)(e:Kb S w w')(i:∀b,b∈t.cD->¬b∈S):t.ok w':=fL.kept h e i
theorem HT.ok.lt{t:HT}(h:t.ok w)(i:b∈t.cD):b<w.heap.size:=by
 obtain⟨j,T,e,_⟩:=h.types i;exact lt_of_heap e
def HT.held(t:HT)(rd:Option Addr)(rc:Nat)(cd:Option Addr)(cc:Nat)(r:List ByteArray)(n:Nat):HT:=⟨t.nm,t.pl,t.g,rd,rc,cd,cc,Tb.put t.L r,Tb.qP t.L t.C r n⟩
theorem HT.Nb{t:HT}{cd}{cc:Nat}{r}(q:aZ w (.slice t.rd t.L.length t.rc) (.slice rd (Tb.put t.L r).length rc))(j:aZ w (.slice t.cd t.L.length t.cc) (.slice cd (Tb.put t.L r).length cc))(i:b∈(t.held rd rc cd cc r n).cD):b∈t.cD\/w.heap.size<=b:=by
 unfold HT.cD lr at i ⊢;rcases BY.1 i with rfl | i
 ·exact .inl (by simp[HT.held])
 ·rcases ZD.1 i with i | i
  ·rw[abh]at i;rcases q b i with e | e
   ·grind
   ·exact .inr e
  ·rw[abh]at i;rcases j b i with e | e
   ·grind
   ·exact .inr e
abbrev re(a b:HT):Prop:=∀x,x∈a.cD->¬x∈b.cD
theorem re.symm{a b}(h:re a b):re b a:=λx i e=>h x e i
theorem Mf{A B t t'}(F:∀u,u∈A++t::B->u.ok w)(y:(A++t::B).Pairwise re)(E:Kb t.cD w w1)(H:t'.ok w1)(O:∀b,b∈t'.cD->b∈t.cD\/w.heap.size<=b):
 (∀u,u∈A++t'::B->u.ok w1)/\(A++t'::B).Pairwise re:=by
 rw[acO,acJ]at y;obtain⟨N,⟨M,J⟩,I⟩:=y;have V:∀a,a∈A->re a t:=λa U=>I a U t (by simp);have key:∀u,u.ok w->re u t->re u t':=by
  intro u i j x D W;rcases O x W with e | e
  ·exact j x D e
  ·have:=i.lt D;omega
 refine⟨?_, ?_⟩
 ·intro u i;rcases ZD.1 i with i | i
  ·exact(F u (by simp[i])).kept E (λb q=>V u i b q)
  ·rcases BY.1 i with rfl | i
   ·exact H
   ·exact(F u (by simp[i])).kept E (λb q=>(M u i).symm b q)
 ·rw[acO,acJ];refine⟨N,⟨?_,J⟩, ?_⟩
  ·grind
  ·grind
structure Ry(w:World)(sb mb:Nat)(rv:Value)(fd:Option Addr)(fc:Nat)(T:List HT)(F:List En.ba)(s:En.dH En.ba):Prop where
 aY:w.heap[sb]?=some (.cells #[rv,.map (some mb),.slice fd F.length fc] 322 (0,0))
 map:iM w mb (T.map HT.pk)
 fS:w.ownsRow 0 325 4 (.slice fd F.length fc) F.length (cG F)
 cK:∀t,t∈T->t.ok w
 apart:T.Pairwise re
 names:(T.map HT.nm).Nodup
 rows:∀t,t∈T->∀r,r∈t.L↔(t.nm,r)∈s.found
 qq:∀t,t∈T->t.C=t.L.map λr=>s.count (t.nm,r)
 zero:∀f,¬f∈s.found->s.count f=0
 three:Yr s.found
 short:∀t,t∈T->t.nm.size<=1000000
theorem we{f g}:g∈(En.hold s f n).found↔g=f\/g∈s.found:=by
 unfold En.hold;simp only;split
 ·grind
 ·grind
theorem qp.mid{W A B t}(h:qp w sb mb rv fd fc (A++t::B) s)(J:Below w.heap.size w W)
 {rd' rc' cd' cc' r}(hr:r.length=3)
 (rX:(t.held rd' rc' cd' cc' r n).ok w1)(F:Kb t.cD W w1)(h1:aZ W (.slice t.rd t.L.length t.rc) (.slice rd' (Tb.put t.L r).length rc'))(h2:aZ W (.slice t.cd t.L.length t.cc) (.slice cd' (Tb.put t.L r).length cc')):
 Ry w1 sb mb rv fd fc (A++t.held rd' rc' cd' cc' r n::B) s.found (En.hold s (t.nm,r) n)/\Kb t.cD w w1/\(∀b,b∈(t.held rd' rc' cd' cc' r n).cD->b∈t.cD\/w.heap.size<=b):=by
 have j:=h.below J;have H:t∈A++t::B:=by simp
 have M:=j.cK t H;have V:∀b,b∈t.cD->∀q U,W.heap[b]?=some (.cells q U (0,0))->(U=117\/U=119\/U=3):=by
  intro b D q U e;obtain⟨nK,U',e',hU⟩:=M.types D;rw[e]at e';simp only[AT,aa1]at e';rw[e'.2.1];exact hU
 have N:∀b,b∈(t.held rd' rc' cd' cc' r n).cD->b∈t.cD\/W.heap.size<=b:=λb D=>HT.Nb h1 h2 D;obtain⟨dR,qQ⟩:=Mf j.cK j.apart F rX N;have Z:=h.names;rw[aa6,abn,adn,adH]at Z;have yM:∀u,u∈A\/u∈B->u.nm≠t.nm:=by
  rintro u (i | i) e
  ·exact Z.2.2 u.nm (aax.2 ⟨u,i,rfl⟩) t.nm (by simp) e
  ·grind
 have I:∀u,u∈A++t.held rd' rc' cd' cc' r n::B->u=t.held rd' rc' cd' cc' r n\/(u∈A++t::B/\u.nm≠t.nm):=by grind
 refine⟨⟨?_, ?_, ?_,dR,qQ, ?_, ?_, ?_, ?_, ?_, ?_⟩,(Kb.bD J _).trans F,λb D=>?_⟩
 ·refine F.heap j.aY ?_;intro y;have:=V sb y _ _ j.aY;rcases this with e | e | e<;>cases e
 ·have e:(A++t.held rd' rc' cd' cc' r n::B).map HT.pk=(A++t::B).map HT.pk:=by simp[HT.pk,HT.held]
  rw[e];refine j.map.kept F ?_;intro y;obtain⟨es,ck,eb⟩:=j.map.block;obtain⟨q,U,X,_⟩:=M.types y;rw[eb]at X;cases X
 ·refine F.row j.fS ?_;intro b D y;obtain⟨q,e⟩:=aP j.fS D;have:=V b y _ _ e;rcases this with e | e | e<;>cases e
 ·have e:(A++t.held rd' rc' cd' cc' r n::B).map HT.nm=(A++t::B).map HT.nm:=by simp[HT.held]
  rw[e];exact h.names
 ·intro u i x;rw[we];rcases I u i with rfl | ⟨i,Y⟩
  ·show x∈Tb.put t.L r↔_;rw[Tb.CN,h.rows t H];constructor
   ·rintro(rfl | e)
    ·exact .inl rfl
    ·exact .inr e
   ·rintro(e | e)
    ·grind
    ·exact .inr e
  ·rw[h.rows u i];constructor
   ·exact .inr
   ·grind
 ·intro u i;rcases I u i with rfl | ⟨i,Y⟩
  ·show Tb.qP t.L t.C r n=(Tb.put t.L r).map _;rw[h.qq t H,Tb.SJ (M.qw.ord) r n _ (λy=>h.zero _ (λe=>y ((h.rows t H r).2 e)))];refine aep λx _=>?_;show _=(En.hold s (t.nm,r) n).count (t.nm,x);rw[En.jk];by_cases e:x=r
   ·subst e;simp
   ·simp[e]
  ·rw[h.qq u i];refine aep λx _=>?_;rw[En.jk,aaD (by simp only[abZ,not_and];exact λe=>absurd e Y),acV]
 ·intro g E;rw[En.jk];have O:¬g=(t.nm,r)/\¬g∈s.found:=by
   constructor
   ·intro e;exact E (we.2 (.inl e))
   ·intro e;exact E (we.2 (.inr e))
  rw[aaD O.1,acV];exact h.zero g O.2
 ·intro g E;rcases we.1 E with rfl | E
  ·exact hr
  ·exact h.three g E
 ·intro u i;rcases I u i with rfl | ⟨i,_⟩
  ·exact h.short t H
  ·exact h.short u i
 ·rcases N b D with e | e
  ·exact .inl e
  ·exact .inr (aaK J.size e)
end
/- Tables of what was given; maps of tables, as they are made. -/
section
open Go.RowKit Go.Maps Go.WideMaps Go.WideElems
def OG(D:DataW Unit)(m:List (ByteArray×Nat)):Prop:=
 ∀p:ByteArray,Maps.has D (bj p)=(Ax.look m p).isSome/\∀g,Ax.look m p=some g->D.atKey (bj p) (.lit (.int .i64 (-1)))=.lit (.int .i64 g)
theorem DT:OG (.map []) []:=λp=>⟨rfl,λn h=>by simp[Ax.look]at h⟩
theorem DM{D}(h:OG D m)(i:IsMap D){p}:OG (D.put (bj p) (.lit (.int .i64 n))) ((p,n)::m):=by
 intro q;rw[eR];by_cases e:p=q
 ·subst e;rw[aa3 rfl,has_put_same i (k:=bj p) aeU,atKey_put_same i (k:=bj p) aeU];grind
 ·have j:bj q≠bj p:=λt=>e (kL t).symm;rw[aaD e,has_put_other j,atKey_put_other j];exact h q
theorem iM.of{D}(h:w.ownsMap prog 9 cU mb n D)(e:n<=1000000)(i:OG D m):iM w mb m:=⟨n,D,h,e,i⟩
theorem mR:∀{m:List (ByteArray×Nat)} {p:ByteArray},¬p∈m.map Prod.fst->Ax.look m p=none
 | [],_,_=>rfl
 | (q,n)::m,p,h=>by
  rw[eR];simp only[abn,BY,not_or]at h;rw[aaD (λe=>h.1 e.symm)];exact mR h.2
structure GT where
 nm:ByteArray
 pl:Nat
 g:Nat
 rd:Option Addr
 rc:Nat
 L:List (List ByteArray)
def GT.ok(w:World)(t:GT):Prop:=cW w t.g 125 t.nm t.pl t.rd t.rc t.L []
def GT.cD(t:GT):List Nat:=t.g::(Value.ownBlock (.slice t.rd t.L.length t.rc)).toList
def GT.key(t:GT):ByteArray×Nat:=(t.nm,t.g)
theorem GT.ok.types{t:GT}(h:t.ok w)(j:b∈t.cD):∃i T,w.heap[b]?=some (.cells i T (0,0))/\(T=125\/T=119):=by
 unfold GT.cD at j;rcases BY.1 j with rfl | j
 ·exact⟨_,_,cW.aY h,.inl rfl⟩
 ·rw[abh]at j;obtain⟨i,e⟩:=aP (cW.rows h).own j;exact⟨i,_,e,.inr rfl⟩
theorem GT.ok.lt{t:GT}(h:t.ok w)(i:b∈t.cD):b<w.heap.size:=by
 obtain⟨j,T,e,_⟩:=h.types i;exact lt_of_heap e
theorem GT.ok.kept{t:GT}(h:t.ok w)(i:Kb S w w')(e:∀b,b∈t.cD->¬b∈S):t.ok w':=
 cW.kept h i (e t.g (by simp[GT.cD])) (λb j=>e b (by simp[GT.cD,j]))
theorem GT.ok.below{t:GT}(h:t.ok w)(e:Below w.heap.size w w'):t.ok w':=cW.below h e
abbrev Jb(a b:GT):Prop:=∀x,x∈a.cD->¬x∈b.cD
structure qS(w:World)(mb:Nat)(G:List GT):Prop where
 map:iM w mb (G.map GT.key)
 cK:∀t,t∈G->t.ok w
 apart:G.Pairwise Jb
 names:(G.map GT.nm).Nodup
 short:∀t,t∈G->t.nm.size<=1000000
def iT(mb:Nat)(G:List GT):List Nat:=mb::G.flatMap GT.cD
theorem qS.below{G}(h:qS w mb G)(e:Below w.heap.size w w'):qS w' mb G:=⟨h.map.below e,λt i=>(h.cK t i).below e,h.apart,h.names,h.short⟩
theorem qS.kept{G}(h:qS w mb G)(i:Kb S w w')(j:∀b,b∈iT mb G->¬b∈S):qS w' mb G:=by
 refine⟨h.map.kept i (j mb (by simp[iT])),λt e=>(h.cK t e).kept i λb q=>j b ?_,h.apart,h.names,h.short⟩;unfold iT;simp only[BY,aa9];exact .inr ⟨t,e,q⟩
theorem qS.lt{G}(h:qS w mb G)(i:b∈iT mb G):b<w.heap.size:=by
 unfold iT at i;rcases BY.1 i with rfl | i
 ·obtain⟨es,q,e⟩:=h.map.block;exact lt_of_heap e
 ·obtain⟨t,j,i⟩:=aa9.1 i;exact(h.cK t j).lt i
theorem kK:∀{G:List GT} (_:(G.map GT.nm).Nodup) {t:GT},t∈G->Ax.look (G.map GT.key) t.nm=some t.g
 | [],_,t,h=>by cases h
 | a::G,i,t,h=>by
  rw[abn,adH]at i;show Ax.look ((a.nm,a.g)::G.map GT.key) t.nm=_;rw[eR];rcases BY.1 h with rfl | h
  ·rw[aa3 rfl]
  ·have:¬a.nm=t.nm:=λe=>i.1 (by rw[e];exact aax.2 ⟨t,h,rfl⟩);rw[aaD this];exact kK i.2 h
end
/- facts.Given.Come. -/
theorem OD(w g nm pl rd rc L){a b c}(h:cW w g 125 nm pl rd rc L [])(I:L.length<=999999):
 Calls prog 127 #[.pointer (some ⟨g,0,none⟩),.agg #[.string a,.string b,.string c]] w λe w'=>∃rd' rc',
  e=.returned (.tuple #[])/\cW w' g 125 nm pl rd' rc' (Tb.put L [a,b,c]) []/\
   Kb (g::(Value.ownBlock (.slice rd L.length rc)).toList) w w'/\aZ w (.slice rd L.length rc) (.slice rd' (Tb.put L [a,b,c]).length rc'):=by
 obtain⟨w0,j⟩:∃w0,w0=w.alloc (.cells #[.string a,.string b,.string c] 119):=⟨_,rfl⟩;have q:Below w.heap.size w w0:=by rw[j];exact aM
 have i:w0.heap[w.heap.size]?=some (.cells #[.string a,.string b,.string c] 119 (0,0)):=by rw[j];exact By w _
 have N:=mA i;have M:=ow i;have J:=rq i;have B:=h.below q;have H:Hid (∀W,Below w0.heap.size w0 W->Calls prog 196 #[.pointer (some ⟨g,0,none⟩),.agg #[.string a,.string b,.string c]] W λe w1=>∃rd' rc' x y,
  e=.returned (.tuple #[x,y])/\Hid (cW w1 g 125 nm pl rd' rc' (Tb.put L [a,b,c]) []/\
   Kb (g::(Value.ownBlock (.slice rd L.length rc)).toList) w w1/\aZ w (.slice rd L.length rc) (.slice rd' (Tb.put L [a,b,c]).length rc'))):=by
  intro W A;refine(KA W g nm pl rd rc L a b c (B.below A) I).mono ?_;rintro e w1 ⟨rd',rc',rfl,F,E,D⟩;have u:Below w.heap.size w W:=q.trans (A.mono q.size);exact⟨rd',rc',_,_,rfl,F,(Kb.bD u _).trans E,D.mono u.size⟩
 have O:=lt_of_heap h.aY;clear h B i
 go_enter func127,ntmps127
 go_wp2_with fail
 rw[<-j];clear j
 go_region_with (go_at_call 196;refine(H.out _ (by exact(aaj _ _).drew)).mono ?_;rintro e w1 ⟨rd',rc',x,y,rfl,t⟩)
 all_goals
  go_end0;exact⟨rd',rc',rfl,t.out.1,t.out.2.1,t.out.2.2⟩
/- The predicates of a program: in the order of their names, each once. No program here. -/
namespace Pd
open Tb
abbrev Pr:=ByteArray×Nat
def uO(acc:List Pr)(x:Pr):List Pr:=if acc.getLast?=some x then acc else acc++[x]
def mY(l:List Pr):List Pr:=l.foldl uO []
theorem tj(l x):mY (l++[x])=uO (mY l) x:=by simp[mY]
theorem IM{e x}:(uO e x).getLast?=some x:=by
 unfold uO;split
 ·assumption
 ·simp
theorem Qw{l x}:(mY (l++[x])).getLast?=some x:=by rw[tj];exact IM
theorem Lf{e x y}:y∈uO e x↔y∈e\/y=x:=by
 unfold uO;split
 ·grind
 ·simp
theorem Gz{p:List Pr->Prop}(h0:p [])(h1:∀l x,p l->p (l++[x]))(l):p l:=by
 rw[<-List.reverse_reverse l]
 induction l.reverse with
 | nil=>exact h0
 | cons x t ih=>rw[List.reverse_cons];exact h1 _ _ ih
theorem CO(l){y}:y∈mY l↔y∈l:=by
 induction l using Gz with
 | h0=>rfl
 | h1 l x ih=>rw[tj,Lf,ih];simp
theorem jq(D:List Pr){m}(hm:m<D.length)(t:0<m):mY (D.take (m+1))=if D[m]=D[m-1]then mY (D.take m)else mY (D.take m)++[D[m]]:=by
 have e:D.take (m+1)=D.take m++[D[m]]:=by rw[aaZ,AS hm];rfl
 have q:D.take m=D.take (m-1)++[D[m-1]]:=by
  have:=aaZ (l:=D) (i:=m-1);rw[show m-1+1=m by omega,AS (by omega)]at this;exact this
 have j:(mY (D.take m)).getLast?=some D[m-1]:=by rw[q];exact Qw
 rw[e,tj,uO,j];by_cases h:D[m-1]=D[m]
 ·rw[aa3 (by rw[h]),aa3 h.symm]
 ·grind
theorem DU(D:List Pr)(h:0<D.length):mY (D.take 1)=[D[0]]:=by
 cases D with
 | nil=>simp at h
 | cons x D=>rfl
def qE(l:List Pr):Prop:=l.Pairwise λa b=>slt a.1 b.1=true
theorem wX:∀{a b:List Pr},qE a->qE b->(∀x,x∈a↔x∈b)->a=b
 | [],[],_,_,_=>rfl
 | [],y::b,_,_,h=>by have:=(h y).2 (by simp);simp at this
 | x::a,[],_,_,h=>by have:=(h x).1 (by simp);simp at this
 | x::a,y::b,D,B,h=>by
  obtain⟨j,t⟩:=acJ.1 D;obtain⟨A,F⟩:=acJ.1 B;have e:x=y:=by
   rcases BY.1 ((h x).1 (by simp))with e | e
   ·exact e
   ·rcases BY.1 ((h y).2 (by simp))with u | u
    ·exact u.symm
    ·have E:=A x e;have w:=j y u;rw[xG E]at w;cases w
  subst e;have q:∀{z:Pr},slt x.1 z.1=true->z≠x:=by
   rintro z i rfl;rw[nh]at i;cases i
  rw[wX t F (λz=>?_)];constructor
  ·intro i;rcases BY.1 ((h z).1 (by simp[i]))with e | e
   ·exact absurd e (q (j z i))
   ·exact e
  ·intro i;rcases BY.1 ((h z).2 (by simp[i]))with e | e
   ·exact absurd e (q (A z i))
   ·exact e
def One(l:List Pr):Prop:=∀a,a∈l->∀b,b∈l->a.1=b.1->a=b
theorem Th(l)(hs:l.Pairwise λa b=>slt b.1 a.1=false)(h1:One l):qE (mY l):=by
 induction l using Gz with
 | h0=>exact List.Pairwise.nil
 | h1 l x ih=>
  rw[acO]at hs;obtain⟨F,_,E⟩:=hs;have B:∀y,y∈l->slt x.1 y.1=false:=λy hy=>E y hy x (by simp);have i:=ih F (λa N b M=>h1 a (by simp[N]) b (by simp[M]));rw[tj,uO];split
  ·exact i
  ·rename_i I;unfold qE;rw[acO];refine⟨i,List.pairwise_singleton _ _, ?_⟩;intro y hy z A;simp only[aae]at A;subst A;have D:=(CO l).1 hy;cases J:slt y.1 z.1 with
   | true=>rfl
   | false=>
    exfalso;have U:=wC J (B y D);have O:=h1 y (by simp[D]) z (by simp) U;subst O;obtain⟨q,j⟩:∃q,(mY l).getLast?=some q:=by
     cases h:(mY l).getLast? with
     | none=>rw[List.getLast?_eq_none_iff]at h;rw[h]at hy;simp at hy
     | some q=>exact⟨q,rfl⟩
    have W:q≠y:=λe=>I (by rw[j,e]);have V:mY l=(mY l).dropLast++[q]:=by
     have u:mY l≠[]:=λe=>by rw[e]at hy;simp at hy
     have:=List.dropLast_concat_getLast u;have e3:(mY l).getLast u=q:=by rw[List.getLast?_eq_some_getLast u]at j;simpa using j
     rw[e3]at this;exact this.symm
    have t:y∈(mY l).dropLast:=by grind
    unfold qE at i;rw[V,acO]at i;have H:=i.2.2 y t q (by simp);have w:=B q ((CO l).1 (List.mem_of_getLast? j));rw[H]at w;cases w
end Pd
/- strings.Builder's String; plainForm. -/
theorem below_freeze{B a}(h:Below B a w){p}(e:B<=p.block):Below B a (w.freeze p n):=by
 refine h.trans ⟨?_, ?_, ?_, ?_, ?_⟩
 all_goals unfold World.freeze
 all_goals split
 all_goals first | rfl | exact OF _ | skip
 ·simp
 ·intro k _;rfl
 ·grind
theorem Fx(B:Nat){l}(h:Tx B w b l)(A:l≠[]):
 Calls prog 185 #[.pointer (some ⟨b,0,none⟩)] w λe w'=>e=.returned (.string ⟨l.toArray⟩)/\Below B w w':=by
 obtain⟨p,v,hp,u,t,_⟩:=h;have J:l.length≠0:=by simpa using A
 have y:=λg q=>acw t (g:=g) q;obtain⟨g,cap,i,rfl,Z,q,Mw,Y,cp⟩:∃g cap i,v=.slice (some ⟨g,0,none⟩) l.length cap/\B<=g/\w.heap[g]?=some (.cells i 5 (0,0))/\l.length<=cap/\cap<=maxLen/\i.size=cap*1:=by
  rcases t.2 with⟨_,F⟩ | ⟨g,cap,i,I,X,W,V,U,O,_⟩
  ·exact absurd F J
  ·exact⟨g,cap,i,I,X,W,V,U,O⟩
 have c1:w.drew.cell? ⟨b,1,none⟩=some (.slice (some ⟨g,0,none⟩) l.length cap):=by
  have:w.drew.heap[b]?=some (.cells #[p,.slice (some ⟨g,0,none⟩) l.length cap] 314 (0,0)):=u;rw[aq this];rfl
 have N:(Builtin.unsafeSliceData_ #[63] 351 #[.slice (some ⟨g,0,none⟩) l.length cap]).run prog w.drew=.ok (.pointer (some ⟨g,0,none⟩)) w.drew:=
  Lib.run_unsafeSliceData_row _ _ _ _ _ _ (by omega)
 have M:(Builtin.unsafeString_ #[351,3] 9 #[.pointer (some ⟨g,0,none⟩),.int .i64 l.length]).run prog w.drew=.ok (.string ⟨l.toArray⟩) (w.drew.freeze ⟨g,0,none⟩ l.length):=by
  refine Lib.run_unsafeString_row w.drew 351 3 9 5 Tryz.underlying351 Tryz.BG g i.size ?_ l A (by omega) (by unfold maxLen at Y;omega) ?_
  ·have E:w.drew.heap[g]?=some (.cells i 5 (0,0)):=q;simp[World.shape?,E]
  ·intro j x H;exact y g rfl j (.int .u8 x.toNat) (by simp[Lib.byteCells,H])
 have D:Hid (Below B w (w.drew.freeze ⟨g,0,none⟩ l.length)):=below_freeze ((aaj B w).drew) (p:=⟨g,0,none⟩) Z;clear y t u q
 go_enter func185,ntmps185
 go_wp2_with fail
 go_region
 all_goals (go_wp2_with fail)
 all_goals go_ret
 all_goals (exact⟨rfl,D.out⟩)
theorem FL(B)(h:Tx B w b []):
 Calls prog 185 #[.pointer (some ⟨b,0,none⟩)] w λe w'=>e=.returned (.string ⟨#[]⟩)/\Below B w w':=by
 obtain⟨p,v,x,i,u,j⟩:=h;obtain rfl:=j rfl;have c1:w.drew.cell? ⟨b,1,none⟩=some (.slice none 0 0):=by
  have:w.drew.heap[b]?=some (.cells #[p,.slice none 0 0] 314 (0,0)):=i;rw[aq this];rfl
 have t:(Builtin.unsafeSliceData_ #[63] 351 #[.slice none 0 0]).run prog w.drew=.ok (.pointer none) w.drew:=rfl;have q:(Builtin.unsafeString_ #[351,3] 9 #[.pointer none,.int .i64 0]).run prog w.drew=.ok (.string ⟨#[]⟩) w.drew:=Lib.run_unsafeString_none _ _ _ _ _;clear u j i
 go_enter func185,ntmps185
 go_wp2_with fail
 go_region
 all_goals (go_wp2_with fail)
 all_goals go_ret
 all_goals (exact⟨rfl,(aaj B w).drew⟩)
theorem Tx.alloc{B l}(h:Tx B w b l)(o:Obj):Tx B (w.alloc o) b l:=by
 obtain⟨p,v,i,e,q,j⟩:=h;exact⟨p,v,i,(aay _ _ _ (lt_of_heap e)).trans e,q.alloc o,j⟩
def jA(l:List Ax.Tok):List UInt8:=l.flatMap λt=>t.text.data.toList
theorem Ab{bs td tc j}(h:w.ownsRow bs 210 3 (.slice td j.length tc) j.length (dJ j))(O:j.length<=1000)(I:∀t,t∈j->t.text.size<=600):
 Calls prog 109 #[.slice td j.length tc] w λe w'=>e=.returned (.string ⟨(jA j).toArray⟩)/\Below w.heap.size w w':=by
 have HT:=aj I;clear I
 go_enter func109,ntmps109
 go_wp2_with fail
 go_loopw [8] (λi wr=>∃k:Nat,k<=j.length/\i=.int .i64 k/\Tx w.heap.size wr w.heap.size (jA (j.take k))/\Below w.heap.size w wr/\(jA (j.take k)).length<=600*k/\w.heap.size<wr.heap.size) (λi _=>j.length-(intOf i).toNat)
 ·exact⟨0,IS _,rfl,⟨_,_,.inl rfl,By _ _,aaM _ _ _ _,λ_=>rfl⟩,aM,OF _,by simp⟩
 ·
  obtain⟨k,U,rfl,x,A,hlen,X⟩:=hrel;by_cases u:k<j.length
  ·have J:=ae h A;obtain⟨g,rfl,V,W,y⟩:=aA J;have c0:=y _ _ (kr j k u).1;have c1:=y _ _ (kr j k u).2.1;have c2:=y _ _ (kr j k u).2.2;have N:=HT.out _ (IN u);have F:jA (j.take (k+1))=jA (j.take k)++(j[k]).text.data.toList:=by
    rw[acI u];simp only[jA,abQ,aaW,adI,aby]
   have M:=aj F;clear F y J;generalize j[k]=t at*;generalize jA (j.take k)=L at*
   go_wp2_with (go_at_call 184;refine(vL w.heap.size w.heap.size (Tx.alloc x _) (OF _) (by omega)).mono ?_;rintro e w1 ⟨rfl,B,H⟩)
   go_roundw
   ·
    refine⟨k+1,by omega,by go_num,by rw[M.out];exact B,(A.alloc (by omega) _).trans H, ?_, ?_⟩
    ·rw[M.out,If];have:t.text.data.toList.length=t.text.size:=by simp
     omega
    ·have:=H.size;simp at this;omega
   ·simp[intOf];omega
  ·obtain rfl:k=j.length:=by omega
   rw[abS]at x;by_cases q:jA j=[]
   ·rw[q]at x;have E:=aj q;clear q hlen
    go_wp2_with (go_at_call 185;refine(FL w.heap.size x).mono ?_;rintro e w1 ⟨rfl,D⟩)
    go_ret;exact⟨by rw[E.out];rfl,A.trans D⟩
   ·have E:=aj q;clear hlen q
    go_wp2_with (go_at_call 185;refine(Fx w.heap.size x E.out).mono ?_;rintro e w1 ⟨rfl,D⟩)
    go_ret;exact⟨rfl,A.trans D⟩
/- Read. -/
theorem Ix{i t q u j}(h:fi w i t q u)(D:Hid (Ax.bI q q.length u []=(none,j))):
 Calls prog 104 #[.pointer (some ⟨i,0,none⟩)] w λe w'=>e=.returned (.tuple #[.slice none 0 0,.bool false])/\fi w' i t q j/\w.grownBy w' (some i):=by
 refine(BN w i t q u h).mono ?_;rintro e w' ⟨x,B,y⟩;rw[D.out]at x y;rcases y with⟨v,E,_,A,_⟩ | ⟨rfl,_⟩
 ·simp at A
 ·exact⟨rfl,x,B⟩
theorem Hq{i u q x j}(h:fi w i u q x)(E:Hid (Ax.bI q q.length x []=(some rs,j))):
 Calls prog 104 #[.pointer (some ⟨i,0,none⟩)] w λe w'=>∃rd rc l,e=.returned (.tuple #[.slice rd (List.length l) rc,.bool true])/\Hid (l.map MR.aw=rs)/\fi w' i u q j/\w.grownBy w' (some i)/\w'.ownsRow 0 222 4 (.slice rd l.length rc) l.length (cR l)/\Je w' l:=by
 refine(BN w i u q x h).mono ?_;rintro e w' ⟨y,D,A⟩;rw[E.out]at y A;rcases A with⟨v,l,rfl,t,B,F⟩ | ⟨_,t⟩
 ·obtain⟨a,c,rfl⟩:=ah B;simp only[AT]at t;exact⟨a,c,l,rfl,t.symm,y,D,aD B (IS _),F⟩
 ·simp at t
theorem fi.first{s td tc bs}(h:w1.ownsRow bs 210 3 (.slice td (Ax.split s).length tc) (Ax.split s).length (dJ (Ax.split s)))(hs:s.size<=600):
 fi (w1.alloc (.cells #[.slice td (Ax.split s).length tc,.int .i64 0] 205)) w1.heap.size (.slice td (Ax.split s).length tc) (Ax.split s) 0:=
 ⟨By _ _,aD (h.alloc _) (IS _),Ax.BZ s,by have:=Ax.kp s;omega,Ax.gi s⟩
theorem EW(e:Below (w.alloc o).heap.size (w.alloc o) w1):w1.heap[w.heap.size]?=some o/\Below w.heap.size w w1/\w.heap.size<w1.heap.size:=by
 have hs:=e.size;simp only[abb]at hs;exact⟨(e.block _ (by simp)).trans (By _ _),aM.trans (e.mono (by simp)),by omega⟩
theorem G5{j}(i:w1.heap[w.heap.size]?=some o)(t:Below w.heap.size w w1)(e:(w1.alloc j).grownBy w2 (some w1.heap.size)):
 w2.heap[w.heap.size]?=some o/\Below w.heap.size w w2/\w1.heap.size<w2.heap.size:=by
 have u:=lt_of_heap i;have hs:=e.size;simp only[abb]at hs;refine⟨?_, ?_,by omega⟩
 ·rw[e.block _ (by simp;omega) (by simp;omega),aay _ _ _ u];exact i
 ·exact(t.alloc (by omega) j).grown e (by simp;omega) (λk q=>by cases q;omega)
theorem uV{e}(i:w2.heap[w.heap.size]?=some o)(b2:Below w.heap.size w w2)(j:Below w2.heap.size w2 e):e.heap[w.heap.size]?=some o/\Below w.heap.size w e:=
 ⟨(j.block _ (lt_of_heap i)).trans i,b2.trans (j.mono b2.size)⟩
theorem tD{k a b T}(i:w2.heap[k]?=some (.cells #[a,b] T (0,0))){c d}(t:Below w.heap.size w w2)(e:w.heap.size<=k):
 ((w2.setCell ⟨k,0,none⟩ c).setCell ⟨k,1,none⟩ d).heap[k]?=some (.cells #[c,d] T (0,0))/\Below w.heap.size w ((w2.setCell ⟨k,0,none⟩ c).setCell ⟨k,1,none⟩ d):=by
 have q:=heap_setCell_same (off:=0) i c;have j:=heap_setCell_same (off:=1) q d;exact⟨by rw[j];rfl,(t.setCell (p:=⟨k,0,none⟩) e c).setCell (p:=⟨k,1,none⟩) e d⟩
theorem bK.TX(h:w.ownsRow 0 222 4 (.slice rd l.length rc) l.length (cR l))(hm:Je w l)(i:l.map MR.aw=rs)(j:Hid (rs.length<=1000/\∀r,r∈rs->Ax.Fits 600 1000 r)):bK w rd rc l:=by
 refine⟨h,hm,λr e=>?_⟩;have:=(j.out.2 r.aw (by rw[<-i];exact aax.2 ⟨r,e,rfl⟩)).1;simpa [MR.aw]using this
theorem bK.len(e:l.map MR.aw=rs)(i:Hid (rs.length<=1000/\∀r,r∈rs->Ax.Fits 600 1000 r)):l.length<=1000:=by
 have:=i.out.1;rw[<-e]at this;simpa using this
theorem bK.lj(j:l.map MR.aw=rs)(q:Hid (rs.length<=1000/\∀r,r∈rs->Ax.Fits 600 1000 r)):Hid (∀a,a∈(l.map MR.aw).flatMap Ax.aI.atoms->a.pred.size<=600):=by
 intro a e;rw[j]at e;obtain⟨r,i,e⟩:=aa9.1 e;exact(q.out.2 r i).2 a e
theorem Dz(h:bK w rd rc l)(t:Ax.bL 0 [] (l.map MR.aw)=some p):
 Calls prog 106 #[.slice rd l.length rc] w λe w'=>e=.returned (.tuple #[.int .i64 p,.bool true])/\Below w.heap.size w w':=by
 refine(uH w rd rc l h).mono ?_;rintro e w' ⟨u,j⟩;rw[t]at j;rcases j with⟨q,i,rfl⟩ | ⟨i,_⟩
 ·grind
 ·simp at i
theorem DP(h:bK w rd rc l)(t:Ax.bL 0 [] (l.map MR.aw)=none):
 Calls prog 106 #[.slice rd l.length rc] w λe w'=>e=.returned (.tuple #[.int .i64 0,.bool false])/\Below w.heap.size w w':=by
 refine(uH w rd rc l h).mono ?_;rintro e w' ⟨u,i⟩;rw[t]at i;rcases i with⟨q,j,_⟩ | ⟨_,rfl⟩
 ·simp at j
 ·exact⟨rfl,u⟩
theorem A2(h:bK w rd rc l)(t:Ax.bE (l.map MR.aw)=some p):
 Calls prog 108 #[.slice rd l.length rc] w λe w'=>e=.returned (.tuple #[.int .i64 p,.bool true])/\Below w.heap.size w w':=by
 refine(sj w rd rc l h).mono ?_;rintro e w' ⟨u,j⟩;rw[t]at j;rcases j with⟨q,i,rfl⟩ | ⟨i,_⟩
 ·grind
 ·simp at i
theorem AD(h:bK w rd rc l)(t:Ax.bE (l.map MR.aw)=none):
 Calls prog 108 #[.slice rd l.length rc] w λe w'=>e=.returned (.tuple #[.int .i64 0,.bool false])/\Below w.heap.size w w':=by
 refine(sj w rd rc l h).mono ?_;rintro e w' ⟨u,i⟩;rw[t]at i;rcases i with⟨q,j,_⟩ | ⟨_,rfl⟩
 ·simp at j
 ·exact⟨rfl,u⟩
theorem vM(h:bK w rd rc l)(t:l.length<=1000)(x:Hid (∀a,a∈(l.map MR.aw).flatMap Ax.aI.atoms->a.pred.size<=600))(u:Ax.dt [] ((l.map MR.aw).flatMap Ax.aI.atoms)=some p):
 Calls prog 107 #[.slice rd l.length rc] w λe w'=>e=.returned (.tuple #[.int .i64 p,.bool true])/\Below w.heap.size w w':=by
 refine(pa w rd rc l h t x.out).mono ?_;rintro e w' ⟨y,j⟩;rw[u]at j;rcases j with⟨q,i,rfl⟩ | ⟨i,_⟩
 ·grind
 ·simp at i
theorem vT(h:bK w rd rc l)(j:l.length<=1000)(y:Hid (∀a,a∈(l.map MR.aw).flatMap Ax.aI.atoms->a.pred.size<=600))(u:Ax.dt [] ((l.map MR.aw).flatMap Ax.aI.atoms)=none):
 Calls prog 107 #[.slice rd l.length rc] w λe w'=>e=.returned (.tuple #[.int .i64 0,.bool false])/\Below w.heap.size w w':=by
 refine(pa w rd rc l h j y.out).mono ?_;rintro e w' ⟨x,i⟩;rw[u]at i;rcases i with⟨q,t,_⟩ | ⟨_,rfl⟩
 ·simp at t
 ·exact⟨rfl,x⟩
variable{l:List MR}{D R:List Pd.Pr}{k j B g m:Nat}{w wr:World}
theorem bK.kept{w' S rd rc}(h:bK w rd rc l)(u:Kb S w w')(y:∀b i U,b∈S->w.heap[b]?=some (.cells i U (0,0))->U≠222/\U≠219/\U≠310):bK w' rd rc l:=by
 have A:∀x:MA,MA.ok w x->MA.ok w' x:=λx q=>by
  refine u.row q ?_;intro b j hm;obtain⟨i,e⟩:=aP q j;exact(y b i _ hm e).2.2 rfl
 refine⟨u.row h.1 ?_,λr t=>⟨A _ (h.2.1 r t).1,u.row (h.2.1 r t).2.1 ?_,λx q=>A x ((h.2.1 r t).2.2 x q)⟩,h.2.2⟩
 ·intro b j hm;obtain⟨i,e⟩:=aP h.1 j;exact(y b i _ hm e).1 rfl
 ·intro b j hm;obtain⟨i,e⟩:=aP (h.2.1 r t).2.1 j;exact(y b i _ hm e).2.1 rfl
theorem bK.Pa{w2 a b T}(j:w2.heap[k]?=some (.cells #[a,b] T (0,0)))(c d){rd rc}(h:bK w2 rd rc l)(w:T≠222)(u:T≠219)(t:T≠310):bK ((w2.setCell ⟨k,0,none⟩ c).setCell ⟨k,1,none⟩ d) rd rc l:=by
 refine h.kept ((Kb.setCell w2 ⟨k,0,none⟩ c).trans (Kb.setCell _ ⟨k,1,none⟩ d)) ?_;intro q x U i e;simp only[aae]at i;rw[i,j]at e;simp only[AT,aa1]at e;rw[<-e.2.1];exact⟨w,u,t⟩
theorem rdF{a b T}(h:w.heap[k]?=some (.cells #[a,b] T (0,0))):w.frozen? ⟨k,0,none⟩=false/\w.frozen? ⟨k,1,none⟩=false/\w.cell? ⟨k,0,none⟩=some a/\w.cell? ⟨k,1,none⟩=some b/\k<w.heap.size:=⟨aJ h 0,aJ h 1,mA h,ow h,lt_of_heap h⟩
def RdC(s:ByteArray)(rs:List Ax.aI)(c:Int)(p:Nat):Prop:=∃j,(∃t,Hid (Ax.bI (Ax.split s) (Ax.split s).length 0 []=(none,j))/\Hid ((Ax.split s)[j]?=some t)/\c=2/\p=t.at_)\/Hid (Ax.bI (Ax.split s) (Ax.split s).length 0 []=(some rs,j))/\Hid (rs.length<=1000/\∀r,r∈rs->Ax.Fits 600 1000 r)/\(Hid (Ax.bL 0 [] rs=some p)/\c=3\/Hid (Ax.bL 0 [] rs=none)/\(Hid (Ax.dt [] (rs.flatMap Ax.aI.atoms)=some p)/\c=4\/Hid (Ax.dt [] (rs.flatMap Ax.aI.atoms)=none)/\(Hid (Ax.bE rs=some p)/\c=5\/Hid (Ax.bE rs=none)/\c=0/\p=0)))
theorem Vs(s w)(B:s.size<=600)(rs:List Ax.aI)(c:Int)(p:Nat)(h:RdC s rs c p):
 Calls prog 56 #[.string s] w λe w'=>∃y rd rc n,e=.returned (.tuple #[.agg #[.string y,.slice rd n rc],.int .i64 c,.int .i64 p])/\Below w.heap.size w w'/\(c≠0->y=⟨#[]⟩)/\(c=0->y=⟨(jA (Ax.split s)).toArray⟩/\∃l,n=List.length l/\l.map MR.aw=rs/\bK w' rd rc l):=by
 have rY:¬(600:Int)<(s.size:Int):=by omega
 have ajT:=Ax.kp s;have Y6:Hid (∀t,t∈Ax.split s->t.text.size<=600):=λt ht=>aaK (Ax.lh s t ht) B;have zJ:=Tryz.MH;obtain⟨j,⟨t,H,HT,rfl,rfl⟩ | ⟨H,I,⟨N,rfl⟩ | ⟨N,⟨M,rfl⟩ | ⟨M,⟨J,rfl⟩ | ⟨J,rfl,rfl⟩⟩⟩⟩⟩:=h
 all_goals
  (go_enter func56,ntmps56
   go_wp2_with (first | (go_at_call 102;refine(uf s _ (by omega)).mono ?_;rintro e w0 ⟨rfl,Z⟩) | (go_at_call 103;refine(Lb s (by omega)).mono ?_;rintro e w1 ⟨v1,rfl,D,aV⟩;obtain⟨td,tc,rfl⟩:=ah D;obtain⟨r1,Ko,Wn⟩:=EW (Z.trans (aV.mono Z.size))) | (go_at_call 104;(first | (refine(Ix (fi.first (s:=s) (td:=td) (tc:=tc) D B) H).mono ?_;rintro e w2 ⟨rfl,u,W⟩) | (refine(Hq (fi.first (s:=s) (td:=td) (tc:=tc) D B) H).mono ?_;rintro e w2 ⟨rd,rc,l,rfl,i,u,W,Fk,F⟩;have O:=bK.len i.out I;have Ew:=bK.lj i.out I;have q:=bK.TX Fk F i.out I));obtain⟨r,b,gw2⟩:=G5 r1 Ko W;obtain⟨Y,X,V,U,lt⟩:=rdF r) | (go_at_call 105;refine(jH u HT).mono ?_;rintro e w3 ⟨rfl,x⟩;obtain⟨r,b⟩:=uV r b x;obtain⟨Y,X,V,U,lt⟩:=rdF r) | ((first | (go_at_call 106;refine(Dz q (by rw[i.out];exact N.out)).mono ?_) | (go_at_call 106;refine(DP q (by rw[i.out];exact N.out)).mono ?_) | (go_at_call 107;refine(vM q O Ew (by rw[i.out];exact M.out)).mono ?_) | (go_at_call 107;refine(vT q O Ew (by rw[i.out];exact M.out)).mono ?_) | (go_at_call 108;refine(A2 q (by rw[i.out];exact J.out)).mono ?_) | (go_at_call 108;refine(AD q (by rw[i.out];exact J.out)).mono ?_) | (go_at_call 109;refine(Ab u.2.1 (by omega) Y6.out).mono ?_));rintro e w3 ⟨rfl,x⟩;obtain⟨r,b⟩:=uV r b x;have q:=q.below x;have u:=u.below x;obtain⟨Y,X,V,U,lt⟩:=rdF r;have q0:=aq u.1 0;simp only[aaV,abw]at q0;have q1:=lt_of_heap u.1)))
 all_goals (first | (obtain⟨A,E⟩:=tD r b (OF _);exact aaT (by simp[results,Tryz.results56,go_sem,aq A]) rfl ⟨⟨#[]⟩,none,0,0,rfl,E,λ_=>rfl,λh=>absurd h (by decide)⟩) | (obtain⟨A,E⟩:=tD r b (OF _);exact aaT (by simp[results,Tryz.results56,go_sem,aq A]) rfl ⟨_,rd,rc,_,rfl,E,λh=>absurd rfl h,λ_=>⟨rfl,l,rfl,i.out,bK.Pa r _ _ q (by decide) (by decide) (by decide)⟩⟩))
theorem rdC(s)(u:¬600<s.size):∃rs c p,RdC s rs c p/\Ax.read s=(if c=0 then⟨(jA (Ax.split s)).toArray⟩else⟨#[]⟩,c,p):=by
 have D:s.size<=600:=by omega
 have E:=Ax.kp s;rcases e:Ax.bI (Ax.split s) (Ax.split s).length 0 []with⟨_ | rs,j⟩
 ·have w:=AS (Ax.qb (Ax.gi s) _ _ _ (Ax.BZ s) e);exact⟨[],2,_,⟨j,.inl ⟨_,e,w,rfl,rfl⟩⟩,Ax.JL u e w⟩
 ·have A:=Ax.vt (M:=600) (λt w=>aaK (Ax.lh s t w) D) _ _ _ (λ_ h=>by cases h) e;have y:Hid (rs.length<=1000/\∀r,r∈rs->Ax.Fits 600 1000 r):=by
   refine⟨by have:=A.2;simp only[adC,acm]at this;omega,λr B=>?_⟩;have:=A.1 r B;exact⟨by have:=this.1;omega,this.2⟩
  cases i:Ax.bL 0 [] rs with
  | some p=>exact⟨rs,3,p,⟨j,.inr ⟨e,y,.inl ⟨i,rfl⟩⟩⟩,Ax.Eg u e i⟩
  | none=>
   cases q:Ax.dt [] (rs.flatMap Ax.aI.atoms)with
   | some p=>exact⟨rs,4,p,⟨j,.inr ⟨e,y,.inr ⟨i,.inl ⟨q,rfl⟩⟩⟩⟩,Ax.Dl u e i q⟩
   | none=>
    cases x:Ax.bE rs with
    | some p=>exact⟨rs,5,p,⟨j,.inr ⟨e,y,.inr ⟨i,.inr ⟨q,.inl ⟨x,rfl⟩⟩⟩⟩⟩,Ax.DH u e i q x⟩
    | none=>exact⟨rs,0,0,⟨j,.inr ⟨e,y,.inr ⟨i,.inr ⟨q,.inr ⟨x,rfl,rfl⟩⟩⟩⟩⟩,Ax.Io u e i q x⟩
theorem RdC.ok{s rs p}(h:RdC s rs 0 p):∃j,Ax.bI (Ax.split s) (Ax.split s).length 0 []=(some rs,j)/\Ax.bL 0 [] rs=none/\Ax.dt [] (rs.flatMap Ax.aI.atoms)=none/\p=0:=by
 obtain⟨j,⟨_,_,_,h,_⟩ | ⟨q,_,⟨_,h⟩ | ⟨i,⟨_,h⟩ | ⟨e,⟨_,h⟩ | ⟨_,_,h⟩⟩⟩⟩⟩:=h
 ·cases h
 ·cases h
 ·cases h
 ·cases h
 ·exact⟨j,q,i,e,h⟩
theorem KG(s w)(hs:s.size<=maxLen)(h:600<s.size):
 Calls prog 56 #[.string s] w λe w'=>e=.returned (.tuple #[.agg #[.string ⟨#[]⟩,.slice none 0 0],.int .i64 1,.int .i64 0])/\Below w.heap.size w w':=by
 unfold maxLen at hs
 go_enter func56,ntmps56
 go_wp2_with fail
 exact aaT (by simp[results,Tryz.results56,go_sem]) rfl ⟨rfl,aM⟩
theorem N6(s)(hs:s.size<=maxLen):
 Calls prog 56 #[.string s] w λe w'=>∃rd n rc,e=.returned (.tuple #[.agg #[.string (Ax.read s).1,.slice rd n rc],.int .i64 (Ax.read s).2.1,.int .i64 (Ax.read s).2.2])/\Below w.heap.size w w':=by
 by_cases j:600<s.size
 ·rw[Ax.xU j];exact(KG s w hs j).mono λ_ _ h=>⟨_,_,_,h⟩
 obtain⟨rs,c,p,t,e⟩:=rdC s j;rw[e];refine(Vs s w (by omega) rs c p t).mono ?_;rintro e w' ⟨y,rd,rc,n,rfl,q,x,u⟩;refine⟨rd,n,rc, ?_,q⟩;by_cases i:c=0
 ·simp[i,(u i).1]
 ·simp[i,x i]
theorem MO(s w)(hs:s.size<=maxLen):
 Calls prog 88 #[.string s] w λe w'=>e=.returned (.tuple #[.string (Ax.read s).1,.int .i64 (Ax.read s).2.1,.int .i64 (Ax.read s).2.2])/\Below w.heap.size w w':=by
 go_enter func88,ntmps88
 go_wp2_with (go_at_call 56;refine(N6 s hs).mono ?_;rintro e w1 ⟨rd,n,rc,rfl,i⟩)
 go_ret3
 exact⟨rfl,i.alloc i.size _⟩
/- Preds: what stands in the rules, collected. -/
def lK(a:Ax.Atom):Pd.Pr:=(a.pred,a.af.length)
def aW(l:List Pd.Pr):List Value:=l.flatMap λp=>[.string p.1,.int .i64 p.2]
theorem ml{l}:(aW l).length=l.length*2:=by
 induction l with
 | nil=>rfl
 | cons a l ih=>simp[aW]at ih ⊢;omega
theorem Ar(a b):aW (a++b)=aW a++aW b:=by simp[aW]
theorem fe(p b):aW (p::b)=.string p.1::.int .i64 p.2::aW b:=rfl
theorem bN(l k)(h:k<l.length:=by omega):(aW l)[k*2]?=some (.string (l[k]).1)/\(aW l)[k*2+1]?=some (.int .i64 (l[k]).2):=by
 induction l generalizing k with
 | nil=>simp at h
 | cons a l ih=>
  cases k with
  | zero=>simp[fe]
  | succ k=>
   have:=ih k (by simpa using h);rw[fe,show(k+1)*2=k*2+1+1 by omega,show k*2+1+1+1=(k*2+1)+1+1 by omega];simpa using this
theorem Tryz.QQ:(prog.info? 112).map (λi=>(i.zero,i.size,i.bytes))=some (some (.agg #[.string ByteArray.empty,.int .i64 0]),2,24):=by kernel_rfl
def bo(rs:List Ax.aI):List Pd.Pr:=(rs.flatMap Ax.aI.atoms).map lK
theorem LM(h:∀r,r∈l->r.body.length<=1000):(bo (l.map MR.aw)).length<=1001*l.length:=by
 induction l with
 | nil=>simp[bo]
 | cons r l ih=>
  have i:=ih (λx j=>h x (by simp[j]));have q:=h r (by simp);unfold bo at i ⊢;simp only[abn,aaW,aa6,If,aaL]at i ⊢;have e:(Ax.aI.atoms r.aw).length=r.body.length+1:=by simp[Ax.aI.atoms,MR.aw]
  rw[e,abL];omega
theorem JO(h:k<l.length):bo ((l.take (k+1)).map MR.aw)=bo ((l.take k).map MR.aw)++((l[k]).aw.atoms).map lK:=by
 have e:(l.take (k+1)).map MR.aw=(l.take k).map MR.aw++[(l[k]).aw]:=by
  rw[aaZ,AS h,aa6];rfl
 unfold bo;rw[e,abQ,aa6];simp
def E8(w wr:World)(v:Value)(P:List Pd.Pr):Prop:=wr.ownsRow w.heap.size 112 2 v P.length (aW P)/\Below w.heap.size w wr
theorem SO{w1 w2 i P p e u t}(h:E8 w w1 (.slice i P.length j) P)
 (A:w2.ownsRow w.heap.size 112 2 e (P.length+1) (aW P++[.string p.1,.int .i64 p.2]))(q:((w1.alloc u).alloc t).grownBy w2 (Value.ownBlock (.slice i P.length j))){w0}(x:Lib.OthersKept 112 none w0 w1):
 E8 w w2 e (P++[p])/\Lib.OthersKept 112 none w0 w2:=by
 have hs:=h.2.size;refine⟨⟨?_,((h.2.alloc hs _).alloc (by simp;omega) _).grown q (by simp;omega) (λk y=>(h.1.lt k y).1)⟩,((x.alloc _).alloc _).grown q (au ((h.1.alloc _).alloc _))⟩;rw[Ar,If];exact A
/- slices.Compact at predicates. -/
theorem Tryz.IL:(prog.fieldsOf 112).toList=[{name:= "Name",type:=9,offset:=0,embedded:=false,tag:= "",pkgPath:= "",byteOffset:=0},{name:= "Places",type:=3,offset:=1,embedded:=false,tag:= "",pkgPath:= "",byteOffset:=16}]:=by kernel_rfl
theorem Tryz.Hw:prog.underlying 112=some (.struct (prog.fieldsOf 112)):=by kernel_rfl
theorem Tryz.OE:prog.stoodInHeld 112=false:=by kernel_rfl
theorem Tryz.LY:prog.eqGuardType prog.depth 112=false:=by kernel_rfl
theorem Tryz.NR(w):(zeroValue 112).run prog w=.ok (.agg #[.string ByteArray.empty,.int .i64 0]) w:=by kernel_rfl
theorem oG(s t a b w):(Op.equalIn 10000 112 (.agg #[.string s,.int .i64 a]) (.agg #[.string t,.int .i64 b])).run prog w=.ok (decide (s=t/\a=b)) w:=by
 have j:prog.underlying 3=some (.int .i64):=ade;have i:prog.underlying 9=some .string:=abK;rw[run_equalIn_struct w 9999 112 _ _ Tryz.Hw Tryz.OE,Tryz.IL];have x:(s=t)↔(s.toList=t.toList):=⟨λe=>by rw[e],λe=>Tb.toList_inj e⟩;simp only[Op.eqFields,part,isAgg,acQ j,acQ i,x];simp[part,isAgg,acQ j,acQ i,run_equalIn_int w 9998 3 .i64 .i64 a b j,run_equalIn_string w 9998 9 s t i];by_cases u:a=b<;>by_cases q:s.toList=t.toList<;>simp[u,q]
theorem C3(s t a b w):(binOp .eql 112 (.agg #[.string s,.int .i64 a]) (.agg #[.string t,.int .i64 b])).run prog w=.ok (.bool (decide (s=t/\a=b))) w:=by
 rw[run_eql_struct,oG];rfl
theorem Dc(s t a b w):(binOp .neq 112 (.agg #[.string s,.int .i64 a]) (.agg #[.string t,.int .i64 b])).run prog w=.ok (.bool (!decide (s=t/\a=b))) w:=by
 rw[run_neq_struct,oG];rfl
theorem pC(P w t q elem){z}(g o n c e T cs)(x:P.underlying t=some (.slice elem))(u:∀w,(zeroValue elem).run P w=.ok z w)(B:(Builtin.zeroCells z.cells n).toList=cs)
 (y:w.heap[g]?=some (.cells e T (0,0)))(j:o+cs.length<=e.size)(A:∀v∈cs,v.oneCell'=true)(D:0<n:=by omega):
 (Builtin.clear_ #[t] q #[.slice (some ⟨g,o,none⟩) n c]).run P w=.ok (.tuple #[]) (w.setRow g (e.toList.take o++cs++e.toList.drop (o+cs.length)).toArray):=by
 have i:=run_storeCells_at P g o T cs 0 e w y (by simpa using j) A;obtain⟨m,rfl⟩:∃m,n=m+1:=⟨n-1,by omega⟩;simp only[acV]at i;simp[Builtin.clear_,acQ x,u,B,i]
theorem Ae(R)(e:j<R.length)(x):((aW R).set (j*2) (.string x.1)).set (j*2+1) (.int .i64 x.2)=aW (R.set j x):=by
 induction R generalizing j with
 | nil=>simp at e
 | cons a R ih=>
  cases j with
  | zero=>simp[fe]
  | succ j=>
   have:=ih (j:=j) (by simpa using e);rw[show(j+1)*2+1=(j*2+1)+1+1 by omega,show(j+1)*2=j*2+1+1 by omega];simp only[aaH,fe,this]
theorem zu(R j):(aW R).take (j*2)=aW (R.take j):=by
 induction R generalizing j with
 | nil=>simp[aW]
 | cons a R ih=>
  cases j with
  | zero=>simp[aW]
  | succ j=>rw[adK,fe,fe,show(j+1)*2=j*2+1+1 by omega,adK,adK,ih]
theorem M7(n):(Builtin.zeroCells (Value.agg #[.string ByteArray.empty,.int .i64 0]).cells n).toList.length=n*2/\∀v∈(Builtin.zeroCells (Value.agg #[.string ByteArray.empty,.int .i64 0]).cells n).toList,v.oneCell'=true:=by
 have e:(Value.agg #[.string ByteArray.empty,.int .i64 0]).cells=#[.string ByteArray.empty,.int .i64 0]:=rfl;rw[e];refine⟨by simp[Builtin.zeroCells], ?_⟩;intro v j;simp only[Builtin.zeroCells,Array.toList_map,aax]at j;obtain⟨i,_,rfl⟩:=j;have q:(#[Value.string ByteArray.empty,.int .i64 0]:Array Value).size=2:=rfl;rw[q];have:i%2=0\/i%2=1:=by omega
 rcases this with h | h<;>rw[h]<;>rfl
structure qX(B:Nat)(w wr:World)(g pc:Nat)(D:List Pd.Pr)(m j:Nat)(R:List Pd.Pr):Prop where
 len:R.length=D.length
 lt:j<m
 le:m<=D.length
 Xh:R.take j=Pd.mY (D.take m)
 left:R.drop (m-1)=D.drop (m-1)
 own:wr.ownsRow B 112 2 (.slice (some ⟨g,0,none⟩) D.length pc) D.length (aW R)
 kept:Kb [g] w wr
theorem qX.get{q}(h:qX B w wr g q D m j R){i}(t:m-1<=i)(e:i<D.length):R[i]'(by rw[h.len];exact e)=D[i]:=by
 have:=abu (λl=>l[i-(m-1)]?) h.left;simp only[aeu]at this;rw[show m-1+(i-(m-1))=i by omega,AS e,AS (by rw[h.len];exact e)]at this;simpa using this
theorem qX.same{e}(h:qX B w wr g e D m j R)(hm:m<D.length)(t:D[m]=D[m-1]'(by omega)){wx}(i:wx.heap=wr.heap)(q:Kb [g] w wx):qX B w wx g e D (m+1) j R:=by
 refine⟨h.len,by have:=h.lt;omega,hm, ?_, ?_,⟨h.own.1,by rw[i];exact h.own.2⟩,q⟩
 ·rw[Pd.jq D hm (by have:=h.lt;omega),aa3 t];exact h.Xh
 ·have:=abu (λl=>l.drop 1) h.left;simp only[List.drop_drop]at this;have u:=h.lt;rw[show m-1+1=m by omega]at this;exact this
theorem qX.next{e}(h:qX B w wr g e D m j R)(hm:m<D.length)(x:¬D[m]=D[m-1]'(by omega)){wx}(t:wx.heap=wr.heap)(u:Kb [g] w wx):
 qX B w ((wx.setCell ⟨g,j*2,none⟩ (.string (D[m]).1)).setCell ⟨g,j*2+1,none⟩ (.int .i64 (D[m]).2)) g e D (m+1) (j+1) (R.set j D[m]):=by
 have i:wx.ownsRow B 112 2 (.slice (some ⟨g,0,none⟩) D.length e) D.length (aW R):=⟨h.own.1,by rw[t];exact h.own.2⟩;have A:=h.lt;have hlen:=h.len;refine⟨by simpa using hlen,by omega,hm, ?_, ?_, ?_,(u.trans (Kb.setCell wx ⟨g,j*2,none⟩ _)).trans (Kb.setCell _ ⟨g,j*2+1,none⟩ _)⟩
 ·rw[Pd.jq D hm (by omega),aaD x,<-h.Xh,aaZ,List.getElem?_set_self (by omega),List.take_set_of_le (OF _)];rfl
 ·rw[List.drop_set_of_lt (by omega)];have:=abu (λl=>l.drop 1) h.left;simp only[List.drop_drop]at this;rw[show m-1+1=m by omega]at this;exact this
 ·have y:=(World.ownsRow.stored i (j*2) (.string (D[m]).1)).1;have q:=(World.ownsRow.stored y (j*2+1) (.int .i64 (D[m]).2)).1;rw[Ae R (by omega)]at q;exact q
theorem uJ(B w O F D)(X:w.ownsRow B 112 2 (.slice O D.length F) D.length (aW D))(hD:D.length<=2000000):
 Calls prog 116 #[.slice O D.length F] w λe w'=>e=.returned (.slice O (Pd.mY D).length F)/\w'.ownsRow B 112 2 (.slice O (Pd.mY D).length F) (Pd.mY D).length (aW (Pd.mY D))/\Kb (Value.ownBlock (.slice O D.length F)).toList w w':=by
 by_cases h2:D.length<2
 ·have hc:Pd.mY D=D:=by
   match D,h2 with
   | [],_=>rfl
   | [x],_=>rfl
  rw[hc]
  go_enter func116,ntmps116
  go_wp2_with fail
  go_ret;exact⟨rfl,X,Kb.refl _ _⟩
 ·obtain⟨g,rfl,hg,kW,E⟩:=aA X;have heq:=C3;have aoR:=Dc;have sk:∀(op:BinOp) (x y:Operand) (xs Y:Array Value) (w:World),(eqGuard op 112 x y (.agg xs) (.agg Y)).run prog w=.ok () w:=λop x y xs Y w=>run_eqGuard_agg w op 112 x y xs Y Tryz.LY
  go_enter func116,ntmps116
  go_wp2_with fail
  go_loopw [3] (λv wr=>∃k m:Nat,k+1<=D.length/\v=.int .i64 ((k:Int)+1)/\wr=w.drewN m/\Pd.mY (D.take (k+1))=D.take (k+1)) (λv _=>D.length-(intOf v).toNat)
  ·exact⟨0,0,by omega,rfl,rfl,by rw[Pd.DU D (by omega)];cases D with | nil=>simp at h2 | cons a t=>rfl⟩
  ·
   obtain⟨k,m,hk,rfl,rfl,W⟩:=hrel;have u:=aj W;clear W;by_cases J:k+1<D.length
   ·have c0:=E _ _ (bN D (k+1) J).1;have c1:=E _ _ (bN D (k+1) J).2;have b0:=E _ _ (bN D k).1;have b1:=E _ _ (bN D k).2;generalize V:D[k+1]=x at c0 c1;generalize hy:D[k]=y at b0 b1;have I:=aj V;have M:=aj hy;clear V hy E;cases H:decide (x.1=y.1/\(x.2:Int)=(y.2:Int))
    case false=>
     go_upto_region 6 with fail
     go_quiet (fail)
     go_wp2_with fail
     go_roundw
     ·
      refine⟨k+1,_,by omega,by go_num,rfl, ?_⟩;have e0:D.take (k+1+1)=D.take (k+1)++[D[k+1]]:=by rw[aaZ,AS J];rfl
      rw[Pd.jq D J (by omega),aaD,u.out,e0]
      ·intro e;have e2:x=y:=by rw[<-I.out,<-M.out];exact e
       subst e2;simp at H
     ·simp[intOf];omega
    case true=>
     have U:x=y:=by
      simp at H;exact Prod.ext H.1 (by have:=H.2;omega)
     have jX:Hid (∀q:Nat,qX B w (w.drewN q) g F D (k+2) (k+1) D):=by
      intro q;refine⟨rfl,by omega,J, ?_,rfl,⟨X.1,X.2⟩,⟨rfl,rfl,rfl,OF _,λ_ _ _=>rfl⟩⟩;rw[Pd.jq D J (by omega),aa3,u.out];rw[I.out,U,<-M.out];rfl
     go_upto_region 6 with fail
     go_quiet (fail)
     go_wp2_with fail
     clear U c0 c1 b0 b1 H I M u
     go_loopw [3,5] (λa b wr=>∃(j q:Nat) (R:List Pd.Pr),a=.int .i64 j/\b=.int .i64 ((q:Int)+1)/\qX B w wr g F D (k+q+2) j R) (λ_ b _=>D.length-(intOf b).toNat)
     ·exact⟨k+1,0,D,by go_num,rfl,jX.out _⟩
     ·
      obtain⟨j,q,R,rfl,rfl,A⟩:=hrel;have u:=aj A;have IP:=A.len;have hjl:=A.lt;have hle:=A.le;obtain⟨g',e0,nW,akd,E⟩:=aA A.own;obtain rfl:g=g':=by simpa using e0
      by_cases tK:k+q+2<D.length
      ·have c0:=E _ _ (bN R (k+q+2)).1;have c1:=E _ _ (bN R (k+q+2)).2;have b0:=E _ _ (bN R (k+q+1)).1;have b1:=E _ _ (bN R (k+q+1)).2;rw[A.get (by omega) tK]at c0 c1;rw[A.get (by omega) (show k+q+1<D.length by omega)]at b0 b1;clear A;generalize V:D[k+q+2]=x at c0 c1;generalize hy:D[k+q+1]=y at b0 b1;have I:=aj V;have M:=aj hy;clear V hy;rw[show(k+q+2)*2=(k+1)*2+(q+1)*2 by omega]at c0 c1;rw[show(k+q+1)*2=(k+1)*2+q*2 by omega]at b0 b1;cases H:decide (x.1=y.1/\(x.2:Int)=(y.2:Int))
       case true=>
        have HV:Hid (x=y):=by
         simp at H;exact Prod.ext H.1 (by have:=H.2;omega)
        go_upto_region 11 with fail
        go_quiet (fail)
        go_wp2_with fail
        go_roundw
        ·exact⟨j,q+1,R,rfl,by go_num,u.out.same tK (by rw[I.out,HV.out,<-M.out];rfl) rfl ⟨u.out.kept.os,u.out.kept.tape,u.out.kept.output,u.out.kept.size,u.out.kept.block⟩⟩
        ·simp[intOf];omega
       case false=>
        have HV:Hid (¬x=y):=λe=>by subst e;simp at H
        have s0:∃v,wr.cell? ⟨g,j*2,none⟩=some v:=⟨_,E _ _ (bN R j).1⟩;have s1:∃v,wr.cell? ⟨g,j*2+1,none⟩=some v:=⟨_,E _ _ (bN R j).2⟩;obtain⟨v0,s0⟩:=s0;obtain⟨v1,s1⟩:=s1;have f0:wr.frozen? ⟨g,j*2,none⟩=false:=by
         obtain⟨i,e⟩:=aP u.out.own (b:=g) rfl;simp[World.frozen?,e]
        have f1:wr.frozen? ⟨g,j*2+1,none⟩=false:=by
         obtain⟨i,e⟩:=aP u.out.own (b:=g) rfl;simp[World.frozen?,e]
        clear E
        go_upto_region 11 with fail
        go_quiet (fail)
        go_wp2_with fail
        go_roundw
        ·
         refine⟨j+1,q+1,R.set j x,by go_num,by go_num, ?_⟩;have:=u.out.next tK (by rw[I.out];intro e;exact HV.out (e.trans M.out)) (wx:=wr.drewN nq) rfl ⟨u.out.kept.os,u.out.kept.tape,u.out.kept.output,u.out.kept.size,u.out.kept.block⟩;rw[I.out]at this;exact this
        ·simp[intOf];omega
      ·have Kc:k+q+2=D.length:=by omega
       rw[Kc]at A hjl;obtain⟨i,nk,hpm,Aw,Hg⟩:∃i:Array Value,wr.heap[g]?=some (.cells i 112 (0,0))/\F<=maxLen/\i.size=F*2/\i.toList.take (D.length*2)=aW R:=by
        rcases A.own.2 with⟨e,_⟩ | ⟨g',cap,i,e,_,q1,_,q4,q2,q3⟩
        ·simp at e
        ·simp only[abi,AT,aco,aex,true_and]at e;obtain⟨rfl,rfl⟩:=e;exact⟨i,q1,q4,q2,q3⟩
       obtain⟨N,Z⟩:∃N,N=(Builtin.zeroCells (Value.agg #[.string ByteArray.empty,.int .i64 0]).cells (D.length-j)).toList:=⟨_,rfl⟩;obtain⟨ch,cz⟩:=M7 (D.length-j);rw[<-Z]at ch cz;obtain⟨row,bC⟩:∃row,row=(i.toList.take (j*2)++N++i.toList.drop (j*2+N.length)).toArray:=⟨_,rfl⟩;have agq:∀ty,(Builtin.clear_ #[144] ty #[.slice (some ⟨g,j*2,none⟩) (D.length-j) (F-j)]).run prog wr=.ok (.tuple #[]) (wr.setRow g row):=λty=>by rw[bC];exact pC prog wr 144 ty 112 g (j*2) (D.length-j) (F-j) i 112 N Tryz.underlying144 Tryz.NR Z.symm nk (by omega) cz
       have uc:Hid ((wr.setRow g row).ownsRow B 112 2 (.slice (some ⟨g,0,none⟩) (Pd.mY D).length F) (Pd.mY D).length (aW (Pd.mY D))/\Kb [g] w (wr.setRow g row)/\(Pd.mY D).length=j):=by
        subst bC;have ht:=A.Xh;rw[abS]at ht;have Et:(Pd.mY D).length=j:=by rw[<-ht,abv];omega
        have hB:B<=g:=(A.own.lt g rfl).1;have hmx:=aH A.own;refine⟨⟨ml,.inr ⟨g,F,_,rfl,hB,bQ wr g nk,by omega,hpm, ?_, ?_⟩⟩,A.kept.trans (Kb.setRow wr g _),Et⟩
        ·simp[Aw,ch];omega
        ·rw[Et,<-ht,<-zu,<-Hg];simp only[adJ,aa8];rw[adi (by simp[Aw];omega),aez,aez];congr 1;omega
       clear A E u nk Aw Hg Z ch cz bC
       go_wp2_with fail
       go_ret;exact⟨by rw[uc.out.2.2];rfl,uc.out.1,uc.out.2.1⟩
   ·have Kc:D.take (k+1)=D:=aaP (by omega);have HE:Hid (Pd.mY D=D):=by
     have:=u.out;rw[Kc]at this;exact this
    go_wp2_with fail
    go_ret;rw[HE.out];exact⟨rfl,X,⟨rfl,rfl,rfl,OF _,λ_ _ _=>rfl⟩⟩
/- slices.Delete of one row. -/
theorem dF(g){T}:∀(i:List Value) (o:Nat) (e:Array Value) (w:World),w.heap[g]?=some (.cells e T (0,0))->o+i.length<=e.size->
 (w.setCells g o i).heap[g]?=some (.cells (e.toList.take o++i++e.toList.drop (o+i.length)).toArray T (0,0))/\Kb [g] w (w.setCells g o i)
 | [],o,e,w,h,j=>by
  refine⟨?_,Kb.refl _ _⟩;simpa [World.setCells]using h
 | v::i,o,e,w,h,j=>by
  have u:=aC w h o v;rw[abL]at j;obtain⟨t,q⟩:=dF g i (o+1) _ _ u (by simp;omega);refine⟨?_,(Kb.setCell w ⟨g,o,none⟩ v).trans q⟩;show((w.setCell ⟨g,o,none⟩ v).setCells g (o+1) i).heap[g]?=_;rw[t];have y:(e.setIfInBounds o v).toList.take (o+1)=e.toList.take o++[v]:=by
   rw[ac2,aaZ,List.take_set_of_le (OF _),List.getElem?_set_self (by simp;omega)];rfl
  have x:(e.setIfInBounds o v).toList.drop (o+1+i.length)=e.toList.drop (o+(i.length+1)):=by
   rw[ac2,List.drop_set_of_lt (by omega)];congr 1;omega
  rw[y,x];simp
def e3:List Value:=[.string ByteArray.empty,.string ByteArray.empty,.string ByteArray.empty]
theorem LQ:(Builtin.zeroCells (Value.agg #[.string ByteArray.empty,.string ByteArray.empty,.string ByteArray.empty]).cells 1).toList=e3:=by
 have e:(Value.agg #[.string ByteArray.empty,.string ByteArray.empty,.string ByteArray.empty]).cells=#[.string ByteArray.empty,.string ByteArray.empty,.string ByteArray.empty]:=rfl;rw[e];simp[Builtin.zeroCells];rfl
theorem Bb(w)(g rc i j n:Nat)(xs)(hj:j=i+1)(hjn:j<=n)(W:w.ownsRow 0 119 3 (.slice (some ⟨g,0,none⟩) n rc) n xs)(zQ:∀u∈xs,u.oneCell'=true)(hn:n<=1000000):
 Calls prog 197 #[.slice (some ⟨g,0,none⟩) n rc,.int .i64 i,.int .i64 j] w λe w'=>e=.returned (.slice (some ⟨g,0,none⟩) (i+(n-j)) rc)/\
  w'.ownsRow 0 119 3 (.slice (some ⟨g,0,none⟩) (i+(n-j)) rc) (i+(n-j)) (xs.take (i*3)++xs.drop (j*3))/\Kb [g] w w':=by
 have nP:xs.length=n*3:=W.1;obtain⟨q,H,hrc,V,Aw,Y⟩:∃q:Array Value,w.heap[g]?=some (.cells q 119 (0,0))/\n<=rc/\rc<=maxLen/\q.size=rc*3/\q.toList.take (n*3)=xs:=by
  rcases W.2 with⟨e,_⟩ | ⟨g',cap,q,e,_,B,q5,q4,F,q3⟩
  ·simp at e
  ·simp only[abi,AT,aco,aex,true_and]at e;obtain⟨rfl,rfl⟩:=e;exact⟨q,B,q5,q4,F,q3⟩
 obtain⟨i0,hi,cE,ch,cz⟩:=abF Tryz.De;obtain⟨news,J⟩:∃news,news=xs.drop (j*3):=⟨_,rfl⟩;have E:news.length=(n-j)*3:=by rw[J,acP];omega
 obtain⟨D,Z⟩:∃D,D=w.drew.setCells g (0+i*3) news:=⟨_,rfl⟩;obtain⟨A,hA,WG⟩:∃A:Addr,(if rc=j then some (⟨g,0,none⟩:Addr)else some ⟨g,j*3,none⟩)=some A/\Hid (∀t u,news[t]?=some u->w.drew.cell? (A.add t)=some u):=by
  by_cases h:rc=j
  ·refine⟨⟨g,0,none⟩,by simp[h],λt u x=>?_⟩;have h0:news.length=0:=by rw[E];omega
   rw[List.length_eq_zero_iff.1 h0]at x;simp at x
  ·refine⟨⟨g,j*3,none⟩,by simp[h],λt u x=>?_⟩;have aL:=(abt.1 x).1;rw[J,<-Y,aeu,adN]at x;split at x
   ·rw[Addr.add_lit];show w.cell? ⟨g,j*3+t,none⟩=some u;rw[aaB _ _ _ _ _ _ H];simpa using x
   ·simp at x
 have s1:=aj E;have s2:Hid (∀u∈news,u.oneCell'=true):=λu x=>zQ u (by rw[J]at x;exact acY x);have s3:Hid (∀t,t<news.length->(w.drew.cell? ⟨g,0+i*3+t,none⟩).isSome=true/\w.drew.frozen? ⟨g,0+i*3+t,none⟩=false):=by
  intro t ht;refine⟨?_, ?_⟩
  ·show(w.cell? ⟨g,0+i*3+t,none⟩).isSome=true;rw[aaB _ _ _ _ _ _ H,acR (by omega)];rfl
  ·show w.frozen? ⟨g,0+i*3+t,none⟩=false;simp[World.frozen?,H]
 have HI:=aj hi;have HZ:=aj ch;have hW:=aj Z;obtain⟨B,F⟩:=dF g news (0+i*3) q w.drew H (by omega);rw[<-Z]at B F;obtain⟨y,N⟩:∃c:Array Value,c=(q.toList.take (0+i*3)++news++q.toList.drop (0+i*3+news.length)).toArray:=⟨_,rfl⟩;rw[<-N]at B;have O:y.size=rc*3:=by rw[N];simp;omega
 have I:(Builtin.zeroCells (Value.agg #[.string ByteArray.empty,.string ByteArray.empty,.string ByteArray.empty]).cells (n-(i+(n-j)))).toList=e3:=by
  rw[show n-(i+(n-j))=1 by omega];exact LQ
 obtain⟨M,X⟩:∃M,M=D.setRow g (y.toList.take ((i+(n-j))*3)++e3++y.toList.drop ((i+(n-j))*3+e3.length)).toArray:=⟨_,rfl⟩;have agq:∀U,(Builtin.clear_ #[113] U #[.slice (some ⟨g,(i+(n-j))*3,none⟩) (n-(i+(n-j))) (rc-(i+(n-j)))]).run prog D=.ok (.tuple #[]) M:=λU=>by
  rw[X];exact pC prog D 113 U 119 g ((i+(n-j))*3) (n-(i+(n-j))) (rc-(i+(n-j))) y 119 _ Tryz.underlying113 Tryz.zeroValue119 I B (by simp[e3];omega) (by intro v hv;simp[e3]at hv;rw[hv];rfl)
 have uc:Hid (M.ownsRow 0 119 3 (.slice (some ⟨g,0,none⟩) (i+(n-j)) rc) (i+(n-j)) (xs.take (i*3)++news)/\Kb [g] w M):=by
  rw[X];refine⟨⟨by simp[E,nP];omega,.inr ⟨g,rc,_,rfl,IS _,bQ D g B,by omega,V,by simp[O,e3];omega, ?_⟩⟩,((Kb.refl [g] w).drew.trans F).trans (Kb.setRow D g _)⟩;simp only[adJ,aa8];rw[adi (by simp[O];omega),aez,Nat.min_self,N];simp only[adJ,aa8];rw[<-Y,<-aa8,adi (by simp[E,Aw];omega),aaP (by simp[E,Aw];omega),aez,acm];congr 2;omega
 rw[<-J];have hWg:g<D.heap.size:=lt_of_heap B;have RP:i<j:=by omega
 have cB:((i:Int)==(j:Int))=false:=ab1.2 (by omega);have HJ:=aj hj;have hic:i<=rc:=by omega
 have hjc:j<=rc:=by omega
 clear W B F N O Z X I J E Y Aw hi cE ch cz nP zQ H hj
 go_enter func197,ntmps197
 go_wp2_with fail
 go_region_law (refine step_append_room rfl (.tmp 22) (.tmp 25) 113 rfl 119 i0 3 Tryz.underlying113 HI.out HZ.out g 0 i rc (by simp[Act.eval,Act.put]) A (n-j) (rc-j) news (by simp[Act.eval,Act.put]) s1.out WG.out s2.out (by omega) s3.out ?_;rw[<-hW.out])
 go_wp2_with fail
 go_ret;exact⟨rfl,uc.out⟩
/- facts.Given.Leave. -/
open Go.Sort (grow)
theorem Lh{L r}(h:Tb.eZ L r=true)(i:Tb.Ord L):Tb.pos L r<L.length/\(Tb.leave L r).length=Tb.pos L r+(L.length-(Tb.pos L r+1))/\Tb.leave L r=L.take (Tb.pos L r)++L.drop (Tb.pos L r+1):=by
 have j:Tb.pos L r<L.length:=(abt.1 ((Tb.gG i _).2 (Tb.bt.1 h))).1;have e:Tb.leave L r=L.take (Tb.pos L r)++L.drop (Tb.pos L r+1):=by unfold Tb.leave;rw[h];rfl
 refine⟨j, ?_,e⟩;rw[e];simp;omega
theorem Mx(w g nm pl rd rc L){a b c}(h:cW w g 125 nm pl rd rc L [])(hL:L.length<=999999):
 Calls prog 128 #[.pointer (some ⟨g,0,none⟩),.agg #[.string a,.string b,.string c]] w λe w'=>
  e=.returned (.tuple #[])/\cW w' g 125 nm pl rd rc (Tb.leave L [a,b,c]) []/\Kb (g::(Value.ownBlock (.slice rd L.length rc)).toList) w w':=by
 obtain⟨w0,D⟩:∃w0,w0=w.alloc (.cells #[.string a,.string b,.string c] 119):=⟨_,rfl⟩;have O:Below w.heap.size w w0:=by rw[D];exact aM
 have F:w0.heap[w.heap.size]?=some (.cells #[.string a,.string b,.string c] 119 (0,0)):=by rw[D];exact By w _
 have t0:=mA F;have t1:=ow F;have t2:=rq F;have N:=h.below O;have y:Hid (∀W,Below w0.heap.size w0 W->Calls prog 75 #[.pointer (some ⟨g,0,none⟩),.agg #[.string a,.string b,.string c]] W λe w'=>e=.returned (.tuple #[.int .i64 (Tb.pos L [a,b,c]:Nat),.bool (Tb.eZ L [a,b,c])])/\Hid (Below w.heap.size w w')/\w'.cell? ⟨g,2,none⟩=some (.slice rd L.length rc)/\g<w'.heap.size):=by
  intro W H;have B:=N.below H;refine(ta W g rd rc L a b c B.rows B.ord B.jG.1).mono ?_;rintro e w' ⟨rfl,hb⟩;have Z:Below w.heap.size w W:=O.trans (H.mono O.size);have M:Below w.heap.size w w':=Z.trans (hb.mono Z.size);exact⟨rfl,M,(h.below M).jG.1,lt_of_heap (h.below M).aY⟩
 have jy:=lt_of_heap h.aY;have HT:=aj h;cases E:Tb.eZ L [a,b,c]with
 | false=>
  rw[E]at y;have Mb:Tb.leave L [a,b,c]=L:=by unfold Tb.leave;rw[E];rfl
  rw[Mb];generalize Tb.pos L [a,b,c]=ps at y;clear h N F E Mb
  go_enter func128,ntmps128
  go_wp2_with fail
  rw[<-D];clear D
  go_region_with (go_at_call 75;refine(y.out _ (by exact(aaj _ _).drew)).mono ?_;rintro e w1 ⟨rfl,J,Er,eQ⟩)
  all_goals
   go_wp2_with fail
   go_end0;exact⟨rfl,HT.out.below J.out,Kb.bD J.out _⟩
 | true=>
  rw[E]at y;obtain⟨U,Y,t⟩:=Lh E h.ord;obtain⟨i,rfl⟩:∃i,rd=some ⟨i,0,none⟩:=by
   obtain⟨i,_,_,_,e,_⟩:=h.rows.at U;exact⟨i,e⟩
  have u:Hid (∀W,Below w.heap.size w W->Calls prog 197 #[.slice (some ⟨i,0,none⟩) L.length rc,.int .i64 (Tb.pos L [a,b,c]:Nat),.int .i64 ((Tb.pos L [a,b,c]:Nat)+1)] W λe j=>e=.returned (.slice (some ⟨i,0,none⟩) (Tb.leave L [a,b,c]).length rc)/\
   Hid (cW (j.setCell ⟨g,2,none⟩ (.slice (some ⟨i,0,none⟩) (Tb.leave L [a,b,c]).length rc)) g 125 nm pl (some ⟨i,0,none⟩) rc (Tb.leave L [a,b,c]) []/\Kb (g::(Value.ownBlock (.slice (some ⟨i,0,none⟩) L.length rc)).toList) w (j.setCell ⟨g,2,none⟩ (.slice (some ⟨i,0,none⟩) (Tb.leave L [a,b,c]).length rc)))/\j.cell? ⟨g,2,none⟩=some (.slice (some ⟨i,0,none⟩) L.length rc)/\j.frozen? ⟨g,2,none⟩=false/\g<j.heap.size):=by
   intro W H;have B:=h.below H;refine(Bb W i rc (Tb.pos L [a,b,c]) (Tb.pos L [a,b,c]+1) L.length (aT L) rfl U B.rows.own (np L) (by omega)).mono ?_;rintro e j ⟨rfl,X,V⟩;have qQ:g≠i:=by
    have:=h.apart;simpa [Value.ownBlock]using this
   have I:j.heap[g]?=_:=V.heap B.aY (by simpa using qQ);rw[<-Y]at X ⊢;have hk:Kb (g::(Value.ownBlock (.slice (some ⟨i,0,none⟩) L.length rc)).toList) w j:=(Kb.bD H _).trans (V.mono (λx q _=>by simp at q;simp[Value.ownBlock,q]));refine⟨rfl,⟨⟨?_,⟨?_, ?_⟩,Tb.Bo h.ord _,h.type⟩,hk.trans ((Kb.setCell j ⟨g,2,none⟩ _).mono (λx q _=>by simp at q;simp[q]))⟩, ?_, ?_,lt_of_heap I⟩
   ·rw[aC _ I];simp[Array.setIfInBounds]
   ·intro r A;rw[t]at A;rcases ZD.1 A with A | A
    ·exact h.rows.three r (ab4 A)
    ·exact h.rows.three r (acY A)
   ·have e1:aT (Tb.leave L [a,b,c])=(aT L).take (Tb.pos L [a,b,c]*3)++(aT L).drop ((Tb.pos L [a,b,c]+1)*3):=by
     rw[t,sD,mw _ h.rows.three,jw _ h.rows.three]
    rw[e1];exact(Kb.setCell j ⟨g,2,none⟩ _).row X (λx q=>by simp[Value.ownBlock]at q;simp;omega)
   ·rw[aaB _ _ 2 _ _ _ I];simp
   ·simp[World.frozen?,I]
  generalize Tb.leave L [a,b,c]=L' at u ⊢;have Bs:Tb.pos L [a,b,c]<1000000:=by omega
  generalize Tb.pos L [a,b,c]=ps at y u Bs;clear h N F E t Y U
  go_enter func128,ntmps128
  go_wp2_with fail
  rw[<-D];clear D
  go_region_with (go_at_call 75;refine(y.out _ (by exact(aaj _ _).drew)).mono ?_;rintro e w1 ⟨rfl,J,Er,eQ⟩)
  all_goals
   go_wp2_with (go_at_call 197;refine(u.out _ J.out).mono ?_;rintro e j ⟨rfl,HF,tF,hf3,Cx⟩)
   go_end0;exact⟨rfl,HF.out.1,HF.out.2⟩
